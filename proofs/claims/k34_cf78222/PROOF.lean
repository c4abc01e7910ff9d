import PyProof.Rows.All
import KE.KNest
import Wide.All
import OpenK.AllK
import Wide.FinOn
import Lean
import PyProof.EqAt
import PyProof.EqKinds
import PyProof.TupleCall
import PySem.Challenge.RW_dimhouse_k34_whole_spoilt_by_a_way
open Array renaming length_toList→qe1,getElem?_eq_getElem→qg1,getElem?_toList→qm3,getElem?_eq_none→qp0,toArray_toList→qv1,toList_append→qw8,toList_push→za4
open Bool renaming and_eq_true→qb1,false_ne_true→qb6,false_eq_true→qf0,eq_iff_iff→qh2,not_eq_true'→qj3,or_eq_true→qj7,true_and→qm4,or_false→qs2,and_true→qs4,and_false→qt7,and_eq_false_imp→qu1,and_eq_true_iff→qv0,or_eq_false_iff→qv2,false_or→zb2,and_self→zb3,true_or→ze0,false_and→zf6,not_false→zg0,not_true→zh4,or_true→zi6
open False renaming elim→qg0
open ForInStep renaming yield→qp4
open Int renaming toNat_natCast→qd9,emod_lt_of_pos→qk3,emod_nonneg→qn9,reduceLT→zi4,reduceEq→zi5
open Lean renaming maxHeartbeats→qp7,maxRecDepth→qr3
open List renaming length_map→qa1,map_cons→qa5,getD_eq_getElem?_getD→qa9,size_toArray→qb2,mem_cons→qb3,getElem?_map→qb4,length_append→qb5,mem_singleton→qb7,range→qb8,replicate→qc3,getElem?_append_left→qc4,mem_append_right→qc5,map_append→qc6,mem_of_getElem?→qc7,mem_map→qc9,map_map→qd0,mem_range→qd1,mem_cons_of_mem→qd3,getElem?_append_right→qd4,mem_cons_self→qe5,nodup_append→qe8,mem_append→qf8,lookup_cons→qf9,mem_append_left→qg2,length_singleton→qg6,length_filter_le→qg8,getElem?_eq_none_iff→qh3,append_nil→qi0,nodup_cons→qi1,foldl_cons→qi2,getElem?_cons_succ→qi3,length_cons→qi5,all_eq_true→qi6,getElem_mem→qi7,nodup_iff_pairwise_ne→qi8,replicate_succ→qj0,append_assoc→qj1,mem_map_of_mem→qj4,nil_append→qj8,pairwise_cons→qk2,getElem?_replicate→qk6,any_cons→qk7,mem_filter→ql2,cons_append→ql8,not_mem_nil→ql9,length_replicate→qm2,flatten_cons→qn3,pairwise_map→qn6,all_cons→qo3,getElem?_cons_zero→qo5,getElem?_set_self→qo9,find?_cons→qp3,reverse_cons→qq3,getElem?_zip_eq_some→qq8,isEmpty_nil→qr2,filterMap_cons→qr4,getElem?_eq_getElem→qr5,map_nil→qs0,set_cons_succ→qs5,range_succ_eq_map→qt0,length_range→qt4,nodup_nil→qt8,ext_getElem→qu5,eq_nil_of_length_eq_zero→qu6,getElem?_of_mem→qu9,of_mem_zip→qw5,range_succ→qx4,getElem_of_mem→qx5,length_eraseIdx_of_lt→qx9,mem_filterMap→qy2,set_cons_zero→qy6,mem_of_find?_eq_some→qy9,pairwise_iff_getElem→qz0,mapIdx_eq_zipIdx_map→qz2,getElem?_take_of_lt→qz5,take_sublist→qz6,ext_getElem?→za5,length→za9,length_eq_zero_iff→zb9,filter_cons_of_pos→zc1,length_take→zc2,pairwise_lt_range→zc6,find?_cons_of_neg→zc8,filter_eq_nil_iff→zc9,length_nil→ze1,getElem?_eq_none→ze8,dropLast_eq_take→ze9,foldl→zh6,all_nil→zi3,Perm→zj4
open List.Pairwise renaming imp→qt5,nil→qz7
open List.Perm renaming refl→qz1
open Nat renaming ne_of_lt→qb9,le_trans→qc1,lt_of_lt_of_le→qc2,lt_succ_of_lt→qh8,zero_le→qj2,le_of_lt→qj6,ne_of_gt→qm1,lt_irrefl→qo2,lt_succ_self→qo6,le_refl→qt1,not_lt→qv9,mod_lt→qw1,le_succ→qx0,lt_trans→qy4
open Ne renaming symm→qq4
open Option renaming bind_some→qa3,map_some→ql1,bind_eq_some_iff→qo1,isSome_map→qq0,join_some→qr0,isSome_iff_exists→qr8,map_eq_some_iff→qs9,bind_eq_bind→qx3
open Option.some renaming inj→qd6,injEq→qp8
open PyProof.Rows renaming slot_tuple_getitem→qf3,callWith_type1→qg5,envOfC→qz4,subscriptTail_builtinR→zc3,AllBare→zd1,subscriptTail→zg9
open PyProof.Rows.F renaming plain_set_update_loop→qs7,entry_set_update_loop→zb8
open PyProof.Rows.IsTup renaming new→zj3
open PySem renaming wpAny_pure→qa2,Shared→qa4,starEach→qa6,sizeLine→qb0,mainGlobals→qc0,Program→qc8,wpAny_newObj_type→qd2,Around→qd5,bootBuiltins→qe2,wpAny_callSpecial?_slot→qe3,wpAny_call_entry→qe7,wpAny_setState_of→qe9,rawInt→qf2,SetTable→qf6,cellsFrom→qg3,compareOp→qg4,wpAny_bind→qg9,wpAny_holding→qh4,Builtin→qh5,foldedSetIterable→qh6,assignEach→qi4,Arguments→qi9,wpAny_setField→qj5,backTo→qk0,binaryOp→qk1,wpAny_typeNameOfWhole_keyiter→qk4,behindInMarks→qk5,sysModules→qk8,wpAny_mono→qk9,wpAny_truthy_bool→ql0,wpAny_ite_split→ql4,swapsWith→qm0,builtinLookup_eq_fast→qm5,firstArgMember→qm8,wpAny_passesOwn→qn1,wpAny_ite_false→qn4,wpAny_typeNameOf_keyiter→qn5,scanBound→qn7,attributeBase→qo4,wpAny_askSetting→qo7,wpAny_Call_Name_kw→qp1,NameKind→qp2,codeAny_builtin→qp5,FuncData→qp9,codeAny→qq5,codeAmong→qq6,wpAny_fieldsOf→qq9,wpAny_isInstance→qr1,codeAny_mono→qr7,tupleKind_room_in1→qs3,wpAny_attempt→qs6,typeLookup_type→qs8,wpAny_field→qt2,sliceBounds→qt3,fits_of_scanBound→qt6,wpAny_seqItems→qt9,wpAny_typeOf→qu0,Keyword→qu3,noFill_tuple_add→qu4,plainId_quiet→qv5,builtinsNs→qv7,call_meets→qv8,wpAny_rule→qw0,wpAny_execs_nil→qw2,letOwnedTupleGo→qw3,sizeLine_eq→qw4,keywordEach→qw6,wpAny_specialOf→qw7,pyNext→qy0,wpAny_pyIter_tuple→qy1,concat_meets→qy3,wpAny_binaryOp_repeat_ref→qy8,wpAny_pyIter_list→qz3,wpAny_comprehension_free→qz8,wpAny_pyIter_slot→za1,wpAny_dictEntries→za2,wpAny_standAt→za7,BindsTo→za8,seq_tuple_add→zb0,getItem→zb1,wpAny_of_eq→zb4,wpAny_handled→zb5,setField→zb6,relayAll→zb7,setNext→zc0,codeAny_compStart_list→zc5,TriplesOk→zd0,storeName→zd2,wpAny_storeName_local→zd3,wpAny_isTrue_Compare1→zd4,assign→zd5,holding→zd6,InCallC→zd7,codeAny_call_function→zd8,wpAny_dictEpoch→ze4,wpAny_isOneOf_keyiter→ze5,pickOrder→ze6,wpAny_updateSeq→ze7,typeLookup→zf0,typeIs_int→zf1,closureFor→zf2,compPost→zf3,setEntries→zf4,IsPart→zf7,isSubtype_stop→zf8,isSubtype_type→zf9,subscripted→zg1,wpAny_throw→zg3,tupleKind→zg5,swapsWithSole→zg6,swappedStores→zg7,bindArgs→zg8,backToKw→zh0,newExc→zh1,raiseNew→zh2,wpAny_call→zh5,valueAt→zh7,callerA→zh8,setsByText→zh9,name_of_addr→zi1,newTuple→zi7,treeTable→zi8,PassesOwn→zj1,pyIter→zj2
open PySem.Around renaming under_plainId→qn0
open PySem.AutoSeq1 renaming wpAny_loadPart'→qs1
open PySem.Builtin.Dict renaming showsAll→ze3
open PySem.Builtin.Dict_items renaming ownsTuple→qv4
open PySem.Builtin.List renaming listExtendWith→qg7,listLengthHint→ql3,listSameRef→qn8,listTooLong→qr9,listItems→zc7
open PySem.Builtin.Range renaming rangeFitsLong→qx2
open PySem.Builtin.Slice renaming slicePlaces→qm6,sliceAdjust→qq7,sliceApplied→qx7
open PySem.Builtin.SmallTypes renaming nextOf→qm7
open PySem.Builtin.Str renaming occurrences→qh0
open PySem.Builtin.Tuple renaming tupleExact→qn2,tupleItemsOf→qx8
open PySem.Calls renaming Name_function_global→qx6,callWith_builtin→zc4
open PySem.F renaming slot_dict_keyiterator_next→qh9,slot_tuple_iterator_next→ql7,called_set→qp6,args_dict_keyiterator_next_1→qu2,slot_tuple_mul→qu7,entry_dict_keyiterator_next→qu8,args_tuple_iterator_next_1→qv3,entry_tuple_iterator_next→qw9,slot_int_rmul→qx1
open PySem.Heap renaming lt_size→qa7,get?_push_size→qa8,get?_update_self→qe4,size_push→qf4,get?_push_of_some→ql5,get?_update_other→ql6,SameBut→qo0,ExtBut→zg2
open PySem.Heap.SameBut renaming update→qe6
open PySem.NameKind renaming free→qd8
open PySem.Obj renaming data_mapFields→qe0,isFreed_of_fields→qh7,mapSeq→qo8,cls_mapFields→qq1,mapFields→qq2
open PySem.PassesOwn renaming never→qd7
open PySem.SeqAt renaming EqAt→qf7,RcAt→qz9,RcNeAt→ze2
open PySem.SeqAt.EqAt renaming of_refs→qy5,same→zd9
open PySem.SeqAt.RcAt renaming lists_lengths→za0
open PySem.SetTable renaming below→qf5,grown→qm9,insertAt→za3
open PySem.Shared renaming TypeIs→zh3
open PySem.Str renaming ofString→qa0
open PySem.Value renaming ref→qf1,none→qh1,type→qj9,bool→qv6,isStrOf→zg4,int→zi9,str→zj0
open PySem.W.OpenRow renaming toRowW→zf5
open PySem.W.RowW renaming records→zi0
open PySem.pickOrder renaming go→zi2
open Sum renaming inl→qy7,inr→za6
open True renaming intro→qr6
set_option Elab.async false
set_option linter.all false
namespace P34
open PySem PySem.W PyProof.Rows
section
local macro_rules | `(tactic| o_head $_) => `(tactic| exact (by assumption : ∀ p : Prop, p) _)
set_option maxRecDepth 100000 in
set_option maxHeartbeats 0 in
theorem pre (q:∀ p:Prop,p):PySem.Challenge.rw_dimhouse_k34_whole_spoilt_by_a_way.row.Holds:=by k_head
end
def seen:qc8:={PySem.Challenge.pw_dimhouse_k34_whole_spoilt_by_a_way with main:={PySem.Challenge.pw_dimhouse_k34_whole_spoilt_by_a_way.main with body:=[1,2,3,4,6,7,8,9,10,11,12,13,14,16,17,18,19,20,21,22,23,24,25,26,27,28,29,30,31,32,33].filterMap fun i=>PySem.Challenge.pw_dimhouse_k34_whole_spoilt_by_a_way.main.body[i]?}}
noncomputable abbrev hook:Hook:=kmHook P34.pre.heap_1 [2,3,15,17,18,20,21,22,25,26,27,29,30,32,33,34,36,37,39,40,41,44,45,46,49,50,51,54,55,56,58,59,61,62,63,66,67,68,70,71,73,74,75,77,78,80,81,82,84,85,87,88,89,91,92,94,95,96,99,100,101,103,104,106,107,108,110,111,113,114,115,118,119,120,123,124,125,127,128,130,131,132,135,136,137,139,140,142,143,144,146,147,149,150,151,154,155,156,159,160,161,164,165,166,169,170,171,173,174,176,177] (fun _=>by kernel_rfl) [64]
theorem map_two {α β γ:Type} {x:Option α} {f:α→β} {g:α→γ} {a:β} {b:γ} (h:x.map f=some a) (h':x.map g=some b):x.map (fun s=>(f s,g s))=some (a,b):=by
  cases x with
  | none=>cases h
  | some s=>simp only [ql1,qp8] at h h' ⊢;rw [h,h']
set_option maxRecDepth 100000 in
set_option maxHeartbeats 0 in
theorem run_false (w:World):(fencedOpening zi8 PySem.Challenge.rw_dimhouse_k34_whole_spoilt_by_a_way.row.prog w 1868).map (fun s₀=>(topFrom zi8 PySem.Challenge.rw_dimhouse_k34_whole_spoilt_by_a_way.row.prog (w.withFollow "special-get-raises" false) 1868 s₀).map (fun s=>(openSeen seen [] (importedModules PySem.Challenge.rw_dimhouse_k34_whole_spoilt_by_a_way.row.prog.main.body) (fun s=>xlAt seen [] s&&recOk (zi0 (zf5 PySem.Challenge.rw_dimhouse_k34_whole_spoilt_by_a_way.row)) s) true s,Hook.obs hook s)))=some (some (openGood seen [],Hook.val hook (w.withFollow "special-get-raises" false))):=by kernel_rfl
set_option maxRecDepth 100000 in
set_option maxHeartbeats 0 in
theorem run_true (w:World):(fencedOpening zi8 PySem.Challenge.rw_dimhouse_k34_whole_spoilt_by_a_way.row.prog w 1868).map (fun s₀=>(topFrom zi8 PySem.Challenge.rw_dimhouse_k34_whole_spoilt_by_a_way.row.prog (w.withFollow "special-get-raises" true) 1868 s₀).map (fun s=>(openSeen seen [] (importedModules PySem.Challenge.rw_dimhouse_k34_whole_spoilt_by_a_way.row.prog.main.body) (fun s=>xlAt seen [] s&&recOk (zi0 (zf5 PySem.Challenge.rw_dimhouse_k34_whole_spoilt_by_a_way.row)) s) true s,Hook.obs hook s)))=some (some (openGood seen [],Hook.val hook (w.withFollow "special-get-raises" true))):=by kernel_rfl
end P34
set_option maxRecDepth 100000
set_option maxHeartbeats 4000000
set_option compiler.extract_closed false
open PySem.W renaming Frag→xA9,nsIn→xB9,fnOf→xC9,kia_one→xD9,mg_none_of→xE9,keepIn→xF9,fnX→xG9,codeIn→xH9,mg_of→xI9,tabObj→xJ9,kitOne→xK9,kitx_dict→xL9,CodeHd→xM9,codeHdIn→xN9,instObj→xO9,methodObj→xP9,kitx_list→xQ9,cellsFrom_some→xR9
noncomputable section
theorem bS {α β:Type _} {o:Option α} {f:α->Option β} {b:β} (h:o.bind f=some b):∃ a,o=some a/\f a=some b:=qo1.mp h
theorem mS {α β:Type _} {o:Option α} {f:α->β} {b:β} (h:o.map f=some b):∃ a,o=some a/\f a=b:=qs9.mp h
theorem gX {α:Type _} {l:List α} {i:Nat} {a:α} (h:l[i]?=some a):∃ z:i<l.length,l[i]=a:=List.getElem?_eq_some_iff.mp h
open PySem PySem.Spec PyProof.Rows in abbrev gN := @List.getElem?_set_ne
open PySem PySem.Spec PyProof.Rows in abbrev gP := @Heap.get?_push_of_some
open PySem PySem.Spec PyProof.Rows in abbrev wB := @wpAny_bind
open PySem PySem.Spec PyProof.Rows in abbrev gR := @List.getElem?_append_right
open PySem PySem.Spec PyProof.Rows in abbrev gQ := @List.getElem?_eq_getElem
open PySem PySem.Spec PyProof.Rows in abbrev nL := @Nat.le_refl
set_option maxRecDepth 100000
namespace L2
open PySem PySem.Spec PyProof.Rows
abbrev Key:=Sum Int Str
def ja:Key->Value->Bool
 | .inl k,v=>Value.isInt k v
 | .inr x,v=>zg4 x v
def keyH (w:World):Key->Int
 | .inl k=>hashInt k
 | .inr x=>hashStr w x
theorem bw:∀ {k:Key} {v:Value},ja k v=true->(∃ i t,k=qy7 i/\v=zi9 i t)∨(∃ x t,k=za6 x/\v=zj0 x t)
 | .inl i,v,h=>by obtain ⟨t,e⟩:=Value.isInt_shape (k:=i) (v:=v) h;exact .inl ⟨i,t,rfl,e⟩
 | .inr x,v,h=>by obtain ⟨t,e⟩:=Value.isStrOf_shape (x:=x) (v:=v) h;exact .inr ⟨x,t,rfl,e⟩
theorem qN (i:Int) (t:Tok):ja (.inl i) (.int i t)=true:=by simp [ja,Value.isInt]
theorem qO (x:Str) (t:Tok):ja (.inr x) (.str x t)=true:=by simp [ja,zg4]
theorem yB (a b:Int):decide ((qy7 a:Key)=qy7 b)=(a==b):=by
 by_cases e:a=b
 . subst e;simp
 . have h:¬ (qy7 a:Key)=qy7 b:=fun q=>e (qy7.inj q)
   rw [decide_eq_false h];exact (beq_eq_false_iff_ne.mpr e).symm
theorem yC (a b:Str):decide ((za6 a:Key)=za6 b)=decide (a=b):=by
 by_cases e:a=b
 . subst e;simp
 . have h:¬ (za6 a:Key)=za6 b:=fun q=>e (za6.inj q)
   rw [decide_eq_false h,decide_eq_false e]
theorem yD (a:Int) (b:Str):decide ((qy7 a:Key)=za6 b)=false:=decide_eq_false (fun q=>nomatch q)
theorem yE (a:Str) (b:Int):decide ((za6 a:Key)=qy7 b)=false:=decide_eq_false (fun q=>nomatch q)
noncomputable def bM (prog:qc8) (w:World):PySem.KeyKind prog w Key where
 is:=ja
 hash:=keyH w
 inj:=fun v a b W U=>by
  rcases bw W with ⟨i,t,rfl,rfl⟩ | ⟨x,t,rfl,rfl⟩
  . rcases bw U with ⟨j,u,rfl,e⟩ | ⟨y,u,rfl,e⟩
    . injection e with q _;rw [q]
    . exact nomatch e
  . rcases bw U with ⟨j,u,rfl,e⟩ | ⟨y,u,rfl,e⟩
    . exact nomatch e
    . injection e with q _;rw [q]
 byValue:=fun k v h=>by rcases bw h with ⟨i,t,rfl,rfl⟩ | ⟨x,t,rfl,rfl⟩<;>rfl
 pyHash:=fun O h=>by
  rcases bw O with ⟨i,t,rfl,rfl⟩ | ⟨x,t,rfl,rfl⟩
  . exact wpAny_pyHash_int h
  . exact wpAny_pyHash_str h
 eqBool:=fun Y O h=>by
  rcases bw Y with ⟨i,t,rfl,rfl⟩ | ⟨x,t,rfl,rfl⟩
  . rcases bw O with ⟨j,u,rfl,rfl⟩ | ⟨y,u,rfl,rfl⟩
    . rw [yB] at h;exact wpAny_eqBool_int h
    . rw [yD] at h;exact qf7.int_str i t y u _ _ _ _ h
  . rcases bw O with ⟨j,u,rfl,rfl⟩ | ⟨y,u,rfl,rfl⟩
    . rw [yE] at h;exact qf7.str_int x t j u _ _ _ _ h
    . rw [yC] at h;exact wpAny_eqBool_str h
 «strs»:=fun k x t v h=>by
  rcases bw h with ⟨i,u,rfl,e⟩ | ⟨y,u,rfl,e⟩
  . exact nomatch e
  . injection e with q _;subst q;cases v<;>rfl
theorem mo (prog:qc8) (w:World) (i:Int) (t:Tok):(bM prog w).is (.inl i) (.int i t)=true:=qN i t
theorem mq (prog:qc8) (w:World) (x:Str) (t:Tok):(bM prog w).is (.inr x) (.str x t)=true:=qO x t
inductive V where
 | non | bl (b:Bool) | int (i:Int) | str (x:Str) | byt (b:Array UInt8) | flt (b:UInt64) | ref (a:Addr) | ty (n:String)
 deriving DecidableEq
noncomputable def RelV:V->Value->Prop
 | .non,u=>u=qh1
 | .bl b,u=>u=qv6 b
 | .int i,u=>∃ t,u=zi9 i t
 | .str x,u=>∃ t,u=zj0 x t
 | .byt b,u=>∃ t,u=Value.bytes b t
 | .flt b,u=>∃ t,u=Value.float b t
 | .ref a,u=>u=qf1 a
 | .ty n,u=>u=qj9 n
abbrev Vals:List V->List Value->Prop:=Paired RelV
variable {xs:List V} {us:List Value}
theorem Vals.length (r:Vals xs us):xs.length=us.length:=Paired.length r
theorem Vals.get:∀ {xs:List V} {us:List Value} {i:Nat} {x:V},Vals xs us->xs[i]?=some x->∃ u,us[i]?=some u/\RelV x u
 | _,_,_,_,.nil,e=>by simp at e
 | _,_,0,_,.cons r _,e=>by simp at e;subst e;exact ⟨_,rfl,r⟩
 | _,_,i+1,x,.cons _ t,e=>by obtain ⟨u,h1,h2⟩:=Vals.get (i:=i) (x:=x) t (by simpa using e);exact ⟨u,by simpa using h1,h2⟩
variable {u:Value}
theorem Vals.set {x:V} (r:RelV x u):∀ {xs:List V} {us:List Value} (i:Nat),Vals xs us->Vals (xs.set i x) (us.set i u)
 | _,_,_,.nil=>.nil
 | _,_,0,.cons _ t=>.cons r t
 | _,_,i+1,.cons q t=>.cons q (Vals.set r i t)
theorem Vals.append:∀ {xs ys:List V} {us q:List Value},Vals xs us->Vals ys q->Vals (xs++ys) (us++q)
 | _,_,_,_,.nil,s=>s
 | _,_,_,_,.cons r t,s=>.cons r (Vals.append t s)
theorem Vals.take:∀ {xs:List V} {us:List Value} (n:Nat),Vals xs us->Vals (xs.take n) (us.take n)
 | _,_,0,_=>.nil
 | _,_,_+1,.nil=>.nil
 | _,_,n+1,.cons r t=>.cons r (Vals.take n t)
theorem Vals.drop:∀ {xs:List V} {us:List Value} (n:Nat),Vals xs us->Vals (xs.drop n) (us.drop n)
 | _,_,0,r=>r
 | _,_,_+1,.nil=>.nil
 | _,_,n+1,.cons _ t=>Vals.drop n t
def RelO:Option V->Option Value->Prop
 | some v,some u=>RelV v u
 | none,none=>True
 | _,_=>False
def KV {κ:Type}:List (κ×V)->List (κ×Value)->Prop:=Paired fun (p:κ×V) (q:κ×Value)=>p.1=q.1/\RelV p.2 q.2
def kV:Key->V
 | .inl i=>.int i
 | .inr x=>.str x
inductive HO where
 | lst (xs:List V)
 | tup (xs:List V)
 | dK (kvs:List (Key×V)) | dT (kvs:List (List Key×V))
 | set (S:Int->Bool) (n:Nat)
 | ins (C dx:Addr) (fs:List (Str×V))
 | own (x:Addr)
 | xd (fs:List (Str×V))
 | met (f x:Addr)
 | rng (lo hi:Int)
 | frz (o:Obj) (u:HO)
 | tbl (ps:Array Value)
 | code (q:Str)
 | ctab (qs:List ((Nat×Nat)×Str))
 | ext (φ:Heap->Prop)
abbrev Hp:=Addr->Option HO
def upd (H:Hp) (a:Addr) (o:HO):Hp:=fun b=>if b=a then some o else H b
variable {H:Hp} {a:Addr} {o:HO}
theorem aQ:upd H a o a=some o:=by unfold upd;rw [if_pos rfl]
variable {b:Addr}
theorem aH (h:b≠a):upd H a o b=H b:=by unfold upd;rw [if_neg h]
theorem Bj {u:HO} (h:H a=some o) (h':H b=some u) (d:o≠u):a≠b:=by intro e;subst e;rw [h] at h';exact d (qd6 h')
theorem bC (h:H a=some o) (h':H b=none):a≠b:=by intro e;subst e;rw [h] at h';cases h'
section
variable (P:qc8) (w:World)
noncomputable def ObjOk (H:Hp) (h:Heap) (a:Addr):HO->Prop
 | .lst xs=>xs.length<=qb0/\∃ (its:List Value) (n:Nat),Vals xs its/\h.get? a=some {cls:=.type "list",data:=.seq its.toArray n}
 | .tup xs=>xs.length<=qb0/\∃ its:List Value,Vals xs its/\IsTup h a its.toArray
 | .dK kvs=>kvs.length<=qb0/\(a==qk8)=false/\∃ vs,KV kvs vs/\h.DictOf (bM P w) a vs
 | .dT kvs=>kvs.length<=qb0/\(a==qk8)=false/\∃ xs:List (List Key×Addr×Value),
     Paired (fun (p:List Key×V) (q:List Key×Addr×Value)=>p.1=q.1/\H q.2.1=some (.tup (p.1.map kV))/\RelV p.2 q.2.2) kvs xs∧
     ∃ o es ep,h.get? a=some o/\o.ExactDict/\o.data=.dict es ep/\es.toList=xs.map (entryOfKey (zg5 (bM P w)))/\(xs.map (·.1)).Nodup
 | .set S n=>h.SetOf (intKind P w) a S n
 | .ins C dx fs=>H dx=some (.own a)/\fs.length<=1000/\dx≠a/\h.get? a=some (xO9 C dx)∧∃ mA,h.Ns1 dx mA/\(∀ f,RelO (fs.lookup f) (mA f))/\PySem.Within mA (fs.map (·.1))
 | .own _=>∃ o,h.get? a=some o
 | .xd fs=>∃ mA,h.Ns1 a mA/\∀ f,RelO (fs.lookup f) (mA f)
 | .rng lo hi=>∃ t u v,h.get? a=some {cls:=.type "range",data:=.fields #[.int lo t,.int hi u,.int 1 v]}
 | .frz o u=>h.get? a=some o/\ObjOk H h a u
 | .tbl ps=>h.get? a=some {cls:=.none,data:=.fields ps}
 | .code q=>h.CodeRec (.ref a) q
 | .ctab qs=>∃ ps:Array Value,h.get? a=some {cls:=.none,data:=.fields ps}/\zd0 ps.toList/\∀ (pos:Pos) (q:Str) (v:Value),((pos.line,pos.col),q)∈qs->qq6 pos ps.toList=some v->∃ c o,v=.ref c/\H c=some (.frz o (.code q))
 | .met f x=>h.get? a=some (xP9 (.ref f) (.ref x))
 | .ext φ=>φ h/\(∃ o,h.get? a=some o)/\∀ h1 h2:Heap,φ h1->(∀ o,h1.get? a=some o->h2.get? a=some o)->φ h2
def HOk (H:Hp) (h:Heap):Prop:=∀ a o,H a=some o->ObjOk P w H h a o
end
section
variable {P:qc8} {w:World} {H H':Hp} {h h':Heap} {a:Addr} {o:HO}
theorem ObjOk.lt (x:ObjOk P w H h a o):a<h.objs.size:=by
 cases o with
 | lst xs=>obtain ⟨_,_,_,_,e⟩:=x;exact qa7 e
 | tup xs=>obtain ⟨_,_,_,p⟩:=x;exact p.lt
 | dK kvs=>obtain ⟨_,_,_,_,o,_,_,e,_⟩:=x;exact qa7 e
 | dT kvs=>obtain ⟨_,_,_,_,o,_,_,e,_⟩:=x;exact qa7 e
 | set S n=>obtain ⟨o,_,_,_,e,_⟩:=x;exact qa7 e
 | ins C dx fs=>obtain ⟨_,_,_,e,_⟩:=x;exact qa7 e
 | own y=>obtain ⟨_,e⟩:=x;exact qa7 e
 | xd fs=>obtain ⟨_,⟨_,_,_,e,_⟩,_⟩:=x;exact qa7 e
 | rng lo hi=>obtain ⟨_,_,_,e⟩:=x;exact qa7 e
 | frz ob u=>obtain ⟨e,_⟩:=x;exact qa7 e
 | tbl ps=>exact qa7 (show h.get? a=some _ from x)
 | code q=>obtain ⟨c,o,vs,t,e,g,_⟩:=x;cases e;exact qa7 g
 | ctab qs=>obtain ⟨ps,g,_⟩:=x;exact qa7 g
 | met f y=>exact qa7 (show h.get? a=some _ from x)
 | ext φ=>obtain ⟨_,⟨_,e⟩,_⟩:=x;exact qa7 e
theorem Paired.mapP {α β:Type} {F G:α->β->Prop}:∀ {l₁:List α} {q:List β},Paired F l₁ q->(∀ a b,F a b->G a b)->Paired G l₁ q
 | _,_,.nil,_=>.nil
 | _,_,.cons r t,f=>.cons (f _ _ r) (Paired.mapP t f)
theorem ObjOk.stay (x:ObjOk P w H h a o) (k:∀ b u,(b=a∨H b=some (.own a))->h.get? b=some u->h'.get? b=some u)
  (U:∀ b,H b=some (.own a)->H' b=some (.own a)) (Z:∀ b xs,H b=some (.tup xs)->H' b=some (.tup xs)) (O:∀ b ob q,H b=some (.frz ob (.code q))->H' b=some (.frz ob (.code q))):ObjOk P w H' h' a o:=by
 induction o with
 | lst xs=>obtain ⟨z,its,n,r,e⟩:=x;exact ⟨z,its,n,r,k _ _ (.inl rfl) e⟩
 | tup xs=>obtain ⟨z,its,r,ob,e,c⟩:=x;exact ⟨z,its,r,ob,k _ _ (.inl rfl) e,c⟩
 | dK kvs=>obtain ⟨z,y,vs,r,ob,es,ep,e,c⟩:=x;exact ⟨z,y,vs,r,ob,es,ep,k _ _ (.inl rfl) e,c⟩
 | dT kvs =>obtain ⟨z,y,xs,r,ob,es,ep,e,c⟩:=x;exact ⟨z,y,xs,Paired.mapP r fun p q z=>⟨z.1,Z _ _ z.2.1,z.2.2⟩,ob,es,ep,k _ _ (.inl rfl) e,c⟩
 | set S n=>obtain ⟨ob,es,ep,t,e,c⟩:=x;exact ⟨ob,es,ep,t,k _ _ (.inl rfl) e,c⟩
 | ins C dx fs =>obtain ⟨d,z,ne,e,mA,⟨od,es,ep,e2,c⟩,r⟩:=x;exact ⟨U _ d,z,ne,k _ _ (.inl rfl) e,mA,⟨od,es,ep,k _ _ (.inr d) e2,c⟩,r⟩
 | own y=>obtain ⟨ob,e⟩:=x;exact ⟨ob,k _ _ (.inl rfl) e⟩
 | xd fs=>obtain ⟨mA,⟨od,es,ep,e,c⟩,r⟩:=x;exact ⟨mA,⟨od,es,ep,k _ _ (.inl rfl) e,c⟩,r⟩
 | rng lo hi=>obtain ⟨t,u,v,e⟩:=x;exact ⟨t,u,v,k _ _ (.inl rfl) e⟩
 | frz ob u ih=>obtain ⟨e,q⟩:=x;exact ⟨k _ _ (.inl rfl) e,ih q⟩
 | tbl ps =>have e:h.get? a=some {cls:=.none,data:=.fields ps}:=x;show h'.get? a=some {cls:=.none,data:=.fields ps};exact k a _ (.inl rfl) e
 | code q=>obtain ⟨c,o,vs,t,e,g,r⟩:=x;cases e;exact ⟨a,o,vs,t,rfl,k a _ (.inl rfl) g,r⟩
 | ctab qs=>obtain ⟨ps,g,r1,Y⟩:=x;exact ⟨ps,k a _ (.inl rfl) g,r1,fun pos q v h1 h2=>let ⟨c,ob,e,g⟩:=Y pos q v h1 h2;⟨c,ob,e,O c ob q g⟩⟩
 | met f y =>have e:h.get? a=some (xP9 (.ref f) (.ref y)):=x;show h'.get? a=some (xP9 (.ref f) (.ref y));exact k a _ (.inl rfl) e
 | ext φ=>obtain ⟨p,⟨o,e⟩,st⟩:=x;exact ⟨st _ _ p fun o q=>k _ _ (.inl rfl) q,⟨o,k _ _ (.inl rfl) e⟩,st⟩
theorem HOk.lt (x:HOk P w H h) (e:H a=some o):a<h.objs.size:=(x a o e).lt
theorem HOk.fresh (x:HOk P w H h) (e:h.objs.size<=a):H a=none:=by
 cases q:H a with
 | none=>rfl
 | some u=>exact absurd (qc2 (x.lt q) e) (qo2 _)
theorem HOk.kept (x:HOk P w H h) (k:∀ b u,h.get? b=some u->h'.get? b=some u):HOk P w H h':=fun a o e =>(x a o e).stay (fun b u _ q=>k b u q) (fun _ q=>q) (fun _ _ q=>q) fun _ _ _ q=>q
theorem HOk.laid (x:HOk P w H h) (k:∀ b u,h.get? b=some u->h'.get? b=some u) (hp:h.objs.size<=a) (new:ObjOk P w (upd H a o) h' a o):HOk P w (upd H a o) h':=fun b u e=>by
 have O:=x.fresh hp;by_cases U:b=a
 . subst U;rw [aQ] at e;cases e;exact new
 . rw [aH U] at e;exact (x b u e).stay (fun c v _ q=>k c v q) (fun c q=>by rw [aH (bC q O)];exact q) (fun c xs q=>by rw [aH (bC q O)];exact q) fun c ob xs q=>by rw [aH (bC q O)];exact q
end
def Rd (H:Hp) (a:Addr) (u:HO):Prop:=H a=some u∨∃ o,H a=some (.frz o u)
theorem Rd.of {u:HO} (h:H a=some u):Rd H a u:=.inl h
variable {P:qc8} {w:World} {h:Heap}
theorem Rd.ok {u:HO} (r:Rd H a u) (x:HOk P w H h):ObjOk P w H h a u:=by
 rcases r with r | ⟨o,r⟩
 . exact x a u r
 . obtain ⟨_,q⟩:=x a _ r;exact q
def Mut:Option HO->Prop
 | some (.lst _)=>True
 | some (.dK _)=>True
 | some (.dT _)=>True
 | some (.set _ _)=>True
 | some (.ins _ _ _)=>True
 | some (.ext _)=>True
 | _=>False
section
variable {P:qc8} {w:World} {H:Hp} {h h':Heap} {x e:Addr} {o':HO}
theorem HOk.write (ok:HOk P w H h) (W:Mut (H x)) (he:e=x∨H e=some (.own x)) (k:∀ b u,b≠e->h.get? b=some u->h'.get? b=some u) (heo:∃ u,h'.get? e=some u)
  (new:ObjOk P w (upd H x o') h' x o'):HOk P w (upd H x o') h':=fun b u q=>by
 have U:∀ c y,H c=some (.own y)->c≠x:=fun c y r z=>by subst z;rw [r] at W;exact W
 have Z:∀ c xs,H c=some (.tup xs)->c≠x:=fun c xs r z=>by subst z;rw [r] at W;exact W
 have Y:∀ c ob xs,H c=some (.frz ob (.code xs))->c≠x:=fun c ob xs r z=>by subst z;rw [r] at W;exact W
 by_cases hb:b=x
 . subst hb;rw [aQ] at q;cases q;exact new
 . rw [aH hb] at q;by_cases O:b=e
   . have q':H b=some (.own x):=by
      rcases he with z | z
      . exact absurd (O.trans z) hb
      . rw [O];exact z
     rw [q] at q';cases q'
     obtain ⟨v,hv⟩:=heo;exact ⟨v,by rw [O];exact hv⟩
   . refine (ok b u q).stay (fun c v hc r=>k c v ?_ r) (fun c r=>by rw [aH (U c b r)];exact r) (fun c xs r=>by rw [aH (Z c xs r)];exact r) fun c ob xs r=>by rw [aH (Y c ob xs r)];exact r
     rcases hc with rfl | hc
     . exact O
     . rintro rfl;rcases he with z | z
       . exact U c b hc z
       . rw [hc] at z;cases z;exact hb rfl
end
structure Un (fs ex:List Addr) (H H':Hp) (h h':Heap):Prop where
 keep:∀ b o,h.get? b=some o->H b=none->b∉fs->b∉ex->h'.get? b=some o
 slot:∀ b o,h.get? b=some o->H b=none->b∈fs->b∉ex->∃ sl,h'.get? b=some {o with slots:=sl}
 free:∀ b o,h.get? b=some o->H b=none->b∉ex->H' b=none
 there:∀ b o,h.get? b=some o->b∉ex->∃ o',h'.get? b=some o'
 tups:∀ b xs,H b=some (.tup xs)->H' b=some (.tup xs)
 frzs:∀ b o u,H b=some (.frz o u)->H' b=some (.frz o u)
 tbls:∀ b ps,H b=some (.tbl ps)->∃ more,H' b=some (.tbl (ps++more))
 cts:∀ b qs,H b=some (.ctab qs)->H' b=some (.ctab qs)
section
variable {fs fs' ex ex':List Addr} {H H1 H2:Hp} {h h1 h2 h':Heap} {a x e:Addr} {o:HO}
theorem Un.any (u:Un fs ex H H1 h h1) {ob:Obj} (q:h.get? b=some ob) (n:H b=none) (U:b∉ex):∃ sl,h1.get? b=some {ob with slots:=sl}:=by
 by_cases O:b∈fs
 . exact u.slot b ob q n O U
 . exact ⟨ob.slots,u.keep b ob q n O U⟩
theorem Un.kept (k:∀ b u,h.get? b=some u->h'.get? b=some u):Un fs ex H H h h':=⟨fun b ob q _ _ _=>k b ob q,fun b ob q _ _ _=>⟨ob.slots,k b ob q⟩,fun _ _ _ n _=>n,fun b ob q _=>⟨ob,k b ob q⟩,fun _ _ q=>q,fun _ _ _ q=>q,fun _ ps q=>⟨#[],by rw [q];simp⟩,fun _ _ q=>q⟩
theorem Un.refl:Un fs ex H H h h:=Un.kept fun _ _ q=>q
theorem Un.laid (k:∀ b u,h.get? b=some u->h'.get? b=some u) (hp:h.objs.size<=a) (O:H a=none):Un fs ex H (upd H a o) h h' where
 keep:=fun b u q _ _ _=>k b u q
 slot:=fun b u q _ _ _=>⟨u.slots,k b u q⟩
 free:=fun b u q n _=>by rw [aH (qb9 (qc2 (qa7 q) hp))];exact n
 there:=fun b u q _=>⟨u,k b u q⟩
 tups:=fun b xs q=>by rw [aH (bC q O)];exact q
 frzs:=fun b u xs q=>by rw [aH (bC q O)];exact q
 tbls:=fun b ps q=>⟨#[],by rw [aH (bC q O),q];simp⟩
 cts:=fun b qs q=>by rw [aH (bC q O)];exact q
theorem Un.write (U:Mut (H x)) (he:e=x∨H e=some (.own x)) (k:∀ b u,b≠e->h.get? b=some u->h'.get? b=some u) (Y:∃ u,h'.get? e=some u):Un fs ex H (upd H x o) h h':=by
 have Z:∀ b,H b=none->b≠x:=fun b n z=>by subst z;rw [n] at U;exact U
 have hb:∀ b,H b=none->b≠e:=fun b n z=>by
  subst z;rcases he with r | r
  . exact Z b n r
  . rw [n] at r;cases r
 have W:∀ b u,H b=some u->¬ Mut (some u)->b≠x:=fun b u q nm z=>by subst z;rw [q] at U;exact nm U
 refine ⟨fun b u q n _ _=>k b u (hb b n) q,fun b u q n _ _=>⟨u.slots,k b u (hb b n) q⟩,fun b u q n _=>by rw [aH (Z b n)];exact n,fun b u q _=>?_,fun b xs q=>by rw [aH (W b _ q fun z=>z)];exact q,fun b u xs q=>by rw [aH (W b _ q fun z=>z)];exact q,fun b ps q=>⟨#[],by rw [aH (W b _ q fun z=>z),q];simp⟩,fun b xs q=>by rw [aH (W b _ q fun z=>z)];exact q⟩
 by_cases O:b=e
 . subst O;exact Y
 . exact ⟨u,k b u O q⟩
end
def trk (h:Heap) (H:Hp):List Addr:=(qb8 h.objs.size).filter fun a=>(H a).isSome
def jX (h:Heap) (H:Hp):Heap:=PySem.W.hideAll h (trk h H)
theorem qP (h:Heap) (H:Hp):(jX h H).objs.size=h.objs.size:=PySem.W.hideAll_size _ _
theorem sx {o:Obj} (e:h.get? b=some o) (n:H b=none):(jX h H).get? b=some o:=PySem.W.hideAll_get _ e fun O=>by have q:(H b).isSome=true:=(ql2.mp O).2;rw [n] at q;simp at q
theorem vH {o:Obj} (e:(jX h H).get? b=some o):h.get? b=some o/\H b=none:=by
 have O:h.get? b=some o:=PySem.W.of_hideAll (trk h H) e;refine ⟨O,?_⟩;cases q:H b with
 | none=>rfl
 | some x =>have U:b∈trk h H:=ql2.mpr ⟨qd1.mpr (qa7 O),by simp [q]⟩;have z:(jX h H).get? b=none:=PySem.W.hideAll_none (trk h H) U;rw [z] at e;cases e
def vI (g h:Heap) (L:Addr):List (Addr×Obj):=(qb8 h.objs.size).filterMap fun a=>if a=L∨(g.get? a).isSome=true then none else (h.get? a).map fun o=>(a,o)
def rest (g h:Heap) (L d:Addr):List (Addr×Obj):=(vI g h L).filter fun p=>decide (p.1≠d)
def nestNames:List Str:=["way_to_reading","spoilt"]
def pw (x:Str) (ss:List Stmt):List ((Nat×Nat)×Str):=ss.filterMap fun st=>match st with
 | .FunctionDef name _ _ _ _ _ _ _ _ pos=>some ((pos.line,pos.col),x++".<locals>."++name)
 | _=>none
noncomputable def nT (K:xA9) (x:Str):Option (Addr×List ((Nat×Nat)×Str)):=match PySem.W.tabIn K x with
 | some (_,P)=>(match xB9 K qc0 x with
  | some (some (.ref f))=>(match K.lookup f with
   | some o=>(match o.data with
    | .func fd=>(match fd.body with
     | .stmts b=>some (P,pw x b)
     | _=>none)
    | _=>none)
   | none=>none)
  | _=>none)
 | none=>none
def c4 (K:xA9):List (Addr×List ((Nat×Nat)×Str)):=nestNames.filterMap (nT K)
structure Mod (K:xA9) (mg:Str->Option Value) (base:Heap):Prop where
 kin:K.In base
 glob:base.Ns qc0 mg
 blt:∃ mb,base.Ns qv7 mb/\∀ x:Str,x≠"__name__"->mb x=qe2 x
 nolimit:base.NoLimit
structure Cx where
 prog:qc8
 w:World
 K:xA9
 mg:Str->Option Value
 base:Heap
 A:qd5
 N:List Str
 s₀:qa4
 H₀:Hp
 env:Env
 outer:List Env
 stack:List Env
 ex:List Addr
 fn:Str->Bool
 calm:Bool
 pn:List (Addr×Obj)
 xe:Value->qa4->Prop
def frs (l:List Env):List Addr:=l.filterMap (·.frame)
abbrev Cx.fs (X:Cx):List Addr:=frs X.outer
def Vis (sc:Scope) (x:Str):Prop:=sc.names.lookup x=some .local∨sc.names.lookup x=some .cell∨sc.names.lookup x=some .free
def Loc (sc:Scope) (x:Str):Prop:=sc.names.lookup x=some .local∨sc.names.lookup x=some .cell
noncomputable def Look (env:Env) (h:Heap) (m:Str->Option Value) (x:Str) (u:Value):Prop:=(env.kindOf x=some .local/\m x=some u)∨((env.kindOf x=some .cell∨env.kindOf x=some .free)/\∃ c,env.cells.lookup x=some c/\h.IsCell c (some u))
structure Cx.Ok (X:Cx):Prop where
 mod:Mod X.K X.mg X.base
 kind:X.env.scope.kind=.function
 glob:X.env.globals=qc0
 blt:X.env.builtins=qv7
 above:X.s₀.heap.objs.size<=X.env.locals
 inj:∀ x y c,X.env.cells.lookup x=some c->X.env.cells.lookup y=some c->x=y
 has:∀ x,(X.env.kindOf x=some .cell∨X.env.kindOf x=some .free)->∃ c,X.env.cells.lookup x=some c
 cab:∀ x c,X.fn x=true->X.env.cells.lookup x=some c->X.s₀.heap.objs.size<=c
 hd:X.calm=true->X.A.handled=none
 frames:X.A.frames=some X.stack
 stk:X.stack=X.outer∨(X.stack=X.env::X.outer/\X.env.frame=some X.env.locals)
 exf:∀ b∈X.ex,b≠X.env.locals/\∀ x c,X.env.cells.lookup x=some c->c≠b
 bs:∀ b o,X.base.get? b=some o->X.s₀.heap.get? b=some o/\X.H₀ b=none
 bsz:X.base.objs.size<=X.s₀.heap.objs.size
 noex:∀ b o,X.base.get? b=some o->b∉X.ex
 exfs:∀ b∈X.ex,b∉X.fs
 funs:X.s₀.heap.FunFrames X.base X.outer
 frf:∀ b∈X.fs,X.H₀ b=none
 tb:∀ p∈c4 X.K,X.H₀ p.1=some (.ctab p.2)
structure Inv (X:Cx) (pins:List (Addr×Obj)) (σ:List (Option V)) (H:Hp) (s:qa4):Prop where
 ok:X.Ok
 os:s.os=X.s₀.os
 bare:zd1 s.gens
 base:Un X.fs X.ex X.H₀ H X.s₀.heap s.heap
 loc:∃ m,s.heap.Ns X.env.locals m/\∀ (i:Nat) (x:Str) (v:V),X.N[i]?=some x->σ[i]?=some (some v)->Vis X.env.scope x->∃ u,RelV v u/\Look X.env s.heap m x u
 cell:∀ x c,X.env.cells.lookup x=some c->∃ v,s.heap.IsCell c v
 free:H X.env.locals=none
 freeC:∀ x c,X.env.cells.lookup x=some c->H c=none
 pin:∀ p∈X.pn++pins,s.heap.get? p.1=some p.2/\H p.1=none/\p.1≠X.env.locals/\p.1∉X.fs/\∀ v,p.2.data≠.cell v
 hok:HOk X.prog X.w H s.heap
 len:σ.length=X.N.length
variable {g':Array GenState} {t' i j:Nat} {d':Drawn} {ch:List Addr} {it:Addr} {N:List Str} {x:Str} {M:Model} {A:qd5} {E:Value->qa4->Prop} {v:V} {Q:Unit->qa4->Prop} {s':qa4}
section
variable {X:Cx} {pins:List (Addr×Obj)} {σ:List (Option V)} {H H':Hp} {s:qa4} {h':Heap}
theorem Cx.Ok.nofr (ok:X.Ok) {o:Obj} (e:X.base.get? b=some o):b∉X.fs:=fun q=>by have:=(ok.funs.mem q).1;rw [e] at this;cases this
theorem Inv.bs (I:Inv X pins σ H s):∀ b o,X.base.get? b=some o->s.heap.get? b=some o/\H b=none:=fun b o e =>⟨I.base.keep b o (I.ok.bs b o e).1 (I.ok.bs b o e).2 (I.ok.nofr e) (I.ok.noex b o e),I.base.free b o (I.ok.bs b o e).1 (I.ok.bs b o e).2 (I.ok.noex b o e)⟩
theorem Inv.bk (I:Inv X pins σ H s):∀ b o,X.base.get? b=some o->s.heap.get? b=some o:=fun b o e=>(I.bs b o e).1
theorem Inv.mod (I:Inv X pins σ H s):Mod X.K X.mg X.base:=I.ok.mod
theorem Inv.kIn (I:Inv X pins σ H s):X.K.In s.heap:=I.ok.mod.kin.keeps I.bk
theorem Inv.fr (I:Inv X pins σ H s):∃ m,Fr X.base X.env.locals s.heap m:=
 let ⟨m,hn,_⟩:=I.loc
 ⟨m,hn,I.bk,qc1 I.ok.bsz I.ok.above⟩
theorem Inv.lt (I:Inv X pins σ H s):X.env.locals<s.heap.objs.size:=let ⟨_,hn,_⟩:=I.loc;hn.lt
theorem Inv.sz (I:Inv X pins σ H s):X.s₀.heap.objs.size<=s.heap.objs.size:=qc1 I.ok.above (qj6 I.lt)
theorem Inv.nofs (I:Inv X pins σ H s) (h:s.heap.objs.size<=a):a∉X.fs:=fun O=>by obtain ⟨_,o,q,_⟩:=I.ok.funs.mem O;exact absurd (qc2 (qa7 q) (qc1 I.sz h)) (qo2 _)
theorem Inv.cne (I:Inv X pins σ H s):∀ x c,X.env.cells.lookup x=some c->c≠X.env.locals:=fun x c e z=>by obtain ⟨v,o,U,W⟩:=I.cell x c e;obtain ⟨m,⟨o',es,ep,O,q,_⟩,_⟩:=I.loc;rw [z,O] at U;cases U;rw [q] at W;cases W
theorem Inv.funs (I:Inv X pins σ H s):s.heap.FunFrames X.base X.outer:=by
 have all:∀ (l:List Env),(∀ b∈frs l,b∈X.fs)->X.s₀.heap.FunFrames X.base l->s.heap.FunFrames X.base l:=by
  intro l;induction l with
  | nil=>intro _ _;trivial
  | cons env r ih =>
   intro W hl;obtain ⟨hk,⟨L,o,q,Y,Z,hd⟩,hr⟩:=hl;have O:L∈X.fs:=W L (by unfold frs;rw [qr4,q];exact qe5);obtain ⟨sl,e⟩:=I.base.slot L o Z (I.ok.frf L O) O fun z=>I.ok.exfs L z O
   exact ⟨hk,⟨L,_,q,Y,e,hd⟩,ih (fun b U=>W b (by unfold frs;rw [qr4,q];exact qd3 _ U)) hr⟩
 exact all X.outer (fun _ U=>U) I.ok.funs
theorem Inv.stack (I:Inv X pins σ H s):s.heap.FunFrames X.base X.stack:=by
 rcases I.ok.stk with e | ⟨e,O⟩
 . rw [e];exact I.funs
 . rw [e];obtain ⟨m,q,_⟩:=I.loc;refine .cons (by rw [I.ok.kind];decide) O q ?_ I.funs;exact Heap.get?_none_of_le (qc1 I.ok.bsz I.ok.above)
theorem Inv.stkSub (I:Inv X pins σ H s):∀ b∈frs X.stack,b∈X.env.locals::X.fs:=fun b q=>by
 rcases I.ok.stk with e | ⟨e,O⟩
 . rw [e] at q;exact qd3 _ q
 . rw [e] at q;unfold frs at q;rw [qr4,O] at q;exact q
theorem Inv.stkFree (I:Inv X pins σ H s):∀ b∈frs X.stack,H b=none:=fun b q=>by
 rcases qb3.mp (I.stkSub b q) with e | q
 . rw [e];exact I.free
 . obtain ⟨_,o,O,_⟩:=I.ok.funs.mem q;exact I.base.free b o O (I.ok.frf b q) fun z=>I.ok.exfs b z q
theorem Inv.step (I:Inv X pins σ H s)
 (W:∀ b∈ch,(b∈X.ex∨X.s₀.heap.objs.size<=b)/\b≠X.env.locals/\(∀ x c,X.env.cells.lookup x=some c->c≠b)/\∀ p∈X.pn++pins,p.1≠b)
 (keep:∀ b o,b≠X.env.locals->b∉X.fs->b∉ch->s.heap.get? b=some o->H b=none->h'.get? b=some o)
 (slot:∀ b o,b≠X.env.locals->b∈X.fs->b∉ch->s.heap.get? b=some o->H b=none->∃ sl,h'.get? b=some {o with slots:=sl}) (free:∀ b o,b∉ch->s.heap.get? b=some o->H b=none->H' b=none)
 (there:∀ b o,b∉ch->s.heap.get? b=some o->∃ o',h'.get? b=some o')
 (tups:∀ b xs,H b=some (.tup xs)->H' b=some (.tup xs)) (frzs:∀ b o u,H b=some (.frz o u)->H' b=some (.frz o u)) (tbls:∀ b ps,H b=some (.tbl ps)->∃ more,H' b=some (.tbl (ps++more))) (cts:∀ b qs,H b=some (.ctab qs)->H' b=some (.ctab qs))
 (ns:∀ m,s.heap.Ns X.env.locals m->h'.Ns X.env.locals m) (hok:HOk X.prog X.w H' h') (hg:zd1 g') :
  Inv X pins σ H' {s with heap:=h',gens:=g',drawn:=d',toks:=t'}:=by
 have neL:∀ b o,X.s₀.heap.get? b=some o->b≠X.env.locals:=fun b o e=>qb9 (qc2 (qa7 e) I.ok.above)
 have neC:∀ b o,X.s₀.heap.get? b=some o->b∉X.ex->b∉ch:=fun b o e O hb=>by
  rcases (W b hb).1 with z | z
  . exact O z
  . exact absurd (qc2 (qa7 e) z) (qo2 _)
 have U:∀ x c,X.env.cells.lookup x=some c->∀ v,s.heap.IsCell c v->h'.IsCell c v:=fun x c e v ⟨o,ho,hd⟩=>by
  have Y:c∉ch:=fun z=>(W c z).2.2.1 x c e rfl
  by_cases hc:c∈X.fs
  . obtain ⟨sl,q⟩:=slot c o (I.cne x c e) hc Y ho (I.freeC x c e);exact ⟨_,q,hd⟩
  . exact ⟨o,keep c o (I.cne x c e) hc Y ho (I.freeC x c e),hd⟩
 refine ⟨I.ok,I.os,hg,⟨fun b o e n hb O=>?_,fun b o e n hb O=>?_,fun b o e n O=>?_,fun b o e O=>?_,fun b xs e=>tups b xs (I.base.tups b xs e),fun b o xs e=>frzs b o xs (I.base.frzs b o xs e),fun b ps e=>?_,fun b qs e=>cts b qs (I.base.cts b qs e)⟩,?_,fun x c e=>?_,?_,fun x c e=>?_,fun p hp=>?_,hok,I.len⟩
 . exact keep b o (neL b o e) hb (neC b o e O) (I.base.keep b o e n hb O) (I.base.free b o e n O)
 . obtain ⟨sl,Z⟩:=I.base.slot b o e n hb O;obtain ⟨sl',e2⟩:=slot b _ (neL b o e) hb (neC b o e O) Z (I.base.free b o e n O);exact ⟨sl',e2⟩
 . obtain ⟨o',Z⟩:=I.base.there b o e O;exact free b o' (neC b o e O) Z (I.base.free b o e n O)
 . obtain ⟨o',Z⟩:=I.base.there b o e O;exact there b o' (neC b o e O) Z
 . obtain ⟨m1,Z⟩:=I.base.tbls b ps e;obtain ⟨m2,e2⟩:=tbls b _ Z;exact ⟨m1++m2,by rw [e2,Array.append_assoc]⟩
 . obtain ⟨m,hn,hl⟩:=I.loc;refine ⟨m,ns m hn,fun i x v Z e2 e3=>?_⟩;obtain ⟨u,r,l⟩:=hl i x v Z e2 e3;refine ⟨u,r,?_⟩;rcases l with l | ⟨k,c,e,z⟩
   . exact .inl l
   . exact .inr ⟨k,c,e,U x c e _ z⟩
 . obtain ⟨v,z⟩:=I.cell x c e;exact ⟨v,U x c e v z⟩
 . obtain ⟨m,⟨o,_,_,ho,_⟩,_⟩:=I.loc;exact free _ o (fun z=>(W _ z).2.1 rfl) ho I.free
 . obtain ⟨v,o,ho,hd⟩:=I.cell x c e;exact free c o (fun z=>(W c z).2.2.1 x c e rfl) ho (I.freeC x c e)
 . obtain ⟨e,n,ne,nf,d⟩:=I.pin p hp;have Y:p.1∉ch:=fun z=>(W p.1 z).2.2.2 p hp rfl
   exact ⟨keep p.1 p.2 ne nf Y e n,free p.1 p.2 Y e n,ne,nf,d⟩
theorem Inv.un (I:Inv X pins σ H s) (u:Un X.fs [] H H' s.heap h') (U:HOk X.prog X.w H' h'):Inv X pins σ H' {s with heap:=h',toks:=t'}:=by
 obtain ⟨m,⟨o,es,ep,Z,r⟩,_⟩:=id I.loc;obtain ⟨sl,hL⟩:=u.any Z I.free (by simp)
 exact I.step (g':=s.gens) (d':=s.drawn) (ch:=[]) (fun _ z=>nomatch z) (fun b o _ Y _ e n=>u.keep b o e n Y (by simp)) (fun b o _ Y _ e n=>u.slot b o e n Y (by simp)) (fun b o _ e n=>u.free b o e n (by simp)) (fun b o _ e=>u.there b o e (by simp)) u.tups u.frzs u.tbls u.cts (fun m' hm=>by
  obtain ⟨o',W,O,q,r'⟩:=hm;rw [Z] at q;cases q
  exact ⟨_,W,O,hL,r'⟩) U I.bare
theorem Inv.call {ch:List Addr} (I:Inv X pins σ H s) (u:Un (frs X.stack) ch H H' s.heap h') (Y:HOk X.prog X.w H' h') (hg:zd1 g')
 (U:∀ b∈ch,(b∈X.ex∨X.s₀.heap.objs.size<=b)/\b≠X.env.locals/\(∀ x c,X.env.cells.lookup x=some c->c≠b)/\∀ p∈X.pn++pins,p.1≠b) :
  Inv X pins σ H' {s with heap:=h',gens:=g',drawn:=d',toks:=t'}:=by
 obtain ⟨m,⟨o,es,ep,ho,r⟩,_⟩:=id I.loc;obtain ⟨sl,hL⟩:=u.any ho I.free fun z=>(U _ z).2.1 rfl
 exact I.step (ch:=ch) U (fun b o hL hb q e n=>u.keep b o e n (fun z=>(qb3.mp (I.stkSub b z)).elim hL hb) q) (fun b o _ _ q e n=>u.any e n q) (fun b o q e n=>u.free b o e n q) (fun b o q e=>u.there b o e q) u.tups u.frzs u.tbls u.cts (fun m' hm=>by
  obtain ⟨o',Z,W,O,r'⟩:=hm;rw [ho] at O;cases O
  exact ⟨_,Z,W,hL,r'⟩) Y hg
theorem Inv.turned (I:Inv X pins σ H s) (k:∀ b o,b≠it->s.heap.get? b=some o->h'.get? b=some o) (Y:H it=none) (W:it≠X.env.locals)
 (h1:it∈X.ex∨X.s₀.heap.objs.size<=it) (h2:∀ x c,X.env.cells.lookup x=some c->c≠it) (h3:∀ p∈X.pn++pins,p.1≠it):Inv X pins σ H {s with heap:=h',toks:=t'}:=by
 have U:∀ b u,H b=some u->b≠it:=fun b u e z=>by rw [z,Y] at e;cases e
 refine I.step (g':=s.gens) (d':=s.drawn) (ch:=[it]) (fun b hb=>?_) (fun b o _ _ O e _=>k b o (fun z=>O (by simp [z])) e) (fun b o _ _ O e _=>⟨o.slots,k b o (fun z=>O (by simp [z])) e⟩) (fun _ _ _ _ n=>n)
  (fun b o O e=>⟨o,k b o (fun z=>O (by simp [z])) e⟩) (fun _ _ e=>e) (fun _ _ _ e=>e) (fun b ps e=>⟨#[],by rw [e];simp⟩) (fun _ _ e=>e) (fun m hm=>?_) (fun b u e=>?_) I.bare
 . have e:b=it:=by simpa using hb
   subst e;exact ⟨h1,W,h2,h3⟩
 . obtain ⟨o,es,ep,Z,r⟩:=hm;exact ⟨o,es,ep,k _ o (qq4 W) Z,r⟩
 . refine (I.hok b u e).stay (fun c v O q=>k c v ?_ q) (fun _ q=>q) (fun _ _ q=>q) fun _ _ _ q=>q
   rcases O with z | z
   . rw [z];exact U b u e
   . exact U c _ z
theorem Inv.tok (I:Inv X pins σ H s) (t:Nat):Inv X pins σ H {s with toks:=t}:=I.un (h':=s.heap) (t':=t) Un.refl I.hok
theorem Inv.kept (I:Inv X pins σ H s) (k:∀ b u,s.heap.get? b=some u->h'.get? b=some u):Inv X pins σ H {s with heap:=h',toks:=t'}:=I.un (Un.kept k) (I.hok.kept k)
theorem Inv.laid (I:Inv X pins σ H s) (k:∀ b u,s.heap.get? b=some u->h'.get? b=some u) (hp:s.heap.objs.size<=a) (new:ObjOk X.prog X.w (upd H a o) h' a o) :
  Inv X pins σ (upd H a o) {s with heap:=h',toks:=t'}:=I.un (Un.laid k hp (I.hok.fresh hp)) (I.hok.laid k hp new)
theorem Inv.write {x e:Addr} (I:Inv X pins σ H s) (U:Mut (H x)) (O:e=x∨H e=some (.own x)) (k:∀ b u,b≠e->s.heap.get? b=some u->h'.get? b=some u) (q:∃ u,h'.get? e=some u) (new:ObjOk X.prog X.w (upd H x o) h' x o):Inv X pins σ (upd H x o) {s with heap:=h',toks:=t'}:=I.un (Un.write U O k q) (I.hok.write U O k q new)
theorem Inv.weak {q:List (Option V)} (I:Inv X pins σ H s) (U:q.length=σ.length) (w:∀ (i:Nat) v,q[i]?=some (some v)->σ[i]?=some (some v)):Inv X pins q H s:=⟨I.ok,I.os,I.bare,I.base,let ⟨m,hn,hl'⟩:=I.loc;⟨m,hn,fun i x v O W Y=>hl' i x v O (w i v W) Y⟩,I.cell,I.free,I.freeC,I.pin,I.hok,U.trans I.len⟩
theorem Inv.pins_of {q:List (Addr×Obj)} (I:Inv X pins σ H s) (h:∀ p∈q,s.heap.get? p.1=some p.2/\H p.1=none/\p.1≠X.env.locals/\p.1∉X.fs/\∀ v,p.2.data≠.cell v):Inv X q σ H s:=⟨I.ok,I.os,I.bare,I.base,I.loc,I.cell,I.free,I.freeC,fun p hp=>(qf8.mp hp).elim (fun z=>I.pin p (qg2 _ z)) (h p),I.hok,I.len⟩
theorem mr (q:N.Nodup) (a:N[i]?=some x) (b:N[j]?=some x):i=j:=by obtain ⟨h1,O⟩:=gX a;obtain ⟨h2,U⟩:=gX b;exact (List.getElem_inj q).mp (O.trans U.symm)
theorem j5 (I:Inv X pins σ H s) (hN:X.N.Nodup) (hi:X.N[i]?=some x) (Z:Loc X.env.scope x) (r:RelV v u)
 (h:∀ s',Inv X pins (σ.set i (some v)) H s'->(∃ a,qo0 a s.heap s'.heap/\(a=X.env.locals∨X.env.cells.lookup x=some a))->Q () s') (hf:X.fn x=true∨X.env.scope.names.lookup x=some .local:=by first | exact .inl rfl | exact .inr rfl | assumption):wpAny M A (zd2 X.env x u) Q E s:=by
 obtain ⟨m,hn,hl⟩:=id I.loc;have hcls:(X.env.scope.kind==.class||(X.env.scope.kind==.module&&X.env.locals != X.env.globals))=false:=by rw [I.ok.kind];rfl
 have hiσ:i<σ.length:=by rw [I.len];exact (gX hi).1
 have cne:=I.cne
 have W:∀ {a:Addr} {h':Heap},(∃ o,s.heap.get? a=some o/\H a=none)->qo0 a s.heap h'->HOk X.prog X.w H h':=fun {a h'} ha O b ob e=>by
  obtain ⟨_,_,hfree⟩:=ha;refine (I.hok b ob e).stay (fun c w' Y q=>(O.2 c ?_).trans q) (fun _ q=>q) (fun _ _ q=>q) fun _ _ _ q=>q
  rintro rfl;rcases Y with rfl | Y
  . rw [hfree] at e;cases e
  . rw [hfree] at Y;cases Y
 rcases Z with hk | hk
 . refine zd3 hk hn (fun h' hn' O=>?_) hcls;obtain ⟨oL,_,_,hoL,_⟩:=id hn;refine h _ ⟨I.ok,I.os,I.bare,⟨fun b o e n hb Z=>?_,fun b o e n hb Z=>?_,I.base.free,fun b o e Z=>?_,I.base.tups,I.base.frzs,I.base.tbls,I.base.cts⟩,⟨_,hn',fun j y v' U e2 e3=>?_⟩,fun y c e=>?_,I.free,I.freeC,fun p hp=>?_,W ⟨oL,hoL,I.free⟩ O,by simpa using I.len⟩ ⟨_,O,.inl rfl⟩
   . exact (O.2 b (qb9 (qc2 (qa7 e) I.ok.above))).trans (I.base.keep b o e n hb Z)
   . obtain ⟨sl,U⟩:=I.base.slot b o e n hb Z;exact ⟨sl,(O.2 b (qb9 (qc2 (qa7 e) I.ok.above))).trans U⟩
   . obtain ⟨o',U⟩:=I.base.there b o e Z;exact ⟨o',(O.2 b (qb9 (qc2 (qa7 e) I.ok.above))).trans U⟩
   . by_cases hj:j=i
     . subst hj;rw [hi] at U;cases U
       rw [qo9 hiσ] at e2;cases e2;exact ⟨u,r,.inl ⟨hk,by simp⟩⟩
     . rw [gN (qq4 hj)] at e2;obtain ⟨u',r',q⟩:=hl j y v' U e2 e3;refine ⟨u',r',?_⟩;rcases q with ⟨k,e⟩ | ⟨k,c,e,z⟩
       . refine .inl ⟨k,?_⟩;have:y≠x:=fun e=>hj (mr hN U (e▸hi))
         simp [this,e]
       . exact .inr ⟨k,c,e,z.sameBut O (cne y c e)⟩
   . obtain ⟨w',z⟩:=I.cell y c e;exact ⟨w',z.sameBut O (cne y c e)⟩
   . obtain ⟨e,n,ne,nf,d⟩:=I.pin p hp;exact ⟨(O.2 p.1 ne).trans e,n,ne,nf,d⟩
 . have hfn:X.fn x=true:=by
    rcases hf with z | z
    . exact z
    . rw [z] at hk;cases hk
   obtain ⟨c,Y⟩:=I.ok.has x (.inl hk);obtain ⟨w',z⟩:=I.cell x c Y;refine wpAny_storeName_cell I.ok.kind hk Y z (fun h' hc' O=>?_);obtain ⟨oc,hoc,hocd⟩:=id z;refine h {s with heap:=h'} ⟨I.ok,I.os,I.bare,⟨fun b o e n hb Z=>?_,fun b o e n hb Z=>?_,I.base.free,fun b o e Z=>?_,I.base.tups,I.base.frzs,I.base.tbls,I.base.cts⟩,⟨m,hn.sameBut O (qq4 (cne x c Y)),fun j y v' U e2 e3=>?_⟩,fun y c' e=>?_,I.free,I.freeC,fun p hp=>?_,W ⟨oc,hoc,I.freeC x c Y⟩ O,by simpa using I.len⟩ ⟨c,O,.inr Y⟩
   . exact (O.2 b (qb9 (qc2 (qa7 e) (I.ok.cab x c hfn Y)))).trans (I.base.keep b o e n hb Z)
   . obtain ⟨sl,U⟩:=I.base.slot b o e n hb Z;exact ⟨sl,(O.2 b (qb9 (qc2 (qa7 e) (I.ok.cab x c hfn Y)))).trans U⟩
   . obtain ⟨o',U⟩:=I.base.there b o e Z;exact ⟨o',(O.2 b (qb9 (qc2 (qa7 e) (I.ok.cab x c hfn Y)))).trans U⟩
   . by_cases hj:j=i
     . subst hj;rw [hi] at U;cases U
       rw [qo9 hiσ] at e2;cases e2;exact ⟨u,r,.inr ⟨.inl hk,c,Y,hc'⟩⟩
     . rw [gN (qq4 hj)] at e2;obtain ⟨u',r',q⟩:=hl j y v' U e2 e3;refine ⟨u',r',?_⟩;rcases q with q | ⟨k,c',e,z'⟩
       . exact .inl q
       . refine .inr ⟨k,c',e,z'.sameBut O ?_⟩;rintro rfl;exact hj (mr hN U (I.ok.inj _ _ _ e Y▸hi))
   . by_cases hcc:c'=c
     . subst hcc;exact ⟨_,hc'⟩
     . obtain ⟨w2,z2⟩:=I.cell y c' e;exact ⟨w2,z2.sameBut O hcc⟩
   . obtain ⟨e,n,ne,nf,d⟩:=I.pin p hp;refine ⟨(O.2 p.1 ?_).trans e,n,ne,nf,d⟩;intro q;rw [q,hoc] at e;have q':oc=p.2:=qd6 e;exact d w' (by rw [<- q'];exact hocd)
theorem gz (I:Inv X pins σ H s) (W:X.N.Nodup) (hi:X.N[i]?=some x) (O:Loc X.env.scope x) (r:RelV v u)
 (h:∀ s',Inv X pins (σ.set i (some v)) H s'->Q () s') (q:X.fn x=true∨X.env.scope.names.lookup x=some .local:=by first | exact .inl rfl | exact .inr rfl | assumption):wpAny M A (zd2 X.env x u) Q E s:=
 j5 I W hi O r (fun s' U _=>h s' U) q
theorem Inv.call' (I:Inv X pins σ H s) (U:s'.os=s.os) (u:Un (frs X.stack) ch H H' s.heap s'.heap) (q:HOk X.prog X.w H' s'.heap) (W:zd1 s'.gens)
 (O:∀ b∈ch,(b∈X.ex∨X.s₀.heap.objs.size<=b)/\b≠X.env.locals/\(∀ x c,X.env.cells.lookup x=some c->c≠b)/\∀ p∈X.pn++pins,p.1≠b):Inv X pins σ H' s':=by
 obtain ⟨h',g',d',t',o'⟩:=s';have e:o'=s.os:=U;subst e;exact I.call (g':=g') (t':=t') (d':=d') u q W O
end
abbrev XK:=Value->Option Addr->Hp->Prop
abbrev St:=List (Option V)
abbrev VK:=V->Hp->Prop
abbrev TE:=St->Hp->VK->Prop
abbrev TT:=St->Hp->(Bool->Hp->Prop)->Prop
abbrev TA:=St->Hp->(List V->Hp->Prop)->Prop
structure Ends where
 nx:St->Hp->Prop
 rt:VK
 bk:St->Hp->Prop:=fun _ _=>False
 ct:St->Hp->Prop:=fun _ _=>False
abbrev TS:=Ends->St->Hp->Prop
def EP (X:Cx) (pins:List (Addr×Obj)) (σ:St) (Q:VK) (u:Value) (s':qa4):Prop:=∃ v H',Inv X pins σ H' s'/\RelV v u/\Q v H'
def TP (X:Cx) (pins:List (Addr×Obj)) (σ:St) (Q:Bool->Hp->Prop) (b:Bool) (s':qa4):Prop:=∃ H',Inv X pins σ H' s'/\Q b H'
def AP (X:Cx) (pins:List (Addr×Obj)) (σ:St) (Q:List V->Hp->Prop) (us:List Value) (s':qa4):Prop:=∃ vs H',Inv X pins σ H' s'/\Vals vs us/\Q vs H'
noncomputable def SP (X:Cx) (pins:List (Addr×Obj)) (D:Ends) (f:Flow) (s':qa4):Prop:=
 match f with
 | .next=>∃ q H',Inv X pins q H' s'/\D.nx q H'
 | .brk=>∃ q H',Inv X pins q H' s'/\D.bk q H'
 | .cont=>∃ q H',Inv X pins q H' s'/\D.ct q H'
 | .ret u=>∃ v q H',Inv X pins q H' s'/\RelV v u/\D.rt v H'
def PE (X:Cx) (e:Expr) (t:TE):Prop:=∀ (pins:List (Addr×Obj)) (s:qa4) (σ:St) (H:Hp) (Q:VK),Inv X pins σ H s->t σ H Q->wpAny (model X.prog X.w) X.A (eval e X.env) (EP X pins σ Q) X.xe s
noncomputable def PT (X:Cx) (e:Expr) (t:TT):Prop:=∀ (pins:List (Addr×Obj)) (s:qa4) (σ:St) (H:Hp) (Q:Bool->Hp->Prop),Inv X pins σ H s->t σ H Q->wpAny (model X.prog X.w) X.A (isTrue e X.env (eval e X.env)) (TP X pins σ Q) X.xe s
noncomputable def PW (X:Cx) (e:Expr) (t:TT):Prop:=∀ (q:Sem Value) (pins:List (Addr×Obj)) (s:qa4) (σ:St) (H:Hp) (Q:Bool->Hp->Prop),Inv X pins σ H s->t σ H Q->wpAny (model X.prog X.w) X.A (isTrue e X.env q) (TP X pins σ Q) X.xe s
variable {X:Cx} {e:Expr}
theorem PW.pt {t:TT} (h:PW X e t):PT X e t:=h _
noncomputable def PA (X:Cx) (es:List Expr) (t:TA):Prop:=∀ (pos:Pos) (pins:List (Addr×Obj)) (s:qa4) (σ:St) (H:Hp) (Q:List V->Hp->Prop),Inv X pins σ H s->t σ H Q->wpAny (model X.prog X.w) X.A (spliced (qk0 pos (qa6 es X.env))) (AP X pins σ Q) X.xe s
def PS (X:Cx) (st:Stmt) (t:TS):Prop:=∀ (pins:List (Addr×Obj)) (s:qa4) (σ:St) (H:Hp) (D:Ends),Inv X pins σ H s->t D σ H->wpAny (model X.prog X.w) X.A (exec st X.env) (SP X pins D) X.xe s
def PSs (X:Cx) (st:List Stmt) (t:TS):Prop:=∀ (pins:List (Addr×Obj)) (s:qa4) (σ:St) (H:Hp) (D:Ends),Inv X pins σ H s->t D σ H->wpAny (model X.prog X.w) X.A (execs st X.env) (SP X pins D) X.xe s
variable {s:qa4}
theorem thn {α:Type} {t:Sem α} {Q q:α->qa4->Prop} (h:wpAny M A t Q E s) (O:∀ a s,Q a s->q a s):wpAny M A t q E s:=qk9 h O fun _ _ x=>x
variable {pins:List (Addr×Obj)} {σ:St} {R:V->V->Hp->Prop} {pos:Pos} {c:Expr}
section
variable {X:Cx}
theorem bin {a b:Expr} {ta tb:TE} (Y:PE X a ta) (hb:PE X b tb) (I:Inv X pins σ H s) (h:ta σ H fun x H1=>tb σ H1 fun y H2=>R x y H2)
 {α:Type} {Q:α->qa4->Prop} {f:Value->Value->Sem α}
 (hf:∀ v u U x y H2,Inv X pins σ H2 U->RelV x v->RelV y u->R x y H2->wpAny (model X.prog X.w) X.A (f v u) Q X.xe U) :
  wpAny (model X.prog X.w) X.A (eval a X.env) (fun v q=>wpAny (model X.prog X.w) X.A (eval b X.env) (fun u O=>wpAny (model X.prog X.w) X.A (f v u) Q X.xe O) X.xe q) X.xe s:=by
 refine thn (Y pins s σ H _ I h) fun v s1 ⟨x,H1,W,r1,q1⟩=>?_
 refine thn (hb pins s1 σ H1 _ W q1) fun u U ⟨y,H2,Z,r2,q2⟩=>?_
 exact hf v u U x y H2 Z r1 r2 q2
def f9 (i:Nat):TE:=fun σ H Q=>∃ v,σ[i]?=some (some v)/\Q v H
def tC (v:V):TE:=fun _ H Q=>Q v H
theorem yF (hN:X.N[i]?=some x) (hv:Vis X.env.scope x) (W:(x==("__debug__":Str))=false:=by decide) (U:(x==("__classdict__":Str))=false:=by decide):PE X (.Name x pos) (f9 i):=by
 intro pins s σ H Q I h;obtain ⟨v,e,h⟩:=h;obtain ⟨m,Z,hl⟩:=I.loc;obtain ⟨u,r,l⟩:=hl i x v hN e hv;have O:EP X pins σ Q u s:=⟨v,H,I,r,h⟩;rcases l with ⟨hk,hm⟩ | ⟨hk,c,Y,q⟩
 . exact wpAny_Name (wpAny_loadName_local I.ok.kind hk Z hm O) W
 . rcases hk with hk | hk
   . exact wpAny_Name (wpAny_loadName_cell I.ok.kind hk Y q O) W
   . exact wpAny_Name (wpAny_loadName_free I.ok.kind hk Y q O U) W
theorem yG {i j pos}:PE X (.Constant (.int i) j pos) (tC (.int i)):=fun _ _ _ H _ I h=>wpAny_Constant_int ⟨.int i,H,I.tok _,⟨_,rfl⟩,h⟩
theorem Bk {b j pos}:PE X (.Constant (.bool b) j pos) (tC (.bl b)):=fun _ _ _ H _ I h=>Constant_bool ⟨.bl b,H,I,rfl,h⟩
theorem yH {j pos}:PE X (.Constant .none j pos) (tC .non):=fun _ _ _ H _ I h=>Constant_none ⟨.non,H,I,rfl,h⟩
theorem yI {x j pos}:PE X (.Constant (.str x) j pos) (tC (.str x)):=fun _ _ _ H _ I h=>Calls.Constant_str ⟨.str x,H,I.tok _,⟨_,rfl⟩,h⟩
def Gl (X:Cx) (x:Str):Prop:=X.env.kindOf x=some .globalImplicit
theorem lh {Q:Value->qa4->Prop} (I:Inv X pins σ H s) (q:Gl X x) (O:X.mg x=some u) (h:Q u s)
 (U:(x==("__debug__":Str))=false:=by decide):wpAny (model X.prog X.w) X.A (eval (.Name x pos) X.env) Q E s:=
 qx6 I.ok.kind q (Calls.loadGlobal_global (by rw [I.ok.glob];exact I.mod.glob.keeps I.bk) O h) U
theorem eR {Q:Value->qa4->Prop} (I:Inv X pins σ H s) (U:Gl X x) (W:X.mg x=none) (O:qe2 x=some u) (h:Q u s)
 (q:x≠"__name__":=by decide) (Y:(x==("__debug__":Str))=false:=by decide):wpAny (model X.prog X.w) X.A (eval (.Name x pos) X.env) Q E s:=by
 obtain ⟨mb,h1,h2⟩:=I.mod.blt;exact qx6 I.ok.kind U (Calls.loadGlobal_builtin (by rw [I.ok.glob];exact I.mod.glob.keeps I.bk) W (by rw [I.ok.blt];exact h1.keeps I.bk) ((h2 x q).trans O) h) Y
theorem vJ (q:Gl X x) (O:X.mg x=some u) (r:RelV v u) (U:(x==("__debug__":Str))=false:=by decide):PE X (.Name x pos) (tC v):=fun _ _ _ H _ I h=>lh I q O ⟨v,H,I,r,h⟩ U
theorem vK (U:Gl X x) (W:X.mg x=none) (O:qe2 x=some u) (r:RelV v u) (q:x≠"__name__":=by decide) (Y:(x==("__debug__":Str))=false:=by decide):PE X (.Name x pos) (tC v):=fun _ _ _ H _ I h=>eR I U W O ⟨v,H,I,r,h⟩ q Y
variable {a b:Expr} {ta tb:TE} {pos:Pos}
noncomputable def PC (X:Cx) (U:CmpOp) (a b:Expr) (t:TE):Prop:=
 ∀ (pins:List (Addr×Obj)) (s:qa4) (σ:St) (H:Hp) (Q:VK),Inv X pins σ H s->t σ H Q→
  wpAny (model X.prog X.w) X.A (eval a X.env) (fun v q=>wpAny (model X.prog X.w) X.A (eval b X.env) (fun u O=>wpAny (model X.prog X.w) X.A (qg4 U v u) (EP X pins σ Q) X.xe O) X.xe q) X.xe s
def tB (t:TE):TT:=fun σ H Q=>t σ H fun x H1=>∃ c,x=.bl c/\Q c H1
theorem nU {O:CmpOp} {t:TE} (h:PC X O a b t) (h1:qk5 O b=false:=by first | exact nobehind _ (by decide) (by decide) | rfl):PT X (.Compare a [O] [b] pos) (tB t):=by intro pins s σ H Q I W;refine zd4 (thn (h pins s σ H _ I W) fun v s1 h1=>thn h1 fun u Z h2=>thn h2 fun c s3 ⟨x,H1,U,Y,q1⟩=>?_) h1;obtain ⟨d,rfl,q⟩:=q1;cases Y;exact ql0 ⟨H1,U,q⟩
variable {tA tB':TT} {rest:List Expr}
def tAnd (t u:TT):TT:=fun σ H Q=>t σ H fun c H1=>if c=true then u σ H1 Q else Q false H1
def tOr (t u:TT):TT:=fun σ H Q=>t σ H fun c H1=>if c=true then Q true H1 else u σ H1 Q
def tNot (t:TT):TT:=fun σ H Q=>t σ H fun c H1=>Q (!c) H1
theorem vM (q:PT X a tA):PW X (.BoolOp .And [a] pos) tA:=by
 intro O pins s σ H Q I h;refine isTrue_and (thn (q pins s σ H Q I h) fun c s1 e=>?_);cases c with
 | true=>exact isTrue_and_nil e
 | false=>exact e
theorem yJ (q:PT X a tA):PW X (.BoolOp .Or [a] pos) tA:=by
 intro O pins s σ H Q I h;refine isTrue_or (thn (q pins s σ H Q I h) fun c s1 e=>?_);cases c with
 | false=>exact isTrue_or_nil e
 | true=>exact e
theorem yK (U:PT X a tA) (W:PW X (.BoolOp .And (b::rest) pos) tB'):PW X (.BoolOp .And (a::b::rest) pos) (tAnd tA tB'):=by
 intro O pins s σ H Q I h;refine isTrue_and (thn (U pins s σ H _ I h) fun c s1 ⟨H1,q,q1⟩=>?_);cases c with
 | true=>exact W O pins s1 σ H1 Q q q1
 | false=>exact ⟨H1,q,q1⟩
theorem Bl (U:PT X a tA) (W:PW X (.BoolOp .Or (b::rest) pos) tB'):PW X (.BoolOp .Or (a::b::rest) pos) (tOr tA tB'):=by
 intro O pins s σ H Q I h;refine isTrue_or (thn (U pins s σ H _ I h) fun c s1 ⟨H1,q,q1⟩=>?_);cases c with
 | true=>exact ⟨H1,q,q1⟩
 | false=>exact W O pins s1 σ H1 Q q q1
theorem yL (q:PT X a tA):PT X (.UnaryOp .Not a pos) (tNot tA):=by intro pins s σ H Q I h;exact isTrue_not (q pins s σ H (fun c H1=>Q (!c) H1) I h)
def Bm (ta tb:TE):TE:=fun σ H Q=>ta σ H fun x H1=>∃ c,x=.bl c/\if c=true then tb σ H1 Q else Q (.bl false) H1
def tOrV (ta tb:TE):TE:=fun σ H Q=>ta σ H fun x H1=>∃ c,x=.bl c/\if c=true then Q (.bl true) H1 else tb σ H1 Q
def Bn (ta:TE):TE:=fun σ H Q=>ta σ H fun x H1=>∃ c,x=.bl c/\Q (.bl (!c)) H1
theorem yM {op} {t:TE} (h:PE X a t):PE X (.BoolOp op [a] pos) t:=fun pins s σ H Q I q=>BoolOp_one (h pins s σ H Q I q)
theorem yN (O:PE X a ta) (U:PE X (.BoolOp .And (b::rest) pos) tb):PE X (.BoolOp .And (a::b::rest) pos) (Bm ta tb):=by
 intro pins s σ H Q I h;refine BoolOp_and (thn (O pins s σ H _ I h) fun v s1 ⟨x,H1,q,W,q1⟩=>?_);obtain ⟨c,rfl,q1⟩:=q1;cases W;refine ql0 ?_;cases c with
 | true=>exact U pins s1 σ H1 Q q q1
 | false=>exact ⟨.bl false,H1,q,rfl,q1⟩
theorem Bo (O:PE X a ta) (U:PE X (.BoolOp .Or (b::rest) pos) tb):PE X (.BoolOp .Or (a::b::rest) pos) (tOrV ta tb):=by
 intro pins s σ H Q I h;refine BoolOp_or (thn (O pins s σ H _ I h) fun v s1 ⟨x,H1,q,W,q1⟩=>?_);obtain ⟨c,rfl,q1⟩:=q1;cases W;refine ql0 ?_;cases c with
 | false=>exact U pins s1 σ H1 Q q q1
 | true=>exact ⟨.bl true,H1,q,rfl,q1⟩
theorem yO (O:PE X a ta):PE X (.UnaryOp .Not a pos) (Bn ta):=by intro pins s σ H Q I h;refine UnaryOp_ (thn (O pins s σ H _ I h) fun v s1 ⟨x,H1,q,U,q1⟩=>?_);obtain ⟨c,rfl,q1⟩:=q1;cases U;exact not_of (ql0 ⟨.bl (!c),H1,q,rfl,q1⟩)
def tIf (t:TT) (ta tb:TE):TE:=fun σ H Q=>t σ H fun c H1=>if c=true then ta σ H1 Q else tb σ H1 Q
theorem sy (O:PT X c tA) (U:PE X a ta) (W:PE X b tb):PE X (.IfExp c a b pos) (tIf tA ta tb):=by
 intro pins s σ H Q I h;refine wpAny_IfExp (thn (O pins s σ H _ I h) fun d s1 ⟨H1,q,q1⟩=>?_);cases d with
 | true=>exact U pins s1 σ H1 Q q q1
 | false=>exact W pins s1 σ H1 Q q q1
end
noncomputable def SqL (K:xA9) (H:Hp) (a:Addr) (xs:List V):Prop:=Rd H a (.lst xs)∨∃ (o:Obj) (its:Array Value) (n:Nat),K.lookup a=some o/\o.cls=.type "list"/\o.dict=none/\o.data=.seq its n/\its.size<=qb0/\Vals xs its.toList
noncomputable def SqT (K:xA9) (H:Hp) (a:Addr) (xs:List V):Prop:=H a=some (.tup xs)∨∃ (o:Obj) (its:Array Value) (n:Nat),K.lookup a=some o/\o.cls=.type "tuple"/\o.data=.seq its n/\its.size<=qb0/\Vals xs its.toList
noncomputable def absV:Value->Option V
 | .none=>some .non
 | .bool b=>some (.bl b)
 | .int i _=>some (.int i)
 | .str x _=>some (.str x)
 | .bytes b _=>some (.byt b)
 | .float b _=>some (.flt b)
 | .ref a=>some (.ref a)
 | .type n=>some (.ty n)
 | _=>none
theorem RelV.abs {x:V} (r:RelV x u):absV u=some x:=by
 cases x with
 | non=>cases r;rfl
 | bl _=>cases r;rfl
 | int _=>obtain ⟨t,rfl⟩:=r;rfl
 | str _=>obtain ⟨t,rfl⟩:=r;rfl
 | byt _=>obtain ⟨t,rfl⟩:=r;rfl
 | flt _=>obtain ⟨t,rfl⟩:=r;rfl
 | ref _=>cases r;rfl
 | ty _=>cases r;rfl
variable {y:V}
theorem RelV.inj {x:V} (r:RelV x u) (q:RelV y u):x=y:=qd6 (r.abs.symm.trans q.abs)
theorem Vals.inj:∀ {xs ys:List V} {us:List Value},Vals xs us->Vals ys us->xs=ys
 | _,_,_,.nil,.nil=>rfl
 | _,_,_,.cons r t,.cons q t'=>by rw [r.inj q,Vals.inj t t']
variable {K:xA9}
section
variable {X:Cx} {pins:List (Addr×Obj)} {σ:St} {H:Hp} {s:qa4} {a:Addr} {xs ys:List V}
theorem SqL.of (h:H a=some (.lst xs)):SqL K H a xs:=.inl (.inl h)
theorem SqT.of (h:H a=some (.tup xs)):SqT K H a xs:=.inl h
theorem Inv.list (I:Inv X pins σ H s) (h:SqL X.K H a xs):∃ its:List Value,Vals xs its/\PlainL s.heap a its.toArray/\xs.length<=qb0:=by
 rcases h with h | ⟨o,its,n,hk,O,U,q,W,r⟩
 . obtain ⟨z,its,n,r,e⟩:=h.ok I.hok;exact ⟨its,r,⟨_,n,e,rfl,rfl,rfl⟩,z⟩
 . refine ⟨its.toList,r,⟨o,n,I.kIn a o hk,O,U,by simpa using q⟩,?_⟩;have e:=r.length;simp only [qe1] at e;lia
theorem Inv.tuple (I:Inv X pins σ H s) (h:SqT X.K H a xs):∃ its:List Value,Vals xs its/\IsTup s.heap a its.toArray/\xs.length<=qb0:=by
 rcases h with h | ⟨o,its,n,hk,O,q,U,r⟩
 . obtain ⟨z,its,r,p⟩:=(Rd.of h).ok I.hok;exact ⟨its,r,p,z⟩
 . refine ⟨its.toList,r,⟨o,I.kIn a o hk,O,n,by simpa using q⟩,?_⟩;have e:=r.length;simp only [qe1] at e;lia
theorem Inv.list_inj (I:Inv X pins σ H s) (h:SqL X.K H a xs) (h':SqL X.K H a ys):xs=ys:=by
 obtain ⟨its,r,⟨o,n,e,_,_,d⟩,_⟩:=I.list h;obtain ⟨its',U,⟨o',W,q,_,_,d'⟩,_⟩:=I.list h';rw [e] at q;cases q
 rw [d] at d';injection d' with O _;have:its=its':=by simpa using congrArg Array.toList O
 subst this;exact r.inj U
theorem Inv.tuple_inj (I:Inv X pins σ H s) (h:SqT X.K H a xs) (h':SqT X.K H a ys):xs=ys:=by
 obtain ⟨its,r,⟨o,e,_,n,d⟩,_⟩:=I.tuple h;obtain ⟨its',U,⟨o',q,_,W,d'⟩,_⟩:=I.tuple h';rw [e] at q;cases q
 rw [d] at d';injection d' with O _;have:its=its':=by simpa using congrArg Array.toList O
 subst this;exact r.inj U
end
abbrev Cx.wish (X:Cx) (E:Value->qa4->Prop):Cx:={X with xe:=E}
abbrev Cx.nox (X:Cx):Cx:=X.wish fun _ _=>False
theorem Cx.Ok.wish (ok:X.Ok) (E:Value->qa4->Prop):(X.wish E).Ok:=⟨ok.mod,ok.kind,ok.glob,ok.blt,ok.above,ok.inj,ok.has,ok.cab,ok.hd,ok.frames,ok.stk,ok.exf,ok.bs,ok.bsz,ok.noex,ok.exfs,ok.funs,ok.frf,ok.tb⟩
theorem Cx.Ok.unwish (ok:(X.wish E).Ok):X.Ok:=⟨ok.mod,ok.kind,ok.glob,ok.blt,ok.above,ok.inj,ok.has,ok.cab,ok.hd,ok.frames,ok.stk,ok.exf,ok.bs,ok.bsz,ok.noex,ok.exfs,ok.funs,ok.frf,ok.tb⟩
section
variable {X:Cx} {pins:List (Addr×Obj)} {σ:St} {H:Hp} {s:qa4} {E:Value->qa4->Prop}
theorem Inv.wish (I:Inv X pins σ H s) (E:Value->qa4->Prop):Inv (X.wish E) pins σ H s:=⟨I.ok.wish E,I.os,I.bare,I.base,I.loc,I.cell,I.free,I.freeC,I.pin,I.hok,I.len⟩
theorem Inv.unwish (I:Inv (X.wish E) pins σ H s):Inv X pins σ H s:=⟨I.ok.unwish,I.os,I.bare,I.base,I.loc,I.cell,I.free,I.freeC,I.pin,I.hok,I.len⟩
theorem SP.unwish {D:Ends} {f:Flow} (h:SP (X.wish E) pins D f s'):SP X pins D f s':=by
 cases f with
 | next=>obtain ⟨O,H',I,q⟩:=h;exact ⟨O,H',I.unwish,q⟩
 | brk=>obtain ⟨O,H',I,q⟩:=h;exact ⟨O,H',I.unwish,q⟩
 | cont=>obtain ⟨O,H',I,q⟩:=h;exact ⟨O,H',I.unwish,q⟩
 | ret u=>obtain ⟨v,O,H',I,r,q⟩:=h;exact ⟨v,O,H',I.unwish,r,q⟩
theorem PSs.nox {st:List Stmt} {t:TS} (h:PSs X.nox st t):PSs X st t:=fun pins s σ H D I O =>qk9 (h pins s σ H D (I.wish _) O) (fun _ _ q=>q.unwish) fun _ _ z=>qg0 z
end
variable {tc:TT}
section
variable {X:Cx} {st:Stmt} {rest:List Stmt} {t u:TS} {e:Expr} {te:TE} {pos:Pos}
def Bp:TS:=fun D σ H=>D.nx σ H
def tSeq (t u:TS):TS:=fun D σ H=>t {D with nx:=u D} σ H
theorem vN:PSs X [] Bp:=fun _ _ σ H _ I h=>qw2 ⟨σ,H,I,h⟩
theorem gB (h1:PS X st t) (h2:PSs X rest u):PSs X (st::rest) (tSeq t u):=by
 intro pins s σ H D I h;refine wpAny_execs_cons (thn (h1 pins s σ H {D with nx:=u D} I h) fun f s1 q=>?_);cases f with
 | next =>obtain ⟨O,H',U,q⟩:=q;exact h2 pins s1 O H' D U q
 | ret v=>exact q
 | brk=>exact q
 | cont=>exact q
theorem vO (h1:PS X st t):PSs X [st] t:=by
 intro pins s σ H D I h;refine wpAny_execs_cons (thn (h1 pins s σ H D I h) fun f s1 q=>?_);cases f with
 | next=>exact qw2 q
 | ret v=>exact q
 | brk=>exact q
 | cont=>exact q
theorem Inv.quiet (I:Inv X pins σ H s):interactive X.env=false:=by simp [interactive,I.ok.kind]
def Bq (te:TE):TS:=fun D σ H=>te σ H fun _ H1=>D.nx σ H1
theorem px (U:PE X e te) (q:qm0 e none pos.line X.env=pure false:=by rfl):PS X (.Expr e pos) (Bq te):=by intro pins s σ H D I h;exact wpAny_Expr_any (thn (U pins s σ H _ I h) fun v s1 ⟨x,H1,O,W,q1⟩=>⟨σ,H1,O,q1⟩) I.quiet q
def tRet (te:TE):TS:=fun D σ H=>te σ H D.rt
theorem sB (q:PE X e te):PS X (.Return (some e) pos) (tRet te):=by intro pins s σ H D I h;exact wpAny_Return_some (thn (q pins s σ H _ I h) fun v s1 ⟨x,H1,U,O,q1⟩=>⟨x,σ,H1,U,O,q1⟩)
def tIfS (c:TT) (t u:TS):TS:=fun D σ H=>c σ H fun b H1=>if b=true then t D σ H1 else u D σ H1
theorem Br {a b:List Stmt} (O:PT X c tc) (U:PSs X a t) (W:PSs X b u):PS X (.If c a b pos) (tIfS tc t u):=by
 intro pins s σ H D I h;refine wpAny_If (thn (O pins s σ H _ I h) fun d s1 ⟨H1,q,q1⟩=>?_);cases d with
 | true=>exact U pins s1 σ H1 D q q1
 | false=>exact W pins s1 σ H1 D q q1
end
abbrev TG:=V->St->Hp->(St->Hp->Prop)->Prop
abbrev TGs:=List V->St->Hp->(St->Hp->Prop)->Prop
noncomputable def PG (X:Cx) (q:Expr) (t:TG):Prop:=
 ∀ (pins:List (Addr×Obj)) (s:qa4) (σ:St) (H:Hp) (v:V) (u:Value) (Q:St->Hp->Prop),Inv X pins σ H s->RelV v u->t v σ H Q→
  wpAny (model X.prog X.w) X.A (zd5 q X.env u) (fun _ s'=>∃ O H',Inv X pins O H' s'/\Q O H') X.xe s
noncomputable def PGs (X:Cx) (ts:List Expr) (t:TGs):Prop:=
 ∀ (pins:List (Addr×Obj)) (s:qa4) (σ:St) (H:Hp) (vs:List V) (us:List Value) (Q:St->Hp->Prop),Inv X pins σ H s->Vals vs us->t vs σ H Q→
  wpAny (model X.prog X.w) X.A (assignInOrder ((qi4 ts X.env).map (·.2)) us) (fun _ s'=>∃ q H',Inv X pins q H' s'/\Q q H') X.xe s
abbrev yP:=V->V->V->Hp->(Hp->Prop)->Prop
noncomputable def PSet (X:Cx) (t:yP):Prop:=
 ∀ (pins:List (Addr×Obj)) (s:qa4) (σ:St) (H:Hp) (o i v:V) (O q u:Value) (Q:Hp->Prop),Inv X pins σ H s->RelV o O->RelV i q->RelV v u->t o i v H Q→
  wpAny (model X.prog X.w) X.A (setItem O q u) (fun _ s'=>∃ H',Inv X pins σ H' s'/\Q H') X.xe s
abbrev TIp:=V->V->Hp->VK->Prop
noncomputable def PIp (X:Cx) (q:Operator) (t:TIp):Prop:=
 ∀ (pins:List (Addr×Obj)) (s:qa4) (σ:St) (H:Hp) (x y:V) (v u:Value) (Q:VK),Inv X pins σ H s->RelV x v->RelV y u->t x y H Q→
  wpAny (model X.prog X.w) X.A (inplaceOp q v u) (EP X pins σ Q) X.xe s
variable {es:List Expr} {n:Nat} {tg:Expr} {te:TE} {g:TG} {pos':Pos}
section
variable {X:Cx} {pos:Pos}
def jb (i:Nat):TG:=fun v σ H Q=>Q (σ.set i (some v)) H
theorem pz (O:X.N.Nodup) (hi:X.N[i]?=some x) (q:Loc X.env.scope x) (U:X.fn x=true∨X.env.scope.names.lookup x=some .local:=by first | exact .inl rfl | exact .inr rfl | assumption):PG X (.Name x pos) (jb i):=by intro pins s σ H v u Q I r h;exact wpAny_assign_Name (gz I O hi q r (fun s' W=>⟨_,H,W,h⟩) U)
def gNil:TGs:=fun vs σ H Q=>vs=[]/\Q σ H
def Bs (t:TG) (u:TGs):TGs:=fun vs σ H Q=>∃ v r,vs=v::r/\t v σ H fun q H'=>u r q H' Q
theorem vP:PGs X [] gNil:=by intro pins s σ H vs us Q I r h;obtain ⟨e,h⟩:=h;subst e;cases r;exact assignInOrder_nil ⟨σ,H,I,h⟩
theorem sD {t:TG} {u:TGs} (h1:PG X e t) (h2:PGs X es u)
 (O:(qi4 (e::es) X.env).map (·.2)=zd5 e X.env::(qi4 es X.env).map (·.2):=by rfl):PGs X (e::es) (Bs t u):=by
 intro pins s σ H vs us Q I r h;obtain ⟨v,Z,Y,h⟩:=h;subst Y;cases r with
 | cons r W =>rw [O];refine assignInOrder_cons (thn (h1 pins s σ H _ _ _ I r h) fun _ s1 ⟨q,H1,U,q1⟩=>?_);exact h2 pins s1 q H1 _ _ Q U W q1
def gTup (K:xA9) (n:Nat) (t:TGs):TG:=fun v σ H Q=>∃ a xs,v=.ref a/\SqT K H a xs/\xs.length=n/\t xs σ H Q
theorem yQ {k:Nat} {t:TGs} (hc:X.calm=true) (h:PGs X es t)
 (W:(qi4 es X.env).length=n:=by rfl) (O:(qi4 es X.env).findIdx? (·.1)=none:=by rfl):PG X (.Tuple es k pos) (gTup X.K n t):=by
 intro pins s σ H v u Q I r q;obtain ⟨a,xs,e1,hq,hl,q⟩:=q;subst e1;cases r;obtain ⟨its,U,ht,hz⟩:=I.tuple hq;refine assign_Tuple_tuple (I.ok.hd hc) ht (by simp [W,<- hl,U.length]) O fun h' Y=>?_
 have Z:Inv X pins σ H {s with heap:=h'}:=I.kept (t':=s.toks) fun b o e=>Y b o (qb9 (qa7 e)) e
 exact h pins _ σ H xs _ Q Z (by simpa using U) q
def gSub (to ti:TE) (t:yP):TG:=fun v σ H Q=>to σ H fun o H1=>ti σ H1 fun i H2=>t o i v H2 fun q=>Q σ q
theorem yR {o i:Expr} {to ti:TE} {t:yP} (Y:PE X o to) (hi:PE X i ti) (W:PSet X t)
  (ha:∀ v,zd5 (.Subscript o i pos) X.env v=(do
   let q <- zd6 [v] (eval o X.env);let O <- zd6 [v,q] (eval i X.env)
   standAt pos
   zd6 [v,q,O] (setItem q O v)
   release [v,q,O] []):=by intro _;rfl):PG X (.Subscript o i pos) (gSub to ti t):=by
 intro pins s σ H v u Q I r h;rw [ha];refine wB (qh4 (thn (Y pins s σ H _ I h) fun q s1 ⟨x,H1,I1,r1,q1⟩=>?_));refine wB (qh4 (thn (hi pins s1 σ H1 _ I1 q1) fun O s2 ⟨y,H2,I2,r2,q2⟩=>?_));refine wB (za7 (wB (qh4 (thn (W pins s2 σ H2 x y v q O u _ I2 r1 r2 r q2) fun _ s3 ⟨U,I3,Z⟩=>?_))));exact wpAny_release ⟨σ,U,I3,Z⟩
def vQ (te:TE) (g:TG):TS:=fun D σ H=>te σ H fun x H1=>g x σ H1 D.nx
theorem sE (Y:PE X e te) (Z:PG X tg g) (O:zg6 [tg] e pos.line X.env=pure false:=by rfl) (W:zg7 [tg] e X.env=pure none:=by rfl)
 (h1:(qi4 [tg] X.env).map (·.2)=[zd5 tg X.env]:=by rfl):PS X (.Assign [tg] e pos) (vQ te g):=by
 intro pins s σ H D I h;refine wpAny_Assign_stores (thn (Y pins s σ H _ I h) fun v s1 ⟨x,H1,U,r1,q1⟩=>?_) O W;rw [h1];exact thn (Z pins s1 σ H1 x v _ U r1 q1) fun _ s2 q=>q
theorem yS (W:X.N.Nodup) (hi:X.N[i]?=some x) (O:Loc X.env.scope x) (Y:PE X e te) (q:qm0 e (some (.Name x pos')) pos.line X.env=pure false:=by rfl) (hf:X.fn x=true∨X.env.scope.names.lookup x=some .local:=by first | exact .inl rfl | exact .inr rfl | assumption) :
  PS X (.Assign [.Name x pos'] e pos) (vQ te (jb i)):=by
 intro pins s σ H D I h;refine wpAny_Assign_Name (thn (Y pins s σ H _ I h) fun v s1 ⟨y,H1,U,r1,q1⟩=>?_) q;exact gz U W hi O r1 (fun s2 Z=>⟨_,H1,Z,q1⟩) hf
def tAug (i:Nat) (te:TE) (ti:TIp):TS:=fun D σ H=>∃ x,σ[i]?=some (some x)/\te σ H fun y H1=>ti x y H1 fun z H2=>D.nx (σ.set i (some z)) H2
theorem yT {U:Operator} {ti:TIp} (hN:X.N.Nodup) (hi:X.N[i]?=some x) (W:Loc X.env.scope x) (he:PE X e te) (ho:PIp X U ti) (hf:X.fn x=true∨X.env.scope.names.lookup x=some .local:=by first | exact .inl rfl | exact .inr rfl | assumption) :
  PS X (.AugAssign (.Name x pos') U e pos) (tAug i te ti):=by
 intro pins s σ H D I h;obtain ⟨v,e1,h⟩:=h;obtain ⟨m,hn,hl⟩:=I.loc;have Y:Vis X.env.scope x:=by rcases W with k | k;exact .inl k;exact .inr (.inl k)
 obtain ⟨u,r,l⟩:=hl i x v hi e1 Y;refine wpAny_AugAssign_Name ?_
 have Z:wpAny (model X.prog X.w) X.A (eval e X.env) (fun w O=>wpAny (model X.prog X.w) X.A (inplaceOp U u w) (fun r s₃=>wpAny (model X.prog X.w) X.A (zd2 X.env x r) (fun _=>SP X pins D .next) X.xe s₃) X.xe O) X.xe s:=by
  refine thn (he pins s σ H _ I h) fun w s1 ⟨y,H1,I1,r1,q1⟩=>?_
  refine thn (ho pins s1 σ H1 v y u w _ I1 r r1 q1) fun z s2 ⟨zv,H2,I2,r2,q2⟩=>?_
  exact gz I2 hN hi W r2 (fun s3 I3=>⟨_,H2,I3,q2⟩) hf
 rcases l with ⟨hk,hm⟩ | ⟨hk,c,hc,q⟩
 . exact wpAny_loadName_local I.ok.kind hk hn hm Z
 . rcases hk with hk | hk
   . exact wpAny_loadName_cell I.ok.kind hk hc q Z
   . rcases W with k | k
     . have:X.env.scope.names.lookup x=some .free:=hk;rw [k] at this;cases this
     . have:X.env.scope.names.lookup x=some .free:=hk;rw [k] at this;cases this
def ipI (f:Int->Int->Int):TIp:=fun x y H Q=>∃ i j,x=.int i/\y=.int j/\Q (.int (f i j)) H
theorem yU:PIp X .Add (ipI fun i j=>i+j):=by intro pins s σ H x y v u Q I O U h;obtain ⟨i,j,W,Y,q⟩:=h;subst W;subst Y;obtain ⟨t,rfl⟩:=O;obtain ⟨t',rfl⟩:=U;exact iadd_int ⟨.int _,H,I.tok _,⟨_,rfl⟩,q⟩
end
variable {body:List Stmt} {tb:TS}
section
variable {X:Cx} {pos:Pos}
noncomputable def yV (c:TT) (tb:TS):TS:=fun D σ H=>∃ W:Nat->St->Hp->Prop,(∃ m,W m σ H)/\∀ m σ H,W m σ H→
 c σ H fun b H1=>if b=true then ∃ N:St->Hp->Prop,(∀ q H',N q H'->∃ O,O<m/\W O q H')/\tb {D with nx:=N,ct:=N,bk:=D.nx} σ H1 else D.nx σ H1
theorem sF (hp:zj1 (model X.prog X.w) X.A X.env X.xe) (hc:PT X c tc) (hb:PSs X body tb):PS X (.While c body [] pos) (yV tc tb):=by
 intro pins s σ H D I h;obtain ⟨W,⟨m0,w0⟩,Z⟩:=h;refine wpAny_While (codeAny_whileLoop (fun n s'=>∃ Y H',Inv X pins Y H' s'/\W n Y H') ?_ m0 ⟨σ,H,I,w0⟩);rintro n s1 ⟨O,H1,I1,w1⟩;refine qn1 hp (thn (hc pins s1 O H1 _ I1 (Z n O H1 w1)) fun b s2 ⟨H2,I2,q2⟩=>?_);cases b with
 | true =>
  obtain ⟨N,hN,q2⟩:=q2;rw [if_pos rfl];refine qn1 hp (thn (hb pins s2 O H2 _ I2 q2) fun f s3 q3=>?_);cases f with
  | next =>obtain ⟨q,U,I3,n3⟩:=q3;obtain ⟨m',hm,w3⟩:=hN q U n3;exact ⟨m',hm,q,U,I3,w3⟩
  | cont =>obtain ⟨q,U,I3,n3⟩:=q3;obtain ⟨m',hm,w3⟩:=hN q U n3;exact ⟨m',hm,q,U,I3,w3⟩
  | brk=>exact q3
  | ret v=>exact q3
 | false =>rw [if_neg qb6];exact qw2 ⟨O,H2,I2,q2⟩
end
structure It where
 go:Nat->Hp->Prop
 yld:Nat->Hp->V->Hp->Prop
 stop:Nat->Hp->Prop
def fU (X:Cx) (pins:List (Addr×Obj)) (H:Hp) (b:Addr):Prop:=H b=none/\b≠X.env.locals/\b∉X.fs/\(b∈X.ex∨X.s₀.heap.objs.size<=b)/\(∀ x c,X.env.cells.lookup x=some c->c≠b)/\∀ p∈X.pn++pins,p.1≠b
theorem Inv.fpOk {H':Hp} (I:Inv X pins σ H s) (O:s.heap.objs.size<=b) (U:H' b=none):fU X pins H' b:=by
 refine ⟨U,qm1 (qc2 I.lt O),I.nofs O,.inr (qc1 I.sz O),fun x c e z=>?_,fun p hp z=>?_⟩
 . obtain ⟨v,q⟩:=I.cell x c e;exact absurd (qc2 q.lt (by rw [z];exact O)) (qo2 _)
 . exact absurd (qc2 (qa7 (I.pin p hp).1) (by rw [z];exact O)) (qo2 _)
structure Turn (P:qc8) (w:World) (K:xA9) (tg:Expr) (J:It) (fp:List Addr) (it:Addr) (tn:Nat->Heap->Prop):Prop where
 mem:it∈fp
 obj:∀ i h,tn i h->∀ b∈fp,∃ o,h.get? b=some o/\∀ v,o.data≠.cell v
 keep:∀ i h h',tn i h->(∀ b∈fp,∀ o,h.get? b=some o->h'.get? b=some o)->tn i h'
 item:∀ (X:Cx),X.prog=P->X.w=w->X.K=K->X.calm=true->∀ (i:Nat) (pins:List (Addr×Obj)) (s:qa4) (σ:St) (H:Hp) (E:Value->qa4->Prop),Inv X pins σ H s->(∀ b∈fp,fU X pins H b)->tn i s.heap->J.go i H→
  wpAny (model P w) X.A (qy0 (.ref it)) (fun r s1=>∃ u,r=some u∧wpAny (model P w) X.A (qw3 tg (.ref it) u) (fun _ s2=>∃ x H',Inv X pins σ H' s2/\RelV x u/\J.yld i H x H'/\tn (i+1) s2.heap/\∀ b∈fp,H' b=none) E s1) E s
 done:∀ (X:Cx),X.prog=P->X.w=w->X.K=K->X.calm=true->∀ (i:Nat) (pins:List (Addr×Obj)) (s:qa4) (σ:St) (H:Hp) (E:Value->qa4->Prop),Inv X pins σ H s->(∀ b∈fp,fU X pins H b)->tn i s.heap->J.stop i H→
  wpAny (model P w) X.A (qy0 (.ref it)) (fun r s1=>r=none/\Inv X pins σ H s1) E s
 self:∀ (A:qd5) (i:Nat) (s:qa4) (Q:Value->qa4->Prop) (E:Value->qa4->Prop),tn i s.heap->Q (.ref it) s->wpAny (model P w) A (zj2 (.ref it)) Q E s
abbrev TI:=St->Hp->(It->Hp->Prop)->Prop
noncomputable def PIE (X:Cx) (pins:List (Addr×Obj)) (σ:St) (tg:Expr) (R:It->Hp->Prop) (q:Value) (O:qa4):Prop:=∃ (it:Addr) (fp:List Addr) (U:Nat->Heap->Prop) (J:It) (H':Hp),q=.ref it/\Inv X pins σ H' O/\Turn X.prog X.w X.K tg J fp it U/\U 0 O.heap/\(∀ b∈fp,fU X pins H' b)/\R J H'
noncomputable def PI (X:Cx) (tg iter:Expr) (wi:TI):Prop:=
 ∀ (pins:List (Addr×Obj)) (s:qa4) (σ:St) (H:Hp) (R:It->Hp->Prop),Inv X pins σ H s->wi σ H R→
  wpAny (model X.prog X.w) X.A (eval iter X.env) (fun v s1=>wpAny (model X.prog X.w) X.A (zj2 v) (PIE X pins σ tg R) X.xe s1) X.xe s
theorem mt {o:Obj} {n:String} {vs:Array Value} (W:s.heap.get? it=some o) (U:o.cls=.type n) (Y:o.data=.fields vs)
 (O:["enumerate","zip","dict_itemiterator","dict_reverseitemiterator","odict_iterator","itertools.zip_longest","itertools.pairwise"].contains n=false) (q:Q () s):wpAny M A (qw3 tg (.ref it) u) Q E s:=by
 unfold qw3
 cases tg<;>first
  | exact qa2 q
  | (cases u<;>first
      | exact qa2 q
      | (refine wB (wpAny_load W ?_)
         rw [U,Y];show wpAny M A (if (["enumerate","zip","dict_itemiterator","dict_reverseitemiterator","odict_iterator","itertools.zip_longest","itertools.pairwise"].contains n&&vs[0]?==some (qf2 _))=true then _ else _) Q E s;rw [if_neg (by intro h;rw [O,zf6] at h;cases h)];exact qa2 q))
def Itl (K:xA9) (a:Addr):It:=⟨fun i H=>∃ xs x,SqL K H a xs/\xs[i]?=some x,fun i H x H'=>H'=H/\∀ xs,SqL K H a xs->xs[i]?=some x,fun i H=>∃ xs,SqL K H a xs/\xs.length<=i⟩
def Itt (K:xA9) (a:Addr):It:=⟨fun i H=>∃ xs x,SqT K H a xs/\xs[i]?=some x,fun i H x H'=>H'=H/\∀ xs,SqT K H a xs->xs[i]?=some x,fun i H=>∃ xs,SqT K H a xs/\xs.length<=i⟩
def Itr (lo:Int) (n:Nat):It:=⟨fun i _=>i<n,fun i H x H'=>H'=H/\x=.int (lo+i),fun i _=>n<=i⟩
theorem qQ (a it:Addr):Turn P w K tg (Itl K a) [it] it (fun i h=>h.IsListIter it a i) where
 mem:=by simp
 obj:=fun i h st b q=>by
  have e:b=it:=by simpa using q
  subst e;obtain ⟨o,e,c,d⟩:=st;exact ⟨o,e,fun v z=>by rw [d] at z;cases z⟩
 keep:=fun i h h' st k=>st.at fun o e=>k it (by simp) o e
 item:=by
  intro X hP Z hK hc i pins s σ H E I W st hg;subst hP Z hK;obtain ⟨xs,x,U,hx⟩:=hg;obtain ⟨its,rv,p,hz⟩:=I.list U;obtain ⟨u,hu,ru⟩:=rv.get hx;obtain ⟨f0,f1,f2,Y,f4,f5⟩:=W it (by simp);refine wpAny_pyNext_list_item st p.isList (x:=u) (by simpa using hu) fun h' O sb=>?_
  have I1:Inv X pins σ H {s with heap:=h'}:=I.turned (t':=s.toks) (fun b o q e=>(sb.2 b q).trans e) f0 f1 Y f4 f5;obtain ⟨o,e,c,d⟩:=id O;exact ⟨u,rfl,mt (s:={s with heap:=h'}) e c d (by decide) ⟨x,H,I1,ru,⟨rfl,fun ys hy=>by rw [I.list_inj hy U];exact hx⟩,O,fun b q=>(W b q).1⟩⟩
 done:=by intro X hP Z hK hc i pins s σ H E I W st hg;subst hP Z hK;obtain ⟨xs,U,hx⟩:=hg;obtain ⟨its,rv,p,hz⟩:=I.list U;obtain ⟨f0,f1,f2,Y,f4,f5⟩:=W it (by simp);have hl:=rv.length;exact wpAny_pyNext_list_end (I.ok.hd hc) st p.isList (by simp;lia) fun h' eb=>⟨rfl,I.turned (t':=s.toks) (fun b o q e=>eb b o q e) f0 f1 Y f4 f5⟩
 self:=fun _ _ _ _ _ st h=>wpAny_pyIter_listiter st h
theorem nV (a it:Addr):Turn P w K tg (Itt K a) [it] it (fun i h=>h.IsTupleIter it a i) where
 mem:=by simp
 obj:=fun i h st b q=>by
  have e:b=it:=by simpa using q
  subst e;obtain ⟨o,e,c,d⟩:=st;exact ⟨o,e,fun v z=>by rw [d] at z;cases z⟩
 keep:=fun i h h' st k=>st.at fun o e=>k it (by simp) o e
 item:=by
  intro X hP Z hK hc i pins s σ H E I W st hg;subst hP Z hK;obtain ⟨xs,x,U,hx⟩:=hg;obtain ⟨its,rv,p,hz⟩:=I.tuple U;obtain ⟨u,hu,ru⟩:=rv.get hx;obtain ⟨f0,f1,f2,Y,f4,f5⟩:=W it (by simp);refine wpAny_pyNext_tuple_item st (show s.heap.IsTuple a its.toArray from p) (x:=u) (by simpa using hu) fun h' O sb=>?_
  have I1:Inv X pins σ H {s with heap:=h'}:=I.turned (t':=s.toks) (fun b o q e=>(sb.2 b q).trans e) f0 f1 Y f4 f5;obtain ⟨o,e,c,d⟩:=id O;exact ⟨u,rfl,mt (s:={s with heap:=h'}) e c d (by decide) ⟨x,H,I1,ru,⟨rfl,fun ys hy=>by rw [I.tuple_inj hy U];exact hx⟩,O,fun b q=>(W b q).1⟩⟩
 done:=by intro X hP Z hK hc i pins s σ H E I W st hg;subst hP Z hK;obtain ⟨xs,U,hx⟩:=hg;obtain ⟨its,rv,p,hz⟩:=I.tuple U;obtain ⟨f0,f1,f2,Y,f4,f5⟩:=W it (by simp);have hl:=rv.length;exact wpAny_pyNext_tuple_end (I.ok.hd hc) st (show s.heap.IsTuple a its.toArray from p) (by simp;lia) fun h' eb=>⟨rfl,I.turned (t':=s.toks) (fun b o q e=>eb b o q e) f0 f1 Y f4 f5⟩
 self:=fun _ _ _ _ _ st h=>wpAny_pyIter_tupleiter st h
theorem nW {w:World} (it:Addr) (lo:Int) (n:Nat):Turn P w K tg (Itr lo n) [it] it (fun i h=>IsRangeIter h it (lo+(i:Nat)*1) ((n:Int)-(i:Nat)) 1) where
 mem:=by simp
 obj:=fun i h st b q=>by
  have e:b=it:=by simpa using q
  subst e
  exact ⟨_,st,fun v z=>by have z':Data.fields _=Data.cell v:=z;cases z'⟩
 keep:=fun i h h' st k=>k it (by simp) _ st
 item:=by
  intro X hP Z hK hc i pins s σ H E I U st hg;subst hP Z hK;obtain ⟨f0,f1,f2,Y,f4,f5⟩:=U it (by simp);have W:=Walks.range (prog:=X.prog) (w:=X.w) (I.ok.hd hc) it lo 1 n;refine W.item i s _ _ hg st fun v h' tk hv O kk=>?_
  obtain ⟨t,rfl⟩:=hv;have I1:Inv X pins σ H {s with heap:=h',toks:=tk}:=I.turned (fun b o q e=>kk b o (by simpa using q) e) f0 f1 Y f4 f5;refine ⟨_,rfl,mt (s:={s with heap:=h',toks:=tk}) (n:="range_iterator") O rfl rfl (by decide) ⟨.int (lo+i),H,I1,⟨t,?_⟩,⟨rfl,rfl⟩,O,fun b q=>(U b q).1⟩⟩;rw [Int.mul_one]
 done:=by intro X hP Z hK hc i pins s σ H E I U st hg;subst hP Z hK;obtain ⟨f0,f1,f2,Y,f4,f5⟩:=U it (by simp);exact wpAny_pyNext_range_end (I.ok.hd hc) st (by have:n<=i:=hg;lia) fun h' eb=>⟨rfl,I.turned (t':=s.toks) (fun b o q e=>eb b o q e) f0 f1 Y f4 f5⟩
 self:=fun _ _ _ _ _ st h=>wpAny_pyIter_rangeiter st h
variable {l:Expr} {tl:TE} {ta:TA} {p:Pos} {fp:List Addr}
section
variable {X:Cx} {tg:Expr}
def Bt (K:xA9) (tl:TE):TI:=fun σ H R=>tl σ H fun x H1=>∃ a,x=.ref a/\(∃ xs,SqL K H1 a xs)/\R (Itl K a) H1
def iTup (K:xA9) (tl:TE):TI:=fun σ H R=>tl σ H fun x H1=>∃ a,x=.ref a/\(∃ xs,SqT K H1 a xs)/\R (Itt K a) H1
theorem pB (W:PE X l tl):PI X tg l (Bt X.K tl):=by
 intro pins s σ H R I h;refine thn (W pins s σ H _ I h) fun v s1 ⟨x,H1,O,Y,q1⟩=>?_
 obtain ⟨a,e,⟨xs,Z⟩,q⟩:=q1;subst e;cases Y;obtain ⟨its,rv,p,hz⟩:=O.list Z;refine qz3 p.isList ?_;refine ⟨s1.heap.objs.size,[s1.heap.objs.size],_,_,H1,rfl,O.kept (t':=s1.toks) fun b o e=>gP _ e,qQ a _,⟨_,qa8 _ rfl,rfl,rfl⟩,fun b U=>?_,q⟩;have e:b=s1.heap.objs.size:=by simpa using U
 subst e;exact O.fpOk (nL _) (O.hok.fresh (nL _))
theorem sG (W:PE X l tl):PI X tg l (iTup X.K tl):=by
 intro pins s σ H R I h;refine thn (W pins s σ H _ I h) fun v s1 ⟨x,H1,O,Y,q1⟩=>?_
 obtain ⟨a,e,⟨xs,Z⟩,q⟩:=q1;subst e;cases Y;obtain ⟨its,rv,p,hz⟩:=O.tuple Z;refine qy1 (show s1.heap.IsTuple a its.toArray from p) ?_;refine ⟨s1.heap.objs.size,[s1.heap.objs.size],_,_,H1,rfl,O.kept (t':=s1.toks) fun b o e=>gP _ e,nV a _,⟨_,qa8 _ rfl,rfl,rfl⟩,fun b U=>?_,q⟩;have e:b=s1.heap.objs.size:=by simpa using U
 subst e;exact O.fpOk (nL _) (O.hok.fresh (nL _))
theorem mw {R:It->Hp->Prop} {lo hi:Int} {t u v:Tok} {tk:Nat} (I:Inv X pins σ H s) (h1:-(2^62)<=lo) (h2:lo<2^62) (h3:-(2^62)<=hi) (W:hi<2^62)
 (q:R (Itr lo (hi-lo).toNat) H):wpAny (model X.prog X.w) X.A (zj2 (.ref s.heap.objs.size)) (PIE X pins σ tg R) E {s with heap:=s.heap.push {cls:=.type "range",data:=.fields #[.int lo t,.int hi u,.int 1 v]},toks:=tk}:=by
 refine wpAny_pyIter_range (IsRange.new ..) (small_one h1 h2 h3 W) ?_;have O:Inv X pins σ H {s with heap:=s.heap.push {cls:=.type "range",data:=.fields #[.int lo t,.int hi u,.int 1 v]},toks:=tk}:=I.kept fun b o e=>gP _ e
 refine ⟨(s.heap.push {cls:=.type "range",data:=.fields #[.int lo t,.int hi u,.int 1 v]}).objs.size,[(s.heap.push {cls:=.type "range",data:=.fields #[.int lo t,.int hi u,.int 1 v]}).objs.size],_,_,H,rfl,O.kept (t':=tk) fun b o e=>gP _ e,nW _ lo (hi-lo).toNat,?_,fun b U=>?_,q⟩
 . have Y:lo+((0:Nat):Int)*1=lo:=by simp
   have Z:(((hi-lo).toNat:Nat):Int)-((0:Nat):Int)=qh5.Range.rangeSize lo hi 1:=by rw [rangeSize_one];split<;>lia
   show IsRangeIter _ _ (lo+((0:Nat):Int)*1) ((((hi-lo).toNat:Nat):Int)-((0:Nat):Int)) 1;rw [Y,Z];exact qa8 _ rfl
 . have e:b=(s.heap.push {cls:=.type "range",data:=.fields #[.int lo t,.int hi u,.int 1 v]}).objs.size:=by simpa using U
   subst e;exact O.fpOk (nL _) (O.hok.fresh (nL _))
def xI (ta:TA):TI:=fun σ H R=>ta σ H fun vs H1=>∃ j:Int,vs=[.int j]/\-(2^62)<=j/\j<2^62/\R (Itr 0 j.toNat) H1
def xJ (ta:TA):TI:=fun σ H R=>ta σ H fun vs H1=>∃ i j:Int,vs=[.int i,.int j]/\(-(2^62)<=i/\i<2^62/\-(2^62)<=j/\j<2^62)/\R (Itr i (j-i).toNat) H1
theorem qR {a:Expr} (Z:Gl X "range") (hm:X.mg "range"=none) (Y:PA X [a] ta) (O:qa6 [a] X.env=[(false,eval a X.env)]:=by rfl):PI X tg (.Call (.Name "range" p) [a] [] pos) (xI ta):=by
 intro pins s σ H R I h;refine Call_ (eR I Z hm boot_range (qg5 (thn (Y pos pins s σ H _ I h) fun us s1 ⟨vs,H1,U,r1,q1⟩=>?_) O rfl));obtain ⟨j,e,q1,q2,q⟩:=q1;subst e;cases r1 with
 | cons r W =>cases W;obtain ⟨t,rfl⟩:=r;exact call_range_1 (mw U (by lia) (by lia) q1 q2 (by simpa using q))
theorem qS {a b:Expr} (hg:Gl X "range") (hm:X.mg "range"=none) (ha:PA X [a,b] ta) (W:qa6 [a,b] X.env=[(false,eval a X.env),(false,eval b X.env)]:=by rfl) (O:qa6 [b] X.env=[(false,eval b X.env)]:=by rfl) :
  PI X tg (.Call (.Name "range" p) [a,b] [] pos) (xJ ta):=by
 intro pins s σ H R I h;refine Call_ (eR I hg hm boot_range (qg5 (thn (ha pos pins s σ H _ I h) fun us s1 ⟨vs,H1,I1,r1,q1⟩=>?_) (by rw [W,O]) (by rw [O];rfl)));obtain ⟨i,j,e,⟨q1,q2,Z,Y⟩,q⟩:=q1;subst e;cases r1 with
 | cons r U =>
  cases U with
  | cons r' U =>cases U;obtain ⟨t,rfl⟩:=r;obtain ⟨t',rfl⟩:=r';exact call_range_2 (mw I1 q1 q2 Z Y q)
noncomputable def tFor (wi:TI) (g:TG) (tb:TS):TS:=fun D σ H=>wi σ H fun J H1=>∃ W:Nat->Nat->St->Hp->Prop,(∃ m,W 0 m σ H1)/\∀ i m σ H,W i m σ H→ (J.stop i H/\D.nx σ H)∨(J.go i H/\∃ N:St->Hp->Prop,(∀ q H',N q H'->∃ U,U<m/\W (i+1) U q H')/\∀ x H',J.yld i H x H'->g x σ H' fun O H2=>tb {D with nx:=N,ct:=N,bk:=D.nx} O H2)
def ic (fp:List Addr) (h:Heap):List (Addr×Obj):=fp.filterMap fun b=>(h.get? b).map fun o=>(b,o)
theorem c5 {o:Obj} (q:b∈fp) (e:h.get? b=some o):(b,o)∈ic fp h:=qy2.mpr ⟨b,q,by rw [e];rfl⟩
theorem qT {p:Addr×Obj} (hp:p∈ic fp h):p.1∈fp/\h.get? p.1=some p.2:=by
 obtain ⟨b,O,e⟩:=qy2.mp hp;cases q:h.get? b with
 | none=>rw [q] at e;cases e
 | some o =>rw [q] at e;have U:(b,o)=p:=qd6 e;subst U;exact ⟨O,q⟩
theorem Inv.pinned (I:Inv X pins σ H s) (W:∀ b∈fp,fU X pins H b) (U:∀ b∈fp,∃ o,s.heap.get? b=some o/\∀ v,o.data≠.cell v):Inv X (pins++ic fp s.heap) σ H s:=
 I.pins_of fun p hp=>(qf8.mp hp).elim (fun z=>I.pin p (qc5 _ z)) fun z=>by
  obtain ⟨q,e⟩:=qT z;obtain ⟨f0,f1,f2,_⟩:=W p.1 q;obtain ⟨o,O,d⟩:=U p.1 q;rw [e] at O;cases O
  exact ⟨e,f0,f1,f2,d⟩
theorem Inv.unpinned {q:List (Addr×Obj)} (I:Inv X (pins++q) σ H s):Inv X pins σ H s:=I.pins_of fun p hp=>I.pin p (qc5 _ (qg2 _ hp))
theorem yW {iter:Expr} {wi:TI} (hp:zj1 (model X.prog X.w) X.A X.env X.xe) (hc:X.calm=true) (hi:PI X tg iter wi) (hg:PG X tg g) (hb:PSs X body tb)
 (hs:∀ x,qh6 iter X.env x=pure x:=by intro _;rfl):PS X (.For tg iter body [] pos) (tFor wi g tb):=by
 intro pins s σ H D I h;refine wpAny_For (thn (hi pins s σ H _ I h) fun v s1 h1=>thn h1 fun itv s2 h2=>?_) hs;obtain ⟨it,fp,tn,J,H2,e,I2,T,st2,f2,W,⟨m0,w0⟩,turn⟩:=h2;subst e
 -- what stays true of the iterator's objects through the loop
 have U:∀ {H':Hp},(∀ b∈fp,H' b=none)->∀ b∈fp,fU X pins H' b:=fun hn b hb=>⟨hn b hb,(f2 b hb).2⟩
 refine codeAny_forLoop_any (fun n s'=>∃ i σ' H',Inv X pins σ' H' s'/\tn i s'.heap/\(∀ b∈fp,H' b=none)/\W i n σ' H') ?_ m0 ⟨0,σ,H2,I2,st2,fun b hb=>(f2 b hb).1,w0⟩;rintro n s3 ⟨i,Z,H3,I3,st3,fr3,w3⟩;rcases turn i n Z H3 w3 with ⟨stop,qn⟩ | ⟨go,N,hN,step⟩
 . refine qn1 hp (thn (T.done X rfl rfl rfl hc i pins s3 Z H3 X.xe I3 (U fr3) st3 stop) fun r s4 ⟨hr,I4⟩=>?_);subst hr;exact qw2 ⟨Z,H3,I4,qn⟩
 . refine qn1 hp (thn (T.item X rfl rfl rfl hc i pins s3 Z H3 X.xe I3 (U fr3) st3 go) fun r s4 ⟨u,hr,h4⟩=>?_);subst hr;refine qn1 hp (thn h4 fun _ s5 ⟨x,H5,I5,r5,y5,st5,fr5⟩=>?_);have I5':=I5.pinned (U fr5) (T.obj _ _ st5);refine qn1 hp (thn (hg _ s5 Z H5 x u _ I5' r5 (step x H5 y5)) fun _ s6 ⟨σ6,H6,I6,q6⟩=>?_);refine qn1 hp (thn (hb _ s6 σ6 H6 _ I6 q6) fun f s7 q7=>?_)
   have Y:∀ {q:St} {H7:Hp},Inv X (pins++ic fp s5.heap) q H7 s7->N q H7->∃ m,m<n/\∃ i σ' H',Inv X pins σ' H' s7/\tn i s7.heap/\(∀ b∈fp,H' b=none)/\W i m σ' H':=fun {q H7} O n7=>by obtain ⟨m',hm,w7⟩:=hN q H7 n7;refine ⟨m',hm,i+1,q,H7,O.unpinned,T.keep _ _ _ st5 fun b hb o e=>(O.pin (b,o) (qc5 _ (qc5 _ (c5 hb e)))).1,fun b hb=>?_,w7⟩;obtain ⟨o,e,d⟩:=T.obj _ _ st5 b hb;exact (O.pin (b,o) (qc5 _ (qc5 _ (c5 hb e)))).2.1
   cases f with
   | next=>obtain ⟨q,H7,O,n7⟩:=q7;exact Y O n7
   | cont=>obtain ⟨q,H7,O,n7⟩:=q7;exact Y O n7
   | brk=>obtain ⟨q,H7,O,q7⟩:=q7;exact ⟨q,H7,O.unpinned,q7⟩
   | ret v=>obtain ⟨x7,q,H7,O,r7,q7⟩:=q7;exact ⟨x7,q,H7,O.unpinned,r7,q7⟩
end
abbrev R2:=V->V->Hp->VK->Prop
noncomputable def OpR (X:Cx) (f:Value->Value->Sem Value) (r:R2):Prop:=
 ∀ (pins:List (Addr×Obj)) (s:qa4) (σ:St) (H:Hp) (x y:V) (v u:Value) (Q:VK),Inv X pins σ H s->RelV x v->RelV y u->r x y H Q→
  wpAny (model X.prog X.w) X.A (f v u) (EP X pins σ Q) X.xe s
noncomputable def UnR (X:Cx) (f:Value->Sem Value) (r:V->Hp->VK->Prop):Prop:=
 ∀ (pins:List (Addr×Obj)) (s:qa4) (σ:St) (H:Hp) (x:V) (v:Value) (Q:VK),Inv X pins σ H s->RelV x v->r x H Q→
  wpAny (model X.prog X.w) X.A (f v) (EP X pins σ Q) X.xe s
noncomputable def cL (X:Cx) (f:Value) (r:List V->Hp->VK->Prop):Prop:=
 ∀ (pins:List (Addr×Obj)) (s:qa4) (σ:St) (H:Hp) (xs:List V) (us:List Value) (Q:VK),Inv X pins σ H s->Vals xs us->r xs H Q→
  wpAny (model X.prog X.w) X.A (call f us) (EP X pins σ Q) X.xe s
noncomputable def TruR (X:Cx) (r:V->Hp->(Bool->Hp->Prop)->Prop):Prop:=
 ∀ (pins:List (Addr×Obj)) (s:qa4) (σ:St) (H:Hp) (x:V) (v:Value) (Q:Bool->Hp->Prop),Inv X pins σ H s->RelV x v->r x H Q→
  wpAny (model X.prog X.w) X.A (truthy v) (TP X pins σ Q) X.xe s
def tOp (r:R2) (ta tb:TE):TE:=fun σ H Q=>ta σ H fun x H1=>tb σ H1 fun y H2=>r x y H2 Q
def tUn (r:V->Hp->VK->Prop) (ta:TE):TE:=fun σ H Q=>ta σ H fun x H1=>r x H1 Q
def rI (C:Int->Int->Prop) (g:Int->Int->V):R2:=fun x y H Q=>∃ i j,x=.int i/\y=.int j/\C i j/\Q (g i j) H
def rI0 (g:Int->Int->V):R2:=fun x y H Q=>∃ i j,x=.int i/\y=.int j/\Q (g i j) H
def rU (g:Int->V):V->Hp->VK->Prop:=fun x H Q=>∃ i,x=.int i/\Q (g i) H
variable {f:Value->Value->Sem Value} {r:R2}
section
variable {X:Cx} {a b c:Expr} {ta tb tc:TE} {pos:Pos}
theorem yX (Y:PE X a ta) (hb:PE X b tb) (I:Inv X pins σ H s)
 (h:ta σ H fun x H1=>tb σ H1 fun y H2=>R x y H2) {Q:Value->qa4->Prop} 
 (hf:∀ v u U x y H2,Inv X pins σ H2 U->RelV x v->RelV y u->R x y H2->wpAny (model X.prog X.w) X.A (f v u) Q X.xe U) :
  wpAny (model X.prog X.w) X.A (eval a X.env) (fun v q=>wpAny (model X.prog X.w) X.A (eval b X.env) (fun u O=>wpAny (model X.prog X.w) X.A (f v u) Q X.xe O) X.xe q) X.xe s:=by
 refine thn (Y pins s σ H _ I h) fun v s1 ⟨x,H1,W,r1,q1⟩=>?_
 refine thn (hb pins s1 σ H1 _ W q1) fun u U ⟨y,H2,Z,r2,q2⟩=>?_
 exact hf v u U x y H2 Z r1 r2 q2
theorem Bu {O:Operator} (Y:OpR X (qk1 O) r) (W:PE X a ta) (hb:PE X b tb):PE X (.BinOp a O b pos) (tOp r ta tb):=by intro pins s σ H Q I h;exact wpAny_BinOp (yX W hb I h fun v u Z x y H2 I2 rx U q=>Y pins Z σ H2 x y v u Q I2 rx U q)
theorem Bv {q:UnaryOp} {r:V->Hp->VK->Prop} (W:UnR X (unaryOp q) r) (U:PE X a ta):PE X (.UnaryOp q a pos) (tUn r ta):=by intro pins s σ H Q I h;exact UnaryOp_ (thn (U pins s σ H _ I h) fun v s1 ⟨x,H1,O,Y,q1⟩=>W pins s1 σ H1 x v Q O Y q1)
theorem opI {C:Int->Int->Prop} {g:Int->Int->Int}
 (O:∀ (i j:Int) (t u:Tok) (s:qa4) (Q:Value->qa4->Prop) (E:Value->qa4->Prop),C i j->Q (.int (g i j) s.toks) {s with toks:=s.toks+1}->wpAny (model X.prog X.w) X.A (f (.int i t) (.int j u)) Q E s) :
  OpR X f (rI C fun i j=>.int (g i j)):=by
 intro pins s σ H x y v u Q I Y U h;obtain ⟨i,j,rfl,rfl,W,q⟩:=h;obtain ⟨t,rfl⟩:=Y;obtain ⟨t',rfl⟩:=U;exact O i j t t' s _ _ W ⟨.int (g i j),H,I.tok _,⟨_,rfl⟩,q⟩
theorem opI0 {g:Int->Int->Int}
 (O:∀ (i j:Int) (t u:Tok) (s:qa4) (Q:Value->qa4->Prop) (E:Value->qa4->Prop),Q (.int (g i j) s.toks) {s with toks:=s.toks+1}->wpAny (model X.prog X.w) X.A (f (.int i t) (.int j u)) Q E s) :
  OpR X f (rI0 fun i j=>.int (g i j)):=by
 intro pins s σ H x y v u Q I W U h;obtain ⟨i,j,rfl,rfl,q⟩:=h;obtain ⟨t,rfl⟩:=W;obtain ⟨t',rfl⟩:=U;exact O i j t t' s _ _ ⟨.int (g i j),H,I.tok _,⟨_,rfl⟩,q⟩
theorem opB0 {g:Int->Int->Bool}
 (O:∀ (i j:Int) (t u:Tok) (s:qa4) (Q:Value->qa4->Prop) (E:Value->qa4->Prop),Q (.bool (g i j)) s->wpAny (model X.prog X.w) X.A (f (.int i t) (.int j u)) Q E s) :
  OpR X f (rI0 fun i j=>.bl (g i j)):=by
 intro pins s σ H x y v u Q I W U h;obtain ⟨i,j,rfl,rfl,q⟩:=h;obtain ⟨t,rfl⟩:=W;obtain ⟨t',rfl⟩:=U;exact O i j t t' s _ _ ⟨.bl (g i j),H,I,rfl,q⟩
def yY (i j:Int):Prop:=0<=j/\j<=1000000/\i.natAbs<2^64
def CMul (i j:Int):Prop:=(-(2^64)<i/\i<2^64)∨(-(2^64)<j/\j<2^64)
theorem CMul.ok {i j:Int} (h:CMul i j):IntMulOk i j:=by
 rcases h with ⟨h1,h2⟩ | ⟨h1,h2⟩
 . exact .of_left (intBits_le_64 h1 h2)
 . exact .of_right (intBits_le_64 h1 h2)
theorem yZ:OpR X (qk1 .Add) (rI0 fun i j=>.int (i+j)):=opI0 fun _ _ _ _ _ _ _ q=>add_int q
theorem gd:OpR X (qk1 .Sub) (rI0 fun i j=>.int (i-j)):=opI0 fun _ _ _ _ _ _ _ q=>sub_int q
theorem gh:OpR X (qk1 .Mult) (rI CMul fun i j=>.int (i*j)):=opI fun _ _ _ _ _ _ _ O q=>mul_int q O.ok
theorem cB:OpR X (qk1 .Mod) (rI (fun _ j=>0<j) fun i j=>.int (i%j)):=opI fun i j _ _ _ _ _ O q=>by have h1:(0:Int)<j:=O;exact mod_int' (by lia) (by rw [Int.fmod_eq_emod_of_nonneg i (by lia)];exact q)
theorem gi:OpR X (qk1 .Pow) (rI yY fun i j=>.int (i^j.toNat)):=opI fun _ _ _ _ _ _ _ O q=>pow_int_small O.1 O.2.1 O.2.2 q
theorem unI {f:Value->Sem Value} {g:Int->Int}
  (O:∀ (i:Int) (t:Tok) (s:qa4) (Q:Value->qa4->Prop) (E:Value->qa4->Prop),Q (.int (g i) s.toks) {s with toks:=s.toks+1}->wpAny (model X.prog X.w) X.A (f (.int i t)) Q E s) :
  UnR X f (rU fun i=>.int (g i)):=by
 intro pins s σ H x v Q I U h;obtain ⟨i,rfl,q⟩:=h;obtain ⟨t,rfl⟩:=U;exact O i t s _ _ ⟨.int (g i),H,I.tok _,⟨_,rfl⟩,q⟩
theorem y0:UnR X (unaryOp .USub) (rU fun i=>.int (-i)):=unI fun _ _ _ _ _ q=>neg_int q
end
noncomputable def zb:V->V->Bool
 | .non,.non=>true | .non,.int _=>true | .int _,.non=>true | .non,.bl _=>true | .bl _,.non=>true | .non,.str _=>true | .str _,.non=>true
 | .int _,.int _=>true | .bl _,.bl _=>true | .str _,.str _=>true | .byt _,.byt _=>true
 | .int _,.str _=>true | .str _,.int _=>true | .bl _,.str _=>true | .str _,.bl _=>true
 | _,_=>false
def rEq:R2:=fun x y H Q=>zb x y=true/\Q (.bl (decide (x=y))) H
def rNe:R2:=fun x y H Q=>zb x y=true/\Q (.bl (!decide (x=y))) H
theorem pC {i j:Int}:decide (V.int i=V.int j)=(i==j):=by rw [qh2];simp
theorem sH {i j:Bool}:decide (V.bl i=V.bl j)=(i==j):=by rw [qh2];simp
theorem pE {i j:Str}:decide (V.str i=V.str j)=(i==j):=by rw [qh2];simp
theorem pF {i j:Array UInt8}:decide (V.byt i=V.byt j)=(i.toList==j.toList):=by rw [qh2];cases i;cases j;simp
section
variable {X:Cx} {a b c:Expr} {ta tb tc:TE} {pos:Pos}
theorem bf {Q:VK} {k k':Bool} (I:Inv X pins σ H s) (q:Q (.bl k) H) (e:k=k'):EP X pins σ Q (.bool k') s:=by subst e;exact ⟨.bl k,H,I,rfl,q⟩
theorem Bw:OpR X (qg4 .Eq) rEq:=by
 intro pins s σ H x y v u Q I Y O h;obtain ⟨U,q⟩:=h;cases x with
 | non =>
  cases Y;cases y with
  | non=>cases O;exact PySem.EqNone.eq_none_none (bf I q (by simp))
  | bl j=>cases O;exact PySem.EqNone.eq_none_bool (bf I q (by simp))
  | int j=>obtain ⟨t',rfl⟩:=O;exact PySem.EqNone.eq_none_int (bf I q (by simp))
  | str j=>obtain ⟨t',rfl⟩:=O;exact PySem.EqNone.eq_none_str (bf I q (by simp))
  | _=>exact absurd (show false=true from U) qb6
 | bl i =>
  cases Y;cases y with
  | non=>cases O;exact PySem.EqNone.eq_bool_none (bf I q (by simp))
  | bl j=>cases O;exact eq_bool (bf I q sH)
  | str j=>obtain ⟨t',rfl⟩:=O;exact PySem.EqMixed.eq_bool_str (bf I q (by simp))
  | _=>exact absurd (show false=true from U) qb6
 | int i =>
  obtain ⟨t,rfl⟩:=Y;cases y with
  | non=>cases O;exact PySem.EqNone.eq_int_none (bf I q (by simp))
  | int j=>obtain ⟨t',rfl⟩:=O;exact eq_int (bf I q pC)
  | str j=>obtain ⟨t',rfl⟩:=O;exact PySem.EqMixed.eq_int_str (bf I q (by simp))
  | _=>exact absurd (show false=true from U) qb6
 | str i =>
  obtain ⟨t,rfl⟩:=Y;cases y with
  | non=>cases O;exact PySem.EqNone.eq_str_none (bf I q (by simp))
  | bl j=>cases O;exact PySem.EqMixed.eq_str_bool (bf I q (by simp))
  | int j=>obtain ⟨t',rfl⟩:=O;exact PySem.EqMixed.eq_str_int (bf I q (by simp))
  | str j=>obtain ⟨t',rfl⟩:=O;exact eq_str (bf I q pE)
  | _=>exact absurd (show false=true from U) qb6
 | byt i =>
  obtain ⟨t,rfl⟩:=Y;cases y with
  | byt j=>obtain ⟨t',rfl⟩:=O;exact PySem.W.eq_bytes (bf I q pF)
  | _=>exact absurd (show false=true from U) qb6
 | _=>cases y<;>exact absurd (show false=true from U) qb6
theorem Bx:OpR X (qg4 .NotEq) rNe:=by
 intro pins s σ H x y v u Q I Y O h;obtain ⟨U,q⟩:=h;cases x with
 | non =>
  cases Y;cases y with
  | non=>cases O;exact PySem.EqNone.ne_none_none (bf I q (by simp))
  | bl j=>cases O;exact PySem.EqNone.ne_none_bool (bf I q (by simp))
  | int j=>obtain ⟨t',rfl⟩:=O;exact PySem.EqNone.ne_none_int (bf I q (by simp))
  | str j=>obtain ⟨t',rfl⟩:=O;exact PySem.EqNone.ne_none_str (bf I q (by simp))
  | _=>exact absurd (show false=true from U) qb6
 | bl i =>
  cases Y;cases y with
  | non=>cases O;exact PySem.EqNone.ne_bool_none (bf I q (by simp))
  | bl j=>cases O;exact ne_bool (bf I q (congrArg not sH))
  | str j=>obtain ⟨t',rfl⟩:=O;exact PySem.EqMixed.ne_bool_str (bf I q (by simp))
  | _=>exact absurd (show false=true from U) qb6
 | int i =>
  obtain ⟨t,rfl⟩:=Y;cases y with
  | non=>cases O;exact PySem.EqNone.ne_int_none (bf I q (by simp))
  | int j=>obtain ⟨t',rfl⟩:=O;exact ne_int (bf I q (congrArg not pC))
  | str j=>obtain ⟨t',rfl⟩:=O;exact PySem.EqMixed.ne_int_str (bf I q (by simp))
  | _=>exact absurd (show false=true from U) qb6
 | str i =>
  obtain ⟨t,rfl⟩:=Y;cases y with
  | non=>cases O;exact PySem.EqNone.ne_str_none (bf I q (by simp))
  | bl j=>cases O;exact PySem.EqMixed.ne_str_bool (bf I q (by simp))
  | int j=>obtain ⟨t',rfl⟩:=O;exact PySem.EqMixed.ne_str_int (bf I q (by simp))
  | str j=>obtain ⟨t',rfl⟩:=O;exact ne_str (bf I q (congrArg not pE))
  | _=>exact absurd (show false=true from U) qb6
 | byt i =>
  obtain ⟨t,rfl⟩:=Y;cases y with
  | byt j=>obtain ⟨t',rfl⟩:=O;exact PySem.W.ne_bytes (bf I q (congrArg not pF))
  | _=>exact absurd (show false=true from U) qb6
 | _=>cases y<;>exact absurd (show false=true from U) qb6
theorem mx:OpR X (qg4 .Lt) (rI0 fun i j=>.bl (decide (i<j))):=opB0 fun _ _ _ _ _ _ _ q=>lt_int q
theorem xK:OpR X (qg4 .Gt) (rI0 fun i j=>.bl (decide (j<i))):=opB0 fun _ _ _ _ _ _ _ q=>gt_int q
theorem qU:OpR X (qg4 .In) (fun x y H Q=>∃ i j,x=.str i/\y=.str j/\Q (.bl (!(qh0 j i 0 j.length 1).isEmpty)) H):=by intro pins s σ H x y v u Q I U O h;obtain ⟨i,j,rfl,rfl,q⟩:=h;obtain ⟨t,rfl⟩:=U;obtain ⟨t',rfl⟩:=O;exact in_str (bf I q rfl)
theorem sI:OpR X (qg4 .Is) (fun x y H Q=>y=.non/\Q (.bl (decide (x=.non))) H):=by
 intro pins s σ H x y v u Q I O U h;obtain ⟨rfl,q⟩:=h;cases U;refine is_none_gen (bf I q ?_)
 cases x<;>first
  | (cases O;rfl)
  | (obtain ⟨t,rfl⟩:=O;rfl)
theorem vR:OpR X (qg4 .IsNot) (fun x y H Q=>y=.non/\Q (.bl (!decide (x=.non))) H):=by
 intro pins s σ H x y v u Q I O U h;obtain ⟨rfl,q⟩:=h;cases U;refine isnot_none_gen (bf I q ?_)
 cases x<;>first
  | (cases O;rfl)
  | (obtain ⟨t,rfl⟩:=O;rfl)
theorem OpR.or {U:R2} (h:OpR X f r) (h':OpR X f U):OpR X f (fun x y H Q=>r x y H Q∨U x y H Q):=by
 intro pins s σ H x y v u Q I W O q;rcases q with q | q
 . exact h pins s σ H x y v u Q I W O q
 . exact h' pins s σ H x y v u Q I W O q
theorem aL (b:Expr) {q:CmpOp} (h:q≠.In:=by decide) (h2:q≠.NotIn:=by decide):qk5 q b=false:=by
 have O:(q==CmpOp.In)=false:=by cases q<;>first | rfl | exact absurd rfl h
 have U:(q==CmpOp.NotIn)=false:=by cases q<;>first | rfl | exact absurd rfl h2
 cases b<;>simp [qk5,O,U]
theorem vS {O:CmpOp} (Y:OpR X (qg4 O) r) (W:PE X a ta) (hb:PE X b tb) (hm:qk5 O b=false):PE X (.Compare a [O] [b] pos) (tOp r ta tb):=by intro pins s σ H Q I h;exact wpAny_Compare1 (yX W hb I h fun v u Z x y H2 I2 rx U q=>Y pins Z σ H2 x y v u Q I2 rx U q) hm
def By (t:TE):TT:=fun σ H Q=>t σ H fun x H'=>∃ k,x=.bl k/\Q k H'
theorem lj {q:CmpOp} (U:OpR X (qg4 q) r) (ha:PE X a ta) (hb:PE X b tb) (hm:qk5 q b=false):PT X (.Compare a [q] [b] pos) (By (tOp r ta tb)):=by
 intro pins s σ H Q I h
 refine zd4 (thn (ha pins s σ H _ I h) fun v s1 ⟨x,H1,I1,r1,q1⟩=>thn (hb pins s1 σ H1 _ I1 q1) fun u s2 ⟨y,H2,I2,Z,q2⟩ =>thn (U pins s2 σ H2 x y v u _ I2 r1 Z q2) fun c s3 ⟨z,O,I3,Y,k,e,W⟩=>?_) hm
 subst e;cases Y;exact ql0 ⟨O,I3,W⟩
noncomputable def zd (K:xA9) (x:V) (H:Hp) (k:Bool):Prop:=
 match x with
 | .non=>k=false
 | .bl b=>k=b
 | .int i=>k=(i != 0)
 | .str y=>y.length<=qb0/\k=((y.length:Int) != 0)
 | .byt y=>y.size<=qb0/\k=((y.size:Int) != 0)
 | .ref p=>(∃ xs,SqL K H p xs/\k=!xs.isEmpty)∨(∃ xs,SqT K H p xs/\k=!xs.isEmpty)∨∃ kvs,H p=some (.dK kvs)/\k=!kvs.isEmpty
 | _=>False
theorem nX {κ:Type} {kvs:List (κ×V)} {vs:List (κ×Value)} (r:KV kvs vs):(!vs.isEmpty)=!kvs.isEmpty:=by cases r<;>rfl
theorem jc {its:List Value} (r:Vals xs its):(!its.toArray.isEmpty)=!xs.isEmpty:=by cases r<;>simp
theorem ie:(qb0:Nat)<2^63:=by rw [qw4];decide
theorem ze:TruR X (fun x H Q=>∃ k,zd X.K x H k/\Q k H):=by
 intro pins s σ H x v Q I rx h;obtain ⟨k,e,q⟩:=h;have hl:=ie;have hs:qb0=16777216:=qw4;cases x with
 | non =>cases rx;have e':k=false:=e;subst e';exact truthy_none ⟨H,I,q⟩
 | bl b =>cases rx;have e':k=b:=e;subst e';exact ql0 ⟨H,I,q⟩
 | int i =>obtain ⟨t,rfl⟩:=rx;have e':k=(i != 0):=e;subst e';exact PySem.P.truthy_int ⟨H,I,q⟩
 | str y =>obtain ⟨t,rfl⟩:=rx;obtain ⟨hy,e'⟩:y.length<=qb0/\k=((y.length:Int) != 0):=e;subst e';exact PySem.P.truthy_str (by lia) ⟨H,I.tok _,q⟩
 | byt y =>obtain ⟨t,rfl⟩:=rx;obtain ⟨hy,e'⟩:y.size<=qb0/\k=((y.size:Int) != 0):=e;subst e';exact PySem.W.truthy_bytes (by lia) ⟨H,I.tok _,q⟩
 | ref p =>
  cases rx;have e':(∃ xs,SqL X.K H p xs/\k=!xs.isEmpty)∨(∃ xs,SqT X.K H p xs/\k=!xs.isEmpty)∨∃ kvs,H p=some (.dK kvs)/\k=!kvs.isEmpty:=e;rcases e' with ⟨xs,hx,e'⟩ | ⟨xs,hx,e'⟩ | ⟨kvs,hx,e'⟩
  . subst e';obtain ⟨its,r,pl,hz⟩:=I.list hx;have hlen:=r.length;exact wpAny_truthy_list pl.isList (by simp only [qb2];lia) ⟨H,I.tok _,by rw [jc r];exact q⟩
  . subst e';obtain ⟨its,r,pl,hz⟩:=I.tuple hx;have hlen:=r.length;exact truthy_tuple pl (by simp only [qb2];lia) ⟨H,I.tok _,by rw [jc r];exact q⟩
  . subst e';obtain ⟨hz,hS,vs,r,m⟩:kvs.length<=qb0/\(p==qk8)=false/\∃ vs,KV kvs vs/\s.heap.DictOf (bM X.prog X.w) p vs:=I.hok p _ hx;have hlen:kvs.length=vs.length:=Paired.length r;exact wpAny_truthy_dict hS m (by lia) ⟨H,I.tok _,by rw [nX r];exact q⟩
 | _=>exact (show False from e).elim
theorem sJ (U:PE X a ta) (W:∀ q,isTrue a X.env q=(do let v <- q;standAt a.pos;zd6 [v] (truthy v))) :
  PT X a (fun σ H Q=>ta σ H fun x H'=>∃ k,zd X.K x H' k/\Q k H'):=by
 intro pins s σ H Q I h;exact isTrue_plain (thn (U pins s σ H _ I h) fun v s1 ⟨x,H1,O,Y,q1⟩=>ze pins s1 σ H1 x v Q O Y q1) (W _)
theorem nY:OpR X (qk1 .Add) (fun x y H Q=>∃ i j,x=.str i/\y=.str j/\i.length+j.length<=qb0/\Q (.str (i++j)) H):=by intro pins s σ H x y v u Q I W O h;obtain ⟨i,j,rfl,rfl,U,q⟩:=h;obtain ⟨t,rfl⟩:=W;obtain ⟨t',rfl⟩:=O;exact add_str (fun t' tk=>⟨.str (i++j),H,I.tok _,⟨_,rfl⟩,q⟩) U
theorem fV {x:V} (r:Vals [x] us):∃ u,us=[u]/\RelV x u:=by
 cases r with
 | cons O q=>cases q;exact ⟨_,rfl,O⟩
theorem sK {x:V} (r:Vals [x,y] us):∃ u w',us=[u,w']/\RelV x u/\RelV y w':=by
 cases r with
 | cons W U =>
  cases U with
  | cons q O=>cases O;exact ⟨_,_,rfl,W,q⟩
theorem qV (U:X.calm=true):cL X (.builtin "max") (fun xs H Q=>∃ i j,xs=[.int i,.int j]/\Q (.int (if j > i then j else i)) H):=by
 intro pins s σ H xs us Q I r h;obtain ⟨i,j,rfl,q⟩:=h;obtain ⟨u,W,rfl,⟨t,rfl⟩,⟨t',rfl⟩⟩:=sK r;refine max_two_ints (I.ok.hd U) fun h' tk k=>⟨_,H,I.kept k,?_,q⟩
 by_cases O:j > i
 . rw [if_pos O,if_pos O];exact ⟨_,rfl⟩
 . rw [if_neg O,if_neg O];exact ⟨_,rfl⟩
theorem qW (U:X.calm=true):cL X (.builtin "min") (fun xs H Q=>∃ i j,xs=[.int i,.int j]/\Q (.int (if j<i then j else i)) H):=by
 intro pins s σ H xs us Q I r h;obtain ⟨i,j,rfl,q⟩:=h;obtain ⟨u,W,rfl,⟨t,rfl⟩,⟨t',rfl⟩⟩:=sK r;refine min_two_ints (I.ok.hd U) fun h' tk k=>⟨_,H,I.kept k,?_,q⟩
 by_cases O:j<i
 . rw [if_pos O,if_pos O];exact ⟨_,rfl⟩
 . rw [if_neg O,if_neg O];exact ⟨_,rfl⟩
noncomputable def LenV (K:xA9) (x:V) (H:Hp) (n:Nat):Prop:=
 match x with
 | .str y=>y.length<=qb0/\n=y.length
 | .byt y=>y.size<=qb0/\n=y.size
 | .ref p=>(∃ xs,SqL K H p xs/\n=xs.length)∨∃ xs,SqT K H p xs/\n=xs.length
 | _=>False
theorem bj:cL X (.builtin "len") (fun xs H Q=>∃ x n,xs=[x]/\LenV X.K x H n/\Q (.int n) H):=by
 intro pins s σ H xs us Q I r h;obtain ⟨x,n,rfl,e,q⟩:=h;obtain ⟨u,rfl,rx⟩:=fV r;have hl:=ie;have hs:qb0=16777216:=qw4;cases x with
 | str y =>obtain ⟨t,rfl⟩:=rx;obtain ⟨hy,e'⟩:y.length<=qb0/\n=y.length:=e;subst e';exact len_str (by lia) ⟨.int _,H,I.tok _,⟨_,rfl⟩,q⟩
 | byt y =>obtain ⟨t,rfl⟩:=rx;obtain ⟨hy,e'⟩:y.size<=qb0/\n=y.size:=e;subst e';exact PySem.W.len_bytes (by lia) ⟨.int _,H,I.tok _,⟨_,rfl⟩,q⟩
 | ref p =>
  cases rx;have e':(∃ xs,SqL X.K H p xs/\n=xs.length)∨∃ xs,SqT X.K H p xs/\n=xs.length:=e;rcases e' with ⟨xs,hx,e'⟩ | ⟨xs,hx,e'⟩
  . subst e';obtain ⟨its,r',pl,hz⟩:=I.list hx;have hlen:=r'.length;exact Calls.call_len_list pl.isList (by simp only [qb2];lia) ⟨.int xs.length,H,I.tok _,⟨_,by simp only [qb2];rw [hlen]⟩,q⟩
  . subst e';obtain ⟨its,r',pl,hz⟩:=I.tuple hx;have hlen:=r'.length;exact len_tuple pl (by simp only [qb2];lia) ⟨.int xs.length,H,I.tok _,⟨_,by simp only [qb2];rw [hlen]⟩,q⟩
 | _=>exact (show False from e).elim
end
structure ObjM (h:Heap) (x dx C:Addr) (mA:Str->Option Value):Prop where
 obj:h.get? x=some (xO9 C dx)
 ns:h.Ns1 dx mA
 ne:dx≠x
variable {dx:Addr} {mA:Str->Option Value}
theorem qX (n:h.Ns1 dx mA):∃ od,h.get? dx=some od/\∀ name,PySem.W.lookIn name od=some (mA name):=by
 obtain ⟨o,es,ep,Z,hd,hk,_,hm⟩:=n;refine ⟨o,Z,fun name=>?_⟩;have e:=hm name;unfold nsFind findBy at e;rw [<- Array.find?_toList] at e;unfold PySem.W.lookIn;rw [hd];dsimp only;split
 . rename_i y q;rw [q] at e;exact congrArg some e
 . rename_i q;rw [q] at e
   have a:es.toList.any (·.refKey)=false:=by rw [List.any_eq_false];intro y U;obtain ⟨z,t,O⟩:=hk y (Array.mem_toList_iff.mp U);simp [DictEntry.refKey,O]
   have Y:¬ es.toList.any (·.refKey)=true:=by rw [a];exact qb6
   rw [if_neg Y];exact congrArg some e
variable {C:Addr}
theorem ObjM.look {x:Addr} (I:ObjM h x dx C mA):∃ od,PySem.W.InstAt h x (xO9 C dx) C (some od)/\∀ name,PySem.W.lookIn name od=some (mA name):=
 let ⟨od,ho,hl⟩:=qX I.ns
 ⟨od,⟨I.obj,rfl,rfl,ho⟩,hl⟩
section
variable {prog:qc8} {w:World} {A:qd5} {E:Value->qa4->Prop} {s:qa4} {K:xA9} {x dx C f:Addr} {mA:Str->Option Value} {name:Str} {v:Value}
end
theorem RelO.some_of {o:Option Value} (r:RelO (some v) o):∃ u,o=some u/\RelV v u:=by
 cases o with
 | none=>exact (show False from r).elim
 | some u=>exact ⟨u,rfl,r⟩
section
variable {P:qc8} {w:World} {H H':Hp} {h h':Heap} {a C dx:Addr} {fs fs':List (Str×V)}
theorem vT (O:HOk P w H h) (e:H a=some (.ins C dx fs)):∃ mA,ObjM h a dx C mA/\(∀ f,RelO (fs.lookup f) (mA f))/\PySem.Within mA (fs.map (·.1))/\fs.length<=1000/\H dx=some (.own a):=by obtain ⟨d,z,ne,ob,mA,n,r,q⟩:=(show ObjOk P w H h a (.ins C dx fs) from O a _ e);exact ⟨mA,⟨ob,n,ne⟩,r,q,z,d⟩
end
structure Cls (K:xA9) (C:Addr):Prop where
 pg:PySem.W.plainGet K C Str.empty=true
 hd:PySem.W.hasDictIn K C=true
 po:PySem.W.plainOver K C=true
 sa:PySem.W.findIn K (.ref C) "__setattr__"=some (some (.builtin "object.__setattr__"))
theorem Cls.get (c:Cls K C) (f:Str):PySem.W.plainGet K C f=true:=c.pg
section
variable {X:Cx} {pins:List (Addr×Obj)} {σ:St} {H:Hp} {s:qa4} {a C dx:Addr} {fs:List (Str×V)} {f:Str} {v:V} {A:qd5} {E:Value->qa4->Prop}
end
section
variable {X:Cx} {o e value:Expr} {f:Str} {pos pos' tpos:Pos} {ta tv:TE}
end
section
variable {X:Cx} {pins:List (Addr×Obj)} {σ:St} {H:Hp} {s:qa4} {A:qd5} {E:Value->qa4->Prop} {Q:Value->qa4->Prop} {c:Value} {b:Bool}
inductive TyOf (K:xA9) (H:Hp):V->Value->Prop where
 | non:TyOf K H .non (.type "NoneType")
 | bl (x:Bool):TyOf K H (.bl x) (.type "bool")
 | int (i:Int):TyOf K H (.int i) (.type "int")
 | str (x:Str):TyOf K H (.str x) (.type "str")
 | flt (x:UInt64):TyOf K H (.flt x) (.type "float")
 | lst {a:Addr} {xs:List V} (e:H a=some (.lst xs)):TyOf K H (.ref a) (.type "list")
 | frz {a:Addr} {o:Obj} {xs:List V} (e:H a=some (.frz o (.lst xs))):TyOf K H (.ref a) (.type "list")
 | tup {a:Addr} {xs:List V} (e:H a=some (.tup xs)):TyOf K H (.ref a) (.type "tuple")
 | dK {a:Addr} {kvs:List (Key×V)} (e:H a=some (.dK kvs)):TyOf K H (.ref a) (.type "dict")
 | dT {a:Addr} {kvs:List (List Key×V)} (e:H a=some (.dT kvs)):TyOf K H (.ref a) (.type "dict")
 | ins {a C dx:Addr} {fs:List (Str×V)} (e:H a=some (.ins C dx fs)) (cl:Cls K C) (ha:PySem.W.findIn K (.ref C) "__class__"=some (some (.builtin "object.__class__")))
     (hn:PySem.W.specialIn K (.builtin "object.__class__") "__get__"=some (some (.builtin "getset_descriptor.__get__"))) (htk:PySem.W.takesIn K (.builtin "object.__class__")=some true)
     (hm:PySem.W.mroIn K C (.type "object")=some true):TyOf K H (.ref a) (.ref C)
theorem fL {x:V} {t:Value} (I:Inv X pins σ H s) (Y:RelV x u) (ty:TyOf X.K H x t) (e:xK9 X.K t c=some b) (h:∀ tk,Q (.bool b) {s with toks:=tk}) :
  wpAny (model X.prog X.w) A (call (.builtin "isinstance") [u,c]) Q E s:=by
 cases ty with
 | non=>cases (show u=qh1 from Y);exact xD9 PySem.W.kitx_none I.kIn qr6 e (fun z=>nomatch z) h
 | bl y=>cases (show u=qv6 y from Y);exact xD9 PySem.W.kitx_bool I.kIn qr6 e (fun z=>nomatch z) h
 | int i=>obtain ⟨t,q⟩:=(show ∃ t,u=zi9 i t from Y);cases q;exact xD9 PySem.W.kitx_int I.kIn qr6 e (fun z=>nomatch z) h
 | str y=>obtain ⟨t,q⟩:=(show ∃ t,u=zj0 y t from Y);cases q;exact xD9 PySem.W.kitx_str I.kIn qr6 e (fun z=>nomatch z) h
 | flt y=>obtain ⟨t,q⟩:=(show ∃ t,u=Value.float y t from Y);cases q;exact xD9 PySem.W.kitx_float I.kIn qr6 e (fun z=>nomatch z) h
 | @lst a xs U =>cases (show u=qf1 a from Y);obtain ⟨_,_,n,_,h1⟩:=(show ObjOk X.prog X.w H s.heap a (.lst xs) from I.hok a _ U);exact xD9 xQ9 I.kIn ⟨_,h1,rfl⟩ e (fun z=>nomatch z) h
 | @frz a ob xs U =>cases (show u=qf1 a from Y);obtain ⟨_,_,_,n,_,h1⟩:=(show ObjOk X.prog X.w H s.heap a (.frz ob (.lst xs)) from I.hok a _ U);exact xD9 xQ9 I.kIn ⟨_,h1,rfl⟩ e (fun z=>nomatch z) h
 | @tup a xs U =>cases (show u=qf1 a from Y);obtain ⟨_,_,_,p⟩:=(show ObjOk X.prog X.w H s.heap a (.tup xs) from I.hok a _ U);obtain ⟨o,h1,h2,_⟩:=p;exact xD9 PySem.W.kitx_tuple I.kIn ⟨o,h1,h2⟩ e (fun z=>nomatch z) h
 | @dK a kvs U =>cases (show u=qf1 a from Y);obtain ⟨_,_,vs,_,p⟩:=(show ObjOk X.prog X.w H s.heap a (.dK kvs) from I.hok a _ U);obtain ⟨o,es,ep,h1,h2,_⟩:=p;exact xD9 xL9 I.kIn ⟨o,h1,h2.1⟩ e (fun z=>nomatch z) h
 | @dT a kvs U =>cases (show u=qf1 a from Y);obtain ⟨_,_,xs,_,o,es,ep,h1,h2,_⟩:=(show ObjOk X.prog X.w H s.heap a (.dT kvs) from I.hok a _ U);exact xD9 xL9 I.kIn ⟨o,h1,h2.1⟩ e (fun z=>nomatch z) h
 | @ins a C dx fs U cl ha hn Z hm =>cases (show u=qf1 a from Y);obtain ⟨mA,O,_⟩:=vT I.hok U;obtain ⟨od,J,_⟩:=O.look;exact xD9 (PySem.W.kitx_own (cl.get _) cl.hd ha hn Z hm) I.kIn J e (fun z=>nomatch z) h
end
structure Room (k:Nat) (A:qd5):Prop where
 hd:A.handled=none
 dp:A.depth+3*k+5<recursionLimit
 un:A.units+16*k+200<cLine
theorem Room.mono {k:Nat} (r:Room k A) (h:j<=k):Room j A:=⟨r.hd,by have:=r.dp;lia,by have:=r.un;lia⟩
theorem Room.deeper {k:Nat} (r:Room (k+1) A) (env:Env):Room k (A.deeper env):=⟨r.hd,by have:=r.dp;show A.depth+1+3*k+5<_;lia,by have:=r.un;show A.units+3+16*k+200<_;lia⟩
theorem Room.depth {k:Nat} (r:Room k A):A.depth<recursionLimit:=by have:=r.dp;lia
theorem Room.units {k:Nat} (r:Room k A):A.units+64<cLine:=by have:=r.un;lia
def tNil:TA:=fun _ H Q=>Q [] H
def Bz (ta:TE) (q:TA):TA:=fun σ H Q=>ta σ H fun x H1=>q σ H1 fun xs H2=>Q (x::xs) H2
section
variable {X:Cx} {e:Expr} {es:List Expr} {te:TE} {t:TA} {pos:Pos}
theorem eT:PA X [] tNil:=fun _ _ _ _ H Q I h=>Calls.spliced_nil ⟨[],H,I,.nil,h⟩
theorem cS (U:PE X e te) (Z:PA X es t) (q:qa6 (e::es) X.env=(false,eval e X.env)::qa6 es X.env:=by rfl):PA X (e::es) (Bz te t):=by intro pos pins s σ H Q I h;rw [q];show wpAny _ _ (spliced ((false,eval e X.env)::qk0 pos (qa6 es X.env))) _ _ s;refine Calls.spliced_cons (thn (U pins s σ H _ I h) fun u s1 ⟨x,H1,O,r1,q1⟩=>?_);exact thn (Z pos pins s1 σ H1 _ O q1) fun us s2 ⟨xs,H2,W,Y,q2⟩=>⟨x::xs,H2,W,.cons r1 Y,q2⟩
def tTup (t:TA):TE:=fun σ H Q=>t σ H fun xs H1=>xs.length<=qb0/\∀ p,H1 p=none->Q (.ref p) (upd H1 p (.tup xs))
def tLst (t:TA):TE:=fun σ H Q=>t σ H fun xs H1=>xs.length<=qb0/\∀ p,H1 p=none->Q (.ref p) (upd H1 p (.lst xs))
theorem zf {x1} (h:PA X es t):PE X (.Tuple es x1 pos) (tTup t):=by intro pins s σ H Q I W;refine wpAny_Tuple_spliced (thn (h pos pins s σ H _ I W) fun us s1 ⟨xs,H1,O,r,z,q⟩=>⟨by rw [<- r.length];exact z,?_⟩);have U:H1 s1.heap.objs.size=none:=O.hok.fresh (nL _);refine ⟨.ref s1.heap.objs.size,upd H1 s1.heap.objs.size (.tup xs),O.laid (t':=s1.toks) (fun b u e=>gP _ e) (nL _) ?_,rfl,q _ U⟩;exact ⟨z,us,r,⟨_,qa8 _ rfl,rfl,_,rfl⟩⟩
theorem zg (h:PA X es t):PE X (.List es pos) (tLst t):=by intro pins s σ H Q I W;refine wpAny_List_spliced (thn (h pos pins s σ H _ I W) fun us s1 ⟨xs,H1,O,r,z,q⟩=>⟨by rw [<- r.length];exact z,?_⟩);have U:H1 s1.heap.objs.size=none:=O.hok.fresh (nL _);refine ⟨.ref s1.heap.objs.size,upd H1 s1.heap.objs.size (.lst xs),O.laid (t':=s1.toks) (fun b u e=>gP _ e) (nL _) ?_,rfl,q _ U⟩;exact ⟨z,us,0,r,qa8 _ rfl⟩
end
abbrev Sp:=List V->Hp->VK->XK->Prop
abbrev CXT:=List Env->Hp->qa4->XK->Value->qa4->Prop
structure Env0 (P:qc8) (w:World) (K:xA9) (mg:Str->Option Value) (base:Heap) (A:qd5) (outer:List Env) (s:qa4) (H:Hp):Prop where
 frames:A.frames=some outer
 mod:Mod K mg base
 bs:∀ b o,base.get? b=some o->s.heap.get? b=some o/\H b=none
 bsz:base.objs.size<=s.heap.objs.size
 funs:s.heap.FunFrames base outer
 frf:∀ b∈frs outer,H b=none
 hok:HOk P w H s.heap
 bare:zd1 s.gens
 tb:∀ p∈c4 K,H p.1=some (.ctab p.2)
def CE (outer:List Env) (P:qc8) (w:World) (H:Hp) (s:qa4) (Q:VK) (u:Value) (s':qa4):Prop:=∃ v H',s'.os=s.os/\zd1 s'.gens/\Un (frs outer) [] H H' s.heap s'.heap/\HOk P w H' s'.heap/\RelV v u/\Q v H'
def CR (CX:CXT) (outer:List Env) (P:qc8) (w:World) (H:Hp) (s:qa4) (Q:VK) (E:XK) (r:Result) (s':qa4):Prop:=
 match r with
 | .ok (.ret u)=>CE outer P w H s Q u s'
 | .ok _=>False
 | .error e=>CX outer H s E e s'
structure FnOk (P:qc8) (w:World) (K:xA9) (mg:Str->Option Value) (base:Heap) (CX:CXT) (k:Nat) (f:Addr) (fd:qp9) (ps:List Str) (sp:Sp):Prop where
 len:∀ vs H Q E,sp vs H Q E->vs.length=ps.length
 run:∀ (A:qd5) (outer:List Env) (s:qa4) (H:Hp) (args:Args) (us:List Value) (vs:List V) (Q:VK) (E:XK),Room k A->Env0 P w K mg base A outer s H->za8 s fd args (ps.zip us)->Vals vs us->sp vs H Q E→
  qq5 (model P w) A (.call (.ref f) args) (CR CX outer P w H s Q E) s
variable {mg:Str->Option Value} {base:Heap} {CX:CXT} {fd:qp9} {ps:List Str} {sp:Sp}
theorem FnOk.imp {k:Nat} {f:Addr} {U:Sp} (F:FnOk P w K mg base CX k f fd ps sp)
 (h:∀ vs H Q E,U vs H Q E->sp vs H Q E):FnOk P w K mg base CX k f fd ps U:=
 ⟨fun vs H Q E q=>F.len vs H Q E (h _ _ _ _ q),fun A outer s H O us vs Q E hr Z hb Y W=>F.run A outer s H O us vs Q E hr Z hb Y (h _ _ _ _ W)⟩
section
variable {X:Cx} {pins:List (Addr×Obj)} {σ:St} {H:Hp} {s s':qa4}
theorem Inv.env0 (I:Inv X pins σ H s):Env0 X.prog X.w X.K X.mg X.base X.A X.stack s H:=⟨I.ok.frames,I.ok.mod,I.bs,qc1 I.ok.bsz I.sz,I.stack,I.stkFree,I.hok,I.bare,fun p hp=>I.base.cts _ _ (I.ok.tb p hp)⟩
theorem Inv.after {Q:VK} (I:Inv X pins σ H s) (h:CE X.stack X.prog X.w H s Q u s'):EP X pins σ Q u s':=by obtain ⟨v,H',os,O,un,U,r,q⟩:=h;obtain ⟨Y,g,d,t,W⟩:=s';obtain rfl:W=s.os:=os;exact ⟨v,H',I.call (h':=Y) (g':=g) (d':=d) (t':=t) (ch:=[]) un U O (fun b z=>absurd z (by simp)),r,q⟩
end
def sL (sp:Sp) (dvs:List V) (E:XK) (t:TA):TE:=fun σ H Q=>t σ H fun vs H1=>sp (vs++dvs) H1 Q E
def Binds (K:xA9) (fd:qp9) (ps:List Str) (ds:List Value):Prop:=∀ (s:qa4) (us:List Value),K.In s.heap->(us++ds).length=ps.length->za8 s fd ⟨us,[]⟩ (ps.zip (us++ds))
theorem Binds.all (h:∀ us:List Value,us.length=ps.length->zg8 fd ⟨us,[]⟩=pure (ps.zip us)):Binds K fd ps []:=fun s us _ q=>by rw [qi0] at q ⊢;exact .of_eq (h us q)
def nZ (CX:CXT) (X:Cx) (E:XK):Prop:=∀ (pins:List (Addr×Obj)) (σ:St) (H:Hp) (s:qa4) (e:Value) (s':qa4),Inv X pins σ H s->CX X.stack H s E e s'->X.xe e s'
variable {vs:List V}
section
variable {X:Cx} {CX:CXT} {k:Nat} {f C:Addr} {fd:qp9} {ps:List Str} {sp:Sp} {dvs:List V} {ds:List Value} {E:XK} {x m:Str} {p pos apos:Pos} {e o:Expr} {es:List Expr} {ta:TE} {t:TA}
theorem zh {Q:VK} (F:FnOk X.prog X.w X.K X.mg X.base CX k f fd ps sp) (Z:Room k X.A) (Y:Binds X.K fd ps ds) (hd:Vals dvs ds) (U:nZ CX X E)
 (I:Inv X pins σ H s) (r:Vals vs us) (h:sp (vs++dvs) H Q E):wpAny (model X.prog X.w) X.A (call (.ref f) us) (EP X pins σ Q) X.xe s:=by
 have O:Vals (vs++dvs) (us++ds):=r.append hd;have hl:(us++ds).length=ps.length:=by rw [<- O.length];exact F.len _ _ _ _ h
 refine zh5 (qr7 (F.run X.A X.stack s H ⟨us,[]⟩ (us++ds) (vs++dvs) Q E Z I.env0 (Y s us I.kIn hl) O h) fun r s' q=>?_);cases r with
 | error e=>exact U pins σ H s e s' I q
 | ok W =>
  cases W with
  | ret u=>exact I.after q
  | next=>exact qg0 q
  | brk=>exact qg0 q
  | cont=>exact qg0 q
theorem vU (F:FnOk X.prog X.w X.K X.mg X.base CX k f fd ps sp) (hr:Room k X.A) (hg:Gl X x) (hm:X.mg x=some (.ref f)) (hk:xF9 X.K (.ref f)=true) (hb:Binds X.K fd ps ds) (hd:Vals dvs ds) (Z:nZ CX X E)
  (ha:PA X (e::es) t) (O:(x==("__debug__":Str))=false:=by decide) (he:qa6 (e::es) X.env=(false,eval e X.env)::qa6 es X.env:=by rfl) (U:(qk0 pos (qa6 es X.env)).any (·.1)=false:=by rfl) :
  PE X (.Call (.Name x p) (e::es) [] pos) (sL sp dvs E t):=by
 intro pins s σ H Q I h;refine qp1 (lh I hg hm ?_ O);refine PySem.W.callWith_K (h₀:=X.base) I.ok.mod.kin hk (thn (ha pos pins s σ H _ I h) fun us s1 ⟨vs,H1,Y,r,q⟩=>⟨Y.kIn,?_⟩) he U;exact zh F hr hb hd Z Y r q
end
section
variable {X:Cx} {CX:CXT} {k:Nat} {f C:Addr} {fd:qp9} {ps ks:List Str} {sp:Sp} {E:XK} {x m:Str} {p pos apos kpos:Pos} {e o:Expr} {es:List Expr} {kws:List qu3} {te ta:TE} {t tk:TA} {nm:Option Str}
variable {g:List Value->List Value->List Value} {gV:List V->List V->List V}
end
structure FnScope (N P:List Str) (sc:Scope):Prop where
 kind:sc.kind=.function
 co:sc.isCoroutine=false
 gen:sc.isGenerator=false
 nd:N.Nodup
 pre:N.take P.length=P
 par:∀ x∈P,sc.names.lookup x=some .local∨sc.names.lookup x=some .cell
 nofree:∀ y∈sc.names,y.2≠.free
variable {kindOf:Str->Option qp2}
theorem j6:∀ {binds:List (Str×Value)} {m:Str->Option Value},(∀ v,(x,v)∉binds)->bindL kindOf binds m x=m x
 | [],_,_=>rfl
 | (n,v)::r,m,h=>by
  unfold bindL;rw [j6 fun w hw=>h w (qd3 _ hw)];split
  . have:x≠n:=by rintro rfl;exact h v qe5
    simp [this]
  . rfl
theorem j7:∀ {binds:List (Str×Value)} {m:Str->Option Value},(∀ v,(x,v)∉binds)->bindC kindOf binds m x=m x
 | [],_,_=>rfl
 | (n,v)::r,m,h=>by
  unfold bindC;rw [j7 fun w hw=>h w (qd3 _ hw)];split
  . rfl
  . have:x≠n:=by rintro rfl;exact h v qe5
    simp [this]
theorem ig {v:Value}:∀ {P:List Str} {vs:List Value} {i:Nat} {m:Str->Option Value},P.Nodup->P[i]?=some x->vs[i]?=some v->kindOf x=some .local→
  bindL kindOf (P.zip vs) m x=some v
 | [],_,_,_,_,h,_,_=>by simp at h
 | _::_,[],_,_,_,_,h,_=>by simp at h
 | p::P,w::vs,0,m,nd,h1,h2,hk=>by
  simp at h1 h2;subst h1;subst h2
  show bindL kindOf ((p,w)::P.zip vs) m p=_;unfold bindL;rw [j6 fun v hv=>(qi1.mp nd).1 (qw5 hv).1,if_pos hk];simp
 | p::P,w::vs,i+1,m,nd,h1,h2,hk=>by show bindL kindOf ((p,w)::P.zip vs) m x=_;unfold bindL;exact ig (i:=i) (qi1.mp nd).2 (by simpa using h1) (by simpa using h2) hk
theorem ii {v:Value}:∀ {P:List Str} {vs:List Value} {i:Nat} {m:Str->Option Value},P.Nodup->P[i]?=some x->vs[i]?=some v->kindOf x≠some .local→
  bindC kindOf (P.zip vs) m x=some v
 | [],_,_,_,_,h,_,_=>by simp at h
 | _::_,[],_,_,_,_,h,_=>by simp at h
 | p::P,w::vs,0,m,nd,h1,h2,hk=>by
  simp at h1 h2;subst h1;subst h2
  show bindC kindOf ((p,w)::P.zip vs) m p=_;unfold bindC;rw [j7 fun v hv=>(qi1.mp nd).1 (qw5 hv).1,if_neg hk];simp
 | p::P,w::vs,i+1,m,nd,h1,h2,hk=>by show bindC kindOf ((p,w)::P.zip vs) m x=_;unfold bindC;exact ii (i:=i) (qi1.mp nd).2 (by simpa using h1) (by simpa using h2) hk
def start (N:List Str) (vs:List V):St:=vs.map some++qc3 (N.length-vs.length) none
noncomputable def jd (CX:CXT) (P:qc8) (w:World) (K:xA9) (mg:Str->Option Value) (base:Heap) (N:List Str) (qual:Str) (scope:Scope) (f:Addr) (O:Value) (A:qd5) (outer:List Env) (s:qa4) (H:Hp) (E:XK):Cx where
 prog:=P
 w:=w
 K:=K
 mg:=mg
 base:=base
 A:=A.deeper (qz4 qual scope s.heap.objs.size f O)
 N:=N
 s₀:=s
 H₀:=H
 env:=qz4 qual scope s.heap.objs.size f O
 outer:=outer
 stack:=qz4 qual scope s.heap.objs.size f O::outer
 ex:=[]
 calm:=true
 fn:=fun _=>true
 pn:=[]
 xe:=fun e s'=>wpAny (model P w) (A.deeper (qz4 qual scope s.heap.objs.size f O)) (leaving (qz4 qual scope s.heap.objs.size f O) e) (fun _ q=>CX outer H s E e q) (fun U q=>CX outer H s E U q) s'
theorem gC {sc:Scope} (h:sc.names.lookup x=some .cell):∃ c,(qg3 n sc.names []).lookup x=some c:=by have q:=xR9 sc.names n [] (.inl h);exact qr8.mp q
variable {qual:Str} {scope:Scope}
theorem qY {f:Addr} {Y:Value} {outer:List Env} {s1:qa4} {E:XK} 
 (S:FnScope N ps scope) (hd:A.handled=none) (e0:Env0 P w K mg base A outer s H) (hl:vs.length=ps.length) (r:Vals vs us)
 (x:zd7 s s.heap.objs.size (bindL (qz4 qual scope s.heap.objs.size f Y).kindOf (ps.zip us) fun _=>none) (qg3 (s.heap.objs.size+1) scope.names []) (bindC (qz4 qual scope s.heap.objs.size f Y).kindOf (ps.zip us) fun _=>none) s1) :
  Inv (jd CX P w K mg base N qual scope f Y A outer s H E) [] (start N vs) H s1:=by
 have hpl:ps.length<=N.length:=by have:=congrArg za9 S.pre;rw [zc2] at this;lia
 obtain ⟨h1,tk,rfl,hk⟩:=x.done;have O:∀ b:Addr,b∉(jd CX P w K mg base N qual scope f Y A outer s H E).ex:=fun b z=>absurd (show b∈([]:List Addr) from z) (by simp)
 refine ⟨⟨e0.mod,S.kind,rfl,rfl,nL _,fun y z c h1 h2=>?_,fun y U=>?_,fun y c _ h=>?_,fun _=>hd,qd5.frames_deeper e0.frames,.inr ⟨rfl,rfl⟩,fun b z=>absurd z (O b),e0.bs,e0.bsz,fun b _ _=>O b,fun b z=>absurd z (O b),e0.funs,e0.frf,e0.tb⟩,rfl,e0.bare,Un.kept hk,⟨_,x.toInCall.ns,fun i y v h1 h2 h3=>?_⟩,fun y c h=>⟨_,x.cell y c h⟩,e0.hok.fresh (qt1 _),fun y c h=>?_,fun p hp=>absurd (show p∈([]:List (Addr×Obj)) from hp) (by simp),e0.hok.kept hk,?_⟩
 . exact zi1 x.apart (PySem.mem_of_lookup h1) (PySem.mem_of_lookup h2)
 . have U:scope.names.lookup y=some .cell∨scope.names.lookup y=some .free:=U;rcases U with U | U
   . exact gC U
   . exact absurd rfl (S.nofree _ (PySem.mem_of_lookup U))
 . exact qj6 (x.above y c (PySem.mem_of_lookup h))
 . have hi:i<vs.length:=by
    unfold start at h2;by_cases hi:i<vs.length
    . exact hi
    . rw [qd4 (by simpa using hi)] at h2;rw [qk6] at h2;split at h2<;>cases h2
   have ha:vs[i]?=some v:=by
    unfold start at h2;rw [qc4 (by simpa using hi),qb4] at h2;cases e:vs[i]? with
    | none=>rw [e] at h2;cases h2
    | some a=>rw [e] at h2;cases h2;rfl
   obtain ⟨u,Z,rv⟩:=r.get ha
   have hp:ps[i]?=some y:=by rw [<- S.pre,qz5 (by lia)];exact h1
   have W:ps.Nodup:=by rw [<- S.pre];exact S.nd.sublist (qz6 _ _)
   refine ⟨u,rv,?_⟩;rcases S.par y (qc7 hp) with k | k
   . exact .inl ⟨k,ig W hp Z k⟩
   . obtain ⟨c,e⟩:=gC (n:=s.heap.objs.size+1) k;refine .inr ⟨.inl k,c,e,?_⟩;have q:=x.cell y c e;rw [ii W hp Z (by show scope.names.lookup y≠_;rw [k];decide)] at q;exact q
 . exact e0.hok.fresh (qj6 (x.above y c (PySem.mem_of_lookup h)))
 . unfold start;show _=N.length;rw [qb5,qa1,qm2];lia
theorem xL {k:Nat} {f:Addr} {name:Str} {params:qi9} {dV kV doc pm cdv ct oc:Value} {an od:Option Addr}
 {osl:Array (Option Value)} (lk:K.lookup f=some ⟨oc,od,.func (xC9 name qual params body scope dV kV doc pm an cdv ct),osl⟩) (hcd:xH9 K cdv qual=true) (S:FnScope N ps scope)
 (len:∀ vs H Q E,sp vs H Q E->vs.length=ps.length)
 (Y:∀ (A:qd5) (outer:List Env) (s:qa4) (H:Hp) (vs:List V) (Q:VK) (E:XK),Room k (A.deeper (qz4 qual scope s.heap.objs.size f cdv))->sp vs H Q E→
 ∃ t,PSs (jd CX P w K mg base N qual scope f cdv A outer s H E) body t/\t {nx:=fun _ H'=>Q .non H',rt:=Q} (start N vs) H) :
  FnOk P w K mg base CX (k+1) f (xC9 name qual params body scope dV kV doc pm an cdv ct) ps sp:=by
 refine ⟨len,fun A outer s H args us vs Q E hr e0 hb r hsp=>?_⟩;have hl:=len _ _ _ _ hsp;have KX:K.In s.heap:=e0.mod.kin.keeps fun b o e=>(e0.bs b o e).1
 have lim:s.heap.NoLimit:=e0.mod.nolimit.keeps fun b o e=>(e0.bs b o e).1
 have U:∀ y∈ps.zip us,scope.names.lookup y.1=some .local∨(scope.names.lookup y.1=some .cell/\((qg3 (s.heap.objs.size+1) scope.names []).lookup y.1).isSome=true):=fun ⟨n,v⟩ hy=>by
  rcases S.par n (qw5 hy).1 with q | q
  . exact .inl q
  . exact .inr ⟨q,xR9 _ _ _ (.inl q)⟩
 refine zd8 hr.depth (KX _ _ lk) rfl S.co S.gen rfl (PySem.W.codeRec_of KX hcd) (hb _ _ _ _ ?_);refine wpAny_newFunctionEnv_cells S.kind U fun env he s1 x=>?_
 subst he;refine ⟨lim.keeps x.toInCall.keep,codeAny_func ?_⟩;obtain ⟨t,ht,hq⟩:=Y A outer s H vs Q E (hr.deeper _) hsp;have I:Inv (jd CX P w K mg base N qual scope f cdv A outer s H E) [] (start N vs) H s1:=qY S hr.hd e0 hl r x;refine qk9 (ht [] s1 (start N vs) H _ I hq) (fun fl s' Z=>?_) fun e s' Z=>Z
 have fin:∀ {O:St} {H':Hp} {v:V} {u:Value},Inv (jd CX P w K mg base N qual scope f cdv A outer s H E) [] O H' s'->RelV v u->Q v H'->CE outer P w H s Q u s':=fun {O H' v u} J rv q=>⟨v,H',J.os,J.bare,J.base,J.hok,rv,q⟩
 cases fl with
 | ret u =>obtain ⟨v,O,H',J,rv,q⟩:=Z;exact fin J rv q
 | next =>obtain ⟨O,H',J,q⟩:=Z;exact fin (v:=V.non) (u:=qh1) J rfl q
 | brk =>obtain ⟨_,_,_,q⟩:=Z;exact qg0 q
 | cont =>obtain ⟨_,_,_,q⟩:=Z;exact qg0 q
section
variable {X:Cx} {x:Str} {p pos:Pos} {e:Expr} {es:List Expr} {t:TA} {id T:String} {r:List V->Hp->VK->Prop}
def tCB (r:List V->Hp->VK->Prop) (t:TA):TE:=fun σ H Q=>t σ H fun vs H1=>r vs H1 Q
theorem sM (Y:cL X (.builtin id) r) (hg:Gl X x) (hm:X.mg x=none) (hv:qe2 x=some (.builtin id)) (Z:PA X (e::es) t) (U:x≠"__name__":=by decide) (q:(x==("__debug__":Str))=false:=by decide)
  (he:qa6 (e::es) X.env=(false,eval e X.env)::qa6 es X.env:=by rfl) (O:(qk0 pos (qa6 es X.env)).any (·.1)=false:=by rfl):PE X (.Call (.Name x p) (e::es) [] pos) (tCB r t):=by
 intro pins s σ H Q I h;refine qp1 (eR I hg hm hv ?_ U q);exact PyProof.Rows.callWith_builtin1 (thn (Z pos pins s σ H _ I h) fun us s1 ⟨vs,H1,W,r1,q1⟩=>Y pins s1 σ H1 vs us Q W r1 q1) he O
theorem qZ (Y:cL X (.type T) r) (hg:Gl X x) (hm:X.mg x=none) (hv:qe2 x=some (.type T)) (Z:PA X (e::es) t) (U:x≠"__name__":=by decide) (q:(x==("__debug__":Str))=false:=by decide)
  (he:qa6 (e::es) X.env=(false,eval e X.env)::qa6 es X.env:=by rfl) (O:(qk0 pos (qa6 es X.env)).any (·.1)=false:=by rfl):PE X (.Call (.Name x p) (e::es) [] pos) (tCB r t):=by
 intro pins s σ H Q I h;refine qp1 (eR I hg hm hv ?_ U q);exact qg5 (thn (Z pos pins s σ H _ I h) fun us s1 ⟨vs,H1,W,r1,q1⟩=>Y pins s1 σ H1 vs us Q W r1 q1) he O
end
end L2
namespace HT
open PySem PyProof.Rows
section
open PySem.SeqAt
open PySem.AutoSeq1 (wpAny_loadPart')
open PySem.MeetsSeq PySem.MeetsSeq2 PySem.MeetsSeq3
end
variable {Q:Value->qa4->Prop} {vu:Value} {lo hi:Option Int}
section
variable {prog:qc8} {w:World} {A:qd5} {E:Value->qa4->Prop} {s:qa4}
theorem Cm {t b:Addr} {vs q:List Value} (ht:IsTup s.heap t vs.toArray) (hb:IsTup s.heap b q.toArray) (hv:vs≠[])
 (h1:q=[]->Q (.ref t) s) (h2:q≠[]->Q (.ref s.heap.objs.size) {s with heap:=s.heap.push {cls:=.type "tuple",data:=.seq (vs++q).toArray}})
 (hsz:vs.length+q.length<=qb0):wpAny (model prog w) A (qk1 .Add (.ref t) (.ref b)) Q E s:=by
 obtain ⟨⟨cls,dd,data,sl⟩,ho,hc,n,hd⟩:=id ht;obtain ⟨⟨cls2,U,data2,W⟩,O,Z,n2,Y⟩:=id hb;simp only at hc hd Z Y;subst hc hd Z Y;have e:vs.toArray++q.toArray=(vs++q).toArray:=by simp
 by_cases hw:q=[]
 . exact qy3 ⟨_,ho,rfl⟩ ⟨_,O,rfl⟩ qu4 zb0 PySem.F.slot_tuple_add PySem.F.entry_tuple_add (PySem.F.args_tuple_add_2 _ _)
    (tuple_addW1 t b vs.toArray q.toArray n n2 dd U sl W (by simpa using hv) (by simp [hw])) ⟨ho,O,h1 hw⟩
 . refine qy3 ⟨_,ho,rfl⟩ ⟨_,O,rfl⟩ qu4 zb0 PySem.F.slot_tuple_add PySem.F.entry_tuple_add (PySem.F.args_tuple_add_2 _ _)
    (tuple_addW2 t b vs.toArray q.toArray n n2 dd U sl W (by simpa using hv) (by simpa using hw) (by rw [qb2,qb2];exact hsz)) ⟨ho,O,?_⟩
   rw [e];exact h2 hw
def sIx (n d:Nat):Option Int->Nat
 | none=>d
 | some v=>if v<0 then (v+(n:Int)).toNat else min v.toNat n
theorem zi (n d:Nat) (O:d<=n) (o:Option Int):sIx n d o<=n:=by
 cases o with
 | none=>exact O
 | some v =>
  show (if v<0 then (v+(n:Int)).toNat else min v.toNat n)<=n;by_cases q:v<0
  . rw [if_pos q];lia
  . rw [if_neg q];exact Nat.min_le_right _ _
theorem pG (v:Int) (n d:Nat):(if v<0 then max (v+(n:Int)) 0 else min v (n:Int))=((sIx n d (some v):Nat):Int):=by
 show (if v<0 then max (v+(n:Int)) 0 else min v (n:Int))=(((if v<0 then (v+(n:Int)).toNat else min v.toNat n):Nat):Int);by_cases q:v<0
 . simp only [if_pos q];lia
 . simp only [if_neg q];lia
theorem n4 (lo hi:Option Int) (n:Nat):qq7 lo hi 1 (n:Int)=(((sIx n 0 lo:Nat):Int),((sIx n n hi:Nat):Int)):=by
 have h1:¬ ((1:Int)<0):=by lia
 unfold qq7;simp only [h1,if_false];refine Prod.ext ?_ ?_
 . cases lo with
   | none=>rfl
   | some v=>exact pG v n 0
 . cases hi with
   | none=>rfl
   | some v=>exact pG v n n
theorem n5 (i j:Nat):qm6 (i:Int) (j:Int) 1=j-i:=by
 unfold qm6;have h1:(1:Int) > 0:=by lia
 simp only [h1,if_true,Int.ediv_one];split<;>lia
theorem je {v:Value} {o:Option Int} {Q:Option Int->qa4->Prop} (p:zf7 v o) (h:Q o s):wpAny (model prog w) A (qh5.Slice.slicePartIndex v) Q E s:=by
 cases p with
 | none=>exact slicePart_none h
 | int i t=>exact slicePart_int h
theorem dX {sl:Addr} {U:Value} {n:Nat} {Q:Int×Int×Nat->qa4->Prop} (W:s.heap.IsSliceOf sl U vu .none) (Z:zf7 U lo) (pu:zf7 vu hi)
 (h:Q (((sIx n 0 lo:Nat):Int),1,sIx n n hi-sIx n 0 lo) s):wpAny (model prog w) A (qx7 (.ref sl) (pure (n:Int))) Q E s:=by
 obtain ⟨os,O,Y,q⟩:=id W;unfold qx7 qh5.Slice.sliceFields;refine wB (wB (qt2 O q (x:=U) rfl (wB (qt2 O q (x:=vu) rfl (wB (qt2 O q (x:=.none) rfl (qa2 ?_)))))));refine wB (slicePart_none ?_);show wpAny _ _ (if ((1:Int)==0)=true then _ else _) _ _ s;rw [if_neg (by decide)];refine wB (je Z (wB (je pu (wB (qa2 ?_)))));show wpAny _ _ (match qq7 lo hi 1 (n:Int) with | (lo,hi)=>pure (lo,(1:Int),qm6 lo hi 1)) _ _ s;rw [n4 lo hi n];show wpAny _ _ (pure (((sIx n 0 lo:Nat):Int),(1:Int),qm6 ((sIx n 0 lo:Nat):Int) ((sIx n n hi:Nat):Int) 1)) _ _ s;rw [n5];exact qa2 h
theorem sN (xs:Array Value) (i k:Nat):((qb8 k).filterMap fun (m:Nat)=>xs[((i:Int)+(m:Int)*1).toNat]?).toArray=((xs.toList.drop i).take k).toArray:=by
 have e:(fun (m:Nat)=>xs[((i:Int)+(m:Int)*1).toNat]?)=fun m=>xs[i+m]?:=by
  funext m;have:((i:Int)+(m:Int)*1).toNat=i+m:=by lia
  rw [this]
 rw [e];have:=pick_run xs i k;rw [List.filterMap_map] at this;have q:((fun x=>xs[x]?) ∘ fun x=>i+x)=fun m=>xs[i+m]?:=rfl
 rw [q] at this;rw [this]
theorem pH {t sl:Addr} {O:Array Value} {vl:Value} (W:IsTup s.heap t O) (hs:s.heap.IsSliceOf sl vl vu .none) (pl:zf7 vl lo) (pu:zf7 vu hi)
 (hw:¬ (sIx O.size 0 lo=0/\sIx O.size O.size hi=O.size))
 (h:Q (.ref s.heap.objs.size) {s with heap:=s.heap.push {cls:=.type "tuple",data:=.seq ((O.toList.drop (sIx O.size 0 lo)).take (sIx O.size O.size hi-sIx O.size 0 lo)).toArray}})
 (hsz:O.size<=qb0):wpAny (model prog w) A (zb1 (.ref t) (.ref sl)) Q E s:=by
 have U:sizeOk (.seq ((O.toList.drop (sIx O.size 0 lo)).take (sIx O.size O.size hi-sIx O.size 0 lo)).toArray):=by show ((O.toList.drop (sIx O.size 0 lo)).take (sIx O.size O.size hi-sIx O.size 0 lo)).toArray.size<=qb0;rw [qb2,zc2,List.length_drop,qe1];lia
 have hj:sIx O.size O.size hi<=O.size:=zi _ _ (nL _) hi;obtain ⟨os,Z,hcs,hds⟩:=id hs;have hTs:s.TypeIs (.ref sl) "slice":=⟨os,Z,hcs⟩;unfold zb1
 try with_reducible refine qh4 ?_
 first | refine wB (qa2 ?_) | skip
 refine wB (wpAny_sequenceKey W.typeIs (by decide) ?_)
 refine wB (qe3 (name:=qa0 "__getitem__") W.typeIs qf3
  (qe7 qf3 W.typeIs entry_tuple_getitem ?_ (args_tuple_getitem _ _)))
 show wpAny _ _ (qx8 (.ref t) >>= _) _ _ s;refine wB (tupleItemsOf_ W ?_);refine wB (qu0 hTs ?_);rw [if_pos (by decide)];refine wB (dX hs pl pu ?_)
 have Y:¬ ((((sIx O.size 0 lo:Nat):Int)==0&&(1:Int)==1&&(sIx O.size O.size hi-sIx O.size 0 lo)==O.size)=true):=by intro q;rw [qb1,qb1] at q;have q1:((sIx O.size 0 lo:Nat):Int)=0:=eq_of_beq q.1.1;have q2:sIx O.size O.size hi-sIx O.size 0 lo=O.size:=eq_of_beq q.2;exact hw ⟨by lia,by lia⟩
 show wpAny _ _ (if (((sIx O.size 0 lo:Nat):Int)==0&&(1:Int)==1&&(sIx O.size O.size hi-sIx O.size 0 lo)==O.size)=true then _ else _) _ _ s;rw [if_neg Y,sN]
 first
  | exact wB (m:=qn2 _) (qd2 (qa2 ⟨_,rfl,qa2 h⟩) U)
  | exact wB (m:=qn2 _) (qd2 (wB (qa2 (qa2 ⟨_,rfl,qa2 h⟩))) U)
  | exact wB (wB (m:=qn2 _) (qd2 (qa2 (qa2 ⟨_,rfl,qa2 h⟩)) U))
  | exact wB (wB (m:=qn2 _) (qd2 (qa2 ⟨_,rfl,qa2 h⟩) U))
end
end HT
namespace L2
open PySem PySem.Spec PyProof.Rows
abbrev TO:=St->Hp->(Option Int->Hp->Prop)->Prop
noncomputable def PO (X:Cx) (e:Option Expr) (t:TO):Prop:=
 ∀ (pins:List (Addr×Obj)) (s:qa4) (σ:St) (H:Hp) (Q:Option Int->Hp->Prop),Inv X pins σ H s->t σ H Q→
  wpAny (model X.prog X.w) X.A (evalPart e X.env) (fun u s'=>∃ o H',Inv X pins σ H' s'/\zf7 u o/\Q o H') X.xe s
def vV:TO:=fun _ H Q=>Q none H
def BA (t:TE):TO:=fun σ H Q=>t σ H fun x H1=>∃ i,x=.int i/\Q (some i) H1
variable {r:V->Option Int->Option Int->Hp->VK->Prop} {xs:List V} {us:List Value}
section
variable {X:Cx} {e:Expr} {te:TE} {lo hi:Option Expr} {tl th:TO} {pos p2:Pos}
theorem vW:PO X none vV:=by intro pins s σ H Q I h;rw [evalPart_none];exact qa2 ⟨none,H,I,.none,h⟩
theorem vX (h:PE X e te):PO X (some e) (BA te):=by
 intro pins s σ H Q I U;rw [evalPart_some];refine thn (h pins s σ H _ I U) fun u s1 ⟨x,H1,O,W,q1⟩=>?_
 obtain ⟨i,rfl,q⟩:=q1;obtain ⟨t,rfl⟩:=W;exact ⟨some i,H1,O,.int i t,q⟩
noncomputable def SlR (X:Cx) (r:V->Option Int->Option Int->Hp->VK->Prop):Prop:=
 ∀ (pins:List (Addr×Obj)) (s:qa4) (σ:St) (H:Hp) (x:V) (v q vu:Value) (lo hi:Option Int) (sl:Addr) (Q:VK),Inv X pins σ H s->RelV x v->s.heap.IsSliceOf sl q vu .none->zf7 q lo->zf7 vu hi->r x lo hi H Q→
  ∃ T id,zf0 (.type T) "__getitem__"=pure (some (.builtin id))/\s.TypeIs v T/\wpAny (model X.prog X.w) X.A (zb1 v (.ref sl)) (EP X pins σ Q) X.xe s
theorem SlR.or {W:V->Option Int->Option Int->Hp->VK->Prop} (h:SlR X r) (h':SlR X W):SlR X (fun x lo hi H Q=>r x lo hi H Q∨W x lo hi H Q):=by
 intro pins s σ H x v vl vu lo hi sl Q I Y O Z U q;rcases q with q | q
 . exact h pins s σ H x v vl vu lo hi sl Q I Y O Z U q
 . exact h' pins s σ H x v vl vu lo hi sl Q I Y O Z U q
def tSl (r:V->Option Int->Option Int->Hp->VK->Prop) (te:TE) (tl th:TO):TE:=fun σ H Q=>te σ H fun x H1=>tl σ H1 fun l H2=>th σ H2 fun u q=>r x l u q Q
theorem my (hr:SlR X r) (he:PE X e te) (hl:PO X lo tl) (hu:PO X hi th):PE X (.Subscript e (.Slice lo hi none p2) pos) (tSl r te tl th):=by
 intro pins s σ H Q I h;refine Subscript_ (thn (he pins s σ H _ I h) fun v s1 ⟨x,H1,I1,r1,q1⟩=>?_);refine wpAny_Slice (thn (hl pins s1 σ H1 _ I1 q1) fun U s2 ⟨l,H2,I2,pl,q2⟩=>thn (hu pins s2 σ H2 _ I2 q2) fun vu O ⟨u,W,I3,Z,Y⟩=>?_);rw [evalPart_none];refine qa2 ?_;have I4:Inv X pins σ W {O with heap:=O.heap.push {cls:=.type "slice",data:=.fields #[U,vu,.none]}}:=I3.kept (t':=O.toks) fun b ob q=>gP _ q
 obtain ⟨T,id,hT,ht,hg⟩:=hr pins {O with heap:=O.heap.push {cls:=.type "slice",data:=.fields #[U,vu,.none]}} σ W x v U vu l u O.heap.objs.size Q I4 r1 (Heap.IsSliceOf.new ..) pl Z Y;show wpAny (model X.prog X.w) X.A (zg9 e (.Slice lo hi none p2) v (.ref O.heap.objs.size)) (EP X pins σ Q) X.xe {O with heap:=O.heap.push {cls:=.type "slice",data:=.fields #[U,vu,.none]}};exact tail_any (ops:=[.ref O.heap.objs.size,v]) ht hT hg (by with_unfolding_all rfl)
def mz (xs:List V) (lo hi:Option Int):List V:=(xs.drop (HT.sIx xs.length 0 lo)).take (HT.sIx xs.length xs.length hi-HT.sIx xs.length 0 lo)
theorem iI (xs:List V) (lo hi:Option Int):(mz xs lo hi).length<=xs.length:=by unfold mz;rw [zc2,List.length_drop];lia
noncomputable def rSlT (K:xA9):V->Option Int->Option Int->Hp->VK->Prop:=fun x lo hi H Q=>∃ a xs,x=.ref a/\SqT K H a xs∧¬ (HT.sIx xs.length 0 lo=0/\HT.sIx xs.length xs.length hi=xs.length)/\∀ p,H p=none->Q (.ref p) (upd H p (.tup (mz xs lo hi)))
theorem zj:SlR X (rSlT X.K):=by
 intro pins s σ H x v vl vu lo hi sl Q I rx Z pl pu h;obtain ⟨a,xs,rfl,Y,hw,q⟩:=h;cases rx;obtain ⟨its,r,U,W⟩:=I.tuple Y;have O:its.toArray.size=xs.length:=by rw [qb2];exact r.length.symm
 refine ⟨"tuple",_,qf3.lookup,U.typeIs,?_⟩;refine HT.pH U Z pl pu (by rw [O];exact hw) ?_ (by rw [O];exact W);rw [O];refine ⟨.ref s.heap.objs.size,_,I.laid (t':=s.toks) (o:=.tup (mz xs lo hi)) (fun b ob q=>gP _ q) (nL _) ?_,rfl,q _ (I.hok.fresh (nL _))⟩;exact ⟨qc1 (iI xs lo hi) W,_,(r.drop (HT.sIx xs.length 0 lo)).take (HT.sIx xs.length xs.length hi-HT.sIx xs.length 0 lo),zj3 _ _⟩
noncomputable def xM (K:xA9):R2:=fun x y H Q=>∃ a b xs ys,x=.ref a/\y=.ref b/\SqT K H a xs/\SqT K H b ys/\xs≠[]/\xs.length+ys.length<=qb0∧(ys=[]->Q (.ref a) H)/\(ys≠[]->∀ p,H p=none->Q (.ref p) (upd H p (.tup (xs++ys))))
theorem Vals.nil_iff (r:Vals xs us):us=[]↔xs=[]:=by
 cases r with
 | nil=>simp
 | cons _ _=>simp
theorem vY:OpR X (qk1 .Add) (xM X.K):=by intro pins s σ H x y v u Q I rx Z h;obtain ⟨a,b,xs,ys,rfl,rfl,ha,hb,hx,Y,q1,q2⟩:=h;cases rx;cases Z;obtain ⟨its,U,p1,_⟩:=I.tuple ha;obtain ⟨W,O,p2,_⟩:=I.tuple hb;refine HT.Cm p1 p2 (fun z=>hx (U.nil_iff.mp z)) (fun z=>⟨.ref a,H,I,rfl,q1 (O.nil_iff.mp z)⟩) (fun z=>?_) (by rw [<- U.length,<- O.length];exact Y);refine ⟨.ref s.heap.objs.size,_,I.laid (t':=s.toks) (o:=.tup (xs++ys)) (fun b ob q=>gP _ q) (nL _) ?_,rfl,q2 (fun w=>z (O.nil_iff.mpr w)) _ (I.hok.fresh (nL _))⟩;exact ⟨by rw [qb5];exact Y,_,U.append O,zj3 _ _⟩
end
def ixN (n:Nat) (i:Int):Option Nat:=if 0<=i then (if i<n then some i.toNat else none) else if -(n:Int)<=i then some (i+n).toNat else none
def atI {α:Type} (xs:List α) (i:Int):Option α:=(ixN xs.length i).bind fun j=>xs[j]?
variable {n j:Nat} {i:Int}
theorem pI (h:ixN n i=some j):seqIndex? i n=some j/\j<n/\-(n:Int)<=i/\i<n:=by
 unfold ixN at h;by_cases q:0<=i
 . rw [if_pos q] at h;by_cases h1:i<n
   . rw [if_pos h1] at h;have e:i.toNat=j:=qd6 h;exact ⟨by rw [seqIndex_of q h1,e],by lia,by lia,h1⟩
   . rw [if_neg h1] at h;cases h
 . rw [if_neg q] at h;by_cases h1:-(n:Int)<=i
   . rw [if_pos h1] at h;have e:(i+n).toNat=j:=qd6 h;exact ⟨by rw [seqIndex_neg (by lia) h1,e],by lia,h1,by lia⟩
   . rw [if_neg h1] at h;cases h
theorem ll {α:Type} {xs:List α} {v:α} (h:atI xs i=some v):∃ j,seqIndex? i xs.length=some j/\xs[j]?=some v/\j<xs.length/\-(xs.length:Int)<=i/\i<xs.length:=by
 unfold atI at h;cases e:ixN xs.length i with
 | none=>rw [e] at h;cases h
 | some j =>rw [e] at h;obtain ⟨h1,h2,h3,q⟩:=pI e;exact ⟨j,h1,h,h2,h3,q⟩
theorem vZ {α:Type} {xs:List α} {v:α} (h:xs[j]?=some v):atI xs (j:Int)=some v:=by
 have q:j<xs.length:=(gX h).1
 have e:ixN xs.length (j:Int)=some j:=by unfold ixN;rw [if_pos (by lia),if_pos (by lia)];simp
 unfold atI;rw [e];exact h
def pJ (b:Expr):Prop:=∀ o i,zg1 b false o i=operate [o,i] (zb1 o i)
noncomputable def IxR (X:Cx) (r:R2):Prop:=
 ∀ (value q:Expr) (pins:List (Addr×Obj)) (s:qa4) (σ:St) (H:Hp) (x y:V) (v u:Value) (Q:VK),Inv X pins σ H s->RelV x v->RelV y u->r x y H Q→
  zg1 q false v u=operate [v,u] (zb1 v u)->wpAny (model X.prog X.w) X.A (zg9 value q v u) (EP X pins σ Q) X.xe s
noncomputable def MtR (X:Cx) (id:String) (r:V->List V->Hp->VK->Prop):Prop:=
 ∀ (pins:List (Addr×Obj)) (s:qa4) (σ:St) (H:Hp) (x:V) (xs:List V) (v:Value) (us:List Value) (Q:VK),Inv X pins σ H s->RelV x v->Vals xs us->r x xs H Q→
  wpAny (model X.prog X.w) X.A (call (.builtin id) (v::us)) (EP X pins σ Q) X.xe s
variable {pins:List (Addr×Obj)} {σ:St} {H:Hp} {s:qa4} {p:Addr} {its its':List Value} {A:qd5} {y x:V} {u v:Value}
section
variable {X:Cx} {a b:Expr} {ta tb:TE} {pos:Pos}
theorem IxR.or {r Y:R2} (h:IxR X r) (h':IxR X Y):IxR X (fun x y H Q=>r x y H Q∨Y x y H Q):=by
 intro value O pins s σ H x y v u Q I Z W q U;rcases q with q | q
 . exact h value O pins s σ H x y v u Q I Z W q U
 . exact h' value O pins s σ H x y v u Q I Z W q U
theorem BB {r:R2} (hr:IxR X r) (W:PE X a ta) (hb:PE X b tb) (O:pJ b):PE X (.Subscript a b pos) (tOp r ta tb):=by intro pins s σ H Q I h;exact Subscript_ (yX W hb I h fun v u Y x y H2 Z rx U q=>hr a b pins Y σ H2 x y v u Q Z rx U q (O _ _))
def rIxL (K:xA9):R2:=fun x y H Q=>∃ p xs i v,x=.ref p/\y=.int i/\SqL K H p xs/\atI xs i=some v/\Q v H
def rIxT (K:xA9):R2:=fun x y H Q=>∃ p xs i v,x=.ref p/\y=.int i/\SqT K H p xs/\atI xs i=some v/\Q v H
def rIxS:R2:=fun x y H Q=>∃ z i c,x=.str z/\y=.int i/\z.length<=qb0/\atI z.cps.toList i=some c/\Q (.str ⟨#[c]⟩) H
theorem ix_list:IxR X (rIxL X.K):=by
 intro value slice pins s σ H x y v u Q I rx ry h hs;obtain ⟨p,xs,i,z,rfl,rfl,hq,he,q⟩:=h;cases rx;obtain ⟨t,rfl⟩:=ry;obtain ⟨its,r,pl,hz⟩:=I.list hq;obtain ⟨j,h1,h2,h3,h4,h5⟩:=ll he;obtain ⟨w,ew,rw'⟩:=r.get h2;have hl:=r.length;have hn:=ie;have fin:EP X pins σ Q w s:=⟨z,H,I,rw',q⟩;by_cases h0:0<=i
 . have hj:i.toNat=j:=by rw [seqIndex_of h0 h5] at h1;exact qd6 h1
   exact item_listR pl.isList h0 (by lia) (by rw [hj];simpa using ew) fin hs
 . have hj:(i+(its.toArray.size:Int)).toNat=j:=by rw [seqIndex_neg (by lia) h4] at h1;rw [qb2,<- hl];exact qd6 h1
   exact zc3 (x:=w) pl.isList.typeIs slot_list_getitem.lookup
    (wpAny_getItem_list_neg (Q:=fun r s'=>r=w/\EP X pins σ Q r s') pl.isList (by lia) (by rw [qb2]<;>lia) (by lia) (by rw [hj];simpa using ew) ⟨rfl,fin⟩) hs
theorem ix_tup:IxR X (rIxT X.K):=by
 intro value slice pins s σ H x y v u Q I rx ry h hs;obtain ⟨p,xs,i,z,rfl,rfl,hq,he,q⟩:=h;cases rx;obtain ⟨t,rfl⟩:=ry;obtain ⟨its,r,pl,hz⟩:=I.tuple hq;obtain ⟨j,h1,h2,h3,h4,h5⟩:=ll he;obtain ⟨w,ew,rw'⟩:=r.get h2;have hl:=r.length;have hn:=ie;have fin:EP X pins σ Q w s:=⟨z,H,I,rw',q⟩
 exact zc3 (x:=w) pl.typeIs slot_tuple_getitem.lookup
  (getItem_tuple (j:=j) (Q:=fun r s'=>r=w/\EP X pins σ Q r s') pl (by lia) (by lia) (by rw [qb2,<- hl];exact h1) (by simpa using ew) ⟨rfl,fin⟩) hs
theorem zm:IxR X rIxS:=by
 intro value slice pins s σ H x y v u Q I rx ry h hs;obtain ⟨z,i,c,rfl,rfl,hz,he,q⟩:=h;obtain ⟨t,rfl⟩:=rx;obtain ⟨t',rfl⟩:=ry;obtain ⟨j,h1,h2,h3,h4,h5⟩:=ll he;have hl:z.cps.toList.length=z.length:=by simp [Str.length]
 rw [hl] at h1 h4 h5;have hn:=ie
 exact tail_any (typeIs_str s z t) slot_str_getitem.lookup (getItem_str (c:=c) (by have e1:decide (i < -(2^63:Int))=false:=decide_eq_false (by lia);have e2:decide (i ≥ 2^63)=false:=decide_eq_false (by lia);rw [e1,e2,qs2]) (by rw [h1];simpa using h2) ⟨.str ⟨#[c]⟩,H,I.tok _,⟨_,rfl⟩,q⟩) hs
def rIx (K:xA9):R2:=fun x y H Q=>rIxL K x y H Q∨rIxT K x y H Q∨rIxS x y H Q
theorem zn:IxR X (rIx X.K):=ix_list.or (ix_tup.or zm)
theorem n6 (its:List Value) (n j:Nat) (u:Value):qo8 (·.setIfInBounds j u) {cls:=.type "list",data:=.seq its.toArray n}={cls:=.type "list",data:=.seq (its.set j u).toArray n}:=by simp [qo8]
theorem Inv.lst (I:Inv X pins σ H s) (h:H p=some (.lst xs)) :
  ∃ (its:List Value) (n:Nat),Vals xs its/\s.heap.get? p=some {cls:=.type "list",data:=.seq its.toArray n}/\xs.length<=qb0:=by
 obtain ⟨z,its,n,r,e⟩:=I.hok p _ h;exact ⟨its,n,r,e,z⟩
theorem Inv.lstUpd {ys:List V} {O:Nat} {f:Obj->Obj} (I:Inv X pins σ H s) (h:H p=some (.lst xs))
 (Y:s.heap.get? p=some {cls:=.type "list",data:=.seq its.toArray n}) (U:f {cls:=.type "list",data:=.seq its.toArray n}={cls:=.type "list",data:=.seq its'.toArray O}) (r:Vals ys its') (W:ys.length<=qb0) (t:Nat) :
  Inv X pins σ (upd H p (.lst ys)) {s with heap:=s.heap.update p f,toks:=t}:=by
 have e:(s.heap.update p f).get? p=some {cls:=.type "list",data:=.seq its'.toArray O}:=by rw [qe4 f Y (by rw [U]<;>rfl),U]
 refine I.write (x:=p) (e:=p) (by rw [h];trivial) (.inl rfl) (fun b u Z q=>(ql6 _ _ (qq4 Z)).trans q) ⟨_,e⟩ ?_;exact ⟨W,its',O,r,e⟩
def BC:V->V->V->Hp->(Hp->Prop)->Prop:=fun o i v H Q=>∃ p xs k j,o=.ref p/\i=.int k/\H p=some (.lst xs)/\ixN xs.length k=some j/\Q (upd H p (.lst (xs.set j v)))
theorem sO:PSet X BC:=by
 intro pins s σ H o i v ov iv u Q I ro ri rv h;obtain ⟨p,xs,k,j,rfl,rfl,hp,hj,q⟩:=h;cases ro;obtain ⟨t,rfl⟩:=ri;obtain ⟨its,n,r,ho,hz⟩:=I.lst hp;obtain ⟨h1,h2,h3,h4⟩:=pI hj;have hl:=r.length;have hn:=ie
 have I':Inv X pins σ (upd H p (.lst (xs.set j v))) {s with heap:=s.heap.update p (qo8 (·.setIfInBounds j u))}:=I.lstUpd hp ho (n6 its n j u) (r.set rv j) (by rw [List.length_set];exact hz) s.toks
 by_cases h0:0<=k
 . have hk:k.toNat=j:=by rw [seqIndex_of h0 h4] at h1;exact qd6 h1
   exact PySem.W.ki_setAt ho h0 (by lia) (by rw [qb2,<- hl];exact h4) (by rw [hk];exact ⟨_,I',q⟩)
 . have hk:(k+(its.toArray.size:Int)).toNat=j:=by rw [seqIndex_neg (by lia) h3] at h1;rw [qb2,<- hl];exact qd6 h1
   exact PySem.W.ki_setBack ho (by lia) (by rw [qb2,<- hl];exact h3) (by lia) (by rw [hk];exact ⟨_,I',q⟩)
theorem lm (lo hi:Option Int) (n:Nat):(qt3 lo hi none n).1=((HT.sIx n 0 lo:Nat):Int)/\(qt3 lo hi none n).2.1=((HT.sIx n n hi:Nat):Int)/\(qt3 lo hi none n).2.2=1:=by
 refine ⟨?_,?_,rfl⟩
 . cases lo with
   | none=>simp [qt3,HT.sIx]
   | some i =>
    simp only [qt3,HT.sIx,Option.getD_none,show (1:Int) > 0 by decide,if_true];by_cases h:i<0
    . simp only [h,if_true]<;>lia
    . simp only [h,if_false]<;>lia
 . cases hi with
   | none=>simp [qt3,HT.sIx]
   | some i =>
    simp only [qt3,HT.sIx,Option.getD_none,show (1:Int) > 0 by decide,if_true];by_cases h:i<0
    . simp only [h,if_true]<;>lia
    . simp only [h,if_false]<;>lia
theorem jY (its:List Value) (lo hi:Option Int):slicePick its.toArray lo hi none=((its.drop (HT.sIx its.length 0 lo)).take (HT.sIx its.length its.length hi-HT.sIx its.length 0 lo)).toArray:=by obtain ⟨h1,h2,h3⟩:=lm lo hi its.toArray.size;unfold slicePick;rw [h1,h2,h3];simp only [sliceRange_one,pick_run,qb2]<;>rfl
def rSlL (K:xA9):V->Option Int->Option Int->Hp->VK->Prop:=fun x lo hi H Q=>∃ a xs,x=.ref a/\SqL K H a xs/\∀ p,H p=none->Q (.ref p) (upd H p (.lst (mz xs lo hi)))
theorem v0:SlR X (rSlL X.K):=by intro pins s σ H x v vl vu lo hi sl Q I rx Y pl Z h;obtain ⟨a,xs,rfl,W,q⟩:=h;cases rx;obtain ⟨its,r,U,hz⟩:=I.list W;have O:=r.length;refine ⟨"list",_,slot_list_getitem.lookup,U.isList.typeIs,?_⟩;refine wpAny_getItem_list_slice U.isList Y pl Z .none (by simp) ?_ (by rw [qb2]<;>lia);rw [jY,<- O];refine ⟨.ref s.heap.objs.size,_,I.laid (t':=s.toks) (o:=.lst (mz xs lo hi)) (fun b ob q=>gP _ q) (nL _) ?_,rfl,q _ (I.hok.fresh (nL _))⟩;exact ⟨qc1 (iI xs lo hi) hz,_,0,(r.drop (HT.sIx xs.length 0 lo)).take (HT.sIx xs.length xs.length hi-HT.sIx xs.length 0 lo),qa8 _ rfl⟩
def fW:V->Bool
 | .non=>true
 | .bl _=>true
 | .int _=>true
 | .str _=>true
 | _=>false
def eqV:V->V->Bool
 | .non,.non=>true
 | .bl a,.bl b=>a==b
 | .bl a,.int b=>(if a then 1 else 0)==b
 | .int a,.bl b=>a==(if b then 1 else 0)
 | .int a,.int b=>a==b
 | .str a,.str b=>a==b
 | _,_=>false
theorem ij (U:RelV y u) (q:RelV x v) (W:fW y=true) (O:fW x=true):qf7 A s u v (eqV y x):=by
 cases y with
 | non =>
  cases U;cases x with
  | non=>cases q;exact zd9 _
  | bl b=>cases q;exact qf7.none_bool b
  | int b=>obtain ⟨t,rfl⟩:=q;exact qf7.none_int b t
  | str b=>obtain ⟨t,rfl⟩:=q;exact qf7.none_str b t
  | _=>exact absurd (show false=true from O) qb6
 | bl a =>
  cases U;cases x with
  | non=>cases q;exact qf7.bool_none a
  | bl b=>cases q;exact qf7.bool_bool a b
  | int b=>obtain ⟨t,rfl⟩:=q;exact qf7.bool_int a b t
  | str b=>obtain ⟨t,rfl⟩:=q;exact qf7.bool_str a b t
  | _=>exact absurd (show false=true from O) qb6
 | int a =>
  obtain ⟨t',rfl⟩:=U;cases x with
  | non=>cases q;exact qf7.int_none a t'
  | bl b=>cases q;exact qf7.int_bool a t' b
  | int b=>obtain ⟨t,rfl⟩:=q;exact qf7.int_int a t' b t
  | str b=>obtain ⟨t,rfl⟩:=q;exact qf7.int_str a t' b t
  | _=>exact absurd (show false=true from O) qb6
 | str a =>
  obtain ⟨t',rfl⟩:=U;cases x with
  | non=>cases q;exact qf7.str_none a t'
  | bl b=>cases q;exact qf7.str_bool a t' b
  | int b=>obtain ⟨t,rfl⟩:=q;exact qf7.str_int a t' b t
  | str b=>obtain ⟨t,rfl⟩:=q;exact qf7.str_str a t' b t
  | _=>exact absurd (show false=true from O) qb6
 | _=>exact absurd (show false=true from W) qb6
def eqU (x:V) (u:Value):Bool:=match u with
 | .none=>eqV .non x
 | .bool b=>eqV (.bl b) x
 | .int i _=>eqV (.int i) x
 | .str z _=>eqV (.str z) x
 | _=>false
theorem sP (r:RelV y u) (f:fW y=true):eqU x u=eqV y x:=by
 cases y with
 | non=>cases r;rfl
 | bl b=>cases r;rfl
 | int i=>obtain ⟨t,rfl⟩:=r;rfl
 | str z=>obtain ⟨t,rfl⟩:=r;rfl
 | _=>exact absurd (show false=true from f) qb6
theorem gE:∀ {xs:List V} {us:List Value},Vals xs us->xs.all fW=true->us.any (eqU x)=xs.any fun y=>eqV y x
 | _,_,.nil,_=>rfl
 | y::xs,u::us,.cons r t,f=>by rw [qo3,qb1] at f;rw [qk7,qk7,sP r f.1,gE t f.2]
theorem eU (U:RelV x v) (O:fW x=true):∀ {xs:List V} {us:List Value},Vals xs us->xs.all fW=true->∀ u∈us,qf7 A s u v (eqU x u)
 | _,_,.nil,_=>fun u q=>by cases q
 | y::xs,u::us,.cons r t,f=>fun W q=>by
  rw [qo3,qb1] at f;rcases qb3.mp q with rfl | q
  . rw [sP r f.1];exact ij r U f.1 O
  . exact eU U O t f.2 W q
def inV (x:V) (xs:List V):Bool:=xs.any fun y=>eqV y x
def rIn (K:xA9) (neg:Bool):R2:=fun x y H Q=>∃ p xs,y=.ref p/\(SqL K H p xs∨SqT K H p xs)/\fW x=true/\xs.all fW=true/\Q (.bl (if neg then !inV x xs else inV x xs)) H
theorem ra:OpR X (qg4 .In) (rIn X.K false):=by
 intro pins s σ H x y v u Q I Z ry h;obtain ⟨p,xs,rfl,O,Y,fs,q⟩:=h;cases ry;rcases O with O | O
 . obtain ⟨its,r,W,hz⟩:=I.list O;refine SeqAt.in_listAt (eqU x) W.isList (fun w U=>eU Z Y r fs w (by simpa using U)) ⟨.bl _,H,I,rfl,?_⟩;rw [show its.toArray.any (eqU x)=its.any (eqU x) by simp,gE r fs];exact q
 . obtain ⟨its,r,W,hz⟩:=I.tuple O;refine SeqAt.in_tupleAt (eqU x) W (fun w U=>eU Z Y r fs w (by simpa using U)) ⟨.bl _,H,I,rfl,?_⟩;rw [show its.toArray.any (eqU x)=its.any (eqU x) by simp,gE r fs];exact q
theorem ln:OpR X (qg4 .NotIn) (rIn X.K true):=by
 intro pins s σ H x y v u Q I Z ry h;obtain ⟨p,xs,rfl,O,Y,fs,q⟩:=h;cases ry;rcases O with O | O
 . obtain ⟨its,r,W,hz⟩:=I.list O;refine SeqAt.notIn_listAt (eqU x) W.isList (fun w U=>eU Z Y r fs w (by simpa using U)) ⟨.bl _,H,I,rfl,?_⟩;rw [show its.toArray.any (eqU x)=its.any (eqU x) by simp,gE r fs];exact q
 . obtain ⟨its,r,W,hz⟩:=I.tuple O;refine SeqAt.notIn_tupleAt (eqU x) W (fun w U=>eU Z Y r fs w (by simpa using U)) ⟨.bl _,H,I,rfl,?_⟩;rw [show its.toArray.any (eqU x)=its.any (eqU x) by simp,gE r fs];exact q
theorem lp:OpR X (qg4 .NotIn) (fun x y H Q=>∃ i j,x=.str i/\y=.str j/\Q (.bl (!(!(qh0 j i 0 j.length 1).isEmpty))) H):=by intro pins s σ H x y v u Q I U O h;obtain ⟨i,j,rfl,rfl,q⟩:=h;obtain ⟨t,rfl⟩:=U;obtain ⟨t',rfl⟩:=O;exact notIn_str ⟨.bl _,H,I,rfl,q⟩
theorem lq:cL X (.type "list") (fun xs H Q=>∃ p ys,xs=[.ref p]/\(SqL X.K H p ys∨SqT X.K H p ys)/\∀ l,H l=none->Q (.ref l) (upd H l (.lst ys))):=by
 intro pins s σ H xs us Q I r h;obtain ⟨p,ys,rfl,Y,q⟩:=h;obtain ⟨u,rfl,rx⟩:=fV r;cases rx
 have U:∀ (its:List Value),Vals ys its->ys.length<=qb0->∀ (h':Heap) (c':Nat),(∀ b o',s.heap.get? b=some o'->h'.get? b=some o')→
     h'.get? s.heap.objs.size=some {cls:=.type "list",dict:=none,data:=.seq its.toArray c',slots:=#[]}->EP X pins σ Q (.ref s.heap.objs.size) {s with heap:=h'}:=fun its O W h' c' kp e =>
  ⟨.ref s.heap.objs.size,_,I.laid (t':=s.toks) kp (nL _) (show ObjOk X.prog X.w _ h' _ (.lst ys) from ⟨W,its,c',O,e⟩),rfl,q _ (I.hok.fresh (nL _))⟩
 rcases Y with Y | Y
 . obtain ⟨its,O,pl,W⟩:=I.list Y;have Z:=O.length;obtain ⟨o,ho,hc,n,hd⟩:=pl.isList;exact call_list_seq p (.inl rfl) ho hc hd (fun h' c' kp e=>U its O W h' c' kp e) (by simp only [qb2]<;>lia)
 . obtain ⟨its,O,pl,W⟩:=I.tuple Y;have Z:=O.length;obtain ⟨o,ho,hc,n,hd⟩:=pl;exact call_list_seq p (.inr rfl) ho hc hd (fun h' c' kp e=>U its O W h' c' kp e) (by simp only [qb2]<;>lia)
theorem cr:cL X (.type "tuple") (fun xs H Q=>∃ p ys,xs=[.ref p]/\((SqL X.K H p ys/\∀ l,H l=none->Q (.ref l) (upd H l (.tup ys)))∨(SqT X.K H p ys/\Q (.ref p) H))):=by
 intro pins s σ H xs us Q I r h;obtain ⟨p,ys,rfl,h⟩:=h;obtain ⟨u,rfl,rx⟩:=fV r;cases rx;rcases h with ⟨O,q⟩ | ⟨O,q⟩
 . obtain ⟨its,U,W,Y⟩:=I.list O;have hlen:=U.length;refine call_tuple_list W.isList (fun h' kp=>?_) (by simp only [qb2]<;>lia);have Z:Inv X pins σ H {s with heap:=h'}:=I.kept (t':=s.toks) kp
   have I2:Inv X pins σ (upd H h'.objs.size (.tup ys)) {s with heap:=h'.push {cls:=.type "tuple",data:=.seq its.toArray}}:=Z.laid (t':=s.toks) (fun b o e=>gP _ e) (nL _) (show ObjOk X.prog X.w _ _ _ (.tup ys) from ⟨Y,its,U,zj3 _ _⟩)
   exact ⟨.ref h'.objs.size,_,I2,rfl,q _ (Z.hok.fresh (nL _))⟩
 . obtain ⟨its,U,W,Y⟩:=I.tuple O;exact call_tuple_same W ⟨.ref p,H,I,rfl,q⟩
noncomputable def tyV (K:xA9) (T:String) (x:V) (H:Hp):Prop:=match x with
 | .str _=>T="str"
 | .int _=>T="int"
 | .ref p=>(T="list"/\∃ xs,SqL K H p xs)∨(T="tuple"/\∃ o,K.lookup p=some o/\o.cls=.type "tuple"/\o.dict=none)∨(T="dict"/\((∃ kvs,H p=some (.dK kvs))∨∃ kvs,H p=some (.dT kvs)))∨(T="set"/\∃ S n,H p=some (.set S n))
 | _=>False
theorem sQ {T:String} (I:Inv X pins σ H s) (r:RelV x v) (ty:tyV X.K T x H) :
  s.TypeIs v T/\∀ a,v=.ref a->∃ ob,s.heap.get? a=some ob/\ob.dict=none:=by
 cases x with
 | str z =>obtain ⟨t,rfl⟩:=r;cases (show T="str" from ty);exact ⟨typeIs_str s z t,fun _ e=>nomatch e⟩
 | int i =>obtain ⟨t,rfl⟩:=r;cases (show T="int" from ty);exact ⟨zf1 s i t,fun _ e=>nomatch e⟩
 | ref p =>
  cases r;rcases ty with ⟨rfl,xs,Y⟩ | ⟨rfl,o,hk,W,q⟩ | ⟨rfl,hk⟩ | ⟨rfl,S,n,hk⟩
  . obtain ⟨its,_,U,_⟩:=I.list Y;refine ⟨U.isList.typeIs,fun a e=>?_⟩;cases e;obtain ⟨o,n,e,c,q,_⟩:=U;exact ⟨o,e,q⟩
  . refine ⟨⟨o,I.kIn p o hk,W⟩,fun a e=>?_⟩;cases e;exact ⟨o,I.kIn _ o hk,q⟩
  . have z:∃ o,s.heap.get? p=some o/\o.ExactDict:=by
     rcases hk with ⟨kvs,hk⟩ | ⟨kvs,hk⟩
     . obtain ⟨_,_,_,_,o,_,_,e,ex,_⟩:=I.hok p _ hk;exact ⟨o,e,ex⟩
     . obtain ⟨_,_,_,_,o,_,_,e,ex,_⟩:=I.hok p _ hk;exact ⟨o,e,ex⟩
    obtain ⟨o,e,ex⟩:=z;refine ⟨⟨o,e,ex.1⟩,fun a O=>?_⟩;cases O;exact ⟨o,e,ex.2.1⟩
  . obtain ⟨o,_,_,_,e,ex,_⟩:=I.hok p _ hk;refine ⟨⟨o,e,ex.1⟩,fun a O=>?_⟩;cases O;exact ⟨o,e,ex.2.1⟩
 | _=>exact qg0 ty
def tBM0 (K:xA9) (T:String) (r:V->List V->Hp->VK->Prop) (to:TE):TE:=fun σ H Q=>to σ H fun x H1=>tyV K T x H1/\r x [] H1 Q
def tBM (K:xA9) (T:String) (r:V->List V->Hp->VK->Prop) (to:TE) (t:TA):TE:=fun σ H Q=>to σ H fun x H1=>tyV K T x H1/\t σ H1 fun xs H2=>r x xs H2 Q
variable {o e:Expr} {es:List Expr} {to:TE} {t:TA} {name:Str} {apos cpos:Pos} {T id:String} {r:V->List V->Hp->VK->Prop}
theorem zo (pa:PlainAttrs T) (slot:Slot T name id) (U:typeOf (.builtin id)=pure (.type "method_descriptor")) (hm:MtR X id r) (Z:PE X o to)
  (q:qo4 o name X.env (eval o X.env)=eval o X.env:=by rfl) (O:(apos.endLine==cpos.line)=true:=by rfl):PE X (.Call (.Attribute o name apos) [] [] cpos) (tBM0 X.K T r to):=by
 intro pins s σ H Q I h;refine wpAny_Call_method0_late q O (thn (Z pins s σ H _ I h) fun v s1 ⟨x,H1,W,Y,ty,q1⟩=>?_);obtain ⟨h1,h2⟩:=sQ W Y ty;exact ⟨T,id,pa,slot,U,h1,h2,zc4 rfl (PySem.evalArgs_none (hm pins s1 σ H1 x [] v [] Q W Y .nil q1))⟩
theorem sU (pa:PlainAttrs T) (slot:Slot T name id) (Y:typeOf (.builtin id)=pure (.type "method_descriptor")) (hm:MtR X id r) (ho:PE X o to) (ha:PA X (e::es) t)
  (O:qo4 o name X.env (eval o X.env)=eval o X.env:=by rfl)
  (W:((qk0 cpos (qa6 (e::es) X.env)).all (fun x=>!x.1)&&(zh0 cpos (qw6 [] X.env)).all (fun x=>x.1.isSome)
   && decide ((e::es).length+([]:List qu3).length+(if ([]:List qu3).isEmpty then 0 else 1)<30))=true:=by rfl)
  (U:(apos.endLine==cpos.line)=true:=by rfl) (hs:qa6 (e::es) X.env=(false,eval e X.env)::qa6 es X.env:=by rfl) (q:(qk0 cpos (qa6 es X.env)).any (·.1)=false:=by rfl) :
  PE X (.Call (.Attribute o name apos) (e::es) [] cpos) (tBM X.K T r to t):=by
 intro pins s σ H Q I h;refine wpAny_Call_method_late O W U rfl (thn (ho pins s σ H _ I h) fun v s1 ⟨x,H1,Z,r1,ty,q1⟩=>?_);obtain ⟨h1,h2⟩:=sQ Z r1 ty;refine ⟨T,id,pa,slot,Y,h1,h2,?_⟩;have hA:=ha cpos pins s1 σ H1 _ Z q1;rw [hs] at hA ⊢;refine zc4 (by show (false||(qk0 cpos (qa6 es X.env)).any (·.1))=false;rw [q]<;>rfl) (Calls.evalArgs_plain ?_);exact thn hA fun us s2 ⟨vs,H2,I2,r2,q2⟩=>hm pins s2 σ H2 x vs v us Q I2 r1 r2 q2
/- xs.append(e),list.index on a module's tuple .. are MtR facts of 06m -/
end
noncomputable def MtM (X:Cx) (id:String) (r:V->List V->Hp->VK->Prop):Prop:=
 ∀ (pins:List (Addr×Obj)) (s:qa4) (σ:St) (H:Hp) (x:V) (xs:List V) (v:Value) (us:List Value) (Q:VK),Inv X pins σ H s->RelV x v->Vals xs us->r x xs H Q→
  wpAny (model X.prog X.w) X.A (call (.builtin id) (v::us)) (EP X pins σ Q) X.xe s
theorem Vals.one:∀ {x:V} {us:List Value},Vals [x] us->∃ u,us=[u]/\RelV x u
 | _,_,.cons r .nil=>⟨_,rfl,r⟩
theorem Vals.zero:∀ {us:List Value},Vals [] us->us=[]
 | _,.nil=>rfl
theorem Vals.dropLast (h:Vals xs us):Vals xs.dropLast us.dropLast:=by
 induction h with
 | nil=>exact .nil
 | cons r t O =>
  cases t with
  | nil=>exact .nil
  | cons q t'=>exact .cons r O
theorem Vals.rep (h:Vals xs us):∀ k:Nat,Vals (qc3 k xs).flatten (qc3 k us).flatten
 | 0=>.nil
 | k+1=>by rw [qj0,qj0,qn3,qn3];exact Vals.append h (Vals.rep h k)
theorem n8 {α:Type} (l:List α):l.eraseIdx (l.length-1)=l.dropLast:=by
 induction l with
 | nil=>rfl
 | cons a r q =>
  cases r with
  | nil=>rfl
  | cons b r =>
   have e:(a::b::r).length-1=((b::r).length-1)+1:=by have h1:(a::b::r).length=r.length+2:=rfl;have h2:(b::r).length=r.length+1:=rfl;lia
   rw [e,List.eraseIdx_cons_succ,q]
   all_goals rfl
theorem il (its:List Value):∀ (k:Nat) (acc:List Value),
  zh6 (fun q O=>q++O) acc.toArray (qc3 k its.toArray)=(acc++(qc3 k its).flatten).toArray
 | 0,acc=>by simp
 | k+1,acc=>by
  have e:acc.toArray++its.toArray=(acc++its).toArray:=by simp
  have U:(acc++its)++(qc3 k its).flatten=acc++(qc3 (k+1) its).flatten:=by rw [qj0,qn3,qj1]
  rw [<- U,<- il its k (acc++its),<- e,qj0,qi2]
variable {t':Nat}
section
variable {X:Cx} {pins:List (Addr×Obj)} {σ:St} {H:Hp} {s:qa4} {l b:Addr} {xs ys zs:List V}
theorem Inv.lset {f:Array Value->Array Value} (I:Inv X pins σ H s) (W:H l=some (.lst xs))
 (e:s.heap.get? l=some {cls:=.type "list",data:=.seq its.toArray n}) (U:f its.toArray=its'.toArray) (Z:Vals ys its') (hz:ys.length<=qb0) :
  Inv X pins σ (upd H l (.lst ys)) {s with heap:=s.heap.update l (qo8 f),toks:=t'}:=by
 have q:=PySem.IsL.update e f;rw [U] at q;refine I.write (x:=l) (e:=l) (by rw [W];exact trivial) (.inl rfl) (fun b' u Y O=>(ql6 s.heap (qo8 f) (qq4 Y)).trans O) ⟨_,q⟩ ?_;exact ⟨hz,its',_,Z,q⟩
theorem Inv.lnew (I:Inv X pins σ H s) (O:Vals ys its) (U:ys.length<=qb0) :
  Inv X pins σ (upd H s.heap.objs.size (.lst ys)) {s with heap:=s.heap.push {cls:=.type "list",data:=.seq its.toArray},toks:=t'}:=
 I.laid (fun _ _ q=>gP _ q) (nL _) ⟨U,its,0,O,qa8 _ rfl⟩
theorem Inv.fresh (I:Inv X pins σ H s):H s.heap.objs.size=none:=I.hok.fresh (nL _)
theorem Inv.lstM (I:Inv X pins σ H s) (q:H l=some (.lst xs)):xs.length<=qb0/\∃ (its:List Value) (n:Nat),Vals xs its/\xs.length=its.length/\s.heap.get? l=some {cls:=.type "list",data:=.seq its.toArray n}:=by obtain ⟨z,its,n,r,e⟩:=I.hok l _ q;exact ⟨z,its,n,r,r.length,e⟩
theorem sV (h:n<=qb0):qr9 n=false:=by unfold qr9;exact decide_eq_false (by lia)
end
section
variable {X:Cx}
def v5:V->List V->Hp->VK->Prop:=fun x vs H Q=>∃ l xs y,x=.ref l/\vs=[y]/\H l=some (.lst xs)/\xs.length<qb0/\Q .non (upd H l (.lst (xs++[y])))
theorem im:MtM X "list.append" v5:=by intro pins s σ H x vs v us Q I U W h;obtain ⟨l,xs,y,rfl,rfl,O,hz,q⟩:=h;cases U;obtain ⟨u,rfl,Y⟩:=W.one;obtain ⟨z,its,n,r,Z,e⟩:=I.lstM O;refine qv8 F.slot_list_append ⟨_,e,rfl⟩ F.entry_list_append (F.args_list_append_2 _ _) (PySem.list_append l its.toArray n u (by rw [qb2];lia)) ⟨e,?_⟩;refine ⟨.non,_,I.lset (its':=its++[u]) O e (by simp) (r.append (.cons Y .nil)) ?_,rfl,q⟩;rw [qb5,qg6];lia
def v6:V->List V->Hp->VK->Prop:=fun x vs H Q=>∃ l b xs zs,x=.ref l/\vs=[.ref b]/\H l=some (.lst xs)/\H b=some (.lst zs)/\xs.length+zs.length<=qb0/\Q .non (upd H l (.lst (xs++zs)))
theorem rb:MtM X "list.extend" v6:=by
 intro pins s σ H x vs v us Q I rx rv h;obtain ⟨l,b,xs,zs,rfl,rfl,Y,Z,hz,q⟩:=h;cases rx;obtain ⟨u,rfl,ru⟩:=rv.one;cases ru;obtain ⟨z,its,n,r,hl,e⟩:=I.lstM Y;obtain ⟨z2,O,n2,r2,hl2,e2⟩:=I.lstM Z;have W:its.toArray.size+O.toArray.size<=qb0:=by rw [qb2,qb2];lia
 have U:¬ (!its.toArray.isEmpty&&qr9 (its.toArray.size+O.toArray.size))=true:=by rw [sV W,qt7];exact qb6
 refine qv8 F.slot_list_extend ⟨_,e,rfl⟩ F.entry_list_extend (F.args_list_extend_2 _ _)
  (AutoSeq1.list_extend_list_list_0 l its.toArray n b O.toArray n2 U (by rw [qb2];lia) (by lia)) ⟨e,e2,?_⟩
 refine ⟨.non,_,I.lset (its':=its++O) Y e (by simp) (r.append r2) ?_,rfl,q⟩;rw [qb5];lia
def rPop:V->List V->Hp->VK->Prop:=fun x vs H Q=>∃ l xs y,x=.ref l/\vs=[]/\H l=some (.lst xs)/\xs[xs.length-1]?=some y/\Q y (upd H l (.lst xs.dropLast))
theorem zq:MtM X "list.pop" rPop:=by
 intro pins s σ H x vs v us Q I rx rv h;obtain ⟨l,xs,y,rfl,rfl,W,Y,q⟩:=h;cases rx;have O:=rv.zero;subst O;obtain ⟨z,its,n,r,hl,e⟩:=I.lstM W;obtain ⟨u,Z,ru⟩:=r.get Y
 have U:its.toArray[its.toArray.size-1]?=some u:=by show its.toArray[its.length-1]?=some u;rw [<- qm3,<- hl];exact Z
 refine qv8 F.slot_list_pop ⟨_,e,rfl⟩ F.entry_list_pop (F.args_list_pop_1 _) (MeetsSeq.list_pop_last l its.toArray n u U (by rw [qb2];lia)) ⟨e,?_⟩;refine ⟨y,_,I.lset (its':=its.dropLast) W e ?_ r.dropLast ?_,ru,q⟩
 . show its.toArray.eraseIdxIfInBounds (its.toArray.size-1)=its.dropLast.toArray;rw [qb2,List.eraseIdxIfInBounds_toArray,n8]
 . rw [List.length_dropLast];lia
theorem pK {α:Type} (xs:List α) (k:Nat):(qc3 k xs).flatten.length=k*xs.length:=by
 induction k with
 | zero=>simp
 | succ k q=>rw [qj0,qn3,qb5,q,Nat.succ_mul,Nat.add_comm]
end
section
variable {prog:qc8} {w:World} {A:qd5} {E:Value->qa4->Prop} {s:qa4}
end
section
variable {X:Cx}
end
variable {o:Option V}
section
variable {κ:Type} [DecidableEq κ]
def gj (kvs:List (κ×V)) (k:κ):Option V:=(kvs.find? fun kv=>decide (kv.1=k)).map (·.2)
def eh (kvs:List (κ×V)) (k:κ) (v:V):List (κ×V):=if (kvs.any fun kv=>decide (kv.1=k))=true then kvs.map (fun kv=>if kv.1=k then (kv.1,v) else kv) else kvs++[(k,v)]
theorem gF {p:κ×V} {r:List (κ×V)} {k:κ} (e:p.1=k):gj (p::r) k=some p.2:=by simp [gj,qp3,e]
theorem eV {p:κ×V} {r:List (κ×V)} {k:κ} (e:¬ p.1=k):gj (p::r) k=gj r k:=by simp [gj,qp3,e]
theorem mB (k:κ):∀ kvs:List (κ×V),(kvs.any fun kv=>decide (kv.1=k))=(gj kvs k).isSome
 | []=>rfl
 | p::r=>by
  rw [qk7];by_cases e:p.1=k
  . simp only [gF e,decide_eq_true e,ze0,Option.isSome_some]
  . rw [eV e,decide_eq_false e,zb2];exact mB k r
theorem iJ (kvs:List (κ×V)) (k:κ) (v:V):(eh kvs k v).length<=kvs.length+1:=by
 unfold eh;split
 . rw [qa1];lia
 . rw [qb5,qi5,ze1];lia
theorem RelO.isSome_eq {u:Option Value} (r:RelO o u):o.isSome=u.isSome:=by
 cases o with
 | none=>cases u with
  | none=>rfl
  | some _=>exact (show False from r).elim
 | some _=>cases u with
  | none=>exact (show False from r).elim
  | some _=>rfl
theorem RelO.getD {u:Option Value} {d:V} {d':Value} (r:RelO o u) (rd:RelV d d'):RelV (o.getD d) (u.getD d'):=by
 cases o with
 | none=>cases u with
  | none=>exact rd
  | some _=>exact (show False from r).elim
 | some _=>cases u with
  | none=>exact (show False from r).elim
  | some _=>exact r
theorem KV.val {kvs:List (κ×V)} {vs:List (κ×Value)} (r:KV kvs vs) (k:κ):RelO (gj kvs k) (zh7 vs k):=by
 unfold KV at r;induction r with
 | nil=>exact qr6
 | @cons p q ps qs h t U =>
  obtain ⟨h1,h2⟩:=h;by_cases e:p.1=k
  . have O:q.1=k:=h1.symm.trans e;have b:zh7 (q::qs) k=some q.2:=by simp [zh7,qp3,O]
    rw [gF e,b];exact h2
  . have O:¬ q.1=k:=fun z=>e (h1.trans z)
    have b:zh7 (q::qs) k=zh7 qs k:=by simp [zh7,qp3,O]
    rw [eV e,b];exact U
theorem KV.any {kvs:List (κ×V)} {vs:List (κ×Value)} (r:KV kvs vs) (k:κ):(kvs.any fun kv=>decide (kv.1=k))=vs.any fun kv=>decide (kv.1=k):=by
 unfold KV at r;induction r with
 | nil=>rfl
 | cons h t q=>rw [qk7,qk7,q,h.1]
theorem KV.repl {kvs:List (κ×V)} {vs:List (κ×Value)} (r:KV kvs vs) (k:κ) (O:RelV y u) :
  KV (kvs.map fun kv=>if kv.1=k then (kv.1,y) else kv) (vs.map fun kv=>if kv.1=k then (kv.1,u) else kv):=by
 unfold KV at r ⊢;induction r with
 | nil=>exact .nil
 | @cons p q ps qs h t U =>
  rw [qa5,qa5];refine .cons ?_ U;obtain ⟨h1,h2⟩:=h;by_cases e:p.1=k
  . rw [if_pos e,if_pos (h1.symm.trans e)];exact ⟨h1,O⟩
  . rw [if_neg e,if_neg (fun z=>e (h1.trans z))];exact ⟨h1,h2⟩
theorem KV.put {kvs:List (κ×V)} {vs:List (κ×Value)} (r:KV kvs vs) (k:κ) (q:RelV y u):KV (eh kvs k y) (stored vs k u):=by
 unfold eh stored;rw [r.any k];by_cases e:(vs.any fun kv=>decide (kv.1=k))=true
 . rw [if_pos e,if_pos e];exact r.repl k q
 . rw [if_neg e,if_neg e];exact Paired.snoc r ⟨rfl,q⟩
theorem KV.length {kvs:List (κ×V)} {vs:List (κ×Value)} (r:KV kvs vs):kvs.length=vs.length:=Paired.length r
end
variable {P:qc8} {w:World}
theorem mC {k:Key} (r:RelV (kV k) u):(bM P w).is k u=true:=by
 cases k with
 | inl i=>obtain ⟨t,e⟩:=(show ∃ t,u=zi9 i t from r);subst e;exact mo P w i t
 | inr x=>obtain ⟨t,e⟩:=(show ∃ t,u=zj0 x t from r);subst e;exact mq P w x t
theorem j8:∀ {ks:List Key} {us:List Value},Vals (ks.map kV) us->ItemsAre (bM P w) ks us
 | [],_,r=>by rw [qs0] at r;cases r;exact .nil
 | k::ks,_,r=>by
  rw [qa5] at r;cases r with
  | cons h t=>exact .cons (mC h) (j8 t)
abbrev KT (H:Hp):List (List Key×V)->List (List Key×Addr×Value)->Prop:=Paired fun p q=>p.1=q.1/\H q.2.1=some (.tup (p.1.map kV))/\RelV p.2 q.2.2
variable {kvs:List (List Key×V)}
theorem KT.val {xs:List (List Key×Addr×Value)} (r:KT H kvs xs) (k:List Key):RelO (gj kvs k) ((atKey xs k).map (·.2)):=by
 induction r with
 | nil=>exact qr6
 | @cons p q ps qs h t U =>
  obtain ⟨h1,_,h2⟩:=h;by_cases e:p.1=k
  . have O:q.1=k:=h1.symm.trans e;have b:atKey (q::qs) k=some q.2:=by simp [atKey,qp3,O]
    rw [gF e,b];exact h2
  . have O:¬ q.1=k:=fun z=>e (h1.trans z)
    have b:atKey (q::qs) k=atKey qs k:=by simp [atKey,qp3,O]
    rw [eV e,b];exact U
theorem KT.repl {xs:List (List Key×Addr×Value)} (r:KT H kvs xs) (k:List Key) (O:RelV y u) :
  KT H (kvs.map fun kv=>if kv.1=k then (kv.1,y) else kv) (xs.map (putAt k u)):=by
 induction r with
 | nil=>exact .nil
 | @cons p q ps qs h t U =>
  rw [qa5,qa5];refine .cons ?_ U;obtain ⟨h1,h2,h3⟩:=h;unfold putAt;by_cases e:p.1=k
  . rw [if_pos e,if_pos (h1.symm.trans e)];exact ⟨h1,h2,O⟩
  . rw [if_neg e,if_neg (fun z=>e (h1.trans z))];exact ⟨h1,h2,h3⟩
variable {b:Addr}
theorem KT.put {xs:List (List Key×Addr×Value)} (r:KT H kvs xs) (k:List Key) (U:H b=some (.tup (k.map kV))) (O:RelV y u) :
  KT H (eh kvs k y) (storedH xs k b u):=by
 have e:(kvs.any fun kv=>decide (kv.1=k))=(atKey xs k).isSome:=by rw [mB,(r.val k).isSome_eq,qq0]
 unfold eh storedH;rw [e];by_cases q:(atKey xs k).isSome=true
 . rw [if_pos q,if_pos q];exact r.repl k O
 . rw [if_neg q,if_neg q];exact Paired.snoc r ⟨rfl,U,O⟩
variable {H':Hp}
theorem KT.keeps {xs:List (List Key×Addr×Value)} (r:KT H kvs xs) (q:∀ b ys,H b=some (.tup ys)->H' b=some (.tup ys)):KT H' kvs xs:=Paired.mapP r fun _ _ z=>⟨z.1,q _ _ z.2.1,z.2.2⟩
section
variable {P:qc8} {w:World} {H:Hp} {h:Heap} {a:Addr}
theorem xN {u:HO} (ok:HOk P w H h) (e:Rd H a u):ObjOk P w H h a u:=e.ok ok
theorem j9 {kvs:List (Key×V)} (ok:HOk P w H h) (e:Rd H a (.dK kvs)):kvs.length<=qb0/\(a==qk8)=false/\∃ vs,KV kvs vs/\h.DictOf (bM P w) a vs:=show ObjOk P w H h a (.dK kvs) from xN ok e
theorem BD {kvs:List (Key×V)} (ok:HOk P w H h) (e:H a=some (.dK kvs)):kvs.length<=qb0/\(a==qk8)=false/\∃ vs,KV kvs vs/\h.DictOf (bM P w) a vs:=j9 ok (.inl e)
theorem jf {ks:List Key} (ok:HOk P w H h) (e:H a=some (.tup (ks.map kV))):(zg5 (bM P w)).is h ks a:=by obtain ⟨_,its,r,o,h1,h2,n,h3⟩:=(show ObjOk P w H h a (.tup (ks.map kV)) from ok a _ e);exact ⟨o,its.toArray,n,h1,h2,h3,by simpa using j8 r⟩
theorem mD (ok:HOk P w H h) (e:Rd H a (.dT kvs)):kvs.length<=qb0/\(a==qk8)=false∧
  ∃ xs,KT H kvs xs/\h.DictOfH (zg5 (bM P w)) a xs:=by
 obtain ⟨z,y,xs,r,o,es,ep,h1,h2,h3,Y,W⟩:=(show ObjOk P w H h a (.dT kvs) from xN ok e);refine ⟨z,y,xs,r,o,es,ep,h1,h2,h3,Y,fun x O=>?_,W⟩
 have all:∀ {l:List (List Key×V)} {m:List (List Key×Addr×Value)},KT H l m->∀ x∈m,(zg5 (bM P w)).is h x.1 x.2.1:=by
  intro l m q;induction q with
  | nil=>intro x O;exact nomatch O
  | @cons p q ps qs U t Z =>
   intro x O;rcases qb3.mp O with e | O
   . subst e;exact jf ok (by rw [<- U.1];exact U.2.1)
   . exact Z x O
 exact all r x O
theorem BE (ok:HOk P w H h) (e:H a=some (.dT kvs)):kvs.length<=qb0/\(a==qk8)=false∧∃ xs,KT H kvs xs/\h.DictOfH (zg5 (bM P w)) a xs:=mD ok (.inl e)
end
def DGet (H:Hp) (a:Addr) (y:V) (r:Option V):Prop:=(∃ kvs k,Rd H a (.dK kvs)/\y=kV k/\r=gj kvs k)∨∃ kvs k b,Rd H a (.dT kvs)/\y=.ref b/\H b=some (.tup (k.map kV))/\r=gj kvs k
noncomputable def DPut (H:Hp) (a:Addr) (y v:V) (H':Hp):Prop:=
 (∃ kvs k,H a=some (.dK kvs)/\y=kV k/\kvs.length<qb0/\H'=upd H a (.dK (eh kvs k v)))∨
 ∃ kvs k b,H a=some (.dT kvs)/\y=.ref b/\H b=some (.tup (k.map kV))/\kvs.length<qb0/\H'=upd H a (.dT (eh kvs k v))
variable {a:Addr}
theorem DGet.k {kvs:List (Key×V)} {k:Key} (e:H a=some (.dK kvs)):DGet H a (kV k) (gj kvs k):=.inl ⟨kvs,k,.inl e,rfl,rfl⟩
theorem DGet.t {k:List Key} (e:H a=some (.dT kvs)) (q:H b=some (.tup (k.map kV))):DGet H a (.ref b) (gj kvs k):=.inr ⟨kvs,k,b,.inl e,rfl,q,rfl⟩
theorem DPut.k {kvs:List (Key×V)} {k:Key} {v:V} (e:H a=some (.dK kvs)) (q:kvs.length<qb0):DPut H a (kV k) v (upd H a (.dK (eh kvs k v))):=.inl ⟨kvs,k,e,rfl,q,rfl⟩
theorem DPut.t {k:List Key} {v:V} (e:H a=some (.dT kvs)) (O:H b=some (.tup (k.map kV))) (q:kvs.length<qb0) :
  DPut H a (.ref b) v (upd H a (.dT (eh kvs k v))):=.inr ⟨kvs,k,b,e,rfl,O,q,rfl⟩
variable {Q:Value->qa4->Prop} {h':Heap}
section
variable {X:Cx} {pins:List (Addr×Obj)} {σ:St} {H:Hp} {s:qa4} {a:Addr} {y v:V} {u r:Value} {o:Option V} {A:qd5} {E:Value->qa4->Prop}
theorem Inv.big (I:Inv X pins σ H s):qk8<s.heap.objs.size:=by have h:qc0<s.heap.objs.size:=(I.mod.glob.keeps I.bk).lt;exact qy4 (by decide) h
theorem re (hu:A.units+1<cLine) (I:Inv X pins σ H s) (g:DGet H a y (some v)) (ry:RelV y u) (h:∀ U s',Inv X pins σ H s'->RelV v U->Q U s') :
  wpAny (model X.prog X.w) A (zb1 (.ref a) u) Q E s:=by
 rcases g with ⟨kvs,k,e,W,l⟩ | ⟨kvs,k,b,e,W,eb,l⟩
 . subst W;obtain ⟨z,hd,vs,O,dd⟩:=j9 I.hok e;obtain ⟨U,Y,q⟩:=RelO.some_of (v:=v) (o:=zh7 vs k) (by rw [l];exact O.val k);exact wpAny_getItem_of (mC ry) dd.mapOf Y (h U _ (I.tok _) q)
 . subst W;cases (show u=qf1 b from ry);obtain ⟨z,hd,xs,O,dd⟩:=mD I.hok e;obtain ⟨U,Y,q⟩:=RelO.some_of (v:=v) (o:=(atKey xs k).map (·.2)) (by rw [l];exact O.val k);obtain ⟨p,hp,Z⟩:=mS Y;refine wpAny_getItem_heap (qs3 hu) (jf I.hok eb) dd hp ?_;rw [Z];exact h U _ (I.tok _) q
theorem d_in (hu:A.units+1<cLine) (I:Inv X pins σ H s) (g:DGet H a y o) (Z:RelV y u) (h:∀ s',Inv X pins σ H s'->Q (.bool o.isSome) s') :
  wpAny (model X.prog X.w) A (qg4 .In u (.ref a)) Q E s:=by
 rcases g with ⟨kvs,k,e,U,l⟩ | ⟨kvs,k,b,e,U,eb,l⟩
 . subst U;obtain ⟨z,Y,vs,O,W⟩:=j9 I.hok e;refine wpAny_in_of (mC Z) Y W.mapOf ?_;rw [<- (O.val k).isSome_eq,<- l];exact h _ (I.tok _)
 . subst U;cases (show u=qf1 b from Z);obtain ⟨z,Y,xs,O,W⟩:=mD I.hok e;refine wpAny_in_heap (qs3 hu) (jf I.hok eb) Y W ?_;have q:=(O.val k).isSome_eq;rw [qq0] at q;rw [<- q,<- l];exact h _ (I.tok _)
theorem v7 (hu:A.units+1<cLine) (I:Inv X pins σ H s) (g:DGet H a y o) (Z:RelV y u) (h:∀ s',Inv X pins σ H s'->Q (.bool (!o.isSome)) s') :
  wpAny (model X.prog X.w) A (qg4 .NotIn u (.ref a)) Q E s:=by
 rcases g with ⟨kvs,k,e,U,l⟩ | ⟨kvs,k,b,e,U,eb,l⟩
 . subst U;obtain ⟨z,Y,vs,O,W⟩:=j9 I.hok e;refine wpAny_notIn_of (mC Z) Y W.mapOf ?_;rw [<- (O.val k).isSome_eq,<- l];exact h _ (I.tok _)
 . subst U;cases (show u=qf1 b from Z);obtain ⟨z,Y,xs,O,W⟩:=mD I.hok e;refine wpAny_notIn_heap (qs3 hu) (jf I.hok eb) Y W ?_;have q:=(O.val k).isSome_eq;rw [qq0] at q;rw [<- q,<- l];exact h _ (I.tok _)
theorem pL {ob:HO} (I:Inv X pins σ H s) (Y:Mut (H a)) (U:qo0 a s.heap h') (O:∃ q,h'.get? a=some q) (new:ObjOk X.prog X.w (upd H a ob) h' a ob) :
  Inv X pins σ (upd H a ob) {s with heap:=h',toks:=t'}:=
 I.write (x:=a) (e:=a) Y (.inl rfl) (fun b q W z=>(U.2 b W).trans z) O new
theorem zr {kvs:List (Key×V)} {vs:List (Key×Value)} (z:kvs.length<=qb0) (U:(a==qk8)=false) (q:KV kvs vs) (O:h'.DictOf (bM P w) a vs) :
  ObjOk P w H' h' a (.dK kvs):=⟨z,U,vs,q,O⟩
theorem rf {Q:Unit->qa4->Prop} (hu:A.units+1<cLine) (I:Inv X pins σ H s) (g:DPut H a y v H') (ry:RelV y u) (rv:RelV v r) (h:∀ s',Inv X pins σ H' s'->Q () s') :
  wpAny (model X.prog X.w) A (setItem (.ref a) u r) Q E s:=by
 rcases g with ⟨kvs,k,e,ey,l,eH⟩ | ⟨kvs,k,b,e,ey,eb,l,eH⟩
 . subst ey eH;obtain ⟨z,hd,vs,O,dd⟩:=BD I.hok e;have Z:vs.length<=qb0:=by rw [<- O.length];exact z
   have hl:(eh kvs k v).length<=qb0:=by have:=iJ kvs k v;lia
   refine wpAny_setItem_pairs (hsz:=Z) (mC ry) dd fun h' U Y=>h _ ?_
   have he:∃ q,h'.get? a=some q:=let ⟨q,_,_,W,_⟩:=U;⟨q,W⟩;exact pL I (by rw [e];exact qr6) Y he (zr hl hd (O.put k rv) U)
 . subst ey eH;cases (show u=qf1 b from ry);obtain ⟨z,hd,xs,O,dd⟩:=BE I.hok e;have Z:xs.length<=qb0:=by rw [<- Paired.length O];exact z
   have hl:(eh kvs k v).length<=qb0:=by have:=iJ kvs k v;lia
   refine wpAny_setItem_heap (hsz:=Z) (qs3 hu) (jf I.hok eb) dd fun h' U Y=>h _ ?_
   obtain ⟨q,es,ep,W,h2,h3,h4,_,h5⟩:=U;refine pL I (by rw [e];exact qr6) Y ⟨q,W⟩ ⟨hl,hd,_,(O.put k eb rv).keeps fun c ys ec=>?_,q,es,ep,W,h2,h3,h4,h5⟩;rw [aH (Bj ec e (fun z=>nomatch z))];exact ec
end
section
variable {X:Cx} {pins:List (Addr×Obj)} {σ:St} {H:Hp} {s:qa4} {a:Addr} {kvs:List (Key×V)} {k:Key} {u:Value} {A:qd5} {E:Value->qa4->Prop}
end
def v8 (i:Expr):Prop:=∀ q O,zg1 i false q O=operate [q,O] (zb1 q O)
theorem v9 {prog:qc8} {E:Value->qa4->Prop} {env:Env} {value q:Expr} {pos:Pos} {T id:String} 
 (hl:zf0 (.type T) "__getitem__"=pure (some (.builtin id))) (hs:v8 q)
 (h:wpAny (model prog w) A (eval value env) (fun o U=>wpAny (model prog w) A (eval q env) (fun i s₂=>s₂.TypeIs o T/\wpAny (model prog w) A (zb1 o i) Q E s₂) E U) E s) :
  wpAny (model prog w) A (eval (.Subscript value q pos) env) Q E s:=by
 refine Subscript_ (qk9 h (fun o U Y=>qk9 Y (fun i s₂ O=>?_) fun _ _ x=>x) fun _ _ x=>x);obtain ⟨Z,O⟩:=O;unfold zg9;refine wB ?_;rw [getitemInPython_of_ne Z.not_modules];refine wB (qw7 Z hl ?_)
 have W:wpAny (model prog w) A (zg1 q false o i) (fun r s₃=>wpAny (model prog w) A (letTemporaryGo value o r >>= fun _=>pure r) Q E s₃) E s₂:=by rw [hs o i];exact wpAny_operating (qk9 O (fun r s₃ h₃=>wB (wpAny_letTemporaryGo (qa2 h₃))) fun _ _ x=>x)
 first
  | exact qa2 (wB W)
  | exact wB (qa2 (wB W))
  | exact wB W
theorem mE {X:Cx} (I:Inv X pins σ H s) (g:DGet H a y o):s.TypeIs (.ref a) "dict":=by
 rcases g with ⟨kvs,k,e,_,_⟩ | ⟨kvs,k,b,e,_,_,_⟩
 . obtain ⟨_,_,vs,_,q⟩:=j9 I.hok e;exact q.typeIs
 . obtain ⟨_,_,xs,_,q⟩:=mD I.hok e;exact q.typeIs
def BF (td ty:TE):TE:=fun σ H Q=>td σ H fun x H1=>ty σ H1 fun y H2=>∃ a v,x=.ref a/\DGet H2 a y (some v)/\Q v H2
def tDIn (ty td:TE):TE:=fun σ H Q=>ty σ H fun y H1=>td σ H1 fun x H2=>∃ a o,x=.ref a/\DGet H2 a y o/\Q (.bl o.isSome) H2
def pM (ty td:TE):TE:=fun σ H Q=>ty σ H fun y H1=>td σ H1 fun x H2=>∃ a o,x=.ref a/\DGet H2 a y o/\Q (.bl (!o.isSome)) H2
def BG (td ty tv:TE):TS:=fun D σ H=>tv σ H fun v H1=>td σ H1 fun x H2=>ty σ H2 fun y O=>∃ a q,x=.ref a/\DPut O a y v q/\D.nx σ q
section
variable {X:Cx} {o i e value:Expr} {pos pos' tpos:Pos} {td ty tv:TE}
theorem pO (Z:X.A.units+1<cLine) (Y:PE X o td) (hi:PE X i ty) (U:v8 i):PE X (.Subscript o i pos) (BF td ty):=by intro pins s σ H Q I h;refine v9 PySem.F.slot_dict_getitem.lookup U (thn (Y pins s σ H _ I h) fun u s1 ⟨x,H1,I1,rx,q1⟩=>thn (hi pins s1 σ H1 _ I1 q1) fun iv s2 ⟨y,H2,O,W,a,v,ex,g,q2⟩=>?_);subst ex;obtain rfl:u=qf1 a:=rx;exact ⟨mE O g,re Z O g W fun w' s3 I3 q=>⟨v,H2,I3,q,q2⟩⟩
theorem zt (W:X.A.units+1<cLine) (hi:PE X i ty) (U:PE X o td):PC X .In i o (tDIn ty td):=by
 intro pins s σ H Q I h;refine thn (hi pins s σ H _ I h) fun iv s1 ⟨y,H1,O,q,q1⟩=>thn (U pins s1 σ H1 _ O q1) fun u s2 ⟨x,H2,Y,rx,a,Z,ex,g,q2⟩=>?_
 subst ex;obtain rfl:u=qf1 a:=rx;exact d_in W Y g q fun s3 I3=>⟨.bl Z.isSome,H2,I3,rfl,q2⟩
theorem ka (W:X.A.units+1<cLine) (hi:PE X i ty) (U:PE X o td):PC X .NotIn i o (pM ty td):=by
 intro pins s σ H Q I h;refine thn (hi pins s σ H _ I h) fun iv s1 ⟨y,H1,O,q,q1⟩=>thn (U pins s1 σ H1 _ O q1) fun u s2 ⟨x,H2,Y,rx,a,Z,ex,g,q2⟩=>?_
 subst ex;obtain rfl:u=qf1 a:=rx;exact v7 W Y g q fun s3 I3=>⟨.bl (!Z.isSome),H2,I3,rfl,q2⟩
theorem pP (Z:X.A.units+1<cLine) (U:PE X o td) (hi:PE X i ty) (W:PE X value tv) (q:qm0 value (some (.Subscript o i pos')) pos.line X.env=pure false) :
  PS X (.Assign [.Subscript o i pos'] value pos) (BG td ty tv):=by
 intro pins s σ H D I h;refine wpAny_Assign_Subscript (thn (W pins s σ H _ I h) fun r s1 ⟨v,H1,I1,rv,q1⟩=>thn (U pins s1 σ H1 _ I1 q1) fun u s2 ⟨x,H2,I2,rx,q2⟩=>thn (hi pins s2 σ H2 _ I2 q2) fun iv s3 ⟨y,H3,I3,O,a,H4,ex,g,Y⟩=>?_) q;subst ex;obtain rfl:u=qf1 a:=rx;exact rf Z I3 g O rv fun s4 I4=>⟨σ,H4,I4,Y⟩
end
theorem sW (h:Heap) (q:qk8<h.objs.size):ObjOk P w H (h.push {cls:=.type "dict",data:=.dict #[]}) h.objs.size (.dK []):=⟨qj2 _,beq_eq_false_iff_ne.mpr (qq4 (qb9 q)),[],.nil,Heap.DictOf.new h⟩
theorem sX (h:Heap) (q:qk8<h.objs.size):ObjOk P w H (h.push {cls:=.type "dict",data:=.dict #[]}) h.objs.size (.dT []):=⟨qj2 _,beq_eq_false_iff_ne.mpr (qq4 (qb9 q)),[],.nil,_,#[],0,qa8 _ rfl,⟨rfl,rfl,rfl⟩,rfl,rfl,qt8⟩
def zu:TE:=fun _ H Q=>∀ p,H p=none->Q (.ref p) (upd H p (.dK []))
def zw:TE:=fun _ H Q=>∀ p,H p=none->Q (.ref p) (upd H p (.dT []))
section
variable {X:Cx} {pos:Pos}
theorem sY:PE X (.Dict [] [] pos) zu:=fun pins s σ H Q I h =>wpAny_Dict_empty ⟨.ref s.heap.objs.size,_,I.laid (a:=s.heap.objs.size) (o:=.dK []) (t':=s.toks) (fun _ _ q=>gP _ q) (nL _) (sW s.heap I.big),rfl,h _ (I.hok.fresh (nL _))⟩
theorem sZ:PE X (.Dict [] [] pos) zw:=fun pins s σ H Q I h =>wpAny_Dict_empty ⟨.ref s.heap.objs.size,_,I.laid (a:=s.heap.objs.size) (o:=.dT []) (t':=s.toks) (fun _ _ q=>gP _ q) (nL _) (sX s.heap I.big),rfl,h _ (I.hok.fresh (nL _))⟩
end
section
variable {X:Cx} {pins:List (Addr×Obj)} {σ:St} {H:Hp} {s:qa4} {a:Addr} {y d:V} {u r:Value} {o:Option V} {A:qd5} {E:Value->qa4->Prop}
end
section
variable {X:Cx} {o e f:Expr} {apos cpos:Pos} {td ty tx:TE}
end
section
variable {X:Cx} {pins:List (Addr×Obj)} {σ:St} {H:Hp} {s:qa4} {a:Addr} {kvs:List (Key×V)} {A:qd5} {E:Value->qa4->Prop}
end
section
variable {X:Cx} {pins:List (Addr×Obj)} {σ:St} {H:Hp} {s:qa4} {a:Addr} {y:V} {u:Value} {A:qd5} {E:Value->qa4->Prop}
end
end L2
namespace Att
open PySem PySem.W PySem.Calls PyProof.Rows
variable {P:Params} {h:Heap}
theorem iR:∀ (ns:List Int) (vs:List Value),WellAll P h vs (ns.map WData.int)->IntsAre vs ns:=by
 intro ns;induction ns with
 | nil =>intro vs w;rw [qs0] at w;cases w;exact .nil
 | cons n ns q =>
  intro vs w;rw [qa5] at w;cases w with
  | cons a b =>cases a;exact .cons _ _ (q _ b)
variable {l:OpenLaw} {n:Nat}
theorem rg (hn:l.most=some n) {args:List WData} {U:List Value}
 (O:l.row.toRowW.claim.pre args=true) (hwl:WellAll P h U args) :
  ∃ a vs ns,U=[qf1 a]/\args=[WData.list (ns.map WData.int)]/\h.get? a=some {cls:=.type "list",data:=.seq vs.toArray}/\IntsAre vs ns/\ns.length<=n:=by
 have hsh:WShape.hasAll [] args [.list .int]=true:=(pre_splitW O).1;have hc:l.pre.holds [] {args:=args}=true:=(pre_splitW O).2;obtain ⟨d,r,rfl,h1,h2⟩:=hasAllW_cons hsh;obtain rfl:=hasAllW_nil h2;obtain ⟨xs,rfl,h3⟩:=hasW_list h1;obtain ⟨ns,rfl⟩:=items_int h3
 have Y:ns.length<=n:=by
  unfold OpenLaw.pre at hc
  have h4:(WTm.not (.lt (.lit (.int (n:Int))) (.len (.arg 0)))).holds [] {args:=[.list (ns.map .int)]}=true:=by have h4:=(holds_andW hc).1;rw [hn] at h4;exact h4
  have Z:=condW_of h4 (w_not (w_lt w_lit (w_len_list (w_arg rfl))));rw [qa1] at Z;refine Nat.le_of_not_lt fun q=>?_
  have q':(n:Int)<((ns.length:Nat):Int):=by lia
  first
   | (rw [decide_eq_true q'] at Z;exact absurd Z (by decide))
   | (simp at Z;lia)
 cases hwl with
 | cons w1 w2 =>
  cases w2;cases w1 with
  | list ho W=>exact ⟨_,_,ns,rfl,rfl,ho,iR ns _ W,Y⟩
theorem rh (l:OpenLaw) (args:List WData):l.row.toRowW.claim.post args (.bool true) args=true:=
 postW_of (r:=l.row.toRowW) (X:=(true==true))
  (show WShape.has [] (.bool true) .bool=true by first | rfl | decide | simp [WShape.has,WShape.arms,WShape.armsAll])
  (show (WTm.eq .res (.lit (.bool true))).value [] {args:=args,res:=some (.bool true),after:=args}=some (.bool (true==true)) from w_eq_bool (w_res rfl) w_lit) rfl
theorem xO {q:qc8} {loose:List Str} {XP:(Str->Option Value)->Heap->Prop} {YP:World->Heap->Prop} {d:DefRec}
 (hn:l.most=some n) (hdf:d.params.defaults=[])
 (call:∀ (w:World) (s₀ O:qa4) (mg mb:Str->Option Value) (fa:Addr) (o:Obj) (pm cd doc:Value) (a:Addr) (vs:List Value) (ns:List Int),
 Ground q loose [] XP w s₀ mg mb O.heap->YP w O.heap→
 O.heap.get? fa=some o->o.data=.func (docDef d.name d.params d.body d.scope pm cd doc)->O.heap.CodeRec cd d.name->mg d.name=some (.ref fa)→
 O.heap.get? a=some {cls:=.type "list",data:=.seq vs.toArray}->IntsAre vs ns->ns.length<=n->O.gens=#[]→
 qq5 (model l.prog w) zh8 (.call (.ref fa) ⟨[.ref a],[]⟩) (fun r s'=>r=.ok (.ret (.bool true))/\OldK O.heap s'.heap/\s'.os=O.os/\zd1 s'.gens) O) :
  WalkO q loose XP YP l.row.toRowW d [] (fun f vs=>PySem.call f vs):=by
 intro w s₀ O mg mb G Y fa o pm cd doc dV kV ho hd hcd hD hmg hg args vals as hpre hlay hrd hwl hlo;obtain rfl:dV=.none:=Dflts.none hD hdf;obtain rfl:kV=.none:=Dflts.noKw hD;obtain ⟨a,vs,ns,rfl,rfl,W,U,Z⟩:=rg hn hpre hwl;refine enter_call (qr7 (call w s₀ O mg mb fa o pm cd doc a vs ns G Y ho (fd_plain hd) hcd hmg W U Z hg) fun r s' hq=>?_);obtain ⟨rfl,h2,h3,h4⟩:=hq;exact ⟨.inl ⟨.bool true,.bool true,[],rfl,fun _=>rfl,.bool true,rh l _,fun _=>⟨qz7,fun _ hm=>(nomatch hm)⟩⟩,h2,h3,h4⟩
section
variable {prog:qc8} {w:World} {A:qd5} {E:Value->qa4->Prop} {s:qa4} {K:Frag}
end
end Att
namespace L2
open PySem PySem.Spec PyProof.Rows
theorem ke:∀ {vs:List Value} {ns:List Int},IntsAre vs ns->Vals (ns.map V.int) vs
 | _,_,.nil=>.nil
 | _,_,.cons n t h=>.cons ⟨t,rfl⟩ (ke h)
end L2
/- THE LAST THEOREM (shape;LID,My.* are yours):
   My.Adr: a structure of the addresses that your layer names (classes,functions);My.Txt K t: a structure (Prop) of the equations over K;
   My.txt_mk:{K} {implicit addresses ..} (e1:nsIn K qc0 "law"=some (some (.ref f))) (e2:K.lookup f=some ⟨oc,od,.func (fnOf "law" "law" params body scope dV kV doc pm an cdv ct),sl⟩) (e3:codeIn K cdv "law"=true) ..:∃ t,My.Txt K t
(the tactic k_is has no namespace: write k_is) -/
namespace L2
open PySem PySem.Spec PyProof.Rows
def bJ (s:Stmt):qi9:=match s with
 | .FunctionDef _ a _ _ _ _ _ _ _ _=>a
 | _=>{posonlyargs:=[],args:=[],vararg:=none,kwonlyargs:=[],kw_defaults:=[],kwarg:=none,defaults:=[]}
def aX (s:Stmt):List Stmt:=match s with
 | .FunctionDef _ _ b _ _ _ _ _ _ _=>b
 | _=>[]
def ac (s:Stmt):Scope:=match s with
 | .FunctionDef _ _ _ _ _ _ sc _ _ _=>sc
 | _=>{kind:=.function,names:=[],isGenerator:=false,isCoroutine:=false}
abbrev CX0:CXT:=fun _ _ _ _ _ _=>False
abbrev E0:XK:=fun _ _ _=>False
variable {X:Cx}
theorem BH:nZ CX0 X E0:=fun _ _ _ _ _ _ _ h=>h.elim
structure Fun (K:xA9) (x qual:Str) (st:Stmt) (f:Addr) (fd:qp9):Prop where
 ex:∃ (oc:Value) (od:Option Addr) (kV doc pm:Value) (an:Option Addr) (cdv ct:Value) (osl:Array (Option Value)),fd=xC9 x qual (bJ st) (aX st) (ac st) .none kV doc pm an cdv ct/\K.lookup f=some ⟨oc,od,.func fd,osl⟩/\xH9 K cdv qual=true
 kp:xF9 K (.ref f)=true
variable {x qual:Str} {st:Stmt} {f:Addr} {fd:qp9} {N ps:List Str} {sp:Sp} {oc doc pm cdv:Value} {od an:Option Addr} {osl:Array (Option Value)}
section
variable {P:qc8} {w:World} {K:xA9} {mg:Str->Option Value} {base:Heap}
theorem Fun.ok {k:Nat} (F:Fun K x qual st f fd) (S:FnScope N ps (ac st)) (len:∀ vs H Q E,sp vs H Q E->vs.length=ps.length)
 (O:∀ (cdv:Value) (A:qd5) (outer:List Env) (s:qa4) (H:Hp) (vs:List V) (Q:VK) (E:XK),Room k (A.deeper (qz4 qual (ac st) s.heap.objs.size f cdv))->sp vs H Q E→
 ∃ t,PSs (jd CX0 P w K mg base N qual (ac st) f cdv A outer s H E).nox (aX st) t/\t {nx:=fun _ H'=>Q .non H',rt:=Q} (start N vs) H):FnOk P w K mg base CX0 (k+1) f fd ps sp:=by
 obtain ⟨oc,od,kV,doc,pm,an,cdv,ct,osl,rfl,Y,U⟩:=F.ex;refine xL Y U S len fun A outer s H vs Q E Z W=>?_
 obtain ⟨t,h,q⟩:=O cdv A outer s H vs Q E Z W;exact ⟨t,h.nox,q⟩
theorem Fun.binds (F:Fun K x qual st f fd)
 (h:∀ (kV doc pm:Value) (an:Option Addr) (cdv ct:Value) (us:List Value),us.length=ps.length->zg8 (xC9 x qual (bJ st) (aX st) (ac st) .none kV doc pm an cdv ct) ⟨us,[]⟩=pure (ps.zip us)):Binds K fd ps []:=by
 obtain ⟨oc,od,kV,doc,pm,an,cdv,ct,osl,rfl,O,q⟩:=F.ex;exact .all (h kV doc pm an cdv ct)
theorem lr {kV ct:Value} (l:K.lookup f=some ⟨oc,od,.func (xC9 x qual (bJ st) (aX st) (ac st) .none kV doc pm an cdv ct),osl⟩) (c:xH9 K cdv qual=true) (k:xF9 K (.ref f)=true):Fun K x qual st f (xC9 x qual (bJ st) (aX st) (ac st) .none kV doc pm an cdv ct):=⟨⟨oc,od,kV,doc,pm,an,cdv,ct,osl,rfl,l,c⟩,k⟩
end
variable {A:qd5}
theorem jg {k:Nat} (q:Room k A):A.units+1<cLine:=Nat.lt_of_le_of_lt (Nat.add_le_add_left (by decide:1<=64) _) q.units
section
variable {X:Cx}
end
def Same (H H':Hp):Prop:=∀ b o,H b=some o->H' b=some o
theorem Same.refl (H:Hp):Same H H:=fun _ _ h=>h
variable {H:Hp}
theorem Same.trans {H1 H2:Hp} (a:Same H H1) (b:Same H1 H2):Same H H2:=fun c o h=>b c o (a c o h)
variable {H':Hp}
theorem Same.free (e:Same H H') {l:Addr} (h:H' l=Option.none):H l=Option.none:=by
 cases q:H l with
 | none=>rfl
 | some o =>rw [e l o q] at h;cases h
variable {K:xA9} {a:Addr} {xs:List V}
theorem Same.seq (e:Same H H') (h:SqL K H a xs):SqL K H' a xs:=by
 rcases h with (h | ⟨o,h⟩) | h
 . exact .inl (.inl (e _ _ h))
 . exact .inl (.inr ⟨o,e _ _ h⟩)
 . exact .inr h
section
variable {κ:Type} [DecidableEq κ]
end
set_option maxRecDepth 100000
set_option maxHeartbeats 4000000
theorem de:∀ (names:List (Str×qp2)) (n:Nat) (acc:List (Str×Addr)),qg3 n names acc=qg3 n names []++acc
 | [],_,_=>rfl
 | (x,k)::r,n,acc=>by
  unfold qg3;split
  . rw [de r (n+1) ((x,n)::acc),de r (n+1) [(x,n)],qj1];rfl
  . exact de r n acc
theorem c6 {α:Type}:∀ {l m:List (Str×α)},(l++m).lookup x=(l.lookup x).or (m.lookup x)
 | [],m=>by simp
 | (k,v)::l,m=>by
  rw [ql8,qf9,qf9];cases x==k with
  | true=>rfl
  | false=>exact c6
variable {n:Str} {Q:Unit->qa4->Prop} {c:Addr}
section
variable {M:Model} {A:qd5} {E:Value->qa4->Prop} {s₀ s:qa4} {m cm:Str->Option Value} {env:Env} {cs:List (Str×Addr)}
theorem stLX {v:Value} (x:zd7 s₀ env.locals m cs cm s) (hk:env.scope.kind=.function) (Y:env.kindOf n=some .local)
 (h:∀ s',zd7 s₀ env.locals (fun y=>if y=n then some v else m y) cs cm s'->Q () s'):wpAny M A (zd2 env n v) Q E s:=by
 refine zd3 Y x.toInCall.ns (fun h' O q=>h _ ⟨⟨?_,O,fun b o e=>?_,x.toInCall.fresh⟩,fun k c U=>?_,x.apart,x.above⟩) (by rw [hk];rfl)
 . obtain ⟨W,tk,rfl⟩:=x.toInCall.same;exact ⟨h',_,rfl⟩
 . exact q.extBut b o (qb9 (qc2 (qa7 e) x.toInCall.fresh)) (x.toInCall.keep b o e)
 . exact (x.cell k c U).sameBut q (qm1 (x.above k c (PySem.mem_of_lookup U)))
theorem stCX {v:Value} (x:zd7 s₀ env.locals m cs cm s) (hk:env.scope.kind=.function) (hl:env.kindOf n=some .cell)
 (Y:cs.lookup n=some c) (Z:env.cells.lookup n=some c)
 (h:∀ s',zd7 s₀ env.locals m cs (fun y=>if y=n then some v else cm y) s'->Q () s'):wpAny M A (zd2 env n v) Q E s:=by
 have W:=x.above n c (PySem.mem_of_lookup Y);refine wpAny_storeName_cell hk hl Z (x.cell n c Y) fun h' hc' U=>h _ ⟨⟨?_,x.toInCall.ns.sameBut U (qb9 W),fun b o e=>?_,x.toInCall.fresh⟩,fun k c' q=>?_,x.apart,x.above⟩
 . obtain ⟨h₁,tk,rfl⟩:=x.toInCall.same;exact ⟨h',_,rfl⟩
 . exact U.extBut b o (qb9 (qy4 (qc2 (qa7 e) x.toInCall.fresh) W)) (x.toInCall.keep b o e)
 . by_cases O:k=n
   . subst O;rw [Y] at q;cases q
     simpa using hc'
   . rw [if_neg O];exact (x.cell k c' q).sameBut U fun e=>O (zi1 x.apart (PySem.mem_of_lookup q) (e▸PySem.mem_of_lookup Y))
theorem eX (f:Str×Value->PUnit->Sem (ForInStep PUnit)) (hf:∀ n v u,f (n,v) u=(do zd2 env n v;pure (.yield ⟨⟩))) (hk:env.scope.kind=.function) (W:∀ n c,cs.lookup n=some c->env.cells.lookup n=some c) :
  ∀ (binds:List (Str×Value)) (m cm:Str->Option Value) (s:qa4) (Q:PUnit->qa4->Prop),zd7 s₀ env.locals m cs cm s→
   (∀ x∈binds,env.kindOf x.1=some .local∨(env.kindOf x.1=some .cell/\(cs.lookup x.1).isSome=true))→
   (∀ s',zd7 s₀ env.locals (bindL env.kindOf binds m) cs (bindC env.kindOf binds cm) s'->Q ⟨⟩ s')->wpAny M A (forIn binds ⟨⟩ f) Q E s
 | [],m,cm,s,Q,x,_,h=>by rw [List.forIn_nil];exact qa2 (h s x)
 | (n,v)::r,m,cm,s,Q,x,q,h=>by
  rw [List.forIn_cons,hf];have hr:∀ y∈r,env.kindOf y.1=some .local∨(env.kindOf y.1=some .cell/\(cs.lookup y.1).isSome=true):=fun y hy=>q y (qd3 _ hy)
  rcases q (n,v) qe5 with Y | ⟨Y,hc⟩
  . refine wB (wB (stLX x hk Y fun s' x'=>qa2 (eX f hf hk W r _ _ s' Q x' hr fun O U=>h O ?_)));unfold bindL bindC;rw [if_pos Y,if_pos Y];exact U
  . obtain ⟨c,hc⟩:=qr8.mp hc;have Z:¬ env.kindOf n=some .local:=by rw [Y];decide
    refine wB (wB (stCX x hk Y hc (W n c hc) fun s' x'=>qa2 (eX f hf hk W r _ _ s' Q x' hr fun O U=>h O ?_)));unfold bindL bindC;rw [if_neg Z,if_neg Z];exact U
end
variable {E:Value->qa4->Prop} {s:qa4} {scope:Scope}
theorem wa {M:Model} {O:Addr} {cl:List (Str×Addr)} {binds:List (Str×Value)} {U:Option Addr} {code:Value} {q:Addr} {Q:Env->qa4->Prop}
 (hk:scope.kind=.function)
 (W:∀ x∈binds,scope.names.lookup x.1=some .local∨(scope.names.lookup x.1=some .cell/\((qg3 (s.heap.objs.size+1) scope.names []).lookup x.1).isSome=true))
 (hQ:∀ env,env=newEnv scope s.heap.objs.size O (qg3 (s.heap.objs.size+1) scope.names []++cl) qual U code none q→
 ∀ s',zd7 s env.locals (bindL env.kindOf binds fun _=>none) (qg3 (s.heap.objs.size+1) scope.names []) (bindC env.kindOf binds fun _=>none) s'->Q env s') :
  wpAny M A (newFunctionEnv scope O cl binds qual U code none q) Q E s:=by
 simp only [newFunctionEnv,Option.isSome_none,qf0,if_false];refine wB (wpAny_alloc ?_);refine qg9 (wpAny_layCells _ (fun name Y cells=>by cases Z:Y==qp2.cell<;>simp [Z]) _ _ _ _ ?_);have ok:=cellsFrom_ok scope.names (s.heap.push {cls:=.type "frame",data:=.dict #[]}) (s.heap.objs.size+1) [] ⟨fun _ _ hm=>(nomatch hm),qz7⟩ (by rw [qf4];exact nL _);rw [qf4] at ok;rw [show ({s with heap:=s.heap.push {cls:=.type "frame",data:=.dict #[]}}:qa4).heap.objs.size=s.heap.objs.size+1 from qf4 ..,de]
 refine wB (eX (s₀:=s) (cs:=qg3 (s.heap.objs.size+1) scope.names []) (env:=newEnv scope s.heap.objs.size O (qg3 (s.heap.objs.size+1) scope.names []++cl) qual U code none q)
  _ (fun _ _ _=>rfl) hk (fun n c h=>by show (qg3 (s.heap.objs.size+1) scope.names []++cl).lookup n=some c;rw [c6,h];rfl) binds (fun _=>none) (fun _=>none) _ _
  ⟨⟨⟨_,_,rfl⟩,(Heap.Ns.new s.heap (.type "frame")).keeps (pushCells_keeps _ _),fun b o e=>pushCells_keeps _ _ b o (gP _ e),nL _⟩,fun n c hc=>(ok.empty n c (PySem.mem_of_lookup hc)).1,ok.apart,fun n c hm=>(ok.empty n c hm).2⟩
  W fun s' x=>qa2 (hQ _ rfl s' x))
def ei (names:List (Str×qp2)) (cells:List (Str×Addr)):List (Str×Addr):=names.foldl (fun cs q=>if q.2==qd8 then (q.1,(cells.lookup q.1).getD 0)::cs else cs) []
variable {cells:List (Str×Addr)} {env:Env}
theorem pQ (W:env.cells=cells):∀ (names:List (Str×qp2)) (acc:List (Str×Addr)),(∀ x∈names,x.2=.free->∃ c,cells.lookup x.1=some c)→
  (forIn names acc (fun (x:Str×qp2) (r:List (Str×Addr))=>if (x.2==qd8)=true then (do let c <- cellOf env x.1;pure (qp4 ((x.1,c)::r))) else (pure (qp4 r):Sem _)))
   = (pure (names.foldl (fun cs U=>if U.2==qd8 then (U.1,(cells.lookup U.1).getD 0)::cs else cs) acc):Sem (List (Str×Addr)))
 | [],acc,_=>rfl
 | x::r,acc,h=>by
  have Y:=fun acc=>pQ W r acc fun y Z=>h y (qd3 _ Z)
  simp only [List.forIn_cons,qi2];cases e:(x.2==qd8) with
  | false =>simp only [qf0,if_false];exact Y acc
  | true =>
   obtain ⟨c,O⟩:=h x qe5 (by simpa using e);have q:cellOf env x.1=pure c:=by unfold cellOf;rw [W,O]
   simp only [if_true,q,O,Option.getD_some];exact Y _
theorem gk {env:Env} (h:∀ x∈scope.names,x.2=.free->∃ c,env.cells.lookup x.1=some c):zf2 scope env=pure (ei scope.names env.cells):=by have:=pQ (env:=env) rfl scope.names [] h;unfold zf2 ei;rw [<- this];simp only [bind_pure]
theorem kf:∀ {names:List (Str×qp2)} {acc:List (Str×Addr)} {x:Str} {c:Addr},(∀ y∈names,y.2=.free->∃ c,cells.lookup y.1=some c)→
  (names.foldl (fun cs U=>if U.2==qd8 then (U.1,(cells.lookup U.1).getD 0)::cs else cs) acc).lookup x=some c->(∀ c,acc.lookup x=some c->cells.lookup x=some c)->cells.lookup x=some c
 | [],acc,x,c,_,h,q=>q c h
 | y::r,acc,x,c,W,h,q=>by
  simp only [qi2] at h;refine kf (fun z hz=>W z (qd3 _ hz)) h ?_;intro c' h';split at h'
  . rename_i Z;obtain ⟨c0,e0⟩:=W y qe5 (by simpa using Z);rw [qf9] at h';split at h'
    . rename_i Y;have O:x=y.1:=by simpa using Y
      rw [e0] at h';subst O;rw [e0];simpa using h'
    . exact q c' h'
  . exact q c' h'
variable {names:List (Str×qp2)}
theorem eY (q:∀ y∈names,y.2=.free->∃ c,cells.lookup y.1=some c) (h:(ei names cells).lookup x=some c):cells.lookup x=some c:=kf q h fun c h=>by simp at h
theorem kg:∀ {names:List (Str×qp2)} {acc:List (Str×Addr)} {x:Str},((x,qd8)∈names∨(acc.lookup x).isSome)→
  ((names.foldl (fun cs q=>if q.2==qd8 then (q.1,(cells.lookup q.1).getD 0)::cs else cs) acc).lookup x).isSome
 | [],acc,x,h=>by simpa using h
 | y::r,acc,x,h=>by
  simp only [qi2];refine kg ?_;rcases h with h | h
  . rcases qb3.mp h with e | h
    . subst e;right;simp [qf9]
    . exact .inl h
  . right;split
    . rw [qf9];split
      . rfl
      . exact h
    . exact h
theorem mF (h:(x,qd8)∈names):∃ c,(ei names cells).lookup x=some c:=qr8.mp (kg (.inl h))
structure CmpScope (N:List Str) (outer scope:Scope) (M:List Str) (src:List (Option Nat)):Prop where
 kind:scope.kind=.function
 nocell:∀ y∈scope.names,y.2≠.cell
 free:∀ y∈scope.names,y.2=.free->outer.names.lookup y.1=some .cell∨outer.names.lookup y.1=some .free
 names:∀ y∈scope.names,y.2=.local->scope.names.lookup y.1=some .local
 lf:∀ y∈scope.names,y.2=.free->scope.names.lookup y.1=some .free
 len:M.length=src.length
 nd:M.Nodup
 src:∀ p∈M.zip src,∀ j∈p.2,N[j]?=some p.1/\(p.1,qd8)∈scope.names
def stC (src:List (Option Nat)) (σ:St):St:=src.map fun o=>o.bind fun j=>(σ[j]?).join
noncomputable def cxC (X:Cx) (M:List Str) (scope:Scope) (C:Addr) (s:qa4) (H:Hp) (ex:List Addr):Cx:={X with N:=M,s₀:=s,H₀:=H,env:=compEnvC scope (ei scope.names X.env.cells) C X.env,outer:=X.stack,ex:=ex,fn:=fun _=>false,pn:=[],xe:=fun _ _=>False}
noncomputable def PTs (X:Cx) (ifs:List Expr) (t:TT):Prop:=
 ∀ (pins:List (Addr×Obj)) (s:qa4) (σ:St) (H:Hp) (Q:Bool->Hp->Prop),Inv X pins σ H s->t σ H Q→
  wpAny (model X.prog X.w) X.A (forIn ifs true fun c r=>if r=true then do let ok <- isTrue c X.env (eval c X.env);pure (qp4 ok) else pure (qp4 r)) (TP X pins σ Q) X.xe s
def tYes:TT:=fun _ H Q=>Q true H
theorem wb:PTs X [] tYes:=fun pins s σ H Q I h=>wpAny_tests_nil ⟨H,I,h⟩
theorem wc {c:Expr} {t:TT} (h:PT X c t):PTs X [c] t:=fun pins s σ H Q I q=>wpAny_tests_one (h pins s σ H Q I q)
def Wk (a b:St):Prop:=a.length=b.length/\∀ (i:Nat) v,a[i]?=some (some v)->b[i]?=some (some v)
noncomputable def mG (src:List (Option Nat)) (wi:TI) (g:TG) (tt:TT) (te:TE):TE:=fun σ H Q=>wi σ H fun J H1=>∀ D,H1 D=none->∃ W:Nat->Nat->Hp->Prop,(∃ m,W 0 m (upd H1 D (.lst [])))/\∀ i m H,W i m H→
 (J.stop i H/\Q (.ref D) H)∨(J.go i H/\∃ N:Hp->Prop,(∀ H',N H'->∃ Y,Y<m/\W (i+1) Y H')/\∀ x H',J.yld i H x H'→
  g x (stC src σ) H' fun q H2=>Wk (stC src σ) q/\tt q H2 fun b O=>if b=true then te q O fun v U=>∃ ys,U D=some (.lst ys)/\ys.length<qb0/\N (upd U D (.lst (ys++[v]))) else N O)
variable {w:World} {pos:Pos}
theorem gG {prog:qc8} {R:Result->qa4->Prop} {elt q iter:Expr} {ifs:List Expr} {it acc:Value} (I:Nat->qa4->Prop)
 (turn:∀ n s,I n s->wpAny (model prog w) A (qy0 it) (fun r O=>match r with
 | none=>R (.ok .next) O
 | some v=>wpAny (model prog w) A (qw3 q it v) (fun _ U=>wpAny (model prog w) A (zd5 q env v) (fun _ W =>
 wpAny (model prog w) A (forIn ifs true fun c r=>if r=true then do let ok <- isTrue c env (eval c env);pure (qp4 ok) else pure (qp4 r)) (fun ok s₃ =>
 if ok=true then wpAny (model prog w) A (eval elt env) (fun x s₄ =>
 wpAny (model prog w) A (call (.builtin "list.append") [acc,x]) (fun _ s₅=>∃ m,m<n/\I m s₅) (fun _ _=>False) s₄) (fun _ _=>False) s₃
 else ∃ m,m<n/\I m s₃) (fun _ _=>False) W) (fun _ _=>False) U) (fun _ _=>False) O) (fun _ _=>False) s)
 (n:Nat) (h:I n s) :
  qq5 (model prog w) A (.compLoop (.ListComp elt [⟨q,iter,ifs,0⟩] scope pos) 0 it acc env) R s:=by
 refine codeAny_loop rfl I (fun n s hI=>?_) n h;show wpAny _ A ((compTurn (.ListComp elt [⟨q,iter,ifs,0⟩] scope pos) 0 it acc env).onRaise (fun x=>do noteFrame x env;theTreesLotGoes x)) _ _ s;refine wpAny_noted ?_;rw [compTurn_list];refine wB (za7 (wB (qk9 (turn n s hI) (fun r O Y=>?_) fun _ _ h'=>h'.elim)));cases r with
 | none=>exact qa2 Y
 | some v =>
  refine wB (qk9 Y (fun _ U Z=>?_) fun _ _ h'=>h'.elim);refine wB (qk9 Z (fun _ W h₂=>wB (qk9 h₂ (fun ok s₃ h₃=>?_) fun _ _ h'=>h'.elim)) fun _ _ h'=>h'.elim);cases ok with
  | false=>exact qa2 ⟨rfl,h₃⟩
  | true =>exact wB (wB (qk9 h₃ (fun x s₄ h₄=>wB (qk9 h₄ (fun _ s₅ h₅=>qa2 (qa2 ⟨rfl,h₅⟩)) fun _ _ h'=>h'.elim)) fun _ _ h'=>h'.elim))
variable {σ:St}
section
variable {X:Cx} {elt tg iter:Expr} {ifs:List Expr} {scope:Scope} {pos:Pos} {M:List Str} {src:List (Option Nat)} {wi:TI} {g:TG} {tt:TT} {te:TE}
theorem lu (Z:∀ y∈scope.names,y.2≠.cell) (h:(relabel scope env).names.lookup x=some .cell∨(relabel scope env).names.lookup x=some .free):(x,qd8)∈scope.names:=by
 have q:∀ k,(relabel scope env).names.lookup x=some k->(k=.cell∨k=.free)->(x,qd8)∈scope.names:=by
  intro k hk O;have Y:=PySem.mem_of_lookup hk;unfold relabel at Y;obtain ⟨⟨n,k0⟩,U,e⟩:=qc9.mp Y;dsimp only at e;split at e
  . rename_i W;simp only [qb1] at W;have:k0=.free:=by simpa using W.1.1
    subst this;cases e;exact U
  . cases e;rcases O with z | z
    . subst z;exact absurd rfl (Z _ U)
    . subst z;exact U
 rcases h with h | h
 . exact q _ h (.inl rfl)
 . exact q _ h (.inr rfl)
theorem mH {pins:List (Addr×Obj)} {s1:qa4} {fp:List Addr} {m1:Str->Option Value} (S:CmpScope X.N X.env.scope scope M src) (I:Inv X pins σ H s) (hf:∀ b∈fp,fU X pins H b)
 (hfl:∀ b∈fp,b<s.heap.objs.size) (hn:s1.heap.Ns s.heap.objs.size m1) (hk:∀ b o,s.heap.get? b=some o->s1.heap.get? b=some o) (hos:s1.os=s.os) (hg:s1.gens=s.gens) :
  Inv (cxC X M scope s.heap.objs.size s H fp) [] (stC src σ) H s1:=by
 have Z:∀ x∈scope.names,x.2=.free->∃ c,X.env.cells.lookup x.1=some c:=fun x hx Y=>I.ok.has x.1 (S.free x hx Y)
 have O:∀ x c,(ei scope.names X.env.cells).lookup x=some c->X.env.cells.lookup x=some c:=fun x c h=>eY Z h
 have W:∀ c v,s.heap.IsCell c v->s1.heap.IsCell c v:=fun c v ⟨o,ho,hd⟩=>⟨o,hk c o ho,hd⟩
 refine ⟨⟨I.ok.mod,S.kind,I.ok.glob,I.ok.blt,nL _,fun y z c h1 h2=>I.ok.inj y z c (O _ _ h1) (O _ _ h2),fun x hx=>mF (lu S.nocell hx),fun x c h=>(nomatch h),I.ok.hd,I.ok.frames,.inl rfl,
  fun b hb=>⟨qb9 (hfl b hb),fun x c h=>(hf b hb).2.2.2.2.1 x c (O _ _ h)⟩,I.bs,qc1 I.ok.bsz I.sz,fun b o e hb=>?_,fun b hb z=>?_,I.stack,I.stkFree,fun p hp=>I.base.cts _ _ (I.ok.tb p hp)⟩,
  hos,(by rw [hg];exact I.bare),Un.kept hk,⟨m1,hn,fun i x v h1 h2 h3=>?_⟩,fun x c h=>?_,I.hok.fresh (qt1 _),fun x c h=>I.freeC x c (O _ _ h),fun p hp=>absurd hp (by simp [cxC]),I.hok.kept hk,?_⟩
 . rcases (hf b hb).2.2.2.1 with z | z
   . exact I.ok.noex b o e z
   . exact absurd (qc2 (qa7 e) (qc1 I.ok.bsz z)) (qo2 _)
 . rcases qb3.mp (I.stkSub b z) with q | q
   . exact (hf b hb).2.1 q
   . exact (hf b hb).2.2.1 q
 . -- a name taken over
   have h1:M[i]?=some x:=h1;unfold stC at h2;rw [qb4] at h2;cases hs:src[i]? with
   | none=>rw [hs] at h2;cases h2
   | some o =>
    rw [hs] at h2;simp only [ql1,qp8] at h2;cases o with
    | none=>cases h2
    | some j =>
     simp only [qa3] at h2
     have hmem:(x,some j)∈M.zip src:=by
      have:(M.zip src)[i]?=some (x,some j):=by rw [qq8];exact ⟨h1,hs⟩
      exact qc7 this
     obtain ⟨hN,Y⟩:=S.src _ hmem j rfl
     have hσ:σ[j]?=some (some v):=by
      cases e:σ[j]? with
      | none=>rw [e] at h2;cases h2
      | some o=>rw [e] at h2;simp only [qr0] at h2;rw [h2]
     have U:=S.free _ Y rfl;obtain ⟨m,hm,hl⟩:=I.loc;obtain ⟨u,r,l⟩:=hl j x v hN hσ (.inr U);refine ⟨u,r,?_⟩
     have hloc:X.env.kindOf x≠some .local:=by show X.env.scope.names.lookup x≠_;rcases U with q | q<;>rw [q]<;>decide
     rcases l with l | ⟨_,c,e,z⟩
     . exact absurd l.1 hloc
     . obtain ⟨c',e'⟩:=mF (cells:=X.env.cells) Y;have:=O _ _ e';rw [e] at this;cases this;refine .inr ⟨?_,c,e',W _ _ z⟩;rcases h3 with q | q
       . exact absurd q (by
          -- a name that is free in the block is not local there
          exact (by
           intro q
           have:scope.names.lookup x=some .local:=by
            have hb:∀ (names:List (Str×qp2)),(names.map fun (n,k)=>if (k==qd8&&X.env.scope.kind==.function&&X.env.kindOf n==some .cell) then (n,qp2.cell) else (n,k)).lookup x=some .local->names.lookup x=some .local:=by
             intro names;induction names with
             | nil=>intro h;simp at h
             | cons y r ih =>
              obtain ⟨n,k⟩:=y;intro h;simp only [qa5] at h;by_cases hx:x=n
              . subst hx;split at h
                . simp [qf9] at h
                . simpa [qf9] using h
              . have hx':(x==n)=false:=by simpa using hx
                split at h
                . simp only [qf9,hx'] at h ⊢;exact ih h
                . simp only [qf9,hx'] at h ⊢;exact ih h
            exact hb _ q
           rw [S.lf _ Y rfl] at this;cases this))
       . exact q
 . obtain ⟨v,z⟩:=I.cell x c (O _ _ h);exact ⟨v,W _ _ z⟩
 . show (stC src σ).length=M.length;unfold stC;rw [qa1,S.len]
theorem tj (S:CmpScope X.N X.env.scope scope M src) (hc:X.calm=true) (hi:PI X tg iter wi) (hg:M.Nodup->∀ C s H ex,PG (cxC X M scope C s H ex) tg g) (ht:∀ C s H ex,PTs (cxC X M scope C s H ex) ifs tt)
  (he:∀ C s H ex,PE (cxC X M scope C s H ex) elt te) (hs:∀ x,qh6 iter X.env x=pure x:=by intro _;rfl) :
  PE X (.ListComp elt [⟨tg,iter,ifs,0⟩] scope pos) (mG src wi g tt te):=by
 intro pins s σ H Q I h;rw [eval_ListComp];have hcells:∀ x∈scope.names,x.2=.free->∃ c,X.env.cells.lookup x.1=some c:=fun x hx hfr=>I.ok.has x.1 (S.free x hx hfr)
 refine qz8 (use:=none) rfl hs (gk hcells) S.kind S.names (thn (hi pins s σ H _ I h) fun v s1 h1=>thn h1 fun itv s2 h2=>?_);obtain ⟨it,fp,tn,J,H2,rfl,I2,T,st2,f2,hq⟩:=h2;refine qd2 ?_;have I3:Inv X pins σ (upd H2 s2.heap.objs.size (.lst [])) {s2 with heap:=s2.heap.push {cls:=.type "list",dict:=none,data:=.seq ([]:List Value).toArray},toks:=s2.toks}:=I2.lnew (its:=[]) (ys:=[]) (t':=s2.toks) .nil (by simp);have hD:H2 s2.heap.objs.size=none:=I2.fresh;obtain ⟨W,⟨m0,w0⟩,turn⟩:=hq _ hD;generalize hDn:s2.heap.objs.size=D at*
 generalize hs3:({s2 with heap:=s2.heap.push {cls:=.type "list",dict:=none,data:=.seq ([]:List Value).toArray},toks:=s2.toks}:qa4)=Y at*
 have f3:∀ b∈fp,fU X pins (upd H2 D (.lst [])) b:=fun b O=>⟨by obtain ⟨o,e,_⟩:=T.obj _ _ st2 b O;rw [aH (by rw [<- hDn];exact qb9 (qa7 e))];exact (f2 b O).1,(f2 b O).2⟩
 have k23:∀ b o,s2.heap.get? b=some o->Y.heap.get? b=some o:=fun b o e=>by rw [<- hs3];exact gP _ e
 have st3:tn 0 Y.heap:=T.keep _ _ _ st2 fun b _ o e=>k23 b o e
 have fl3:∀ b∈fp,b<Y.heap.objs.size:=fun b O=>by obtain ⟨o,e,_⟩:=T.obj _ _ st3 b O;exact qa7 e
 refine wpAny_newFunctionEnv S.nocell (by intro y hy;simp at hy) (fun h₁ hns₁ hsb₁=>?_) S.kind;have k34:∀ b o,Y.heap.get? b=some o->h₁.get? b=some o:=fun b o e=>hsb₁.extBut b o (qb9 (qa7 e)) (gP _ e)
 generalize hs4:({Y with heap:=h₁,toks:=Y.toks+([]:List (Str×Value)).length}:qa4)=s4
 have I4:Inv (cxC X M scope Y.heap.objs.size Y (upd H2 D (.lst [])) fp) [] (stC src σ) (upd H2 D (.lst [])) s4:=by rw [<- hs4];exact mH S I3 f3 fl3 hns₁ k34 rfl rfl
 have st4:tn 0 s4.heap:=T.keep _ _ _ st3 fun b _ o e=>by rw [<- hs4];exact k34 b o e
 generalize U:cxC X M scope Y.heap.objs.size Y (upd H2 D (.lst [])) fp=Z at*
 have hg':PG Z tg g:=by rw [<- U];exact hg S.nd _ _ _ _
 have ht':PTs Z ifs tt:=by rw [<- U];exact ht _ _ _ _
 have he':PE Z elt te:=by rw [<- U];exact he _ _ _ _
 have eP:Z.prog=X.prog:=by rw [<- U];rfl
 have eW:Z.w=X.w:=by rw [<- U];rfl
 have eK:Z.K=X.K:=by rw [<- U];rfl
 have eA:Z.A=X.A:=by rw [<- U];rfl
 have ex':Z.xe=fun _ _=>False:=by rw [<- U];rfl
 have ec:Z.calm=true:=by rw [<- U];exact hc
 have eE:Z.env=compEnvC scope (ei scope.names X.env.cells) Y.heap.objs.size X.env:=by rw [<- U];rfl
 have stat:∀ {H':Hp},(∀ b∈fp,H' b=none)->∀ b∈fp,fU Z [] H' b:=fun hn b O=>by
  rw [<- U];refine ⟨hn b O,qb9 (fl3 b O),fun z=>?_,.inl O,fun x c h=>(f3 b O).2.2.2.2.1 x c (eY hcells h),fun p hp=>absurd hp (by simp [cxC])⟩;rcases qb3.mp (I3.stkSub b z) with q | q
  . exact (f3 b O).2.1 q
  . exact (f3 b O).2.2.1 q
 -- behind the block
 have fin:∀ (H':Hp) (s':qa4),Inv Z [] (stC src σ) H' s'->Q (.ref D) H'->zf3 (model X.prog X.w) X.A X.xe none (EP X pins σ Q) (.ref D) Y.heap.objs.size (.ok .next) s':=by
  intro H' s' J' q;rw [<- U] at J';obtain ⟨m,hn,_⟩:=id J'.loc;refine ⟨m,hn,fun h' sb=>⟨.ref D,H',?_,rfl,q⟩⟩;have hC:H' Y.heap.objs.size=none:=J'.free;have un:Un (frs X.stack) fp (upd H2 D (.lst [])) H' Y.heap s'.heap:=J'.base;have kC:∀ b o,b≠Y.heap.objs.size->s'.heap.get? b=some o->h'.get? b=some o:=fun b o O e=>sb.extBut b o O e
  have un':Un (frs X.stack) fp (upd H2 D (.lst [])) H' Y.heap h':=
   ⟨fun b o e n O hx=>kC b o (qb9 (qa7 e)) (un.keep b o e n O hx),
    fun b o e n O hx=>by obtain ⟨sl,e'⟩:=un.slot b o e n O hx;exact ⟨sl,kC b _ (qb9 (qa7 e)) e'⟩,
    un.free,
    fun b o e hx=>by obtain ⟨o',e'⟩:=un.there b o e hx;exact ⟨o',kC b _ (qb9 (qa7 e)) e'⟩,un.tups,un.frzs,un.tbls,un.cts⟩
  have hok':HOk X.prog X.w H' h':=fun b u e=>by
   have nb:b≠Y.heap.objs.size:=fun z=>by rw [z,hC] at e;cases e
   refine (J'.hok b u e).stay (fun c v hc' q=>kC c v ?_ q) (fun _ q=>q) (fun _ _ q=>q) fun _ _ _ q=>q
   rcases hc' with z | z
   . rw [z];exact nb
   . intro w;rw [w,hC] at z;cases z
  exact I3.call' (s':={s' with heap:=h'}) (show s'.os=Y.os from J'.os) un' hok' J'.bare fun b O=>⟨(f3 b O).2.2.2.1,(f3 b O).2.1,(f3 b O).2.2.2.2.1,(f3 b O).2.2.2.2.2⟩
 have loop:∀ s4':qa4,s4'=s4->qq5 (model X.prog X.w) X.A (.compLoop (.ListComp elt [⟨tg,iter,ifs,0⟩] scope pos) 0 (.ref it) (.ref D) Z.env) (zf3 (model X.prog X.w) X.A X.xe none (EP X pins σ Q) (.ref D) Y.heap.objs.size) s4':=by
  rintro _ rfl;refine gG (fun n s'=>∃ i H',Inv Z [] (stC src σ) H' s'/\tn i s'.heap/\(∀ b∈fp,H' b=none)/\W i n H') ?_ m0 ⟨0,_,I4,st4,fun b O=>(f3 b O).1,w0⟩;rintro n s5 ⟨i,H5,I5,st5,fr5,w5⟩;rcases turn i n H5 w5 with ⟨stop,qn⟩ | ⟨go,N,hN,step⟩
  . have:=T.done Z eP eW eK ec i [] s5 (stC src σ) H5 (fun _ _=>False) I5 (stat fr5) st5 stop;rw [eA] at this;refine thn this fun r s6 ⟨hr,I6⟩=>?_
    subst hr;exact fin H5 s6 I6 qn
  . have:=T.item Z eP eW eK ec i [] s5 (stC src σ) H5 (fun _ _=>False) I5 (stat fr5) st5 go;rw [eA] at this;refine thn this fun r s6 ⟨u,hr,h6⟩=>?_
    subst hr;refine thn h6 fun _ s7 ⟨x,H7,I7,r7,y7,st7,fr7⟩=>?_
    have I7':=I7.pinned (stat fr7) (T.obj _ _ st7);have a1:=hg' _ s7 (stC src σ) H7 x u _ I7' r7 (step x H7 y7);rw [ex',eP,eW,eA] at a1;refine thn a1 fun _ s8 ⟨σ8,H8,I8,wk8,q8⟩=>?_
    have a2:=ht' _ s8 σ8 H8 _ I8 q8;rw [ex',eP,eW,eA] at a2;refine thn a2 fun ok s9 ⟨H9,I9,q9⟩=>?_
    have again:∀ {H7':Hp} {s':qa4},Inv Z ([]++ic fp s7.heap) σ8 H7' s'->N H7'->∃ m,m<n/\∃ i H',Inv Z [] (stC src σ) H' s'/\tn i s'.heap/\(∀ b∈fp,H' b=none)/\W i m H':=fun {H7' s'} J7 n7=>by obtain ⟨m',hm,w7⟩:=hN H7' n7;refine ⟨m',hm,i+1,H7',J7.unpinned.weak wk8.1 wk8.2,T.keep _ _ _ st7 fun b O o e=>(J7.pin (b,o) (qc5 _ (qc5 _ (c5 O e)))).1,fun b O=>?_,w7⟩;obtain ⟨o,e,d⟩:=T.obj _ _ st7 b O;exact (J7.pin (b,o) (qc5 _ (qc5 _ (c5 O e)))).2.1
    cases ok with
    | false=>exact again I9 q9
    | true =>
     have a3:=he' _ s9 σ8 H9 _ I9 q9;rw [ex',eP,eW,eA] at a3;refine thn a3 fun v s10 ⟨y,H10,I10,r10,ys,hl,hz,q10⟩=>?_
     have a4:=im (X:=Z) _ s10 σ8 H10 (.ref D) [y] (.ref D) [v] (fun _ H'=>N H') I10 rfl (.cons r10 .nil) ⟨D,ys,y,rfl,rfl,hl,hz,q10⟩;rw [ex',eP,eW,eA] at a4;refine thn a4 fun _ s11 ⟨_,H11,I11,_,q11⟩=>?_
     exact again I11 q11
 have e4:∀ c:Env,c=Z.env->qq5 (model X.prog X.w) X.A (.compStart (.ListComp elt [⟨tg,iter,ifs,0⟩] scope pos) 0 (.ref it) (.ref D) c) (zf3 (model X.prog X.w) X.A X.xe none (EP X pins σ Q) (.ref D) Y.heap.objs.size) s4:=by rintro _ rfl;exact zc5 (loop _ rfl) (T.self _ _ _ _ _ st4 (loop _ rfl))
 exact e4 _ (by rw [eE];rfl)
end
def Its (x:Str):It:=⟨fun i _=>i<x.cps.size,fun i H v H'=>H'=H/\∃ c,x.cps[i]?=some c/\v=.str ⟨#[c]⟩,fun i _=>i=x.cps.size⟩
variable {P:qc8} {tg:Expr}
theorem rj (x:Str) (t:Tok) (it:Addr):Turn P w K tg (Its x) [it] it (fun i h=>h.IsStrIter it "str_ascii_iterator" x t i) where
 mem:=by simp
 obj:=fun i h st b O=>by
  have e:b=it:=by simpa using O
  subst e;obtain ⟨o,e,c,d⟩:=st;exact ⟨o,e,fun v z=>by rw [d] at z;cases z⟩
 keep:=fun i h h' st k=>let ⟨o,ho,r⟩:=st;⟨o,k it (by simp) o ho,r⟩
 item:=by
  intro X hP Z hK hc i pins s σ H E I W st q;subst hP Z hK;obtain ⟨f0,f1,f2,Y,f4,f5⟩:=W it (by simp);have q:i<x.cps.size:=q;refine wpAny_pyNext_ascii_item st (c:=x.cps[i]) (by simp [q]) fun h' U sb=>?_
  have I1:Inv X pins σ H {s with heap:=h',toks:=s.toks+1}:=I.turned (t':=s.toks+1) (fun b o O e=>(sb.2 b O).trans e) f0 f1 Y f4 f5;obtain ⟨o,e,c,d⟩:=id U;exact ⟨_,rfl,mt (s:={s with heap:=h',toks:=s.toks+1}) e c d (by decide) ⟨.str ⟨#[x.cps[i]]⟩,H,I1,⟨_,rfl⟩,⟨rfl,x.cps[i],by simp [q],rfl⟩,U,fun b O=>(W b O).1⟩⟩
 done:=by intro X hP Z hK hc i pins s σ H E I W st q;subst hP Z hK;have q:i=x.cps.size:=q;obtain ⟨f0,f1,f2,Y,f4,f5⟩:=W it (by simp);exact wpAny_pyNext_ascii_end (I.ok.hd hc) st (by simp [q]) fun h' eb=>⟨rfl,I.turned (t':=s.toks) (fun b o O e=>eb b o O e) f0 f1 Y f4 f5⟩
 self:=fun _ _ _ _ _ st h=>wpAny_pyIter_striter_ascii st h
theorem rk (x:Str) (t:Tok) (it:Addr):Turn P w K tg (Its x) [it] it (fun i h=>h.IsStrIter it "str_iterator" x t i) where
 mem:=by simp
 obj:=fun i h st b O=>by
  have e:b=it:=by simpa using O
  subst e;obtain ⟨o,e,c,d⟩:=st;exact ⟨o,e,fun v z=>by rw [d] at z;cases z⟩
 keep:=fun i h h' st k=>let ⟨o,ho,r⟩:=st;⟨o,k it (by simp) o ho,r⟩
 item:=by
  intro X hP Z hK hc i pins s σ H E I W st q;subst hP Z hK;obtain ⟨f0,f1,f2,Y,f4,f5⟩:=W it (by simp);have q:i<x.cps.size:=q;refine wpAny_pyNext_wide_item st (c:=x.cps[i]) (by simp [q]) fun h' U sb=>?_
  have I1:Inv X pins σ H {s with heap:=h',toks:=s.toks+1}:=I.turned (t':=s.toks+1) (fun b o O e=>(sb.2 b O).trans e) f0 f1 Y f4 f5;obtain ⟨o,e,c,d⟩:=id U;exact ⟨_,rfl,mt (s:={s with heap:=h',toks:=s.toks+1}) e c d (by decide) ⟨.str ⟨#[x.cps[i]]⟩,H,I1,⟨_,rfl⟩,⟨rfl,x.cps[i],by simp [q],rfl⟩,U,fun b O=>(W b O).1⟩⟩
 done:=by intro X hP Z hK hc i pins s σ H E I W st q;subst hP Z hK;have q:i=x.cps.size:=q;obtain ⟨f0,f1,f2,Y,f4,f5⟩:=W it (by simp);exact wpAny_pyNext_wide_end (I.ok.hd hc) st (by simp [q]) fun h' eb=>⟨rfl,I.turned (t':=s.toks) (fun b o O e=>eb b o O e) f0 f1 Y f4 f5⟩
 self:=fun _ _ _ _ _ st h=>wpAny_pyIter_striter_wide st h
section
variable {X:Cx} {tg:Expr}
def iStr (tl:TE):TI:=fun σ H R=>tl σ H fun v H1=>∃ x,v=.str x/\R (Its x) H1
theorem tm {l:Expr} {tl:TE} (Z:PE X l tl):PI X tg l (iStr tl):=by
 intro pins s σ H R I h;refine thn (Z pins s σ H _ I h) fun v s1 ⟨y,H1,U,r1,q1⟩=>?_
 obtain ⟨x,e,q⟩:=q1;subst e;obtain ⟨t,rfl⟩:=r1
 have O:∀ b∈[s1.heap.objs.size],fU X pins H1 b:=fun b Y=>by
  have e:b=s1.heap.objs.size:=by simpa using Y
  subst e;exact U.fpOk (nL _) (U.hok.fresh (nL _))
 cases W:x.cps.all (· < 128)
 . refine wpAny_pyIter_wide W ?_;exact ⟨s1.heap.objs.size,[s1.heap.objs.size],_,_,H1,rfl,U.kept (t':=s1.toks) fun b o e=>gP _ e,rk x t _,⟨_,qa8 _ rfl,rfl,rfl⟩,O,q⟩
 . refine wpAny_pyIter_ascii W ?_;exact ⟨s1.heap.objs.size,[s1.heap.objs.size],_,_,H1,rfl,U.kept (t':=s1.toks) fun b o e=>gP _ e,rj x t _,⟨_,qa8 _ rfl,rfl,rfl⟩,O,q⟩
theorem jh:∀ {bs:List Bool} {us:List Value},Vals (bs.map V.bl) us->us=bs.map qv6
 | [],_,.nil=>rfl
 | b::r,_,.cons h t=>by have h:_=qv6 b:=h;rw [h,jh t];rfl
theorem rl {bs:List Bool}:(qb8 bs.length).map (fun i=>bs.getD i false)=bs:=by
 apply qu5
 . simp
 . intro i h1 h2;simp at h1;simp [h1]
theorem tp (hc:X.calm=true):cL X (.builtin "all") (fun xs H Q=>∃ (a:Addr) (bs:List Bool),xs=[.ref a]/\SqL X.K H a (bs.map V.bl)/\Q (.bl (bs.all id)) H):=by
 intro pins s σ H xs us Q I r h;obtain ⟨a,bs,rfl,hq,q⟩:=h;obtain ⟨u,rfl,ru⟩:=fV r;cases ru;obtain ⟨its,Z,p,hz⟩:=I.list hq;have eu:=jh Z;subst eu
 have W:a≠s.heap.objs.size:=by obtain ⟨o,n,e,_⟩:=p;exact qb9 (qa7 e)
 refine call_all_walk (qz3 p.isList ⟨s.heap.objs.size,_,_,_,_,_,fun i=>bs.getD i false,rfl,Walks.list (A:=X.A.in1) (I.ok.hd hc) _ a W (bs.map qv6).toArray,⟨⟨_,qa8 _ rfl,rfl,rfl⟩,?_⟩,?_,?_⟩)
 . obtain ⟨o,Y,hr⟩:=p.isList;exact ⟨o,gP _ Y,hr⟩
 . intro i v s' Q' E' O U;rw [List.getElem?_toArray,qb4] at O;cases e:bs[i]? with
   | none=>rw [e] at O;cases O
   | some b =>rw [e] at O;cases O;refine ql0 ?_;dsimp only at U;rw [qa9,e] at U;exact U
 . intro h' tk hk;refine ⟨.bl _,H,I.kept (h':=h') (t':=tk) fun b o e=>hk b o (fun z=>?_) (gP _ e),rfl,?_⟩
   . have z:b=s.heap.objs.size:=by simpa using z
     subst z;exact absurd (qa7 e) (qo2 _)
   . have e:(qb8 (bs.map qv6).toArray.size).all (fun i=>bs.getD i false)=bs.all id:=by
      conv=>rhs;rw [<- rl (bs:=bs)]
      rw [List.all_map];simp
     rw [e];exact q
theorem kh:∀ {ts:List Str} {us:List Value},Vals (ts.map V.str) us->∃ l,us=strValues l/\l.map (·.1)=ts
 | [],_,.nil=>⟨[],rfl,rfl⟩
 | x::r,_,.cons h t=>by obtain ⟨tk,rfl⟩:=h;obtain ⟨l,q,O⟩:=kh t;exact ⟨(x,tk)::l,by rw [q];rfl,by rw [<- O];rfl⟩
theorem we:MtR X "str.join" (fun x vs H Q=>∃ (a:Str) (l:Addr) (ts:List Str),x=.str a/\vs=[.ref l]/\SqL X.K H l (ts.map V.str)/\JoinOk a ts=true/\Q (.str (Txt.join a ts)) H):=by intro pins s σ H x vs v us Q I Z U h;obtain ⟨a,l,ts,rfl,rfl,W,O,q⟩:=h;obtain ⟨t,rfl⟩:=Z;obtain ⟨u,rfl,Y⟩:=U.one;cases Y;obtain ⟨its,r,p,hz⟩:=I.list W;obtain ⟨ls,rfl,e2⟩:=kh r;exact SC.join p.isList e2 O fun t' k=>⟨.str _,H,I.tok _,⟨_,rfl⟩,q⟩
theorem pR {v:Value} {o:Option Int} (h:zf7 v o):∃ p:Option (Int×Tok),v=partValue p/\o=p.map (·.1):=by
 cases o with
 | none=>exact ⟨none,by cases h<;>rfl,rfl⟩
 | some i =>cases h;exact ⟨some (i,_),rfl,rfl⟩
def rSlS:V->Option Int->Option Int->Hp->VK->Prop:=fun x lo hi H Q=>∃ z,x=.str z/\z.length<=qb0/\Q (.str (Txt.slice z lo hi)) H
theorem zy:SlR X rSlS:=by intro pins s σ H x v vl vu lo hi sl Q I W O Y U h;obtain ⟨z,rfl,Z,q⟩:=h;obtain ⟨t,rfl⟩:=W;obtain ⟨l,rfl,rfl⟩:=pR Y;obtain ⟨u,rfl,rfl⟩:=pR U;refine ⟨"str",_,F.slot_str_getitem.lookup,typeIs_str _ _ _,?_⟩;exact wpAny_getItem_str_slice (l:=l) (u:=u) (st:=none) O rfl (post_val_or_str ⟨qc1 (Txt.slice_le z _ _) Z,fun t' k=>⟨.str _,H,I.tok _,⟨_,rfl⟩,q⟩⟩)
end
theorem bQ:qe2 "len"=some (.builtin "len"):=by first | exact PySem.boot_len | exact PyProof.Rows.boot_len | decide +kernel
theorem zA:qe2 "all"=some (.builtin "all"):=by first | exact PySem.boot_all | exact PyProof.Rows.boot_all | decide +kernel
theorem jZ:qe2 "isinstance"=some (.builtin "isinstance"):=by first | exact PySem.boot_isinstance | exact PyProof.Rows.boot_isinstance | decide +kernel
theorem n9:qe2 "max"=some (.builtin "max"):=by first | exact PySem.boot_max | exact PyProof.Rows.boot_max | decide +kernel
theorem zB:qe2 "min"=some (.builtin "min"):=by first | exact PySem.boot_min | exact PyProof.Rows.boot_min | decide +kernel
theorem zC:qe2 "int"=some (.type "int"):=by first | exact PySem.boot_int | exact PyProof.Rows.boot_int | decide +kernel
theorem wf:qe2 "bool"=some (.type "bool"):=by first | exact PySem.boot_bool | exact PyProof.Rows.boot_bool | decide +kernel
theorem eZ:qe2 "tuple"=some (.type "tuple"):=by first | exact PySem.boot_tuple | exact PyProof.Rows.boot_tuple | decide +kernel
theorem fM:qe2 "list"=some (.type "list"):=by first | exact PySem.boot_list | exact PyProof.Rows.boot_list | decide +kernel
theorem lv:qe2 "enumerate"=some (.type "enumerate"):=by first | exact PySem.boot_enumerate | exact PyProof.Rows.boot_enumerate | decide +kernel
structure OkF (P:qc8) (w:World) (K:xA9) (mg:Str->Option Value) (base:Heap) (x:Str) (k:Nat) (ps:List Str) (sp:Sp):Prop where
 ex:∃ f fd,mg x=some (.ref f)/\xF9 K (.ref f)=true/\Binds K fd ps []/\FnOk P w K mg base CX0 k f fd ps sp
structure DefF (K:xA9) (mg:Str->Option Value) (x:Str) (st:Stmt) (ps:List Str):Prop where
 ex:∃ f fd,mg x=some (.ref f)/\xF9 K (.ref f)=true/\Binds K fd ps []/\Fun K x x st f fd
section
variable {P:qc8} {w:World} {K:xA9} {mg:Str->Option Value} {base:Heap}
theorem DefF.ok {k:Nat} (F:DefF K mg x st ps) (S:FnScope N ps (ac st)) (len:∀ vs H Q E,sp vs H Q E->vs.length=ps.length)
 (q:∀ (f:Addr) (cdv:Value) (A:qd5) (outer:List Env) (s:qa4) (H:Hp) (vs:List V) (Q:VK) (E:XK),Room k (A.deeper (qz4 x (ac st) s.heap.objs.size f cdv))->sp vs H Q E→
 ∃ t,PSs (jd CX0 P w K mg base N x (ac st) f cdv A outer s H E).nox (aX st) t/\t {nx:=fun _ H'=>Q .non H',rt:=Q} (start N vs) H):OkF P w K mg base x (k+1) ps sp:=by
 obtain ⟨f,fd,h1,h2,h3,O⟩:=F.ex;exact ⟨f,fd,h1,h2,h3,O.ok S len (q f)⟩
theorem DefF.mk' {kV ct:Value} {h:Heap} (X:K.In h) (G:h.Ns qc0 mg)
 (a:xB9 K qc0 x=some (some (.ref f)))
 (l:K.lookup f=some ⟨oc,od,.func (xC9 x x (bJ st) (aX st) (ac st) .none kV doc pm an cdv ct),osl⟩) (c:xH9 K cdv x=true) (k:xF9 K (.ref f)=true)
 (q:∀ (kV doc pm:Value) (an:Option Addr) (cdv ct:Value) (us:List Value),us.length=ps.length->zg8 (xC9 x x (bJ st) (aX st) (ac st) .none kV doc pm an cdv ct) ⟨us,[]⟩=pure (ps.zip us)):DefF K mg x st ps:=
 ⟨f,_,xI9 X G a,k,(lr l c k).binds q,lr l c k⟩
end
section
variable {X:Cx} {k:Nat} {ps:List Str} {sp:Sp} {x:Str} {p pos:Pos} {e:Expr} {es:List Expr} {t:TA}
theorem tq (F:OkF X.prog X.w X.K X.mg X.base x k ps sp) (Y:Room k X.A) (hg:Gl X x) (W:PA X (e::es) t) (O:(x==("__debug__":Str))=false:=by decide)
  (U:qa6 (e::es) X.env=(false,eval e X.env)::qa6 es X.env:=by rfl) (q:(qk0 pos (qa6 es X.env)).any (·.1)=false:=by rfl):PE X (.Call (.Name x p) (e::es) [] pos) (sL sp [] E0 t):=by
 obtain ⟨f,fd,h1,h2,h3,Z⟩:=F.ex;exact vU Z Y hg h1 h2 h3 .nil BH W O U q
end
noncomputable def tu (N:List Str) (outer scope:Scope) (M:List Str) (src:List (Option Nat)):Bool:=
 (match scope.kind with | .function=>true | _=>false)&&
 scope.names.all (fun y=>decide (y.2≠.cell))&&
 scope.names.all (fun y=>!decide (y.2=.free)||(decide (outer.names.lookup y.1=some .cell)||decide (outer.names.lookup y.1=some .free)))&&
 scope.names.all (fun y=>!decide (y.2=.local)||decide (scope.names.lookup y.1=some .local))&&
 scope.names.all (fun y=>!decide (y.2=.free)||decide (scope.names.lookup y.1=some .free))&&
 decide (M.length=src.length)&&decide M.Nodup&&
 (M.zip src).all (fun p=>match p.2 with | none=>true | some j=>decide (N[j]?=some p.1)&&decide ((p.1,qd8)∈scope.names))
variable {src:List (Option Nat)}
theorem CmpScope.of {outer:Scope} {M:List Str} (h:tu N outer scope M src=true):CmpScope N outer scope M src:=by
 unfold tu at h;simp only [qb1,qi6,qj7,qj3,decide_eq_true_eq,decide_eq_false_iff_not] at h;obtain ⟨⟨⟨⟨⟨⟨⟨h1,h2⟩,h3⟩,Z⟩,U⟩,h6⟩,W⟩,Y⟩:=h;refine ⟨?_,h2,fun y q e=>(h3 y q).resolve_left fun z=>z e,fun y q e=>(Z y q).resolve_left fun z=>z e,fun y q e=>(U y q).resolve_left fun z=>z e,h6,W,fun p hp j O=>?_⟩
 . revert h1;cases scope.kind<;>simp
 . have:=Y p hp;cases e:p.2 with
   | none=>rw [e] at O;cases O
   | some j' =>rw [e] at O this;cases O;simpa using this
def Plain (J:It) (xs:List V) (ok:Hp->Prop):Prop:=∀ i H,ok H->(i<xs.length->J.go i H)/\(i=xs.length->J.stop i H)/\∀ x H',i<xs.length->J.yld i H x H'->H'=H/\xs[i]?=some x
theorem plain_list:Plain (Itl K a) xs (fun H=>SqL K H a xs):=fun i H h =>⟨fun hi=>⟨xs,xs[i],h,by simp [hi]⟩,fun e=>⟨xs,h,by lia⟩,fun x H' _ y=>⟨y.1,y.2 xs h⟩⟩
theorem plain_tup:Plain (Itt K a) xs (fun H=>SqT K H a xs):=fun i H h =>⟨fun hi=>⟨xs,xs[i],h,by simp [hi]⟩,fun e=>⟨xs,h,by lia⟩,fun x H' _ y=>⟨y.1,y.2 xs h⟩⟩
def ji (lo:Int) (n:Nat):List V:=(qb8 n).map fun (i:Nat)=>V.int (lo+i)
theorem plain_range {lo:Int} {n:Nat}:Plain (Itr lo n) (ji lo n) (fun _=>True):=fun i H h=>by
 refine ⟨fun hi=>?_,fun e=>?_,fun x H' hi y=>?_⟩
 . show i<n;simpa [ji] using hi
 . show n<=i;simp [ji] at e;lia
 . obtain ⟨e,rfl⟩:=y;refine ⟨e,?_⟩;unfold ji at hi ⊢;rw [qa1,qt4] at hi;rw [qb4,List.getElem?_range hi];rfl
def pS (x:Str):List V:=x.cps.toList.map fun c=>V.str ⟨#[c]⟩
theorem plain_str:Plain (Its x) (pS x) (fun _=>True):=fun i H h=>by
 refine ⟨fun hi=>?_,fun e=>?_,fun v H' hi y=>?_⟩
 . show i<x.cps.size;simpa [pS] using hi
 . show i=x.cps.size;simpa [pS] using e
 . obtain ⟨e,c,q,rfl⟩:=y;refine ⟨e,?_⟩;unfold pS;rw [qb4,qm3,q];rfl
noncomputable def xP (src:List (Option Nat)) (g:TG) (tt:TT) (te:TE) (σ:St) (J:It) (H1:Hp) (Q:VK) (D:Addr):Prop:=∃ W:Nat->Nat->Hp->Prop,(∃ m,W 0 m (upd H1 D (.lst [])))/\∀ i m H,W i m H→
 (J.stop i H/\Q (.ref D) H)∨(J.go i H/\∃ N:Hp->Prop,(∀ H',N H'->∃ Y,Y<m/\W (i+1) Y H')/\∀ x H',J.yld i H x H'→
  g x (stC src σ) H' fun q H2=>Wk (stC src σ) q/\tt q H2 fun b O=>if b=true then te q O fun v U=>∃ ys,U D=some (.lst ys)/\ys.length<qb0/\N (upd U D (.lst (ys++[v]))) else N O)
variable {wi:TI} {g:TG} {te:TE}
theorem tw {tt:TT} {Q:VK}:mG src wi g tt te σ H Q=wi σ H fun J H1=>∀ D,H1 D=none->xP src g tt te σ J H1 Q D:=rfl
noncomputable def ForW (g:TG) (tb:TS) (D:Ends) (J:It) (σ:St) (H1:Hp):Prop:=∃ W:Nat->Nat->St->Hp->Prop,(∃ m,W 0 m σ H1)/\∀ i m σ H,W i m σ H→ (J.stop i H/\D.nx σ H)∨(J.go i H/\∃ N:St->Hp->Prop,(∀ q H',N q H'->∃ U,U<m/\W (i+1) U q H')/\∀ x H',J.yld i H x H'->g x σ H' fun O H2=>tb {D with nx:=N,ct:=N,bk:=D.nx} O H2)
theorem wg {tb:TS} {D:Ends}:tFor wi g tb D σ H=wi σ H fun J H1=>ForW g tb D J σ H1:=rfl
variable {v:V}
theorem tz (q:Gl X x) (O:∃ u,X.mg x=some u/\RelV v u) (U:(x==("__debug__":Str))=false:=by decide):PE X (.Name x pos) (tC v):=by obtain ⟨u,h1,h2⟩:=O;exact vJ q h1 h2 U
abbrev gH (qual:Str) (scope:Scope) (L f:Addr) (cd:Value) (cl:List (Str×Addr)):Env:=PySem.W.envX qual scope L f cd (qg3 (L+1) scope.names []++cl)
noncomputable def mI (CX:CXT) (P:qc8) (w:World) (K:xA9) (mg:Str->Option Value) (base:Heap) (N:List Str) (qual:Str) (scope:Scope) (f:Addr) (q:Value) (cl:List (Str×Addr)) (A:qd5) (outer:List Env) (s:qa4) (H:Hp) (E:XK) (xe:Value->qa4->Prop):Cx where
 prog:=P
 w:=w
 K:=K
 mg:=mg
 base:=base
 A:=A.deeper (gH qual scope s.heap.objs.size f q cl)
 N:=N
 s₀:=s
 H₀:=H
 env:=gH qual scope s.heap.objs.size f q cl
 outer:=outer
 stack:=gH qual scope s.heap.objs.size f q cl::outer
 ex:=[]
 calm:=true
 fn:=fun x=>(scope.names.lookup x != some .free)
 pn:=[]
 xe:=xe
structure ClScope (N ps fr:List Str) (sc:Scope):Prop where
 kind:sc.kind=.function
 co:sc.isCoroutine=false
 gen:sc.isGenerator=false
 nd:N.Nodup
 pre:N.take ps.length=ps
 post:N.drop (N.length-fr.length)=fr
 room:ps.length+fr.length<=N.length
 par:∀ x∈ps,sc.names.lookup x=some .local∨sc.names.lookup x=some .cell
 frk:∀ x∈fr,sc.names.lookup x=some .free
 all:∀ x,sc.names.lookup x=some .free->x∈fr
def dA (N:List Str) (vs fs:List V):St:=vs.map some++(qc3 (N.length-vs.length-fs.length) none++fs.map some)
def eM (c:Addr) (o:Obj):HO:=.frz o (.ext fun h=>h.get? c=some o)
def cj (H:Hp) (cl:List (Str×Addr)):Hp:=fun b=>if b∈cl.map (·.2) then none else H b
def dY (H:Hp) (cl:List (Str×Addr)) (H':Hp):Hp:=fun b=>if b∈cl.map (·.2) then H b else H' b
theorem io {n:Nat} {sc:Scope} (h:sc.names.lookup x≠some .cell) (Z:∀ y∈sc.names,y.1=x->sc.names.lookup x=some y.2):(qg3 n sc.names []).lookup x=none:=by
 have O:∀ (names:List (Str×qp2)) (n:Nat) (acc:List (Str×Addr)),(∀ y∈names,y.1=x->y.2≠.cell)->acc.lookup x=none->(qg3 n names acc).lookup x=none:=fun names=>by
  induction names with
  | nil=>intro n acc _ h;exact h
  | cons y r Y =>
   intro n acc q W;obtain ⟨a,k⟩:=y;unfold qg3;split
   . rename_i hk;refine Y _ _ (fun z U=>q z (.tail _ U)) ?_;rw [qf9];cases hb:x==a with
     | false=>exact W
     | true=>exact absurd (by simpa using hk) (q (a,k) (.head _) (beq_iff_eq.mp hb).symm)
   . exact Y _ _ (fun z U=>q z (.tail _ U)) W
 exact O sc.names n [] (fun y q e hk=>h (by rw [Z y q e,hk])) rfl
structure ClAt (H:Hp) (f:Addr) (name qual:Str) (params:qi9) (body:List Stmt) (scope:Scope) (cl:List (Str×Addr)) (fr:List Str) (fs:List V) (c':Addr) (doc pm ctv:Value) (fo:Obj) (uf:HO):Prop where
 fn:H f=some (.frz fo uf)
 dat:fo.data=.func (xG9 name qual params body scope cl .none .none doc pm none (.ref c') ctv)
 cod:∃ oc,H c'=some (.frz oc (.code qual))
 cel:∀ x c,(x,c)∈cl->∃ o u,H c=some (eM c o)/\o.data=.cell (some u)
 inj:∀ x y c,cl.lookup x=some c->cl.lookup y=some c->x=y
 len:fs.length=fr.length
 val:∀ (i:Nat) (x:Str) (v:V),fr[i]?=some x->fs[i]?=some v->∃ c o u,cl.lookup x=some c/\H c=some (eM c o)/\o.data=.cell (some u)/\RelV v u
 nms:∀ x c,cl.lookup x=some c->scope.names.lookup x=some .free
variable {b:Addr}
section
variable {P:qc8} {w:World} {H:Hp} {h:Heap} {cl:List (Str×Addr)}
theorem gI (q:b∈cl.map (·.2)):cj H cl b=none:=if_pos q
theorem bn (q:b∉cl.map (·.2)):cj H cl b=H b:=if_neg q
theorem ki {o:HO} (h:cj H cl b=some o):b∉cl.map (·.2)/\H b=some o:=by
 by_cases q:b∈cl.map (·.2)
 . rw [gI q] at h;cases h
 . rw [bn q] at h;exact ⟨q,h⟩
theorem gJ (q:b∈cl.map (·.2)):∃ x,(x,b)∈cl:=by obtain ⟨⟨x,c⟩,O,rfl⟩:=qc9.mp q;exact ⟨x,O⟩
theorem HOk.hide (ok:HOk P w H h) (U:∀ x c,(x,c)∈cl->∃ o u,H c=some (eM c o)/\o.data=.cell (some u)):HOk P w (cj H cl) h:=fun b u e=>by
 obtain ⟨Z,e⟩:=ki e
 have O:∀ c o,H c=some o->(∀ ob φ,o≠.frz ob (.ext φ))->cj H cl c=some o:=fun c o q W=>by
  rw [bn fun z=>?_]
  . exact q
  . obtain ⟨x,Y⟩:=gJ z;obtain ⟨ob,u,g,_⟩:=U x c Y;rw [q] at g;exact W _ _ (qd6 g)
 exact (ok b u e).stay (fun _ _ _ q=>q) (fun c q=>O c _ q fun _ _ z=>nomatch z) (fun c xs q=>O c _ q fun _ _ z=>nomatch z) fun c ob xs q=>O c _ q fun _ _ z=>nomatch z
end
section
variable {CX:CXT} {P:qc8} {w:World} {K:xA9} {mg:Str->Option Value} {base:Heap} {N ps fr:List Str} {name qual:Str} {params:qi9} {body:List Stmt} {scope:Scope} {f c':Addr} {cl:List (Str×Addr)} {A:qd5} {outer:List Env} {s s1:qa4} {H:Hp} {E:XK} {us:List Value} {vs fs:List V} {doc pm ctv:Value} {fo:Obj} {uf:HO} {xe:Value->qa4->Prop}
theorem oe (S:ClScope N ps fr scope) (C:ClAt H f name qual params body scope cl fr fs c' doc pm ctv fo uf) (Y:∀ x,∀ y∈scope.names,y.1=x->scope.names.lookup x=some y.2) (hd:A.handled=none) (e0:Env0 P w K mg base A outer s H) (hl:vs.length=ps.length) (r:Vals vs us)
  (x:zd7 s s.heap.objs.size (bindL (gH qual scope s.heap.objs.size f (.ref c') cl).kindOf (ps.zip us) fun _=>none) (qg3 (s.heap.objs.size+1) scope.names []) (bindC (gH qual scope s.heap.objs.size f (.ref c') cl).kindOf (ps.zip us) fun _=>none) s1) :
  Inv (mI CX P w K mg base N qual scope f (.ref c') cl A outer s (cj H cl) E xe) [] (dA N vs fs) (cj H cl) s1:=by
 obtain ⟨h1,tk,rfl,hk⟩:=x.done;have hplen:ps.length<=N.length:=qc1 (Nat.le_add_right _ _) S.room
 have own:∀ y c,(qg3 (s.heap.objs.size+1) scope.names []).lookup y=some c->scope.names.lookup y=some .cell:=fun y c h=>by apply Classical.byContradiction;intro hn;rw [io hn (Y y)] at h;cases h
 have U:∀ y c,cl.lookup y=some c->∃ o u,s.heap.get? c=some o/\o.data=.cell (some u)/\c<s.heap.objs.size:=fun y c h=>by obtain ⟨o,u,g,d⟩:=C.cel y c (PySem.mem_of_lookup h);have q:=(e0.hok c _ g).1;exact ⟨o,u,q,d,qa7 q⟩
 have split:∀ y c,(qg3 (s.heap.objs.size+1) scope.names []++cl).lookup y=some c->((qg3 (s.heap.objs.size+1) scope.names []).lookup y=some c/\s.heap.objs.size<c)∨(cl.lookup y=some c/\c<s.heap.objs.size):=fun y c h=>by
  rw [c6] at h;cases q:(qg3 (s.heap.objs.size+1) scope.names []).lookup y with
  | some d =>rw [q] at h;cases h;exact .inl ⟨rfl,x.above y _ (PySem.mem_of_lookup q)⟩
  | none =>rw [q] at h;have h:cl.lookup y=some c:=h;exact .inr ⟨h,let ⟨_,_,_,_,z⟩:=U y c h;z⟩
 have Z:∀ b:Addr,b∉(mI CX P w K mg base N qual scope f (.ref c') cl A outer s (cj H cl) E xe).ex:=fun b z=>absurd (show b∈([]:List Addr) from z) (by simp)
 have hn:∀ b,H b=none->cj H cl b=none:=fun b h=>by
  by_cases hb:b∈cl.map (·.2)
  . exact gI hb
  . rw [bn hb];exact h
 have htb:∀ p∈c4 K,cj H cl p.1=some (.ctab p.2):=fun p hp=>by
  rw [bn fun z=>?_]
  . exact e0.tb p hp
  . obtain ⟨x,hx⟩:=gJ z;obtain ⟨o,u,g,_⟩:=C.cel x _ hx;rw [e0.tb p hp] at g;cases g
 refine ⟨⟨e0.mod,S.kind,rfl,rfl,nL _,fun y z c h1 h2=>?_,fun y O=>?_,fun y c hf h=>?_,fun _=>hd,qd5.frames_deeper e0.frames,.inr ⟨rfl,rfl⟩,fun b z=>absurd z (Z b),fun b o e=>⟨(e0.bs b o e).1,hn b (e0.bs b o e).2⟩,e0.bsz,fun b _ _=>Z b,fun b z=>absurd z (Z b),e0.funs,fun b hb=>hn b (e0.frf b hb),htb⟩,rfl,e0.bare,Un.kept hk,⟨_,x.toInCall.ns,fun i y v h1 h2 h3=>?_⟩,fun y c h=>?_,hn _ (e0.hok.fresh (qt1 _)),fun y c h=>?_,fun p hp=>absurd (show p∈([]:List (Addr×Obj)) from hp) (by simp),(e0.hok.hide C.cel).kept hk,?_⟩
 . rcases split y c h1 with ⟨g1,W⟩ | ⟨g1,W⟩<;>rcases split z c h2 with ⟨g2,l2⟩ | ⟨g2,l2⟩
   . exact zi1 x.apart (PySem.mem_of_lookup g1) (PySem.mem_of_lookup g2)
   . exact absurd l2 (Nat.lt_asymm W)
   . exact absurd W (Nat.lt_asymm l2)
   . exact C.inj y z c g1 g2
 . have O:scope.names.lookup y=some .cell∨scope.names.lookup y=some .free:=O;show ∃ c,(qg3 (s.heap.objs.size+1) scope.names []++cl).lookup y=some c;rw [c6];rcases O with O | O
   . obtain ⟨c,e⟩:=gC (n:=s.heap.objs.size+1) O;exact ⟨c,by rw [e];rfl⟩
   . rw [io (by rw [O];decide) (Y y)];obtain ⟨i,hi⟩:=qu9 (S.all y O);have hlt:i<fs.length:=by rw [C.len];exact (gX hi).1
     obtain ⟨c,_,_,e,_⟩:=C.val i y fs[i] hi (by simp [hlt]);exact ⟨c,e⟩
 . have hf:(scope.names.lookup y != some .free)=true:=hf;rcases split y c h with ⟨_,W⟩ | ⟨g1,_⟩
   . exact qj6 W
   . rw [C.nms y c g1] at hf;simp at hf
 . by_cases hi:i<vs.length
   . have ha:vs[i]?=some v:=by
      unfold dA at h2;rw [qc4 (by simpa using hi),qb4] at h2;cases e:vs[i]? with
      | none=>rw [e] at h2;cases h2
      | some a=>rw [e] at h2;cases h2;rfl
     obtain ⟨u,hu,rv⟩:=r.get ha
     have hp:ps[i]?=some y:=by rw [<- S.pre,qz5 (by lia)];exact h1
     have ndP:ps.Nodup:=by rw [<- S.pre];exact S.nd.sublist (qz6 _ _)
     refine ⟨u,rv,?_⟩;rcases S.par y (qc7 hp) with k | k
     . exact .inl ⟨k,ig ndP hp hu k⟩
     . obtain ⟨c,e⟩:=gC (n:=s.heap.objs.size+1) k;refine .inr ⟨.inl k,c,?_,?_⟩
       . show (qg3 (s.heap.objs.size+1) scope.names []++cl).lookup y=some c;rw [c6,e];rfl
       . have q:=x.cell y c e;rw [ii ndP hp hu (by show scope.names.lookup y≠_;rw [k];decide)] at q;exact q
   . unfold dA at h2;rw [qd4 (by simpa using hi)] at h2;rw [qa1] at h2;by_cases hj:i-vs.length<N.length-vs.length-fs.length
     . rw [qc4 (by simpa using hj),qk6] at h2;split at h2<;>cases h2
     . rw [qd4 (by simpa using hj),qm2,qb4] at h2;obtain ⟨v',hv,e⟩:=mS h2;cases e;have hroom:=S.room;have hfl:=C.len
       have hfr:fr[i-vs.length-(N.length-vs.length-fs.length)]?=some y:=by rw [<- S.post,List.getElem?_drop];rw [show N.length-fr.length+(i-vs.length-(N.length-vs.length-fs.length))=i by lia];exact h1
       obtain ⟨c,o,u,e1,e2,e3,e4⟩:=C.val _ y v hfr hv;refine ⟨u,e4,.inr ⟨.inr (C.nms y c e1),c,?_,?_⟩⟩
       . show (qg3 (s.heap.objs.size+1) scope.names []++cl).lookup y=some c;rw [c6,io (by rw [C.nms y c e1];decide) (Y y),e1];rfl
       . exact ⟨o,hk c o (e0.hok c _ e2).1,e3⟩
 . rcases split y c h with ⟨g1,_⟩ | ⟨g1,_⟩
   . exact ⟨_,x.cell y c g1⟩
   . obtain ⟨o,u,q,d,_⟩:=U y c g1;exact ⟨_,o,hk c o q,d⟩
 . rcases split y c h with ⟨_,W⟩ | ⟨g1,_⟩
   . exact hn _ (e0.hok.fresh (qj6 W))
   . exact gI (qc9.mpr ⟨(y,c),PySem.mem_of_lookup g1,rfl⟩)
 . unfold dA;show _=N.length;rw [qb5,qb5,qa1,qm2,qa1];have:=S.room;have:=C.len;lia
theorem tD {k:Nat} {args:Args} {Q:VK} (S:ClScope N ps fr scope) (C:ClAt H f name qual params body scope cl fr fs c' doc pm ctv fo uf) (ndn:∀ x,∀ y∈scope.names,y.1=x->scope.names.lookup x=some y.2) (hr:Room (k+1) A) (e0:Env0 P w K mg base A outer s H)
  (Y:za8 s (xG9 name qual params body scope cl .none .none doc pm none (.ref c') ctv) args (ps.zip us)) (hl:vs.length=ps.length) (r:Vals vs us)
  (hbody:Room k (A.deeper (gH qual scope s.heap.objs.size f (.ref c') cl))->∃ t,PSs (mI CX P w K mg base N qual scope f (.ref c') cl A outer s (cj H cl) E fun _ _=>False) body t/\t {nx:=fun _ H'=>(∀ b∈cl.map (·.2),H' b=none)->Q .non (dY H cl H'),rt:=fun v H'=>(∀ b∈cl.map (·.2),H' b=none)->Q v (dY H cl H')} (dA N vs fs) (cj H cl)) :
  qq5 (model P w) A (.call (.ref f) args) (CR CX outer P w H s Q E) s:=by
 have KX:K.In s.heap:=e0.mod.kin.keeps fun b o e=>(e0.bs b o e).1
 have lim:s.heap.NoLimit:=e0.mod.nolimit.keeps fun b o e=>(e0.bs b o e).1
 have hkind:∀ y∈ps.zip us,scope.names.lookup y.1=some .local∨(scope.names.lookup y.1=some .cell/\((qg3 (s.heap.objs.size+1) scope.names []).lookup y.1).isSome=true):=fun ⟨n,v⟩ hy=>by
  rcases S.par n (qw5 hy).1 with q | q
  . exact .inl q
  . exact .inr ⟨q,xR9 _ _ _ (.inl q)⟩
 refine zd8 hr.depth (e0.hok f _ C.fn).1 C.dat S.co S.gen rfl (let ⟨_,z⟩:=C.cod;(e0.hok c' _ z).2) (Y _ _ _ _ ?_);refine wa S.kind hkind fun env he s1 x=>?_
 subst he;refine ⟨lim.keeps x.toInCall.keep,codeAny_func ?_⟩;obtain ⟨t,ht,hq⟩:=hbody (hr.deeper _);have I:Inv (mI CX P w K mg base N qual scope f (.ref c') cl A outer s (cj H cl) E fun _ _=>False) [] (dA N vs fs) (cj H cl) s1:=oe S C ndn hr.hd e0 hl r x;refine qk9 (ht [] s1 (dA N vs fs) (cj H cl) _ I hq) (fun fl s' hs=>?_) fun e s' hs=>hs.elim
 have fin:∀ {σ':St} {H':Hp} {v:V} {u:Value},Inv (mI CX P w K mg base N qual scope f (.ref c') cl A outer s (cj H cl) E fun _ _=>False) [] σ' H' s'->RelV v u->((∀ b∈cl.map (·.2),H' b=none)->Q v (dY H cl H'))->CE outer P w H s Q u s':=fun {σ' H' v u} J rv q=>by
  have cn:∀ b,b∈cl.map (·.2)->∃ o u,H b=some (eM b o)/\o.data=.cell (some u):=fun b Y=>by obtain ⟨x,hx⟩:=gJ Y;exact C.cel x b hx
  have kc:∀ b o,b∈cl.map (·.2)->s.heap.get? b=some o->s'.heap.get? b=some o/\H' b=none:=fun b o Y q=>by
   obtain ⟨o',u,g,d⟩:=cn b Y;have hfs:b∉frs outer:=fun z=>by have:=e0.frf b z;rw [g] at this;cases this
   exact ⟨J.base.keep b o q (gI Y) hfs (fun z=>absurd (show b∈([]:List Addr) from z) (by simp)),J.base.free b o q (gI Y) (fun z=>absurd (show b∈([]:List Addr) from z) (by simp))⟩
  have sin:∀ {b:Addr},b∈cl.map (·.2)->dY H cl H' b=H b:=fun Y=>if_pos Y
  have U:∀ {b:Addr},b∉cl.map (·.2)->dY H cl H' b=H' b:=fun Y=>if_neg Y
  have Z:∀ (b:Addr) (o:HO),H b=some o->(∀ ob φ,o≠.frz ob (.ext φ))->b∉cl.map (·.2):=fun b o q hno z=>by obtain ⟨ob,u,g,_⟩:=cn b z;rw [q] at g;exact hno _ _ (qd6 g)
  have q:=q fun b Y=>by obtain ⟨o',u',g,d⟩:=cn b Y;exact (kc b o' Y (e0.hok b _ g).1).2
  refine ⟨v,dY H cl H',J.os,J.bare,⟨fun b o q n Y hx=>?_,fun b o q n Y hx=>?_,fun b o q n hx=>?_,fun b o q hx=>?_,fun b xs q=>?_,fun b o u q=>?_,fun b ps q=>?_,fun b qs q=>?_⟩,fun b o q=>?_,rv,q⟩
  . have O:b∉cl.map (·.2):=fun z=>by obtain ⟨_,_,g,_⟩:=cn b z;rw [n] at g;cases g
    exact J.base.keep b o q ((bn O).trans n) Y (fun z=>absurd (show b∈([]:List Addr) from z) (by simp))
  . have O:b∉cl.map (·.2):=fun z=>by obtain ⟨_,_,g,_⟩:=cn b z;rw [n] at g;cases g
    exact J.base.slot b o q ((bn O).trans n) Y (fun z=>absurd (show b∈([]:List Addr) from z) (by simp))
  . have O:b∉cl.map (·.2):=fun z=>by obtain ⟨_,_,g,_⟩:=cn b z;rw [n] at g;cases g
    rw [U O];exact J.base.free b o q ((bn O).trans n) (fun z=>absurd (show b∈([]:List Addr) from z) (by simp))
  . exact J.base.there b o q (fun z=>absurd (show b∈([]:List Addr) from z) (by simp))
  . have O:=Z b _ q fun _ _ z=>nomatch z
    rw [U O];exact J.base.tups b xs ((bn O).trans q)
  . by_cases O:b∈cl.map (·.2)
    . rw [sin O];exact q
    . rw [U O];exact J.base.frzs b o u ((bn O).trans q)
  . have O:=Z b _ q fun _ _ z=>nomatch z
    rw [U O];exact J.base.tbls b ps ((bn O).trans q)
  . have O:=Z b _ q fun _ _ z=>nomatch z
    rw [U O];exact J.base.cts b qs ((bn O).trans q)
  . by_cases O:b∈cl.map (·.2)
    . rw [sin O] at q;obtain ⟨ob,u,g,d⟩:=cn b O;rw [q] at g;cases g;have e1:=(e0.hok b _ q).1;have e2:=(kc b ob O e1).1;exact ⟨e2,e2,⟨ob,e2⟩,fun h1 h2 z1 z2=>z2 ob z1⟩
    . rw [U O] at q
      have up:∀ c o,H' c=some o->dY H cl H' c=some o:=fun c o z=>by
       by_cases hcc:c∈cl.map (·.2)
       . obtain ⟨ob,u,g,d⟩:=cn c hcc;have e1:=(e0.hok c _ g).1;rw [(kc c ob hcc e1).2] at z;cases z
       . rw [U hcc];exact z
      exact (J.hok b o q).stay (fun _ _ _ z=>z) (fun c z=>up c _ z) (fun c xs z=>up c _ z) fun c ob xs z=>up c _ z
 cases fl with
 | ret u =>obtain ⟨v,σ',H',J,rv,q⟩:=hs;exact fin J rv q
 | next =>obtain ⟨σ',H',J,q⟩:=hs;exact fin (v:=V.non) (u:=qh1) J rfl q
 | brk =>obtain ⟨_,_,_,q⟩:=hs;exact qg0 q
 | cont =>obtain ⟨_,_,_,q⟩:=hs;exact qg0 q
end
structure TabB (mg:Str->Option Value) (base:Heap) (c P:Addr):Prop where
 code:xM9 base c P
 bm:∃ bm ob,mg "__builtins__"=some (.ref bm)/\bm≠qv7/\base.get? bm=some ob/\ob.cls=.type "module"/\ob.dict=some qv7/\ob.data=.plain
theorem iK:∀ {l:List Value} {m:List Value},zd0 l->zd0 m->zd0 (l++m)
 | [],m,_,h=>h
 | .int _ _::.int _ _::_::r,m,h,h'=>iK (l:=r) h h'
theorem kj:∀ {l:List Value} {m:List Value},zd0 l->qq6 pos (l++m)=(qq6 pos l).or (qq6 pos m)
 | [],m,_=>by simp [qq6]
 | .int a t::.int b u::c::r,m,h=>by
  have h:zd0 r:=h;show (if _ then _ else qq6 pos (r++m))=Option.or (if _ then _ else qq6 pos r) _;split
  . rfl
  . exact kj h
structure Made (H H':Hp) (lo:Nat) (f c':Addr) (qual:Str) (fo:Obj):Prop where
 fn:H' f=some (.frz fo (.ext fun h=>h.get? f=some fo))
 cod:∃ oc,H' c'=some (.frz oc (.code qual))
 old:∀ b o,H b=some o->H' b=some o
 new:∀ b o,H' b=some o->H b=some o∨(lo<=b/\H b=none)
 lof:lo<=f
section
variable {X:Cx} {pins:List (Addr×Obj)} {σ:St} {H:Hp} {s:qa4} {c P:Addr} {qs:List ((Nat×Nat)×Str)} {name:Str} {params:qi9} {body:List Stmt} {scope:Scope} {clos:List (Str×Addr)} {pos:Pos}
theorem wj {Q:Value->qa4->Prop} (I:Inv X pins σ H s) (B:TabB X.mg X.base c P) (Z:X.env.code=.ref c) (hP:H P=some (.ctab qs)) (hq:((pos.line,pos.col),qual)∈qs) (hun:∀ q,((pos.line,pos.col),q)∈qs->q=qual) (hcl:zf2 scope X.env=pure clos)
 (q:∀ (f c':Addr) (doc pm ctv:Value) (H':Hp) (s':qa4),Made H H' s.heap.objs.size f c' qual {cls:=.type "function",data:=.func (xG9 name qual params body scope clos .none .none doc pm none (.ref c') ctv)}->Inv X pins σ H' s'->Q (.ref f) s') :
  wpAny (model X.prog X.w) A (makeFunction name qual params (.stmts body) scope X.env [] [] [] pos pos.line) Q E s:=by
 obtain ⟨ps,hp,ht,hent⟩:=I.hok P _ hP
 have inB:∀ {b:Addr} {o:Obj},X.base.get? b=some o->b≠P:=fun {b o} e z=>by have:=(I.bs b o e).2;rw [z,hP] at this;cases this
 have hg:s.heap.Ns qc0 X.mg:=I.mod.glob.keeps I.bk;obtain ⟨bm,ob,b1,b2,b3,b4,b5,b6⟩:=B.bm
 have hgP:qc0≠P:=by obtain ⟨o,es,ep,e,_⟩:=I.mod.glob;exact inB e
 have hbG:bm≠qc0:=fun z=>by obtain ⟨o,es,ep,e,hd,_⟩:=I.mod.glob;rw [z,e] at b3;cases b3;rw [hd] at b6;cases b6
 have hB:s.heap.BuiltinsAt X.mg P:=⟨bm,ob,b1,b2,hbG,inB b3,I.bk _ _ b3,b4,b5,b6⟩;have C:xM9 s.heap c P:=B.code.keeps I.bk;have lt:∀ {b:Addr} {o:HO},H b=some o->b<s.heap.objs.size:=fun h=>I.hok.lt h
 cases hf:qq6 pos ps.toList with
 | some cv =>
  obtain ⟨c',oc,rfl,hc'⟩:=hent pos qual cv hq hf;refine PySem.W.makeFunction_hit hcl I.ok.glob hg Z C hp ht hf hB fun ctv doc h' tk hk U=>?_
  have hfr:H h'.objs.size=none:=I.hok.fresh U
  have I2:=I.laid (a:=h'.objs.size) (o:=.frz {cls:=.type "function",data:=.func (xG9 name qual params body scope clos .none .none doc ((X.mg "__name__").getD .none) none (.ref c') ctv)} (.ext fun h=>h.get? h'.objs.size=some {cls:=.type "function",data:=.func (xG9 name qual params body scope clos .none .none doc ((X.mg "__name__").getD .none) none (.ref c') ctv)})) (t':=tk) (h':=h'.push {cls:=.type "function",data:=.func (xG9 name qual params body scope clos .none .none doc ((X.mg "__name__").getD .none) none (.ref c') ctv)}) (fun b o e=>gP _ (hk b o e)) U
   ⟨qa8 _ rfl,qa8 _ rfl,⟨_,qa8 _ rfl⟩,fun h1 h2 z1 z2=>z2 _ z1⟩
  refine q _ c' doc _ ctv _ _ ⟨aQ,?_,fun b o e=>?_,fun b o e=>?_,U⟩ I2
  . refine ⟨oc,?_⟩;rw [aH (qb9 (qc2 (lt hc') U))];exact hc'
  . rw [aH (qb9 (qc2 (lt e) U))];exact e
  . by_cases hb:b=h'.objs.size
    . exact .inr ⟨by rw [hb];exact U,by rw [hb];exact hfr⟩
    . rw [aH hb] at e;exact .inl e
 | none =>
  refine PySem.W.makeFunction_K hcl I.ok.glob hg Z C hp ht hf hgP hB fun c' ctv doc h' tk hx hge hlt hrec htb=>?_
  obtain ⟨c2,oc,vs,t,e2,hoc,hrec2⟩:=hrec;cases e2;have hfr:H h'.objs.size=none:=I.hok.fresh (qc1 hge (qj6 hlt));have hcr:H c'=none:=I.hok.fresh hge;have hne:c'≠h'.objs.size:=qb9 hlt;generalize hfo:({cls:=.type "function",data:=.func (xG9 name qual params body scope clos .none .none doc ((X.mg "__name__").getD .none) none (.ref c') ctv)}:Obj)=fo;have hfo':(PySem.W.fnMade name qual params body scope clos doc ((X.mg "__name__").getD .none) c' ctv)=fo:=hfo;rw [hfo'];have hfree:fo.isFreed=false:=by rw [<- hfo];rfl
  have gf:(h'.push fo).get? h'.objs.size=some fo:=qa8 _ hfree;let H':Hp:=upd (upd H c' (.frz oc (.code qual))) h'.objs.size (.frz fo (.ext fun h=>h.get? h'.objs.size=some fo))
  have O:∀ b o,H b=some o->H' b=some o:=fun b o e=>by show upd (upd H c' (.frz oc (.code qual))) h'.objs.size _ b=some o;rw [aH (fun z=>by rw [z,hfr] at e;cases e),aH (fun z=>by rw [z,hcr] at e;cases e)];exact e
  have hnew:∀ b o,H' b=some o->H b=some o∨(s.heap.objs.size<=b/\H b=none):=fun b o e=>by
   by_cases h1:b=h'.objs.size
   . exact .inr ⟨by rw [h1];exact qc1 hge (qj6 hlt),by rw [h1];exact hfr⟩
   . by_cases h2:b=c'
     . exact .inr ⟨by rw [h2];exact hge,by rw [h2];exact hcr⟩
     . have e:upd (upd H c' (.frz oc (.code qual))) h'.objs.size _ b=some o:=e;rw [aH h1,aH h2] at e;exact .inl e
  have kp:∀ b o,b≠P->s.heap.get? b=some o->(h'.push fo).get? b=some o:=fun b o hb e=>gP _ (hx b o hb e)
  have Y:H' c'=some (.frz oc (.code qual)):=by show upd (upd H c' (.frz oc (.code qual))) h'.objs.size _ c'=_;rw [aH hne,aQ]
  have un:Un X.fs [] H H' s.heap (h'.push fo):=by
   have nP:∀ {b:Addr},H b=none->b≠P:=fun {b} n z=>by rw [z,hP] at n;cases n
   refine ⟨fun b o e n _ _=>kp b o (nP n) e,fun b o e n _ _=>⟨o.slots,by rw [kp b o (nP n) e]⟩,fun b o e n _=>?_,fun b o e _=>?_,fun b xs e=>O b _ e,fun b o u e=>O b _ e,fun b ps e=>⟨#[],by rw [O b _ e];simp⟩,fun b qs e=>O b _ e⟩
   . cases z:H' b with
     | none=>rfl
     | some w =>
      rcases hnew b w z with y | ⟨y,_⟩
      . rw [n] at y;cases y
      . exact absurd (qa7 e) (qv9.mpr y)
   . by_cases hb:b=P
     . rw [hb];exact ⟨_,gP _ htb⟩
     . exact ⟨o,kp b o hb e⟩
  have hok:HOk X.prog X.w H' (h'.push fo):=fun b o e=>by
   by_cases h1:b=h'.objs.size
   . subst h1;have e:upd (upd H c' (.frz oc (.code qual))) h'.objs.size _ h'.objs.size=some o:=e;rw [aQ] at e;cases e;exact ⟨gf,gf,⟨_,gf⟩,fun h1 h2 z1 z2=>z2 _ z1⟩
   . by_cases h2:b=c'
     . subst h2;rw [Y] at e;cases e;exact ⟨gP _ hoc,b,oc,vs,t,rfl,gP _ hoc,hrec2⟩
     . have eH:H b=some o:=by have e:upd (upd H c' (.frz oc (.code qual))) h'.objs.size _ b=some o:=e;rw [aH h1,aH h2] at e;exact e
       by_cases h3:b=P
       . subst h3;rw [hP] at eH;cases eH;refine ⟨_,gP _ htb,?_,fun pos' q' v h4 h5=>?_⟩
         . rw [qw8];exact iK ht trivial
         . rw [qw8,kj ht] at h5;cases h6:qq6 pos' ps.toList with
           | some v' =>rw [h6] at h5;cases h5;obtain ⟨c2,o2,e1,e2⟩:=hent pos' q' _ h4 h6;exact ⟨c2,o2,e1,O _ _ e2⟩
           | none =>
            rw [h6] at h5;have h5:qq6 pos' [qf2 pos.line,qf2 pos.col,.ref c']=some v:=h5;simp only [qf2,qq6] at h5;split at h5
            . rename_i hh;cases h5;refine ⟨c',oc,rfl,?_⟩
              have e1:pos'.line=pos.line/\pos'.col=pos.col:=by simp only [qb1,beq_iff_eq] at hh;lia
              rw [e1.1,e1.2] at h4;rw [hun q' h4];exact Y
            . cases h5
       . refine (I.hok b o eH).stay (fun d u hd z=>kp d u ?_ z) (fun d z=>O d _ z) (fun d xs z=>O d _ z) fun d ob xs z=>O d _ z
         rcases hd with rfl | hd
         . exact h3
         . intro z;rw [z,hP] at hd;cases hd
  exact q _ c' doc _ ctv H' _ ⟨by show upd _ _ _ _=_;rw [aQ,<- hfo],⟨oc,Y⟩,O,hnew,qc1 hge (qj6 hlt)⟩ (I.un (t':=tk) un hok)
end
section
variable {X:Cx} {K:xA9} {tg:Expr}
end
def jj (scope outer:Scope):Scope:={scope with names:=scope.names.map fun (n,k)=>if (k==.free&&outer.kind==.function&&outer.names.lookup n==some .cell) then (n,.cell) else (n,k)}
noncomputable def cu (sc:Scope) (N:List Str) (i:Nat) (x:Str):Bool:=decide (N[i]?=some x)&&(decide (sc.names.lookup x=some .local)||(decide (sc.names.lookup x=some .cell)||decide (sc.names.lookup x=some .free)))&&!(x==("__debug__":Str))&&!(x==("__classdict__":Str))
def gl (sc:Scope) (x:Str):Bool:=decide (sc.names.lookup x=some .local)||decide (sc.names.lookup x=some .cell)
def aE (sc:Scope) (x:Str):Bool:=decide (sc.names.lookup x=some .globalImplicit)&&!(x==("__debug__":Str))&&!decide (x=("__name__":Str))
section
variable {sc:Scope} {N:List Str} {i:Nat} {x:Str}
theorem e8 (h:cu sc N i x=true):N[i]?=some x:=by unfold cu at h;simp only [qb1,decide_eq_true_eq] at h;exact h.1.1.1
theorem zD (h:cu sc N i x=true):Vis sc x:=by unfold cu at h;simp only [qb1,qj7,decide_eq_true_eq] at h;exact h.1.1.2
theorem zE (h:cu sc N i x=true):(x==("__debug__":Str))=false:=by unfold cu at h;simp only [qb1,qj3] at h;exact h.1.2
theorem BJ (h:cu sc N i x=true):(x==("__classdict__":Str))=false:=by unfold cu at h;simp only [qb1,qj3] at h;exact h.2
theorem ip (h:gl sc x=true):Loc sc x:=by unfold gl at h;simp only [qj7,decide_eq_true_eq] at h;exact h
theorem q98 (h:aE sc x=true):sc.names.lookup x=some .globalImplicit:=by unfold aE at h;simp only [qb1,decide_eq_true_eq] at h;exact h.1.1
theorem jk (h:aE sc x=true):(x==("__debug__":Str))=false:=by unfold aE at h;simp only [qb1,qj3] at h;exact h.1.2
theorem q85 (h:aE sc x=true):x≠("__name__":Str):=by unfold aE at h;simp only [qb1,qj3,decide_eq_false_iff_not] at h;exact h.2
end
def bV (X:Cx) (sc:Scope):Prop:=X.env.scope=sc
variable {i:Nat}
section
variable {X:Cx} {sc:Scope} {N:List Str} {x:Str} {pos p:Pos}
theorem pvD (i:Nat) (h:cu sc N i x=true) (e1:bV X sc:=by rfl) (q:X.N=N:=by rfl):PE X (.Name x pos) (f9 i):=by have e1:X.env.scope=sc:=e1;subst e1 q;exact yF (e8 h) (zD h) (zE h) (BJ h)
theorem glD (h:aE sc x=true) (e1:bV X sc:=by rfl):Gl X x:=by have e1:X.env.scope=sc:=e1;subst e1;exact q98 h
theorem lw {e:Expr} {pos':Pos} (h:cu sc N i x=true) (W:gl sc x=true) (Z:N.Nodup) (q:PE X e te) (e1:bV X sc:=by rfl) (Y:X.N=N:=by rfl) (O:X.fn x=true∨X.env.scope.names.lookup x=some .local:=by exact .inl rfl)
 (U:qm0 e (some (.Name x pos')) pos.line X.env=pure false:=by rfl):PS X (.Assign [.Name x pos'] e pos) (vQ te (jb i)):=by
 have e1:X.env.scope=sc:=e1;subst e1 Y;exact yS Z (e8 h) (ip W) q U O
theorem aF (h:cu sc N i x=true) (q:gl sc x=true) (W:N.Nodup) (e1:bV X sc:=by rfl) (O:X.N=N:=by rfl) (U:X.fn x=true∨X.env.scope.names.lookup x=some .local:=by exact .inl rfl):PG X (.Name x pos) (jb i):=by have e1:X.env.scope=sc:=e1;subst e1 O;exact pz W (e8 h) (ip q) U
def loOk (sc:Scope) (x:Str):Bool:=decide (sc.names.lookup x=some .local)
theorem dB (h:cu sc N i x=true) (q:loOk sc x=true) (U:X.N.Nodup) (e1:bV X sc) (O:X.N=N:=by rfl):PG X (.Name x pos) (jb i):=by have e1:X.env.scope=sc:=e1;subst e1 O;have q:X.env.scope.names.lookup x=some .local:=of_decide_eq_true q;exact pz U (e8 h) (.inl q) (.inr q)
theorem tE (h:aE sc x=true) (q:∃ u,X.mg x=some u/\RelV v u) (e1:bV X sc:=by rfl):PE X (.Name x pos) (tC v):=tz (glD h e1) q (jk h)
theorem tF {u:Value} (h:aE sc x=true) (O:X.mg x=none) (q:qe2 x=some u) (r:RelV v u) (e1:bV X sc:=by rfl):PE X (.Name x pos) (tC v):=vK (glD h e1) O q r (q85 h) (jk h)
variable {e:Expr} {es:List Expr} {t:TA} {id T:String} {r:List V->Hp->VK->Prop} {k:Nat} {ps:List Str} {sp:Sp}
theorem iq (h:aE sc x=true) (U:cL X (.builtin id) r) (Z:X.mg x=none) (Y:qe2 x=some (.builtin id)) (W:PA X (e::es) t) (e1:bV X sc:=by rfl)
  (O:qa6 (e::es) X.env=(false,eval e X.env)::qa6 es X.env:=by rfl) (q:(qk0 pos (qa6 es X.env)).any (·.1)=false:=by rfl):PE X (.Call (.Name x p) (e::es) [] pos) (tCB r t):=
 sM U (glD h e1) Z Y W (q85 h) (jk h) O q
theorem jm (h:aE sc x=true) (U:cL X (.type T) r) (Z:X.mg x=none) (Y:qe2 x=some (.type T)) (W:PA X (e::es) t) (e1:bV X sc:=by rfl)
  (O:qa6 (e::es) X.env=(false,eval e X.env)::qa6 es X.env:=by rfl) (q:(qk0 pos (qa6 es X.env)).any (·.1)=false:=by rfl):PE X (.Call (.Name x p) (e::es) [] pos) (tCB r t):=
 qZ U (glD h e1) Z Y W (q85 h) (jk h) O q
theorem km (h:aE sc x=true) (F:OkF X.prog X.w X.K X.mg X.base x k ps sp) (W:Room k X.A) (U:PA X (e::es) t) (e1:bV X sc:=by rfl)
  (O:qa6 (e::es) X.env=(false,eval e X.env)::qa6 es X.env:=by rfl) (q:(qk0 pos (qa6 es X.env)).any (·.1)=false:=by rfl):PE X (.Call (.Name x p) (e::es) [] pos) (sL sp [] E0 t):=
 tq F W (glD h e1) U (jk h) O q
variable {tg a b:Expr} {ta:TA}
theorem og (h:aE sc "range"=true) (U:X.mg "range"=none) (q:PA X [a] ta) (e1:bV X sc:=by rfl) (O:qa6 [a] X.env=[(false,eval a X.env)]:=by rfl):PI X tg (.Call (.Name "range" p) [a] [] pos) (xI ta):=qR (glD h e1) U q O
theorem oh (h:aE sc "range"=true) (W:X.mg "range"=none) (O:PA X [a,b] ta) (e1:bV X sc:=by rfl) (U:qa6 [a,b] X.env=[(false,eval a X.env),(false,eval b X.env)]:=by rfl) (q:qa6 [b] X.env=[(false,eval b X.env)]:=by rfl) :
  PI X tg (.Call (.Name "range" p) [a,b] [] pos) (xJ ta):=qS (glD h e1) W O U q
end
section
variable {X:Cx} {M:List Str} {scope outer:Scope} {C:Addr} {s:qa4} {H:Hp} {ex:List Addr} {x:Str} {pos p:Pos}
theorem scC (q:bV X outer):bV (cxC X M scope C s H ex) (jj scope outer):=by have q:X.env.scope=outer:=q;subst q;rfl
end
inductive Dt where
 | non | bl (b:Bool) | int (i:Int) | str (x:Str) | tup (l:List Dt) | lst (l:List Dt) | dct (ks:List Key) (l:List Dt) | dcT (ks:List (List Key)) (l:List Dt)
mutual
noncomputable def peq:Dt->Dt->Bool
 | .non,.non=>true
 | .bl a,.bl b=>a==b
 | .bl a,.int j=>(if a then (1:Int) else 0)==j
 | .int i,.bl b=>i==(if b then (1:Int) else 0)
 | .int i,.int j=>i==j
 | .str x,.str y=>x==y
 | .tup l,.tup m=>peqs l m
 | .lst l,.lst m=>peqs l m
 | .dct ks l,.dct js m=>decide (ks=js)&&peqs l m
 | .dcT ks l,.dcT js m=>decide (ks=js)&&peqs l m
 | _,_=>false
noncomputable def peqs:List Dt->List Dt->Bool
 | [],[]=>true
 | d::l,e::m=>peq d e&&peqs l m
 | _,_=>false
end
mutual
theorem gK:∀ d:Dt,peq d d=true
 | .non=>by simp [peq]
 | .bl b=>by simp [peq]
 | .int i=>by simp [peq]
 | .str x=>by simp [peq]
 | .tup l=>by simp only [peq];exact peqs_self l
 | .lst l=>by simp only [peq];exact peqs_self l
 | .dct ks l=>by simp only [peq,decide_true,qm4];exact peqs_self l
 | .dcT ks l=>by simp only [peq,decide_true,qm4];exact peqs_self l
theorem peqs_self:∀ l:List Dt,peqs l l=true
 | []=>by simp [peqs]
 | d::l=>by simp only [peqs,gK d,peqs_self l,zb3]
end
mutual
noncomputable def c7:Dt->Nat
 | .tup l=>deeps l+1
 | .lst l=>deeps l+1
 | _=>0
noncomputable def deeps:List Dt->Nat
 | []=>0
 | d::l=>max (c7 d) (deeps l)
end
mutual
noncomputable def Rep (K:xA9) (H:Hp):Dt->V->Prop
 | .non,v=>v=.non
 | .bl b,v=>v=.bl b
 | .int i,v=>v=.int i
 | .str x,v=>v=.str x
 | .tup l,v=>∃ a vs,v=.ref a/\SqT K H a vs/\Reps K H l vs
 | .lst l,v=>∃ a vs,v=.ref a/\SqL K H a vs/\Reps K H l vs
 | .dct ks l,v=>∃ a kvs,v=.ref a/\Rd H a (.dK kvs)/\kvs.map (·.1)=ks/\Reps K H l (kvs.map (·.2))
 | .dcT ks l,v=>∃ a kvs,v=.ref a/\Rd H a (.dT kvs)/\kvs.map (·.1)=ks/\Reps K H l (kvs.map (·.2))
noncomputable def Reps (K:xA9) (H:Hp):List Dt->List V->Prop
 | [],vs=>vs=[]
 | d::l,vs=>∃ v ws,vs=v::ws/\Rep K H d v/\Reps K H l ws
end
theorem Same.tup (e:Same H H') (h:SqT K H a xs):SqT K H' a xs:=by
 rcases h with h | h
 . exact .inl (e _ _ h)
 . exact .inr h
theorem Same.rd {u:HO} (e:Same H H') (h:Rd H a u):Rd H' a u:=by
 rcases h with h | ⟨o,h⟩
 . exact .inl (e _ _ h)
 . exact .inr ⟨o,e _ _ h⟩
mutual
theorem Rep.same {K:xA9} {H H':Hp} (e:Same H H'):∀ {d:Dt} {v:V},Rep K H d v->Rep K H' d v
 | .non,v,h=>h
 | .bl _,v,h=>h
 | .int _,v,h=>h
 | .str _,v,h=>h
 | .tup l,v,h=>by unfold Rep at h ⊢;obtain ⟨a,vs,h1,h2,h3⟩:=h;exact ⟨a,vs,h1,e.tup h2,Reps.same e h3⟩
 | .lst l,v,h=>by unfold Rep at h ⊢;obtain ⟨a,vs,h1,h2,h3⟩:=h;exact ⟨a,vs,h1,e.seq h2,Reps.same e h3⟩
 | .dct ks l,v,h=>by unfold Rep at h ⊢;obtain ⟨a,vs,h1,h2,h3,h4⟩:=h;exact ⟨a,vs,h1,e.rd h2,h3,Reps.same e h4⟩
 | .dcT ks l,v,h=>by unfold Rep at h ⊢;obtain ⟨a,vs,h1,h2,h3,h4⟩:=h;exact ⟨a,vs,h1,e.rd h2,h3,Reps.same e h4⟩
theorem Reps.same {K:xA9} {H H':Hp} (e:Same H H'):∀ {l:List Dt} {vs:List V},Reps K H l vs->Reps K H' l vs
 | [],vs,h=>h
 | d::l,vs,h=>by unfold Reps at h ⊢;obtain ⟨v,ws,h1,h2,h3⟩:=h;exact ⟨v,ws,h1,Rep.same e h2,Reps.same e h3⟩
end
theorem Reps.length:∀ {l:List Dt} {vs:List V},Reps K H l vs->vs.length=l.length
 | [],vs,h=>by unfold Reps at h;rw [h];rfl
 | d::l,vs,h=>by unfold Reps at h;obtain ⟨v,q,rfl,_,h3⟩:=h;simp [Reps.length h3]
theorem Reps.get:∀ {l:List Dt} {vs:List V} {i:Nat} {d:Dt},Reps K H l vs->l[i]?=some d->∃ v,vs[i]?=some v/\Rep K H d v
 | [],vs,i,d,h,e=>by simp at e
 | d0::l,vs,0,d,h,e=>by unfold Reps at h;obtain ⟨v,q,rfl,h2,_⟩:=h;simp at e;subst e;exact ⟨v,rfl,h2⟩
 | d0::l,vs,i+1,d,h,e=>by unfold Reps at h;obtain ⟨v,q,rfl,_,h3⟩:=h;obtain ⟨u,O,U⟩:=Reps.get (i:=i) h3 (by simpa using e);exact ⟨u,by simpa using O,U⟩
theorem Reps.append:∀ {l m:List Dt} {vs q:List V},Reps K H l vs->Reps K H m q->Reps K H (l++m) (vs++q)
 | [],m,vs,q,h,h'=>by unfold Reps at h;rw [h];exact h'
 | d::l,m,vs,q,h,h'=>by unfold Reps at h;obtain ⟨v,us,rfl,h2,h3⟩:=h;show Reps K H (d::(l++m)) (v::(us++q));unfold Reps;exact ⟨v,_,rfl,h2,Reps.append h3 h'⟩
theorem Reps.one {d:Dt} (h:Rep K H d v):Reps K H [d] [v]:=by unfold Reps;exact ⟨v,[],rfl,h,by unfold Reps;rfl⟩
theorem Reps.take:∀ {l:List Dt} {vs:List V} (n:Nat),Reps K H l vs->Reps K H (l.take n) (vs.take n)
 | _,_,0,_=>by simp [Reps]
 | [],vs,n+1,h=>by unfold Reps at h;rw [h];simp [Reps]
 | d::l,vs,n+1,h=>by unfold Reps at h;obtain ⟨v,us,rfl,h2,h3⟩:=h;show Reps K H (d::l.take n) (v::us.take n);unfold Reps;exact ⟨v,_,rfl,h2,Reps.take n h3⟩
theorem Reps.drop:∀ {l:List Dt} {vs:List V} (n:Nat),Reps K H l vs->Reps K H (l.drop n) (vs.drop n)
 | _,_,0,h=>h
 | [],vs,n+1,h=>by unfold Reps at h;rw [h];simp [Reps]
 | d::l,vs,n+1,h=>by unfold Reps at h;obtain ⟨v,us,rfl,h2,h3⟩:=h;exact Reps.drop n h3
variable {u:List (Key×V)}
section
variable {X:Cx} {pins:List (Addr×Obj)} {σ:St} {H:Hp} {s:qa4} {K:xA9}
theorem Inv.notBoth {ys:List V} (I:Inv X pins σ H s) (h:SqL X.K H a xs) (h':SqT X.K H a ys):False:=by obtain ⟨its,r,W,_⟩:=I.list h;obtain ⟨its',Y,pt,_⟩:=I.tuple h';obtain ⟨o,n,e,U,_⟩:=W;obtain ⟨o',O,q,_⟩:=pt;rw [e] at O;cases O;rw [U] at q;injection q with z;exact absurd z (by decide)
theorem BK {w:List (Key×V)} (h:Rd H a (.dK u)) (h':Rd H a (.dK w)):u=w:=by rcases h with h | ⟨o,h⟩<;>rcases h' with h' | ⟨o',h'⟩<;>rw [h] at h'<;>cases h'<;>rfl
theorem BL {u w:List (List Key×V)} (h:Rd H a (.dT u)) (h':Rd H a (.dT w)):u=w:=by rcases h with h | ⟨o,h⟩<;>rcases h' with h' | ⟨o',h'⟩<;>rw [h] at h'<;>cases h'<;>rfl
theorem iZ {u:HO} (h:Rd H a u):∃ o,H a=some o:=by
 rcases h with h | ⟨o,h⟩
 . exact ⟨_,h⟩
 . exact ⟨_,h⟩
theorem Inv.kNone (I:Inv X pins σ H s) {o:Obj} (h:X.K.lookup a=some o):H a=none:=(I.bs a o (I.ok.mod.kin a o h)).2
theorem Inv.sqT_dK (I:Inv X pins σ H s) (h:SqT X.K H a xs) (h':Rd H a (.dK u)):False:=by
 rcases h with h | ⟨o,_,_,h,_⟩
 . rcases h' with h' | ⟨o',h'⟩<;>rw [h] at h'<;>cases h'
 . obtain ⟨o',e⟩:=iZ h';rw [I.kNone h] at e;cases e
theorem Inv.sqT_dT (I:Inv X pins σ H s) {u:List (List Key×V)} (h:SqT X.K H a xs) (h':Rd H a (.dT u)):False:=by
 rcases h with h | ⟨o,_,_,h,_⟩
 . rcases h' with h' | ⟨o',h'⟩<;>rw [h] at h'<;>cases h'
 . obtain ⟨o',e⟩:=iZ h';rw [I.kNone h] at e;cases e
theorem Inv.sqL_dK (I:Inv X pins σ H s) (h:SqL X.K H a xs) (h':Rd H a (.dK u)):False:=by
 rcases h with h | ⟨o,_,_,h,_⟩
 . rcases h with h | ⟨o,h⟩<;>rcases h' with h' | ⟨o',h'⟩<;>rw [h] at h'<;>cases h'
 . obtain ⟨o',e⟩:=iZ h';rw [I.kNone h] at e;cases e
theorem Inv.sqL_dT (I:Inv X pins σ H s) {u:List (List Key×V)} (h:SqL X.K H a xs) (h':Rd H a (.dT u)):False:=by
 rcases h with h | ⟨o,_,_,h,_⟩
 . rcases h with h | ⟨o,h⟩<;>rcases h' with h' | ⟨o',h'⟩<;>rw [h] at h'<;>cases h'
 . obtain ⟨o',e⟩:=iZ h';rw [I.kNone h] at e;cases e
theorem tG {w:List (List Key×V)} (h:Rd H a (.dK u)) (h':Rd H a (.dT w)):False:=by rcases h with h | ⟨o,h⟩<;>rcases h' with h' | ⟨o',h'⟩<;>rw [h] at h'<;>cases h'
def b9:Dt->Nat
 | .non=>0
 | .bl _=>1
 | .int _=>2
 | .str _=>3
 | .tup _=>4
 | .lst _=>5
 | .dct _ _=>6
 | .dcT _ _=>7
theorem di (I:Inv X pins σ H s) {d e:Dt} (h:Rep X.K H d v) (h':Rep X.K H e v):b9 d=b9 e:=by
 cases d<;>cases e<;>first
  | rfl
  | (simp only [Rep] at h h';subst h;cases h';done)
  | (simp only [Rep] at h h';obtain ⟨_,_,e,_⟩:=h';rw [h] at e;cases e;done)
  | (simp only [Rep] at h h';obtain ⟨_,_,e,_⟩:=h;rw [h'] at e;cases e;done)
  | (simp only [Rep] at h h';obtain ⟨_,_,rfl,h2,_⟩:=h;obtain ⟨_,_,e,q,_⟩:=h';cases e
     first
      | exact (I.sqT_dK h2 q).elim
      | exact (I.sqT_dK q h2).elim
      | exact (I.sqT_dT h2 q).elim
      | exact (I.sqT_dT q h2).elim
      | exact (I.notBoth h2 q).elim
      | exact (I.notBoth q h2).elim
      | exact (I.sqL_dK h2 q).elim
      | exact (I.sqL_dK q h2).elim
      | exact (I.sqL_dT h2 q).elim
      | exact (I.sqL_dT q h2).elim
      | exact (tG h2 q).elim
      | exact (tG q h2).elim)
mutual
theorem i0 (I:Inv X pins σ H s):∀ (d e:Dt) (v:V),Rep X.K H d v->Rep X.K H e v->peq d e=true:=fun d=>by
 match d with
 | .tup l =>
  intro e v h h';have hk:=di I h h';cases e<;>first | (simp [b9] at hk;done) | skip
  simp only [Rep] at h h';obtain ⟨a,vs,rfl,h2,h3⟩:=h;obtain ⟨b,ws,e,h2',h3'⟩:=h';cases e;have:=I.tuple_inj h2 h2';subst this;simp only [peq];exact reps_inj I l _ _ h3 h3'
 | .lst l =>
  intro e v h h';have hk:=di I h h';cases e<;>first | (simp [b9] at hk;done) | skip
  simp only [Rep] at h h';obtain ⟨a,vs,rfl,h2,h3⟩:=h;obtain ⟨b,ws,e,h2',h3'⟩:=h';cases e;have:=I.list_inj h2 h2';subst this;simp only [peq];exact reps_inj I l _ _ h3 h3'
 | .dct ks l =>
  intro e v h h';have hk:=di I h h';cases e<;>first | (simp [b9] at hk;done) | skip
  simp only [Rep] at h h';obtain ⟨a,vs,rfl,h2,h3,h4⟩:=h;obtain ⟨b,ws,e,h2',h3',h4'⟩:=h';cases e;have:=BK h2 h2';subst this;subst h3 h3';simp only [peq,decide_true,qm4];exact reps_inj I l _ _ h4 h4'
 | .dcT ks l =>
  intro e v h h';have hk:=di I h h';cases e<;>first | (simp [b9] at hk;done) | skip
  simp only [Rep] at h h';obtain ⟨a,vs,rfl,h2,h3,h4⟩:=h;obtain ⟨b,ws,e,h2',h3',h4'⟩:=h';cases e;have:=BL h2 h2';subst this;subst h3 h3';simp only [peq,decide_true,qm4];exact reps_inj I l _ _ h4 h4'
 | .non =>intro e v h h';have hk:=di I h h';cases e<;>first | (simp [b9] at hk;done) | simp only [peq]
 | .bl b =>intro e v h h';have hk:=di I h h';cases e<;>first | (simp [b9] at hk;done) | (simp only [Rep] at h h';rw [h] at h';cases h';exact gK _)
 | .int b =>intro e v h h';have hk:=di I h h';cases e<;>first | (simp [b9] at hk;done) | (simp only [Rep] at h h';rw [h] at h';cases h';exact gK _)
 | .str b =>intro e v h h';have hk:=di I h h';cases e<;>first | (simp [b9] at hk;done) | (simp only [Rep] at h h';rw [h] at h';cases h';exact gK _)
theorem reps_inj (I:Inv X pins σ H s):∀ (l m:List Dt) (vs:List V),Reps X.K H l vs->Reps X.K H m vs->peqs l m=true:=fun l=>by
 match l with
 | [] =>
  intro m vs h h';cases m with
  | nil=>simp only [peqs]
  | cons e m=>unfold Reps at h h';obtain ⟨v,ws,e,_⟩:=h';rw [h] at e;cases e
 | d::l =>
  intro m vs h h';cases m with
  | nil=>unfold Reps at h h';obtain ⟨v,ws,e,_⟩:=h;rw [h'] at e;cases e
  | cons e m =>unfold Reps at h h';obtain ⟨v,ws,rfl,h2,h3⟩:=h;obtain ⟨v',ws',e',h2',h3'⟩:=h';cases e';simp only [peqs,i0 I d _ _ h2 h2',reps_inj I l _ _ h3 h3',zb3]
end
end
end L2
namespace L2
open PySem PySem.Spec PyProof.Rows
mutual
noncomputable def cw:Dt->Dt->Bool
 | .tup l,.tup m=>cmpbs l m
 | .lst l,.lst m=>cmpbs l m
 | d,e=>decide (b9 d<4)&&decide (b9 e<4)
noncomputable def cmpbs:List Dt->List Dt->Bool
 | d::l,e::m=>cw d e&&cmpbs l m
 | _,_=>true
end
theorem dZ:∀ {l m:List Dt} {j:Nat} {d e:Dt},cmpbs l m=true->l[j]?=some d->m[j]?=some e->cw d e=true
 | [],_,j,d,e,_,h,_=>by simp at h
 | _::_,[],j,d,e,_,_,h=>by simp at h
 | d0::l,e0::m,0,d,e,h,h1,h2=>by simp only [cmpbs,qb1] at h;simp at h1 h2;subst h1 h2;exact h.1
 | d0::l,e0::m,j+1,d,e,h,h1,h2=>by simp only [cmpbs,qb1] at h;exact dZ (j:=j) h.2 (by simpa using h1) (by simpa using h2)
theorem e9:∀ {l:List Dt} {j:Nat} {d:Dt},l[j]?=some d->c7 d<=deeps l
 | [],j,d,h=>by simp at h
 | d0::l,0,d,h=>by simp at h;subst h;simp only [deeps];exact Nat.le_max_left ..
 | d0::l,j+1,d,h=>by simp only [deeps];exact qc1 (e9 (j:=j) (by simpa using h)) (Nat.le_max_right ..)
def cy (l m:List Dt) (j:Nat):Bool:=peq (l.getD j .non) (m.getD j .non)
theorem dD:∀ (l m:List Dt),peqs l m=((qb8 (min l.length m.length)).all (cy l m)&&l.length==m.length)
 | [],[]=>by simp [peqs]
 | [],_::_=>by simp [peqs]
 | _::_,[]=>by simp [peqs]
 | d::l,e::m=>by
  have U:=dD l m;simp only [peqs,U,qi5];rw [show min (l.length+1) (m.length+1)=min l.length m.length+1 by lia,qt0,qo3,List.all_map];have q:cy (d::l) (e::m) 0=peq d e:=rfl
  have O:(cy (d::l) (e::m) ∘ Nat.succ)=cy l m:=by funext j;rfl
  have W:(l.length+1==m.length+1)=(l.length==m.length):=by rw [qh2];simp
  rw [q,O,W,Bool.and_assoc]
variable {K:xA9}
section
variable {X:Cx} {pins:List (Addr×Obj)} {σ:St} {H:Hp} {s:qa4}
theorem bX {l:List Dt} {vs:List V} {its:List Value} (h:Reps X.K H l vs) (r:Vals vs its) {j:Nat} (q:j<its.length):∃ d v,l[j]?=some d/\Rep X.K H d v/\RelV v its[j]:=by
 have U:j<l.length:=by rw [<- h.length,r.length];exact q
 obtain ⟨v,Y,Z⟩:=h.get (i:=j) (d:=l[j]) (by simp [U]);obtain ⟨u,O,W⟩:=r.get Y
 have:its[j]=u:=by have:=gQ q;rw [this] at O;exact qd6 O
 exact ⟨l[j],v,by simp [U],Z,by rw [this];exact W⟩
theorem tH (I:Inv X pins σ H s):∀ (n:Nat) {A:qd5} {d e:Dt} {v w:V} {u u':Value},c7 d<=n->A.units+n<cLine->cw d e=true->Rep X.K H d v->Rep X.K H e w->RelV v u->RelV w u'->qf7 A s u u' (peq d e):=by
 intro n;induction n with
 | zero =>
  intro A d e v w u u' hd hu O h h' r r'
  cases d<;>cases e<;>first
   | (simp only [Rep] at h h';subst h h';exact ij r r' rfl rfl)
   | (simp only [c7] at hd;lia)
   | (simp [cw,b9] at O)
 | succ n ih =>
  intro A d e v w u u' hd hu O h h' r r';cases d with
  | tup l =>
   cases e with
   | tup m =>
    have h0:=h;have h0':=h';simp only [Rep] at h h';obtain ⟨a,vs,rfl,h2,h3⟩:=h;obtain ⟨b,ws,rfl,q,h3'⟩:=h';cases r;cases r';by_cases W:a=b
    . subst W;have:=i0 I _ _ _ h0 h0';rw [this];exact zd9 _
    obtain ⟨its,rv,pt,_⟩:=I.tuple h2;obtain ⟨its',Y,pt',_⟩:=I.tuple q;have n1:its.length=l.length:=by rw [<- h3.length,rv.length]
    have n2:its'.length=m.length:=by rw [<- h3'.length,Y.length]
    simp only [peq];rw [dD,<- n1,<- n2];simp only [c7] at hd;simp only [cw] at O
    have key:=qz9.tuples (A:=A) (e:=cy l m) pt pt' (by lia) (fun j h1 h2=>by
     have h1':j<its.length:=by simpa using h1
     have q:j<its'.length:=by simpa using h2
     obtain ⟨d,v,g1,g2,g3⟩:=bX h3 rv h1';obtain ⟨e,w,Z,g2',g3'⟩:=bX h3' Y q;have:cy l m j=peq d e:=by unfold cy;rw [qa9,qa9,g1,Z];rfl
     rw [this];have:=ih (A:=A.in1) (qc1 (e9 g1) (by lia)) (show A.units+1+n<cLine by lia) (dZ O g1 Z) g2 g2' g3 g3';simpa using this)
    have key':qz9 A s (.ref a) (.ref b) ((qb8 (min its.length its'.length)).all (cy l m)&&its.length==its'.length):=by simpa using key
    exact qy5 W key'
   | _=>exact absurd O (by simp [cw,b9])
  | lst l =>
   cases e with
   | lst m =>
    have h0:=h;have h0':=h';simp only [Rep] at h h';obtain ⟨a,vs,rfl,h2,h3⟩:=h;obtain ⟨b,ws,rfl,q,h3'⟩:=h';cases r;cases r';by_cases W:a=b
    . subst W;have:=i0 I _ _ _ h0 h0';rw [this];exact zd9 _
    obtain ⟨its,rv,pt,_⟩:=I.list h2;obtain ⟨its',Y,pt',_⟩:=I.list q;have n1:its.length=l.length:=by rw [<- h3.length,rv.length]
    have n2:its'.length=m.length:=by rw [<- h3'.length,Y.length]
    simp only [peq];rw [dD,<- n1,<- n2];simp only [c7] at hd;simp only [cw] at O;by_cases U:its.length=its'.length
    . have key:=qz9.lists (A:=A) (e:=cy l m) pt.isList pt'.isList (by simpa using U) (by lia) (fun j h1 h2=>by
       have h1':j<its.length:=by simpa using h1
       have q:j<its'.length:=by simpa using h2
       obtain ⟨d,v,g1,g2,g3⟩:=bX h3 rv h1';obtain ⟨e,w,Z,g2',g3'⟩:=bX h3' Y q;have:cy l m j=peq d e:=by unfold cy;rw [qa9,qa9,g1,Z];rfl
       rw [this];have:=ih (A:=A.in1) (qc1 (e9 g1) (by lia)) (show A.units+1+n<cLine by lia) (dZ O g1 Z) g2 g2' g3 g3';simpa using this)
      have e1:(its.length==its'.length)=true:=by simpa using U
      rw [e1,qs4,show min its.length its'.length=its.length by lia];exact qy5 W (by simpa using key)
    . have e1:(its.length==its'.length)=false:=by simpa using U
      rw [e1,qt7];exact qy5 W (za0 pt.isList pt'.isList (by simpa using U) (by lia))
   | _=>exact absurd O (by simp [cw,b9])
  | non=>cases e<;>first | (simp only [Rep] at h h';subst h h';exact ij r r' rfl rfl) | (simp [cw,b9] at O)
  | bl b=>cases e<;>first | (simp only [Rep] at h h';subst h h';exact ij r r' rfl rfl) | (simp [cw,b9] at O)
  | int b=>cases e<;>first | (simp only [Rep] at h h';subst h h';exact ij r r' rfl rfl) | (simp [cw,b9] at O)
  | str b=>cases e<;>first | (simp only [Rep] at h h';subst h h';exact ij r r' rfl rfl) | (simp [cw,b9] at O)
  | dct ks l=>cases e<;>(simp [cw,b9] at O)
  | dcT ks l=>cases e<;>(simp [cw,b9] at O)
theorem xQ (I:Inv X pins σ H s) {A:qd5} {d e:Dt} {v w:V} {u u':Value} (hq:(∃ l m,d=.tup l/\e=.tup m)∨∃ l m,d=.lst l/\e=.lst m) (hu:A.units+c7 d<cLine) (hc:cw d e=true) (h:Rep X.K H d v) (h':Rep X.K H e w) (r:RelV v u) (r':RelV w u') :
  qz9 A s u u' (peq d e)/\ze2 A s u u' (!peq d e):=by
 rcases hq with ⟨l,m,rfl,rfl⟩ | ⟨l,m,rfl,rfl⟩
 . simp only [Rep] at h h';obtain ⟨a,vs,rfl,h2,h3⟩:=h;obtain ⟨b,ws,rfl,U,Z⟩:=h';cases r;cases r';obtain ⟨its,rv,pt,_⟩:=I.tuple h2;obtain ⟨its',W,O,_⟩:=I.tuple U;have n1:its.length=l.length:=by rw [<- h3.length,rv.length]
   have n2:its'.length=m.length:=by rw [<- Z.length,W.length]
   simp only [peq];rw [dD,<- n1,<- n2];simp only [c7] at hu;simp only [cw] at hc
   have he:∀ j (h1:j<its.toArray.size) (h2:j<its'.toArray.size),qf7 A.in1 s its.toArray[j] its'.toArray[j] (cy l m j):=fun j h1 h2=>by
    have h1':j<its.length:=by simpa using h1
    have U:j<its'.length:=by simpa using h2
    obtain ⟨d,v,g1,g2,g3⟩:=bX h3 rv h1';obtain ⟨e,w,Y,g2',g3'⟩:=bX Z W U;have:cy l m j=peq d e:=by unfold cy;rw [qa9,qa9,g1,Y];rfl
    rw [this];have:=tH I (deeps l) (A:=A.in1) (e9 g1) (show A.units+1+deeps l<cLine by lia) (dZ hc g1 Y) g2 g2' g3 g3';simpa using this
   exact ⟨by simpa using qz9.tuples (A:=A) (e:=cy l m) pt O (by lia) he,by simpa using ze2.tuples (A:=A) (e:=cy l m) pt O (by lia) he⟩
 . simp only [Rep] at h h';obtain ⟨a,vs,rfl,h2,h3⟩:=h;obtain ⟨b,ws,rfl,U,Z⟩:=h';cases r;cases r';obtain ⟨its,rv,pt,_⟩:=I.list h2;obtain ⟨its',W,O,_⟩:=I.list U;have n1:its.length=l.length:=by rw [<- h3.length,rv.length]
   have n2:its'.length=m.length:=by rw [<- Z.length,W.length]
   simp only [peq];rw [dD,<- n1,<- n2];simp only [c7] at hu;simp only [cw] at hc;by_cases q:its.length=its'.length
   . have he:∀ j (h1:j<its.toArray.size) (h2:j<its'.toArray.size),qf7 A.in1 s its.toArray[j] its'.toArray[j] (cy l m j):=fun j h1 h2=>by
      have h1':j<its.length:=by simpa using h1
      have U:j<its'.length:=by simpa using h2
      obtain ⟨d,v,g1,g2,g3⟩:=bX h3 rv h1';obtain ⟨e,w,Y,g2',g3'⟩:=bX Z W U;have:cy l m j=peq d e:=by unfold cy;rw [qa9,qa9,g1,Y];rfl
      rw [this];have:=tH I (deeps l) (A:=A.in1) (e9 g1) (show A.units+1+deeps l<cLine by lia) (dZ hc g1 Y) g2 g2' g3 g3';simpa using this
     have e1:(its.length==its'.length)=true:=by simpa using q
     rw [e1,qs4,show min its.length its'.length=its.length by lia];exact ⟨by simpa using qz9.lists (A:=A) (e:=cy l m) pt.isList O.isList (by simpa using q) (by lia) he,by simpa using ze2.lists (A:=A) (e:=cy l m) pt.isList O.isList (by simpa using q) (by lia) he⟩
   . have e1:(its.length==its'.length)=false:=by simpa using q
     rw [e1,qt7];exact ⟨za0 pt.isList O.isList (by simpa using q) (by lia),ze2.lists_lengths pt.isList O.isList (by simpa using q) (by lia)⟩
noncomputable def wl (K:xA9) (neg:Bool):R2:=fun x y H Q=>∃ d e,((∃ l m,d=.tup l/\e=.tup m)∨∃ l m,d=.lst l/\e=.lst m)/\Rep K H d x/\Rep K H e y/\cw d e=true/\c7 d<=60/\Q (.bl (if neg then !peq d e else peq d e)) H
theorem zF {k:Nat} (hr:Room k X.A) (Y:X.K=K):OpR X (qg4 .Eq) (wl K false):=by subst Y;intro pins s σ H x y v u Q I Z O h;obtain ⟨d,e,hq,hd,W,U,hdp,q⟩:=h;have hu:=hr.units;exact (xQ I hq (by lia) U hd W Z O).1 _ _ _ _ ⟨.bl (peq d e),H,I,rfl,q⟩
theorem zG {k:Nat} (hr:Room k X.A) (Y:X.K=K):OpR X (qg4 .NotEq) (wl K true):=by subst Y;intro pins s σ H x y v u Q I Z O h;obtain ⟨d,e,hq,hd,W,U,hdp,q⟩:=h;have hu:=hr.units;exact (xQ I hq (by lia) U hd W Z O).2 _ _ _ _ ⟨.bl (!peq d e),H,I,rfl,q⟩
end
end L2
namespace L2
open PySem PySem.Spec PyProof.Rows
abbrev NT (o:HO):Prop:=∀ vs,o≠.tup vs
structure Step (F H F' H':Hp):Prop where
 hh:Same H H'
 ff:Same F F'
 fh:Same F' H'
 nw:∀ b o,F' b=some o->F b=some o∨H b=none∨∃ vs,H b=some (.tup vs)
variable {u:HO}
section
variable {F H F' H' F1 H1:Hp} {p:Addr} {o:HO}
theorem Step.refl (h:Same F H):Step F H F H:=⟨Same.refl _,Same.refl _,h,fun _ _ e=>.inl e⟩
theorem Step.trans (a:Step F H F1 H1) (b:Step F1 H1 F' H'):Step F H F' H':=
 ⟨a.hh.trans b.hh,a.ff.trans b.ff,b.fh,fun c o e=>by
  rcases b.nw c o e with z | z | ⟨vs,z⟩
  . exact a.nw c o z
  . exact .inr (.inl (a.hh.free z))
  . cases q:H c with
    | none=>exact .inr (.inl rfl)
    | some u =>have:=a.hh c u q;rw [z] at this;cases this;exact .inr (.inr ⟨vs,rfl⟩)⟩
theorem Same.upd (hp:H p=none):Same H (upd H p o):=fun b u e=>by rw [aH (bC e hp)];exact e
theorem Step.new (h:Same F H) (hp:H p=none):Step F H (upd F p o) (upd H p o) where
 hh:=Same.upd hp
 ff:=Same.upd (h.free hp)
 fh:=fun b u e=>by
  by_cases q:b=p
  . subst q;rw [aQ] at e ⊢;exact e
  . rw [aH q] at e ⊢;exact h _ _ e
 nw:=fun b u e=>by
  by_cases q:b=p
  . subst q;exact .inr (.inl hp)
  . rw [aH q] at e;exact .inl e
theorem Step.keepN {b:Addr} (st:Step F H F' H') (U:F b=none) (O:H b=some u) (W:NT u:=by intro _ z;cases z):F' b=none:=by
 cases q:F' b with
 | none=>rfl
 | some o' =>
  rcases st.nw b o' q with z | z | ⟨vs,z⟩
  . rw [U] at z;cases z
  . rw [O] at z;cases z
  . rw [O] at z;cases z;exact absurd rfl (W vs)
theorem Step.made (h:Same F H) (hp:H p=none):Step F H F (upd H p o) where
 hh:=Same.upd hp
 ff:=Same.refl _
 fh:=h.trans (Same.upd hp)
 nw:=fun b u e=>.inl e
end
inductive T where
 | leaf (d:Dt) | lst (l:List Dt) | dct (l:List (Key×Dt)) | dcT (l:List (List Key×Dt)) | fn (a:Addr) (F0:Hp)
def T.d:T->Option Dt
 | .leaf d=>some d
 | .lst l=>some (.lst l)
 | .dct l=>some (.dct (l.map (·.1)) (l.map (·.2)))
 | .dcT l=>some (.dcT (l.map (·.1)) (l.map (·.2)))
 | .fn _ _=>none
def T.own:T->Bool
 | .leaf _ | .fn _ _=>false
 | _=>true
noncomputable def Own (K:xA9) (F H:Hp):T->V->(Addr->Prop)->Prop
 | .leaf d,v,_=>Rep K F d v
 | .lst l,v,S=>∃ a vs,v=.ref a/\S a/\H a=some (.lst vs)/\Reps K F l vs
 | .dct l,v,S=>∃ a kvs,v=.ref a/\S a/\H a=some (.dK kvs)/\kvs.map (·.1)=l.map (·.1)/\Reps K F (l.map (·.2)) (kvs.map (·.2))
 | .dcT l,v,S=>∃ a kvs,v=.ref a/\S a/\H a=some (.dT kvs)/\kvs.map (·.1)=l.map (·.1)/\Reps K F (l.map (·.2)) (kvs.map (·.2))
 | .fn a F0,v,_=>v=.ref a/\Same F0 F
noncomputable def RepB (K:xA9) (F H:Hp):Dt->V->Prop
 | .lst l,v=>∃ a vs,v=.ref a/\SqL K H a vs/\Reps K F l vs
 | .dct ks l,v=>∃ a kvs,v=.ref a/\Rd H a (.dK kvs)/\kvs.map (·.1)=ks/\Reps K F l (kvs.map (·.2))
 | .dcT ks l,v=>∃ a kvs,v=.ref a/\Rd H a (.dT kvs)/\kvs.map (·.1)=ks/\Reps K F l (kvs.map (·.2))
 | .non,v=>v=.non
 | .bl b,v=>v=.bl b
 | .int i,v=>v=.int i
 | .str x,v=>v=.str x
 | .tup l,v=>∃ a vs,v=.ref a/\SqT K F a vs/\Reps K F l vs
variable {S':Addr->Prop}
section
variable {K:xA9} {F H F' H':Hp} {t:T} {v:V} {d:Dt} {S:Addr->Prop}
theorem Own.step (O:Same F F') (U:∀ b o,S b->H b=some o->H' b=some o) (h:Own K F H t v S):Own K F' H' t v S:=by
 induction t with
 | leaf d=>exact Rep.same O h
 | lst l =>obtain ⟨a,vs,e,q,h1,h2⟩:=h;exact ⟨a,vs,e,q,U _ _ q h1,h2.same O⟩
 | dct l =>obtain ⟨a,vs,e,q,h1,h2,h3⟩:=h;exact ⟨a,vs,e,q,U _ _ q h1,h2,h3.same O⟩
 | dcT l =>obtain ⟨a,vs,e,q,h1,h2,h3⟩:=h;exact ⟨a,vs,e,q,U _ _ q h1,h2,h3.same O⟩
 | fn a F0=>exact ⟨h.1,h.2.trans O⟩
theorem Own.grow (O:∀ b,S b->S' b) (h:Own K F H t v S):Own K F H t v S':=by
 induction t with
 | leaf d=>exact h
 | lst l =>obtain ⟨a,vs,e,q,h1⟩:=h;exact ⟨a,vs,e,O _ q,h1⟩
 | dct l =>obtain ⟨a,vs,e,q,h1⟩:=h;exact ⟨a,vs,e,O _ q,h1⟩
 | dcT l =>obtain ⟨a,vs,e,q,h1⟩:=h;exact ⟨a,vs,e,O _ q,h1⟩
 | fn a F0=>exact h
theorem RepB.of (q:Same F H) (h:Rep K F d v):RepB K F H d v:=by
 cases d with
 | lst l =>simp only [Rep] at h;obtain ⟨a,vs,e,h1,h2⟩:=h;exact ⟨a,vs,e,q.seq h1,h2⟩
 | dct ks l =>simp only [Rep] at h;obtain ⟨a,vs,e,h1,h2⟩:=h;exact ⟨a,vs,e,q.rd h1,h2⟩
 | dcT ks l =>simp only [Rep] at h;obtain ⟨a,vs,e,h1,h2⟩:=h;exact ⟨a,vs,e,q.rd h1,h2⟩
 | tup l =>simp only [Rep] at h;exact h
 | _ =>simp only [Rep] at h;exact h
theorem RepB.rep (q:Same F H) (h:RepB K F H d v):Rep K H d v:=by
 cases d with
 | lst l =>obtain ⟨a,vs,e,h1,h2⟩:=h;simp only [Rep];exact ⟨a,vs,e,h1,h2.same q⟩
 | dct ks l =>obtain ⟨a,vs,e,h1,h2,h3⟩:=h;simp only [Rep];exact ⟨a,vs,e,h1,h2,h3.same q⟩
 | dcT ks l =>obtain ⟨a,vs,e,h1,h2,h3⟩:=h;simp only [Rep];exact ⟨a,vs,e,h1,h2,h3.same q⟩
 | tup l =>obtain ⟨a,vs,e,h1,h2⟩:=h;simp only [Rep];exact ⟨a,vs,e,q.tup h1,h2.same q⟩
 | _ =>simp only [Rep];exact h
theorem RepB.step (q:Same F F') (O:Same H H') (h:RepB K F H d v):RepB K F' H' d v:=by
 cases d with
 | lst l =>obtain ⟨a,vs,e,h1,h2⟩:=h;exact ⟨a,vs,e,O.seq h1,h2.same q⟩
 | dct ks l =>obtain ⟨a,vs,e,h1,h2,h3⟩:=h;exact ⟨a,vs,e,O.rd h1,h2,h3.same q⟩
 | dcT ks l =>obtain ⟨a,vs,e,h1,h2,h3⟩:=h;exact ⟨a,vs,e,O.rd h1,h2,h3.same q⟩
 | tup l =>obtain ⟨a,vs,e,h1,h2⟩:=h;exact ⟨a,vs,e,q.tup h1,h2.same q⟩
 | _=>exact h
theorem Own.repB (O:Same F H) (h:Own K F H t v S) (q:t.d=some d):RepB K F H d v:=by
 cases t with
 | leaf d=>cases q;exact RepB.of O h
 | lst l =>cases q;obtain ⟨a,vs,e,_,h1,h2⟩:=h;exact ⟨a,vs,e,SqL.of h1,h2⟩
 | dct l =>cases q;obtain ⟨a,vs,e,_,h1,h2⟩:=h;exact ⟨a,vs,e,.inl h1,h2⟩
 | dcT l =>cases q;obtain ⟨a,vs,e,_,h1,h2⟩:=h;exact ⟨a,vs,e,.inl h1,h2⟩
 | fn a F0=>cases q
open Classical in
def oj (F H:Hp) (S:Addr->Prop):Hp:=fun b=>if S b then H b else F b
theorem i4 {b:Addr} (h:S b):oj F H S b=H b:=if_pos h
theorem fg {b:Addr} (h:¬ S b):oj F H S b=F b:=if_neg h
theorem lx (q:∀ b,S b->F b=none):Same F (oj F H S):=fun b o e=>by
 have:¬ S b:=fun z=>by rw [q b z] at e;cases e
 rw [fg this];exact e
theorem pT (q:Same F H):Same (oj F H S) H:=fun b o e=>by
 by_cases h:S b
 . rw [i4 h] at e;exact e
 . rw [fg h] at e;exact q _ _ e
theorem Own.freeze (W:∀ b,S b->F b=none) (h:Own K F H t v S) (O:t.d=some d):Rep K (oj F H S) d v:=by
 have U:=lx (H:=H) W;cases t with
 | leaf d=>cases O;exact Rep.same U h
 | lst l =>cases O;obtain ⟨a,vs,e,q,h1,h2⟩:=h;simp only [Rep];exact ⟨a,vs,e,SqL.of (by rw [i4 q];exact h1),h2.same U⟩
 | dct l =>cases O;obtain ⟨a,vs,e,q,h1,h2,h3⟩:=h;simp only [Rep];exact ⟨a,vs,e,.inl (by rw [i4 q];exact h1),h2,h3.same U⟩
 | dcT l =>cases O;obtain ⟨a,vs,e,q,h1,h2,h3⟩:=h;simp only [Rep];exact ⟨a,vs,e,.inl (by rw [i4 q];exact h1),h2,h3.same U⟩
 | fn a F0=>cases O
end
abbrev Ix:=Nat
abbrev De:=List (Option T)
structure Sep (K:xA9) (F H:Hp) (B:Addr->Prop) (L:Ix->Option (T×V)) (S:Ix->Addr->Prop):Prop where
 own:∀ i t v,L i=some (t,v)->Own K F H t v (S i)
 out:∀ i b,S i b->F b=none/\(∃ o,H b=some o/\NT o)/\B b
 dis:∀ i j b,S i b->S j b->i=j
def mJ (δ:De) (σ:St) (i:Nat):Option (T×V):=match δ[i]?,σ[i]? with
 | some (some t),some (some v)=>some (t,v)
 | _,_=>none
structure Fm where
 K:xA9
 F0:Hp
 H0:Hp
 S0:Addr->Prop
def Fm.B (Φ:Fm) (b:Addr):Prop:=Φ.H0 b=none∨Φ.S0 b
structure En (Φ:Fm) (δ:De) (σ:St) (F H:Hp):Prop where
 fh:Same F H
 prot:∀ b o,Φ.H0 b=some o->¬ Φ.S0 b->H b=some o
 old:Same Φ.F0 F
 nw:∀ b o,F b=some o->Φ.F0 b=some o∨Φ.B b∨∃ vs,Φ.H0 b=some (.tup vs)
 len:δ.length=σ.length
 has:∀ (i:Nat) (t:T),δ[i]?=some (some t)->∃ v,σ[i]?=some (some v)
 sep:∃ S,Sep Φ.K F H Φ.B (mJ δ σ) S
variable {i j:Nat} {v:V} {p a:Addr} {K:xA9}
section
variable {Φ:Fm} {δ:De} {σ:St} {F H F' H':Hp}
theorem bK {t:T} (h1:δ[i]?=some (some t)) (h2:σ[i]?=some (some v)):mJ δ σ i=some (t,v):=by unfold mJ;rw [h1,h2]
theorem dj {t:T} (h:mJ δ σ i=some (t,v)):δ[i]?=some (some t)/\σ[i]?=some (some v):=by
 unfold mJ at h;split at h
 . rename_i O q;cases h;exact ⟨O,q⟩
 . cases h
theorem En.fresh (e:En Φ δ σ F H) (hp:H p=none):Φ.B p:=by
 by_cases h:Φ.S0 p
 . exact .inr h
 . left;cases q:Φ.H0 p with
   | none=>rfl
   | some o=>rw [e.prot p o q h] at hp;cases hp
theorem Sep.step {B:Addr->Prop} {L:Ix->Option (T×V)} {S:Ix->Addr->Prop} (s:Sep K F H B L S) (st:Step F H F' H'):Sep K F' H' B L S where
 own:=fun i t v h=>(s.own i t v h).step st.ff fun b o _ e=>st.hh b o e
 out:=fun i b h=>by obtain ⟨h1,⟨o,h2,q⟩,h3⟩:=s.out i b h;exact ⟨st.keepN h1 h2 q,⟨o,st.hh _ _ h2,q⟩,h3⟩
 dis:=s.dis
theorem En.step (e:En Φ δ σ F H) (st:Step F H F' H'):En Φ δ σ F' H' where
 fh:=st.fh
 prot:=fun b o h1 h2=>st.hh _ _ (e.prot b o h1 h2)
 old:=e.old.trans st.ff
 nw:=fun b o h=>by
  rcases st.nw b o h with z | z | ⟨vs,z⟩
  . exact e.nw b o z
  . exact .inr (.inl (e.fresh z))
  . cases q:Φ.H0 b with
    | none=>exact .inr (.inl (.inl q))
    | some u =>
     by_cases O:Φ.S0 b
     . exact .inr (.inl (.inr O))
     . rw [e.prot b u q O] at z;cases z;exact .inr (.inr ⟨vs,rfl⟩)
 len:=e.len
 has:=e.has
 sep:=let ⟨S,s⟩:=e.sep;⟨S,s.step st⟩
theorem En.slot (e:En Φ δ σ F H) {t:T} {d:Dt} (h:δ[i]?=some (some t)) (O:t.d=some d):∃ v,σ[i]?=some (some v)/\RepB Φ.K F H d v:=by obtain ⟨v,q⟩:=e.has i t h;obtain ⟨S,s⟩:=e.sep;exact ⟨v,q,(s.own i t v (bK h q)).repB e.fh O⟩
theorem En.leaf (e:En Φ δ σ F H) {d:Dt} (h:δ[i]?=some (some (.leaf d))):∃ v,σ[i]?=some (some v)/\Rep Φ.K F d v:=by obtain ⟨v,q⟩:=e.has i _ h;obtain ⟨S,s⟩:=e.sep;exact ⟨v,q,s.own i _ v (bK h q)⟩
theorem dg {α:Type} {l:List (Option α)} {x y:Option α} (h:(l.set i x)[j]?=some y):(i=j/\y=x)∨(i≠j/\l[j]?=some y):=by
 by_cases q:i=j
 . subst q;left;rw [List.getElem?_set] at h;simp only [if_true] at h;split at h
   . cases h;exact ⟨rfl,rfl⟩
   . cases h
 . right;rw [gN q] at h;exact ⟨q,h⟩
theorem En.put (e:En Φ δ σ F H) {t:T} (st:Step F H F' H') (ho:Own Φ.K F' H' t v S') (hs:∀ b,S' b->F' b=none/\H b=none/\∃ o,H' b=some o/\NT o) (i:Nat):En Φ (δ.set i (some t)) (σ.set i (some v)) F' H':=by
 have Y:=e.step st;obtain ⟨S,s⟩:=e.sep;have s':=s.step st;refine ⟨Y.fh,Y.prot,Y.old,Y.nw,by simp [e.len],fun j u h=>?_,fun j b=>if j=i then S' b else S j b,?_,?_,?_⟩
 . rcases dg h with ⟨rfl,z⟩ | ⟨Z,z⟩
   . have hi:i<σ.length:=by rw [<- e.len];have:=(gX h).1;simpa using this
     exact ⟨v,by simp [hi]⟩
   . obtain ⟨w,hw⟩:=e.has j u z;exact ⟨w,by rw [gN Z];exact hw⟩
 . intro j u w h;obtain ⟨h1,h2⟩:=dj h;rcases dg h1 with ⟨rfl,z⟩ | ⟨Z,z⟩
   . rcases dg h2 with ⟨_,U⟩ | ⟨hn2,_⟩
     . cases z;cases U;show Own _ _ _ _ _ (fun b=>if i=i then S' b else S i b);simp only [if_true];exact ho
     . exact absurd rfl hn2
   . rcases dg h2 with ⟨U,_⟩ | ⟨_,U⟩
     . exact absurd U Z
     . have:¬ j=i:=fun q=>Z q.symm
       show Own _ _ _ _ _ (fun b=>if j=i then S' b else S j b);simp only [if_neg this];exact s'.own j u w (bK z U)
 . intro j b h;split at h
   . obtain ⟨h1,h2,h3⟩:=hs b h;exact ⟨h1,h3,e.fresh h2⟩
   . exact s'.out _ b h
 . have O:∀ j b,S j b->¬ S' b:=fun j b h z=>by obtain ⟨_,⟨o,h2,_⟩,_⟩:=s.out j b h;rw [(hs b z).2.1] at h2;cases h2
   intro j k b W hk;split at W<;>split at hk
   . rename_i q1 q2;rw [q1,q2]
   . exact absurd W (O _ b hk)
   . exact absurd hk (O _ b W)
   . exact s.dis _ _ b W hk
theorem rm {t:T} {S:Addr->Prop} (O:t.own=true) (h:Own K F H t (.ref a) S):S a:=by
 cases t with
 | leaf d=>cases O
 | lst l=>obtain ⟨b,_,e,q,_⟩:=h;cases e;exact q
 | dct l=>obtain ⟨b,_,e,q,_⟩:=h;cases e;exact q
 | dcT l=>obtain ⟨b,_,e,q,_⟩:=h;cases e;exact q
 | fn b F0=>cases O
theorem En.poke (e:En Φ δ σ F H) {t t':T} {o:HO} (h:δ[i]?=some (some t)) (O:σ[i]?=some (some (.ref a))) (ht:t.own=true) (Z:∀ S:Addr->Prop,S a->Own Φ.K F (upd H a o) t' (.ref a) S) (nt:NT o:=by intro _ z;cases z) :
  En Φ (δ.set i (some t')) σ F (upd H a o):=by
 obtain ⟨S,s⟩:=e.sep;have U:S i a:=rm ht (s.own i t _ (bK h O));obtain ⟨fa,⟨oa,ha,_⟩,ba⟩:=s.out _ a U;have hi:i<δ.length:=(gX h).1;refine ⟨fun b u z=>?_,fun b u h1 h2=>?_,e.old,e.nw,by simp [e.len],fun j u z=>?_,S,fun j u w z=>?_,fun j b z=>?_,s.dis⟩
 . have:b≠a:=fun q=>by rw [q,fa] at z;cases z
   rw [aH this];exact e.fh _ _ z
 . have:b≠a:=fun q=>by
    subst q;rcases ba with z | z
    . rw [z] at h1;cases h1
    . exact h2 z
   rw [aH this];exact e.prot b u h1 h2
 . rcases dg z with ⟨rfl,_⟩ | ⟨Y,z⟩
   . exact ⟨_,O⟩
   . exact e.has j u z
 . obtain ⟨h1,h2⟩:=dj z;rcases dg h1 with ⟨rfl,W⟩ | ⟨Y,W⟩
   . cases W;rw [O] at h2;cases h2;exact Z _ U
   . refine (s.own j u w (bK W h2)).step (Same.refl _) fun b q hb hq=>?_
     have:b≠a:=fun y=>by subst y;exact Y (s.dis _ _ _ hb U).symm
     rw [aH this];exact hq
 . obtain ⟨h1,⟨q,h2,n2⟩,h3⟩:=s.out j b z;refine ⟨h1,?_,h3⟩;by_cases y:b=a
   . subst y;exact ⟨o,aQ,nt⟩
   . exact ⟨q,by rw [aH y];exact h2,n2⟩
theorem En.freeze (e:En Φ δ σ F H) {t:T} {d:Dt} (h:δ[i]?=some (some t)) (hd:t.d=some d):∃ F',En Φ (δ.set i (some (.leaf d))) σ F' H:=by
 obtain ⟨S,s⟩:=e.sep;obtain ⟨v,O⟩:=e.has i t h;have so:=s.own i t v (bK h O);have Z:∀ b,S i b->F b=none:=fun b z=>(s.out _ b z).1
 have Y:=lx (H:=H) Z;refine ⟨oj F H (S i),pT e.fh,e.prot,e.old.trans Y,fun b o z=>?_,by simp [e.len],fun j u z=>?_,fun j b=>S j b/\j≠i,fun j u w z=>?_,fun j b z=>?_,fun j k b h1 h2=>s.dis _ _ b h1.1 h2.1⟩
 . by_cases hb:S i b
   . exact .inr (.inl (s.out _ b hb).2.2)
   . rw [fg hb] at z;exact e.nw b o z
 . rcases dg z with ⟨rfl,_⟩ | ⟨W,z⟩
   . exact ⟨_,O⟩
   . exact e.has j u z
 . obtain ⟨h1,h2⟩:=dj z;rcases dg h1 with ⟨rfl,U⟩ | ⟨W,U⟩
   . cases U;rw [O] at h2;cases h2;exact so.freeze Z hd
   . refine ((s.own j u w (bK U h2)).step Y fun _ _ _ q=>q).grow fun b q=>⟨q,fun y=>W y.symm⟩
 . obtain ⟨h1,h2,h3⟩:=s.out j b z.1;refine ⟨?_,h2,h3⟩;rw [fg fun y=>z.2 (s.dis _ _ b z.1 y)];exact h1
end
def KO (K:xA9) (F H:Hp) (t:T) (Q:VK):Prop:=∀ v H' F' S,Step F H F' H'->Own K F' H' t v S->(∀ b,S b->F' b=none/\H b=none/\∃ o,H' b=some o/\NT o)->Q v H'
def KL (K:xA9) (F H:Hp) (d:Dt) (Q:VK):Prop:=∀ v H' F',Step F H F' H'->Rep K F' d v->Q v H'
def KB (K:xA9) (F H:Hp) (d:Dt) (Q:VK):Prop:=∀ v H' F',Step F H F' H'->RepB K F' H' d v->Q v H'
section
variable {K:xA9} {F H F1 H1:Hp} {t:T} {d:Dt} {Q:VK}
theorem KO.step (k:KO K F H t Q) (st:Step F H F1 H1):KO K F1 H1 t Q:=fun v H' F' S s o q=>k v H' F' S (st.trans s) o fun b z=>⟨(q b z).1,st.hh.free (q b z).2.1,(q b z).2.2⟩
theorem KO.leaf (k:KO K F H (.leaf d) Q):KL K F H d Q:=fun v H' F' st r=>k v H' F' (fun _=>False) st r fun _ z=>z.elim
theorem KL.here (k:KL K F H d Q) (q:Same F H) (r:Rep K F d v):Q v H:=k v H F (Step.refl q) r
theorem KB.to (k:KB K F H d Q):KL K F H d Q:=fun v H' F' st r=>k v H' F' st (RepB.of st.fh r)
theorem KL.to (U:t.d=some d) (k:KL K F H d Q):KO K F H t Q:=fun v H' F' S st o q=>by
 refine k v H' (oj F' H' S) ⟨st.hh,st.ff.trans (lx fun b z=>(q b z).1),pT st.fh,fun b u z=>?_⟩ (o.freeze (fun b z=>(q b z).1) U);by_cases O:S b
 . exact .inr (.inl (q b O).2.1)
 . rw [fg O] at z;exact st.nw b u z
theorem KB.toO (q:t.d=some d) (k:KB K F H d Q):KO K F H t Q:=fun v H' F' S st o O=>k v H' F' st (o.repB st.fh q)
end
def tO (K:xA9) (f:De->Option T):TE:=fun σ H Q=>∃ Φ δ F t,Fm.K Φ=K/\En Φ δ σ F H/\f δ=some t/\KO K F H t Q
def tL (K:xA9) (f:De->Option Dt):TE:=fun σ H Q=>∃ Φ δ F d,Fm.K Φ=K/\En Φ δ σ F H/\f δ=some d/\KL K F H d Q
def tBd (K:xA9) (f:De->Option Dt):TE:=fun σ H Q=>∃ Φ δ F d,Fm.K Φ=K/\En Φ δ σ F H/\f δ=some d/\KB K F H d Q
def tTr (K:xA9) (f:De->Option Bool):TT:=fun σ H Q=>∃ Φ δ F b,Fm.K Φ=K/\En Φ δ σ F H/\f δ=some b/\∀ H' F',Step F H F' H'->Q b H'
def DO (X:Cx) (e:Expr) (f:De->Option T):Prop:=PE X e (tO X.K f)
def DL (X:Cx) (e:Expr) (f:De->Option Dt):Prop:=PE X e (tL X.K f)
def DB (X:Cx) (e:Expr) (f:De->Option Dt):Prop:=PE X e (tBd X.K f)
def DT (X:Cx) (e:Expr) (f:De->Option Bool):Prop:=PT X e (tTr X.K f)
def DW (X:Cx) (e:Expr) (f:De->Option Bool):Prop:=PW X e (tTr X.K f)
variable {X:Cx} {e:Expr} {t':TE}
theorem PE.mono {t:TE} (h:PE X e t) (m:∀ σ H Q,t' σ H Q->t σ H Q):PE X e t':=fun pins s σ H Q I q=>h pins s σ H Q I (m _ _ _ q)
theorem PT.mono {t t':TT} (h:PT X e t) (m:∀ σ H Q,t' σ H Q->t σ H Q):PT X e t':=fun pins s σ H Q I q=>h pins s σ H Q I (m _ _ _ q)
theorem PW.mono {t t':TT} (h:PW X e t) (m:∀ σ H Q,t' σ H Q->t σ H Q):PW X e t':=fun O pins s σ H Q I q=>h O pins s σ H Q I (m _ _ _ q)
theorem PA.mono {e:List Expr} {t t':TA} (h:PA X e t) (m:∀ σ H Q,t' σ H Q->t σ H Q):PA X e t':=fun pos pins s σ H Q I q=>h pos pins s σ H Q I (m _ _ _ q)
variable {tg:Expr}
theorem PI.mono {t t':TI} (h:PI X tg e t) (m:∀ σ H Q,t' σ H Q->t σ H Q):PI X tg e t':=fun pins s σ H Q I q=>h pins s σ H Q I (m _ _ _ q)
theorem PG.mono {t t':TG} (h:PG X e t) (m:∀ v σ H Q,t' v σ H Q->t v σ H Q):PG X e t':=fun pins s σ H v u Q I r q=>h pins s σ H v u Q I r (m _ _ _ _ q)
theorem PS.mono {e:Stmt} {t t':TS} (h:PS X e t) (m:∀ D σ H,t' D σ H->t D σ H):PS X e t':=fun pins s σ H Q I q=>h pins s σ H Q I (m _ _ _ q)
theorem PSs.mono {e:List Stmt} {t t':TS} (h:PSs X e t) (m:∀ D σ H,t' D σ H->t D σ H):PSs X e t':=fun pins s σ H Q I q=>h pins s σ H Q I (m _ _ _ q)
theorem PE.or {t:TE} (h:PE X e t) (h':PE X e t'):PE X e (fun σ H Q=>t σ H Q∨t' σ H Q):=fun pins s σ H Q I q=>q.elim (h pins s σ H Q I) (h' pins s σ H Q I)
theorem PI.or {t t':TI} (h:PI X tg e t) (h':PI X tg e t'):PI X tg e (fun σ H Q=>t σ H Q∨t' σ H Q):=fun pins s σ H Q I q=>q.elim (h pins s σ H Q I) (h' pins s σ H Q I)
variable {x:Str} {r:R2} {σ:St} {H:Hp} {Q:VK} {vs:List V} {n:Nat} {ds:List Dt} {ps:List Str}
section
variable {X:Cx} {e a b c:Expr} {f:De->Option T} {g fa fb fc:De->Option Dt} {pos:Pos}
def toD (f:De->Option T):De->Option Dt:=fun δ=>(f δ).bind T.d
def toT (f:De->Option Dt):De->Option T:=fun δ=>(f δ).map T.leaf
theorem DO.toL (h:DO X e f):DL X e (toD f):=PE.mono h fun σ H Q ⟨Φ,δ,F,d,q,U,O,k⟩=>by obtain ⟨t,W,Y⟩:=bS O;exact ⟨Φ,δ,F,t,q,U,W,KL.to Y k⟩
theorem DO.toB (h:DO X e f):DB X e (toD f):=PE.mono h fun σ H Q ⟨Φ,δ,F,d,q,U,O,k⟩=>by obtain ⟨t,W,Y⟩:=bS O;exact ⟨Φ,δ,F,t,q,U,W,KB.toO Y k⟩
theorem DL.toB (h:DL X e g):DB X e g:=PE.mono h fun σ H Q ⟨Φ,δ,F,d,q,U,O,k⟩=>⟨Φ,δ,F,d,q,U,O,k.to⟩
theorem DL.toO (h:DL X e g):DO X e (toT g):=PE.mono h fun σ H Q ⟨Φ,δ,F,t,U,W,q,k⟩=>by
 unfold toT at q;cases O:g δ with
 | none=>rw [O] at q;cases q
 | some d =>rw [O] at q;cases q;exact ⟨Φ,δ,F,d,U,W,O,k.leaf⟩
def vL (i:Nat):De->Option Dt:=fun δ=>match δ[i]? with
 | some (some (.leaf d))=>some d
 | _=>none
def vB (i:Nat):De->Option Dt:=fun δ=>match δ[i]? with
 | some (some t)=>t.d
 | _=>none
theorem ap (h:PE X e (f9 i)):DL X e (vL i):=PE.mono h fun σ H Q ⟨Φ,δ,F,d,W,U,O,k⟩=>by
 unfold vL at O;split at O
 . rename_i q;cases O;obtain ⟨v,h1,h2⟩:=U.leaf q;exact ⟨v,h1,k.here U.fh (W▸h2)⟩
 . cases O
theorem ae (h:PE X e (f9 i)):DB X e (vB i):=PE.mono h fun σ H Q ⟨Φ,δ,F,d,W,U,O,k⟩=>by
 unfold vB at O;split at O
 . rename_i q;obtain ⟨v,h1,h2⟩:=U.slot q O;exact ⟨v,h1,k v H F (Step.refl U.fh) (W▸h2)⟩
 . cases O
def kD (d:Dt):De->Option Dt:=fun _=>some d
theorem tI {d:Dt} (h:PE X e (tC v)) (r:∀ F,Rep X.K F d v):DL X e (kD d):=PE.mono h fun σ H Q ⟨Φ,δ,F,d',U,O,q,k⟩=>by cases q;exact k.here O.fh (r F)
theorem ag {i:Int} {j}:DL X (.Constant (.int i) j pos) (kD (.int i)):=tI yG fun F=>by simp only [Rep]
theorem eN {i:Bool} {j}:DL X (.Constant (.bool i) j pos) (kD (.bl i)):=tI Bk fun F=>by simp only [Rep]
theorem gm {j}:DL X (.Constant .none j pos) (kD .non):=tI yH fun F=>by simp only [Rep]
theorem aU {j}:DL X (.Constant (.str x) j pos) (kD (.str x)):=tI yI fun F=>by simp only [Rep]
def R2D (K:xA9) (r:R2) (g:Dt->Dt->Option T):Prop:=∀ F H x y vx vy (Q:VK) t,Same F H->RepB K F H x vx->RepB K F H y vy->g x y=some t->KO K F H t Q->r vx vy H Q
def d2 (g:Dt->Dt->Option T) (fa fb:De->Option Dt):De->Option T:=fun δ=>(fa δ).bind fun x=>(fb δ).bind fun y=>g x y
theorem ko {g:Dt->Dt->Option T} (hr:R2D K r g) (h:tO K (d2 g fa fb) σ H Q):tOp r (tBd K fa) (tBd K fb) σ H Q:=by obtain ⟨Φ,δ,F,t,W,Y,O,k⟩:=h;unfold d2 at O;obtain ⟨x,hx,O⟩:=bS O;obtain ⟨y,Z,O⟩:=bS O;exact ⟨Φ,δ,F,x,W,Y,hx,fun v H1 F1 st rv=>⟨Φ,δ,F1,y,W,Y.step st,Z,fun v2 H2 F2 q U=>hr F2 H2 x y v v2 Q t q.fh (rv.step q.ff q.hh) U O (k.step (st.trans q))⟩⟩
theorem au {q:Operator} {g:Dt->Dt->Option T} (O:OpR X (qk1 q) r) (U:R2D X.K r g) (W:DB X a fa) (Y:DB X b fb):DO X (.BinOp a q b pos) (d2 g fa fb):=PE.mono (Bu O W Y) fun σ H Q h=>ko U h
theorem fj {q:CmpOp} {g:Dt->Dt->Option T} (O:OpR X (qg4 q) r) (U:R2D X.K r g) (W:DB X a fa) (Y:DB X b fb) (Z:qk5 q b=false):DO X (.Compare a [q] [b] pos) (d2 g fa fb):=PE.mono (vS O W Y Z) fun σ H Q h=>ko U h
def asB:T->Option Bool
 | .leaf (.bl b)=>some b
 | _=>none
def tB2 (g:Dt->Dt->Option T) (fa fb:De->Option Dt):De->Option Bool:=fun δ=>(d2 g fa fb δ).bind asB
theorem pU {F:Hp} {t:T} {S:Addr->Prop} {b:Bool} (h:asB t=some b) (o:Own K F H t v S):v=.bl b:=by
 unfold asB at h;split at h
 . cases h;have o:Rep K F (.bl b) v:=o;simp only [Rep] at o;exact o
 . cases h
theorem aS {O:CmpOp} {g:Dt->Dt->Option T} (U:OpR X (qg4 O) r) (hr:R2D X.K r g) (W:DB X a fa) (hb:DB X b fb) (hm:qk5 O b=false):DT X (.Compare a [O] [b] pos) (tB2 g fa fb):=PT.mono (lj U W hb hm) fun σ H Q ⟨Φ,δ,F,t,Y,Z,q,k⟩=>by unfold tB2 at q;obtain ⟨z,hz,q⟩:=bS q;refine ko hr ⟨Φ,δ,F,z,Y,Z,hz,fun v H' F' S st o hs=>?_⟩;exact ⟨t,pU q o,k H' F' st⟩
def mK:Dt->Option Bool
 | .non=>some false
 | .bl b=>some b
 | .int i=>some (i != 0)
 | .str x=>if x.length<=qb0 then some ((x.length:Int) != 0) else none
 | .tup l=>some (!l.isEmpty)
 | .lst l=>some (!l.isEmpty)
 | _=>none
def dN (f:De->Option Dt):De->Option Bool:=fun δ=>(f δ).bind mK
theorem gM {F:Hp} {l:List Dt} (h:Reps K F l vs):l.isEmpty=vs.isEmpty:=by
 cases l with
 | nil=>unfold Reps at h;rw [h];rfl
 | cons d l=>unfold Reps at h;obtain ⟨v,q,rfl,_⟩:=h;rfl
theorem wm {F:Hp} {d:Dt} {b:Bool} (O:Same F H) (h:RepB K F H d v) (q:mK d=some b):zd K v H b:=by
 cases d with
 | non=>cases h;cases q;rfl
 | bl x=>cases h;cases q;rfl
 | int x=>cases h;cases q;rfl
 | str x =>
  cases h;simp only [mK] at q;split at q
  . cases q;exact ⟨by assumption,rfl⟩
  . cases q
 | tup l =>obtain ⟨a,vs,rfl,h1,h2⟩:=h;cases q;exact .inr (.inl ⟨vs,O.tup h1,by rw [gM h2]⟩)
 | lst l =>obtain ⟨a,vs,rfl,h1,h2⟩:=h;cases q;exact .inl ⟨vs,h1,by rw [gM h2]⟩
 | dct ks l=>cases q
 | dcT ks l=>cases q
theorem cT (U:DB X a fa) (W:∀ q,isTrue a X.env q=(do let v <- q;standAt a.pos;zd6 [v] (truthy v))):DT X a (dN fa):=PT.mono (sJ U W) fun σ H Q ⟨Φ,δ,F,b,Y,Z,O,k⟩=>by unfold dN at O;obtain ⟨d,hd,O⟩:=bS O;exact ⟨Φ,δ,F,d,Y,Z,hd,fun v H' F' st r=>⟨b,wm st.fh r O,k H' F' st⟩⟩
def iS (f:De->Option Bool):De->Option Bool:=fun δ=>(f δ).map (!·)
def dl (f g:De->Option Bool):De->Option Bool:=fun δ=>(f δ).bind fun b=>if b then g δ else some false
def fOr (f g:De->Option Bool):De->Option Bool:=fun δ=>(f δ).bind fun b=>if b then some true else g δ
variable {ta tb tc:De->Option Bool} {rest:List Expr}
theorem ir (h:DT X a ta):DT X (.UnaryOp .Not a pos) (iS ta):=PT.mono (yL h) fun σ H Q ⟨Φ,δ,F,b,U,W,O,k⟩=>by
 unfold iS at O;cases q:ta δ with
 | none=>rw [q] at O;cases O
 | some c =>rw [q] at O;cases O;exact ⟨Φ,δ,F,c,U,W,q,fun H' F' st=>k H' F' st⟩
theorem cU (h:DT X a ta):DW X (.BoolOp .And [a] pos) ta:=vM h
theorem jn (h:DT X a ta):DW X (.BoolOp .Or [a] pos) ta:=yJ h
theorem cV (h:DT X a ta) (h':DW X (.BoolOp .And (b::rest) pos) tb):DW X (.BoolOp .And (a::b::rest) pos) (dl ta tb):=PW.mono (yK h h') fun σ H Q ⟨Φ,δ,F,t,U,W,O,k⟩=>by
 unfold dl at O;obtain ⟨c,Y,O⟩:=bS O;refine ⟨Φ,δ,F,c,U,W,Y,fun H' F' st=>?_⟩;split at O
 . rename_i q;rw [if_pos q];exact ⟨Φ,δ,F',t,U,W.step st,O,fun H2 F2 Z=>k H2 F2 (st.trans Z)⟩
 . rename_i q;rw [if_neg q];cases O;exact k H' F' st
theorem jo (h:DT X a ta) (h':DW X (.BoolOp .Or (b::rest) pos) tb):DW X (.BoolOp .Or (a::b::rest) pos) (fOr ta tb):=PW.mono (Bl h h') fun σ H Q ⟨Φ,δ,F,t,U,W,O,k⟩=>by
 unfold fOr at O;obtain ⟨c,Y,O⟩:=bS O;refine ⟨Φ,δ,F,c,U,W,Y,fun H' F' st=>?_⟩;split at O
 . rename_i q;rw [if_pos q];cases O;exact k H' F' st
 . rename_i q;rw [if_neg q];exact ⟨Φ,δ,F',t,U,W.step st,O,fun H2 F2 Z=>k H2 F2 (st.trans Z)⟩
theorem DW.t (h:DW X a ta):DT X a ta:=h.pt
def ly:Dt->Option Bool
 | .bl b=>some b
 | _=>none
def zH (f:De->Option Dt):De->Option T:=fun δ=>(f δ).bind fun x=>(ly x).map fun b=>.leaf (.bl (!b))
def lz (f:De->Option Dt) (g:De->Option T):De->Option T:=fun δ=>(f δ).bind fun x=>(ly x).bind fun b=>if b then g δ else some (.leaf (.bl false))
def vOr (f:De->Option Dt) (g:De->Option T):De->Option T:=fun δ=>(f δ).bind fun x=>(ly x).bind fun b=>if b then some (.leaf (.bl true)) else g δ
def vIf (c:De->Option Bool) (f g:De->Option T):De->Option T:=fun δ=>(c δ).bind fun b=>if b then f δ else g δ
theorem lB {F:Hp} {x:Dt} {b:Bool} (h:ly x=some b) (r:RepB K F H x v):v=.bl b:=by
 unfold ly at h;split at h
 . cases h;exact r
 . cases h
theorem lC {F:Hp} {b:Bool}:Rep K F (.bl b) (.bl b):=by simp only [Rep]
theorem fN {F:Hp} {b:Int}:Rep K F (.int b) (.int b):=by simp only [Rep]
theorem gO {F:Hp} {b:Str}:Rep K F (.str b) (.str b):=by simp only [Rep]
theorem gT {F:Hp}:Rep K F .non .non:=by simp only [Rep]
variable {oa ob:De->Option T}
theorem zI (h:DB X a fa):DO X (.UnaryOp .Not a pos) (zH fa):=PE.mono (yO h) fun σ H Q ⟨Φ,δ,F,t,W,Y,O,k⟩=>by
 unfold zH at O;obtain ⟨x,U,O⟩:=bS O;cases q:ly x with
 | none=>rw [q] at O;cases O
 | some b =>rw [q] at O;cases O;exact ⟨Φ,δ,F,x,W,Y,U,fun v H' F' st r=>⟨b,lB q r,(k.step st).leaf.here st.fh lC⟩⟩
theorem lD {op} (h:DO X a oa):DO X (.BoolOp op [a] pos) oa:=yM h
theorem om (h:DB X a fa) (h':DO X (.BoolOp .And (b::rest) pos) ob):DO X (.BoolOp .And (a::b::rest) pos) (lz fa ob):=PE.mono (yN h h') fun σ H Q ⟨Φ,δ,F,t,U,W,O,k⟩=>by
 unfold lz at O;obtain ⟨x,Y,O⟩:=bS O;obtain ⟨b,Z,O⟩:=bS O;refine ⟨Φ,δ,F,x,U,W,Y,fun v H' F' st r=>⟨b,lB Z r,?_⟩⟩;split at O
 . rename_i q;rw [if_pos q];exact ⟨Φ,δ,F',t,U,W.step st,O,k.step st⟩
 . rename_i q;rw [if_neg q];cases O;exact (k.step st).leaf.here st.fh lC
theorem BM (h:DB X a fa) (h':DO X (.BoolOp .Or (b::rest) pos) ob):DO X (.BoolOp .Or (a::b::rest) pos) (vOr fa ob):=PE.mono (Bo h h') fun σ H Q ⟨Φ,δ,F,t,U,W,O,k⟩=>by
 unfold vOr at O;obtain ⟨x,Y,O⟩:=bS O;obtain ⟨b,Z,O⟩:=bS O;refine ⟨Φ,δ,F,x,U,W,Y,fun v H' F' st r=>⟨b,lB Z r,?_⟩⟩;split at O
 . rename_i q;rw [if_pos q];cases O;exact (k.step st).leaf.here st.fh lC
 . rename_i q;rw [if_neg q];exact ⟨Φ,δ,F',t,U,W.step st,O,k.step st⟩
theorem xR (Z:DT X c tc) (h:DO X a oa) (h':DO X b ob):DO X (.IfExp c a b pos) (vIf tc oa ob):=PE.mono (sy Z h h') fun σ H Q ⟨Φ,δ,F,t,U,W,O,k⟩=>by
 unfold vIf at O;obtain ⟨x,Y,O⟩:=bS O;refine ⟨Φ,δ,F,x,U,W,Y,fun H' F' st=>?_⟩;split at O
 . rename_i q;rw [if_pos q];exact ⟨Φ,δ,F',t,U,W.step st,O,k.step st⟩
 . rename_i q;rw [if_neg q];exact ⟨Φ,δ,F',t,U,W.step st,O,k.step st⟩
def RepBs (K:xA9) (F H:Hp):List Dt->List V->Prop
 | [],vs=>vs=[]
 | d::l,vs=>∃ v q,vs=v::q/\RepB K F H d v/\RepBs K F H l q
def tAL (K:xA9) (f:De->Option (List Dt)):TA:=fun σ H Q=>∃ Φ δ F ds,Fm.K Φ=K/\En Φ δ σ F H/\f δ=some ds/\∀ vs H' F',Step F H F' H'->Reps K F' ds vs->Q vs H'
def tAB (K:xA9) (f:De->Option (List Dt)):TA:=fun σ H Q=>∃ Φ δ F ds,Fm.K Φ=K/\En Φ δ σ F H/\f δ=some ds/\∀ vs H' F',Step F H F' H'->RepBs K F' H' ds vs->Q vs H'
structure DA (X:Cx) (es:List Expr) (f:De->Option (List Dt)):Prop where
 len:∀ δ ds,f δ=some ds->ds.length=es.length
 pa:PA X es (tAL X.K f)
structure DAB (X:Cx) (es:List Expr) (f:De->Option (List Dt)):Prop where
 len:∀ δ ds,f δ=some ds->ds.length=es.length
 pa:PA X es (tAB X.K f)
def ak:De->Option (List Dt):=fun _=>some []
def aa (f:De->Option Dt) (g:De->Option (List Dt)):De->Option (List Dt):=fun δ=>(f δ).bind fun d=>(g δ).bind fun ds=>some (d::ds)
variable {es:List Expr} {fs:De->Option (List Dt)}
theorem kt {f:De->Option Dt} (h:∀ δ ds,fs δ=some ds->ds.length=n):∀ δ ds,aa f fs δ=some ds->ds.length=n+1:=fun δ ds q=>by unfold aa at q;obtain ⟨x,U,q⟩:=bS q;obtain ⟨y,O,q⟩:=bS q;cases q;simp [h δ y O]
theorem ai:DA X [] ak:=⟨fun _ _ h=>by cases h;rfl,PA.mono eT fun σ H Q ⟨Φ,δ,F,ds,U,O,q,k⟩=>by cases q;exact k [] H F (Step.refl O.fh) (by simp only [Reps])⟩
theorem aJ:DAB X [] ak:=⟨fun _ _ h=>by cases h;rfl,PA.mono eT fun σ H Q ⟨Φ,δ,F,ds,U,O,q,k⟩=>by cases q;exact k [] H F (Step.refl O.fh) rfl⟩
theorem ab (h:DL X e g) (h':DA X es fs) (Y:qa6 (e::es) X.env=(false,eval e X.env)::qa6 es X.env:=by rfl):DA X (e::es) (aa g fs):=⟨kt h'.len,PA.mono (cS h h'.pa Y) fun σ H Q ⟨Φ,δ,F,ds,U,W,q,k⟩=>by unfold aa at q;obtain ⟨x,Z,q⟩:=bS q;obtain ⟨y,hy,q⟩:=bS q;cases q;exact ⟨Φ,δ,F,x,U,W,Z,fun v H1 F1 st r=>⟨Φ,δ,F1,y,U,W.step st,hy,fun vs H2 F2 O r2=>k (v::vs) H2 F2 (st.trans O) (by simp only [Reps];exact ⟨v,vs,rfl,r.same O.ff,r2⟩)⟩⟩⟩
theorem aw (h:DB X e g) (h':DAB X es fs) (Y:qa6 (e::es) X.env=(false,eval e X.env)::qa6 es X.env:=by rfl):DAB X (e::es) (aa g fs):=⟨kt h'.len,PA.mono (cS h h'.pa Y) fun σ H Q ⟨Φ,δ,F,ds,U,W,q,k⟩=>by unfold aa at q;obtain ⟨x,Z,q⟩:=bS q;obtain ⟨y,hy,q⟩:=bS q;cases q;exact ⟨Φ,δ,F,x,U,W,Z,fun v H1 F1 st r=>⟨Φ,δ,F1,y,U,W.step st,hy,fun vs H2 F2 O r2=>k (v::vs) H2 F2 (st.trans O) ⟨v,vs,rfl,r.step O.ff O.hh,r2⟩⟩⟩⟩
def bG (f:De->Option (List Dt)):De->Option T:=fun δ=>(f δ).bind fun ds=>if ds.length<=qb0 then some (.leaf (.tup ds)) else none
def bL (f:De->Option (List Dt)):De->Option T:=fun δ=>(f δ).bind fun ds=>if ds.length<=qb0 then some (.lst ds) else none
theorem aY {x1} (h:DA X es fs):DO X (.Tuple es x1 pos) (bG fs):=PE.mono (zf h.pa) fun σ H Q ⟨Φ,δ,F,t,O,U,q,k⟩=>by
 unfold bG at q;obtain ⟨ds,Y,q⟩:=bS q;split at q
 . rename_i W;cases q;refine ⟨Φ,δ,F,ds,O,U,Y,fun vs H1 F1 st r=>⟨by rw [r.length];exact W,fun p hp=>?_⟩⟩;refine (k.step st).leaf _ _ _ (Step.new st.fh hp) ?_;simp only [Rep];exact ⟨p,vs,rfl,SqT.of aQ,r.same (Same.upd (st.fh.free hp))⟩
 . cases q
theorem dq {F:Hp} (k:KO K F H (.lst ds) Q) (q:Same F H) (r:Reps K F ds vs) (hp:H p=none):Q (.ref p) (upd H p (.lst vs)):=by
 refine k _ _ F (fun b=>b=p) (Step.made q hp) ⟨p,vs,rfl,rfl,aQ,r⟩ fun b z=>?_
 subst z;exact ⟨q.free hp,hp,_,aQ,nofun⟩
theorem bh (h:DA X es fs):DO X (.List es pos) (bL fs):=PE.mono (zg h.pa) fun σ H Q ⟨Φ,δ,F,t,O,U,q,k⟩=>by
 unfold bL at q;obtain ⟨ds,Y,q⟩:=bS q;split at q
 . rename_i W;cases q;exact ⟨Φ,δ,F,ds,O,U,Y,fun vs H1 F1 st r=>⟨by rw [r.length];exact W,fun p hp=>dq (k.step st) st.fh r hp⟩⟩
 . cases q
def CRD (K:xA9) (r:List V->Hp->VK->Prop) (g:List Dt->Option T):Prop:=∀ F H ds vs (Q:VK) t,Same F H->RepBs K F H ds vs->g ds=some t->KO K F H t Q->r vs H Q
def ao (g:List Dt->Option T) (f:De->Option (List Dt)):De->Option T:=fun δ=>(f δ).bind g
theorem tJ {r:List V->Hp->VK->Prop} {g:List Dt->Option T} (W:CRD K r g) (h:tO K (ao g fs) σ H Q):tCB r (tAB K fs) σ H Q:=by obtain ⟨Φ,δ,F,t,O,U,q,k⟩:=h;unfold ao at q;obtain ⟨ds,Y,q⟩:=bS q;exact ⟨Φ,δ,F,ds,O,U,Y,fun vs H1 F1 st r=>W F1 H1 ds vs Q t st.fh r q (k.step st)⟩
variable {x:Str} {p:Pos} {id Ty:String} {sc:Scope} {r:List V->Hp->VK->Prop} {gg:List Dt->Option T}
theorem aW (h:aE sc x=true) (W:cL X (.builtin id) r) (Z:CRD X.K r gg) (hm:X.mg x=none) (hv:qe2 x=some (.builtin id)) (Y:DAB X (e::es) fs) (e1:bV X sc:=by rfl)
  (U:qa6 (e::es) X.env=(false,eval e X.env)::qa6 es X.env:=by rfl) (O:(qk0 pos (qa6 es X.env)).any (·.1)=false:=by rfl):DO X (.Call (.Name x p) (e::es) [] pos) (ao gg fs):=
 PE.mono (iq h W hm hv Y.pa e1 U O) fun σ H Q q=>tJ Z q
theorem cW (h:aE sc x=true) (W:cL X (.type Ty) r) (Z:CRD X.K r gg) (hm:X.mg x=none) (hv:qe2 x=some (.type Ty)) (Y:DAB X (e::es) fs) (e1:bV X sc:=by rfl)
  (U:qa6 (e::es) X.env=(false,eval e X.env)::qa6 es X.env:=by rfl) (O:(qk0 pos (qa6 es X.env)).any (·.1)=false:=by rfl):DO X (.Call (.Name x p) (e::es) [] pos) (ao gg fs):=
 PE.mono (jm h W hm hv Y.pa e1 U O) fun σ H Q q=>tJ Z q
def spD (K:xA9) (n:Nat) (f:List Dt->Option T):Sp:=fun vs H Q _=>∃ F ds t,Same F H/\ds.length=n/\Reps K F ds vs/\f ds=some t/\KO K F H t Q
theorem ax {k:Nat} {O:List Dt->Option T} (h:aE sc x=true) (F:OkF X.prog X.w X.K X.mg X.base x k ps (spD X.K n O)) (hr:Room k X.A) (W:DA X (e::es) fs) (Z:(e::es).length=n:=by rfl) (e1:bV X sc:=by rfl)
 (he:qa6 (e::es) X.env=(false,eval e X.env)::qa6 es X.env:=by rfl) (U:(qk0 pos (qa6 es X.env)).any (·.1)=false:=by rfl):DO X (.Call (.Name x p) (e::es) [] pos) (ao O fs):=
 PE.mono (km h F hr W.pa e1 he U) fun σ H Q ⟨Φ,δ,Fz,t,hK,en,q,k⟩=>by unfold ao at q;obtain ⟨ds,Y,q⟩:=bS q;refine ⟨Φ,δ,Fz,ds,hK,en,Y,fun vs H1 F1 st r=>?_⟩;show spD X.K n O (vs++[]) H1 Q E0;rw [qi0];exact ⟨F1,ds,t,st.fh,(W.len δ ds Y).trans Z,r,q,k.step st⟩
end
inductive Out where
 | nx (δ:De) | rt (t:T) | bk (δ:De) | ct (δ:De)
structure Rt (Φ:Fm) (t:T) (v:V) (F H:Hp):Prop where
 fh:Same F H
 prot:∀ b o,Φ.H0 b=some o->¬ Φ.S0 b->H b=some o
 old:Same Φ.F0 F
 nw:∀ b o,F b=some o->Φ.F0 b=some o∨Φ.B b∨∃ vs,Φ.H0 b=some (.tup vs)
 own:∃ S,Own Φ.K F H t v S/\∀ b,S b->F b=none/\(∃ o,H b=some o/\NT o)/\Φ.B b
def Post (Φ:Fm) (D:Ends):Out->Prop
 | .nx δ=>∀ σ F H,En Φ δ σ F H->D.nx σ H
 | .rt t=>∀ v F H,Rt Φ t v F H->D.rt v H
 | .bk δ=>∀ σ F H,En Φ δ σ F H->D.bk σ H
 | .ct δ=>∀ σ F H,En Φ δ σ F H->D.ct σ H
def tS (K:xA9) (g:De->Option Out):TS:=fun D σ H=>∃ Φ δ F o,Fm.K Φ=K/\En Φ δ σ F H/\g δ=some o/\Post Φ D o
def DS1 (X:Cx) (st:Stmt) (g:De->Option Out):Prop:=PS X st (tS X.K g)
def DS (X:Cx) (ss:List Stmt) (g:De->Option Out):Prop:=PSs X ss (tS X.K g)
variable {Φ:Fm} {δ:De} {F' H':Hp} {N:List Str} {D:Ends} {es:List Expr} {ts:List Nat} {bb:Dt->De->Option De} {J:It} {xs:List V}
section
variable {X:Cx} {st:Stmt} {rest a b body:List Stmt} {g g1 g2:De->Option Out} {e c tg iter:Expr} {pos:Pos} {f:De->Option T} {fd:De->Option Dt} {tc:De->Option Bool} {i:Nat}
def bZ:De->Option Out:=fun δ=>some (.nx δ)
def aA (g1 g2:De->Option Out):De->Option Out:=fun δ=>(g1 δ).bind fun o=>match o with
 | .nx q=>g2 q
 | o=>some o
theorem bo:DS X [] bZ:=PSs.mono vN fun D σ H ⟨Φ,δ,F,o,U,q,O,k⟩=>by cases O;exact k σ F H q
theorem av (h:DS1 X st g):DS X [st] g:=vO h
theorem ah (h1:DS1 X st g1) (h2:DS X rest g2):DS X (st::rest) (aA g1 g2):=PSs.mono (gB h1 h2) fun D σ H ⟨Φ,δ,F,o,Y,en,O,k⟩=>by
 unfold aA at O;obtain ⟨W,h1,O⟩:=bS O;refine ⟨Φ,δ,F,W,Y,en,h1,?_⟩;cases W with
 | nx q=>exact fun Z F' H' U=>⟨Φ,q,F',o,Y,U,O,k⟩
 | rt t=>cases O;exact k
 | bk q=>cases O;exact k
 | ct q=>cases O;exact k
def bq (f:De->Option T):De->Option Out:=fun δ=>(f δ).map .rt
theorem En.rt {F:Hp} {t:T} {S:Addr->Prop} (U:En Φ δ σ F H) (st:Step F H F' H') (o:Own Φ.K F' H' t v S) (O:∀ b,S b->F' b=none/\H b=none/\∃ o,H' b=some o/\NT o):Rt Φ t v F' H':=by have q:=U.step st;exact ⟨q.fh,q.prot,q.old,q.nw,S,o,fun b z=>⟨(O b z).1,(O b z).2.2,U.fresh (O b z).2.1⟩⟩
theorem aI (h:DO X e f):DS1 X (.Return (some e) pos) (bq f):=PS.mono (sB h) fun D σ H ⟨Φ,δ,F,o,O,U,q,k⟩=>by unfold bq at q;obtain ⟨t,Y,q⟩:=mS q;cases q;exact ⟨Φ,δ,F,t,O,U,Y,fun v H' F' S st o W=>k v F' H' (U.rt st (O▸o) W)⟩
def ku (i:Nat):De->Option Out:=fun δ=>match δ[i]? with
 | some (some t)=>some (.rt t)
 | _=>none
theorem i5 (h:PE X e (f9 i)):DS1 X (.Return (some e) pos) (ku i):=PS.mono (sB h) fun D σ H ⟨Φ,δ,F,o,Y,O,U,k⟩=>by
 unfold ku at U;split at U
 . rename_i t q;cases U;obtain ⟨v,W⟩:=O.has i t q;obtain ⟨S,s⟩:=O.sep;exact ⟨v,W,k v F H ⟨O.fh,O.prot,O.old,O.nw,S i,s.own i t v (bK q W),fun b z=>s.out i b z⟩⟩
 . cases U
def sIf (c:De->Option Bool) (g1 g2:De->Option Out):De->Option Out:=fun δ=>(c δ).bind fun b=>if b then g1 δ else g2 δ
theorem bz (Z:DT X c tc) (h1:DS X a g1) (h2:DS X b g2):DS1 X (.If c a b pos) (sIf tc g1 g2):=PS.mono (Br Z h1 h2) fun D σ H ⟨Φ,δ,F,o,U,W,O,k⟩=>by
 unfold sIf at O;obtain ⟨x,Y,O⟩:=bS O;refine ⟨Φ,δ,F,x,U,W,Y,fun H' F' st=>?_⟩;split at O
 . rename_i q;rw [if_pos q];exact ⟨Φ,δ,F',o,U,W.step st,O,k⟩
 . rename_i q;rw [if_neg q];exact ⟨Φ,δ,F',o,U,W.step st,O,k⟩
def aP (i:Nat) (f:De->Option T):De->Option Out:=fun δ=>(f δ).map fun t=>.nx (δ.set i (some t))
theorem tM {sc:Scope} {pos':Pos} (h:cu sc N i x=true) (hl:gl sc x=true) (Z:N.Nodup) (he:DO X e f) (e1:bV X sc:=by rfl) (e2:X.N=N:=by rfl) (hf:X.fn x=true∨X.env.scope.names.lookup x=some .local:=by exact .inl rfl)
 (O:qm0 e (some (.Name x pos')) pos.line X.env=pure false:=by rfl):DS1 X (.Assign [.Name x pos'] e pos) (aP i f):=PS.mono (lw h hl Z he e1 e2 hf O) fun D σ H ⟨Φ,δ,F,o,U,W,q,k⟩=>by
 unfold aP at q;obtain ⟨t,Y,q⟩:=mS q;cases q;exact ⟨Φ,δ,F,t,U,W,Y,fun v H' F' S st o O=>k _ F' H' (W.put st (U▸o) O i)⟩
def rn (i:Nat) (g:De->Option Out):De->Option Out:=fun δ=>match δ[i]? with
 | some (some t)=>t.d.bind fun d=>g (δ.set i (some (.leaf d)))
 | _=>none
theorem zJ (h:tS K (rn i g) D σ H):tS K g D σ H:=by
 obtain ⟨Φ,δ,F,o,W,Y,O,k⟩:=h;unfold rn at O;split at O
 . rename_i t q;obtain ⟨d,Z,O⟩:=bS O;obtain ⟨F',U⟩:=Y.freeze q Z;exact ⟨Φ,_,F',o,W,U,O,k⟩
 . cases O
theorem pV (h:DS1 X st g):DS1 X st (rn i g):=PS.mono h fun D σ H q=>zJ q
noncomputable def gD (K:xA9) (ts:List Nat) (st:Dt->De->Option De):TG:=fun v σ H Q=>∃ Φ δ F d O,Fm.K Φ=K/\En Φ δ σ F H/\Rep K F d v/\st d δ=some O/\∀ q,q.length=σ.length->(∀ j,j∉ts->q[j]?=σ[j]?)->En Φ O q F H->Q q H
noncomputable def gsD (K:xA9) (ts:List Nat) (st:List Dt->De->Option De):TGs:=fun vs σ H Q=>∃ Φ δ F ds O,Fm.K Φ=K/\En Φ δ σ F H/\Reps K F ds vs/\st ds δ=some O/\∀ q,q.length=σ.length->(∀ j,j∉ts->q[j]?=σ[j]?)->En Φ O q F H->Q q H
def DG (X:Cx) (tg:Expr) (ts:List Nat) (bb:Dt->De->Option De):Prop:=PG X tg (gD X.K ts bb)
def DGs (X:Cx) (tg:List Expr) (ts:List Nat) (bb:List Dt->De->Option De):Prop:=PGs X tg (gsD X.K ts bb)
def ay (i:Nat):Dt->De->Option De:=fun d δ=>some (δ.set i (some (.leaf d)))
theorem En.name {F:Hp} (q:En Φ δ σ F H) {d:Dt} (r:Rep Φ.K F d v) (i:Nat):En Φ (δ.set i (some (.leaf d))) (σ.set i (some v)) F H:=q.put (Step.refl q.fh) (S':=fun _=>False) (t:=.leaf d) r (fun _ z=>z.elim) i
theorem aG (h:PG X tg (jb i)):DG X tg [i] (ay i):=PG.mono h fun v σ H Q ⟨Φ,δ,F,d,q,U,W,r,Y,k⟩=>by cases Y;refine k _ (by simp) (fun j O=>?_) (W.name (U▸r) i);rw [List.getElem?_set_ne fun z=>O (by simp [z])]
def gn:List Dt->De->Option De:=fun ds δ=>if ds.isEmpty then some δ else none
def br (b:Dt->De->Option De) (bs:List Dt->De->Option De):List Dt->De->Option De:=fun ds δ=>match ds with
 | d::r=>(b d δ).bind fun δ1=>bs r δ1
 | []=>none
def j0 (n:Nat) (bs:List Dt->De->Option De):Dt->De->Option De:=fun d δ=>match d with
 | .tup ds=>if ds.length=n then bs ds δ else none
 | _=>none
theorem eC:DGs X [] [] gn:=fun pins s σ H vs us Q I r q=>vP pins s σ H vs us Q I r (by
 obtain ⟨Φ,δ,F,ds,W,Z,Y,U,O,k⟩:=q;unfold gn at O;cases ds with
 | nil=>cases O;simp only [Reps] at U;exact ⟨U,k σ rfl (fun _ _=>rfl) Y⟩
 | cons d l=>cases O)
theorem aV {U:List Nat} {bs:List Dt->De->Option De} (h1:DG X e ts bb) (h2:DGs X es U bs)
 (hs:(qi4 (e::es) X.env).map (·.2)=zd5 e X.env::(qi4 es X.env).map (·.2):=by rfl):DGs X (e::es) (ts++U) (br bb bs):=fun pins s σ H vs us Q I r q=>sD h1 h2 hs pins s σ H vs us Q I r (by
 obtain ⟨Φ,δ,F,ds,δ',hK,en,rs,O,k⟩:=q;unfold br at O;cases ds with
 | nil=>cases O
 | cons d l =>simp only [Reps] at rs;obtain ⟨v,ws,e,r1,r2⟩:=rs;dsimp only at O;obtain ⟨δ1,hb,O⟩:=bS O;refine ⟨v,ws,e,Φ,δ,F,d,δ1,hK,en,r1,hb,fun σ1 l1 k1 Y=>⟨Φ,δ1,F,l,δ',hK,Y,r2,O,fun W l2 k2 Z=>k W (l2.trans l1) (fun j hj=>?_) Z⟩⟩;rw [k2 j fun z=>hj (qc5 _ z),k1 j fun z=>hj (qg2 _ z)])
theorem lE {k:Nat} {bs:List Dt->De->Option De} (hc:X.calm=true) (h:DGs X es ts bs)
 (Z:(qi4 es X.env).length=n:=by rfl) (W:(qi4 es X.env).findIdx? (·.1)=none:=by rfl):DG X (.Tuple es k pos) ts (j0 n bs):=PG.mono (yQ hc h Z W) fun v σ H Q ⟨Φ,δ,F,d,U,hK,Y,r,O,q⟩=>by
 unfold j0 at O;split at O
 . rename_i ds;split at O
   . rename_i hl;simp only [Rep] at r;obtain ⟨a,vs,e,h1,h2⟩:=r;exact ⟨a,vs,e,Y.fh.tup h1,by rw [h2.length];exact hl,Φ,δ,F,ds,U,hK,Y,h2,O,q⟩
   . cases O
 . cases O
def oo (fd:De->Option Dt) (bb:Dt->De->Option De):De->Option Out:=fun δ=>(fd δ).bind fun d=>(bb d δ).map .nx
theorem jp (he:DL X e fd) (q:DG X tg ts bb) (hs:zg6 [tg] e pos.line X.env=pure false:=by rfl) (hw:zg7 [tg] e X.env=pure none:=by rfl)
 (h1:(qi4 [tg] X.env).map (·.2)=[zd5 tg X.env]:=by rfl):DS1 X (.Assign [tg] e pos) (oo fd bb):=PS.mono (sE he q hs hw h1) fun D σ H ⟨Φ,δ,F,o,Y,Z,q,k⟩=>by
 unfold oo at q;obtain ⟨d,hd,q⟩:=bS q;obtain ⟨W,hb,q⟩:=mS q;cases q;exact ⟨Φ,δ,F,d,Y,Z,hd,fun v H' F' st r=>⟨Φ,δ,F',d,W,Y,Z.step st,r,hb,fun O _ _ U=>k O F' H' U⟩⟩
noncomputable def pW (K:xA9) (F':Hp) (J:It) (ds:List Dt) (ok:Hp->Prop):Prop:=∀ (i:Nat) (H F:Hp),ok H->Same F H->Same F' F->(i<ds.length->J.go i H)/\(i=ds.length->J.stop i H)/\∀ x H',i<ds.length->J.yld i H x H'->∃ d q,ds[i]?=some d/\Step F H q H'/\Rep K q d x
theorem Plain.walk {ok:Hp->Prop} (pl:Plain J xs ok) (r:Reps K F' ds xs):pW K F' J ds ok:=fun i H F q fh Z=>by
 obtain ⟨p1,p2,Y⟩:=pl i H q;have hl:=r.length;refine ⟨fun h=>p1 (by lia),fun h=>p2 (by lia),fun x H' hi U=>?_⟩;obtain ⟨rfl,W⟩:=Y x H' (by lia) U;have O:ds[i]?=some ds[i]:=by simp [hi]
 obtain ⟨v,e,rv⟩:=r.get O;rw [W] at e;cases e;exact ⟨_,F,O,Step.refl fh,rv.same Z⟩
def tIF (K:xA9) (f:De->Option (List Dt)):TI:=fun σ H R=>∃ Φ δ F ds,Fm.K Φ=K/\En Φ δ σ F H/\f δ=some ds/\∀ J ok H' F',Step F H F' H'->pW K F' J ds ok->(∀ H2,Same F' H2->ok H2)->R J H'
def tIB (K:xA9) (f:De->Option (List Dt)):TI:=fun σ H R=>∃ Φ δ F ds,Fm.K Φ=K/\En Φ δ σ F H/\f δ=some ds/\∀ J ok H' F',Step F H F' H'->pW K F' J ds ok->(∀ H2,Same H' H2->ok H2)->R J H'
def DIF (X:Cx) (tg iter:Expr) (f:De->Option (List Dt)):Prop:=PI X tg iter (tIF X.K f)
def DIB (X:Cx) (tg iter:Expr) (f:De->Option (List Dt)):Prop:=PI X tg iter (tIB X.K f)
theorem DIF.toB {fi:De->Option (List Dt)} (h:DIF X tg iter fi):DIB X tg iter fi:=PI.mono h fun σ H R ⟨Φ,δ,F,ds,O,W,U,k⟩=>⟨Φ,δ,F,ds,O,W,U,fun J ok H' F' st wd q=>k J ok H' F' st wd fun H2 s=>q H2 (st.fh.trans s)⟩
end
variable {F1 H1:Hp}
section
variable {X:Cx} {st:Stmt} {rest a b body:List Stmt} {g g1 g2:De->Option Out} {e c tg iter l:Expr} {pos:Pos} {f:De->Option T} {fd:De->Option Dt} {tc:De->Option Bool} {i:Nat} {fi:De->Option (List Dt)}
noncomputable def cC (bb:Dt->De->Option De) (g:De->Option Out):List Dt->De->Option Out
 | [],δ=>some (.nx δ)
 | d::r,δ=>(bb d δ).bind fun δ1=>(g δ1).bind fun o=>match o with
  | .nx q=>cC bb g r q
  | .ct q=>cC bb g r q
  | .bk q=>some (.nx q)
  | .rt t=>some (.rt t)
def d4 (fi:De->Option (List Dt)) (bb:Dt->De->Option De) (g:De->Option Out):De->Option Out:=fun δ=>(fi δ).bind fun ds=>cC bb g ds δ
theorem Reps.same_get {F:Hp} (r:Reps K F ds xs) {x:V} (h:xs[i]?=some x):∃ d,ds[i]?=some d/\Rep K F d x:=by
 have U:=r.length;have hi:i<xs.length:=(gX h).1;have q:ds[i]?=some ds[i]:=by simp [show i<ds.length by lia]
 obtain ⟨v,e,O⟩:=r.get q;rw [h] at e;cases e;exact ⟨_,q,O⟩
theorem pX {α:Type} {l:List α} {d:α} (h:l[i]?=some d):l.drop i=d::l.drop (i+1):=by have hi:i<l.length:=(gX h).1;rw [List.drop_eq_getElem_cons hi];congr 1;have:=(gX h).2;exact this
def Fm.at (Φ:Fm) (F1:Hp):Fm:={Φ with F0:=F1}
theorem En.back {δ':De} {q:St} {F:Hp} (O:En Φ δ σ F1 H1) (e:En (Φ.at F1) δ' q F H):En Φ δ' q F H:=⟨e.fh,e.prot,O.old.trans e.old,fun b o h=>(e.nw b o h).elim (fun z=>O.nw b o z) .inr,e.len,e.has,e.sep⟩
theorem Rt.back {F:Hp} {t:T} (q:En Φ δ σ F1 H1) (e:Rt (Φ.at F1) t v F H):Rt Φ t v F H:=⟨e.fh,e.prot,q.old.trans e.old,fun b o h=>(e.nw b o h).elim (fun z=>q.nw b o z) .inr,e.own⟩
theorem En.at (q:En Φ δ σ F1 H1):En (Φ.at F1) δ σ F1 H1:=⟨q.fh,q.prot,Same.refl _,fun b o h=>.inl h,q.len,q.has,q.sep⟩
theorem Post.at {o:Out} (U:En Φ δ σ F1 H1) (k:Post Φ D o):Post (Φ.at F1) D o:=by
 cases o with
 | nx O=>exact fun q F H e=>k q F H (U.back e)
 | bk O=>exact fun q F H e=>k q F H (U.back e)
 | ct O=>exact fun q F H e=>k q F H (U.back e)
 | rt t=>exact fun v F H e=>k v F H (Rt.back U e)
theorem tN {g:TG} {tb:TS} (Pv:Nat->St->Hp->Prop) (h0:Pv 0 σ H1) (O:∀ i σ H,Pv i σ H->(i<n->J.go i H)/\(i=n->J.stop i H))
 (W:∀ i x σ H H',i<n->Pv i σ H->J.yld i H x H'->g x σ H' fun U H2=>tb {D with nx:=Pv (i+1),ct:=Pv (i+1),bk:=D.nx} U H2) (hd:∀ σ H,Pv n σ H->D.nx σ H):ForW g tb D J σ H1:=by
 refine ⟨fun i m σ H=>m=n-i/\i<=n/\Pv i σ H,⟨n,by simp,qj2 _,h0⟩,?_⟩;rintro i m σ H ⟨rfl,hi,p⟩;obtain ⟨p1,p2⟩:=O i σ H p;by_cases q:i<n
 . exact .inr ⟨p1 q,Pv (i+1),fun Z H' Y=>⟨n-(i+1),by lia,rfl,q,Y⟩,fun x H' y=>W i x σ H H' q p y⟩
 . have e:i=n:=by lia
   subst e;exact .inl ⟨p2 rfl,hd σ H p⟩
theorem c8 (hp:zj1 (model X.prog X.w) X.A X.env X.xe) (hc:X.calm=true) (hi:DIF X tg iter fi) (hg:DG X tg ts bb) (hb:DS X body g)
 (hs:∀ x,qh6 iter X.env x=pure x:=by intro _;rfl):DS1 X (.For tg iter body [] pos) (d4 fi bb g):=PS.mono (yW hp hc hi hg hb hs) fun D σ H ⟨Φ,δ,F,o,hK,en,hg,k⟩=>by
 unfold d4 at hg;obtain ⟨ds,hd,hg⟩:=bS hg;rw [wg];refine ⟨Φ,δ,F,ds,hK,en,hd,fun J ok H1 F1 st1 wd ho=>?_⟩;have en1:=en.step st1;have k1:=Post.at en1 k;refine tN (n:=ds.length) (fun i Z H'=>∃ W F',En (Φ.at F1) W Z F' H'/\cC bb g (ds.drop i) W=some o) ⟨δ,F1,en1.at,by simpa using hg⟩ (fun i Z H' ⟨W,F',U,_⟩=>?_) ?_ ?_
 . obtain ⟨p1,p2,_⟩:=wd i H' F' (ho H' (U.old.trans U.fh)) U.fh U.old;exact ⟨p1,p2⟩
 . rintro i x Z H' H'' hi ⟨W,F',U,O⟩ hy;obtain ⟨_,_,p3⟩:=wd i H' F' (ho H' (U.old.trans U.fh)) U.fh U.old;obtain ⟨d,F2,hd',st2,rd⟩:=p3 x H'' hi hy;rw [pX hd'] at O;unfold cC at O;obtain ⟨δ1,h1,O⟩:=bS O;obtain ⟨o1,h2,O⟩:=bS O;refine ⟨Φ.at F1,W,F2,d,δ1,hK,U.step st2,rd,h1,fun σ1 _ _ en1=>⟨Φ.at F1,δ1,F2,o1,hK,en1,h2,?_⟩⟩;cases o1 with
   | nx δ2=>exact fun σ2 F2 H2 Y=>⟨δ2,F2,Y,O⟩
   | ct δ2=>exact fun σ2 F2 H2 Y=>⟨δ2,F2,Y,O⟩
   | bk δ2=>cases O;exact fun σ2 F2 H2 Y=>k1 σ2 F2 H2 Y
   | rt t=>cases O;exact fun v F2 H2 q=>k1 v F2 H2 q
 . rintro Z H' ⟨W,F',U,O⟩;rw [List.drop_length] at O;cases O;exact k1 Z F' H' U
noncomputable def bt (c:De->Option Bool) (g:De->Option Out):Nat->De->Option Out
 | 0,_=>none
 | n+1,δ=>(c δ).bind fun b=>if b then (g δ).bind fun o=>match o with
  | .nx q=>bt c g n q
  | .ct q=>bt c g n q
  | .bk q=>some (.nx q)
  | .rt t=>some (.rt t)
 else some (.nx δ)
theorem fm (n:Nat) (hp:zj1 (model X.prog X.w) X.A X.env X.xe) (hc:DT X c tc) (hb:DS X body g):DS1 X (.While c body [] pos) (bt tc g n):=PS.mono (sF hp hc hb) fun D σ H ⟨Φ,δ,F,o,hK,en,hg,k⟩=>by
 refine ⟨fun m σ' H'=>∃ Z F',En Φ Z σ' F' H'/\bt tc g m Z=some o,⟨n,δ,F,en,hg⟩,?_⟩;rintro m σ' H' ⟨Z,F',en',O⟩;cases m with
 | zero=>cases O
 | succ m =>
  unfold bt at O;obtain ⟨x,hx,O⟩:=bS O;refine ⟨Φ,Z,F',x,hK,en',hx,fun H1 F1 st=>?_⟩;split at O
  . rename_i q;rw [if_pos q];obtain ⟨o1,h2,O⟩:=bS O;refine ⟨fun W H2=>∃ U F2,En Φ U W F2 H2/\bt tc g m U=some o,fun W H2 z=>⟨m,qo6 m,z⟩,Φ,Z,F1,o1,hK,en'.step st,h2,?_⟩;cases o1 with
    | nx U=>exact fun W F2 H2 Y=>⟨U,F2,Y,O⟩
    | ct U=>exact fun W F2 H2 Y=>⟨U,F2,Y,O⟩
    | bk U=>cases O;exact fun W F2 H2 Y=>k W F2 H2 Y
    | rt t=>cases O;exact fun v F2 H2 q=>k v F2 H2 q
  . rename_i q;rw [if_neg q];cases O;exact k σ' F1 H1 (en'.step st)
def BN (x:Str):List Dt:=x.cps.toList.map fun c=>.str ⟨#[c]⟩
def dE (lo:Int) (n:Nat):List Dt:=(qb8 n).map fun (i:Nat)=>.int (lo+i)
theorem Reps.map {F:Hp} {α:Type} {f:α->Dt} {g:α->V} (h:∀ x,Rep K F (f x) (g x)):∀ l:List α,Reps K F (l.map f) (l.map g)
 | []=>by simp [Reps]
 | x::l=>by simp only [qa5,Reps];exact ⟨_,_,rfl,h x,Reps.map h l⟩
def itD:Dt->Option (List Dt)
 | .lst l=>some l
 | .tup l=>some l
 | .str x=>some (BN x)
 | _=>none
def fIt (f:De->Option Dt):De->Option (List Dt):=fun δ=>(f δ).bind itD
theorem fq (h:DL X l fd):DIF X tg l (fIt fd):=PI.mono (PI.or (pB h) (PI.or (sG h) (tm h))) fun σ H R ⟨Φ,δ,F,ds,O,U,q,k⟩=>by
 unfold fIt at q;obtain ⟨d,W,q⟩:=bS q;cases d with
 | lst l =>cases q;refine .inl ⟨Φ,δ,F,_,O,U,W,fun v H' F' st r=>?_⟩;simp only [Rep] at r;obtain ⟨a,vs,rfl,h1,h2⟩:=r;exact ⟨a,rfl,⟨vs,st.fh.seq h1⟩,k _ _ H' F' st (plain_list.walk h2) fun H2 s=>s.seq h1⟩
 | tup l =>cases q;refine .inr (.inl ⟨Φ,δ,F,_,O,U,W,fun v H' F' st r=>?_⟩);simp only [Rep] at r;obtain ⟨a,vs,rfl,h1,h2⟩:=r;exact ⟨a,rfl,⟨vs,st.fh.tup h1⟩,k _ _ H' F' st (plain_tup.walk h2) fun H2 s=>s.tup h1⟩
 | str x =>cases q;refine .inr (.inr ⟨Φ,δ,F,_,O,U,W,fun v H' F' st r=>?_⟩);simp only [Rep] at r;exact ⟨x,r,k _ _ H' F' st (plain_str.walk (Reps.map (fun c=>gO) _)) fun _ _=>trivial⟩
 | _=>cases q
theorem cX (h:DB X l fd):DIB X tg l (fIt fd):=PI.mono (PI.or (pB h) (PI.or (sG h) (tm h))) fun σ H R ⟨Φ,δ,F,ds,O,U,q,k⟩=>by
 unfold fIt at q;obtain ⟨d,W,q⟩:=bS q;cases d with
 | lst l =>cases q;refine .inl ⟨Φ,δ,F,_,O,U,W,fun v H' F' st r=>?_⟩;obtain ⟨a,vs,rfl,h1,h2⟩:=r;exact ⟨a,rfl,⟨vs,h1⟩,k _ _ H' F' st (plain_list.walk h2) fun H2 s=>s.seq h1⟩
 | tup l =>cases q;refine .inr (.inl ⟨Φ,δ,F,_,O,U,W,fun v H' F' st r=>?_⟩);obtain ⟨a,vs,rfl,h1,h2⟩:=r;exact ⟨a,rfl,⟨vs,st.fh.tup h1⟩,k _ _ H' F' st (plain_tup.walk h2) fun H2 s=>s.tup (st.fh.tup h1)⟩
 | str x =>cases q;refine .inr (.inr ⟨Φ,δ,F,_,O,U,W,fun v H' F' st r=>?_⟩);exact ⟨x,r,k _ _ H' F' st (plain_str.walk (Reps.map (fun c=>gO) _)) fun _ _=>trivial⟩
 | _=>cases q
def fX (j:Int):Bool:=decide (-(2^62)<=j)&&decide (j<2^62)
def iu:List Dt->Option (List Dt)
 | [.int j]=>if fX j then some (dE 0 j.toNat) else none
 | _=>none
def wn:List Dt->Option (List Dt)
 | [.int i,.int j]=>if fX i&&fX j then some (dE i (j-i).toNat) else none
 | _=>none
def fu (r:List Dt->Option (List Dt)) (f:De->Option (List Dt)):De->Option (List Dt):=fun δ=>(f δ).bind r
variable {p:Pos} {sc:Scope} {x y:Expr} {fs:De->Option (List Dt)}
theorem dz {j:Int} (h:fX j=true):-(2^62)<=j/\j<2^62:=by unfold fX at h;simpa using h
theorem jq {F:Hp} (lo:Int) (n:Nat):Reps K F (dE lo n) (ji lo n):=Reps.map (fun _=>fN) _
theorem cg (h:aE sc "range"=true) (hm:X.mg "range"=none) (W:DA X [x] fs) (e1:bV X sc:=by rfl) (U:qa6 [x] X.env=[(false,eval x X.env)]:=by rfl):DIF X tg (.Call (.Name "range" p) [x] [] pos) (fu iu fs):=
 PI.mono (og h hm W.pa e1 U) fun σ H R ⟨Φ,δ,F,ds,Z,en,q,k⟩=>by
  unfold fu at q;obtain ⟨Y,hd,q⟩:=bS q;refine ⟨Φ,δ,F,Y,Z,en,hd,fun vs H' F' st r=>?_⟩;unfold iu at q;split at q
  . rename_i j;split at q
    . rename_i O;cases q;simp only [Reps,Rep] at r;obtain ⟨v,ws,rfl,rfl,rfl⟩:=r;exact ⟨j,rfl,(dz O).1,(dz O).2,k _ _ H' F' st (plain_range.walk (jq _ _)) fun _ _=>trivial⟩
    . cases q
  . cases q
theorem rp (h:aE sc "range"=true) (hm:X.mg "range"=none) (ha:DA X [x,y] fs) (e1:bV X sc:=by rfl) (W:qa6 [x,y] X.env=[(false,eval x X.env),(false,eval y X.env)]:=by rfl) (U:qa6 [y] X.env=[(false,eval y X.env)]:=by rfl) :
  DIF X tg (.Call (.Name "range" p) [x,y] [] pos) (fu wn fs):=
 PI.mono (oh h hm ha.pa e1 W U) fun σ H R ⟨Φ,δ,F,ds,Y,en,q,k⟩=>by
  unfold fu at q;obtain ⟨as,Z,q⟩:=bS q;refine ⟨Φ,δ,F,as,Y,en,Z,fun vs H' F' st r=>?_⟩;unfold wn at q;split at q
  . rename_i i j;split at q
    . rename_i O;rw [qb1] at O;cases q;simp only [Reps,Rep] at r;obtain ⟨v,ws,rfl,rfl,w,us,rfl,rfl,rfl⟩:=r;exact ⟨i,j,rfl,⟨(dz O.1).1,(dz O.1).2,(dz O.2).1,(dz O.2).2⟩,k _ _ H' F' st (plain_range.walk (jq _ _)) fun _ _=>trivial⟩
    . cases q
  . cases q
end
def dC (src:List (Option Nat)) (δ:De):De:=src.map fun o=>o.bind fun j=>(δ[j]?).join
noncomputable def cM (bb:Dt->De->Option De) (ft:De->Option Bool) (fe:De->Option Dt) (δ:De):List Dt->Option (List Dt)
 | []=>some []
 | d::r=>(bb d δ).bind fun δ1=>(ft δ1).bind fun b=>if b then (fe δ1).bind fun y=>(cM bb ft fe δ r).bind fun ys=>some (y::ys) else cM bb ft fe δ r
noncomputable def bP (src:List (Option Nat)) (fi:De->Option (List Dt)) (bb:Dt->De->Option De) (ft:De->Option Bool) (fe:De->Option Dt):De->Option T:=fun δ =>(fi δ).bind fun ds=>(cM bb ft fe (dC src δ) ds).bind fun ys=>if ys.length<=qb0 then some (.lst ys) else none
def dm:De->Option Bool:=fun _=>some true
def DTs (X:Cx) (ifs:List Expr) (f:De->Option Bool):Prop:=PTs X ifs (tTr X.K f)
theorem dh:DTs X [] dm:=fun pins s σ H Q I h=>wb pins s σ H Q I (by obtain ⟨Φ,δ,F,b,U,O,q,k⟩:=h;cases q;exact k H F (Step.refl O.fh))
theorem eD {c:Expr} {f:De->Option Bool} (h:DT X c f):DTs X [c] f:=wc h
section
variable {X:Cx} {elt tg iter:Expr} {ifs:List Expr} {scope:Scope} {pos:Pos} {M:List Str} {src:List (Option Nat)} {fi:De->Option (List Dt)} {ft:De->Option Bool} {fe:De->Option Dt}
theorem wo (S:CmpScope X.N X.env.scope scope M src) {k l:Nat} (hk:src[k]?=some (some j)) (W:src[l]?=some (some j)):k=l:=by
 have nm:∀ k,src[k]?=some (some j)->∃ x,M[k]?=some x/\X.N[j]?=some x:=fun k h=>by
  have q:k<M.length:=by rw [S.len];exact (gX h).1
  have U:M[k]?=some M[k]:=by simp [q]
  have Y:(M.zip src)[k]?=some (M[k],some j):=by rw [qq8];exact ⟨U,h⟩
  exact ⟨_,U,(S.src _ (qc7 Y) j rfl).1⟩
 obtain ⟨x,h1,h2⟩:=nm k hk;obtain ⟨y,h3,O⟩:=nm l W;rw [h2] at O;cases O;exact (List.getElem?_inj (gX h1).1 S.nd).mp (h1.trans h3.symm)
theorem tP {k:Nat} {t:T} (h:(dC src δ)[k]?=some (some t)):∃ j,src[k]?=some (some j)/\δ[j]?=some (some t):=by
 unfold dC at h;rw [qb4] at h;cases e:src[k]? with
 | none=>rw [e] at h;cases h
 | some o =>
  rw [e] at h;cases o with
  | none=>cases h
  | some j =>
   simp only [ql1,qa3,qp8] at h;refine ⟨j,rfl,?_⟩;cases q:δ[j]? with
   | none=>rw [q] at h;cases h
   | some u=>rw [q] at h;simp only [qr0] at h;rw [h]
theorem wq {k:Nat} (h1:src[k]?=some (some j)) (h2:σ[j]?=some (some v)):(stC src σ)[k]?=some (some v):=by unfold stC;rw [qb4,h1];simp [h2]
theorem tQ {k:Nat} (h:(stC src σ)[k]?=some (some v)):∃ j,src[k]?=some (some j)/\σ[j]?=some (some v):=by
 unfold stC at h;rw [qb4] at h;cases e:src[k]? with
 | none=>rw [e] at h;cases h
 | some o =>
  rw [e] at h;cases o with
  | none=>cases h
  | some j =>
   simp only [ql1,qa3,qp8] at h;refine ⟨j,rfl,?_⟩;cases q:σ[j]? with
   | none=>rw [q] at h;cases h
   | some u=>rw [q] at h;simp only [qr0] at h;rw [h]
theorem En.comp {F:Hp} (S:CmpScope X.N X.env.scope scope M src) (q:En Φ δ σ F H):En Φ (dC src δ) (stC src σ) F H:=by
 refine ⟨q.fh,q.prot,q.old,q.nw,by simp [dC,stC],fun k t h=>?_,?_⟩
 . obtain ⟨j,h1,h2⟩:=tP h;obtain ⟨v,W⟩:=q.has j t h2;exact ⟨v,wq h1 W⟩
 . obtain ⟨Z,s⟩:=q.sep;refine ⟨fun k b=>∃ j,src[k]?=some (some j)/\Z j b,fun k t v h=>?_,fun k b ⟨j,_,z⟩=>s.out j b z,fun k l b ⟨j,h1,z⟩ ⟨j',h2,z'⟩=>?_⟩
   . obtain ⟨h1,h2⟩:=dj h;obtain ⟨j,U,e2⟩:=tP h1;obtain ⟨j',O,Y⟩:=tQ h2;rw [U] at O;cases O;exact (s.own j t v (bK e2 Y)).grow fun b z=>⟨j,U,z⟩
   . have:=s.dis _ _ b z z';subst this;exact wo S h1 h2
theorem rq {g:TG} {tt:TT} {te:TE} {D:Addr} (Pv:Nat->Hp->Prop) (h0:Pv 0 (upd H1 D (.lst []))) (U:∀ i H,Pv i H->(i<n->J.go i H)/\(i=n->J.stop i H))
 (Z:∀ i x H H',i<n->Pv i H->J.yld i H x H'->g x (stC src σ) H' fun O H2=>Wk (stC src σ) O/\tt O H2 fun b W=>if b=true then te O W fun v Y=>∃ ys,Y D=some (.lst ys)/\ys.length<qb0/\Pv (i+1) (upd Y D (.lst (ys++[v]))) else Pv (i+1) W)
 (hd:∀ H,Pv n H->Q (.ref D) H):xP src g tt te σ J H1 Q D:=by
 refine ⟨fun i m H=>m=n-i/\i<=n/\Pv i H,⟨n,by simp,qj2 _,h0⟩,?_⟩;rintro i m H ⟨rfl,hi,p⟩;obtain ⟨p1,p2⟩:=U i H p;by_cases q:i<n
 . exact .inr ⟨p1 q,Pv (i+1),fun H' p'=>⟨n-(i+1),by lia,rfl,q,p'⟩,fun x H' y=>Z i x H H' q p y⟩
 . have e:i=n:=by lia
   subst e;exact .inl ⟨p2 rfl,hd H p⟩
theorem lF (S:CmpScope X.N X.env.scope scope M src) (hts:(ts.all fun k=>decide (src[k]?=some none))=true):∀ (σ:St) (H:Hp) (Q:VK),tO X.K (bP src fi bb ft fe) σ H Q->mG src (tIB X.K fi) (gD X.K ts bb) (tTr X.K ft) (tL X.K fe) σ H Q:=fun σ H Q ⟨Φ,δ,F,t,hK,en,hf,k⟩=>by
 unfold bP at hf;obtain ⟨ds,hd,hf⟩:=bS hf;obtain ⟨all,ha,hf⟩:=bS hf;split at hf
 case isFalse=>cases hf
 rename_i hz;cases hf;rw [tw];refine ⟨Φ,δ,F,ds,hK,en,hd,fun J ok H1 F1 st1 wd ho D hD=>?_⟩;have en1:=en.step st1;have k1:=k.step st1
 have wk:∀ {σ2:St},σ2.length=(stC src σ).length->(∀ j,j∉ts->σ2[j]?=(stC src σ)[j]?)->Wk (stC src σ) σ2:=fun {σ2} h1 h2=>by
  refine ⟨h1.symm,fun j v hj=>?_⟩;by_cases hm:j∈ts
  . have:=qi6.mp hts j hm;have hn:src[j]?=some none:=of_decide_eq_true this;obtain ⟨i,e,_⟩:=tQ hj;rw [hn] at e;cases e
  . rw [h2 j hm];exact hj
 have ok':∀ {F H:Hp},Step F1 H1 F H->ok H:=fun st=>ho _ st.hh
 refine rq (n:=ds.length) (fun i H=>∃ F ys done U,Step F1 H1 F H/\H D=some (.lst ys)/\F D=none/\Reps X.K F done ys/\cM bb ft fe (dC src δ) (ds.drop i)=some U/\done++U=all) ?_ ?_ ?_ ?_
 . exact ⟨F1,[],[],all,Step.made st1.fh hD,aQ,st1.fh.free hD,by simp [Reps],by simpa using ha,rfl⟩
 . rintro i H' ⟨F',ys,done,U,st,_⟩;obtain ⟨p1,p2,_⟩:=wd i H' F' (ok' st) st.fh st.ff;exact ⟨p1,p2⟩
 . rintro i x H0' H' hi ⟨F0',ys,done,U,st0,hD0,hFD0,rys0,O,W⟩ hy0;obtain ⟨_,_,p3⟩:=wd i H0' F0' (ok' st0) st0.fh st0.ff;obtain ⟨d,F',hd',stw,rd⟩:=p3 x H' hi hy0;have st:=st0.trans stw;have Z:H' D=some (.lst ys):=stw.hh _ _ hD0;have hFD:F' D=none:=stw.keepN hFD0 hD0;have rys:=rys0.same stw.ff;rw [pX hd'] at O;unfold cM at O;obtain ⟨δ1,h1,O⟩:=bS O;obtain ⟨b,h2,O⟩:=bS O;refine ⟨Φ,dC src δ,F',d,δ1,hK,(en1.step st).comp S,rd,h1,fun σ2 l2 k2 en2=>⟨wk l2 k2,Φ,δ1,F',b,hK,en2,h2,fun H3 F3 Y=>?_⟩⟩;have hD3:H3 D=some (.lst ys):=Y.hh _ _ Z;have hF3:F3 D=none:=Y.keepN hFD Z;dsimp only;split at O
   . rename_i q;rw [if_pos q];obtain ⟨y,hy,O⟩:=bS O;obtain ⟨zs,hzs,O⟩:=bS O;cases O;refine ⟨Φ,δ1,F3,y,hK,en2.step Y,hy,fun v H4 F4 st4 rv=>?_⟩;have hD4:H4 D=some (.lst ys):=st4.hh _ _ hD3;have hF4:F4 D=none:=st4.keepN hF3 hD3;have s14:=(st.trans Y).trans st4;refine ⟨ys,hD4,?_,F4,ys++[v],done++[y],zs,?_,aQ,hF4,(rys.same (Y.ff.trans st4.ff)).append (Reps.one rv),hzs,by rw [<- W];simp⟩
     . have e1:=rys.length;have e2:all.length=done.length+(zs.length+1):=by rw [<- W];simp
       lia
     . refine ⟨fun c o e=>?_,s14.ff,fun c o e=>?_,s14.nw⟩
       . rw [aH (bC e hD)];exact s14.hh _ _ e
       . rw [aH (bC e hF4)];exact s14.fh _ _ e
   . rename_i q;rw [if_neg q];exact ⟨F3,ys,done,U,st.trans Y,hD3,hF3,rys.same Y.ff,O,W⟩
 . rintro H' ⟨F',ys,done,U,st,Z,hFD,rys,O,W⟩;rw [List.drop_length] at O;cases O;rw [qi0] at W;subst W
   exact k1 (.ref D) H' F' (fun b=>b=D) st ⟨D,ys,rfl,rfl,Z,rys⟩ fun b z=>by subst z;exact ⟨hFD,hD,_,Z,nofun⟩
theorem lH (S:CmpScope X.N X.env.scope scope M src) (U:X.calm=true) (hi:DIB X tg iter fi) (hg:M.Nodup->∀ C s H ex,DG (cxC X M scope C s H ex) tg ts bb)
 (W:∀ C s H ex,DTs (cxC X M scope C s H ex) ifs ft) (Z:∀ C s H ex,DL (cxC X M scope C s H ex) elt fe) (q:(ts.all fun k=>decide (src[k]?=some none))=true) (O:∀ x,qh6 iter X.env x=pure x:=by intro _;rfl) :
  DO X (.ListComp elt [⟨tg,iter,ifs,0⟩] scope pos) (bP src fi bb ft fe):=PE.mono (tj (g:=gD X.K ts bb) (tt:=tTr X.K ft) (te:=tL X.K fe) S U hi (fun Y C s H ex=>hg Y C s H ex) (fun C s H ex=>W C s H ex) (fun C s H ex=>Z C s H ex) O) (lF S q)
end
def b8 (m:Nat) (g:De->Option Out):List Dt->Option T:=fun ds=>match g (ds.map (fun d=>some (T.leaf d))++qc3 (m-ds.length) none) with
 | some (.rt t)=>some t
 | some (.nx _)=>some (.leaf .non)
 | _=>none
theorem d6 {F:Hp} (Y:Same F H) (r:Reps K F ds vs) :
  En ⟨K,F,H,fun _=>False⟩ (ds.map (fun d=>some (T.leaf d))++qc3 (N.length-ds.length) none) (start N vs) F H:=by
 have Z:=r.length
 have q:∀ (i:Nat) (t:T),(ds.map (fun d=>some (T.leaf d))++qc3 (N.length-ds.length) none)[i]?=some (some t)->∃ d v,t=T.leaf d/\vs[i]?=some v/\Rep K F d v/\(start N vs)[i]?=some (some v):=fun i t h=>by
  by_cases hi:i<ds.length
  . rw [qc4 (by simpa using hi),qb4] at h;have W:ds[i]?=some ds[i]:=by simp [hi]
    rw [W] at h;cases h;obtain ⟨v,U,O⟩:=r.get W;refine ⟨_,v,rfl,U,O,?_⟩;unfold start;rw [qc4 (by simp;lia),qb4,U];rfl
  . rw [qd4 (by simpa using hi)] at h;rw [qk6] at h;split at h<;>cases h
 refine ⟨Y,fun b o h _=>h,Same.refl _,fun b o h=>.inl h,by simp [start,Z],fun i t h=>?_,fun _ _=>False,fun i t v h=>?_,fun _ _ z=>z.elim,fun _ _ _ z=>z.elim⟩
 . obtain ⟨d,v,_,_,_,e⟩:=q i t h;exact ⟨v,e⟩
 . obtain ⟨h1,h2⟩:=dj h;obtain ⟨d,w,rfl,_,O,e⟩:=q i t h1;rw [h2] at e;cases e;exact O
variable {st:Stmt}
section
variable {P:qc8} {w:World} {K:xA9} {mg:Str->Option Value} {base:Heap}
theorem Rt.step {F:Hp} {t:T} (h:Rt ⟨K,F,H,fun _=>False⟩ t v F' H') (k:KO K F H t Q):Q v H':=by
 obtain ⟨W,q,O,Y,S,o,U⟩:=h;refine k v H' F' S ⟨fun b u e=>q b u e id,O,W,fun b u e=>(Y b u e).elim .inl fun z=>.inr (z.imp (fun y=>y.elim id qg0) id)⟩ o fun b z=>?_
 obtain ⟨h1,h2,h3⟩:=U b z;exact ⟨h1,h3.elim id qg0,h2⟩
theorem b7 {k:Nat} {g:De->Option Out} (D:DefF K mg x st ps) (S:FnScope N ps (ac st)) (Z:ps.length=n)
 (O:∀ (f:Addr) (cdv:Value) (A:qd5) (outer:List Env) (s:qa4) (H:Hp) (E:XK),Room k (A.deeper (qz4 x (ac st) s.heap.objs.size f cdv))->DS (jd CX0 P w K mg base N x (ac st) f cdv A outer s H E).nox (aX st) g) :
  OkF P w K mg base x (k+1) ps (spD K n (b8 N.length g)):=by
 refine D.ok S (fun vs H Q E h=>?_) (fun f cdv A outer s H vs Q E hr h=>?_)
 . obtain ⟨F,ds,t,_,Y,r,_⟩:=h;rw [r.length,Y,Z]
 . obtain ⟨F,ds,t,W,Y,r,U,kq⟩:=h;refine ⟨_,O f cdv A outer s H E hr,?_⟩;unfold b8 at U;split at U
   . rename_i t' q;cases U;exact ⟨⟨K,F,H,fun _=>False⟩,_,F,_,rfl,d6 W r,q,fun v F' H' z=>z.step kq⟩
   . rename_i δ' q;cases U;exact ⟨⟨K,F,H,fun _=>False⟩,_,F,_,rfl,d6 W r,q,fun σ' F' H' z=>(z.rt (Step.refl z.fh) (t:=.leaf .non) (S:=fun _=>False) (gT (K:=K) (F:=F')) fun _ y=>y.elim).step kq⟩
   . cases U
theorem BO {k:Nat} {g:De->Option Out} {f:Addr} {fd:qp9} (D:Fun K x x st f fd) (S:FnScope N ps (ac st)) (Z:ps.length=n)
 (O:∀ (cdv:Value) (A:qd5) (outer:List Env) (s:qa4) (H:Hp) (E:XK),Room k (A.deeper (qz4 x (ac st) s.heap.objs.size f cdv))->DS (jd CX0 P w K mg base N x (ac st) f cdv A outer s H E).nox (aX st) g) :
  FnOk P w K mg base CX0 (k+1) f fd ps (spD K n (b8 N.length g)):=by
 refine D.ok S (fun vs H Q E h=>?_) (fun cdv A outer s H vs Q E hr h=>?_)
 . obtain ⟨F,ds,t,_,Y,r,_⟩:=h;rw [r.length,Y,Z]
 . obtain ⟨F,ds,t,W,Y,r,U,kq⟩:=h;refine ⟨_,O cdv A outer s H E hr,?_⟩;unfold b8 at U;split at U
   . rename_i t' q;cases U;exact ⟨⟨K,F,H,fun _=>False⟩,_,F,_,rfl,d6 W r,q,fun v F' H' z=>z.step kq⟩
   . rename_i δ' q;cases U;exact ⟨⟨K,F,H,fun _=>False⟩,_,F,_,rfl,d6 W r,q,fun σ' F' H' z=>(z.rt (Step.refl z.fh) (t:=.leaf .non) (S:=fun _=>False) (gT (K:=K) (F:=F')) fun _ y=>y.elim).step kq⟩
   . cases U
end
def SameX (F F':Hp):Prop:=∀ b o,F b=some o->(∀ ob φ,o≠.frz ob (.ext φ))->F' b=some o
section
variable {K:xA9} {F F':Hp}
theorem SameX.rd (e:SameX F F') (h:Rd F a u) (h1:∀ ob φ,u≠.frz ob (.ext φ)) (h2:∀ φ,u≠.ext φ):Rd F' a u:=by
 rcases h with h | ⟨o,h⟩
 . exact .inl (e _ _ h h1)
 . exact .inr ⟨o,e _ _ h fun ob φ z=>h2 φ (by cases z;rfl)⟩
mutual
theorem Rep.sameX (e:SameX F F'):∀ {d:Dt} {v:V},Rep K F d v->Rep K F' d v
 | .non,v,h=>h
 | .bl _,v,h=>h
 | .int _,v,h=>h
 | .str _,v,h=>h
 | .tup l,v,h=>by unfold Rep at h ⊢;obtain ⟨a,vs,h1,h2,h3⟩:=h;exact ⟨a,vs,h1,h2.imp (fun z=>e _ _ z fun _ _ z=>nomatch z) id,Reps.sameX e h3⟩
 | .lst l,v,h=>by unfold Rep at h ⊢;obtain ⟨a,vs,h1,h2,h3⟩:=h;exact ⟨a,vs,h1,h2.imp (fun z=>e.rd z (fun _ _ z=>nomatch z) fun _ z=>nomatch z) id,Reps.sameX e h3⟩
 | .dct ks l,v,h=>by unfold Rep at h ⊢;obtain ⟨a,vs,h1,h2,h3,h4⟩:=h;exact ⟨a,vs,h1,(e.rd h2 (fun _ _ z=>nomatch z) (fun _ z=>nomatch z)),h3,Reps.sameX e h4⟩
 | .dcT ks l,v,h=>by unfold Rep at h ⊢;obtain ⟨a,vs,h1,h2,h3,h4⟩:=h;exact ⟨a,vs,h1,(e.rd h2 (fun _ _ z=>nomatch z) (fun _ z=>nomatch z)),h3,Reps.sameX e h4⟩
theorem Reps.sameX (e:SameX F F'):∀ {l:List Dt} {vs:List V},Reps K F l vs->Reps K F' l vs
 | [],vs,h=>h
 | d::l,vs,h=>by unfold Reps at h ⊢;obtain ⟨v,ws,h1,h2,h3⟩:=h;exact ⟨v,ws,h1,Rep.sameX e h2,Reps.sameX e h3⟩
end
end
def deC (m:Nat) (ds caps:List Dt):De:=ds.map (fun d=>some (T.leaf d))++(qc3 (m-ds.length-caps.length) none++caps.map (fun d=>some (T.leaf d)))
def iT (m:Nat) (g:De->Option Out) (caps:List Dt):List Dt->Option T:=fun ds=>match g (deC m ds caps) with
 | some (.rt t)=>some t
 | some (.nx _)=>some (.leaf .non)
 | _=>none
theorem rz {F:Hp} {caps:List Dt} {fs:List V} (fh:Same F H) (r:Reps K F ds vs) (rc:Reps K F caps fs):En ⟨K,F,H,fun _=>False⟩ (deC N.length ds caps) (dA N vs fs) F H:=by
 have Z:=r.length;have hc:=rc.length
 have q:∀ (i:Nat) (t:T),(deC N.length ds caps)[i]?=some (some t)->∃ d v,t=T.leaf d/\Rep K F d v/\(dA N vs fs)[i]?=some (some v):=fun i t h=>by
  unfold deC at h;unfold dA;rw [Z,hc];by_cases hi:i<ds.length
  . rw [qc4 (by simpa using hi),qb4] at h;have U:ds[i]?=some ds[i]:=by simp [hi]
    rw [U] at h;cases h;obtain ⟨v,W,O⟩:=r.get U;refine ⟨_,v,rfl,O,?_⟩;rw [qc4 (by simp;lia),qb4,W];rfl
  . rw [qd4 (by simpa using hi),qa1] at h;rw [qd4 (by simp;lia),qa1,Z];by_cases Y:i-ds.length<N.length-ds.length-caps.length
    . rw [qc4 (by simpa using Y),qk6] at h;split at h<;>cases h
    . rw [qd4 (by simpa using Y),qm2,qb4] at h;obtain ⟨d,U,e⟩:=mS h;cases e;obtain ⟨v,W,O⟩:=rc.get U;refine ⟨d,v,rfl,O,?_⟩;rw [qd4 (by simpa using Y),qm2,qb4,W];rfl
 refine ⟨fh,fun b o h _=>h,Same.refl _,fun b o h=>.inl h,?_,fun i t h=>?_,fun _ _=>False,fun i t v h=>?_,fun i b z=>z.elim,fun i j b z _=>z.elim⟩
 . unfold deC dA;simp [Z,hc]
 . obtain ⟨d,v,_,_,e⟩:=q i t h;exact ⟨v,e⟩
 . obtain ⟨h1,h2⟩:=dj h;obtain ⟨d,v',rfl,O,e⟩:=q i t h1;rw [h2] at e;cases e;exact O
section
variable {P:qc8} {w:World} {K:xA9} {mg:Str->Option Value} {base:Heap} {N ps fr:List Str} {name qual:Str} {params:qi9} {body:List Stmt} {scope:Scope} {f c':Addr} {cl:List (Str×Addr)} {H:Hp} {fs:List V} {doc pm ctv:Value} {fo:Obj} {uf:HO} {k:Nat} {g:De->Option Out} {caps ds:List Dt} {F0:Hp} {t:T}
theorem ClAt.up (C:ClAt H f name qual params body scope cl fr fs c' doc pm ctv fo uf) (h:∀ b o u,H b=some (.frz o u)->H' b=some (.frz o u)):ClAt H' f name qual params body scope cl fr fs c' doc pm ctv fo uf:=⟨h _ _ _ C.fn,C.dat,let ⟨oc,z⟩:=C.cod;⟨oc,h _ _ _ z⟩,fun x c q=>let ⟨o,u,g,d⟩:=C.cel x c q;⟨o,u,h _ _ _ g,d⟩,C.inj,C.len,fun i x v h1 h2=>let ⟨c,o,u,e1,e2,e3⟩:=C.val i x v h1 h2;⟨c,o,u,e1,h _ _ _ e2,e3⟩,C.nms⟩
theorem pY (S:ClScope N ps fr scope) (ndn:∀ x,∀ y∈scope.names,y.1=x->scope.names.lookup x=some y.2) (C:ClAt H f name qual params body scope cl fr fs c' doc pm ctv fo uf) (rc:Reps K F0 caps fs)
  (hbd:∀ (s:qa4) (us:List Value),us.length=ps.length->za8 s (xG9 name qual params body scope cl .none .none doc pm none (.ref c') ctv) ⟨us,[]⟩ (ps.zip us))
  (hbody:∀ (A:qd5) (outer:List Env) (s:qa4) (H:Hp),Room k (A.deeper (gH qual scope s.heap.objs.size f (.ref c') cl))->DS (mI CX0 P w K mg base N qual scope f (.ref c') cl A outer s H E0 fun _ _=>False) body g)
  (hl:ds.length=ps.length) (ht:iT N.length g caps ds=some t) (A:qd5) (outer:List Env) (s:qa4) (H' F:Hp) (us:List Value) (vs:List V) (Q:VK) (hr:Room (k+1) A) (hp:∀ b o u,H b=some (.frz o u)->H' b=some (.frz o u)) (e0:Env0 P w K mg base A outer s H') (h0:Same F0 F) (fh:Same F H') (r:Vals vs us) (rd:Reps K F ds vs) (kq:KO K F H' t Q) :
  qq5 (model P w) A (.call (.ref f) ⟨us,[]⟩) (CR CX0 outer P w H' s Q E0) s:=by
 have C':=C.up hp;have hvl:vs.length=ps.length:=by rw [rd.length,hl]
 have cn:∀ b,b∈cl.map (·.2)->∃ o u,H' b=some (eM b o)/\o.data=.cell (some u):=fun b O=>by obtain ⟨x,hx⟩:=gJ O;exact C'.cel x b hx
 have hsx:SameX F (cj F cl):=fun b o e hn=>by
  rw [bn fun z=>?_]
  . exact e
  . obtain ⟨ob,u,g,_⟩:=cn b z;have:=fh b o e;rw [g] at this;exact hn _ _ (qd6 this).symm
 have fh':Same (cj F cl) (cj H' cl):=fun b o e=>by obtain ⟨O,e⟩:=ki e;rw [bn O];exact fh b o e
 have fin:∀ v Z H2,Rt ⟨K,cj F cl,cj H' cl,fun _=>False⟩ t v Z H2->(∀ b∈cl.map (·.2),H2 b=none)->Q v (dY H' cl H2):=fun v Z H2 R hn=>by
  obtain ⟨fh2,prot,old,nw,So,o,hs⟩:=R;have sin:∀ {b:Addr},b∈cl.map (·.2)->dY H' cl H2 b=H' b:=fun O=>if_pos O
  have Y:∀ {b:Addr},b∉cl.map (·.2)->dY H' cl H2 b=H2 b:=fun O=>if_neg O
  let F3:Hp:=dY F cl Z;have tin:∀ {b:Addr},b∈cl.map (·.2)->F3 b=F b:=fun O=>if_pos O
  have U:∀ {b:Addr},b∉cl.map (·.2)->F3 b=Z b:=fun O=>if_neg O
  have nF2:∀ b,b∈cl.map (·.2)->Z b=none:=fun b O=>by
   cases z:Z b with
   | none=>rfl
   | some u=>have:=fh2 b u z;rw [hn b O] at this;cases this
  have h23:Same Z F3:=fun b u e=>by
   by_cases O:b∈cl.map (·.2)
   . rw [nF2 b O] at e;cases e
   . rw [U O];exact e
  have hh23:Same H2 (dY H' cl H2):=fun b u e=>by
   by_cases O:b∈cl.map (·.2)
   . rw [hn b O] at e;cases e
   . rw [Y O];exact e
  refine kq v (dY H' cl H2) F3 So ⟨fun b u e=>?_,fun b u e=>?_,fun b u e=>?_,fun b u e=>?_⟩ (Own.step h23 (fun b u _ e=>hh23 b u e) o) fun b z=>?_
  . by_cases O:b∈cl.map (·.2)
    . rw [sin O];exact e
    . rw [Y O];exact prot b u ((bn O).trans e) id
  . by_cases O:b∈cl.map (·.2)
    . rw [tin O];exact e
    . rw [U O];exact old b u ((bn O).trans e)
  . by_cases O:b∈cl.map (·.2)
    . rw [tin O] at e;rw [sin O];exact fh b u e
    . rw [U O] at e;rw [Y O];exact fh2 b u e
  . by_cases O:b∈cl.map (·.2)
    . rw [tin O] at e;exact .inl e
    . rw [U O] at e;rcases nw b u e with y | y | ⟨ws,y⟩
      . exact .inl ((bn O).symm.trans y)
      . exact .inr (.inl ((bn O).symm.trans (y.elim id qg0)))
      . exact .inr (.inr ⟨ws,(bn O).symm.trans y⟩)
  . obtain ⟨h1,⟨u,h2,nt⟩,h3⟩:=hs b z;have O:b∉cl.map (·.2):=fun y=>by rw [hn b y] at h2;cases h2
    exact ⟨by rw [U O];exact h1,(bn O).symm.trans (h3.elim id qg0),u,by rw [Y O];exact h2,nt⟩
 have hul:us.length=ps.length:=by rw [<- r.length];exact hvl
 refine tD (CX:=CX0) (E:=E0) S C' ndn hr e0 (hbd s us hul) hvl r fun hr2=>⟨_,hbody A outer s (cj H' cl) hr2,?_⟩
 have en:=rz (N:=N) fh' (rd.sameX hsx) ((rc.same h0).sameX hsx);unfold iT at ht;split at ht
 . rename_i t' q;cases ht;exact ⟨_,_,_,_,rfl,en,q,fun v Z H2 R=>fin v Z H2 R⟩
 . rename_i δ' q;cases ht;exact ⟨_,_,_,_,rfl,en,q,fun σ' Z H2 z=>fin .non Z H2 (z.rt (Step.refl z.fh) (t:=.leaf .non) (S:=fun _=>False) (gT (K:=K) (F:=Z)) fun _ y=>y.elim)⟩
 . cases ht
end
end L2
namespace L2
open PySem PySem.Spec PyProof.Rows
structure MadeH (H H':Hp) (f c':Addr) (qual:Str) (fo:Obj):Prop where
 fn:H' f=some (.frz fo (.ext fun h=>h.get? f=some fo))
 cod:∃ oc,H' c'=some (.frz oc (.code qual))
 old:Same H H'
 free:H f=none
noncomputable def tDef (P:Addr) (qs:List ((Nat×Nat)×Str)) (i:Nat) (name qual:Str) (params:qi9) (body:List Stmt) (scope:Scope) (clos:List (Str×Addr)):TS:=fun D σ H=>H P=some (.ctab qs)/\∀ (f c':Addr) (doc pm ctv:Value) (H':Hp),MadeH H H' f c' qual {cls:=.type "function",data:=.func (xG9 name qual params body scope clos .none .none doc pm none (.ref c') ctv)}->D.nx (σ.set i (some (.ref f))) H'
section
variable {X:Cx} {c P:Addr} {qs:List ((Nat×Nat)×Str)} {name qual:Str} {params:qi9} {body:List Stmt} {scope:Scope} {clos:List (Str×Addr)} {pos:Pos} {i:Nat}
theorem zK (hN:X.N.Nodup) (hi:X.N[i]?=some name) (hx:Loc X.env.scope name) (hfn:X.fn name=true∨X.env.scope.names.lookup name=some .local) (B:TabB X.mg X.base c P) (O:X.env.code=.ref c) (hqn:qualnameIn X.env name name=qual) (hq:((pos.line,pos.col),qual)∈qs) (U:∀ q,((pos.line,pos.col),q)∈qs->q=qual) (Z:zf2 scope X.env=pure clos)
  (Y:params.defaults=[]) (hk0:params.kw_defaults=[]) (ha:annTrees params none X.env=[]):PS X (.FunctionDef name params body [] none [] scope none name pos) (tDef P qs i name qual params body scope clos):=by
 intro pins s σ H D I h;obtain ⟨hP,q⟩:=h;refine PySem.W.nestDef_K Y hk0 ha ?_;rw [hqn];refine wj I B O hP hq U Z fun f c' doc pm ctv H' s' M I'=>?_
 exact gz I' hN hi hx (v:=.ref f) rfl (fun s2 I2=>⟨_,H',I2,q f c' doc pm ctv H' ⟨M.fn,M.cod,fun b o e=>M.old b o e,I.hok.fresh M.lof⟩⟩) hfn
end
def bu (X:Cx) (b:Addr):Prop:=∃ x,X.env.cells.lookup x=some b
open Classical in
def iL (X:Cx) (H:Hp):Hp:=fun b=>if bu X b then none else H b
structure PlusC (X:Cx) (σ:St) (H H':Hp):Prop where
 out:∀ b,¬ bu X b->H' b=H b
 fre:∀ b,bu X b->H b=none
 cel:∀ x c,X.env.cells.lookup x=some c->∃ o v,H' c=some (eM c o)/\o.data=.cell v/\∀ (i:Nat) (val:V),X.N[i]?=some x->σ[i]?=some (some val)->(X.env.kindOf x=some .cell∨X.env.kindOf x=some .free)->∃ u,v=some u/\RelV val u
variable {H':Hp} {u:Value}
section
variable {X:Cx} {pins:List (Addr×Obj)} {σ:St} {H:Hp} {s:qa4}
theorem mL {b:Addr} (h:bu X b):iL X H b=none:=if_pos h
theorem bO {b:Addr} (h:¬ bu X b):iL X H b=H b:=if_neg h
open Classical in
theorem wt (I:Inv X pins σ H s) (O:∀ b,bu X b->b∉frs X.stack/\∀ o,X.base.get? b≠some o):∃ H',PlusC X σ H H'/\Env0 X.prog X.w X.K X.mg X.base X.A X.stack s H':=by
 let H':Hp:=fun b=>if bu X b then (s.heap.get? b).map (eM b) else H b
 have W:∀ {b:Addr},bu X b->H' b=(s.heap.get? b).map (eM b):=fun h=>if_pos h
 have q:∀ {b:Addr},¬ bu X b->H' b=H b:=fun h=>if_neg h
 have e0:=I.env0;refine ⟨H',⟨fun b h=>q h,fun b ⟨x,Y⟩=>I.freeC x b Y,fun x c e=>?_⟩,⟨e0.frames,e0.mod,fun b o e=>⟨(e0.bs b o e).1,?_⟩,e0.bsz,e0.funs,fun b Z=>?_,fun b u e=>?_,e0.bare,fun p hp=>by rw [q fun ⟨x,Y⟩=>by have:=I.freeC x _ Y;rw [e0.tb p hp] at this;cases this];exact e0.tb p hp⟩⟩
 . obtain ⟨v,o,U,hd⟩:=I.cell x c e;refine ⟨o,v,by rw [W ⟨x,e⟩,U];rfl,hd,fun i val h1 h2 h3=>?_⟩;obtain ⟨m,_,hl⟩:=I.loc;have hv:Vis X.env.scope x:=h3.elim (fun z=>.inr (.inl z)) fun z=>.inr (.inr z)
   obtain ⟨u,ru,lk⟩:=hl i x val h1 h2 hv;rcases lk with ⟨k1,_⟩ | ⟨_,c2,k2,o2,k3,k4⟩
   . rcases h3 with z | z<;>(rw [k1] at z;cases z)
   . rw [e] at k2;cases k2;rw [U] at k3;cases k3;rw [hd] at k4;cases k4;exact ⟨u,rfl,ru⟩
 . have:¬ bu X b:=fun z=>(O b z).2 o e
   rw [q this];exact (e0.bs b o e).2
 . have:¬ bu X b:=fun z=>(O b z).1 Z
   rw [q this];exact e0.frf b Z
 . have up:∀ c u,H c=some u->H' c=some u:=fun c u z=>by
    rw [q]
    . exact z
    . rintro ⟨x,Y⟩;rw [I.freeC x c Y] at z;cases z
   by_cases Z:bu X b
   . rw [W Z] at e;obtain ⟨o,U,rfl⟩:=mS e;exact ⟨U,U,⟨o,U⟩,fun h1 h2 z1 z2=>z2 o z1⟩
   . rw [q Z] at e;exact (I.hok b u e).stay (fun _ _ _ z=>z) (fun c z=>up c _ z) (fun c xs z=>up c _ z) fun c ob xs z=>up c _ z
theorem Inv.afterP {Q:VK} {s':qa4} (I:Inv X pins σ H s) (Y:PlusC X σ H H') (ok':HOk X.prog X.w H' s.heap) (h:CE X.stack X.prog X.w H' s (fun v H2=>(∀ c,bu X c->H2 c=H' c)->Q v (iL X H2)) u s'):EP X pins σ Q u s':=by
 obtain ⟨v,H2,os,bare,un,hok,r,q⟩:=h;obtain ⟨hh,g,d,t,os'⟩:=s';obtain rfl:os'=s.os:=os
 have W:∀ {b:Addr},bu X b->∃ o,H' b=some (eM b o)/\s.heap.get? b=some o/\H2 b=some (eM b o)/\hh.get? b=some o:=fun {b} hb=>by obtain ⟨x,U⟩:=hb;obtain ⟨o,v,e,_⟩:=Y.cel x b U;have e2:=un.frzs b o _ e;exact ⟨o,e,(ok' b _ e).1,e2,(hok b _ e2).1⟩
 have Z:∀ {b:Addr} {w:HO},H b=some w->¬ bu X b:=fun {b w} z ⟨x,U⟩=>by rw [I.freeC x b U] at z;cases z
 refine ⟨v,iL X H2,I.call (h':=hh) (g':=g) (d':=d) (t':=t) (ch:=[]) ⟨fun b o e n hb U=>?_,fun b o e n hb U=>?_,fun b o e n U=>?_,un.there,fun b xs e=>?_,fun b o w e=>?_,fun b ps e=>?_,fun b qs e=>?_⟩ (fun b w e=>?_) bare (fun b z=>absurd z (by simp)),r,q fun c O=>?_⟩
 . by_cases O:bu X b
   . obtain ⟨o',_,h1,_,h2⟩:=W O;rw [e] at h1;cases h1;exact h2
   . exact un.keep b o e (by rw [Y.out b O];exact n) hb U
 . by_cases O:bu X b
   . obtain ⟨o',_,h1,_,h2⟩:=W O;rw [e] at h1;cases h1;exact ⟨o.slots,h2⟩
   . exact un.slot b o e (by rw [Y.out b O];exact n) hb U
 . by_cases O:bu X b
   . exact mL O
   . rw [bO O];exact un.free b o e (by rw [Y.out b O];exact n) U
 . rw [bO (Z e)];exact un.tups b xs (by rw [Y.out b (Z e)];exact e)
 . rw [bO (Z e)];exact un.frzs b o w (by rw [Y.out b (Z e)];exact e)
 . rw [bO (Z e)];exact un.tbls b ps (by rw [Y.out b (Z e)];exact e)
 . rw [bO (Z e)];exact un.cts b qs (by rw [Y.out b (Z e)];exact e)
 . by_cases O:bu X b
   . rw [mL O] at e;cases e
   . rw [bO O] at e
     have up:∀ c u,H2 c=some u->(∀ ob φ,u≠.frz ob (.ext φ))->iL X H2 c=some u:=fun c u z hn=>by
      rw [bO]
      . exact z
      . intro hcc;obtain ⟨o',_,_,h1,_⟩:=W hcc;rw [z] at h1;exact hn _ _ (qd6 h1)
     exact (hok b w e).stay (fun _ _ _ z=>z) (fun c z=>up c _ z fun _ _ y=>nomatch y) (fun c xs z=>up c _ z fun _ _ y=>nomatch y) fun c ob xs z=>up c _ z fun _ _ y=>nomatch y
 . obtain ⟨o',h1,_,h2,_⟩:=W O;rw [h1,h2]
end
variable {l:List Dt} {vs:List V}
section
variable {K:xA9} {F H:Hp} {Q:VK}
theorem KO.int {i:Int} (k:KO K F H (.leaf (.int i)) Q) (q:Same F H):Q (.int i) H:=k.leaf.here q fN
theorem KO.bl {i:Bool} (k:KO K F H (.leaf (.bl i)) Q) (q:Same F H):Q (.bl i) H:=k.leaf.here q lC
theorem KO.str {i:Str} (k:KO K F H (.leaf (.str i)) Q) (q:Same F H):Q (.str i) H:=k.leaf.here q gO
theorem KO.tup {p:Addr} (k:KO K F H (.leaf (.tup l)) Q) (q:Same F H) (r:Reps K F l vs) (hp:H p=none):Q (.ref p) (upd H p (.tup vs)):=by refine k.leaf _ _ _ (Step.new q hp) ?_;simp only [Rep];exact ⟨p,vs,rfl,SqT.of aQ,r.same (Same.upd (q.free hp))⟩
end
def iM (i j:Int):Bool:=(decide (-(2^64)<i)&&decide (i<2^64))||(decide (-(2^64)<j)&&decide (j<2^64))
theorem wu {i j:Int} (h:iM i j=true):CMul i j:=by unfold iM at h;simp only [qj7,qb1,decide_eq_true_eq] at h;exact h
theorem wv {i j:Int} (h1:-1000000000000000000<i) (h2:i<1000000000000000000):iM i j=true:=by unfold iM;simp only [qj7,qb1,decide_eq_true_eq];left;lia
theorem ww {i j:Int} (h1:-1000000000000000000<j) (h2:j<1000000000000000000):iM i j=true:=by unfold iM;simp only [qj7,qb1,decide_eq_true_eq];right;lia
def kw (i j:Int):Bool:=decide (0<=j)&&decide (j<=1000000)&&decide (i.natAbs<2^64)
theorem wx {i j:Int} (h:kw i j=true):yY i j:=by unfold kw at h;simp only [qb1,decide_eq_true_eq] at h;exact ⟨h.1.1,h.1.2,h.2⟩
noncomputable def bD:Dt->Dt->Option T
 | .int i,.int j=>some (.leaf (.int (i+j)))
 | .str a,.str b=>if a.length+b.length<=qb0 then some (.leaf (.str (a++b))) else none
 | .lst l,.lst m=>if l.length+m.length<=qb0 then some (.lst (l++m)) else none
 | .tup l,.tup m=>if l.length+m.length<=qb0/\l≠[]/\m≠[] then some (.leaf (.tup (l++m))) else none
 | _,_=>none
def fw:Dt->Dt->Option T
 | .int i,.int j=>some (.leaf (.int (i-j)))
 | _,_=>none
def iU:Dt->Dt->Option T
 | .int i,.int j=>if iM i j then some (.leaf (.int (i*j))) else none
 | _,_=>none
def dO:Dt->Dt->Option T
 | .int i,.int j=>if 0<j then some (.leaf (.int (i%j))) else none
 | _,_=>none
def iV:Dt->Dt->Option T
 | .int i,.int j=>if kw i j then some (.leaf (.int (i^j.toNat))) else none
 | _,_=>none
def iW (f:Int->Int->Bool):Dt->Dt->Option T
 | .int i,.int j=>some (.leaf (.bl (f i j)))
 | _,_=>none
variable {K:xA9} {H F':Hp} {b:Bool} {v:V} {e:Expr} {p2:Pos}
section
variable {X:Cx}
theorem wz:OpR X (qk1 .Add) (fun x y H Q=>∃ l b xs zs,x=.ref l/\y=.ref b/\SqL X.K H l xs/\SqL X.K H b zs/\xs.length+zs.length<=qb0/\∀ p,H p=none->Q (.ref p) (upd H p (.lst (xs++zs)))):=by
 intro pins s σ H x y v u Q I rx ry h;obtain ⟨l,b,xs,zs,rfl,rfl,hH,hB,hz,q⟩:=h;cases rx;cases ry;obtain ⟨its,r,pl,_⟩:=I.list hH;obtain ⟨O,r2,pl2,_⟩:=I.list hB;obtain ⟨⟨cls,dd,data,sl⟩,n,ho,hc,hd0,hd⟩:=pl;obtain ⟨⟨cls2,dd2,Z,sl2⟩,n2,Y,W,hd02,U⟩:=pl2;simp only at hc hd W U;subst hc hd W U;have e:its.toArray++O.toArray=(its++O).toArray:=by simp
 refine qy3 ⟨_,ho,rfl⟩ ⟨_,Y,rfl⟩ noFill_list_add seq_list_add PySem.F.slot_list_add PySem.F.entry_list_add (PySem.F.args_list_add_2 _ _) (list_addW l b its.toArray O.toArray n n2 dd dd2 sl sl2 (by rw [qb2,qb2,<- r.length,<- r2.length];exact hz)) ⟨ho,Y,?_⟩;rw [e];exact ⟨.ref _,_,I.lnew (t':=s.toks) (r.append r2) (by rw [qb5];exact hz),rfl,q _ I.fresh⟩
noncomputable abbrev kx (K:xA9):R2:=fun x y H Q=>(rI0 (fun i j=>.int (i+j)) x y H Q)∨(∃ i j,x=.str i/\y=.str j/\i.length+j.length<=qb0/\Q (.str (i++j)) H)∨(∃ l b xs zs,x=.ref l/\y=.ref b/\SqL K H l xs/\SqL K H b zs/\xs.length+zs.length<=qb0/\∀ p,H p=none->Q (.ref p) (upd H p (.lst (xs++zs))))∨xM K x y H Q
theorem aT:OpR X (qk1 .Add) (kx X.K):=OpR.or yZ (OpR.or nY (OpR.or wz vY))
theorem bE:R2D K (kx K) bD:=by
 intro F H x y vx vy Q t O Z Y q k;unfold bD at q;split at q<;>first | (cases q;done) | skip
 . cases q;cases Z;cases Y;exact .inl ⟨_,_,rfl,rfl,k.int O⟩
 . split at q
   . cases q;cases Z;cases Y;exact .inr (.inl ⟨_,_,rfl,rfl,by assumption,k.str O⟩)
   . cases q
 . split at q
   . rename_i W;cases q;obtain ⟨a,vs,rfl,h1,h2⟩:=Z;obtain ⟨b,ws,rfl,h3,U⟩:=Y;exact .inr (.inr (.inl ⟨a,b,vs,ws,rfl,rfl,h1,h3,by rw [h2.length,U.length];exact W,fun p hp=>dq k O (h2.append U) hp⟩))
   . cases q
 . split at q
   . rename_i W;cases q;obtain ⟨a,vs,rfl,h1,h2⟩:=Z;obtain ⟨b,ws,rfl,h3,U⟩:=Y;obtain ⟨W,n1,n2⟩:=W;refine .inr (.inr (.inr ⟨a,b,vs,ws,rfl,rfl,O.tup h1,O.tup h3,fun z=>?_,by rw [h2.length,U.length];exact W,fun z=>?_,fun _ p hp=>k.tup O (h2.append U) hp⟩))
     . subst z;have:=h2.length;exact n1 (qu6 this.symm)
     . subst z;have:=U.length;exact absurd (qu6 this.symm) n2
   . cases q
theorem jr:R2D K (rI0 fun i j=>.int (i-j)) fw:=by
 intro F H x y Y Z Q t W U O q k;unfold fw at q;split at q<;>first | (cases q;done) | skip
 cases q;cases U;cases O;exact ⟨_,_,rfl,rfl,k.int W⟩
theorem jt:R2D K (rI CMul fun i j=>.int (i*j)) iU:=by
 intro F H x y Y Z Q t W U O q k;unfold iU at q;split at q<;>first | (cases q;done) | skip
 split at q
 . cases q;cases U;cases O;exact ⟨_,_,rfl,rfl,wu (by assumption),k.int W⟩
 . cases q
theorem dF:R2D K (rI (fun _ j=>0<j) fun i j=>.int (i%j)) dO:=by
 intro F H x y Z Y Q t U W O q k;unfold dO at q;split at q<;>first | (cases q;done) | skip
 split at q
 . cases q;cases W;cases O;exact ⟨_,_,rfl,rfl,by assumption,k.int U⟩
 . cases q
theorem ju:R2D K (rI yY fun i j=>.int (i^j.toNat)) iV:=by
 intro F H x y Y Z Q t W U O q k;unfold iV at q;split at q<;>first | (cases q;done) | skip
 split at q
 . cases q;cases U;cases O;exact ⟨_,_,rfl,rfl,wx (by assumption),k.int W⟩
 . cases q
theorem jv {f:Int->Int->Bool}:R2D K (rI0 fun i j=>.bl (f i j)) (iW f):=by
 intro F H x y Z Y Q t U W O q k;unfold iW at q;split at q<;>first | (cases q;done) | skip
 cases q;cases W;cases O;exact ⟨_,_,rfl,rfl,k.bl U⟩
noncomputable def eqD:Dt->Dt->Option Bool
 | .non,.non=>some true
 | .non,.int _=>some false
 | .non,.bl _=>some false
 | .non,.str _=>some false
 | .int _,.non=>some false
 | .bl _,.non=>some false
 | .str _,.non=>some false
 | .int i,.int j=>some (decide (i=j))
 | .bl i,.bl j=>some (decide (i=j))
 | .str i,.str j=>some (decide (i=j))
 | .int _,.str _=>some false
 | .str _,.int _=>some false
 | .bl _,.str _=>some false
 | .str _,.bl _=>some false
 | .tup l,.tup m=>if cmpbs l m&&decide (deeps l<=59) then some (peqs l m) else none
 | .lst l,.lst m=>if cmpbs l m&&decide (deeps l<=59) then some (peqs l m) else none
 | _,_=>none
def gEq (neg:Bool) (x y:Dt):Option T:=(eqD x y).map fun b=>.leaf (.bl (if neg then !b else b))
abbrev rEqA (K:xA9):R2:=fun x y H Q=>rEq x y H Q∨wl K false x y H Q
abbrev rNeA (K:xA9):R2:=fun x y H Q=>rNe x y H Q∨wl K true x y H Q
theorem bi {k:Nat} (q:Room k X.A):OpR X (qg4 .Eq) (rEqA X.K):=OpR.or Bw (zF q rfl)
theorem iw {k:Nat} (q:Room k X.A):OpR X (qg4 .NotEq) (rNeA X.K):=OpR.or Bx (zG q rfl)
theorem tR {F:Hp} {x y:Dt} {O U:V} (Z:Same F H) (Y:RepB K F H x O) (W:RepB K F H y U) (h:eqD x y=some b) :
  (zb O U=true/\b=decide (O=U))∨(((∃ l m,x=.tup l/\y=.tup m)∨∃ l m,x=.lst l/\y=.lst m)/\cw x y=true/\c7 x<=60/\b=peq x y):=by
 unfold eqD at h
 split at h<;>first
  | (cases h;done)
  | (cases h;cases Y;cases W;left;refine ⟨rfl,?_⟩;simp;done)
  | skip
 . right;split at h
   . rename_i q;simp only [qb1,decide_eq_true_eq] at q;cases h;exact ⟨.inl ⟨_,_,rfl,rfl⟩,by simp only [cw];exact q.1,by simp only [c7];lia,by simp only [peq]⟩
   . cases h
 . right;split at h
   . rename_i q;simp only [qb1,decide_eq_true_eq] at q;cases h;exact ⟨.inr ⟨_,_,rfl,rfl⟩,by simp only [cw];exact q.1,by simp only [c7];lia,by simp only [peq]⟩
   . cases h
theorem cE:R2D K (rEqA K) (gEq false):=by
 intro F H x y vx Z Q t q W U O k;unfold gEq at O;obtain ⟨b,Y,O⟩:=mS O;cases O;have kk:Q (.bl b) H:=k.bl q;rcases tR q W U Y with ⟨h1,rfl⟩ | ⟨h1,h2,h3,rfl⟩
 . exact .inl ⟨h1,kk⟩
 . exact .inr ⟨x,y,h1,W.rep q,U.rep q,h2,h3,kk⟩
theorem rA:R2D K (rNeA K) (gEq true):=by
 intro F H x y vx Z Q t q W U O k;unfold gEq at O;obtain ⟨b,Y,O⟩:=mS O;cases O;have kk:Q (.bl (!b)) H:=k.bl q;rcases tR q W U Y with ⟨h1,rfl⟩ | ⟨h1,h2,h3,rfl⟩
 . exact .inl ⟨h1,kk⟩
 . exact .inr ⟨x,y,h1,W.rep q,U.rep q,h2,h3,kk⟩
def mM:Dt->Bool
 | .non=>true
 | _=>false
def gIs (neg:Bool) (x y:Dt):Option T:=match y with
 | .non=>some (.leaf (.bl (if neg then !mM x else mM x)))
 | _=>none
theorem mN {F:Hp} {x:Dt} (r:RepB K F H x v):mM x=decide (v=.non):=by
 cases x<;>first
  | (cases r;rfl)
  | (obtain ⟨a,vs,rfl,_⟩:=r;rfl)
  | (simp only [RepB,Rep] at r;obtain ⟨a,C,dx,fs,rfl,_⟩:=r;rfl)
theorem r_is:R2D K (fun x y H Q=>y=.non/\Q (.bl (decide (x=.non))) H) (gIs false):=by
 intro F H x y Z Y Q t U W O q k;cases y<;>first | cases q;done | skip
 cases q;cases O;refine ⟨rfl,?_⟩;rw [<- mN W];exact k.bl U
theorem wA:R2D K (fun x y H Q=>y=.non/\Q (.bl (!decide (x=.non))) H) (gIs true):=by
 intro F H x y Z Y Q t U W O q k;cases y<;>first | cases q;done | skip
 cases q;cases O;refine ⟨rfl,?_⟩;rw [<- mN W];exact k.bl U
def ck:Dt->Bool
 | .non=>true
 | .bl _=>true
 | .int _=>true
 | .str _=>true
 | _=>false
def eqF:Dt->Dt->Bool
 | .non,.non=>true
 | .bl a,.bl b=>a==b
 | .bl a,.int b=>(if a then 1 else 0)==b
 | .int a,.bl b=>a==(if b then 1 else 0)
 | .int a,.int b=>a==b
 | .str a,.str b=>a==b
 | _,_=>false
def inS (j i:Str):Bool:=!(qh0 j i 0 j.length 1).isEmpty
def inD:Dt->Dt->Option Bool
 | .str i,.str j=>some (inS j i)
 | x,.lst l=>if ck x&&l.all ck then some (l.any fun y=>eqF y x) else none
 | x,.tup l=>if ck x&&l.all ck then some (l.any fun y=>eqF y x) else none
 | _,_=>none
def gIn (neg:Bool) (x y:Dt):Option T:=(inD x y).map fun b=>.leaf (.bl (if neg then !b else b))
theorem lI {F:Hp} {d:Dt} (r:Rep K F d v) (h:ck d=true):fW v=true:=by
 cases d<;>simp only [Rep] at r<;>first
  | (subst r;rfl)
  | cases h
theorem zL {F:Hp} {d e:Dt} {w:V} (r:Rep K F d v) (q:Rep K F' e w) (h:ck d=true) (h':ck e=true):eqF d e=eqV v w:=by
 cases d<;>first | cases h;done | skip
 all_goals cases e<;>first | cases h';done | skip
 all_goals simp only [Rep] at r q;subst r q;rfl
theorem jw {F:Hp}:∀ {l:List Dt} {vs:List V},Reps K F l vs->l.all ck=true->vs.all fW=true
 | [],vs,r,_=>by simp only [Reps] at r;subst r;rfl
 | d::l,vs,r,h=>by simp only [Reps] at r;obtain ⟨v,q,rfl,h1,h2⟩:=r;rw [qo3,qb1] at h ⊢;exact ⟨lI h1 h.1,jw h2 h.2⟩
theorem oq {F:Hp} {x:Dt} {w:V} (O:Rep K F' x w) (q:ck x=true):∀ {l:List Dt} {vs:List V},Reps K F l vs->l.all ck=true->(l.any fun y=>eqF y x)=inV w vs
 | [],vs,r,_=>by simp only [Reps] at r;subst r;rfl
 | d::l,vs,r,h=>by simp only [Reps] at r;obtain ⟨v,U,rfl,h1,h2⟩:=r;rw [qo3,qb1] at h;unfold inV;rw [qk7,qk7,zL h1 O h.1 q,oq O q h2 h.2];rfl
abbrev tT (K:xA9) (neg:Bool):R2:=fun x y H Q=>(∃ i j,x=.str i/\y=.str j/\Q (.bl (if neg then !inS j i else inS j i)) H)∨rIn K neg x y H Q
theorem zM:OpR X (qg4 .In) (tT X.K false):=OpR.or qU ra
theorem rB:OpR X (qg4 .NotIn) (tT X.K true):=OpR.or lp ln
theorem r_in (neg:Bool):R2D K (tT K neg) (gIn neg):=by
 intro F H x y vx vy Q t W rx Z Y k;unfold gIn at Y;obtain ⟨b,U,Y⟩:=mS Y;cases Y;have kk:=k.bl W;unfold inD at U;split at U<;>first | (cases U;done) | skip
 . cases U;cases rx;cases Z;exact .inl ⟨_,_,rfl,rfl,kk⟩
 . split at U
   . rename_i q;rw [qb1] at q;cases U;obtain ⟨a,vs,rfl,h1,h2⟩:=Z;have O:=rx.rep W;rw [oq O q.1 h2 q.2] at kk;exact .inr ⟨a,vs,rfl,.inl h1,lI O q.1,jw h2 q.2,kk⟩
   . cases U
 . split at U
   . rename_i q;rw [qb1] at q;cases U;obtain ⟨a,vs,rfl,h1,h2⟩:=Z;have O:=rx.rep W;rw [oq O q.1 h2 q.2] at kk;exact .inr ⟨a,vs,rfl,.inr (W.tup h1),lI O q.1,jw h2 q.2,kk⟩
   . cases U
theorem mO {F:Hp} {i:Int} {d:Dt} (r:Reps K F l vs) (h:atI l i=some d):∃ v,atI vs i=some v/\Rep K F d v:=by unfold atI at h ⊢;rw [r.length];obtain ⟨j,q,h⟩:=bS h;obtain ⟨v,e,O⟩:=r.get h;exact ⟨v,by rw [q];exact e,O⟩
def gIx:Dt->Dt->Option T
 | .lst l,.int i=>(atI l i).map .leaf
 | .tup l,.int i=>(atI l i).map .leaf
 | .str x,.int i=>if x.length<=qb0 then (atI x.cps.toList i).map fun c=>.leaf (.str ⟨#[c]⟩) else none
 | _,_=>none
theorem r_ix:R2D K (rIx K) gIx:=by
 intro F H x y vx vy Q t O Y U q k;unfold gIx at q;split at q<;>first | (cases q;done) | skip
 . obtain ⟨d,Z,q⟩:=mS q;cases q;cases U;obtain ⟨a,vs,rfl,h1,h2⟩:=Y;obtain ⟨v,e,W⟩:=mO h2 Z;exact .inl ⟨a,vs,_,v,rfl,rfl,h1,e,k.leaf.here O W⟩
 . obtain ⟨d,Z,q⟩:=mS q;cases q;cases U;obtain ⟨a,vs,rfl,h1,h2⟩:=Y;obtain ⟨v,e,W⟩:=mO h2 Z;exact .inr (.inl ⟨a,vs,_,v,rfl,rfl,O.tup h1,e,k.leaf.here O W⟩)
 . split at q
   . rename_i hl;obtain ⟨c,hc,q⟩:=mS q;cases q;cases Y;cases U;exact .inr (.inr ⟨_,_,c,rfl,rfl,hl,hc,k.str O⟩)
   . cases q
variable {a b c:Expr} {fa fb fc:De->Option Dt} {pos:Pos}
def ou (l:List Dt) (lo hi:Option Int):List Dt:=(l.drop (HT.sIx l.length 0 lo)).take (HT.sIx l.length l.length hi-HT.sIx l.length 0 lo)
noncomputable def gSl:Dt->Option Int->Option Int->Option T
 | .str x,lo,hi=>if x.length<=qb0 then some (.leaf (.str (Txt.slice x lo hi))) else none
 | .lst l,lo,hi=>some (.lst (ou l lo hi))
 | .tup l,lo,hi=>if HT.sIx l.length 0 lo=0/\HT.sIx l.length l.length hi=l.length then none else some (.leaf (.tup (ou l lo hi)))
 | _,_,_=>none
abbrev zN (K:xA9):V->Option Int->Option Int->Hp->VK->Prop:=fun x lo hi H Q=>rSlS x lo hi H Q∨rSlL K x lo hi H Q∨rSlT K x lo hi H Q
theorem tU:SlR X (zN X.K):=SlR.or zy (SlR.or v0 zj)
theorem mP {F:Hp} (r:Reps K F l vs) (lo hi:Option Int):Reps K F (ou l lo hi) (mz vs lo hi):=by unfold ou mz;rw [r.length];exact (r.drop _).take _
theorem zO {F:Hp} {x:Dt} {lo hi:Option Int} {Q:VK} {t:T} (O:Same F H) (U:RepB K F H x v) (q:gSl x lo hi=some t) (k:KO K F H t Q):zN K v lo hi H Q:=by
 unfold gSl at q;split at q<;>first | (cases q;done) | skip
 . split at q
   . cases q;cases U;exact .inl ⟨_,rfl,by assumption,k.str O⟩
   . cases q
 . obtain ⟨a,vs,rfl,h1,h2⟩:=U;cases q;exact .inr (.inl ⟨a,vs,rfl,h1,fun p hp=>dq k O (mP h2 _ _) hp⟩)
 . obtain ⟨a,vs,rfl,h1,h2⟩:=U;split at q
   . cases q
   . rename_i W;cases q;rw [<- h2.length] at W;exact .inr (.inr ⟨a,vs,rfl,O.tup h1,W,fun p hp=>k.tup O (mP h2 _ _) hp⟩)
def tOD (K:xA9) (f:De->Option (Option Int)):TO:=fun σ H Q=>∃ Φ δ F d,Fm.K Φ=K/\En Φ δ σ F H/\f δ=some d/\∀ H' F',Step F H F' H'->Q d H'
def pZ:De->Option (Option Int):=fun _=>some none
def asI:Dt->Option Int
 | .int i=>some i
 | _=>none
def mQ (f:De->Option Dt):De->Option (Option Int):=fun δ=>(f δ).bind fun d=>(asI d).map some
theorem gU {F:Hp} {x:Dt} {b:Int} (h:asI x=some b) (r:RepB K F H x v):v=.int b:=by
 cases x<;>first | cases h;done | skip
 cases h;exact r
def DP (X:Cx) (e:Option Expr) (f:De->Option (Option Int)):Prop:=PO X e (tOD X.K f)
theorem p0:DP X none pZ:=fun pins s σ H Q I h=>vW pins s σ H Q I (by obtain ⟨Φ,δ,F,d,U,O,q,k⟩:=h;cases q;exact k H F (Step.refl O.fh))
theorem p5 {f:De->Option Dt} (h:DB X e f):DP X (some e) (mQ f):=fun pins s σ H Q I q=>vX h pins s σ H Q I (by obtain ⟨Φ,δ,F,d,W,Y,O,k⟩:=q;unfold mQ at O;obtain ⟨x,U,O⟩:=bS O;obtain ⟨i,hi,O⟩:=mS O;cases O;exact ⟨Φ,δ,F,x,W,Y,U,fun v H' F' st r=>⟨i,gU hi r,k H' F' st⟩⟩)
def vSl (fa:De->Option Dt) (q O:De->Option (Option Int)):De->Option T:=fun δ=>(fa δ).bind fun x=>(q δ).bind fun l=>(O δ).bind fun h=>gSl x l h
theorem tV {lo hi:Option Expr} {f:De->Option Dt} {fl fh:De->Option (Option Int)} (he:DB X e f) (hl:DP X lo fl) (W:DP X hi fh):DO X (.Subscript e (.Slice lo hi none p2) pos) (vSl f fl fh):=PE.mono (my tU he hl W) fun σ H Q ⟨Φ,δ,F,t,Y,Z,q,k⟩=>by unfold vSl at q;obtain ⟨x,hx,q⟩:=bS q;obtain ⟨l,hl,q⟩:=bS q;obtain ⟨h,W,q⟩:=bS q;exact ⟨Φ,δ,F,x,Y,Z,hx,fun v H1 F1 s1 r1=>⟨Φ,δ,F1,l,Y,Z.step s1,hl,fun H2 F2 O=>⟨Φ,δ,F2,h,Y,Z.step (s1.trans O),W,fun H3 F3 U=>zO U.fh (r1.step (O.ff.trans U.ff) (O.hh.trans U.hh)) q (k.step ((s1.trans O).trans U))⟩⟩⟩
def rC (f:De->Option Dt):De->Option T:=fun δ=>(f δ).bind fun d=>(asI d).map fun i=>.leaf (.int (-i))
theorem lJ (h:DB X a fa):DO X (.UnaryOp .USub a pos) (rC fa):=PE.mono (Bv y0 h) fun σ H Q ⟨Φ,δ,F,t,U,W,q,k⟩=>by unfold rC at q;obtain ⟨x,O,q⟩:=bS q;obtain ⟨i,hi,q⟩:=mS q;cases q;exact ⟨Φ,δ,F,x,U,W,O,fun v H' F' st r=>⟨i,gU hi r,(k.step st).int st.fh⟩⟩
def du:List Dt->Option T
 | [.str x]=>if x.length<=qb0 then some (.leaf (.int x.length)) else none
 | [.tup l]=>some (.leaf (.int l.length))
 | [.lst l]=>some (.leaf (.int l.length))
 | _=>none
theorem c9 {F:Hp} {d:Dt} (r:RepBs K F H [d] vs):∃ v,vs=[v]/\RepB K F H d v:=by obtain ⟨v,q,rfl,h1,h2⟩:=r;cases h2;exact ⟨v,rfl,h1⟩
theorem cY:CRD K (fun xs H Q=>∃ x n,xs=[x]/\LenV K x H n/\Q (.int n) H) du:=by
 intro F H ds vs Q t U r q k;unfold du at q;split at q<;>first | (cases q;done) | skip
 . split at q
   . rename_i W;cases q;obtain ⟨v,rfl,O⟩:=c9 r;cases O;exact ⟨_,_,rfl,⟨W,rfl⟩,k.int U⟩
   . cases q
 . cases q;obtain ⟨v,rfl,O⟩:=c9 r;obtain ⟨a,vs,rfl,h1,h2⟩:=O;rw [<- h2.length] at k;exact ⟨_,_,rfl,.inr ⟨vs,U.tup h1,rfl⟩,k.int U⟩
 . cases q;obtain ⟨v,rfl,O⟩:=c9 r;obtain ⟨a,vs,rfl,h1,h2⟩:=O;rw [<- h2.length] at k;exact ⟨_,_,rfl,.inl ⟨vs,h1,rfl⟩,k.int U⟩
def jx:List Dt->Option (List Bool)
 | []=>some []
 | .bl b::r=>(jx r).map (b::·)
 | _=>none
theorem mR {F:Hp}:∀ {l:List Dt} {vs:List V} {bs:List Bool},Reps K F l vs->jx l=some bs->vs=bs.map V.bl
 | [],vs,bs,r,h=>by cases h;simp only [Reps] at r;exact r
 | d::l,vs,bs,r,h=>by
  cases d<;>first | cases h;done | skip
  simp only [jx] at h;obtain ⟨cs,q,h⟩:=mS h;cases h;simp only [Reps,Rep] at r;obtain ⟨v,U,rfl,rfl,O⟩:=r;rw [mR O q];rfl
def wC (f:List Bool->Bool):List Dt->Option T
 | [.lst l]=>(jx l).map fun bs=>.leaf (.bl (f bs))
 | _=>none
theorem BP {f:List Bool->Bool}:CRD K (fun xs H Q=>∃ (a:Addr) (bs:List Bool),xs=[.ref a]/\SqL K H a (bs.map V.bl)/\Q (.bl (f bs)) H) (wC f):=by
 intro F H ds vs Q t O r q k;unfold wC at q;split at q<;>first | (cases q;done) | skip
 obtain ⟨bs,W,q⟩:=mS q;cases q;obtain ⟨v,rfl,U⟩:=c9 r;obtain ⟨a,vs,rfl,h1,h2⟩:=U;have:=mR h2 W;subst this;exact ⟨a,bs,rfl,h1,k.bl O⟩
def fz:List Dt->Option T
 | [.lst l]=>some (.leaf (.tup l))
 | [.tup l]=>some (.leaf (.tup l))
 | _=>none
theorem gW:CRD K (fun xs H Q=>∃ p ys,xs=[.ref p]/\((SqL K H p ys/\∀ l,H l=none->Q (.ref l) (upd H l (.tup ys)))∨(SqT K H p ys/\Q (.ref p) H))) fz:=by
 intro F H ds vs Q t U r q k;unfold fz at q;split at q<;>first | (cases q;done) | skip
 . cases q;obtain ⟨v,rfl,O⟩:=c9 r;obtain ⟨a,vs,rfl,h1,h2⟩:=O;exact ⟨a,vs,rfl,.inl ⟨h1,fun p hp=>k.tup U h2 hp⟩⟩
 . cases q;obtain ⟨v,rfl,O⟩:=c9 r;rename_i l;have W:Rep K F (.tup l) v:=by simp only [Rep];exact O
   obtain ⟨a,vs,rfl,h1,h2⟩:=O;exact ⟨a,vs,rfl,.inr ⟨U.tup h1,k.leaf.here U W⟩⟩
def tW:List Dt->Option T
 | [.lst l]=>some (.lst l)
 | [.tup l]=>some (.lst l)
 | _=>none
theorem zP:CRD K (fun xs H Q=>∃ p ys,xs=[.ref p]/\(SqL K H p ys∨SqT K H p ys)/\∀ l,H l=none->Q (.ref l) (upd H l (.lst ys))) tW:=by
 intro F H ds vs Q t O r q k;unfold tW at q;split at q<;>first | (cases q;done) | skip
 . cases q;obtain ⟨v,rfl,U⟩:=c9 r;obtain ⟨a,vs,rfl,h1,h2⟩:=U;exact ⟨a,vs,rfl,.inl h1,fun p hp=>dq k O h2 hp⟩
 . cases q;obtain ⟨v,rfl,U⟩:=c9 r;obtain ⟨a,vs,rfl,h1,h2⟩:=U;exact ⟨a,vs,rfl,.inr (O.tup h1),fun p hp=>dq k O h2 hp⟩
end
variable {mg:Str->Option Value} {pins:List (Addr×Obj)} {σ:St} {s:qa4} {A:qd5} {Q:Value->qa4->Prop} {p1 pos':Pos} {Φ:Fm} {δ:De} {N:List Str}
section
variable {X:Cx} {o a b e c:Expr} {es:List Expr} {fa fb fo fe:De->Option Dt} {fs:De->Option (List Dt)} {pos apos cpos p:Pos} {x:Str} {sc:Scope} {i:Nat}
def kz (K:xA9) (mg:Str->Option Value) (x:Str) (d:Dt):Prop:=∃ v,(∃ u,mg x=some u/\RelV v u)/\∀ F,Rep K F d v
theorem dv {d:Dt} (h:aE sc x=true) (q:kz X.K X.mg x d) (e1:bV X sc:=by rfl):DL X (.Name x pos) (kD d):=by obtain ⟨v,h1,h2⟩:=q;exact tI (tE h h1 e1) h2
theorem gY {i:Str} (h:∃ u,mg x=some u/\RelV (.str i) u):kz K mg x (.str i):=⟨_,h,fun _=>gO⟩
def mT:Dt->Bool
 | _=>false
def tyD:Dt->String
 | .non=>"NoneType"
 | .bl _=>"bool"
 | .int _=>"int"
 | .str _=>"str"
 | .tup _=>"tuple"
 | .lst _=>"list"
 | .dct _ _=>"dict"
 | .dcT _ _=>"dict"
def xS (c:String):Dt->Bool
 | .non=>c=="NoneType"
 | .bl _=>c=="bool"||c=="int"
 | .int _=>c=="int"
 | .str _=>c=="str"
 | .tup _=>c=="tuple"
 | .lst _=>c=="list"
 | .dct _ _=>c=="dict"
 | .dcT _ _=>c=="dict"
theorem oy {E:Value->qa4->Prop} {c:Value} {b:Bool} {d:Dt} (I:Inv X pins σ H s) (q:RelV v u) (r:Rep X.K H d v) (hi:mT d=false) (e:xK9 X.K (.type (tyD d)) c=some b) (h:∀ tk,Q (.bool b) {s with toks:=tk}) :
  wpAny (model X.prog X.w) A (call (.builtin "isinstance") [u,c]) Q E s:=by
 cases d with
 | non=>simp only [Rep] at r;subst r;exact fL I q .non e h
 | bl y=>simp only [Rep] at r;subst r;exact fL I q (.bl y) e h
 | int y=>simp only [Rep] at r;subst r;exact fL I q (.int y) e h
 | str y=>simp only [Rep] at r;subst r;exact fL I q (.str y) e h
 | tup l =>simp only [Rep] at r;obtain ⟨a,vs,rfl,h1,h2⟩:=r;cases q;obtain ⟨its,_,Y,_⟩:=I.tuple h1;obtain ⟨o,O,U,_⟩:=Y;exact xD9 PySem.W.kitx_tuple I.kIn ⟨o,O,U⟩ e (fun z=>nomatch z) h
 | lst l =>simp only [Rep] at r;obtain ⟨a,vs,rfl,h1,h2⟩:=r;cases q;obtain ⟨its,_,Y,_⟩:=I.list h1;obtain ⟨o,n,O,U,_⟩:=Y;exact xD9 xQ9 I.kIn ⟨o,O,U⟩ e (fun z=>nomatch z) h
 | dct ks l =>simp only [Rep] at r;obtain ⟨a,kvs,rfl,h1,_⟩:=r;cases q;obtain ⟨_,_,vs,_,p⟩:=j9 I.hok h1;obtain ⟨o,es,ep,O,U,_⟩:=p;exact xD9 xL9 I.kIn ⟨o,O,U.1⟩ e (fun z=>nomatch z) h
 | dcT ks l =>simp only [Rep] at r;obtain ⟨a,kvs,rfl,h1,_⟩:=r;cases q;obtain ⟨_,_,xs,_,o,es,ep,O,U,_⟩:=(show ObjOk X.prog X.w H s.heap a (.dT kvs) from h1.ok I.hok);exact xD9 xL9 I.kIn ⟨o,O,U.1⟩ e (fun z=>nomatch z) h
def gp (K:xA9) (c:String):Prop:=∀ d:Dt,mT d=false->xK9 K (.type (tyD d)) (.type c)=some (xS c d)
theorem oz:cL X (.builtin "isinstance") (fun xs H Q=>∃ v c d b,xs=[v,.ty c]/\Rep X.K H d v/\mT d=false/\xK9 X.K (.type (tyD d)) (.type c)=some b/\Q (.bl b) H):=by intro pins s σ H xs us Q I r h;obtain ⟨v,c,d,b,rfl,rd,hi,e,q⟩:=h;obtain ⟨u,Y,rfl,U,O⟩:=sK r;cases O;exact oy I U rd hi e fun tk=>⟨.bl b,H,I.tok _,rfl,q⟩
def mU (c:String) (f:De->Option Dt):De->Option T:=fun δ=>(f δ).bind fun d=>if mT d then none else some (.leaf (.bl (xS c d)))
theorem ix {q:Str} {cs:String} (h:aE sc "isinstance"=true) (Z:aE sc q=true) (hm:X.mg "isinstance"=none) (Y:X.mg q=none) (hv:qe2 q=some (.type cs)) (hk:gp X.K cs) (ha:DB X a fa) (e1:bV X sc:=by rfl)
 (he:qa6 [a,.Name q p2] X.env=(false,eval a X.env)::qa6 [.Name q p2] X.env:=by rfl) (U:qa6 [.Name q p2] X.env=(false,eval (.Name q p2) X.env)::qa6 [] X.env:=by rfl) (W:(qk0 pos (qa6 [.Name q p2] X.env)).any (·.1)=false:=by rfl) :
  DO X (.Call (.Name "isinstance" p1) [a,.Name q p2] [] pos) (mU cs fa):=
 PE.mono (iq h oz hm jZ (cS ha (cS (tF (v:=.ty cs) Z Y hv rfl e1) eT U) he) e1 he W) fun σ H Q ⟨Φ,δ,F,t,hK,en,O,k⟩=>by
  unfold mU at O;obtain ⟨d,hd,O⟩:=bS O;cases hi:mT d with
  | true=>rw [hi] at O;cases O
  | false =>rw [hi] at O;cases O;exact ⟨Φ,δ,F,d,hK,en,hd,fun v H' F' st r=>⟨v,cs,d,_,rfl,r.rep st.fh,hi,hk d hi,(k.step st).bl st.fh⟩⟩
def MRD (K:xA9) (r:V->List V->Hp->VK->Prop) (g:Dt->List Dt->Option T):Prop:=∀ F H d v ds vs (Q:VK) t,Same F H->RepB K F H d v->RepBs K F H ds vs->g d ds=some t->KO K F H t Q->r v vs H Q
def kA (g:Dt->List Dt->Option T) (fo:De->Option Dt) (fs:De->Option (List Dt)):De->Option T:=fun δ=>(fo δ).bind fun d=>(fs δ).bind fun ds=>g d ds
theorem tX {name:Str} {id:String} {r:V->List V->Hp->VK->Prop} {g:Dt->List Dt->Option T} (slot:Slot "str" name id) (hty:typeOf (.builtin id)=pure (.type "method_descriptor")) (hm:MtR X id r) (hr:MRD X.K r g) (hg:∀ d ds t,g d ds=some t->∃ z,d=.str z)
  (ho:DB X o fo) (ha:DAB X (e::es) fs)
  (U:qo4 o name X.env (eval o X.env)=eval o X.env:=by rfl)
  (Z:((qk0 cpos (qa6 (e::es) X.env)).all (fun x=>!x.1)&&(zh0 cpos (qw6 [] X.env)).all (fun x=>x.1.isSome)
   && decide ((e::es).length+([]:List qu3).length+(if ([]:List qu3).isEmpty then 0 else 1)<30))=true:=by rfl)
  (W:(apos.endLine==cpos.line)=true:=by rfl) (hs:qa6 (e::es) X.env=(false,eval e X.env)::qa6 es X.env:=by rfl) (O:(qk0 cpos (qa6 es X.env)).any (·.1)=false:=by rfl) :
  DO X (.Call (.Attribute o name apos) (e::es) [] cpos) (kA g fo fs):=PE.mono (sU PySem.F.plainAttrs_str slot hty hm ho ha.pa U Z W hs O) fun σ H Q ⟨Φ,δ,F,t,hK,en,Y,k⟩=>by
 unfold kA at Y;obtain ⟨d,hd,Y⟩:=bS Y;obtain ⟨ds,hds,Y⟩:=bS Y;refine ⟨Φ,δ,F,d,hK,en,hd,fun v H1 F1 st rv=>⟨?_,Φ,δ,F1,ds,hK,en.step st,hds,fun vs H2 F2 q rvs=>hr F2 H2 d v ds vs Q t q.fh (rv.step q.ff q.hh) rvs Y (k.step (st.trans q))⟩⟩;obtain ⟨z,rfl⟩:=hg d ds t Y;cases rv;rfl
def fA:List Dt->Option (List Str)
 | []=>some []
 | .str b::r=>(fA r).map (b::·)
 | _=>none
theorem iy {F:Hp}:∀ {l:List Dt} {vs:List V} {bs:List Str},Reps K F l vs->fA l=some bs->vs=bs.map V.str
 | [],vs,bs,r,h=>by cases h;simp only [Reps] at r;exact r
 | d::l,vs,bs,r,h=>by
  cases d<;>first | cases h;done | skip
  simp only [fA] at h;obtain ⟨cs,q,h⟩:=mS h;cases h;simp only [Reps,Rep] at r;obtain ⟨v,U,rfl,rfl,O⟩:=r;rw [iy O q];rfl
def gq:Dt->List Dt->Option T
 | .str a,[.lst l]=>(fA l).bind fun ts=>if JoinOk a ts then some (.leaf (.str (Txt.join a ts))) else none
 | _,_=>none
theorem wE:MRD K (fun x vs H Q=>∃ (a:Str) (l:Addr) (ts:List Str),x=.str a/\vs=[.ref l]/\SqL K H l (ts.map V.str)/\JoinOk a ts=true/\Q (.str (Txt.join a ts)) H) gq:=by
 intro F H d v ds vs Q t W rd O q k;unfold gq at q;split at q<;>first | cases q;done | skip
 obtain ⟨ts,U,q⟩:=bS q;split at q
 . rename_i Y;cases q;cases rd;obtain ⟨v,rfl,Z⟩:=c9 O;obtain ⟨a,vs,rfl,h1,h2⟩:=Z;have:=iy h2 U;subst this;exact ⟨_,a,ts,rfl,rfl,h1,Y,k.str W⟩
 . cases q
theorem oA:∀ d ds t,gq d ds=some t->∃ z,d=.str z:=fun d ds t h=>by
 unfold gq at h;split at h
 . exact ⟨_,rfl⟩
 . cases h
theorem wF (ho:DB X o fo) (Z:DAB X (e::es) fs)
  (O:qo4 o "join" X.env (eval o X.env)=eval o X.env:=by rfl)
  (W:((qk0 cpos (qa6 (e::es) X.env)).all (fun x=>!x.1)&&(zh0 cpos (qw6 [] X.env)).all (fun x=>x.1.isSome)
   && decide ((e::es).length+([]:List qu3).length+(if ([]:List qu3).isEmpty then 0 else 1)<30))=true:=by rfl)
  (U:(apos.endLine==cpos.line)=true:=by rfl) (Y:qa6 (e::es) X.env=(false,eval e X.env)::qa6 es X.env:=by rfl) (q:(qk0 cpos (qa6 es X.env)).any (·.1)=false:=by rfl) :
  DO X (.Call (.Attribute o "join" apos) (e::es) [] cpos) (kA gq fo fs):=tX PySem.F.slot_str_join PySem.F.type_str_join we wE oA ho Z O W U Y q
def q14 (i:Nat) (f:De->Option Dt):De->Option Out:=fun δ=>match δ[i]? with
 | some (some (.lst l))=>(f δ).bind fun d=>if l.length<qb0 then some (.nx (δ.set i (some (.lst (l++[d]))))) else none
 | _=>none
theorem En.ownL {F:Hp} (q:En Φ δ σ F H) (h:δ[i]?=some (some (.lst l))):∃ a vs,σ[i]?=some (some (.ref a))/\H a=some (.lst vs)/\Reps Φ.K F l vs:=by obtain ⟨v,O⟩:=q.has i _ h;obtain ⟨S,s⟩:=q.sep;obtain ⟨a,vs,rfl,_,h1,h2⟩:=s.own i _ v (bK h O);exact ⟨a,vs,O,h1,h2⟩
theorem ci (hx:PE X o (f9 i)) (he:DL X e fe)
  (U:qo4 o "append" X.env (eval o X.env)=eval o X.env:=by rfl)
  (Y:((qk0 cpos (qa6 [e] X.env)).all (fun x=>!x.1)&&(zh0 cpos (qw6 [] X.env)).all (fun x=>x.1.isSome)
   && decide ([e].length+([]:List qu3).length+(if ([]:List qu3).isEmpty then 0 else 1)<30))=true:=by rfl)
  (W:(apos.endLine==cpos.line)=true:=by rfl) (hs:qa6 [e] X.env=(false,eval e X.env)::qa6 [] X.env:=by rfl) (q:(qk0 cpos (qa6 [] X.env)).any (·.1)=false:=by rfl)
  (hsw:qm0 (.Call (.Attribute o "append" apos) [e] [] cpos) none pos.line X.env=pure false:=by rfl) :
  DS1 X (.Expr (.Call (.Attribute o "append" apos) [e] [] cpos) pos) (q14 i fe):=
 PS.mono (px (sU PySem.F.plainAttrs_list PySem.F.slot_list_append PySem.F.type_list_append im hx (cS he eT hs) U Y W hs q) hsw) fun D σ H ⟨Φ,δ,F,ot,hK,en,O,k⟩=>by
  unfold q14 at O;split at O<;>first | cases O;done | skip
  rename_i l hl;obtain ⟨d,hd,O⟩:=bS O;split at O<;>first | cases O;done | skip
  rename_i hz;cases O;obtain ⟨a,vs,hv,h1,h2⟩:=en.ownL hl;refine ⟨.ref a,hv,.inl ⟨rfl,vs,.inl (.inl h1)⟩,Φ,δ,F,d,hK,en,hd,fun v H1 F1 st rv=>?_⟩;have Z:=en.step st;have h1':=st.hh _ _ h1;refine ⟨a,vs,v,rfl,rfl,h1',by rw [h2.length];exact hz,?_⟩;refine k σ F1 _ (Z.poke hl hv rfl fun S sa=>⟨a,vs++[v],rfl,sa,aQ,(h2.same st.ff).append (Reps.one (hK▸rv))⟩)
noncomputable def sPutL (i:Nat) (fk fe:De->Option Dt):De->Option Out:=fun δ=>(fe δ).bind fun d=>(fk δ).bind fun k=>match δ[i]?,k with
 | some (some (.lst l)),.int n=>(ixN l.length n).map fun j=>.nx (δ.set i (some (.lst (l.set j d))))
 | _,_=>none
theorem Reps.set {F:Hp} {d:Dt} (h:Rep K F d v):∀ {l:List Dt} {vs:List V} (j:Nat),Reps K F l vs->Reps K F (l.set j d) (vs.set j v)
 | [],vs,j,r=>by simp only [Reps] at r;subst r;simp [Reps]
 | e::l,vs,0,r=>by simp only [Reps] at r;obtain ⟨w,O,rfl,_,q⟩:=r;simp only [qy6,Reps];exact ⟨v,O,rfl,h,q⟩
 | e::l,vs,j+1,r=>by simp only [Reps] at r;obtain ⟨w,O,rfl,U,q⟩:=r;simp only [qs5,Reps];exact ⟨w,_,rfl,U,Reps.set h j q⟩
def rD (f:Int->Int->Int) (i:Nat) (fe:De->Option Dt):De->Option Out:=fun δ=>match δ[i]? with
 | some (some (.leaf (.int n)))=>(fe δ).bind fun d=>(asI d).map fun m=>.nx (δ.set i (some (.leaf (.int (f n m)))))
 | _=>none
theorem zQ {f:Int->Int->Int} {D:Ends} (h:tS K (rD f i fe) D σ H):tAug i (tBd K fe) (ipI f) D σ H:=by
 obtain ⟨Φ,δ,F,ot,Z,O,q,k⟩:=h;unfold rD at q;split at q<;>first | cases q;done | skip
 rename_i n W;obtain ⟨d,hd,q⟩:=bS q;obtain ⟨m,hm,q⟩:=mS q;cases q;obtain ⟨v,Y,U⟩:=O.leaf W;simp only [Rep] at U;subst U;exact ⟨_,Y,Φ,δ,F,d,Z,O,hd,fun w H1 F1 st r=>⟨n,m,rfl,gU hm r,k _ F1 H1 ((O.step st).name fN i)⟩⟩
theorem oB (h:cu sc N i x=true) (W:gl sc x=true) (Z:N.Nodup) (O:DB X e fe) (e1:bV X sc:=by rfl) (Y:X.N=N:=by rfl) (U:X.fn x=true∨X.env.scope.names.lookup x=some .local:=by exact .inl rfl) :
  DS1 X (.AugAssign (.Name x pos') .Add e pos) (rD (fun i j=>i+j) i fe):=by
 have e1:X.env.scope=sc:=e1;subst e1 Y;exact PS.mono (yT Z (e8 h) (ip W) O yU U) fun D σ H q=>zQ q
end
def cq {κ:Type} [DecidableEq κ]:List κ->List Dt->κ->Option Dt
 | k'::ks,d::l,k=>if k'=k then some d else cq ks l k
 | _,_,_=>none
theorem fO {κ:Type} [DecidableEq κ] {F:Hp} {k:κ}:∀ {kvs:List (κ×V)} {l:List Dt} {d:Dt},Reps K F l (kvs.map (·.2))->cq (kvs.map (·.1)) l k=some d->∃ v,gj kvs k=some v/\Rep K F d v
 | [],l,d,r,h=>by cases l<;>cases h
 | p::kvs,[],d,r,h=>by cases h
 | p::kvs,e::l,d,r,h=>by
  simp only [qa5,Reps] at r;obtain ⟨v,W,q,U,O⟩:=r;cases q;simp only [qa5,cq] at h;by_cases hk:p.1=k
  . rw [if_pos hk] at h;cases h;exact ⟨p.2,gF hk,U⟩
  . rw [if_neg hk] at h;rw [eV hk];exact fO O h
theorem kE {κ:Type} [DecidableEq κ] {F:Hp} {k:κ}:∀ {kvs:List (κ×V)} {l:List Dt},Reps K F l (kvs.map (·.2))->cq (kvs.map (·.1)) l k=none->gj kvs k=none
 | [],l,r,h=>rfl
 | p::kvs,[],r,h=>by simp only [qa5,Reps] at r;cases r
 | p::kvs,e::l,r,h=>by
  simp only [qa5,Reps] at r;obtain ⟨v,U,q,W,O⟩:=r;cases q;simp only [qa5,cq] at h;by_cases hk:p.1=k
  . rw [if_pos hk] at h;cases h
  . rw [if_neg hk] at h;rw [eV hk];exact kE O h
def oC:Dt->Option Key
 | .int i=>some (.inl i)
 | .str x=>some (.inr x)
 | _=>none
theorem i6 {F:Hp} {d:Dt} {k:Key} (r:RepB K F H d v) (h:oC d=some k):v=kV k:=by
 unfold oC at h;split at h<;>first | (cases h;done) | skip
 . cases h;exact r
 . cases h;exact r
def aq:Dt->Dt->Option T
 | .dct ks l,k=>(oC k).bind fun k=>(cq ks l k).map .leaf
 | x,y=>gIx x y
section
variable {X:Cx} {o a b e c:Expr} {es:List Expr} {fa fb fo fe fk:De->Option Dt} {fs:De->Option (List Dt)} {pos apos cpos p:Pos} {x:Str} {sc:Scope} {i:Nat}
theorem aj {k:Nat} (hr:Room k X.A) (ha:DB X a fa) (hb:DB X b fb) (hs:pJ b:=by exact fun _ _=>rfl) (hn:v8 b:=by exact fun _ _=>rfl):DO X (.Subscript a b pos) (d2 aq fa fb):=
 PE.mono (PE.or (BB zn ha hb hs) (pO (jg hr) ha hb hn)) fun σ H Q ⟨Φ,δ,F,t,W,Z,q,k⟩=>by
  unfold d2 at q;obtain ⟨x,hx,q⟩:=bS q;obtain ⟨y,hy,q⟩:=bS q;unfold aq at q;split at q
  . rename_i ks l _;obtain ⟨kk,hk,q⟩:=bS q;obtain ⟨d,hd,q⟩:=mS q;cases q;refine .inr ⟨Φ,δ,F,_,W,Z,hx,fun v H1 F1 st rv=>⟨Φ,δ,F1,y,W,Z.step st,hy,fun v2 H2 F2 O U=>?_⟩⟩;obtain ⟨ad,kvs,rfl,h1,h2,h3⟩:=rv;subst h2;obtain ⟨w,hw,Y⟩:=fO h3 hd;have:=i6 U hk;subst this;exact ⟨ad,w,rfl,.inl ⟨kvs,kk,O.hh.rd h1,rfl,hw.symm⟩,(k.step (st.trans O)).leaf.here O.fh (Y.same O.ff)⟩
  . exact .inl (ko r_ix ⟨Φ,δ,F,t,W,Z,by unfold d2;rw [hx,hy];exact q,k⟩)
def bA (neg:Bool):Dt->Dt->Option T
 | k,.dct ks l=>(oC k).map fun k=>.leaf (.bl (if neg then !(cq ks l k).isSome else (cq ks l k).isSome))
 | x,y=>gIn neg x y
theorem lK {κ:Type} [DecidableEq κ] {F:Hp} {k:κ} {kvs:List (κ×V)} (r:Reps K F l (kvs.map (·.2))):(cq (kvs.map (·.1)) l k).isSome=(gj kvs k).isSome:=by
 cases h:cq (kvs.map (·.1)) l k with
 | none=>rw [kE r h];rfl
 | some d =>obtain ⟨v,e,_⟩:=fO r h;rw [e];rfl
theorem BQ {Q:VK} (h:tO K (d2 (bA false) fa fb) σ H Q):tOp (tT K false) (tBd K fa) (tBd K fb) σ H Q∨tDIn (tBd K fa) (tBd K fb) σ H Q:=by
 obtain ⟨Φ,δ,F,t,W,Y,q,k⟩:=h;unfold d2 at q;obtain ⟨x,hx,q⟩:=bS q;obtain ⟨y,Z,q⟩:=bS q;unfold bA at q;split at q
 . rename_i ks l;obtain ⟨kk,hk,q⟩:=mS q;cases q;refine .inr ⟨Φ,δ,F,x,W,Y,hx,fun v H1 F1 st rv=>⟨Φ,δ,F1,_,W,Y.step st,Z,fun v2 H2 F2 O U=>?_⟩⟩;obtain ⟨ad,kvs,rfl,h1,h2,h3⟩:=U;subst h2;have:=i6 rv hk;subst this;refine ⟨ad,_,rfl,.inl ⟨kvs,kk,h1,rfl,rfl⟩,?_⟩;rw [<- lK h3];exact (k.step (st.trans O)).bl O.fh
 . exact .inl (ko (r_in false) ⟨Φ,δ,F,t,W,Y,by unfold d2;rw [hx,Z];exact q,k⟩)
theorem tY {Q:VK} (h:tO K (d2 (bA true) fa fb) σ H Q):tOp (tT K true) (tBd K fa) (tBd K fb) σ H Q∨pM (tBd K fa) (tBd K fb) σ H Q:=by
 obtain ⟨Φ,δ,F,t,W,Y,q,k⟩:=h;unfold d2 at q;obtain ⟨x,hx,q⟩:=bS q;obtain ⟨y,Z,q⟩:=bS q;unfold bA at q;split at q
 . rename_i ks l;obtain ⟨kk,hk,q⟩:=mS q;cases q;refine .inr ⟨Φ,δ,F,x,W,Y,hx,fun v H1 F1 st rv=>⟨Φ,δ,F1,_,W,Y.step st,Z,fun v2 H2 F2 O U=>?_⟩⟩;obtain ⟨ad,kvs,rfl,h1,h2,h3⟩:=U;subst h2;have:=i6 rv hk;subst this;refine ⟨ad,_,rfl,.inl ⟨kvs,kk,h1,rfl,rfl⟩,?_⟩;rw [<- lK h3];exact (k.step (st.trans O)).bl O.fh
 . exact .inl (ko (r_in true) ⟨Φ,δ,F,t,W,Y,by unfold d2;rw [hx,Z];exact q,k⟩)
theorem PT.or {t t':TT} (h:PT X e t) (h':PT X e t'):PT X e (fun σ H Q=>t σ H Q∨t' σ H Q):=fun pins s σ H Q I q=>q.elim (h pins s σ H Q I) (h' pins s σ H Q I)
theorem xT {g:Dt->Dt->Option T} {Q:Bool->Hp->Prop} (h:tTr K (tB2 g fa fb) σ H Q):tO K (d2 g fa fb) σ H (fun v H'=>∃ c,v=.bl c/\Q c H'):=by obtain ⟨Φ,δ,F,t,O,U,q,k⟩:=h;unfold tB2 at q;obtain ⟨z,W,q⟩:=bS q;exact ⟨Φ,δ,F,z,O,U,W,fun v H' F' S st o Y=>⟨t,pU q o,k H' F' st⟩⟩
theorem fY {k:Nat} (W:Room k X.A) (q:DB X a fa) (O:DB X b fb) (U:qk5 .In b=false:=by with_unfolding_all rfl):DT X (.Compare a [.In] [b] pos) (tB2 (bA false) fa fb):=PT.mono (PT.or (lj zM q O U) (nU (zt (jg W) q O) U)) fun σ H Q h=>BQ (xT h)
theorem dG {k:Nat} (W:Room k X.A) (q:DB X a fa) (O:DB X b fb) (U:qk5 .NotIn b=false:=by with_unfolding_all rfl):DT X (.Compare a [.NotIn] [b] pos) (tB2 (bA true) fa fb):=PT.mono (PT.or (lj rB q O U) (nU (ka (jg W) q O) U)) fun σ H Q h=>tY (xT h)
def tZ:De->Option T:=fun _=>some (.dct [])
theorem p6:DO X (.Dict [] [] pos) tZ:=PE.mono sY fun σ H Q ⟨Φ,δ,F,t,U,q,O,k⟩=>by
 cases O;intro p hp;refine k _ _ F (fun b=>b=p) (Step.made q.fh hp) ⟨p,[],rfl,rfl,aQ,rfl,by simp [Reps]⟩ fun b z=>?_
 subst z;exact ⟨q.fh.free hp,hp,_,aQ,nofun⟩
def gr {κ:Type} [DecidableEq κ]:List (κ×Dt)->κ->Dt->List (κ×Dt)
 | [],k,d=>[(k,d)]
 | p::l,k,d=>if p.1=k then (p.1,d)::l else p::gr l k d
noncomputable def rE (i:Nat) (fk fe:De->Option Dt):De->Option Out:=fun δ=>(fe δ).bind fun d=>(fk δ).bind fun k=>match δ[i]? with
 | some (some (.lst l))=>(asI k).bind fun n=>(ixN l.length n).map fun j=>.nx (δ.set i (some (.lst (l.set j d))))
 | some (some (.dct l))=>(oC k).bind fun k=>if l.length<qb0/\(l.map (·.1)).Nodup then some (.nx (δ.set i (some (.dct (gr l k d))))) else none
 | _=>none
theorem p7 {κ:Type} [DecidableEq κ] (k:κ) (v:V):∀ (kvs:List (κ×V)) (l:List (κ×Dt)) (d:Dt),(kvs.map (·.1)).Nodup->kvs.map (·.1)=l.map (·.1)->(eh kvs k v).map (·.1)=(gr l k d).map (·.1)∧
  ∀ (K:xA9) (F:Hp),Rep K F d v->Reps K F (l.map (·.2)) (kvs.map (·.2))->Reps K F ((gr l k d).map (·.2)) ((eh kvs k v).map (·.2)):=by
 have key:∀ (kvs:List (κ×V)),(kvs.map (·.1)).Nodup->eh kvs k v=match kvs with | []=>[(k,v)] | p::r=>if p.1=k then (p.1,v)::r else p::eh r k v:=fun kvs Y=>by
  cases kvs with
  | nil=>rfl
  | cons p r =>
   dsimp only;by_cases hp:p.1=k
   . rw [if_pos hp];unfold eh;rw [if_pos (by simp [hp])];simp only [qa5,if_pos hp];congr 1
     have hk:∀ q∈r,¬ q.1=k:=fun q hq z=>by have:=(qi1.mp Y).1;exact this (show p.1∈r.map (·.1) by rw [hp,<- z];exact qj4 hq)
     exact (List.map_congr_left fun q hq=>if_neg (hk q hq)).trans (List.map_id' r)
   . rw [if_neg hp];unfold eh;have e:(p::r).any (fun kv=>decide (kv.1=k))=r.any fun kv=>decide (kv.1=k):=by simp [hp]
     rw [e];split
     . simp only [qa5,if_neg hp]
     . rfl
 intro kvs;induction kvs with
 | nil =>
  intro l d Y O;cases l with
  | nil=>exact ⟨rfl,fun K F r _=>by simpa [gr,eh] using Reps.one r⟩
  | cons q l=>cases O
 | cons p r ih =>
  intro l d Y O;cases l with
  | nil=>cases O
  | cons q l =>
   simp only [qa5,List.cons.injEq] at O;have hn':=(qi1.mp Y).2;rw [key _ Y];simp only [gr];rw [<- O.1];by_cases hp:p.1=k
   . rw [if_pos hp,if_pos hp];refine ⟨by simp [O.2],fun K F rd U=>?_⟩;simp only [qa5,Reps] at U ⊢;obtain ⟨w,ws,Z,r1,r2⟩:=U;cases Z;exact ⟨_,_,rfl,rd,r2⟩
   . rw [if_neg hp,if_neg hp];obtain ⟨i1,i2⟩:=ih l d hn' O.2;refine ⟨by simp [O.1,i1],fun K F rd U=>?_⟩;simp only [qa5,Reps] at U ⊢;obtain ⟨w,ws,Z,r1,r2⟩:=U;cases Z;exact ⟨_,_,rfl,r1,i2 K F rd r2⟩
theorem PS.or {e:Stmt} {t t':TS} (h:PS X e t) (h':PS X e t'):PS X e (fun σ H Q=>t σ H Q∨t' σ H Q):=fun pins s σ H Q I q=>q.elim (h pins s σ H Q I) (h' pins s σ H Q I)
theorem En.ownD {F:Hp} (O:En Φ δ σ F H) {l:List (Key×Dt)} (h:δ[i]?=some (some (.dct l))):∃ a kvs,σ[i]?=some (some (.ref a))/\H a=some (.dK kvs)/\kvs.map (·.1)=l.map (·.1)/\Reps Φ.K F (l.map (·.2)) (kvs.map (·.2)):=by obtain ⟨v,q⟩:=O.has i _ h;obtain ⟨S,s⟩:=O.sep;obtain ⟨a,vs,rfl,_,h1,h2,h3⟩:=s.own i _ v (bK h q);exact ⟨a,vs,q,h1,h2,h3⟩
theorem t0 {k:Nat} {ox ik:Expr} (hr:Room k X.A) (hx:PE X ox (f9 i)) (hk:DB X ik fk) (he:DL X e fe)
  (hs:qm0 e (some (.Subscript ox ik apos)) pos.line X.env=pure false:=by rfl)
  (hs1:zg6 [.Subscript ox ik apos] e pos.line X.env=pure false:=by rfl) (hw:zg7 [.Subscript ox ik apos] e X.env=pure none:=by rfl)
  (h1:(qi4 [.Subscript ox ik apos] X.env).map (·.2)=[zd5 (.Subscript ox ik apos) X.env]:=by rfl)
  (ha:∀ v,zd5 (.Subscript ox ik apos) X.env v=(do
   let ov <- zd6 [v] (eval ox X.env);let iv <- zd6 [v,ov] (eval ik X.env)
   standAt apos
   zd6 [v,ov,iv] (setItem ov iv v)
   release [v,ov,iv] []):=by intro _;rfl):DS1 X (.Assign [.Subscript ox ik apos] e pos) (rE i fk fe):=
 PS.mono (PS.or (sE he (yR hx hk sO ha) hs1 hw h1) (pP (jg hr) hx hk he hs)) fun D σ H ⟨Φ,δ,F,ot,Z,en,O,k⟩=>by
  unfold rE at O;obtain ⟨d,hd,O⟩:=bS O;obtain ⟨kd,hkd,O⟩:=bS O;split at O<;>first | (cases O;done) | skip
  . rename_i l hl;obtain ⟨n,hn,O⟩:=bS O;obtain ⟨j,hj,O⟩:=mS O;cases O;refine .inl ⟨Φ,δ,F,d,Z,en,hd,fun v H1 F1 st rv=>?_⟩;have U:=en.step st;obtain ⟨a,vs,hv,h1,h2⟩:=U.ownL hl;refine ⟨.ref a,hv,Φ,δ,F1,kd,Z,U,hkd,fun w H2 F2 q Y=>?_⟩;have W:=U.step q;refine ⟨a,vs,n,j,rfl,gU hn Y,q.hh _ _ h1,by rw [h2.length];exact hj,?_⟩;exact k σ F2 _ (W.poke hl hv rfl fun S sa=>⟨a,_,rfl,sa,aQ,Reps.set (Z▸rv.same q.ff) j (h2.same q.ff)⟩)
  . rename_i l hl;obtain ⟨kk,hkk,O⟩:=bS O;split at O<;>first | (cases O;done) | skip
    rename_i hc;cases O;refine .inr ⟨Φ,δ,F,d,Z,en,hd,fun v H1 F1 st rv=>?_⟩;have U:=en.step st;obtain ⟨a,kvs,hv,h1,h2,h3⟩:=U.ownD hl;refine ⟨.ref a,hv,Φ,δ,F1,kd,Z,U,hkd,fun w H2 F2 q Y=>?_⟩;have W:=U.step q;have:=i6 Y hkk;subst this;have hlen:kvs.length=l.length:=by simpa using congrArg za9 h2
    refine ⟨a,_,rfl,.inl ⟨kvs,kk,q.hh _ _ h1,rfl,by rw [hlen];exact hc.1,rfl⟩,?_⟩;obtain ⟨p1,p2⟩:=p7 kk v kvs l d (by rw [h2];exact hc.2) h2;exact k σ F2 _ (W.poke hl hv rfl fun S sa=>⟨a,_,rfl,sa,aQ,p1,p2 _ _ (Z▸rv.same q.ff) (h3.same q.ff)⟩)
end
section
variable {prog:qc8} {w:World} {A:qd5} {E:Value->qa4->Prop} {s:qa4} {I t:Addr} {j:Nat} {vs:Array Value}
theorem oD {y:Value} (W:s.heap.IsTupleIter I t j) (hv:s.heap.IsTuple t vs) (hy:vs[j]?=some y)
 (q:∀ h',h'.IsTupleIter I t (j+1)->qo0 I s.heap h'->Q y {s with heap:=h'}):wpAny (model prog w) A (qm7 (.ref I)) Q E s:=by
 obtain ⟨oi,U,Z,O⟩:=id W;obtain ⟨ot,Y,_,nt,hdt⟩:=hv;unfold qm7;refine wB (qe3 (name:=qa0 "__next__") W.typeIs ql7 (qe7 ql7 W.typeIs qw9 ?_ (qv3 _)));show wpAny _ _ (field (.ref I) 0 >>= _) _ _ s;refine wB (qt2 U O (x:=.ref t) rfl ?_);show wpAny _ _ (if (qf1 t==qh1)=true then _ else _) _ _ s;rw [if_neg (show ¬ (qf1 t==qh1)=true by exact qb6)];show wpAny _ _ (field (.ref I) 1 >>= _) _ _ s;refine wB (qt2 U O (x:=.int j 0) rfl ?_);show wpAny _ _ (seqItems? (.ref t) >>= _) _ _ s;refine wB (qt9 Y hdt ?_);simp only [qd9,hy];refine qg9 (qj5 U O (by simp) (qa2 ⟨y,rfl,qa2 (q _ ?_ (qe6 ..))⟩));exact ⟨_,qe4 _ U (qh7 (qe0 O _)),(qq1 ..).trans Z,by rw [qe0 O];simp [qf2]⟩
theorem rF (hh:A.handled=none) (W:s.heap.IsTupleIter I t j) (hv:s.heap.IsTuple t vs) (hy:vs[j]?=none)
 (q:∀ h' e,zg2 I s.heap h'->(∃ o,h'.get? e=some o/\o.cls=.type "StopIteration")->E (.ref e) {s with heap:=h'}):wpAny (model prog w) A (qm7 (.ref I)) Q E s:=by
 obtain ⟨oi,O,hci,U⟩:=id W;obtain ⟨ot,Y,_,nt,Z⟩:=hv;unfold qm7;refine wB (qe3 (name:=qa0 "__next__") W.typeIs ql7 (qe7 ql7 W.typeIs qw9 ?_ (qv3 _)));show wpAny _ _ (field (.ref I) 0 >>= _) _ _ s;refine wB (qt2 O U (x:=.ref t) rfl ?_);show wpAny _ _ (if (qf1 t==qh1)=true then _ else _) _ _ s;rw [if_neg (show ¬ (qf1 t==qh1)=true by exact qb6)];show wpAny _ _ (field (.ref I) 1 >>= _) _ _ s;refine wB (qt2 O U (x:=.int j 0) rfl ?_);show wpAny _ _ (seqItems? (.ref t) >>= _) _ _ s;refine wB (qt9 Y Z ?_);simp only [qd9,hy];refine qg9 (qw0 (qg9 (qj5 O U (by simp) ?_)));show wpAny _ _ (zh1 (.type "StopIteration") [] >>= _) _ _ _;refine wB ?_;simp only [zh1,zi7];refine wB (qd2 ?_ (by first | size_fits | decide));refine qg9 (m:=qm8 _ _) (zb4 (a:=qh1) (by first | rfl | (simp only [qm8]<;>rfl)) ?_);refine qd2 ?_ (by first | size_fits | decide);simp only [zh2];refine wB (zb5 ?_)
 first | rw [hh] | rw [show A.in1.handled=none by exact hh]
 refine wB (qa2 (zg3 ?_));exact q _ _ (((qe6 ..).extBut.push _).push _) ⟨_,qa8 _ rfl,rfl⟩
end
variable {prog:qc8} {w:World}
theorem mV (W:A.handled=none) (I t:Addr) (q:t≠I) (vs:Array Value):Draws prog w A I [I,t] vs.size (fun i v=>vs[i]?=some v) (fun i h=>h.IsTupleIter I t i/\h.IsTuple t vs) where
 live:=fun _ _ st=>let ⟨o,ho,_⟩:=st.1;⟨o,ho⟩
 frame:=fun _ _ _ st hk=>⟨let ⟨o,ho,r⟩:=st.1;⟨o,hk I (by simp) o ho,r⟩,let ⟨o,ho,r⟩:=st.2;⟨o,hk t (by simp) o ho,r⟩⟩
 item:=fun i s Q E hi st O=>oD st.1 st.2 (y:=vs[i]) (by simp [hi]) fun h' a b=>O _ h' s.toks (by simp [hi]) ⟨a,let ⟨o,ho,r⟩:=st.2;⟨o,b.extBut _ _ q ho,r⟩⟩ b
 done:=fun s Q E st U=>rF W st.1 st.2 (by simp) U
def SqB (b:Bool) (K:xA9) (H:Hp) (a:Addr) (xs:List V):Prop:=match b with
 | true=>SqL K H a xs
 | false=>SqT K H a xs
def ItB (b:Bool) (h:Heap) (I a:Addr) (i:Nat):Prop:=match b with
 | true=>h.IsListIter I a i
 | false=>h.IsTupleIter I a i
def CoB (b:Bool) (h:Heap) (a:Addr) (vs:Array Value):Prop:=match b with
 | true=>h.IsList a vs
 | false=>h.IsTuple a vs
variable {h:Heap} {I a:Addr} {i:Nat}
theorem ItB.obj (x:ItB b h I a i):∃ o,h.get? I=some o/\(o.cls=.type "list_iterator"∨o.cls=.type "tuple_iterator")/\∀ v,o.data≠.cell v:=by
 cases b with
 | true=>obtain ⟨o,e,c,d⟩:=x;exact ⟨o,e,.inl c,fun v z=>by rw [d] at z;cases z⟩
 | false=>obtain ⟨o,e,c,d⟩:=x;exact ⟨o,e,.inr c,fun v z=>by rw [d] at z;cases z⟩
variable {h':Heap}
theorem ItB.at (x:ItB b h I a i) (k:∀ o,h.get? I=some o->h'.get? I=some o):ItB b h' I a i:=by
 cases b with
 | true=>obtain ⟨o,e,r⟩:=x;exact ⟨o,k o e,r⟩
 | false=>obtain ⟨o,e,r⟩:=x;exact ⟨o,k o e,r⟩
theorem CoB.obj {vs:Array Value} (x:CoB b h a vs):∃ o,h.get? a=some o/\(o.cls=.type "list"∨o.cls=.type "tuple"):=by
 cases b with
 | true=>obtain ⟨o,e,c,_⟩:=x;exact ⟨o,e,.inl c⟩
 | false=>obtain ⟨o,e,c,_⟩:=x;exact ⟨o,e,.inr c⟩
theorem xU {x y:String} (h:x≠y):qj9 x≠qj9 y:=fun z=>h (by cases z;rfl)
theorem t4 {c:Bool} {l:Addr} {vs:Array Value} (x:ItB b h I a i) (y:CoB c h l vs):l≠I:=by obtain ⟨o,W,O,_⟩:=x.obj;obtain ⟨o',U,q⟩:=y.obj;rintro rfl;rw [W] at U;cases U;rcases O with O | O<;>rcases q with q | q<;>rw [O] at q<;>exact absurd q (xU (by decide))
variable {t':Nat} {fp:List Addr}
section
variable {X:Cx} {pins:List (Addr×Obj)} {σ:St} {H:Hp} {s:qa4} {a I:Addr} {xs:List V} {b:Bool}
theorem Inv.seqB (J:Inv X pins σ H s) (h:SqB b X.K H a xs):∃ its:List Value,Vals xs its/\CoB b s.heap a its.toArray:=by
 cases b with
 | true=>obtain ⟨its,r,p,_⟩:=J.list h;exact ⟨its,r,p.isList⟩
 | false=>obtain ⟨its,r,p,_⟩:=J.tuple h;exact ⟨its,r,p⟩
theorem Inv.seqB_inj {ys:List V} (J:Inv X pins σ H s) (h:SqB b X.K H a xs) (h':SqB b X.K H a ys):xs=ys:=by
 cases b with
 | true=>exact J.list_inj h h'
 | false=>exact J.tuple_inj h h'
theorem t5 (O:A.handled=none) (q:a≠I) (vs:Array Value):Draws prog w A I [I,a] vs.size (fun i v=>vs[i]?=some v) (fun i h=>ItB b h I a i/\CoB b h a vs):=by
 cases b with
 | true=>exact Draws.list O I a q vs
 | false=>exact mV O I a q vs
theorem Inv.turnedL (J:Inv X pins σ H s) (k:∀ b o,b∉fp->s.heap.get? b=some o->h'.get? b=some o) (U:∀ b∈fp,fU X pins H b):Inv X pins σ H {s with heap:=h',toks:=t'}:=by
 have W:∀ b u,H b=some u->b∉fp:=fun b u e z=>by rw [(U b z).1] at e;cases e
 refine J.step (g':=s.gens) (d':=s.drawn) (ch:=fp) (fun b Y=>?_) (fun b o _ _ O e _=>k b o O e) (fun b o _ _ O e _=>⟨o.slots,k b o O e⟩) (fun _ _ _ _ n=>n)
  (fun b o O e=>⟨o,k b o O e⟩) (fun _ _ e=>e) (fun _ _ _ e=>e) (fun b ps e=>⟨#[],by rw [e];simp⟩) (fun _ _ e=>e) (fun m hm=>?_) (fun b u e=>?_) J.bare
 . exact ⟨(U b Y).2.2.2.1,(U b Y).2.1,(U b Y).2.2.2.2.1,(U b Y).2.2.2.2.2⟩
 . obtain ⟨o,es,ep,Z,r⟩:=hm;exact ⟨o,es,ep,k _ o (fun z=>(U _ z).2.1 rfl) Z,r⟩
 . refine (J.hok b u e).stay (fun c v O q=>k c v ?_ q) (fun _ q=>q) (fun _ _ q=>q) fun _ _ _ q=>q
   rcases O with z | z
   . rw [z];exact W b u e
   . exact W c _ z
end
section
variable {X:Cx} {pins:List (Addr×Obj)} {σ:St} {H:Hp} {s:qa4}
theorem Inv.turnedT {t:Addr} {u:HO} (J:Inv X pins σ H s) (k:∀ b o,b∉fp->s.heap.get? b=some o->h'.get? b=some o) (Y:∀ b∈fp,fU X pins H b) (ht:s.heap.objs.size<=t) (new:ObjOk X.prog X.w (upd H t u) h' t u) :
  Inv X pins σ (upd H t u) {s with heap:=h',toks:=t'}:=by
 have Z:∀ b u,H b=some u->b∉fp:=fun b u e z=>by rw [(Y b z).1] at e;cases e
 have hn:H t=none:=J.hok.fresh ht;have O:∀ b v,H b=some v->b≠t:=fun b v e=>bC e hn
 have nlt:∀ b o,s.heap.get? b=some o->b≠t:=fun b o e z=>by subst z;exact absurd (qa7 e) (qv9.mpr ht)
 refine J.step (g':=s.gens) (d':=s.drawn) (ch:=fp) (fun b W=>?_) (fun b o _ _ U e _=>k b o U e) (fun b o _ _ U e _=>⟨o.slots,k b o U e⟩) (fun b o _ e n=>by rw [aH (nlt b o e)];exact n)
  (fun b o U e=>⟨o,k b o U e⟩) (fun b xs e=>by rw [aH (O b _ e)];exact e) (fun b o v e=>by rw [aH (O b _ e)];exact e) (fun b ps e=>⟨#[],by rw [aH (O b _ e),e];simp⟩) (fun b xs e=>by rw [aH (O b _ e)];exact e) (fun m hm=>?_) (fun b v e=>?_) J.bare
 . exact ⟨(Y b W).2.2.2.1,(Y b W).2.1,(Y b W).2.2.2.2.1,(Y b W).2.2.2.2.2⟩
 . obtain ⟨o,es,ep,ho,r⟩:=hm;exact ⟨o,es,ep,k _ o (fun z=>(Y _ z).2.1 rfl) ho,r⟩
 . by_cases W:b=t
   . subst W;rw [aQ] at e;cases e;exact new
   . rw [aH W] at e;refine (J.hok b v e).stay (fun c ob U q=>k c ob ?_ q) (fun c q=>by rw [aH (O c _ q)];exact q) (fun c ys q=>by rw [aH (O c _ q)];exact q) fun c ob ys q=>by rw [aH (O c _ q)];exact q
     rcases U with z | z
     . rw [z];exact Z b v e
     . exact Z c _ z
end
noncomputable def Ite (b:Bool) (K:xA9) (a:Addr):It:=⟨fun i H=>∃ xs x,SqB b K H a xs/\xs[i]?=some x,fun i H x H'=>∃ t v,H t=none/\x=.ref t/\H'=upd H t (.tup [.int i,v])/\∀ xs,SqB b K H a xs->xs[i]?=some v,fun i H=>∃ xs,SqB b K H a xs/\xs.length=i⟩
variable {P:qc8} {n:Nat} {pos:Pos}
theorem rG {elts:List Expr} (b:Bool) (a e I:Addr) (hne:e≠I) :
  Turn P w K (.Tuple elts n pos) (Ite b K a) [e,I] e (fun i h=>(∃ Y,IsEnum h e I i Y)/\ItB b h I a i) where
 mem:=by simp
 obj:=fun i h st c hc=>by
  obtain ⟨⟨Y,W⟩,U⟩:=st;simp only [qb3,ql9,or_false] at hc;rcases hc with rfl | rfl
  . exact ⟨_,W,fun v z=>nomatch z⟩
  . obtain ⟨o,q,_,d⟩:=U.obj;exact ⟨o,q,d⟩
 keep:=fun i h h' st k=>by obtain ⟨⟨Y,W⟩,U⟩:=st;exact ⟨⟨Y,k e (by simp) _ W⟩,U.at fun o q=>k I (by simp) o q⟩
 item:=by
  intro X hP hw hK hc i pins s σ H E J hf st hg;subst hP hw hK;obtain ⟨⟨Y,W⟩,U⟩:=st;obtain ⟨xs,x,hq,hx⟩:=hg;obtain ⟨its,rv,co⟩:=J.seqB hq;obtain ⟨u,hu,ru⟩:=rv.get hx;have hi:i<its.toArray.size:=by simpa using (gX hu).1
  have hae:e∉[I,a]:=by simp only [qb3,ql9,or_false,not_or];refine ⟨hne,fun z=>?_⟩;obtain ⟨o,q,c⟩:=co.obj;rw [<- z,W] at q;cases q;rcases c with c | c<;>exact absurd c (xU (by decide))
  refine wpAny_pyNext_enum_itemD (t5 (A:=X.A.in1) (b:=b) (I:=I) (a:=a) (show X.A.in1.handled=none from J.ok.hd hc) (t4 U co) its.toArray) W ⟨U,co⟩ hi hne hae fun y h1 tk hy ho hs1 hT hsz hk=>⟨_,rfl,?_⟩
  have ey:y=u:=by rw [show its.toArray[i]?=its[i]? by simp,hu] at hy;exact (qd6 hy).symm
  subst ey;refine wpAny_letOwnedTupleGo_enum ho fun h2 he2 Z=>?_
  have kk:∀ c o,c∉[e,I]->s.heap.get? c=some o->h2.get? c=some o:=fun c o O q=>by simp only [qb3,ql9,or_false,not_or] at O;exact (Z.2 c O.1).trans (hk c o O.1 O.2 q)
  have lt:∀ c∈[e,I],c<s.heap.objs.size:=fun c O=>by
   simp only [qb3,ql9,or_false] at O;rcases O with rfl | rfl
   . exact qa7 W
   . obtain ⟨o,q,_⟩:=U.obj;exact qa7 q
  -- first the records,then the pair
  have hT2:h2.get? s.heap.objs.size=some {cls:=.type "tuple",data:=.seq #[.int i tk,y]}:=(Z.2 _ (fun z=>qo2 _ (z▸lt e (by simp)))).trans hT
  have J2:Inv X pins σ (upd H s.heap.objs.size (.tup [.int i,x])) {s with heap:=h2,toks:=tk+1}:=by refine J.turnedT kk hf (nL _) ⟨by show 2<=qb0;decide,[.int i tk,y],.cons ⟨_,rfl⟩ (.cons ru .nil),?_⟩;exact ⟨_,hT2,rfl,_,rfl⟩
  refine ⟨.ref s.heap.objs.size,_,J2,rfl,⟨_,x,J.hok.fresh (qt1 _),rfl,rfl,fun ys hy=>by rw [J.seqB_inj hy hq];exact hx⟩,⟨⟨_,by simpa using he2⟩,hs1.1.at fun o q=>(Z.2 I (qq4 hne)).trans q⟩,fun c O=>?_⟩;rw [aH (qb9 (lt c O))];exact (hf c O).1
 done:=by
  intro X hP hw hK hc i pins s σ H E J hf st hg;subst hP hw hK;obtain ⟨⟨Y,W⟩,U⟩:=st;obtain ⟨xs,hq,hx⟩:=hg;obtain ⟨its,rv,co⟩:=J.seqB hq;have hi:i=its.toArray.size:=by rw [<- hx];simpa using rv.length
  refine wpAny_pyNext_enum_endD (t5 (A:=X.A.in1) (b:=b) (I:=I) (a:=a) (show X.A.in1.handled=none from J.ok.hd hc) (t4 U co) its.toArray) W (show ItB b s.heap I a its.toArray.size/\CoB b s.heap a its.toArray from ⟨hi▸U,co⟩) fun h' eb=>⟨rfl,?_⟩
  exact J.turnedL (t':=s.toks) (fun c o O q=>eb c o (fun z=>O (by simp [z])) q) hf
 self:=fun A i s Q E st h=>by obtain ⟨⟨Y,W⟩,U⟩:=st;exact wpAny_pyIter_enum W h
theorem mW (t:Addr) (vs:Array Value) (n:Nat) (Y:Option Addr) (sl:Array (Option Value)) :
  Meets (qh5.«enumerate.__new__» ⟨[.type "enumerate",.ref t],[]⟩) (fun _ R s=>s.heap.get? t=some {cls:=.type "tuple",dict:=Y,data:=.seq vs n,slots:=sl}∧
   R (.ok (.ret (.ref (s.heap.push {cls:=.type "tuple_iterator",data:=.fields #[.ref t,.int 0 0]}).objs.size)))
    {s with heap:=(s.heap.push {cls:=.type "tuple_iterator",data:=.fields #[.ref t,.int 0 0]}).push {cls:=.type "enumerate",data:=.fields #[.none,.bool false,.ref s.heap.objs.size,qf2 0,.none,.none]}}):=
 .of_wp fun prog w A R s h=>by
  obtain ⟨hp,g,d,tk,W⟩:=s;obtain ⟨q,h⟩:=h;have U:=sub_enumerate;have O:Heap.IsTuple (qa4.heap ⟨hp,g,d,tk,W⟩) t vs:=⟨_,q,rfl,n,rfl⟩;wp_walk using qs1 q;refine wpAny_stack_any fun st=>qa2 ?_
  split
  . rename_i c _ _ _ _ _;cases (c==qj9 "enumerate")<;>(wp_walk using qs1 q,qy1 O)<;>exact ⟨_,rfl,h⟩
  . (wp_walk using qs1 q,qy1 O)<;>exact ⟨_,rfl,h⟩
section
variable {prog:qc8} {w:World} {A:qd5} {E:Value->qa4->Prop} {s:qa4}
theorem oE {t:Addr} {vs:Array Value} (Z:s.heap.IsTuple t vs)
 (h:∀ h',IsEnum h' (s.heap.objs.size+1) s.heap.objs.size 0 .none->h'.IsTupleIter s.heap.objs.size t 0->h'.objs.size=s.heap.objs.size+2→
 (∀ c u,s.heap.get? c=some u->h'.get? c=some u)->Q (.ref (s.heap.objs.size+1)) {s with heap:=h'}) :
  wpAny (model prog w) A (call (.type "enumerate") [.ref t]) Q E s:=by
 obtain ⟨⟨c,dct,dt,sl⟩,hl,O,n,Y⟩:=Z;have O:c=.type "tuple":=O;have Y:dt=.seq vs n:=Y;subst O Y;refine callType_new F.called_enumerate (by decide) (F.typeCall_enumerate_1 _) (F.newCall_enumerate_1 _) (fun obj=>F.args_object_init_2 obj _) F.entry_enumerate_new (mW t vs n dct sl) ⟨hl,?_⟩;have W:(s.heap.push {cls:=.type "tuple_iterator",data:=.fields #[.ref t,.int 0 0]}).objs.size=s.heap.objs.size+1:=qf4 ..;have U:((s.heap.push {cls:=.type "tuple_iterator",data:=.fields #[.ref t,.int 0 0]}).push {cls:=.type "enumerate",data:=.fields #[.none,.bool false,.ref s.heap.objs.size,qf2 0,.none,.none]}).objs.size=s.heap.objs.size+2:=by rw [qf4,W]
 rw [W];have q:=qa8 (s.heap.push {cls:=.type "tuple_iterator",data:=.fields #[.ref t,.int 0 0]}) (o:={cls:=.type "enumerate",data:=.fields #[.none,.bool false,.ref s.heap.objs.size,qf2 0,.none,.none]}) rfl;rw [W] at q;exact ⟨⟨_,q,rfl⟩,h _ q ⟨_,gP _ (qa8 _ rfl),rfl,rfl⟩ U fun c u z=>gP _ (gP _ z)⟩
theorem oF {t:Addr} {vs:Array Value} (q:CoB b s.heap t vs)
 (h:∀ h',IsEnum h' (s.heap.objs.size+1) s.heap.objs.size 0 .none->ItB b h' s.heap.objs.size t 0->h'.objs.size=s.heap.objs.size+2→
 (∀ c u,s.heap.get? c=some u->h'.get? c=some u)->Q (.ref (s.heap.objs.size+1)) {s with heap:=h'}) :
  wpAny (model prog w) A (call (.type "enumerate") [.ref t]) Q E s:=by
 cases b with
 | true=>exact call_enumerate_list q h
 | false=>exact oE q h
end
section
variable {X:Cx} {x:Expr} {p pos tpos:Pos} {sc:Scope} {fs:De->Option (List Dt)} {elts:List Expr} {n:Nat}
def BR (K:xA9) (ta:TA):TI:=fun σ H R=>ta σ H fun vs H1=>∃ b a xs,vs=[.ref a]/\SqB b K H1 a xs/\R (Ite b K a) H1
theorem wG {ta:TA} (h:aE sc "enumerate"=true) (hm:X.mg "enumerate"=none) (ha:PA X [x] ta) (e1:bV X sc:=by rfl) (Z:qa6 [x] X.env=[(false,eval x X.env)]:=by rfl) :
  PI X (.Tuple elts n tpos) (.Call (.Name "enumerate" p) [x] [] pos) (BR X.K ta):=by
 intro pins s σ H R I h';refine Call_ (eR I (glD h e1) hm lv (qg5 (thn (ha pos pins s σ H _ I h') fun us s1 ⟨vs,H1,U,r1,q1⟩=>?_) Z rfl));obtain ⟨b,a,xs,rfl,hq,q⟩:=q1;obtain ⟨u,rfl,ru⟩:=fV r1;cases ru;obtain ⟨its,rv,co⟩:=U.seqB hq;refine oF co fun h2 W hi hz hk=>wpAny_pyIter_enum W ?_
 have I2:Inv X pins σ H1 {s1 with heap:=h2}:=U.kept (t':=s1.toks) hk;refine ⟨s1.heap.objs.size+1,[s1.heap.objs.size+1,s1.heap.objs.size],_,_,H1,rfl,I2,rG b a _ _ (qm1 (qo6 _)),⟨⟨_,W⟩,hi⟩,fun c Y=>?_,q⟩
 have O:s1.heap.objs.size<=c:=by
  simp only [qb3,ql9,or_false] at Y;rcases Y with rfl | rfl
  . exact qx0 _
  . exact nL _
 exact U.fpOk O (U.hok.fresh O)
def dP (i:Nat):List Dt->List Dt
 | []=>[]
 | d::r=>.tup [.int i,d]::dP (i+1) r
theorem kF:∀ (l:List Dt) (i:Nat),(dP i l).length=l.length
 | [],_=>rfl
 | _::r,i=>by simp [dP,kF r]
theorem kG:∀ (l:List Dt) (i k:Nat),(dP i l)[k]?=l[k]?.map fun d=>.tup [.int ((i+k:Nat):Int),d]
 | [],i,k=>by simp [dP]
 | d::r,i,0=>by simp [dP]
 | d::r,i,k+1=>by simp [dP,kG r,Nat.add_assoc,Nat.add_comm 1]
def p8:List Dt->Option (List Dt)
 | [.lst l]=>some (dP 0 l)
 | [.tup l]=>some (dP 0 l)
 | _=>none
theorem t6 {F:Hp} {d e:Dt} {w:V} {t:Addr} (h:F t=some (.tup [v,w])) (r:Rep K F d v) (q:Rep K F e w):Rep K F (.tup [d,e]) (.ref t):=by simp only [Rep,Reps];exact ⟨t,_,rfl,SqT.of h,v,[w],rfl,r,w,[],rfl,q,rfl⟩
theorem kH {F:Hp} {xs:List V} (r:Reps K F l xs):pW K F (Ite b K a) (dP 0 l) (fun H=>SqB b K H a xs):=fun i H Z q O ff=>by have hl:=r.length;rw [kF];refine ⟨fun h=>⟨xs,xs[i],q,by simp [show i<xs.length by lia]⟩,fun h=>⟨xs,q,by lia⟩,fun x H' hi W=>?_⟩;obtain ⟨t,v,U,rfl,rfl,hv⟩:=W;have Y:=hv xs q;obtain ⟨d,hd,rd⟩:=r.same_get Y;refine ⟨_,upd Z t (.tup [.int i,v]),?_,Step.new O U,t6 aQ fN ((rd.same ff).same (Same.upd (O.free U)))⟩;rw [kG,hd];simp
theorem lL (h:aE sc "enumerate"=true) (hm:X.mg "enumerate"=none) (Z:DA X [x] fs) (e1:bV X sc:=by rfl) (O:qa6 [x] X.env=[(false,eval x X.env)]:=by rfl) :
  DIF X (.Tuple elts n tpos) (.Call (.Name "enumerate" p) [x] [] pos) (fu p8 fs):=PI.mono (wG h hm Z.pa e1 O) fun σ H R ⟨Φ,δ,F,ds,W,en,q,k⟩=>by
 unfold fu at q;obtain ⟨as,Y,q⟩:=bS q;refine ⟨Φ,δ,F,as,W,en,Y,fun vs H' F' st r=>?_⟩;unfold p8 at q;split at q<;>first | (cases q;done) | skip
 . cases q;simp only [Reps,Rep] at r;obtain ⟨v,U,rfl,⟨a,xs,rfl,h1,h2⟩,rfl⟩:=r;exact ⟨true,a,xs,rfl,st.fh.seq h1,k _ _ H' F' st (kH (b:=true) h2) fun H2 s=>s.seq h1⟩
 . cases q;simp only [Reps,Rep] at r;obtain ⟨v,U,rfl,⟨a,xs,rfl,h1,h2⟩,rfl⟩:=r;exact ⟨false,a,xs,rfl,st.fh.tup h1,k _ _ H' F' st (kH (b:=false) h2) fun H2 s=>s.tup h1⟩
end
section
variable {prog:qc8} {w:World} {A:qd5} {E:Value->qa4->Prop} {s:qa4} {z ti tO i1 i2:Addr} {fp1 fp2:List Addr} {n1 n2 k:Nat} {P1 P2:Nat->Value->Prop} {S1 S2:Nat->Heap->Prop} {va vb:Value}
end
section
variable {prog:qc8} {w:World} {A:qd5} {E:Value->qa4->Prop} {s:qa4}
end
section
variable {X:Cx} {pins:List (Addr×Obj)} {σ:St} {H:Hp} {s:qa4} {a:Addr} {xs ys:List V} {b c:Bool}
end
section
variable {X:Cx} {x y:Expr} {p pos tpos:Pos} {sc:Scope} {fs:De->Option (List Dt)} {elts:List Expr} {n:Nat}
end
section
variable {X:Cx} {o a b e c:Expr} {es:List Expr} {fa fb fo fe:De->Option Dt} {fs:De->Option (List Dt)} {pos apos cpos p:Pos} {i:Nat}
end
def xV:T->Option T
 | .leaf d=>if ck d then some (.leaf d) else none
 | _=>none
theorem RepBs.reps {F:Hp} (q:Same F H):∀ {l:List Dt} {vs:List V},RepBs K F H l vs->Reps K H l vs
 | [],vs,h=>by simp only [Reps];exact h
 | d::l,vs,h=>by obtain ⟨v,O,e,h1,h2⟩:=h;simp only [Reps];exact ⟨v,O,e,h1.rep q,h2.reps q⟩
theorem t7 {F:Hp} {d:Dt} (r:Rep K F d v) (h:ck d=true):Rep K F' d v:=by cases d<;>first | (cases h;done) | (simp only [Rep] at r ⊢;exact r)
def cF (q:List Dt->Option T) (f:De->Option (List Dt)):De->Option T:=fun δ=>(f δ).bind fun ds=>(q ds).bind xV
variable {ps:List Str}
section
variable {X:Cx} {e:Expr} {es:List Expr} {fs:De->Option (List Dt)} {pos p:Pos} {x:Str} {sc:Scope}
theorem iz {k:Nat} {U:List Dt->Option T} (h:aE sc x=true) (F:OkF X.prog X.w X.K X.mg X.base x k ps (spD X.K n U)) (hr:Room k X.A) (Z:DAB X (e::es) fs) (hn:(e::es).length=n:=by rfl) (e1:bV X sc:=by rfl)
 (he:qa6 (e::es) X.env=(false,eval e X.env)::qa6 es X.env:=by rfl) (O:(qk0 pos (qa6 es X.env)).any (·.1)=false:=by rfl):DO X (.Call (.Name x p) (e::es) [] pos) (cF U fs):=
 PE.mono (km h F hr Z.pa e1 he O) fun σ H Q ⟨Φ,δ,Fz,t,hK,en,q,k⟩=>by
  unfold cF at q;obtain ⟨ds,Y,q⟩:=bS q;obtain ⟨u,hu,q⟩:=bS q;refine ⟨Φ,δ,Fz,ds,hK,en,Y,fun vs H1 F1 st r=>?_⟩;show spD X.K n U (vs++[]) H1 Q E0;rw [qi0];refine ⟨H1,ds,u,Same.refl _,(Z.len δ ds Y).trans hn,r.reps st.fh,hu,fun v H' F' S s2 o hs=>?_⟩;unfold xV at q;split at q<;>first | (cases q;done) | skip
  split at q<;>first | (cases q;done) | skip
  rename_i d W;cases q;exact (k.step st).leaf v H' F1 ⟨s2.hh,Same.refl _,st.fh.trans s2.hh,fun b o e=>.inl e⟩ (t7 o W)
end
section
variable {X:Cx} {b:Expr} {fb:De->Option Dt} {pos p:Pos} {x:Str} {sc:Scope} {ks:List Key} {l:List Dt}
end
variable {y:Str} {py spos:Pos}
section
variable {X:Cx} {elt tg iter:Expr} {ifs:List Expr} {scope:Scope} {pos:Pos} {M:List Str} {src:List (Option Nat)} {wi:TI} {g:TG} {tt:TT} {te:TE}
theorem rH {Q:VK} {cpos:Pos} {use:Option (Value->Sem Unit)} {QQ:Value->qa4->Prop} (S:CmpScope X.N X.env.scope scope M src) (hc:X.calm=true) (hi:PI X tg iter wi) (hg:M.Nodup->∀ C s H ex,PG (cxC X M scope C s H ex) tg g) (ht:∀ C s H ex,PTs (cxC X M scope C s H ex) ifs tt)
 (he:∀ C s H ex,PE (cxC X M scope C s H ex) elt te) (hs:∀ x,qh6 iter X.env x=pure x) (I:Inv X pins σ H s) (h:mG src wi g tt te σ H Q)
 (hfin:∀ (D C:Addr) (H':Hp) (s':qa4) (m:Str->Option Value),Inv X pins σ H' s'->fU X pins H' C->s'.heap.Ns C m->Q (.ref D) H'->zf3 (model X.prog X.w) X.A X.xe use QQ (.ref D) C (.ok .next) s') :
  wpAny (model X.prog X.w) X.A (comprehension (.ListComp elt [⟨tg,iter,ifs,0⟩] scope pos) scope X.env cpos (newList []) false (eval iter X.env) use) QQ X.xe s:=by
 have hcells:∀ x∈scope.names,x.2=.free->∃ c,X.env.cells.lookup x.1=some c:=fun x hx hfr=>I.ok.has x.1 (S.free x hx hfr)
 refine qz8 (use:=use) rfl hs (gk hcells) S.kind S.names (thn (hi pins s σ H _ I h) fun v s1 h1=>thn h1 fun itv s2 h2=>?_);obtain ⟨it,fp,tn,J,H2,rfl,I2,T,st2,f2,hq⟩:=h2;refine qd2 ?_;have I3:Inv X pins σ (upd H2 s2.heap.objs.size (.lst [])) {s2 with heap:=s2.heap.push {cls:=.type "list",dict:=none,data:=.seq ([]:List Value).toArray},toks:=s2.toks}:=I2.lnew (its:=[]) (ys:=[]) (t':=s2.toks) .nil (by simp);have hD:H2 s2.heap.objs.size=none:=I2.fresh;obtain ⟨W,⟨m0,w0⟩,turn⟩:=hq _ hD;generalize hDn:s2.heap.objs.size=D at*
 generalize hs3:({s2 with heap:=s2.heap.push {cls:=.type "list",dict:=none,data:=.seq ([]:List Value).toArray},toks:=s2.toks}:qa4)=Z at*
 have f3:∀ b∈fp,fU X pins (upd H2 D (.lst [])) b:=fun b U=>⟨by obtain ⟨o,e,_⟩:=T.obj _ _ st2 b U;rw [aH (by rw [<- hDn];exact qb9 (qa7 e))];exact (f2 b U).1,(f2 b U).2⟩
 have k23:∀ b o,s2.heap.get? b=some o->Z.heap.get? b=some o:=fun b o e=>by rw [<- hs3];exact gP _ e
 have st3:tn 0 Z.heap:=T.keep _ _ _ st2 fun b _ o e=>k23 b o e
 have fl3:∀ b∈fp,b<Z.heap.objs.size:=fun b U=>by obtain ⟨o,e,_⟩:=T.obj _ _ st3 b U;exact qa7 e
 refine wpAny_newFunctionEnv S.nocell (by intro y hy;simp at hy) (fun h₁ hns₁ hsb₁=>?_) S.kind;have k34:∀ b o,Z.heap.get? b=some o->h₁.get? b=some o:=fun b o e=>hsb₁.extBut b o (qb9 (qa7 e)) (gP _ e)
 generalize hs4:({Z with heap:=h₁,toks:=Z.toks+([]:List (Str×Value)).length}:qa4)=s4
 have I4:Inv (cxC X M scope Z.heap.objs.size Z (upd H2 D (.lst [])) fp) [] (stC src σ) (upd H2 D (.lst [])) s4:=by rw [<- hs4];exact mH S I3 f3 fl3 hns₁ k34 rfl rfl
 have st4:tn 0 s4.heap:=T.keep _ _ _ st3 fun b _ o e=>by rw [<- hs4];exact k34 b o e
 generalize O:cxC X M scope Z.heap.objs.size Z (upd H2 D (.lst [])) fp=Y at*
 have hg':PG Y tg g:=by rw [<- O];exact hg S.nd _ _ _ _
 have ht':PTs Y ifs tt:=by rw [<- O];exact ht _ _ _ _
 have he':PE Y elt te:=by rw [<- O];exact he _ _ _ _
 have eP:Y.prog=X.prog:=by rw [<- O];rfl
 have eW:Y.w=X.w:=by rw [<- O];rfl
 have eK:Y.K=X.K:=by rw [<- O];rfl
 have eA:Y.A=X.A:=by rw [<- O];rfl
 have ex':Y.xe=fun _ _=>False:=by rw [<- O];rfl
 have ec:Y.calm=true:=by rw [<- O];exact hc
 have eE:Y.env=compEnvC scope (ei scope.names X.env.cells) Z.heap.objs.size X.env:=by rw [<- O];rfl
 have stat:∀ {H':Hp},(∀ b∈fp,H' b=none)->∀ b∈fp,fU Y [] H' b:=fun hn b U=>by
  rw [<- O];refine ⟨hn b U,qb9 (fl3 b U),fun z=>?_,.inl U,fun x c h=>(f3 b U).2.2.2.2.1 x c (eY hcells h),fun p hp=>absurd hp (by simp [cxC])⟩;rcases qb3.mp (I3.stkSub b z) with q | q
  . exact (f3 b U).2.1 q
  . exact (f3 b U).2.2.1 q
 -- behind the block
 have fin:∀ (H':Hp) (s':qa4),Inv Y [] (stC src σ) H' s'->Q (.ref D) H'->zf3 (model X.prog X.w) X.A X.xe use QQ (.ref D) Z.heap.objs.size (.ok .next) s':=by
  intro H' s' J' q;rw [<- O] at J';obtain ⟨m,hn,_⟩:=id J'.loc;have hC:H' Z.heap.objs.size=none:=J'.free;have un:Un (frs X.stack) fp (upd H2 D (.lst [])) H' Z.heap s'.heap:=J'.base;have IA:Inv X pins σ H' s':=I3.call' (s':=s') (show s'.os=Z.os from J'.os) un J'.hok J'.bare fun b U=>⟨(f3 b U).2.2.2.1,(f3 b U).2.1,(f3 b U).2.2.2.2.1,(f3 b U).2.2.2.2.2⟩
  exact hfin D _ H' s' m IA (I3.fpOk (nL _) hC) hn q
 have loop:∀ s4':qa4,s4'=s4->qq5 (model X.prog X.w) X.A (.compLoop (.ListComp elt [⟨tg,iter,ifs,0⟩] scope pos) 0 (.ref it) (.ref D) Y.env) (zf3 (model X.prog X.w) X.A X.xe use QQ (.ref D) Z.heap.objs.size) s4':=by
  rintro _ rfl;refine gG (fun n s'=>∃ i H',Inv Y [] (stC src σ) H' s'/\tn i s'.heap/\(∀ b∈fp,H' b=none)/\W i n H') ?_ m0 ⟨0,_,I4,st4,fun b U=>(f3 b U).1,w0⟩;rintro n s5 ⟨i,H5,I5,st5,fr5,w5⟩;rcases turn i n H5 w5 with ⟨stop,qn⟩ | ⟨go,N,hN,step⟩
  . have:=T.done Y eP eW eK ec i [] s5 (stC src σ) H5 (fun _ _=>False) I5 (stat fr5) st5 stop;rw [eA] at this;refine thn this fun r s6 ⟨hr,I6⟩=>?_
    subst hr;exact fin H5 s6 I6 qn
  . have:=T.item Y eP eW eK ec i [] s5 (stC src σ) H5 (fun _ _=>False) I5 (stat fr5) st5 go;rw [eA] at this;refine thn this fun r s6 ⟨u,hr,h6⟩=>?_
    subst hr;refine thn h6 fun _ s7 ⟨x,H7,I7,r7,y7,st7,fr7⟩=>?_
    have I7':=I7.pinned (stat fr7) (T.obj _ _ st7);have a1:=hg' _ s7 (stC src σ) H7 x u _ I7' r7 (step x H7 y7);rw [ex',eP,eW,eA] at a1;refine thn a1 fun _ s8 ⟨σ8,H8,I8,wk8,q8⟩=>?_
    have a2:=ht' _ s8 σ8 H8 _ I8 q8;rw [ex',eP,eW,eA] at a2;refine thn a2 fun ok s9 ⟨H9,I9,q9⟩=>?_
    have again:∀ {H7':Hp} {s':qa4},Inv Y ([]++ic fp s7.heap) σ8 H7' s'->N H7'->∃ m,m<n/\∃ i H',Inv Y [] (stC src σ) H' s'/\tn i s'.heap/\(∀ b∈fp,H' b=none)/\W i m H':=fun {H7' s'} J7 n7=>by obtain ⟨m',hm,w7⟩:=hN H7' n7;refine ⟨m',hm,i+1,H7',J7.unpinned.weak wk8.1 wk8.2,T.keep _ _ _ st7 fun b U o e=>(J7.pin (b,o) (qc5 _ (qc5 _ (c5 U e)))).1,fun b U=>?_,w7⟩;obtain ⟨o,e,d⟩:=T.obj _ _ st7 b U;exact (J7.pin (b,o) (qc5 _ (qc5 _ (c5 U e)))).2.1
    cases ok with
    | false=>exact again I9 q9
    | true =>
     have a3:=he' _ s9 σ8 H9 _ I9 q9;rw [ex',eP,eW,eA] at a3;refine thn a3 fun v s10 ⟨y,H10,I10,r10,ys,hl,hz,q10⟩=>?_
     have a4:=im (X:=Y) _ s10 σ8 H10 (.ref D) [y] (.ref D) [v] (fun _ H'=>N H') I10 rfl (.cons r10 .nil) ⟨D,ys,y,rfl,rfl,hl,hz,q10⟩;rw [ex',eP,eW,eA] at a4;refine thn a4 fun _ s11 ⟨_,H11,I11,_,q11⟩=>?_
     exact again I11 q11
 have e4:∀ c:Env,c=Y.env->qq5 (model X.prog X.w) X.A (.compStart (.ListComp elt [⟨tg,iter,ifs,0⟩] scope pos) 0 (.ref it) (.ref D) c) (zf3 (model X.prog X.w) X.A X.xe use QQ (.ref D) Z.heap.objs.size) s4:=by rintro _ rfl;exact zc5 (loop _ rfl) (T.self _ _ _ _ _ st4 (loop _ rfl))
 exact e4 _ (by rw [eE];rfl)
theorem p9 (hN:X.N.Nodup) (hi':X.N[i]?=some y) (O:Loc X.env.scope y) (hf:X.fn y=true∨X.env.scope.names.lookup y=some .local)
 (S:CmpScope X.N X.env.scope scope M src) (hc:X.calm=true) (hi:PI X tg iter wi) (hg:M.Nodup->∀ C s H ex,PG (cxC X M scope C s H ex) tg g) (ht:∀ C s H ex,PTs (cxC X M scope C s H ex) ifs tt)
 (he:∀ C s H ex,PE (cxC X M scope C s H ex) elt te) (hs:∀ x,qh6 iter X.env x=pure x)
 (hsw:qm0 (.ListComp elt [⟨tg,iter,ifs,0⟩] scope pos) (some (.Name y py)) spos.line X.env=pure true) :
  PS X (.Assign [.Name y py] (.ListComp elt [⟨tg,iter,ifs,0⟩] scope pos) spos) (vQ (mG src wi g tt te) (jb i)):=by
 intro pins s σ H D I h;rw [exec_Assign_Name_used _ _ _ _ hsw];refine wB (za7 (wB ?_));show wpAny _ X.A (do let _ <- comprehension (.ListComp elt [⟨tg,iter,ifs,0⟩] scope pos) scope X.env _ (newList []) false (eval iter X.env) (some (zd5 (.Name y py) X.env))) _ _ s;refine wB (qk9 (rH (use:=some (zd5 (.Name y py) X.env)) (QQ:=fun _ s'=>∃ Y H',Inv X pins Y H' s'/\D.nx Y H') S hc hi hg ht he hs I h ?_) (fun _ s' hq=>qa2 (qa2 hq)) fun _ _ e=>e);intro Dd C H' s' m IA U hn q;show wpAny _ X.A (zd5 (.Name y py) X.env (.ref Dd)) _ _ s';refine wpAny_assign_Name (j5 IA hN hi' O (v:=.ref Dd) rfl (fun s2 I2 hsb=>?_) hf);obtain ⟨a,sb,ha⟩:=hsb
 have ne:C≠a:=by
  rcases ha with rfl | ha
  . exact U.2.1
  . exact qq4 (U.2.2.2.2.1 y a ha)
 refine ⟨m,hn.sameBut sb ne,fun h3 sb3=>⟨_,H',?_,q⟩⟩;have Z:∀ b o,b≠C->s2.heap.get? b=some o->h3.get? b=some o:=fun b o W e=>sb3.extBut b o W e
 have nm:∀ {b:Addr},b∉[C]->b≠C:=fun W z=>W (by rw [z];exact qe5)
 refine I2.call' (s':={s2 with heap:=h3}) (ch:=[C]) rfl ⟨fun b o e n W O=>Z b o (nm O) e,fun b o e n W O=>⟨o.slots,Z b o (nm O) e⟩,fun b o e n O=>n,fun b o e O=>⟨o,Z b o (nm O) e⟩,fun b xs e=>e,fun b o u e=>e,fun b ps e=>⟨#[],by rw [Array.append_empty];exact e⟩,fun b qs e=>e⟩ ?_ I2.bare fun b W=>?_
 . intro b u e;have nb:b≠C:=fun z=>by rw [z,U.1] at e;cases e
   refine (I2.hok b u e).stay (fun c v hc' q=>Z c v ?_ q) (fun _ q=>q) (fun _ _ q=>q) fun _ _ _ q=>q
   rcases hc' with z | z
   . rw [z];exact nb
   . intro w;rw [w,U.1] at z;cases z
 . cases qb7.mp W;exact ⟨U.2.2.2.1,U.2.1,U.2.2.2.2.1,U.2.2.2.2.2⟩
end
variable {sc:Scope} {ts:List Nat} {bb:Dt->De->Option De}
section
variable {X:Cx} {elt tg iter:Expr} {ifs:List Expr} {scope:Scope} {pos:Pos} {M:List Str} {src:List (Option Nat)} {fi:De->Option (List Dt)} {ft:De->Option Bool} {fe:De->Option Dt} {i:Nat}
theorem wH (h:cu sc N i y=true) (hl:gl sc y=true) (U:N.Nodup) (S:CmpScope X.N X.env.scope scope M src) (hc:X.calm=true) (hi:DIB X tg iter fi) (hg:M.Nodup->∀ C s H ex,DG (cxC X M scope C s H ex) tg ts bb)
 (ht:∀ C s H ex,DTs (cxC X M scope C s H ex) ifs ft) (he:∀ C s H ex,DL (cxC X M scope C s H ex) elt fe) (W:(ts.all fun k=>decide (src[k]?=some none))=true) (O:∀ x,qh6 iter X.env x=pure x:=by intro _;rfl)
 (e1:bV X sc:=by rfl) (e2:X.N=N:=by rfl) (hf:X.fn y=true∨X.env.scope.names.lookup y=some .local:=by exact .inl rfl) (Z:qm0 (.ListComp elt [⟨tg,iter,ifs,0⟩] scope pos) (some (.Name y py)) spos.line X.env=pure true:=by rfl) :
  DS1 X (.Assign [.Name y py] (.ListComp elt [⟨tg,iter,ifs,0⟩] scope pos) spos) (aP i (bP src fi bb ft fe)):=by
 have e1:X.env.scope=sc:=e1;subst e1 e2;refine PS.mono (p9 (g:=gD X.K ts bb) (tt:=tTr X.K ft) (te:=tL X.K fe) U (e8 h) (ip hl) hf S hc hi (fun U C s H ex=>hg U C s H ex) (fun C s H ex=>ht C s H ex) (fun C s H ex=>he C s H ex) O Z) fun D σ H ⟨Φ,δ,F,o,hK,en,q,k⟩=>?_
 unfold aP at q;obtain ⟨t,Y,q⟩:=mS q;cases q;exact lF S W σ H _ ⟨Φ,δ,F,t,hK,en,Y,fun v H' F' S st o O=>k _ F' H' (en.put st (hK▸o) O i)⟩
theorem zR {f:De->Option T} {Q:VK} (h:tO K (toT (toD f)) σ H Q):tO K f σ H Q:=by obtain ⟨Φ,δ,F,t,U,Y,W,k⟩:=h;obtain ⟨d,q,rfl⟩:=mS W;obtain ⟨u,O,q⟩:=bS q;exact ⟨Φ,δ,F,u,U,Y,O,KL.to q k.leaf⟩
theorem mX (h:cu sc N i y=true) (hl:gl sc y=true) (U:N.Nodup) (S:CmpScope X.N X.env.scope scope M src) (hc:X.calm=true) (hi:DIB X tg iter fi) (hg:M.Nodup->∀ C s H ex,DG (cxC X M scope C s H ex) tg ts bb)
 (ht:∀ C s H ex,DTs (cxC X M scope C s H ex) ifs ft) (he:∀ C s H ex,DL (cxC X M scope C s H ex) elt fe) (W:(ts.all fun k=>decide (src[k]?=some none))=true) (O:∀ x,qh6 iter X.env x=pure x:=by intro _;rfl)
 (e1:bV X sc:=by rfl) (e2:X.N=N:=by rfl) (hf:X.fn y=true∨X.env.scope.names.lookup y=some .local:=by exact .inl rfl) (Z:qm0 (.ListComp elt [⟨tg,iter,ifs,0⟩] scope pos) (some (.Name y py)) spos.line X.env=pure true:=by rfl) :
  DS1 X (.Assign [.Name y py] (.ListComp elt [⟨tg,iter,ifs,0⟩] scope pos) spos) (aP i (toT (toD (bP src fi bb ft fe)))):=by
 have e1:X.env.scope=sc:=e1;subst e1 e2;refine PS.mono (p9 (g:=gD X.K ts bb) (tt:=tTr X.K ft) (te:=tL X.K fe) U (e8 h) (ip hl) hf S hc hi (fun U C s H ex=>hg U C s H ex) (fun C s H ex=>ht C s H ex) (fun C s H ex=>he C s H ex) O Z) fun D σ H ⟨Φ,δ,F,o,hK,en,q,k⟩=>?_
 unfold aP at q;obtain ⟨t,Y,q⟩:=mS q;cases q;exact lF S W σ H _ (zR ⟨Φ,δ,F,t,hK,en,Y,fun v H' F' S st o O=>k _ F' H' (en.put st (hK▸o) O i)⟩)
end
section
variable {X:Cx}
def mY (K:xA9):R2:=fun x y H Q=>∃ a b ys,x=.ref a/\y=.ref b/\SqT K H a []/\SqT K H b ys/\Q (.ref b) H
theorem wI:OpR X (qk1 .Add) (mY X.K):=by
 intro pins s σ H x y v u Q I rx ry h;obtain ⟨a,b,ys,rfl,rfl,ha,hb,q⟩:=h;cases rx;cases ry;obtain ⟨its,r1,p1,_⟩:=I.tuple ha;obtain ⟨O,r2,p2,_⟩:=I.tuple hb;cases r1;obtain ⟨⟨cls,dd,data,sl⟩,ho,hc,n,hd⟩:=id p1;obtain ⟨⟨cls2,dd2,Z,sl2⟩,W,Y,n2,U⟩:=id p2;simp only at hc hd Y U;subst hc hd Y U
 exact qy3 ⟨_,ho,rfl⟩ ⟨_,W,rfl⟩ qu4 zb0 PySem.F.slot_tuple_add PySem.F.entry_tuple_add (PySem.F.args_tuple_add_2 _ _)
  (tuple_addW0 a b #[] O.toArray n n2 dd dd2 sl sl2 rfl) ⟨ho,W,⟨.ref b,H,I,rfl,q⟩⟩
def t8:Dt->Dt->Option T
 | .tup [],.tup m=>some (.leaf (.tup m))
 | .tup (d::l),.tup (e::m)=>bD (.tup (d::l)) (.tup (e::m))
 | _,_=>none
theorem wJ:OpR X (qk1 .Add) (fun x y H Q=>mY X.K x y H Q∨kx X.K x y H Q):=OpR.or wI aT
theorem zS:R2D K (fun x y H Q=>mY K x y H Q∨kx K x y H Q) t8:=by
 intro F H x y vx Z Q t O Y U q k;unfold t8 at q;split at q<;>first | (cases q;done) | skip
 . rename_i m;cases q;obtain ⟨a,vs,rfl,h1,h2⟩:=Y;obtain ⟨b,W,rfl,h3,h4⟩:=U;simp only [Reps] at h2;subst h2;refine .inl ⟨a,b,W,rfl,rfl,O.tup h1,O.tup h3,k.leaf.here O ?_⟩;simp only [Rep];exact ⟨b,W,rfl,h3,h4⟩
 . exact .inr (bE F H _ _ vx Z Q t O Y U q k)
end
section
variable {X:Cx} {pos:Pos} {k v:Expr} {ks:List (Option Expr)} {vs:List Expr} {fk fv:De->Option Dt} {g:De->Option (List (Key×Dt))}
end
theorem wK {k:Key} (h:(bM P w).is k u=true):RelV (kV k) u:=by
 rcases bw (show ja k u=true from h) with ⟨i,t,rfl,rfl⟩ | ⟨x,t,rfl,rfl⟩
 . exact ⟨t,rfl⟩
 . exact ⟨t,rfl⟩
variable {es:List Expr}
section
variable {X:Cx}
def BS (K:xA9) (n:Nat) (t:TGs):TG:=fun v σ H Q=>∃ a xs,v=.ref a/\SqL K H a xs/\xs.length=n/\t xs σ H Q
theorem zT {k:Nat} {t:TGs} (hc:X.calm=true) (h:PGs X es t)
 (Y:(qi4 es X.env).length=n:=by rfl) (O:(qi4 es X.env).findIdx? (·.1)=none:=by rfl):PG X (.Tuple es k pos) (BS X.K n t):=by
 intro pins s σ H v u Q I r q;obtain ⟨a,xs,e1,hq,hl,q⟩:=q;subst e1;cases r;obtain ⟨its,U,ht,hz⟩:=I.list hq;rw [assign_Tuple];refine wB (za7 ?_);unfold unpack;rw [show (qi4 es X.env).length=its.toArray.size by simp [Y,<- hl,U.length],O];refine wB (qh4 (PySem.W.kun_itemsOf (I.ok.hd hc) ht.isList fun h' Z=>?_));have I1:Inv X pins σ H {s with heap:=h'}:=I.kept (t':=s.toks) fun b o e=>Z b o (qb9 (qa7 e)) e
 exact h pins _ σ H xs _ Q I1 (by simpa using U) q
def mZ (n:Nat) (bs:List Dt->De->Option De):Dt->De->Option De:=fun d δ=>match d with
 | .lst ds=>if ds.length=n then bs ds δ else none
 | _=>none
theorem oG {k:Nat} {bs:List Dt->De->Option De} (hc:X.calm=true) (h:DGs X es ts bs)
 (Z:(qi4 es X.env).length=n:=by rfl) (W:(qi4 es X.env).findIdx? (·.1)=none:=by rfl):DG X (.Tuple es k pos) ts (mZ n bs):=PG.mono (zT hc h Z W) fun v σ H Q ⟨Φ,δ,F,d,U,hK,Y,r,O,q⟩=>by
 unfold mZ at O;split at O
 . rename_i ds;split at O
   . rename_i hl;simp only [Rep] at r;obtain ⟨a,vs,e,h1,h2⟩:=r;exact ⟨a,vs,e,Same.seq Y.fh h1,by rw [h2.length];exact hl,Φ,δ,F,ds,U,hK,Y,h2,O,q⟩
   . cases O
 . cases O
end
def cz (sc:Scope) (N:List Str):Bool:=(qb8 N.length).all fun i=>match N[i]? with
 | some x=>cu sc N i x&&gl sc x
 | none=>false
variable {x:Str}
theorem nsB (h:cz sc N=true) (e:N[i]?=some x):cu sc N i x=true/\gl sc x=true:=by have h1:=qi6.mp h i (qd1.mpr (gX e).1);rw [e] at h1;exact qv0.mp h1
theorem nsN (h:cz sc N=true) (i:Nat) (e:N[i]?=some x:=by rfl):cu sc N i x=true:=(nsB h e).1
theorem nsL (h:cz sc N=true) (i:Nat) (e:N[i]?=some x:=by rfl):gl sc x=true:=(nsB h e).2
variable {X:Cx}
theorem pvN (i:Nat) (h:cz sc N=true) (e:N[i]?=some x:=by rfl) (e1:bV X sc:=by rfl) (q:X.N=N:=by rfl):PE X (.Name x pos) (f9 i):=pvD i (nsN h i e) e1 q
def wL:List Dt->Option T
 | [.int i,.int j]=>some (.leaf (.int (if j<i then j else i)))
 | _=>none
def rMin:List V->Hp->VK->Prop:=fun xs H Q=>∃ i j,xs=[.int i,.int j]/\Q (.int (if j<i then j else i)) H
theorem rJ (q:X.calm=true):cL X (.builtin "min") rMin:=qW q
theorem BT:CRD K rMin wL:=by
 intro F H ds vs Q t W r q k;unfold wL at q;split at q<;>first | (cases q;done) | skip
 cases q;obtain ⟨v,ws,rfl,Z,w,U,rfl,Y,O⟩:=r;cases Z;cases Y;have O:U=[]:=O;subst O;exact ⟨_,_,rfl,k.int W⟩
def kJ:Key->Dt
 | .inl i=>.int i
 | .inr x=>.str x
theorem wM {F:Hp} (k:Key):Rep K F (kJ k) (kV k):=by
 cases k with
 | inl i=>exact fN
 | inr x=>exact gO
theorem fB:fillsNumberSlot (.type "tuple") "mul"=pure false:=PySem.fillsNumberSlot_seq (id:="tuple.__mul__") (r:=some (.builtin "tuple.__rmul__")) qu7.lookup (by decide +kernel) F.slot_tuple_rmul.lookup (by decide +kernel)
theorem qa:seqRepeat? (.type "tuple")=pure (some (.builtin "tuple.__mul__")):=by unfold seqRepeat?;rw [PySem.seqSlot_of (T:="tuple") (name:="__mul__") (id:="tuple.__mul__") qu7.lookup (by decide +kernel),PySem.seqSlot_of (T:="tuple") (name:="__rmul__") (id:="tuple.__rmul__") F.slot_tuple_rmul.lookup (by decide +kernel)];rfl
theorem m6 (a:Int) (t:Tok) (l:Addr) (its:Array Value) (n:Nat) (q:Option Addr) (sl:Array (Option Value)) :
  Meets (qh5.«int.__rmul__» ⟨[.int a t,.ref l],[]⟩) (fun _ R s=>s.heap.get? l=some {cls:=.type "tuple",dict:=q,data:=.seq its n,slots:=sl}/\R (.ok (.ret Value.notImplemented)) s):=
 .of_wp fun prog w A R s h=>by obtain ⟨hp,g,d,tk,O⟩:=s;obtain ⟨U,h⟩:=h;wp_walk;exact ⟨_,rfl,h⟩
theorem wN (l:Addr) (its:Array Value) (n:Nat) (dd:Option Addr) (sl:Array (Option Value)) (x:Int) (u:Tok) (h1:1<x) (h2:x<=1000) (h3:its.isEmpty=false) (Z:its.size<=1000) :
  Meets (qh5.«tuple.__mul__» ⟨[.ref l,.int x u],[]⟩) (fun _ R s=>s.heap.get? l=some {cls:=.type "tuple",dict:=dd,data:=.seq its n,slots:=sl}/\R (.ok (.ret (qf1 s.heap.objs.size))) {s with heap:=s.heap.push {cls:=qj9 "tuple",data:=Data.seq (zh6 (fun q U=>q++U) #[] (qc3 x.toNat its))},toks:=s.toks}):=
 .of_wp fun prog w A R s h=>by
  obtain ⟨hp,g,d,tk,os⟩:=s;obtain ⟨hl,h⟩:=h;wp_walk;refine qn4 (by rw [decide_eq_false (by lia:¬ x < -2^63),decide_eq_false (by lia:¬ x ≥ 2^63)];rfl) ?_;wp_walk;refine qn4 (by rw [h3];simp;lia) ?_;wp_walk;refine qn4 (by rw [h3];simp;lia) ?_;wp_walk;have hm:(its.size:Int)*x<=1000*1000:=Int.le_trans (Int.mul_le_mul_of_nonneg_right (by lia) (by lia)) (Int.mul_le_mul_of_nonneg_left h2 (by lia));refine qn4 (by simp;lia) ?_;wp_walk;have Y:(qb0:Int)=16777216:=by rw [qw4];rfl
  refine qn4 (by unfold qh5.Tuple.tupleTooMany;rw [Y,decide_eq_false_iff_not,decide_eq_true_eq];lia) ?_;wp_walk
  have O:(zh6 (fun q U=>q++U) #[] (qc3 x.toNat its)).size<=qb0:=by have W:=il its.toList x.toNat [];rw [qj8,qv1] at W;rw [show (#[]:Array Value)=[].toArray from rfl,W,qb2,pK,qe1,qw4];exact qc1 (Nat.mul_le_mul (by lia:x.toNat<=1000) Z) (by decide)
  refine qn4 (decide_eq_false (qv9.mpr O)) ?_;wp_walk;exact ⟨_,rfl,h⟩
def qb (K:xA9):R2:=fun x y H Q=>∃ a k xs,x=.ref a/\y=.int k/\SqT K H a xs/\1<k/\k<=1000/\xs≠[]/\xs.length<=1000/\∀ p,H p=none->Q (.ref p) (upd H p (.tup (qc3 k.toNat xs).flatten))
theorem wO:OpR X (qk1 .Mult) (qb X.K):=by
 intro pins s σ H x y v u Q I rx ry h;obtain ⟨a,k,xs,rfl,rfl,hT,h1,h2,hne,hl,q⟩:=h;cases rx;obtain ⟨t,rfl⟩:=ry;obtain ⟨its,r,pl,hz⟩:=I.tuple hT;obtain ⟨⟨cls,dd,data,sl⟩,O,hc,n,hd⟩:=id pl;simp only at hc hd;subst hc hd;have hlen:=r.length
 have Y:its.toArray.isEmpty=false:=by
  cases its with
  | nil=>cases r;exact absurd rfl hne
  | cons i r=>rfl
 have Z:its.toArray.size<=1000:=by rw [qb2];lia
 refine qy8 (T:="tuple") (U:="int") (by decide) ⟨_,O,rfl⟩ (fun s'=>zf1 s' k t) fB F.fills_int_mul qx1 qa F.slot_int_index.lookup
  (qv8 qx1 (zf1 s k t) F.entry_int_rmul (F.args_int_rmul_2 _ _) (m6 k t a its.toArray n dd sl)
   ⟨O,rfl,⟨_,O,rfl⟩,qv8 qu7 ⟨_,O,rfl⟩ F.entry_tuple_mul (F.args_tuple_mul_2 _ _) (wN a its.toArray n dd sl k t h1 h2 Y Z) ⟨O,?_⟩⟩)
 have W:zh6 (fun x1 x2=>x1++x2) #[] (qc3 k.toNat its.toArray)=(qc3 k.toNat its).flatten.toArray:=by have:=il its k.toNat [];rw [qj8] at this;exact this
 rw [W];refine ⟨.ref s.heap.objs.size,_,I.laid (t':=s.toks) (o:=.tup (qc3 k.toNat xs).flatten) (fun b ob q=>gP _ q) (nL _) ⟨?_,_,r.rep k.toNat,zj3 _ _⟩,rfl,q _ (I.hok.fresh (nL _))⟩;rw [pK,qw4];exact qc1 (Nat.mul_le_mul (by lia:k.toNat<=1000) hl) (by decide)
theorem m7 {F:Hp}:∀ {l m:List Dt} {vs q:List V},Reps K F l vs->Reps K F m q->Reps K F (l++m) (vs++q)
 | [],m,vs,q,h,h'=>by simp only [Reps] at h;subst h;exact h'
 | d::l,m,vs,q,h,h'=>by simp only [Reps] at h;obtain ⟨v,us,rfl,h1,h2⟩:=h;simp only [ql8,Reps];exact ⟨v,_,rfl,h1,m7 h2 h'⟩
theorem m8 {F:Hp} (h:Reps K F l vs):∀ k:Nat,Reps K F (qc3 k l).flatten (qc3 k vs).flatten
 | 0=>by simp only [List.replicate_zero,List.flatten_nil,Reps]
 | k+1=>by rw [qj0,qj0,qn3,qn3];exact m7 h (m8 h k)
def t9:Dt->Dt->Option T
 | .tup l,.int k=>if 1<k/\k<=1000/\l.isEmpty=false/\l.length<=1000 then some (.leaf (.tup (qc3 k.toNat l).flatten)) else none
 | _,_=>none
theorem zU:R2D K (qb K) t9:=by
 intro F H x y vx Z Q t U Y W q k;unfold t9 at q;split at q<;>first | (cases q;done) | skip
 rename_i l j;split at q<;>cases q
 rename_i O;obtain ⟨a,vs,rfl,h1,h2⟩:=Y;cases W;refine ⟨a,j,vs,rfl,rfl,U.tup h1,O.1,O.2.1,fun e=>?_,by rw [h2.length];exact O.2.2.2,fun p hp=>k.tup U (m8 h2 _) hp⟩;have:=h2.length;rw [e] at this;cases l with
 | nil=>exact absurd O.2.2.1 (by simp)
 | cons _ _=>simp at this
def xW (i j:Int):Prop:=0<j/\j<18446744073709551616
theorem bF:OpR X (qk1 .FloorDiv) (rI xW fun i j=>.int (i/j)):=opI fun i j _ _ _ _ _ O q=>by
 have h1:(0:Int)<j:=O.1;have h2:j<18446744073709551616:=O.2;refine floordiv_int (by lia) (by rw [Int.fdiv_eq_ediv_of_nonneg i (by lia)];exact q) (.inl (PyProof.noPylong_of_log2 ?_));have h3:j.natAbs≠0:=by lia
 exact qy4 ((Nat.log2_lt h3).mpr (show j.natAbs<2^64 by lia)) (by decide)
def cN:Dt->Dt->Option T
 | .int i,.int j=>if 0<j/\j<18446744073709551616 then some (.leaf (.int (i/j))) else none
 | _,_=>none
theorem cH:R2D K (rI xW fun i j=>.int (i/j)) cN:=by
 intro F H x y vx Z Q t W Y O q k;unfold cN at q;split at q<;>first | (cases q;done) | skip
 split at q
 . rename_i U;cases q;cases Y;cases O;exact ⟨_,_,rfl,rfl,U,k.int W⟩
 . cases q
abbrev Orc:=Addr->Hp->List Dt->Option T
noncomputable def ua (P:qc8) (w:World) (K:xA9) (mg:Str->Option Value) (base:Heap) (kk:Nat) (H:Hp) (G:Orc):Prop:=∀ (f:Addr) (F0:Hp) (ds:List Dt) (t:T),G f F0 ds=some t→
 (∃ fo uf fd,H f=some (.frz fo uf)/\fo.data=.func fd)/\∀ (A:qd5) (outer:List Env) (s:qa4) (H' F:Hp) (us:List Value) (vs:List V) (Q:VK),Room kk A->(∀ b o u,H b=some (.frz o u)->H' b=some (.frz o u))->Env0 P w K mg base A outer s H'->Same F0 F->Same F H'->Vals vs us->Reps K F ds vs->KO K F H' t Q→
  qq5 (model P w) A (.call (.ref f) ⟨us,[]⟩) (CR CX0 outer P w H' s Q E0) s
def vCl (G:Orc) (i:Nat) (fs:De->Option (List Dt)):De->Option T:=fun δ=>match δ[i]? with
 | some (some (.fn a F0))=>(fs δ).bind (G a F0)
 | _=>none
section
variable {X:Cx} {e:Expr} {es:List Expr} {fs:De->Option (List Dt)} {p pos:Pos} {x:Str} {i kk:Nat} {G:Orc}
theorem qc (hx:PE X (.Name x p) (f9 i)) (hG:ua X.prog X.w X.K X.mg X.base kk X.H₀ G) (hr:Room kk X.A) (ha:DA X (e::es) fs)
  (he:qa6 (e::es) X.env=(false,eval e X.env)::qa6 es X.env:=by rfl) (hpl:(qk0 pos (qa6 es X.env)).any (·.1)=false:=by rfl):DO X (.Call (.Name x p) (e::es) [] pos) (vCl G i fs):=by
 intro pins s σ H Q I h;obtain ⟨Φ,δ,F,t,hK,en,Y,k⟩:=h;unfold vCl at Y;split at Y<;>first | (cases Y;done) | skip
 rename_i a F0 hi;obtain ⟨ds,hd,ht⟩:=bS Y;obtain ⟨v,hv⟩:=en.has i _ hi;obtain ⟨S,sp⟩:=en.sep;obtain ⟨rfl,hF0⟩:=sp.own i _ _ (bK hi hv);obtain ⟨⟨fo,uf,fd,g1,g2⟩,Z⟩:=hG a F0 ds t ht
 have q:∀ {pins:List (Addr×Obj)} {σ:St} {H:Hp} {s:qa4},Inv X pins σ H s->PySem.W.FnAt a s.heap:=fun {pins σ H s} J=>by have e1:=(J.hok a _ (J.base.frzs a fo uf g1)).1;obtain ⟨oc,od,dt,sl⟩:=fo;cases (show dt=.func fd from g2);exact ⟨oc,od,fd,sl,e1⟩
 refine qp1 (thn (hx pins s σ H (fun v H'=>v=.ref a/\H'=H) I ⟨.ref a,hv,rfl,rfl⟩) fun u s1 h1=>?_);obtain ⟨v1,H1,I1,r1,rfl,rfl⟩:=h1;cases r1;refine PySem.W.callWith_F (q I1) (thn (ha.pa pos pins s1 σ _ (fun vs H'=>∃ F',Step F _ F' H'/\Reps X.K F' ds vs) I1 ⟨Φ,δ,F,ds,hK,en,hd,fun vs H' F' st r=>⟨F',st,r⟩⟩) fun us s2 h2=>?_) he hpl;obtain ⟨vs,H2,U,r2,F2,st,rc⟩:=h2;refine ⟨q U,zh5 (qr7 (Z X.A X.stack s2 H2 F2 us vs Q hr (fun b o u z=>U.base.frzs b o u z) U.env0 (hF0.trans st.ff) st.fh r2 rc (k.step st)) fun r s' O=>?_)⟩;cases r with
 | error e=>exact O.elim
 | ok fl =>
  cases fl with
  | ret u=>exact U.after O
  | next=>exact qg0 O
  | brk=>exact qg0 O
  | cont=>exact qg0 O
end
def deR (m:Nat) (d:Dt) (f1 f2:Addr) (F0:Hp):De:=some (.leaf d)::some (.fn f1 F0)::some (.fn f2 F0)::qc3 (m-3) none
def rK (m:Nat) (g:De->Option Out) (d:Dt) (f1 f2:Addr) (F0:Hp):Option T:=match g (deR m d f1 f2 F0) with
 | some (.rt t)=>some t
 | some (.nx _)=>some (.leaf .non)
 | _=>none
noncomputable def spR (P:qc8) (w:World) (K:xA9) (mg:Str->Option Value) (base:Heap) (kk:Nat) (FR:Orc->Dt->Addr->Addr->Hp->Option T):Sp:=fun vs H Q _=>∃ G F d f1 f2 t v,ua P w K mg base kk H G/\Same F H/\vs=[v,.ref f1,.ref f2]/\Rep K F d v/\FR G d f1 f2 F=some t/\KO K F H t Q
variable {f1 f2:Addr}
theorem kK {F:Hp} {d:Dt} (U:Same F H) (r:Rep K F d v):En ⟨K,F,H,fun _=>False⟩ (deR N.length d f1 f2 F) (start N [v,.ref f1,.ref f2]) F H:=by
 have q:∀ (i:Nat) (t:T),(deR N.length d f1 f2 F)[i]?=some (some t)->∃ O,(start N [v,.ref f1,.ref f2])[i]?=some (some O)/\Own K F H t O fun _=>False:=fun i t h=>by
  unfold deR at h
  match i with
  | 0=>cases h;exact ⟨v,rfl,r⟩
  | 1=>cases h;exact ⟨_,rfl,rfl,Same.refl _⟩
  | 2=>cases h;exact ⟨_,rfl,rfl,Same.refl _⟩
  | i+3 =>rw [qi3,qi3,qi3,qk6] at h;split at h<;>cases h
 refine ⟨U,fun b o h _=>h,Same.refl _,fun b o h=>.inl h,by simp [start,deR],fun i t h=>?_,fun _ _=>False,fun i t O h=>?_,fun _ _ z=>z.elim,fun _ _ _ z=>z.elim⟩
 . obtain ⟨O,e,_⟩:=q i t h;exact ⟨O,e⟩
 . obtain ⟨h1,h2⟩:=dj h;obtain ⟨w,e,o⟩:=q i t h1;rw [h2] at e;cases e;exact o
variable {st:Stmt} {kk:Nat}
section
variable {P:qc8} {w:World} {K:xA9} {mg:Str->Option Value} {base:Heap}
theorem zV {k:Nat} {g:Orc->De->Option Out} (D:DefF K mg x st ps) (S:FnScope N ps (ac st)) (Z:ps.length=3)
 (O:∀ (f:Addr) (cdv:Value) (A:qd5) (outer:List Env) (s:qa4) (H:Hp) (E:XK),Room k (A.deeper (qz4 x (ac st) s.heap.objs.size f cdv))->∀ G:Orc,ua P w K mg base kk H G->DS (jd CX0 P w K mg base N x (ac st) f cdv A outer s H E).nox (aX st) (g G)) :
  OkF P w K mg base x (k+1) ps (spR P w K mg base kk fun G=>rK N.length (g G)):=by
 refine D.ok S (fun vs H Q E h=>?_) (fun f cdv A outer s H vs Q E hr h=>?_)
 . obtain ⟨G,F,d,f1,f2,t,v,_,_,rfl,_⟩:=h;exact Z.symm
 . obtain ⟨G,F,d,f1,f2,t,v,Y,W,rfl,r,U,kq⟩:=h;refine ⟨_,O f cdv A outer s H E hr G Y,?_⟩;unfold rK at U;dsimp only at U;split at U
   . rename_i t' q;cases U;exact ⟨⟨K,F,H,fun _=>False⟩,_,F,_,rfl,kK W r,q,fun v F' H' z=>z.step kq⟩
   . rename_i δ' q;cases U;exact ⟨⟨K,F,H,fun _=>False⟩,_,F,_,rfl,kK W r,q,fun σ' F' H' z=>(z.rt (Step.refl z.fh) (t:=.leaf .non) (S:=fun _=>False) (gT (K:=K) (F:=F')) fun _ y=>y.elim).step kq⟩
   . cases U
end
section
variable {X:Cx} {x:Str} {p pos:Pos} {e:Expr} {es:List Expr} {t:TA} {f:Addr} {fd:qp9} {ps:List Str} {sp:Sp} {k:Nat}
def zW (X:Cx) (sp:Sp) (t:TA):TE:=fun σ H Q=>t σ H fun vs H1=>∀ H',PlusC X σ H1 H'->sp vs H' (fun v H2=>(∀ c,bu X c->H2 c=H' c)->Q v (iL X H2)) E0
theorem ub (I:Inv X pins σ H s) (O:∀ x,X.fn x=true):∀ b,bu X b->b∉frs X.stack/\∀ o,X.base.get? b≠some o:=fun b ⟨x,U⟩=>by
 have q:=I.ok.cab x b (O x) U;refine ⟨fun z=>?_,fun o e=>?_⟩
 . rcases qb3.mp (I.stkSub b z) with y | y
   . exact I.cne x b U y
   . obtain ⟨_,o,W,_⟩:=I.ok.funs.mem y;exact absurd (qa7 W) (qv9.mpr q)
 . exact absurd (qc2 (qa7 e) I.ok.bsz) (qv9.mpr q)
theorem uc (F:FnOk X.prog X.w X.K X.mg X.base CX0 k f fd ps sp) (hr:Room k X.A) (hg:Gl X x) (hm:X.mg x=some (.ref f)) (hk:xF9 X.K (.ref f)=true) (hb:Binds X.K fd ps []) (hfn:∀ x,X.fn x=true)
  (ha:PA X (e::es) t) (Z:(x==("__debug__":Str))=false:=by decide) (he:qa6 (e::es) X.env=(false,eval e X.env)::qa6 es X.env:=by rfl) (Y:(qk0 pos (qa6 es X.env)).any (·.1)=false:=by rfl) :
  PE X (.Call (.Name x p) (e::es) [] pos) (zW X sp t):=by
 intro pins s σ H Q I h;refine qp1 (lh I hg hm ?_ Z);refine PySem.W.callWith_K (h₀:=X.base) I.ok.mod.kin hk (thn (ha pos pins s σ H _ I h) fun us s1 ⟨vs,H1,U,r,q⟩=>⟨U.kIn,?_⟩) he Y;obtain ⟨H',pc,e0⟩:=wt U (ub U hfn);have hs:=q H' pc;have hl:(us++[]).length=ps.length:=by rw [qi0,<- r.length];exact F.len _ _ _ _ hs
 refine zh5 (qr7 (F.run X.A X.stack s1 H' ⟨us,[]⟩ (us++[]) vs _ E0 hr e0 (hb s1 us U.kIn hl) (by rw [qi0];exact r) hs) fun r s' O=>?_);cases r with
 | error e=>exact O.elim
 | ok fl =>
  cases fl with
  | ret u=>exact U.afterP pc e0.hok O
  | next=>exact qg0 O
  | brk=>exact qg0 O
  | cont=>exact qg0 O
end
open Classical in
def rL (f1 f2:Addr) (F1:Hp) (g1 g2:List Dt->Option T):Orc:=fun a F0 ds=>if a=f1/\F0=F1/\ds.length=1 then g1 ds else if a=f2/\F0=F1/\ds.length=1 then g2 ds else none
variable {F1:Hp} {g1 g2:List Dt->Option T}
theorem zX {d:Dt}:rL f1 f2 F1 g1 g2 f1 F1 [d]=g1 [d]:=if_pos ⟨rfl,rfl,rfl⟩
theorem zY {d:Dt} (h:f1≠f2):rL f1 f2 F1 g1 g2 f2 F1 [d]=g2 [d]:=(if_neg fun z=>h z.1.symm).trans (if_pos ⟨rfl,rfl,rfl⟩)
noncomputable def FnIn (H:Hp) (f:Addr) (name qual:Str) (params:qi9) (body:List Stmt) (scope:Scope) (cl:List (Str×Addr)):Prop:=∃ fo uf c' doc pm ctv,H f=some (.frz fo uf)/\fo.data=.func (xG9 name qual params body scope cl .none .none doc pm none (.ref c') ctv)/\∃ oc,H c'=some (.frz oc (.code qual))
variable {f:Addr} {qual:Str} {params:qi9} {body:List Stmt} {scope:Scope}
theorem FnIn.up {name:Str} {cl:List (Str×Addr)} (h:FnIn H f name qual params body scope cl) (s:∀ b o u,H b=some (.frz o u)->H' b=some (.frz o u)):FnIn H' f name qual params body scope cl:=by obtain ⟨fo,uf,c',doc,pm,ctv,h1,h2,oc,h3⟩:=h;exact ⟨fo,uf,c',doc,pm,ctv,s _ _ _ h1,h2,oc,s _ _ _ h3⟩
def eF (δ:De):List Nat->Option (List Dt)
 | []=>some []
 | j::js=>match δ[j]? with
  | some (some (.leaf d))=>(eF δ js).map (d::·)
  | _=>none
structure NestD (X:Cx) (name qual:Str) (params:qi9) (body:List Stmt) (scope:Scope) (N ps fr:List Str) (js:List Nat) (g:De->Option Out) (kk:Nat):Prop where
 S:ClScope N ps fr scope
 ndn:∀ x,∀ y∈scope.names,y.1=x->scope.names.lookup x=some y.2
 one:ps.length=1
 fre:∀ x∈scope.names,x.2=.free->X.env.kindOf x.1=some .cell
 jl:js.length=fr.length
 nm:∀ (i j:Nat) (x:Str),fr[i]?=some x->js[i]?=some j->X.N[j]?=some x/\X.env.kindOf x=some .cell
 bd:∀ (s:qa4) (cl:List (Str×Addr)) (doc pm ctv cd:Value) (us:List Value),us.length=ps.length->za8 s (xG9 name qual params body scope cl .none .none doc pm none cd ctv) ⟨us,[]⟩ (ps.zip us)
 body:∀ (f c':Addr) (cl:List (Str×Addr)) (A:qd5) (outer:List Env) (s:qa4) (H:Hp),Room kk (A.deeper (gH qual scope s.heap.objs.size f (.ref c') cl))->DS (mI CX0 X.prog X.w X.K X.mg X.base N qual scope f (.ref c') cl A outer s H E0 fun _ _=>False) body g
variable {names:List (Str×qp2)} {cells:List (Str×Addr)} {c:Addr} {js:List Nat} {g:De->Option Out}
section
variable {X:Cx}
theorem jy (h:(x,c)∈ei names cells):(x,qd8)∈names/\c=(cells.lookup x).getD 0:=by
 have q:∀ (names:List (Str×qp2)) (acc:List (Str×Addr)),(x,c)∈names.foldl (fun cs O=>if O.2==qd8 then (O.1,(cells.lookup O.1).getD 0)::cs else cs) acc->(x,c)∈acc∨((x,qd8)∈names/\c=(cells.lookup x).getD 0):=fun names=>by
  induction names with
  | nil=>intro acc h;exact .inl h
  | cons y r U =>
   intro acc h;rw [qi2] at h;rcases U _ h with z | z
   . split at z
     . rename_i hk;rcases qb3.mp z with e | z
       . obtain ⟨a,k⟩:=y;cases e;have hk:k=qd8:=by simpa using hk
         subst hk;exact .inr ⟨.head _,rfl⟩
       . exact .inl z
     . exact .inl z
   . exact .inr ⟨.tail _ z.1,z.2⟩
 rcases q names [] h with z | z
 . cases z
 . exact z
theorem rM (h:(x,qd8)∈names):∃ c,(ei names cells).lookup x=some c:=by
 have q:∀ (names:List (Str×qp2)) (acc:List (Str×Addr)),((x,qd8)∈names∨∃ c,acc.lookup x=some c)->∃ c,(names.foldl (fun cs O=>if O.2==qd8 then (O.1,(cells.lookup O.1).getD 0)::cs else cs) acc).lookup x=some c:=fun names=>by
  induction names with
  | nil =>
   intro acc h;rcases h with h | h
   . cases h
   . exact h
  | cons y r U =>
   intro acc h;rw [qi2];refine U _ ?_;rcases h with h | ⟨c,h⟩
   . rcases qb3.mp h with e | h
     . subst e;right;simp
     . exact .inl h
   . right;split
     . rw [qf9];cases x==y.1 with
       | true=>exact ⟨_,rfl⟩
       | false=>exact ⟨c,h⟩
     . exact ⟨c,h⟩
 exact q names [] (.inl h)
theorem jz {F:Hp} (O:En Φ δ σ F H):∀ {js:List Nat} {caps:List Dt},eF δ js=some caps->∃ fs:List V,Reps Φ.K F caps fs/\fs.length=js.length/\∀ (i j:Nat) (v:V),js[i]?=some j->fs[i]?=some v->σ[j]?=some (some v)
 | [],caps,h=>by cases h;exact ⟨[],by simp only [Reps],rfl,fun i j v h=>by simp at h⟩
 | j::js,caps,h=>by
  simp only [eF] at h;split at h<;>first | (cases h;done) | skip
  rename_i d hd;obtain ⟨cs,q,rfl⟩:=mS h;obtain ⟨v,U,Z⟩:=O.leaf hd;obtain ⟨fs,h1,h2,h3⟩:=jz O q;refine ⟨v::fs,by simp only [Reps];exact ⟨v,fs,rfl,Z,h1⟩,by simp [h2],fun i Y W q1 q2=>?_⟩;cases i with
  | zero =>simp at q1 q2;subst q1 q2;exact U
  | succ i=>exact h3 i Y W (by simpa using q1) (by simpa using q2)
theorem NestD.at {name:Str} {fr:List Str} (D:NestD X name qual params body scope N ps fr js g kk) (hinj:∀ x y c,X.env.cells.lookup x=some c->X.env.cells.lookup y=some c->x=y) (Z:∀ x,X.env.kindOf x=some .cell->∃ c,X.env.cells.lookup x=some c)
 (pc:PlusC X σ H H') (fi:FnIn H' f name qual params body scope (ei scope.names X.env.cells)) {fs:List V} (hl:fs.length=js.length) (hv:∀ (i j:Nat) (v:V),js[i]?=some j->fs[i]?=some v->σ[j]?=some (some v)) (O:∀ x∈scope.names,x.2=.free->x.1∈fr) :
  ∃ c' doc pm ctv fo uf,ClAt H' f name qual params body scope (ei scope.names X.env.cells) fr fs c' doc pm ctv fo uf:=by
 obtain ⟨fo,uf,c',doc,pm,ctv,h1,h2,h3⟩:=fi;have cells:∀ x,(x,qd8)∈scope.names->∃ c,X.env.cells.lookup x=some c:=fun x hx=>Z x (D.fre (x,.free) hx rfl)
 have look:∀ x c,(x,c)∈ei scope.names X.env.cells->X.env.cells.lookup x=some c:=fun x c h=>by obtain ⟨a,b⟩:=jy h;obtain ⟨c2,e⟩:=cells x a;rw [e] at b;rw [e,b];rfl
 have Y:∀ x c,(x,c)∈ei scope.names X.env.cells->∃ (i:Nat) (o:Obj) (v:V) (u:Value),fr[i]?=some x/\fs[i]?=some v/\H' c=some (eM c o)/\o.data=.cell (some u)/\RelV v u:=fun x c h=>by obtain ⟨a,_⟩:=jy h;obtain ⟨i,hi⟩:=qu9 (O _ a rfl);have hif:i<fr.length:=(gX hi).1;have hjl:=D.jl;have q:js[i]?=some js[i]:=gQ (by lia);have W:fs[i]?=some fs[i]:=gQ (by lia);obtain ⟨n1,n2⟩:=D.nm i _ x hi q;obtain ⟨o,v,g1,g2,g3⟩:=pc.cel x c (look x c h);obtain ⟨u,rfl,ru⟩:=g3 _ _ n1 (hv i _ _ q W) (.inl n2);exact ⟨i,o,_,u,hi,W,g1,g2,ru⟩
 refine ⟨c',doc,pm,ctv,fo,uf,⟨h1,h2,h3,fun x c h=>?_,fun x y c U e2=>?_,?_,fun i x v U e2=>?_,fun x c e=>?_⟩⟩
 . obtain ⟨_,o,_,u,_,_,g1,g2,_⟩:=Y x c h;exact ⟨o,u,g1,g2⟩
 . exact hinj x y c (look x c (PySem.mem_of_lookup U)) (look y c (PySem.mem_of_lookup e2))
 . rw [hl,D.jl]
 . have hx:=D.S.frk x (qc7 U);obtain ⟨c,e⟩:=rM (cells:=X.env.cells) (PySem.mem_of_lookup hx);have hif:i<fr.length:=(gX U).1;have hjl:=D.jl;have q:js[i]?=some js[i]:=gQ (by lia);obtain ⟨n1,n2⟩:=D.nm i _ x U q;obtain ⟨o,w,g1,g2,g3⟩:=pc.cel x c (look x c (PySem.mem_of_lookup e));obtain ⟨u,rfl,ru⟩:=g3 _ _ n1 (hv i _ _ q e2) (.inl n2);exact ⟨c,o,u,e,g1,g2,ru⟩
 . obtain ⟨a,_⟩:=jy (PySem.mem_of_lookup e);exact D.ndn x _ a rfl
end
variable {Hp':Hp}
section
variable {X:Cx} {K:xA9}
theorem Step.hide {F H1:Hp} (fh:Same F H) (q:PlusC X σ H Hp') (a:Step F Hp' F1 H1):Step F H F1 (iL X H1):=by
 have O:∀ {b:Addr},bu X b->∃ o,Hp' b=some (eM b o):=fun {b} ⟨x,Z⟩=>by obtain ⟨o,v,e,_⟩:=q.cel x b Z;exact ⟨o,e⟩
 have W:∀ {b:Addr} {o:HO},F1 b=some o->¬ bu X b:=fun {b o} e Y=>by
  obtain ⟨ob,g1⟩:=O Y;rcases a.nw b o e with z | z | ⟨xs,z⟩
  . have:=fh b o z;rw [q.fre b Y] at this;cases this
  . rw [g1] at z;cases z
  . rw [g1] at z;cases z
 refine ⟨fun b o e=>?_,a.ff,fun b o e=>?_,fun b o e=>?_⟩
 . have U:¬ bu X b:=fun z=>by rw [q.fre b z] at e;cases e
   rw [bO U];exact a.hh b o (by rw [q.out b U];exact e)
 . rw [bO (W e)];exact a.fh b o e
 . rw [<- q.out b (W e)];exact a.nw b o e
theorem KO.hide {F:Hp} {t:T} {Q:VK} (Y:Same F H) (O:PlusC X σ H Hp') (k:KO K F H t Q):KO K F Hp' t fun v H2=>Q v (iL X H2):=fun v H2 F2 S st o U=>by
 have q:∀ b,S b->¬ bu X b:=fun b z ⟨x,W⟩=>by obtain ⟨ob,_,e,_⟩:=O.cel x b W;rw [(U b z).2.1] at e;cases e
 refine k v _ F2 S (Step.hide Y O st) (o.step (Same.refl _) fun b u z e=>by rw [bO (q b z)];exact e) fun b z=>?_
 obtain ⟨h1,h2,u,h3,Z⟩:=U b z;exact ⟨h1,by rw [<- O.out b (q b z)];exact h2,u,by rw [bO (q b z)];exact h3,Z⟩
end
section
variable {X:Cx} {e0:Expr} {p p1 p2 pos:Pos} {x n1 n2 q1 q2:Str} {par1 par2:qi9} {bod1 bod2:List Stmt} {sc1 sc2:Scope} {N1 ps1 fr1 N2 ps2 fr2:List Str} {js1 js2:List Nat} {g1 g2:De->Option Out} {k kk i1 i2:Nat} {ps:List Str} {FR:Orc->Dt->Addr->Addr->Hp->Option T} {f0:De->Option Dt}
noncomputable def ud (X:Cx) (i1 i2:Nat) (n1 n2 q1 q2:Str) (par1 par2:qi9) (bod1 bod2:List Stmt) (sc1 sc2:Scope) (σ:St) (H:Hp) (f1 f2:Addr):Prop:=σ[i1]?=some (some (.ref f1))/\σ[i2]?=some (some (.ref f2))/\f1≠f2/\FnIn H f1 n1 q1 par1 bod1 sc1 (ei sc1.names X.env.cells)/\FnIn H f2 n2 q2 par2 bod2 sc2 (ei sc2.names X.env.cells)
noncomputable def tRt (X:Cx) (i1 i2:Nat) (n1 n2 q1 q2:Str) (par1 par2:qi9) (bod1 bod2:List Stmt) (sc1 sc2:Scope) (N1 N2:List Str) (js1 js2:List Nat) (g1 g2:De->Option Out) (f0:De->Option Dt) (FR:Orc->Dt->Addr->Addr->Hp->Option T):TE:=fun σ H Q =>∃ Φ δ F f1 f2 d0 O q t,Fm.K Φ=X.K/\En Φ δ σ F H/\ud X i1 i2 n1 n2 q1 q2 par1 par2 bod1 bod2 sc1 sc2 σ H f1 f2/\f0 δ=some d0/\eF δ js1=some O/\eF δ js2=some q/\(∀ F0,FR (rL f1 f2 F0 (iT N1.length g1 O) (iT N2.length g2 q)) d0 f1 f2 F0=some t)/\KO X.K F H t Q
theorem BU (F:OkF X.prog X.w X.K X.mg X.base x k ps (spR X.prog X.w X.K X.mg X.base (kk+1) FR)) (hr:Room k X.A) (hg:Gl X x) (hfn:∀ x,X.fn x=true) (h0:DL X e0 f0) (hv1:PE X (.Name n1 p1) (f9 i1)) (hv2:PE X (.Name n2 p2) (f9 i2))
  (D1:NestD X n1 q1 par1 bod1 sc1 N1 ps1 fr1 js1 g1 kk) (D2:NestD X n2 q2 par2 bod2 sc2 N2 ps2 fr2 js2 g2 kk) (ha1:∀ x∈sc1.names,x.2=.free->x.1∈fr1) (ha2:∀ x∈sc2.names,x.2=.free->x.1∈fr2) (hdb:(x==("__debug__":Str))=false:=by decide)
  (s0:qa6 [e0,.Name n1 p1,.Name n2 p2] X.env=(false,eval e0 X.env)::qa6 [.Name n1 p1,.Name n2 p2] X.env:=by rfl) (s1:qa6 [.Name n1 p1,.Name n2 p2] X.env=(false,eval (.Name n1 p1) X.env)::qa6 [.Name n2 p2] X.env:=by rfl) (s2:qa6 [.Name n2 p2] X.env=(false,eval (.Name n2 p2) X.env)::qa6 [] X.env:=by rfl)
  (hpl:(qk0 pos (qa6 [.Name n1 p1,.Name n2 p2] X.env)).any (·.1)=false:=by rfl) :
  PE X (.Call (.Name x p) [e0,.Name n1 p1,.Name n2 p2] [] pos) (tRt X i1 i2 n1 n2 q1 q2 par1 par2 bod1 bod2 sc1 sc2 N1 N2 js1 js2 g1 g2 f0 FR):=by
 obtain ⟨f,fd,hm,hk,hb,FF⟩:=F.ex;intro pins s σ H Q I h;refine (uc FF hr hg hm hk hb hfn (cS h0 (cS hv1 (cS hv2 eT s2) s1) s0) hdb s0 hpl) pins s σ H Q I ?_;obtain ⟨Φ,δ,F,f1,f2,d0,Y,U,t,hK,en,⟨v1,v2,hne,fi1,fi2⟩,hf0,hc1,hc2,hrun,kq⟩:=h;refine ⟨Φ,δ,F,d0,hK,en,hf0,fun v H1 F1 st r1=>⟨.ref f1,v1,.ref f2,v2,fun H' pc=>?_⟩⟩
 have up1:∀ b o,H1 b=some o->H' b=some o:=fun b o z=>by rw [pc.out b fun y=>by rw [pc.fre b y] at z;cases z];exact z
 have up:∀ b o u,H b=some (.frz o u)->H' b=some (.frz o u):=fun b o u z=>up1 _ _ (st.hh _ _ z)
 obtain ⟨fs1,rc1,hl1,hs1⟩:=jz en hc1;obtain ⟨fs2,rc2,hl2,hs2⟩:=jz en hc2;rw [hK] at rc1 rc2;have q:∀ x,X.env.kindOf x=some .cell->∃ c,X.env.cells.lookup x=some c:=fun x hx=>I.ok.has x (.inl hx)
 obtain ⟨c1',doc1,pm1,ctv1,fo1,uf1,C1⟩:=D1.at I.ok.inj q pc (fi1.up up) hl1 hs1 ha1
 obtain ⟨c2',doc2,pm2,ctv2,fo2,uf2,C2⟩:=D2.at I.ok.inj q pc (fi2.up up) hl2 hs2 ha2
 refine ⟨rL f1 f2 F1 (iT N1.length g1 Y) (iT N2.length g2 U),F1,d0,f1,f2,t,v,fun f F0 ds t Z=>?_,fun b o z=>up1 b o (st.fh b o z),rfl,r1,hrun F1,fun v' H2 F2 S st2 o hs _=>KO.hide st.fh pc (kq.step st) v' H2 F2 S st2 o hs⟩;unfold rL at Z;split at Z
 . rename_i hh;obtain ⟨rfl,rfl,hd⟩:=hh;refine ⟨⟨fo1,uf1,_,C1.fn,C1.dat⟩,fun A outer s H2 F2 us vs Q2 O hp e0 h0 fh r rd W=>?_⟩;exact pY D1.S D1.ndn C1 (rc1.same st.ff) (fun s us hu=>D1.bd s _ _ _ _ _ us hu) (fun A outer s H hr=>D1.body _ _ _ A outer s H hr) (by rw [hd,D1.one]) Z A outer s H2 F2 us vs Q2 O hp e0 h0 fh r rd W
 . split at Z
   . rename_i hh;obtain ⟨rfl,rfl,hd⟩:=hh;refine ⟨⟨fo2,uf2,_,C2.fn,C2.dat⟩,fun A outer s H2 F2 us vs Q2 O hp e0 h0 fh r rd W=>?_⟩;exact pY D2.S D2.ndn C2 (rc2.same st.ff) (fun s us hu=>D2.bd s _ _ _ _ _ us hu) (fun A outer s H hr=>D2.body _ _ _ A outer s H hr) (by rw [hd,D2.one]) Z A outer s H2 F2 us vs Q2 O hp e0 h0 fh r rd W
   . cases Z
end
noncomputable def qd (i:Nat) (name qual:Str) (params:qi9) (body:List Stmt) (scope:Scope) (clos:List (Str×Addr)):TS:=fun D σ H=>∀ (f c':Addr) (doc pm ctv:Value) (H':Hp),MadeH H H' f c' qual {cls:=.type "function",data:=.func (xG9 name qual params body scope clos .none .none doc pm none (.ref c') ctv)}->D.nx (σ.set i (some (.ref f))) H'
section
variable {X:Cx} {c P:Addr} {qs:List ((Nat×Nat)×Str)} {name qual:Str} {params:qi9} {body:List Stmt} {scope:Scope} {clos:List (Str×Addr)} {pos:Pos} {i:Nat}
theorem wP (hN:X.N.Nodup) (hi:X.N[i]?=some name) (hx:Loc X.env.scope name) (Z:X.fn name=true∨X.env.scope.names.lookup name=some .local) (B:TabB X.mg X.base c P) (O:X.env.code=.ref c) (hT:(P,qs)∈c4 X.K) (hqn:qualnameIn X.env name name=qual) (hq:((pos.line,pos.col),qual)∈qs) (U:∀ q,((pos.line,pos.col),q)∈qs->q=qual) (Y:zf2 scope X.env=pure clos)
  (W:params.defaults=[]) (hk0:params.kw_defaults=[]) (ha:annTrees params none X.env=[]):PS X (.FunctionDef name params body [] none [] scope none name pos) (qd i name qual params body scope clos):=fun pins s σ H D I h =>
 zK hN hi hx Z B O hqn hq U Y W hk0 ha pins s σ H D I ⟨I.base.cts _ _ (I.ok.tb _ hT),h⟩
end
section
variable {X:Cx} {e0:Expr} {pos:Pos} {n1 n2 q1 q2:Str} {par1 par2:qi9} {bod1 bod2:List Stmt} {sc1 sc2:Scope} {N1 N2:List Str} {js1 js2:List Nat} {g1 g2:De->Option Out} {i1 i2:Nat} {FR:Orc->Dt->Addr->Addr->Hp->Option T} {f0:De->Option Dt} {K:xA9}
noncomputable def tG2 (X:Cx) (i1 i2:Nat) (n1 n2 q1 q2:Str) (par1 par2:qi9) (bod1 bod2:List Stmt) (sc1 sc2:Scope) (g:De->Option Out):TS:=fun D σ H =>∃ Φ δ F f1 f2 o,Fm.K Φ=X.K/\En Φ δ σ F H/\ud X i1 i2 n1 n2 q1 q2 par1 par2 bod1 bod2 sc1 sc2 σ H f1 f2/\g δ=some o/\Post Φ D o
theorem En.clear {F:Hp} (e:En Φ δ σ F H) (i:Nat) (v:V):En Φ (δ.set i none) (σ.set i (some v)) F H:=by
 obtain ⟨S,s⟩:=e.sep;refine ⟨e.fh,e.prot,e.old,e.nw,by simp [e.len],fun j t h=>?_,S,fun j t u h=>?_,s.out,s.dis⟩
 . rcases dg h with ⟨_,z⟩ | ⟨q,z⟩
   . cases z
   . obtain ⟨w,O⟩:=e.has j t z;exact ⟨w,by rw [gN q];exact O⟩
 . obtain ⟨h1,h2⟩:=dj h;rcases dg h1 with ⟨_,z⟩ | ⟨q,z⟩
   . cases z
   . rw [gN q] at h2;exact s.own j t u (bK z h2)
def oH (i1 i2:Nat) (δ:De):De:=(δ.set i1 none).set i2 none
theorem ue {ss:List Stmt} (hne:i1≠i2) (hl1:∀ σ:St,σ.length=X.N.length->i1<σ.length/\i2<σ.length)
 (h1:PS X (.FunctionDef n1 par1 bod1 [] none [] sc1 none n1 p1) (qd i1 n1 q1 par1 bod1 sc1 (ei sc1.names X.env.cells))) (h2:PS X (.FunctionDef n2 par2 bod2 [] none [] sc2 none n2 p2) (qd i2 n2 q2 par2 bod2 sc2 (ei sc2.names X.env.cells)))
 (hs:PSs X ss (tG2 X i1 i2 n1 n2 q1 q2 par1 par2 bod1 bod2 sc1 sc2 g)) :
  DS X (.FunctionDef n1 par1 bod1 [] none [] sc1 none n1 p1::.FunctionDef n2 par2 bod2 [] none [] sc2 none n2 p2::ss) fun δ=>g (oH i1 i2 δ):=by
 intro pins s σ H D I h;refine gB h1 (gB h2 hs) pins s σ H D I ?_;obtain ⟨Φ,δ,F,o,hK,en,hg,k⟩:=h;obtain ⟨l1,l2⟩:=hl1 σ I.len;intro f1 c1 Y pm1 W H1 Z f2 c2 O pm2 U H2 q
 have hf:f1≠f2:=fun z=>by have:=q.free;rw [<- z,Z.fn] at this;cases this
 have sm:Same H H2:=fun b o e=>q.old b o (Z.old b o e)
 refine ⟨Φ,oH i1 i2 δ,F,f1,f2,o,hK,((en.step ⟨sm,Same.refl _,en.fh.trans sm,fun _ _ e=>.inl e⟩).clear i1 (.ref f1)).clear i2 (.ref f2),⟨?_,?_,hf,?_,?_⟩,hg,k⟩
 . rw [gN (qq4 hne)];exact qo9 l1
 . exact qo9 (by simpa using l2)
 . obtain ⟨oc,hc⟩:=Z.cod;exact ⟨_,_,c1,Y,pm1,W,q.old _ _ Z.fn,rfl,oc,q.old _ _ hc⟩
 . obtain ⟨oc,hc⟩:=q.cod;exact ⟨_,_,c2,O,pm2,U,q.fn,rfl,oc,hc⟩
noncomputable def zZ (N1 N2:List Str) (g1 g2:De->Option Out) (FR:Orc->Dt->Addr->Addr->Hp->Option T) (d0:Dt) (q O:List Dt) (r:T):Prop:=∀ f1 f2 F0,f1≠f2->FR (rL f1 f2 F0 (iT N1.length g1 q) (iT N2.length g2 O)) d0 f1 f2 F0=some r
open Classical in
noncomputable def fRt (js1 js2:List Nat) (N1 N2:List Str) (g1 g2:De->Option Out) (f0:De->Option Dt) (FR:Orc->Dt->Addr->Addr->Hp->Option T):De->Option T:=fun δ=>(f0 δ).bind fun d=>(eF δ js1).bind fun a=>(eF δ js2).bind fun b =>if h:∃ r,zZ N1 N2 g1 g2 FR d a b r then some h.choose else none
theorem z0 {d0:Dt} {a b:List Dt} {r:T} (O:f0 δ=some d0) (U:eF δ js1=some a) (W:eF δ js2=some b) (h:zZ N1 N2 g1 g2 FR d0 a b r):fRt js1 js2 N1 N2 g1 g2 f0 FR δ=some r:=by
 have q:∃ r,zZ N1 N2 g1 g2 FR d0 a b r:=⟨r,h⟩
 have e:q.choose=r:=by have h1:=q.choose_spec 0 1 (fun _=>none) (by decide);have h2:=h 0 1 (fun _=>none) (by decide);exact qd6 (h1.symm.trans h2)
 unfold fRt;rw [O,U,W];simp only [qa3];rw [dif_pos q,e]
theorem Aa {F:Hp} {t:T} {Q:VK} (q:Φ.K=X.K) (U:En Φ δ σ F H) (fs:ud X i1 i2 n1 n2 q1 q2 par1 par2 bod1 bod2 sc1 sc2 σ H f1 f2) (h:fRt js1 js2 N1 N2 g1 g2 f0 FR δ=some t) (k:KO X.K F H t Q) :
  tRt X i1 i2 n1 n2 q1 q2 par1 par2 bod1 bod2 sc1 sc2 N1 N2 js1 js2 g1 g2 f0 FR σ H Q:=by
 unfold fRt at h;obtain ⟨d0,W,h⟩:=bS h;obtain ⟨a,Y,h⟩:=bS h;obtain ⟨b,Z,h⟩:=bS h;split at h
 . rename_i O;cases h;exact ⟨Φ,δ,F,f1,f2,d0,a,b,_,q,U,fs,W,Y,Z,fun F0=>O.choose_spec f1 f2 F0 fs.2.2.1,k⟩
 . cases h
theorem wQ (h:cu sc N i x=true) (hl:gl sc x=true) (Y:N.Nodup) (Z:PE X e (tRt X i1 i2 n1 n2 q1 q2 par1 par2 bod1 bod2 sc1 sc2 N1 N2 js1 js2 g1 g2 f0 FR)) (e1:bV X sc:=by rfl) (e2:X.N=N:=by rfl) (hf:X.fn x=true∨X.env.scope.names.lookup x=some .local:=by exact .inl rfl)
 (q:qm0 e (some (.Name x pos')) pos.line X.env=pure false:=by rfl):PS X (.Assign [.Name x pos'] e pos) (tG2 X i1 i2 n1 n2 q1 q2 par1 par2 bod1 bod2 sc1 sc2 (aP i (fRt js1 js2 N1 N2 g1 g2 f0 FR))):=PS.mono (lw h hl Y Z e1 e2 hf q) fun D σ H ⟨Φ,δ,F,f1,f2,o,O,U,fs,hg,k⟩=>by
 obtain ⟨t,W,rfl⟩:=mS hg;exact Aa O U fs W fun v H' F' S st o q=>k _ F' H' (U.put st (O▸o) q i)
theorem ug {rest:List Stmt} {ga Y:De->Option Out} (h1:PS X st (tG2 X i1 i2 n1 n2 q1 q2 par1 par2 bod1 bod2 sc1 sc2 ga)) (h2:DS X rest Y):PSs X (st::rest) (tG2 X i1 i2 n1 n2 q1 q2 par1 par2 bod1 bod2 sc1 sc2 (aA ga Y)):=PSs.mono (gB h1 h2) fun D σ H ⟨Φ,δ,F,f1,f2,o,Z,en,fs,O,k⟩=>by
 unfold aA at O;obtain ⟨W,h1,O⟩:=bS O;refine ⟨Φ,δ,F,f1,f2,W,Z,en,fs,h1,?_⟩;cases W with
 | nx q=>exact fun σ' F' H' U=>⟨Φ,q,F',o,Z,U,O,k⟩
 | rt t=>cases O;exact k
 | bk q=>cases O;exact k
 | ct q=>cases O;exact k
end
def oI (mg:Str->Option Value) (base:Heap):Prop:=∃ q ob,mg "__builtins__"=some (.ref q)/\q≠qv7/\base.get? q=some ob/\ob.cls=.type "module"/\ob.dict=some qv7/\ob.data=.plain
theorem TabB.mk' {base:Heap} {P:Addr} (q:K.In base) (h:xN9 K c P=true) (b:oI mg base):TabB mg base c P:=⟨PySem.W.codeHd_of_K q h,b⟩
def qe (H:Hp):Prop:=∀ b,H b=none∨(∃ o xs,H b=some (.frz o (.lst xs)))∨∃ qs,H b=some (.ctab qs)
def fZ (K:xA9):Hp:=fun b=>((c4 K).find? fun p=>p.1==b).map fun p=>.ctab p.2
theorem eI {b:Addr} {u:HO} (h:fZ K b=some u):∃ p∈c4 K,p.1=b/\u=.ctab p.2:=by obtain ⟨p,hp,rfl⟩:=mS h;exact ⟨p,qy9 hp,by simpa using List.find?_some hp,rfl⟩
theorem uh (O:∀ p∈c4 K,∀ q∈c4 K,p.1=q.1->p=q) {p:Addr×List ((Nat×Nat)×Str)} (hp:p∈c4 K):fZ K p.1=some (.ctab p.2):=by
 unfold fZ;cases q:(c4 K).find? fun x=>x.1==p.1 with
 | none =>have:=List.find?_eq_none.mp q p hp;simp at this
 | some r =>
  have h1:r.1=p.1:=by simpa using List.find?_some q
  rw [O r (qy9 q) p hp h1];rfl
def TabsIn (K:xA9) (h:Heap):Prop:=(∀ p∈c4 K,K.lookup p.1=none/\(∃ c,xM9 h c p.1)/\h.get? p.1=some (xJ9 #[]))/\∀ p∈c4 K,∀ q∈c4 K,p.1=q.1->p=q
theorem rN {mb:Str->Option Value} {CX:CXT} {k:Nat} {fa:Addr} {fd:qp9} {sp:Sp} {s₁:qa4} {vs:List Value} {ns:List Int}
 (KX:K.In s₁.heap) (hns:s₁.heap.Ns qc0 mg) (Z:s₁.heap.Ns qv7 mb) (hbb:∀ x:Str,x≠"__name__"->mb x=qe2 x) (hlim:s₁.heap.NoLimit) (hg:s₁.gens=#[]) (hbm:oI mg s₁.heap) (hT:TabsIn K s₁.heap)
 (ha:s₁.heap.get? a=some {cls:=.type "list",data:=.seq vs.toArray}) (hi:IntsAre vs ns) (hl:ns.length<=qb0) (hr:Room k zh8)
 (F:∀ base:Heap,K.In base->base.Ns qc0 mg->oI mg base->FnOk P w K mg base CX k fa fd [x] sp) (hbind:∀ (s:qa4) (u:Value),za8 s fd ⟨[u],[]⟩ [(x,u)])
 (hsp:∀ H:Hp,qe H->SqL K H a (ns.map V.int)->sp [.ref a] H (fun v _=>v=.bl true) fun _ _ _=>False)
 (hCX:∀ H e s',CX [] H s₁ (fun _ _ _=>False) e s'->False) :
  qq5 (model P w) zh8 (.call (.ref fa) ⟨[.ref a],[]⟩) (fun r s'=>r=.ok (.ret (.bool true))/\OldK s₁.heap s'.heap/\s'.os=s₁.os/\zd1 s'.gens) s₁:=by
 have rv:=ke hi;have lenV:=hi.length;obtain ⟨hT,hnd⟩:=hT
 have tb:∀ {b:Addr} {u:HO},fZ K b=some u->s₁.heap.get? b=some (xJ9 #[])/\K.lookup b=none/\∃ c,xM9 s₁.heap c b:=fun {b u} e=>by obtain ⟨p,hp,rfl,_⟩:=eI e;obtain ⟨h1,h2,h3⟩:=hT p hp;exact ⟨h3,h1,h2⟩
 have taN:fZ K a=none:=by
  cases q:fZ K a with
  | none=>rfl
  | some u =>have:=(tb q).1;rw [ha] at this;cases this
 -- H: the script,if it is none of the module's own,and the tables
 have core:∀ H:Hp,SqL K H a (ns.map V.int)->(∀ b,b≠a->H b=fZ K b)->(H a=none∨(K.lookup a=none/\H a=some (.frz {cls:=.type "list",data:=.seq vs.toArray} (.lst (ns.map V.int)))))→
     qq5 (model P w) zh8 (.call (.ref fa) ⟨[.ref a],[]⟩) (fun r s'=>r=.ok (.ret (.bool true))/\OldK s₁.heap s'.heap/\s'.os=s₁.os/\zd1 s'.gens) s₁:=by
  intro H hS hH hA
  have U:∀ {b:Addr} {u:HO},H b=some u->(b=a/\K.lookup a=none/\u=.frz {cls:=.type "list",data:=.seq vs.toArray} (.lst (ns.map V.int)))∨(b≠a/\fZ K b=some u):=fun {b u} e=>by
   by_cases Z:b=a
   . subst Z;rcases hA with z | ⟨z1,z2⟩
     . rw [z] at e;cases e
     . rw [z2] at e;cases e;exact .inl ⟨rfl,z1,rfl⟩
   . rw [hH b Z] at e;exact .inr ⟨Z,e⟩
  have hO:qe H:=fun b=>by
   cases q:H b with
   | none=>exact .inl rfl
   | some u =>
    rcases U q with ⟨_,_,rfl⟩ | ⟨_,z⟩
    . exact .inr (.inl ⟨_,_,rfl⟩)
    . obtain ⟨p,_,_,rfl⟩:=eI z;exact .inr (.inr ⟨_,rfl⟩)
  have hok:HOk P w H s₁.heap:=fun b u e=>by
   rcases U e with ⟨rfl,_,rfl⟩ | ⟨_,z⟩
   . exact ⟨ha,by rw [qa1];exact hl,vs,_,rv,ha⟩
   . obtain ⟨p,_,_,rfl⟩:=eI z;refine ⟨#[],(tb z).1,trivial,fun pos q v _ h=>?_⟩;cases h
  have O:∀ {b:Addr} {o:Obj},s₁.heap.get? b=some o->H b=none->(jX s₁.heap H).get? b=some o:=fun e n=>sx e n
  have noH:∀ {b:Addr} {o:Obj},s₁.heap.get? b=some o->o.data≠.seq vs.toArray->o≠xJ9 #[]->H b=none:=fun {b o} e d1 d2=>by
   cases q:H b with
   | none=>rfl
   | some u =>
    rcases U q with ⟨rfl,_,rfl⟩ | ⟨_,z⟩
    . rw [ha] at e;cases e;exact absurd rfl d1
    . have:=(tb z).1;rw [e] at this;cases this;exact absurd rfl d2
  have Y:∀ {b:Addr} {m:Str->Option Value},s₁.heap.Ns b m->(jX s₁.heap H).Ns b m:=fun {b m} ⟨o,es,ep,e,d,r⟩=>⟨o,es,ep,O e (noH e (by rw [d];intro z;cases z) (fun z=>by rw [z] at d;cases d)),d,r⟩
  have hKb:K.In (jX s₁.heap H):=fun b o e=>O (KX b o e) (by
   cases q:H b with
   | none=>rfl
   | some u =>
    rcases U q with ⟨rfl,z,_⟩ | ⟨_,z⟩
    . rw [z] at e;cases e
    . rw [(tb z).2.1] at e;cases e)
  have hbmB:oI mg (jX s₁.heap H):=by obtain ⟨bm,ob,b1,b2,b3,b4,b5,b6⟩:=hbm;exact ⟨bm,ob,b1,b2,O b3 (noH b3 (by rw [b6];intro z;cases z) fun z=>by rw [z] at b4;cases b4),b4,b5,b6⟩
  have hM:Mod K mg (jX s₁.heap H):=⟨hKb,Y hns,⟨mb,Y Z,hbb⟩,let ⟨mc,h1,h2⟩:=hlim;⟨mc,Y h1,h2⟩⟩
  have e0:Env0 P w K mg (jX s₁.heap H) zh8 [] s₁ H:=⟨rfl,hM,fun b o e=>vH e,Nat.le_of_eq (qP _ _),trivial,fun b Z=>absurd (show b∈([]:List Addr) from Z) (by simp),hok,.of_eq hg,fun p hp=>by have h:=uh hnd hp;rw [hH p.1 fun z=>by rw [z,taN] at h;cases h];exact h⟩
  refine qr7 ((F _ hKb (Y hns) hbmB).run zh8 [] s₁ H ⟨[.ref a],[]⟩ [.ref a] [.ref a] _ _ hr e0 (hbind s₁ (.ref a)) (.cons rfl .nil) (hsp H hO hS)) fun r s' h=>?_
  cases r with
  | error e=>exact (hCX H e s' h).elim
  | ok fl =>
   cases fl with
   | next=>exact qg0 h
   | brk=>exact qg0 h
   | cont=>exact qg0 h
   | ret u =>
    obtain ⟨v,H',os,bare,un,hok',r',q⟩:=h;have q':v=.bl true:=q;subst q';obtain rfl:u=qv6 true:=r';refine ⟨rfl,⟨fun b o e=>?_,fun b o e=>un.there b o e (by simp)⟩,os,bare⟩;cases q:H b with
    | none=>exact .inl (un.keep b o e q (by intro z;exact absurd (show b∈([]:List Addr) from z) (by simp)) (by simp))
    | some u =>
     rcases U q with ⟨rfl,_,rfl⟩ | ⟨_,z⟩
     . have z2:=un.frzs b _ _ q;obtain ⟨e1,_⟩:=hok b _ q;obtain ⟨e2,_⟩:=hok' b _ z2;rw [e] at e1;cases e1
       exact .inl e2
     . obtain ⟨g1,_,c,g2⟩:=tb z;obtain ⟨p,_,_,rfl⟩:=eI z;obtain ⟨ps,g3,_⟩:=hok' b _ (un.cts b _ q);rw [e] at g1;cases g1;refine .inr (.inl ⟨(g2.tab e).isCodeTable,rfl,#[],ps,rfl,?_⟩);rw [g3];simp [xJ9]
 cases hk:K.lookup a with
 | some o =>have e:=KX a o hk;rw [ha] at e;cases e;exact core (fZ K) (.inr ⟨_,vs.toArray,_,hk,rfl,rfl,rfl,by rw [qb2,lenV];exact hl,by simpa using rv⟩) (fun _ _=>rfl) (.inl taN)
 | none =>exact core (fun b=>if b=a then some (.frz {cls:=.type "list",data:=.seq vs.toArray} (.lst (ns.map V.int))) else fZ K b) (.inl (.inr ⟨{cls:=.type "list",data:=.seq vs.toArray},if_pos rfl⟩)) (fun b Z=>if_neg Z) (.inr ⟨hk,if_pos rfl⟩)
theorem BV {l:PySem.W.OpenLaw} {k:Nat} {q:qc8} {loose:List Str} {XP:(Str->Option Value)->Heap->Prop} {YP:World->Heap->Prop} {d:DefRec} {K:Params->xA9} {CX:World->CXT} {sp:World->Sp} 
 (hn:l.most=some n) (hn2:n<=qb0) (hdf:d.params.defaults=[]) (hr:Room k zh8)
 (hY:∀ (w:World) (h:Heap),YP w h->(K w.params).In h) (hT:∀ (w:World) (h:Heap),YP w h->TabsIn (K w.params) h)
 (F:∀ (w:World) (mg:Str->Option Value) (fa:Addr) (h:Heap),(K w.params).In h->h.Ns qc0 mg->mg d.name=some (.ref fa)→
 ∃ fd:qp9,(∀ (s:qa4) (u:Value),za8 s fd ⟨[u],[]⟩ [(x,u)])∧
 ∀ base:Heap,(K w.params).In base->base.Ns qc0 mg->oI mg base->FnOk l.prog w (K w.params) mg base (CX w) k fa fd [x] (sp w))
 (hsp:∀ (w:World) (H:Hp) (a:Addr) (ns:List Int),ns.length<=n->qe H->SqL (K w.params) H a (ns.map V.int)->sp w [.ref a] H (fun v _=>v=.bl true) fun _ _ _=>False)
 (hCX:∀ (w:World) (H:Hp) (s:qa4) (e:Value) (s':qa4),CX w [] H s (fun _ _ _=>False) e s'->False) :
  PySem.W.WalkO q loose XP YP l.row.toRowW d [] (fun f vs=>PySem.call f vs):=by
 refine Att.xO hn hdf fun w s₀ Z mg mb fa o pm cd doc a vs ns G Y ho hd hcd hmg hobj U O hg=>?_
 have KX:=hY w _ Y;obtain ⟨fd,hb,hF⟩:=F w mg fa _ KX G.T.g hmg;exact rN KX G.T.g G.T.b G.T.builtins G.T.nolimit hg G.T.bmain (hT w _ Y) hobj U (qc1 O hn2) hr hF hb (fun H hO hS=>hsp w H a ns O hO hS) fun H e s'=>hCX w H Z e s'
theorem fits {a:Int} (q:-9000000<=a) (h1:a<=9000000):qx2 a=true:=by unfold qx2;simp;lia
section
variable {X:Cx} {tg:Expr}
variable {p pos:Pos} {sc:Scope} {x y z:Expr} {fs:De->Option (List Dt)}
end
theorem qf:∀ a b:List Nat,ltCps a b=false->ltCps b a=false->a=b
 | [],[],_,_=>rfl
 | [],_::_,h,_=>by simp [ltCps] at h
 | _::_,[],_,h=>by simp [ltCps] at h
 | x::r,y::t,h,h'=>by
  simp only [ltCps,qv2,decide_eq_false_iff_not,qu1,beq_iff_eq] at h h';have e:x=y:=by lia
  subst e;rw [qf r t (h.2 rfl) (h'.2 rfl)]
theorem qg:∀ a b:List Nat,ltCps a b=true->ltCps b a=false
 | [],[],h=>by simp [ltCps] at h
 | [],_::_,_=>rfl
 | _::_,[],h=>by simp [ltCps] at h
 | x::r,y::t,h=>by
  simp only [ltCps,qj7,decide_eq_true_eq,qb1,beq_iff_eq] at h;simp only [ltCps,qv2,decide_eq_false_iff_not,qu1,beq_iff_eq];rcases h with h | ⟨rfl,h⟩
  . exact ⟨by lia,fun e=>by lia⟩
  . exact ⟨by lia,fun _=>qg r t h⟩
theorem kL:∀ a b c:List Nat,ltCps b a=false->ltCps c b=false->ltCps c a=false
 | [],b,c,h1,h2=>by
  cases b with
  | nil=>exact h2
  | cons y t =>
   cases c with
   | nil=>simp [ltCps] at h2
   | cons z u=>rfl
 | x::r,[],c,h1,h2=>by simp [ltCps] at h1
 | x::r,y::t,[],h1,h2=>by simp [ltCps] at h2
 | x::r,y::t,z::u,h1,h2=>by
  simp only [ltCps,qv2,decide_eq_false_iff_not,qu1,beq_iff_eq] at h1 h2 ⊢;refine ⟨by lia,fun e=>?_⟩;subst e;have e:y=z:=by lia
  subst e;exact kL r t u (h1.2 rfl) (h2.2 rfl)
def leS (a b:Str):Bool:=!ltCps b.cps.toList a.cps.toList
theorem leS_iff {a b:Str}:leS a b=true↔ltCps b.cps.toList a.cps.toList=false:=by simp [leS]
theorem kM (a b c:Str) (h:leS a b=true) (h':leS b c=true):leS a c=true:=leS_iff.mpr (kL _ _ _ (leS_iff.mp h) (leS_iff.mp h'))
theorem rO (a b:Str):(leS a b||leS b a)=true:=by
 cases h:leS a b with
 | true=>rfl
 | false =>
  have h1:ltCps b.cps.toList a.cps.toList=true:=by simpa [leS] using h
  simp [leS_iff.mpr (qg _ _ h1)]
theorem ui {a b:Str} (h:leS a b=true) (h':leS b a=true):a=b:=by
 have e:=qf _ _ (leS_iff.mp h') (leS_iff.mp h);cases a with
 | mk a=>cases b with
  | mk b=>simp only at e;rw [Array.toList_inj.mp e]
def f6 (ss:List Str):List Str:=ss.mergeSort leS
theorem dH (ss:List Str):(f6 ss).Perm ss:=List.mergeSort_perm ss leS
theorem jA (ss:List Str):(f6 ss).Pairwise fun a b=>leS a b=true:=List.pairwise_mergeSort kM rO ss
theorem kN:∀ (p:Str) (l:List Str),risingS p l=true->(p::l).Pairwise fun a b=>leS a b=true
 | p,[],_=>by simp
 | p,x::r,h=>by
  simp only [risingS,qb1] at h;have O:=kN x r h.2;have h1:leS p x=true:=h.1;refine qk2.mpr ⟨fun y q=>?_,O⟩;rcases qb3.mp q with rfl | q
  . exact h1
  . exact kM _ _ _ h1 ((qk2.mp O).1 y q)
theorem rP:∀ l:List Str,sortedS l=true->l.Pairwise fun a b=>leS a b=true
 | [],_=>qz7
 | x::r,h=>kN x r h
theorem iA:∀ {a b:List Str},a.Perm b->(a.Pairwise fun a b=>leS a b=true)->(b.Pairwise fun a b=>leS a b=true)->a=b
 | [],_,p,_,_=>p.nil_eq
 | x::r,b,p,q,O=>by
  cases b with
  | nil=>exact absurd p.length_eq (by simp)
  | cons y t =>
   have W:x∈y::t:=p.mem_iff.mp (.head _);have U:y∈x::r:=p.mem_iff.mpr (.head _)
   have e:x=y:=by
    rcases qb3.mp W with h | h
    . exact h
    . rcases qb3.mp U with h' | h'
      . exact h'.symm
      . exact ui ((qk2.mp q).1 y h') ((qk2.mp O).1 x h)
   subst e;rw [iA (zj4.cons_inv p) (qk2.mp q).2 (qk2.mp O).2]
section
variable {X:Cx}
theorem kO {F:Hp}:∀ ss:List Str,Reps K F (ss.map .str) (ss.map V.str)
 | []=>by simp only [qs0,Reps]
 | x::ss=>by simp only [qa5,Reps];exact ⟨_,_,rfl,by simp only [Rep],kO ss⟩
end
def EntA (h:Heap) (d:Addr) (ks:List Value) (ep:Nat):Prop:=∃ o es,h.get? d=some o/\o.ExactDict/\o.data=.dict es ep/\es.toList.map (·.key)=ks
variable {ep:Nat}
theorem EntA.upTo {d:Addr} {ks:List Value} (q:EntA h d ks ep) (k:∀ o,h.get? d=some o->h'.get? d=some o):EntA h' d ks ep:=let ⟨o,es,h1,r⟩:=q;⟨o,es,k o h1,r⟩
theorem EntA.ty {d:Addr} {ks:List Value} (q:EntA s.heap d ks ep):s.TypeIs (.ref d) "dict":=let ⟨o,_,h1,h2,_⟩:=q;⟨o,h1,h2.1⟩
theorem EntA.lt {d:Addr} {ks:List Value} (q:EntA h d ks ep):d<h.objs.size:=let ⟨_,_,h1,_⟩:=q;qa7 h1
section
variable {prog:qc8} {w:World} {A:qd5} {E:Value->qa4->Prop} {s:qa4} {d it:Addr} {ks:List Value} {i ep:Nat}
theorem uj (lo:(d==qk8)=false) (q:EntA s.heap d ks ep)
 (k:Q (.ref s.heap.objs.size) {s with heap:=s.heap.push {cls:=.type "dict_keyiterator",data:=.fields #[.ref d,.int 0 0,.int ks.length 0,.int ep 0]}}):wpAny (model prog w) A (zj2 (.ref d)) Q E s:=by
 obtain ⟨o,es,O,Z,U,W⟩:=id q;refine za1 q.ty F.slot_dict_iter (qe7 F.slot_dict_iter q.ty F.entry_dict_iter ?_ (F.args_dict_iter_1 _));unfold qh5.«dict.__iter__»;refine wB ?_;unfold qh5.Dict.dictSlotNone;refine wB (wpAny_notOrdered_dict q.ty ?_);show wpAny _ _ (pure (qf1 d)) _ _ s;refine qa2 ?_;show wpAny _ _ (ze3 d >>= _) _ _ s;unfold ze3;rw [if_neg (by rw [lo];exact qb6)];refine wB (qa2 ?_);refine wB (za2 O U (wB (ze4 O U ?_)));have Y:es.size=ks.length:=by rw [<- W];simp
 refine wB (qd2 (qa2 ⟨_,rfl,"dict_keyiterator",_,⟨_,qa8 _ rfl,rfl⟩,qh9.lookup,?_⟩));simpa [qf2,Y] using k
theorem uk {key:Value} {Q:Option Value->qa4->Prop} (st:s.heap.IsKeyIter it d i ks.length ep) (q:EntA s.heap d ks ep) (hk:ks[i]?=some key)
  (k:∀ h',h'.IsKeyIter it d (i+1) ks.length ep->qo0 it s.heap h'->Q (some key) {s with heap:=h'}):wpAny (model prog w) A (qy0 (.ref it)) Q E s:=by
 obtain ⟨oi,i1,i2,W⟩:=id st;obtain ⟨o,es,e1,e2,e3,e4⟩:=id q;unfold qy0;refine wB (qs6 (qe3 (name:=qa0 "__next__") st.typeIs qh9 (qe7 qh9 st.typeIs qu8 ?_ (qu2 _))));refine wB (qa2 (wB (wB ?_)))
 first | refine wB (qk4 st.typeIs (qa2 ?_)) | refine wB (qn5 st.typeIs (qa2 ?_))
 refine wB (qq9 i1 W ?_);have ow:qv4 "dict_keyiterator"=false:=by decide
 simp only [ow,qf0,if_false];show wpAny _ _ (if (qf1 d==qh1)=true then _ else _) _ _ s;rw [if_neg (show ¬ ((qf1 d==qh1)=true) from qb6)];refine wB (qa2 (wB (za2 e1 e3 ?_)));have Y:es.size=ks.length:=by rw [<- e4];simp
 rw [if_neg (by rw [Y];simp)];refine wB (qa2 (wB (ze4 e1 e3 ?_)));rw [if_neg (by simp)];refine qa2 ?_;have Z:i<es.size:=by rw [Y];exact (gX hk).1
 have U:es[i].key=key:=by rw [<- e4,qb4,qm3,qg1 Z] at hk;exact qd6 hk
 simp only [show ¬ ((i:Int)<0) from by lia,if_false,qd9,qg1 Z];refine wB ?_
 first | refine wB (qk4 st.typeIs (qa2 ?_)) | refine wB (qn5 st.typeIs (qa2 ?_))
 refine wB (ze5 st.typeIs ?_);show wpAny _ _ (zb6 (.ref it) 1 (qf2 ((i:Int)+1)) >>= _) _ _ s;refine qg9 (qj5 i1 W (by simp) ?_)
 have O:(s.heap.update it (qq2 (·.setIfInBounds 1 (qf2 ((i:Int)+1))))).IsKeyIter it d (i+1) ks.length ep:=⟨_,qe4 _ i1 (qh7 (qe0 W _)),(qq1 ..).trans i2,by rw [qe0 W];simp [qf2]⟩
 refine wB (qh4 (wB (ze5 (s:={s with heap:=s.heap.update it (qq2 (·.setIfInBounds 1 (qf2 ((i:Int)+1))))}) O.typeIs ?_)));show wpAny _ _ (pure es[i].key) _ _ _;rw [U];exact qa2 (qa2 ⟨_,rfl,qa2 (k _ O (qe6 ..))⟩)
theorem wR {Q:Option Value->qa4->Prop} (nh:A.handled=none) (st:s.heap.IsKeyIter it d i ks.length ep) (q:EntA s.heap d ks ep) (hi:i=ks.length)
  (k:∀ h',zg2 it s.heap h'->Q none {s with heap:=h'}):wpAny (model prog w) A (qy0 (.ref it)) Q E s:=by
 obtain ⟨oi,i1,i2,W⟩:=id st;obtain ⟨o,es,Y,e2,U,e4⟩:=id q;unfold qy0;refine wB (qs6 (qe3 (name:=qa0 "__next__") st.typeIs qh9 (qe7 qh9 st.typeIs qu8 ?_ (qu2 _))));refine wB (qa2 (wB (wB ?_)))
 first | refine wB (qk4 st.typeIs (qa2 ?_)) | refine wB (qn5 st.typeIs (qa2 ?_))
 refine wB (qq9 i1 W ?_);have ow:qv4 "dict_keyiterator"=false:=by decide
 simp only [ow,qf0,if_false];show wpAny _ _ (if (qf1 d==qh1)=true then _ else _) _ _ s;rw [if_neg (show ¬ ((qf1 d==qh1)=true) from qb6)];refine wB (qa2 (wB (za2 Y U ?_)));have O:es.size=ks.length:=by rw [<- e4];simp
 rw [if_neg (by rw [O];simp)];refine wB (qa2 (wB (ze4 Y U ?_)));rw [if_neg (by simp)];refine qa2 ?_;have Z:es.size<=i:=by rw [O];lia
 simp only [show ¬ ((i:Int)<0) from by lia,if_false,qd9,qp0 Z];refine wB ?_
 first | refine wB (qk4 st.typeIs (qa2 ?_)) | refine wB (qn5 st.typeIs (qa2 ?_))
 show wpAny _ _ (zb6 (.ref it) 0 .none >>= _) _ _ s;refine qg9 (qj5 i1 W (by simp) ?_);show wpAny _ _ (zh1 (.type "StopIteration") [] >>= _) _ _ _;refine wB ?_;simp only [zh1,zi7];refine wB (qd2 ?_ (by size_fits));refine qg9 (m:=qm8 _ _) (zb4 (a:=qh1) (by first | rfl | (simp only [qm8];rfl)) (qd2 ?_ (by size_fits)));simp only [zh2];refine wB (zb5 ?_);rw [show A.in1.handled=none from nh];refine wB (qa2 (zg3 ?_));refine wB (qr1 (b:=true) (T:="StopIteration") ⟨_,qa8 _ rfl,rfl⟩ zf8 ?_);exact qa2 (k _ (((qe6 ..).extBut.push _).push _))
theorem rQ (Z:A.handled=none) (W:d≠it):Walks prog w A it [it,d] [it] ks.length (fun i v=>ks[i]?=some v) (fun i h=>h.IsKeyIter it d i ks.length ep/\EntA h d ks ep) where
 sub:=fun b q=>by simp at q;simp [q]
 frame:=fun _ _ _ st hk=>⟨let ⟨o,h1,r⟩:=st.1;⟨o,hk it (by simp) o h1,r⟩,st.2.upTo fun o e=>hk d (by simp) o e⟩
 item:=fun i s Q E hi st O=>uk st.1 st.2 (key:=ks[i]) (by simp [hi]) fun h' U Y=>O _ h' s.toks (by simp [hi]) ⟨U,st.2.upTo fun o e=>Y.extBut d o W e⟩ fun b o q e=>Y.extBut b o (fun z=>q (by simp [z])) e
 done:=fun s Q E st O=>wR Z st.1 st.2 rfl fun h' eb=>O h' s.toks fun b o q e=>eb b o (fun z=>q (by simp [z])) e
 self:=fun _ _ _ _ st O=>wpAny_pyIter_keyiter st.1 O
theorem qh (lo:(d==qk8)=false):PySem.W.KdlSrc prog w "dict" d d ks.length (fun i v=>ks[i]?=some v) (fun h=>EntA h d ks ep) where
 type:=fun _ q=>q.ty
 there:=fun _ q=>⟨q.lt,q.lt⟩
 keep:=fun _ _ q hk=>q.upTo fun o e=>hk d (.inl rfl) o e
 notList:=by decide
 notTuple:=by decide
 hint:=fun _ _ _ _ q O=>PySem.W.kdl_hint_dict q.ty O
 iter:=fun _ _ U q=>⟨_,_,(fun _ _ O=>uj lo q O),rQ U (qb9 q.lt),⟨⟨_,qa8 _ rfl,rfl,rfl⟩,q.upTo fun o e=>gP _ e⟩⟩
end
set_option maxRecDepth 20000
def Rs (xs:Array Nat):Prop:=xs.toList.Pairwise (· < ·)
variable {xs:Array Nat}
theorem Rs.lt (h:Rs xs) {k:Nat} (hi:i<k) (hk:k<xs.size):xs[i]<xs[k]:=by have:=qz0.mp h i k (by simp;lia) (by simpa using hk) hi;simpa using this
def Cut (xs:Array Nat) (j p:Nat):Prop:=p<=xs.size/\(∀ i (q:i<xs.size),i<p->xs[i]<j)/\∀ i (q:i<xs.size),p<=i->j<=xs[i]
variable {j:Nat}
theorem oJ (h:Rs xs):∀ n lo hi,hi<=xs.size->lo<=hi->hi-lo<=n->(∀ i (q:i<xs.size),i<lo->xs[i]<j)->(∀ i (q:i<xs.size),hi<=i->j<=xs[i])->Cut xs j (qf5.go xs j n lo hi)
 | 0,lo,hi,h1,h2,h3,U,O=>by
  have e:lo=hi:=by lia
  subst e;exact ⟨h1,U,O⟩
 | n+1,lo,hi,h1,h2,h3,U,O=>by
  rw [qf5.go];by_cases c:lo<hi
  . rw [if_pos c];have Y:(lo+hi)/2<xs.size:=by lia
    dsimp only;rw [Array.getD_eq_getD_getElem?,qg1 Y,Option.getD_some];by_cases d:xs[(lo+hi)/2]<j
    . rw [if_pos d];refine oJ h n _ hi h1 (by lia) (by lia) (fun i q W=>?_) O;by_cases e:i=(lo+hi)/2
      . subst e;exact d
      . exact qy4 (h.lt (by lia:i<(lo+hi)/2) Y) d
    . rw [if_neg d];refine oJ h n lo _ (by lia) (by lia) (by lia) U fun i q W=>?_
      by_cases e:i=(lo+hi)/2
      . subst e;lia
      . have:=h.lt (by lia:(lo+hi)/2<i) q;lia
  . rw [if_neg c];have e:lo=hi:=by lia
    subst e;exact ⟨h1,U,O⟩
theorem iB (h:Rs xs) (j:Nat):Cut xs j (qf5 xs j):=oJ h _ _ _ (nL _) (qj2 _) (nL _) (fun i _ z=>absurd z (Nat.not_lt_zero _)) fun i q z=>absurd q (qv9.mpr z)
variable {p:Nat}
theorem Cut.uniq {q:Nat} (a:Cut xs j p) (b:Cut xs j q):p=q:=by
 obtain ⟨a1,U,O⟩:=a;obtain ⟨Z,W,Y⟩:=b;rcases Nat.lt_trichotomy p q with h | h | h
 . have x:=W p (by lia) h;have y:=O p (by lia) (nL _);lia
 . exact h
 . have x:=U q (by lia) h;have y:=Y q (by lia) (nL _);lia
theorem m9 (h:Rs xs):qf5 xs 0=0:=(iB h 0).uniq ⟨qj2 _,fun i _ z=>absurd z (Nat.not_lt_zero _),fun _ _ _=>qj2 _⟩
theorem oK (h:Rs xs) (hi:i<xs.size):qf5 xs (xs[i]+1)=i+1:=(iB h _).uniq ⟨hi,fun k q hk=>by
 by_cases e:k=i
 . subst e;lia
 . exact qh8 (h.lt (by lia:k<i) hi),fun k q hk=>h.lt hk q⟩
theorem ul {α:Type} (xs:Array α) (p:Nat) (x:α):(za3 xs p x).toList=xs.toList.take p++x::xs.toList.drop p:=by simp only [za3,qw8,za4,Array.toList_extract,qj1,List.singleton_append];simp;rw [List.take_of_length_le (by simp)]
theorem Ab (h:Rs xs) (hj:xs[qf5 xs j]?≠some j):Rs (za3 xs (qf5 xs j) j):=by
 obtain ⟨c1,c2,W⟩:=iB h j;generalize qf5 xs j=p at*
 have Y:∀ a∈xs.toList.take p,a<j:=fun a O=>by
  obtain ⟨i,hi,rfl⟩:=List.mem_iff_getElem.mp O;have q:i<p/\i<xs.size:=by simp at hi;lia
  simpa using c2 i q.2 q.1
 have Z:∀ a∈xs.toList.drop p,j<a:=fun a O=>by
  obtain ⟨i,hi,rfl⟩:=List.mem_iff_getElem.mp O;have q:p+i<xs.size:=by simp at hi;lia
  have:=W (p+i) q (by lia)
  have hne:xs[p+i]≠j:=fun e=>by
   by_cases z:i=0
   . subst z;exact hj (by rw [qg1 (by simpa using q)];simpa using e)
   . have y:=W p (by lia) (nL _);have w:=h.lt (by lia:p<p+i) q;lia
  simp;lia
 unfold Rs;rw [ul,List.pairwise_append];refine ⟨h.sublist (qz6 _ _),qk2.mpr ⟨Z,h.sublist (List.drop_sublist _ _)⟩,fun a O b U=>?_⟩;rcases qb3.mp U with rfl | U
 . exact Y a O
 . exact qy4 (Y a O) (Z b U)
def Fre (t:qf6) (j:Nat):Prop:=t.place[qf5 t.place j]?≠some j
theorem na {t:qf6} (h:∀ i,t.slot j≠.live i):Fre t j:=fun z=>by refine h (qf5 t.place j) ?_;unfold qf6.slot;dsimp only;rw [if_pos (by rw [z];simp)]
theorem kP (t:qf6) (p:qf6.Probe):(t.advance p).dummy=p.dummy:=by unfold qf6.advance;split<;>rfl
theorem iC {t:qf6} {g:Nat->Int} {h:Int}:∀ n p,(∀ d,p.dummy=some d->Fre t d)->∀ j d,qf6.probe.go t g h n p=some (.empty j d)->Fre t j/\∀ k,d=some k->Fre t k
 | 0,p,hp,j,d,e=>by cases e
 | n+1,p,hp,j,d,e=>by
  rw [qf6.probe.go] at e;split at e
  . rename_i q;cases e;exact ⟨na fun i z=>(by rw [q] at z;cases z),hp⟩
  . rename_i q;refine iC n _ (fun k hk=>?_) j d e;rw [kP] at hk;cases hk;exact na fun i z=>by rw [q] at z;cases z
  . split at e
    . cases e
    . exact iC n _ (fun k hk=>hp k (by rw [kP] at hk;exact hk)) j d e
theorem um {t:qf6} {h:Int} (e:t.freeSlot h=some (j,b)):Fre t j:=by
 unfold qf6.freeSlot at e;split at e
 . rename_i k d hk;obtain ⟨h1,h2⟩:=iC _ _ (fun d z=>by cases z) k d hk;cases e;cases d with
   | none=>exact h1
   | some x=>exact h2 x rfl
 . cases e
theorem gZ (n:Nat):Rs (Array.range n):=by unfold Rs;rw [Array.toList_range];exact zc6
theorem oM {t:qf6} (n:Nat) (h:Rs t.place):Rs (t.orStandIn n).place:=by
 unfold qf6.orStandIn;split
 . exact h
 . exact gZ n
theorem rR {t:qf6} (h:Rs t.place) (es:Array (Int×Value)) (k:Int) (x:Value):Rs (layNew t es k x).2.1.place:=by
 unfold layNew;split
 . rename_i j b e;exact oM _ (Ab h (um e))
 . exact gZ _
theorem uo (t:qf6) (es:Array (Int×Value)) (n:Nat):Rs (zb7 t es n).2.1.place:=by
 unfold zb7;split
 . rename_i t' O e;dsimp only;split
   . unfold qf6.relaid qf6.laid at e;simp only [qx3,qo1,qs9] at e;obtain ⟨_,_,e⟩:=e;cases e;unfold Rs;dsimp only;rw [qn6,List.pairwise_filterMap];refine qt5 (fun {a b} q x U y W=>?_) zc6;obtain ⟨_,_,rfl⟩:=mS U;obtain ⟨_,_,rfl⟩:=mS W;exact q
   . exact gZ _
 . exact gZ _
theorem oN (t:qf6) (es:Array (Int×Value)) (h:Int) (x:Value):(layNew t es h x).2.1.led=t.led:=by
 unfold layNew;split
 . dsimp only;unfold qf6.orStandIn;split<;>rfl
 . rfl
theorem rS (t:qf6) (es:Array (Int×Value)) (n:Nat):(zb7 t es n).2.1.led=t.led:=by
 unfold zb7;split
 . rename_i t' q e;dsimp only;split
   . unfold qf6.relaid qf6.laid at e;simp only [qx3,qo1,qs9] at e;obtain ⟨_,_,e⟩:=e;cases e;rfl
   . rfl
 . rfl
structure SK (P:qc8) (u:World) (K:Type) [DecidableEq K] where
 knd:PySem.KeyKind P u K
 put:K->Tok->Value
 of:Value->K
 is:∀ k t,knd.is k (put k t)=true
 ofmk:∀ k t,of (put k t)=k
 shape:∀ {k v},knd.is k v=true->∃ t,v=put k t
 scan:∀ k t,(put k t).scannable=true
noncomputable def rT (P:qc8) (u:World):SK P u Str where
 knd:=PySem.strKind P u
 put:=.str
 of v:=match v with | .str k _=>k | _=>""
 is:=strKind_is P u
 ofmk _ _:=rfl
 shape {k v} h:=by
  cases v<;>simp [PySem.strKind,zg4] at h
  subst h;exact ⟨_,rfl⟩
 scan _ _:=rfl
section
variable {P:qc8} {u:World} {K:Type} [DecidableEq K] {κ:SK P u K}
structure Tx (κ:SK P u K) (l:List (Int×Value)) (ss:List K):Prop where
 all:∀ e∈l,∃ k t,e.2=κ.put k t/\e.1=κ.knd.hash k
 per:(l.map fun e=>κ.of e.2).Perm ss
 nd:ss.Nodup
theorem Tx.elems {l:List (Int×Value)} {ss:List K} (x:Tx κ l ss):ElemsOf κ.knd l:=fun e q=>by obtain ⟨k,t,h1,h2⟩:=x.all e q;rw [h1];exact ⟨⟨k,κ.is k t,h2⟩,κ.scan k t⟩
theorem Tx.perm {l m:List (Int×Value)} {ss:List K} (x:Tx κ l ss) (p:m.Perm l):Tx κ m ss:=⟨fun e q=>x.all e (p.mem_iff.mp q),(p.map _).trans x.per,x.nd⟩
theorem Tx.mem {l:List (Int×Value)} {ss:List K} (x:Tx κ l ss) (k:K):k∈ss↔∃ e∈l,κ.knd.is k e.2=true:=by
 rw [<- x.per.mem_iff];constructor
 . intro h;obtain ⟨e,q,O⟩:=qc9.mp h;obtain ⟨k',t,h1,_⟩:=x.all e q;rw [h1,κ.ofmk] at O;refine ⟨e,q,?_⟩;rw [h1,<- O];exact κ.is k' t
 . rintro ⟨e,q,h⟩;obtain ⟨t,h1⟩:=κ.shape h;exact qc9.mpr ⟨e,q,by rw [h1,κ.ofmk]⟩
theorem Tx.push {l:List (Int×Value)} {ss:List K} (x:Tx κ l ss) {k:K} {t:Tok} (hk:k∉ss):Tx κ (l++[(κ.knd.hash k,κ.put k t)]) (ss++[k]):=⟨fun e q=>by
 rcases qf8.mp q with q | q
 . exact x.all e q
 . rw [qb7.mp q];exact ⟨k,t,rfl,rfl⟩,by
 rw [qc6];have:List.map (fun e=>κ.of e.2) [(κ.knd.hash k,κ.put k t)]=[k]:=by simp [κ.ofmk]
 rw [this];exact x.per.append_right _,by
 refine qe8.mpr ⟨x.nd,by simp,fun a O b U e=>?_⟩;rw [qb7.mp U] at e;exact hk (e▸O)⟩
structure TxS (κ:SK P u K) (h:Heap) (a:Addr) (ss:List K) (led:Bool):Prop where
 ex:∃ o es ep t,h.get? a=some o/\o.ExactSet/\o.data=.set es ep t/\Tx κ es.toList ss/\es.size<qn7/\t.fits es.size=true/\t.led=led/\Rs t.place
end
variable {hp:Heap}
section
variable {P:qc8} {u:World} {K:Type} [DecidableEq K] {κ:SK P u K} {A:qd5} {E:Value->qa4->Prop} {s:qa4} {a:Addr} {ss:List K} {led:Bool}
theorem kQ {o:Obj} {es fs:Array (Int×Value)} {tb tc:qf6} (g1:hp.get? a=some o) (g2:o.ExactSet) (W:o.data=.set es ep tb) (x:Tx κ fs.toList ss) (O:fs.size<qn7) (q:tc.fits fs.size=true) (U:tc.led=led) (Y:Rs tc.place) :
  (hp.update a (Obj.putSet fs tc)).get? a=some {o with data:=.set fs (ep+1) tc}/\TxS κ (hp.update a (Obj.putSet fs tc)) a ss led:=by
 have e:=(SetOf_store (knd:=κ.knd) (S':=fun k=>decide (k∈ss)) g1 g2 W x.elems (fun k=>by rw [decide_eq_true_eq];exact x.mem k) O q).1;exact ⟨e,⟨_,fs,ep+1,tc,e,g2,rfl,x,O,q,U,Y⟩⟩
theorem wS {k:K} {t:Tok} {Q:Bool->qa4->Prop} (hS:TxS κ s.heap a ss led) (room:ss.length+1<qn7)
  (q:∀ hp,qo0 a s.heap hp->TxS κ hp a (if k∈ss then ss else ss++[k]) led->∀ b,Q b {s with heap:=hp}):wpAny (model P u) A (setAddHashed a (κ.put k t) (κ.knd.hash k)) Q E s:=by
 obtain ⟨o,es,ep,tb,g1,g2,g3,x,hb,hf,hl,hpl⟩:=hS.ex;have hn:es.size=ss.length:=by rw [<- x.per.length_eq,qa1,qe1]
 have big:es.size+1<qn7:=by rw [hn];exact room
 unfold setAddHashed setAddHashedIn;refine qh4 (wB (qe9 g1 g3 hf ?_));dsimp only;rw [byScan_of (knd:=κ.knd) (κ.scan k t) hb x.elems];simp only [↓reduceIte];unfold setAddByScan;refine wB (wB (qw0 (wB (wpAny_setScan_of (κ.is k t) g1 g3 hf x.elems ?_))));cases hr:List.findIdx? (fun e=>κ.knd.is k e.2) es.toList with
 | some j =>dsimp only;obtain ⟨hj,hpj,_⟩:=List.findIdx?_eq_some_iff_getElem.mp hr;have hm:k∈ss:=(x.mem k).mpr ⟨es.toList[j],qi7 hj,hpj⟩;refine qa2 (qa2 ?_);have:=q s.heap (qo0.refl a s.heap) (by rw [if_pos hm];exact hS) false;rw [show s={s with heap:=s.heap} by cases s;rfl];exact this
 | none =>
  dsimp only
  have hm:k∉ss:=fun z=>by obtain ⟨e,he,hp⟩:=(x.mem k).mp z;have:=List.findIdx?_eq_none_iff.mp hr e he;rw [hp] at this;exact Bool.noConfusion this
  rw [if_neg hm] at q;have perm:=layNew_perm tb es (κ.knd.hash k) (κ.put k t);have fits:=layNew_fits tb es (κ.knd.hash k) (κ.put k t);have ledd:=And.intro (oN tb es (κ.knd.hash k) (κ.put k t)) (rR hpl es (κ.knd.hash k) (κ.put k t));generalize layNew tb es (κ.knd.hash k) (κ.put k t)=L at perm fits ledd ⊢;obtain ⟨fs,tc,wasD,gave⟩:=L;dsimp only at perm fits ledd ⊢;rw [za4] at perm;have y:Tx κ fs.toList (ss++[k]):=(x.push hm).perm perm;have hb2:fs.size<qn7:=by rw [<- qe1,perm.length_eq,qb5,qe1];simpa using big
  have gw:∀ (b:Bool) {s1:qa4} {Q1:Unit->qa4->Prop},Q1 () s1->wpAny (model P u) A (match b with | true=>rule "set.scan.the-table-gave-way" | false=>pure ()) Q1 E s1:=fun b s1 Q1 z=>by
   cases b
   . exact qa2 z
   . exact qw0 z
  refine wB (gw _ ?_)
  have tail:∀ tc2:qf6,tc2.fits fs.size=true->tc2.led=led->Rs tc2.place->wpAny (model P u) A (do
      storeSet a fs tc2
      if (!wasD&&tc2.tooFull)=true then do
          (match (zb7 tc2 fs (qm9 fs.size)).2.2 with | true=>rule "set.scan.the-table-gave-way" | false=>pure ())
          storeSet a (zb7 tc2 fs (qm9 fs.size)).1 (zb7 tc2 fs (qm9 fs.size)).2.1
          pure (some true)
       else pure (some true)) (fun r s1=>wpAny (model P u) A (match r with | some added=>pure added | none=>setAddHashedIn a (κ.put k t) (κ.knd.hash k) 99999) Q E s1) E s:=fun tc2 h1 h2 h3=>by
   refine wB (wpAny_storeSet_of g1 g3 ?_ (qt6 hb2));obtain ⟨e1,T1⟩:=kQ g1 g2 g3 y hb2 h1 h2 h3;have sb:=qe6 s.heap a (Obj.putSet fs tc2);split
   . have p2:=relayAll_perm tc2 fs (qm9 fs.size);have f2:=relayAll_fits tc2 fs (qm9 fs.size);have l2:=And.intro (rS tc2 fs (qm9 fs.size)) (uo tc2 fs (qm9 fs.size));generalize zb7 tc2 fs (qm9 fs.size)=M at p2 f2 l2 ⊢;obtain ⟨gs,td,gave2⟩:=M;dsimp only at p2 f2 l2 ⊢;have sz:gs.size=fs.size:=by rw [<- qe1,p2.length_eq,qe1]
     have hb3:gs.size<qn7:=by rw [sz];exact hb2
     refine wB (gw _ (wB (wpAny_storeSet_of e1 rfl ?_ (qt6 hb3))));obtain ⟨_,T2⟩:=kQ e1 g2 rfl (y.perm p2) hb3 f2 (l2.1.trans h2) l2.2;exact qa2 (qa2 (q _ (sb.trans (qe6 _ a _)) T2 true))
   . exact qa2 (qa2 (q _ sb T1 true))
  split
  . refine wB ?_;rw [hashByValue_scannable 8 (κ.scan k t)];refine qa2 ?_;split
    . exact tail tc fits (ledd.1.trans hl) ledd.2
    . exact tail {tc with plain:=false} (qf6.fits_plain_off fits) (ledd.1.trans hl) ledd.2
  . refine wB (qa2 ?_);exact tail tc fits (ledd.1.trans hl) ledd.2
end
def j1 {K:Type} [DecidableEq K] (acc:List K) (k:K):List K:=if k∈acc then acc else acc++[k]
def met {K:Type} [DecidableEq K] (val:Nat->K) (i:Nat):List K:=((qb8 i).map val).foldl j1 []
theorem ng {K:Type} [DecidableEq K] (val:Nat->K) (i:Nat):met val (i+1)=j1 (met val i) (val i):=by unfold met;rw [qx4,qc6,List.foldl_append];rfl
theorem lM {K:Type} [DecidableEq K] (val:Nat->K):∀ i,(met val i).length<=i
 | 0=>nL _
 | i+1=>by
  rw [ng];have:=lM val i;unfold j1;split
  . lia
  . rw [qb5,qg6];lia
section
variable {P:qc8} {u:World} {K:Type} [DecidableEq K] {κ:SK P u K} {A:qd5} {R:Result->qa4->Prop} {I:Addr} {fp wr:List Addr} {G:Array GenState->Array GenState->Prop} {n:Nat} {Pv:Nat->Value->Prop} {St:Nat->qa4->Prop} {led:Bool}
theorem TxS.moved {ss:List K} (x:TxS κ h a ss led) (e:∀ o,h.get? a=some o->h'.get? a=some o):TxS κ h' a ss led:=by obtain ⟨o,es,ep,t,g,r⟩:=x.ex;exact ⟨o,es,ep,t,e o g,r⟩
theorem uq (W:WalksS P u A.in1 I fp wr G n Pv St) (S:Addr) (out:S∉fp) (val:Nat->K) (Z:∀ i v,Pv i v->∃ t,v=κ.put (val i) t) (O:n+1<qn7) :
  ∀ (m i:Nat) (s:qa4),n-i=m->i<=n->St i s->TxS κ s.heap S (met val i) led->(∀ s',Moved (S::wr) G s s'->TxS κ s'.heap S (met val n) led->R (.ok (.ret .none)) s')→
   qq5 (model P u) A (.builtin "set.update.loop" ⟨[.ref S,.ref I],[]⟩) R s:=by
 have nw:S∉wr:=fun h=>out (W.sub _ h)
 have sub:∀ b∈wr,b∈S::wr:=fun b O=>qd3 _ O
 intro m;induction m with
 | zero =>
  intro i s hm hi q hS hR;obtain rfl:i=n:=by lia
  refine qp5 zb8 ?_;rw [qn0 qs7 _];refine wB (W.done s _ _ q fun s1 Y=>?_);exact qa2 (hR s1 (Y.mono sub) (hS.moved fun o e=>Y.heap S _ nw e))
 | succ m ih =>
  intro i s hm hi q hS hR;have lt:i<n:=by lia
  refine qp5 zb8 ?_;rw [qn0 qs7 _];refine wB (W.item i s _ _ lt q fun v s1 hP hst1 Y=>?_);obtain ⟨t,rfl⟩:=Z i v hP;have hS1:TxS κ s1.heap S (met val i) led:=hS.moved fun o e=>Y.heap S _ nw e
  show wpAny _ A.in1 (zd6 [κ.put (val i) t] (setAdd S (κ.put (val i) t)) >>= _) _ _ s1;refine wB (qh4 ?_);unfold setAdd;refine qh4 (wB (κ.knd.pyHash (k:=val i) (κ.is _ _) ?_));have U:(met val i).length+1<qn7:=by have:=lM val i;lia
  refine wS (s:={s1 with toks:=s1.toks+1}) hS1 U fun h2 sb hS2 b=>?_
  have hS3:TxS κ h2 S (met val (i+1)) led:=by rw [ng];exact hS2
  refine qa2 ⟨qv5 qs7 _,ih (i+1) _ (by lia) lt (W.frame _ s1 _ _ hst1 (qx0 _) fun b O o e=>?_) hS3 fun s2 mv2 hS4=>?_⟩
  . rw [sb.2 b (fun h:b=S=>out (by rw [<- h];exact O))];exact e
  . refine hR s2 (Moved.trans W.gtrans ((Y.mono sub).then_heap (qx0 _) fun b o O e=>?_) mv2) hS4;rw [sb.2 b (fun h:b=S=>O (by rw [h];exact qe5))];exact e
end
def cZ (u:World):Bool:=!(u.params.followText "set-order")
section
variable {P:qc8} {u:World} {K:Type} [DecidableEq K] {κ:SK P u K} {A:qd5} {E:Value->qa4->Prop} {s:qa4}
theorem wT (v:Value) {Q1:Value->qa4->Prop} (q:Q1 (.ref s.heap.objs.size) {s with heap:=s.heap.push {cls:=.type "set",dict:=none,data:=.set #[] 0 (.fresh 0 0 (cZ u))}}) :
  qq5 (model P u) A (.call (.builtin "set.__new__") ⟨[.type "set",v],[]⟩) (wants Q1 E) s:=by
 refine codeAny_of_tree ?_;show wpAny _ A.in1 (do checkBuiltinCall "set.__new__" ⟨[.type "set",v],[]⟩;again (.builtin "set.__new__" ⟨[.type "set",v],[]⟩)) _ _ s;refine wB (zb4 (F.newCall_set_1 v) (qa2 ⟨qv5 F.plain_set_new _,qp5 F.entry_set_new ?_⟩));rw [qn0 F.plain_set_new _];unfold qh5.«set.__new__» qh5.Frozenset.newClass;have z:=sub_set_self;obtain ⟨hp,g,d,tk,O⟩:=s;dsimp only;wp_walk;refine qo7 (qa2 ?_);dsimp only;simp only [newObj];refine wB (wpAny_alloc (qa2 ?_));exact qa2 q
end
variable {led:Bool}
section
variable {P:qc8} {u:World} {K:Type} [DecidableEq K] {κ:SK P u K} {A:qd5} {E:Value->qa4->Prop} {s:qa4}
theorem rV (e:hp.get? a=some {cls:=.type "set",dict:=none,data:=.set #[] 0 (.fresh 0 0 led)}):TxS κ hp a [] led:=⟨_,#[],0,.fresh 0 0 led,e,⟨rfl,rfl,rfl⟩,rfl,⟨(fun e q=>by cases q),qz1 _,qt8⟩,(by unfold qn7;decide),(by cases led<;>rfl),rfl,.nil⟩
theorem ur {l:Addr} {vs:Array Value} {val:Nat->K} (W:A.handled=none) (hl:s.heap.IsList l vs) (hi:∀ (i:Nat) (v:Value),vs[i]?=some v->∃ t,v=κ.put (val i) t) (hb:vs.size+1<qn7)
 (q:∀ (hp:Heap) (tk:Nat),TxS κ hp s.heap.objs.size (met val vs.size) (cZ u)->(∀ b o,b<s.heap.objs.size->s.heap.get? b=some o->hp.get? b=some o)->Q (.ref s.heap.objs.size) {s with heap:=hp,toks:=tk}) :
  wpAny (model P u) A (call (.type "set") [.ref l]) Q E s:=by
 obtain ⟨c0,tl0,m0⟩:=qp6.mro;have m1:=qp6.made;have m2:=qp6.sub;refine zh5 (codeAny_of_tree ?_);show wpAny _ _ (callAny (.type "set") _) _ _ _;refine qa2 ⟨Code.quiet_builtin _ (by decide +kernel),qp5 F.entry_type_call ?_⟩;rw [qd5.under_plain (weight_type_call_type "set" [.ref l] []) rfl];have m3:=qp6.notType;have m4:=qp6.canCreate;have m5:=F.typeCall_set_1 (.ref l)
 repeat (any_goals (first | assumption | wp_step))
 refine qr7 (wT (.ref l) (E:=E) (Q1:=fun x s1=>x=.ref s.heap.objs.size/\s1={s with heap:=s.heap.push {cls:=.type "set",dict:=none,data:=.set #[] 0 (.fresh 0 0 (cZ u))}}) ⟨rfl,rfl⟩) fun r s1 hr=>?_
 cases r with
 | error e=>exact hr
 | ok fl =>
  cases fl with
  | ret x =>
   obtain ⟨rfl,rfl⟩:=hr;have gS:(s.heap.push {cls:=.type "set",dict:=none,data:=.set #[] 0 (.fresh 0 0 (cZ u))}).get? s.heap.objs.size=some {cls:=.type "set",dict:=none,data:=.set #[] 0 (.fresh 0 0 (cZ u))}:=qa8 _ rfl;have tS:zh3 {s with heap:=s.heap.push {cls:=.type "set",dict:=none,data:=.set #[] 0 (.fresh 0 0 (cZ u))}} (.ref s.heap.objs.size) "set":=⟨_,gS,rfl⟩;have n1:=qp6.init.lookup;have n2:=qp6.init.bind (.ref s.heap.objs.size)
   repeat (any_goals (first | assumption | wp_step))
   refine qr7 (codeAny_call_builtin (R:=wants (fun r s2=>r=.none/\∃ hp tk,s2={s with heap:=hp,toks:=tk}/\TxS κ hp s.heap.objs.size (met val vs.size) (cZ u)/\(∀ b o,b<s.heap.objs.size->s.heap.get? b=some o->hp.get? b=some o)) E) qp6.init.plain F.entry_set_init (check_set_init_1 tS ?_)) fun r2 s2 U=>?_
   . obtain ⟨ol,hol,hcl,nl,Z⟩:=hl;obtain ⟨oc,od,oda,osl⟩:=ol;simp only at hcl Z;subst hcl Z;have hol2:(s.heap.push {cls:=.type "set",dict:=none,data:=.set #[] 0 (.fresh 0 0 (cZ u))}).get? l=some {cls:=.type "list",dict:=od,data:=.seq vs nl,slots:=osl}:=gP _ hol;have k1:=F.sub_list_set;have k2:=F.sub_list_frozenset;have k3:(qj9 "list"==qj9 "dict")=false:=by decide
     have Y:(s.heap.push {cls:=.type "set",dict:=none,data:=.set #[] 0 (.fresh 0 0 (cZ u))}).IsList l vs:=⟨_,hol2,rfl,nl,rfl⟩;unfold qh5.«set.__init__» noKeywords qh5.Frozenset.updateFrom;generalize hPI:zj2=PI;wp_walk;subst hPI;refine qz3 Y (wB (wpAny_runValue ?_));have ls:l<s.heap.objs.size:=qa7 hol;have c3:A.in1.in1.in1.handled=none:=by simp [W]
     have ne1:l≠(s.heap.push {cls:=.type "set",dict:=none,data:=.set #[] 0 (.fresh 0 0 (cZ u))}).objs.size:=by rw [qf4];exact qb9 (qh8 ls)
     have ne2:s.heap.objs.size∉[(s.heap.push {cls:=.type "set",dict:=none,data:=.set #[] 0 (.fresh 0 0 (cZ u))}).objs.size,l]:=by rw [qf4];simp only [qb3,qb7,ql9,or_false,not_or];exact ⟨qb9 (qo6 _),qm1 ls⟩
     refine uq ((Walks.list c3 _ l ne1 vs).toS) s.heap.objs.size ne2 val hi hb (vs.size-0) 0 _ (by lia) (qj2 _) ⟨⟨_,qa8 _ rfl,rfl,rfl⟩,(Y.push _)⟩ (rV (gP _ gS)) fun s3 mv O=>?_
     obtain ⟨hp,g3,d3,tk3,o3⟩:=s3;have eg:g3=s.gens:=mv.gens;have ed:d3=s.drawn:=mv.drawn;have eo:o3=s.os:=mv.os;subst eg ed eo;show wpAny _ _ _ _ _ _;refine qa2 ?_;show wpAny _ _ (ret qh1) _ _ _;refine qa2 ⟨rfl,hp,tk3,rfl,O,fun b o hb e=>?_⟩;have b1:b≠s.heap.objs.size:=qb9 hb
     have b2:b≠(s.heap.push {cls:=.type "set",dict:=none,data:=.set #[] 0 (.fresh 0 0 (cZ u))}).objs.size:=by rw [qf4];exact qb9 (qh8 hb)
     exact mv.heap b o (by simp only [qb3,qb7,ql9,or_false,not_or];exact ⟨b1,b2⟩) (ql5 _ (ql5 _ e))
   . cases r2 with
     | error e=>exact U
     | ok f2 =>
      cases f2 with
      | ret r =>
       obtain ⟨rfl,hp,tk,rfl,O,kept⟩:=U
       repeat (any_goals (first | assumption | wp_step))
       exact q _ _ O kept
      | _=>exact U.elim
  | _=>exact hr.elim
end
theorem iD {α:Type}:∀ {l:List α} {i:Nat} (h:i<l.length),(l[i]::l.eraseIdx i).Perm l
 | x::l,0,h=>qz1 _
 | x::l,i+1,h=>by have:=iD (l:=l) (i:=i) (by simpa using h);exact (zj4.swap _ _ _).trans (this.cons x)
section
variable {M:Model} {A:qd5} {E:Value->qa4->Prop}
theorem oO {src:Source} {Q:Nat->qa4->Prop} (O:n≠0) (q:∀ i d,i<n->Q i {s with drawn:=d}):wpAny M A (choose src n) Q E s:=fun G p U=>by show Sem.wp M G (.choose src n .pure) _ _ p s;rw [Sem.wp_choose];refine ⟨O,?_⟩;rw [Sem.wp_pure];exact q _ _ (qw1 _ (Nat.pos_of_ne_zero O))
theorem f7 {α:Type}:∀ (n:Nat) (xs:List α) {Q:List α->qa4->Prop} {s:qa4},xs.length=n->(∀ ys d,ys.Perm xs->Q ys {s with drawn:=d})->wpAny M A (drawOrder n xs) Q E s
 | 0,xs,Q,s,O,q=>by have e:xs=[]:=zb9.mp O;subst e;show wpAny M A (pure []) Q E s;refine qa2 ?_;have:=q [] s.drawn (qz1 _);cases s;exact this
 | n+1,[],Q,s,O,q=>by cases O
 | n+1,x::xs,Q,s,O,q=>by show wpAny M A (choose .order (x::xs).length >>= fun i=>match (x::xs)[i]? with | some y=>(drawOrder n ((x::xs).eraseIdx i)) >>= fun ys=>pure (y::ys) | none=>unsupported "internal:drawOrder") Q E s;refine qg9 (oO (by simp) fun i d hi=>?_);rw [gQ hi];dsimp only;refine wB (f7 n ((x::xs).eraseIdx i) (by rw [qx9 hi];lia) fun ys d2 p=>qa2 (q _ d2 ?_));exact (p.cons _).trans (iD hi)
end
theorem lN:entryFor table "set.__iter__"=some qh5.«frozenset.__iter__»:=entryFor_alias (id':="frozenset.__iter__") (by kernel_rfl) rfl (by decide +kernel) (by kernel_rfl)
theorem iN:zf0 (.type "set_iterator") "__next__"=pure (some (.builtin "set_iterator.__next__")):=by rw [qs8,qm5];kernel_rfl
section
variable {P:qc8} {u:World} {A:qd5} {E:Value->qa4->Prop} {s:qa4} {a:Addr} {o:Obj} {es:Array (Int×Value)} {ep:Nat} {t:qf6}
def jB (first:Value) (i:Int) (a:Addr) (n ep:Nat):Obj:={cls:=.type "set_iterator",data:=.fields #[first,qf2 i,.ref a,qf2 n,qf2 ep]}
theorem ni (g1:s.heap.get? a=some o) (g2:o.ExactSet) (W:o.data=.set es ep t) (U:t.fits es.size=true) (Z:es.size<qn7)
 (q1:∀ (ys:List Nat) d,cZ u=true->(t.plain=false/\1<es.size)->ys.Perm (qb8 es.size)->Q (.ref (s.heap.objs.size+1)) {s with drawn:=d,heap:=(s.heap.push {cls:=.type "tuple",data:=.seq (ys.map fun (i:Nat)=>qf2 i).toArray}).push (jB (.ref s.heap.objs.size) 0 a es.size ep)})
 (q2:(cZ u=false∨¬ (t.plain=false/\1<es.size))->Q (.ref s.heap.objs.size) {s with heap:=s.heap.push (jB (qf2 0) 0 a es.size ep)}):wpAny (model P u) A (zj2 (.ref a)) Q E s:=by
 have Y:s.TypeIs (.ref a) "set":=⟨o,g1,g2.1⟩;refine za1 Y F.slot_set_iter (qe7 F.slot_set_iter Y lN ?_ (F.args_set_iter_1 _));unfold qh5.«frozenset.__iter__»;refine wB (wB (qa2 (qa2 ?_)));unfold qh5.Frozenset.sizeOf zf4;refine wB (wB (wB (qe9 g1 W U (qa2 (qa2 ?_)))));unfold setDrawn zh9;refine wB (wB (qe9 g1 W U (wB (wB (qo7 (qa2 (qa2 ?_)))))));have hl:(!(u.params.followText "set-order"))=cZ u:=rfl;show wpAny (model P u) A.in1 (if (!(u.params.followText "set-order")&&(!t.plain&&decide (es.size > 1)))=true then (drawOrder es.size (qb8 es.size) >>= fun ys=>zi7 (ys.map fun (i:Nat)=>qf2 i) >>= fun first=>setEpoch a >>= fun e=>newFields "set_iterator" [first,qf2 0,.ref a,qf2 es.size,qf2 e] >>= fun v=>ret v) else (pure (qf2 0) >>= fun first=>setEpoch a >>= fun e=>newFields "set_iterator" [first,qf2 0,.ref a,qf2 es.size,qf2 e] >>= fun v=>ret v)) _ _ s;rw [hl];by_cases q:(cZ u&&(!t.plain&&decide (es.size > 1)))=true
 . rw [if_pos q];simp only [qb1,qj3,decide_eq_true_eq] at q;refine qg9 (f7 _ _ (by simp) fun ys d p=>?_);have O:ys.length=es.size:=by rw [p.length_eq,qt4]
   refine wB ?_;refine wpAny_newTuple ?_ (by rw [qa1,O];exact qt6 Z);unfold setEpoch;refine wB (wB (qe9 (s:={s with drawn:=d,heap:=s.heap.push {cls:=.type "tuple",data:=.seq (ys.map fun (i:Nat)=>qf2 i).toArray}}) (gP _ g1) W U (qa2 ?_)));refine wB (qd2 (qa2 ⟨_,rfl,"set_iterator",_,⟨_,qa8 _ rfl,rfl⟩,iN,?_⟩));have:=q1 ys d q.1 q.2 p;rw [qf4];exact this
 . rw [if_neg q];refine wB (qa2 ?_);unfold setEpoch;refine wB (wB (qe9 g1 W U (qa2 ?_)));refine wB (qd2 (qa2 ⟨_,rfl,"set_iterator",_,⟨_,qa8 _ rfl,rfl⟩,iN,?_⟩));refine q2 ?_;by_cases h1:cZ u=true
   . right;intro z;exact q (by rw [h1,z.1];simp;exact z.2)
   . left;simpa using h1
end
theorem kR:Manifest.owners.lookup (String.ofList ['r','o','t','a','r','e','t','i','_','t','e','s'].reverse)=some Manifest.sig_set_iterator:=by kernel_rfl
theorem slot_setit:Slot "set_iterator" "__next__" "set_iterator.__next__":=.of (owner:="set_iterator") (n:="__next__") (by rw [qs8,qm5];kernel_rfl) (by decide +kernel) (by decide +kernel) (by decide +kernel) (by first | exact .inl (by decide +kernel) | exact .inr (by decide +kernel)) (by rw [zf9];kernel_rfl)
theorem fP:entryFor table "set_iterator.__next__"=some qh5.«set_iterator.__next__»:=entryFor_of_tree (by kernel_rfl)
theorem eJ (v:Value):argsOk "set_iterator.__next__" ⟨[v],[]⟩:=by unfold argsOk;rw [signature?_of (id:="set_iterator.__next__") (n:=['_','_','t','x','e','n','_','_']) (o:=['r','o','t','a','r','e','t','i','_','t','e','s']) (by kernel_rfl) kR];kernel_rfl
variable {first:Value} {ot:Obj} {m:Nat}
section
variable {P:qc8} {u:World} {A:qd5} {E:Value->qa4->Prop} {s:qa4} {a I:Addr} {o:Obj} {es:Array (Int×Value)} {ep n:Nat} {t:qf6}
def ItAt (h:Heap) (I:Addr) (first:Value) (i:Nat) (a:Addr) (n ep:Nat):Prop:=∃ q,h.get? I=some q/\q.cls=.type "set_iterator"/\q.data=.fields #[first,qf2 i,.ref a,qf2 n,qf2 ep]
theorem ItAt.ty (x:ItAt s.heap I first i a n ep):s.TypeIs (.ref I) "set_iterator":=let ⟨q,h,c,_⟩:=x;⟨q,h,c⟩
theorem jC {T:Addr} {ps:Array Value} {Y:Int} {x:Value} {Q:Option Value->qa4->Prop} (O:ItAt s.heap I (.ref T) i a es.size ep) (g1:s.heap.get? a=some o) (Z:o.data=.set es ep t) (hf:t.fits es.size=true) (k1:s.heap.get? T=some ot) (k2:ot.data=.seq ps m) (hp:ps[i]?=some (qf2 p)) (Y:es[p]?=some (Y,x))
 (q:∀ h',ItAt h' I (.ref T) (i+1) a es.size ep->qo0 I s.heap h'->Q (some x) {s with heap:=h'}):wpAny (model P u) A (qy0 (.ref I)) Q E s:=by
 obtain ⟨oi,hi,hc,W⟩:=id O;unfold qy0;refine wB (qs6 (qe3 (name:=qa0 "__next__") O.ty slot_setit (qe7 slot_setit O.ty fP ?_ (eJ _))));unfold qh5.«set_iterator.__next__»;refine wB (qa2 (wB (qq9 hi W ?_)));unfold zf4;refine wB (wB (qe9 g1 Z hf (qa2 ?_)));rw [if_neg (by simp)];refine wB (qt9 k1 k2 ?_);dsimp only;rw [qd9,hp];show wpAny _ _ (setNextDrawn a ((p:Int)).toNat ((ep:Int)).toNat >>= fun x=>zb6 (.ref I) 1 (qf2 ((i:Int)+1)) >>= fun _=>ret x) _ _ s;rw [qd9,qd9];unfold setNextDrawn;refine wB (wB (qe9 g1 Z hf ?_));dsimp only;rw [if_neg (by simp),Y];refine qa2 ?_;refine qg9 (qj5 hi W (by simp) ?_)
 have U:ItAt (s.heap.update I (qq2 (·.setIfInBounds 1 (qf2 ((i:Int)+1))))) I (.ref T) (i+1) a es.size ep:=⟨_,qe4 _ hi (qh7 (qe0 W _)),(qq1 ..).trans hc,by rw [qe0 W];simp [qf2]⟩
 exact qa2 ⟨_,rfl,qa2 (q _ U (qe6 ..))⟩
end
set_option maxHeartbeats 400000
section
variable {P:qc8} {u:World} {A:qd5} {E:Value->qa4->Prop} {s:qa4} {a I:Addr} {o:Obj} {es:Array (Int×Value)} {ep n:Nat} {t:qf6}
theorem j2 {T:Addr} {ps:Array Value} {m:Nat} {Q:Option Value->qa4->Prop} (U:A.handled=none) (O:ItAt s.heap I (.ref T) es.size a es.size ep) (g1:s.heap.get? a=some o) (Y:o.data=.set es ep t) (hf:t.fits es.size=true) (k1:s.heap.get? T=some ot) (Z:ot.data=.seq ps m) (hp:ps.size=es.size)
 (q:∀ h',zg2 I s.heap h'->Q none {s with heap:=h'}):wpAny (model P u) A (qy0 (.ref I)) Q E s:=by
 obtain ⟨oi,hi,hc,W⟩:=id O;unfold qy0;refine wB (qs6 (qe3 (name:=qa0 "__next__") O.ty slot_setit (qe7 slot_setit O.ty fP ?_ (eJ _))));unfold qh5.«set_iterator.__next__»;refine wB (qa2 (wB (qq9 hi W ?_)));unfold zf4;refine wB (wB (qe9 g1 Y hf (qa2 ?_)));rw [if_neg (by simp)];refine wB (qt9 k1 Z ?_);dsimp only;rw [qd9,qp0 (by lia)];show wpAny _ _ (zb6 (.ref I) 0 (qf2 0) >>= fun _=>zb6 (.ref I) 2 .none >>= fun _=>zh1 (.type "StopIteration") [] >>= fun e=>zh2 e) _ _ s;refine qg9 (qj5 hi W (by simp) ?_);refine qg9 (qj5 (qe4 _ hi (qh7 (qe0 W _))) (qe0 W _) (by simp) ?_);show wpAny _ _ (zh1 (.type "StopIteration") [] >>= _) _ _ _;refine wB ?_;simp only [zh1,zi7];refine wB (qd2 ?_ (by size_fits));refine qg9 (m:=qm8 _ _) (zb4 (a:=qh1) (by first | rfl | (simp only [qm8];rfl)) ?_);refine qd2 ?_ (by size_fits);simp only [zh2];refine wB (zb5 ?_);rw [show A.in1.handled=none from U];refine wB (qa2 (zg3 ?_));refine wB (qr1 (T:="StopIteration") (b:=true) ⟨_,qa8 _ rfl,rfl⟩ zf8 ?_);exact qa2 (q _ (((qe6 ..).trans (qe6 ..)).extBut.push _ |>.push _))
end
theorem qi {α:Type} (f:Nat->Nat):∀ (n k:Nat) (l:List α) (q:Array α),l.length=n->(zi2 f n k l q).toList.Perm (q.toList++l)
 | 0,k,l,q,U=>by have e:l=[]:=zb9.mp U;subst e;rw [zi2,qi0]
 | n+1,k,l,q,U=>by have O:f k%l.length<l.length:=qw1 _ (by lia);rw [zi2,gQ O];dsimp only;refine (qi f n (k+1) (l.eraseIdx (f k%l.length)) (q.push l[f k%l.length]) (by rw [qx9 O];lia)).trans ?_;rw [za4,qj1];exact zj4.append_left _ (iD O)
theorem qj {α:Type} (f:Nat->Nat) (xs:Array α):(ze6 f xs).toList.Perm xs.toList:=by have:=qi f xs.size 0 xs.toList #[] (by simp);simpa [ze6] using this
section
variable {P:qc8} {u:World} {A:qd5} {E:Value->qa4->Prop} {s:qa4} {a I:Addr} {o:Obj} {es:Array (Int×Value)} {ep n:Nat} {t:qf6}
theorem d8 {Q:Option (Value×Nat)->qa4->Prop} (O:cZ u=false) (g1:s.heap.get? a=some o) (Y:o.data=.set es ep t) (W:t.fits es.size=true)
 (q:Q (((ze6 (u.params.setOrder a ep) es)[i]?).map fun e=>(e.2,j)) s):wpAny (model P u) A (zc0 a j i ep) Q E s:=by
 have U:u.params.followText "set-order"=true:=by unfold cZ at O;simpa using O
 unfold zc0 zh9;refine wB (qe9 g1 Y W (wB (wB (qo7 (qa2 ?_)))));show wpAny (model P u) A (if u.params.followText "set-order"=true then _ else _) Q E s;rw [if_pos U,if_neg (by simp)];unfold setWalk zh9;refine wB (wB (qe9 g1 Y W (wB (wB (qo7 (qa2 ?_))))));show wpAny (model P u) A (if u.params.followText "set-order"=true then _ else _) _ E s;rw [if_pos U];refine wB (qo7 (qa2 ?_));exact qa2 q
end
section
variable {P:qc8} {u:World} {A:qd5} {E:Value->qa4->Prop} {s:qa4} {a I:Addr} {o:Obj} {es:Array (Int×Value)} {ep n:Nat} {t:qf6}
theorem eO {Q:Option (Value×Nat)->qa4->Prop} (O:cZ u=true) (U:t.led=true) (one:¬ (t.plain=false/\1<es.size)) (g1:s.heap.get? a=some o) (Z:o.data=.set es ep t) (W:t.fits es.size=true)
 (q:Q (match es[qf5 t.place j]?,t.place[qf5 t.place j]? with | some (_,x),some k=>some (x,k+1) | _,_=>none) s):wpAny (model P u) A (zc0 a j i ep) Q E s:=by
 have Y:u.params.followText "set-order"=false:=by unfold cZ at O;simpa using O
 unfold zc0 zh9;refine wB (qe9 g1 Z W (wB (wB (qo7 (qa2 ?_)))));show wpAny (model P u) A (if u.params.followText "set-order"=true then _ else if (!t.plain&&decide (es.size > 1))=true then _ else (if (!t.led&&!es.isEmpty)=true then unsupported "set:maker-not-led" else pure ()) >>= fun _=>pure (match es[qf5 t.place j]?,t.place[qf5 t.place j]? with | some (_,x),some k=>some (x,k+1) | _,_=>none)) Q E s;rw [Y,if_neg (by decide),if_neg (by simpa using one),if_neg (by simp [U])];exact wB (qa2 (qa2 q))
theorem jD {next:Nat} {x:Value} {Q:Option Value->qa4->Prop} (O:ItAt s.heap I (qf2 j) i a es.size ep) (g1:s.heap.get? a=some o) (g3:o.data=.set es ep t) (hf:t.fits es.size=true) (hn:∀ {A':qd5} {Y:Option (Value×Nat)->qa4->Prop} {E':Value->qa4->Prop},Y (some (x,next)) s->wpAny (model P u) A' (zc0 a j i ep) Y E' s)
 (q:∀ h',ItAt h' I (qf2 next) (i+1) a es.size ep->qo0 I s.heap h'->Q (some x) {s with heap:=h'}):wpAny (model P u) A (qy0 (.ref I)) Q E s:=by
 obtain ⟨oi,hi,hc,U⟩:=id O;unfold qy0;refine wB (qs6 (qe3 (name:=qa0 "__next__") O.ty slot_setit (qe7 slot_setit O.ty fP ?_ (eJ _))));unfold qh5.«set_iterator.__next__»;refine wB (qa2 (wB (qq9 hi U ?_)));unfold zf4;refine wB (wB (qe9 g1 g3 hf (qa2 ?_)));rw [if_neg (by simp)];show wpAny _ _ (zc0 a ((j:Int)).toNat ((i:Int)).toNat ((ep:Int)).toNat >>= _) _ _ s;rw [qd9,qd9,qd9];refine wB (hn ?_);show wpAny _ _ (zb6 (.ref I) 0 (qf2 next) >>= fun _=>zb6 (.ref I) 1 (qf2 ((i:Int)+1)) >>= fun _=>ret x) _ _ s;refine qg9 (qj5 hi U (by simp) ?_);refine qg9 (qj5 (qe4 _ hi (qh7 (qe0 U _))) (qe0 U _) (by simp) ?_);have e1:(s.heap.update I (qq2 (·.setIfInBounds 0 (qf2 next)))).get? I=some (qq2 (·.setIfInBounds 0 (qf2 next)) oi):=qe4 _ hi (qh7 (qe0 U _));have Z:=qe0 U (·.setIfInBounds 0 (qf2 next))
 have W:ItAt ((s.heap.update I (qq2 (·.setIfInBounds 0 (qf2 next)))).update I (qq2 (·.setIfInBounds 1 (qf2 ((i:Int)+1))))) I (qf2 next) (i+1) a es.size ep:=⟨_,qe4 _ e1 (qh7 (qe0 Z _)),(qq1 ..).trans ((qq1 ..).trans hc),by rw [qe0 Z];simp [qf2]⟩
 exact qa2 ⟨_,rfl,qa2 (q _ W ((qe6 ..).trans (qe6 ..)))⟩
theorem j3 {Q:Option Value->qa4->Prop} (U:A.handled=none) (O:ItAt s.heap I (qf2 j) i a es.size ep) (g1:s.heap.get? a=some o) (g3:o.data=.set es ep t) (hf:t.fits es.size=true) (Z:∀ {A':qd5} {W:Option (Value×Nat)->qa4->Prop} {E':Value->qa4->Prop},W none s->wpAny (model P u) A' (zc0 a j i ep) W E' s)
 (q:∀ h',zg2 I s.heap h'->Q none {s with heap:=h'}):wpAny (model P u) A (qy0 (.ref I)) Q E s:=by
 obtain ⟨oi,hi,hc,Y⟩:=id O;unfold qy0;refine wB (qs6 (qe3 (name:=qa0 "__next__") O.ty slot_setit (qe7 slot_setit O.ty fP ?_ (eJ _))));unfold qh5.«set_iterator.__next__»;refine wB (qa2 (wB (qq9 hi Y ?_)));unfold zf4;refine wB (wB (qe9 g1 g3 hf (qa2 ?_)));rw [if_neg (by simp)];show wpAny _ _ (zc0 a ((j:Int)).toNat ((i:Int)).toNat ((ep:Int)).toNat >>= _) _ _ s;rw [qd9,qd9,qd9];refine wB (Z ?_);show wpAny _ _ (zb6 (.ref I) 2 .none >>= fun _=>zh1 (.type "StopIteration") [] >>= fun e=>zh2 e) _ _ s;refine qg9 (qj5 hi Y (by simp) ?_);show wpAny _ _ (zh1 (.type "StopIteration") [] >>= _) _ _ _;refine wB ?_;simp only [zh1,zi7];refine wB (qd2 ?_ (by size_fits));refine qg9 (m:=qm8 _ _) (zb4 (a:=qh1) (by first | rfl | (simp only [qm8];rfl)) ?_);refine qd2 ?_ (by size_fits);simp only [zh2];refine wB (zb5 ?_);rw [show A.in1.handled=none from U];refine wB (qa2 (zg3 ?_));refine wB (qr1 (T:="StopIteration") (b:=true) ⟨_,qa8 _ rfl,rfl⟩ zf8 ?_);exact qa2 (q _ ((qe6 ..).extBut.push _ |>.push _))
end
theorem eQ:Slot "set_iterator" "__iter__" "set_iterator.__iter__":=.of (owner:="set_iterator") (n:="__iter__") (by rw [qs8,qm5];kernel_rfl) (by decide +kernel) (by decide +kernel) (by decide +kernel) (by first | exact .inl (by decide +kernel) | exact .inr (by decide +kernel)) (by rw [zf9];kernel_rfl)
theorem jE:entryFor table "set_iterator.__iter__"=some qh5.«dict_keyiterator.__iter__»:=entryFor_alias (id':="dict_keyiterator.__iter__") (by kernel_rfl) rfl (by decide +kernel) (by kernel_rfl)
theorem iX (v:Value):argsOk "set_iterator.__iter__" ⟨[v],[]⟩:=by unfold argsOk;rw [signature?_of (id:="set_iterator.__iter__") (n:=['_','_','r','e','t','i','_','_']) (o:=['r','o','t','a','r','e','t','i','_','t','e','s']) (by kernel_rfl) kR];kernel_rfl
variable {ord:Nat->Value}
section
variable {P:qc8} {u:World} {A:qd5} {E:Value->qa4->Prop} {s:qa4} {a I:Addr} {o:Obj} {es:Array (Int×Value)} {ep n:Nat} {t:qf6}
theorem fC (O:ItAt s.heap I first i a n ep) (q:Q (.ref I) s):wpAny (model P u) A (zj2 (.ref I)) Q E s:=by refine za1 O.ty eQ (qe7 eQ O.ty jE ?_ (iX _));show wpAny _ _ (ret (.ref I)) _ _ s;exact qa2 ⟨_,rfl,"set_iterator",_,O.ty,slot_setit.lookup,q⟩
theorem lO {Q:Bool->qa4->Prop} (W:s.TypeIs (.ref a) "set") (q:Q false s):wpAny (model P u) A (ql3 (.ref a)) Q E s:=by
 unfold ql3;refine wB (qw7 W PySem.F.slot_set_len.lookup ?_);generalize O:("set.__len__":String)=U
 wp_delta
 rw [show splitId U=some ("set","__len__") from by subst O;decide +kernel];subst O;refine wB (qr1 (T:="set") (b:=true) W sub_set_self ?_);refine ql4 (fun z=>absurd z (by decide)) (fun _=>?_);refine ql4 (fun _=>wB (qu0 W (qa2 q))) (fun z=>absurd (by decide +kernel) z)
theorem ItAt.keep (x:ItAt h I first i a n ep) (e:∀ q,h.get? I=some q->h'.get? I=some q):ItAt h' I first i a n ep:=let ⟨q,g,r⟩:=x;⟨q,e q g,r⟩
theorem oP {T:Addr} {ps:Array Value} (O:A.handled=none) (g3:o.data=.set es ep t) (hf:t.fits es.size=true) (k2:ot.data=.seq ps m) (Y:ps.size=es.size) (hI:I≠a) (Z:I≠T) (U:∀ i,i<es.size->∃ p hx,ps[i]?=some (qf2 (p:Nat))/\es[p]?=some (hx,ord i)) :
  WalksS P u A I [I,a,T] [I] (fun x y=>y=x) es.size (fun i v=>v=ord i) (fun i s=>ItAt s.heap I (.ref T) i a es.size ep/\s.heap.get? a=some o/\s.heap.get? T=some ot) where
 sub:=fun b W=>by rw [qb7.mp W];exact .head _
 grefl:=fun _=>rfl
 gtrans:=fun _ _ _ h1 h2=>h2.trans h1
 frame:=fun i s h' tk ⟨x,y,z⟩ _ e=>⟨x.keep fun q g=>e I (.head _) q g,e a (.tail _ (.head _)) _ y,e T (.tail _ (.tail _ (.head _))) _ z⟩
 item:=fun i s Q E hi ⟨x,y,z⟩ q=>by
  obtain ⟨p,hx,h1,h2⟩:=U i hi;refine jC x y g3 hf z k2 h1 h2 fun h' it sb=>q _ _ rfl ⟨it,(sb.2 a (qq4 hI)).trans y,(sb.2 T (qq4 Z)).trans z⟩ ⟨fun b ob W e=>?_,rfl,rfl,rfl,nL _⟩
  exact (sb.2 b (fun w=>W (by rw [w];exact .head _))).trans e
 done:=fun s Q E ⟨x,y,z⟩ q=>j2 O x y g3 hf z k2 Y fun h' eb=>q _ ⟨fun b ob W e=>eb b ob (fun w=>W (by rw [w];exact .head _)) e,rfl,rfl,rfl,nL _⟩
 self:=fun i s Q E ⟨x,_⟩ q=>fC x q
end
section
variable {P:qc8} {u:World} {K:Type} [DecidableEq K] {κ:SK P u K} {A:qd5} {E:Value->qa4->Prop} {s:qa4} {a I:Addr} {o:Obj} {es:Array (Int×Value)} {ep n:Nat} {t:qf6}
theorem jF {sl:Nat->Nat} (U:A.handled=none) (g3:o.data=.set es ep t) (hf:t.fits es.size=true) (hI:I≠a)
 (hn:∀ i,i<es.size->∀ (s:qa4),s.heap.get? a=some o->∀ {Z:qd5} {O:Option (Value×Nat)->qa4->Prop} {Y:Value->qa4->Prop},O (some (ord i,sl (i+1))) s->wpAny (model P u) Z (zc0 a (sl i) i ep) O Y s)
 (he:∀ (s:qa4),s.heap.get? a=some o->∀ {Z:qd5} {O:Option (Value×Nat)->qa4->Prop} {Y:Value->qa4->Prop},O none s->wpAny (model P u) Z (zc0 a (sl es.size) es.size ep) O Y s) :
  WalksS P u A I [I,a] [I] (fun x y=>y=x) es.size (fun i v=>v=ord i) (fun i s=>ItAt s.heap I (qf2 (sl i)) i a es.size ep/\s.heap.get? a=some o) where
 sub:=fun b W=>by rw [qb7.mp W];exact .head _
 grefl:=fun _=>rfl
 gtrans:=fun _ _ _ h1 h2=>h2.trans h1
 frame:=fun i s h' tk ⟨x,y⟩ _ e=>⟨x.keep fun q g=>e I (.head _) q g,e a (.tail _ (.head _)) _ y⟩
 item:=fun i s Q E hi ⟨x,y⟩ q=>jD x y g3 hf (hn i hi s y) fun h' it sb=>q _ _ rfl ⟨it,(sb.2 a (qq4 hI)).trans y⟩ ⟨fun b ob W e=>(sb.2 b (fun w=>W (by rw [w];exact .head _))).trans e,rfl,rfl,rfl,nL _⟩
 done:=fun s Q E ⟨x,y⟩ q=>j3 U x y g3 hf (he s y) fun h' eb=>q _ ⟨fun b ob W e=>eb b ob (fun w=>W (by rw [w];exact .head _)) e,rfl,rfl,rfl,nL _⟩
 self:=fun i s Q E ⟨x,_⟩ q=>fC x q
inductive AreK (κ:SK P u K):List Value->List K->Prop
 | nil:AreK κ [] []
 | cons (k:K) (t:Tok) {vs:List Value} {ks:List K}:AreK κ vs ks->AreK κ (κ.put k t::vs) (k::ks)
theorem AreK.len {vs:List Value} {ks:List K} (h:AreK κ vs ks):vs.length=ks.length:=by
 induction h with
 | nil=>rfl
 | cons y tk _ q=>simp [q]
theorem nj {ss:List K} {l m:List (Int×Value)} (x:Tx κ l ss) (p:m.Perm l):∃ ks,AreK κ (m.map (·.2)) ks/\ks.Perm ss:=by
 have y:=x.perm p;refine ⟨m.map fun e=>κ.of e.2,?_,y.per⟩
 have q:∀ m:List (Int×Value),(∀ e∈m,∃ k t,e.2=κ.put k t/\e.1=κ.knd.hash k)->AreK κ (m.map (·.2)) (m.map fun e=>κ.of e.2):=fun m=>by
  induction m with
  | nil=>intro _;exact .nil
  | cons e m U =>intro h;obtain ⟨k,tk,h1,_⟩:=h e (by simp);rw [qa5,qa5,h1,κ.ofmk];exact .cons k tk (U fun z O=>h z (by simp [O]))
 exact q m y.all
theorem lP {ss:List K} (hS:TxS κ s.heap a ss (cZ u))
 (q:∀ (I:Addr) (fp:List Addr) (vs:List Value) (ks:List K) (St:Nat->qa4->Prop) (d:Drawn) (h':Heap),(∀ Y:qd5,Y.handled=none->WalksS P u Y I fp [I] (fun x y=>y=x) vs.length (fun i v=>v=vs.getD i .none) St)->St 0 {s with drawn:=d,heap:=h'}->(∀ b∈fp,b<h'.objs.size/\(b=a∨s.heap.objs.size<=b))->(∀ b ob,s.heap.get? b=some ob->h'.get? b=some ob)->s.heap.objs.size<=I->AreK κ vs ks->ks.Perm ss->Q (.ref I) {s with drawn:=d,heap:=h'}) :
  wpAny (model P u) A (zj2 (.ref a)) Q E s:=by
 obtain ⟨o,es,ep,t,g1,g2,g3,x,hb,hf,hl,hp⟩:=hS.ex;have la:a<s.heap.objs.size:=qa7 g1;refine ni g1 g2 g3 hf hb (fun ys d Z hd p=>?_) (fun hm=>?_)
 . -- drawn
   have hyl:ys.length=es.size:=by rw [p.length_eq,qt4]
   have perm:(ys.map fun i=>es.toList.getD i (0,.none)).Perm es.toList:=by
    refine (p.map _).trans ?_
    have e:(qb8 es.size).map (fun i=>es.toList.getD i (0,.none))=es.toList:=by
     apply qu5
     . simp
     . intro i h1 h2;simp at h1 h2;simp [h2]
    rw [e]
   obtain ⟨ks,k1,k2⟩:=nj x perm;have hlen:((ys.map fun i=>es.toList.getD i (0,.none)).map (·.2)).length=es.size:=by rw [qa1,qa1,hyl]
   refine q (s.heap.objs.size+1) [s.heap.objs.size+1,a,s.heap.objs.size] ((ys.map fun i=>es.toList.getD i (0,.none)).map (·.2)) ks (fun i s'=>ItAt s'.heap (s.heap.objs.size+1) (.ref s.heap.objs.size) i a es.size ep/\s'.heap.get? a=some o/\s'.heap.get? s.heap.objs.size=some {cls:=.type "tuple",data:=.seq (ys.map fun (i:Nat)=>qf2 i).toArray}) d _ (fun Y O=>?_) ⟨⟨jB (.ref s.heap.objs.size) 0 a es.size ep,?_,rfl,rfl⟩,?_,?_⟩ ?_ ?_ (qx0 _) k1 k2
   . rw [hlen];refine oP O g3 hf rfl (by simp [hyl]) (qm1 (qh8 la)) (Nat.succ_ne_self _) fun i hi=>?_
     have U:i<ys.length:=by lia
     have hy:ys[i]<es.size:=qd1.mp (p.mem_iff.mp (qi7 U));refine ⟨ys[i],es[ys[i]].1,by simp [U],?_⟩;simp [U,hy]
   . have:=qa8 (s.heap.push {cls:=.type "tuple",data:=.seq (ys.map fun (i:Nat)=>qf2 i).toArray}) (o:=jB (.ref s.heap.objs.size) 0 a es.size ep) rfl;rw [qf4] at this;exact this
   . exact gP _ (gP _ g1)
   . exact gP _ (qa8 _ rfl)
   . intro b hb;rw [qf4,qf4];rcases qb3.mp hb with rfl | hb
     . exact ⟨qo6 _,.inr (qx0 _)⟩
     . rcases qb3.mp hb with rfl | hb
       . exact ⟨qh8 (qh8 la),.inl rfl⟩
       . rw [qb7.mp hb];exact ⟨qh8 (qo6 _),.inr (nL _)⟩
   . exact fun b ob e=>gP _ (gP _ e)
 . -- by the world's text,or one at most
   have fin:∀ (m:List (Int×Value)) (sl:Nat->Nat),m.Perm es.toList->sl 0=0->(∀ Y:qd5,Y.handled=none->WalksS P u Y s.heap.objs.size [s.heap.objs.size,a] [s.heap.objs.size] (fun x y=>y=x) es.size (fun i v=>v=(m.map (·.2)).getD i .none) (fun i s'=>ItAt s'.heap s.heap.objs.size (qf2 (sl i)) i a es.size ep/\s'.heap.get? a=some o))->Q (.ref s.heap.objs.size) {s with heap:=s.heap.push (jB (qf2 0) 0 a es.size ep)}:=fun m sl p h0 W=>by
    obtain ⟨ks,k1,k2⟩:=nj x p;have hlen:(m.map (·.2)).length=es.size:=by rw [qa1,p.length_eq,qe1]
    have:=q s.heap.objs.size [s.heap.objs.size,a] (m.map (·.2)) ks (fun i s'=>ItAt s'.heap s.heap.objs.size (qf2 (sl i)) i a es.size ep/\s'.heap.get? a=some o) s.drawn (s.heap.push (jB (qf2 0) 0 a es.size ep)) (by rw [hlen];exact W) ⟨⟨jB (qf2 0) 0 a es.size ep,qa8 _ rfl,rfl,by rw [h0];rfl⟩,gP _ g1⟩ (fun b hb=>by
     rw [qf4];rcases qb3.mp hb with rfl | hb
     . exact ⟨qo6 _,.inr (nL _)⟩
     . rw [qb7.mp hb];exact ⟨qh8 la,.inl rfl⟩) (fun b ob e=>gP _ e) (nL _) k1 k2
    exact this
   have ne:s.heap.objs.size≠a:=qm1 la;by_cases byT:cZ u=false
   . refine fin (ze6 (u.params.setOrder a ep) es).toList (fun _=>0) (qj _ _) rfl fun Y O=>?_
     have hsz:(ze6 (u.params.setOrder a ep) es).size=es.size:=by have:=(qj (u.params.setOrder a ep) es).length_eq;simpa using this
     refine jF O g3 hf ne (fun i hi s' gs Y Q' E' q'=>d8 byT gs g3 hf ?_) (fun s' gs Y Q' E' q'=>d8 byT gs g3 hf ?_)
     . have U:i<(ze6 (u.params.setOrder a ep) es).size:=by lia
       rw [qg1 U];simpa [U] using q'
     . rw [qp0 (by lia)];exact q'
   . have Z:cZ u=true:=by simpa using byT
     have one:¬ (t.plain=false/\1<es.size):=by
      rcases hm with h1 | h1
      . exact absurd h1 byT
      . exact h1
     have hpl:t.place.size=es.size:=by unfold qf6.fits at hf;simp at hf;exact hf.1
     refine fin es.toList (fun i=>if h:0<i/\i<=t.place.size then t.place[i-1]+1 else 0) (qz1 _) (by simp) fun Y O=>?_
     have low:∀ i,i<=es.size->qf5 t.place (if h:0<i/\i<=t.place.size then t.place[i-1]+1 else 0)=i:=fun i hi=>by
      by_cases h0:i=0
      . subst h0;simp [m9 hp]
      . rw [dif_pos ⟨by lia,by lia⟩,oK hp (by lia)];lia
     refine jF O g3 hf ne (fun i hi s' gs Y Q' E' q'=>eO Z (hl.trans Z) one gs g3 hf ?_) (fun s' gs Y Q' E' q'=>eO Z (hl.trans Z) one gs g3 hf ?_)
     . rw [low i (qj6 hi),qg1 hi,qg1 (by lia)];rw [dif_pos ⟨by lia,by lia⟩] at q';simpa [hi] using q'
     . rw [low _ (nL _),qp0 (by lia)];exact q'
end
section
variable {P:qc8} {u:World} {K:Type} [DecidableEq K] {κ:SK P u K} {A:qd5} {E:Value->qa4->Prop} {s:qa4} {a:Addr}
theorem TxS.small {ss:List K} (x:TxS κ h a ss led):ss.length<qn7/\∃ o,h.get? a=some o/\o.cls=.type "set":=by obtain ⟨o,es,ep,t,g1,g2,O,y,q,_⟩:=x.ex;refine ⟨?_,o,g1,g2.1⟩;rw [<- y.per.length_eq,qa1,qe1];exact q
theorem iY {ss:List K} {Q:List Value->qa4->Prop} (U:A.handled=none) (hS:TxS κ s.heap a ss (cZ u))
  (q:∀ (vs:List Value) (ks:List K) (d:Drawn) (h':Heap) (tk:Nat),AreK κ vs ks->ks.Perm ss->s.heap.objs.size<=h'.objs.size->(∀ b ob,s.heap.get? b=some ob->h'.get? b=some ob)->Q vs {s with drawn:=d,heap:=h',toks:=tk}):wpAny (model P u) A (collect (.ref a)) Q E s:=by
 obtain ⟨hsz,o,g1,gc⟩:=hS.small;have la:a<s.heap.objs.size:=qa7 g1;unfold collect;refine wB (wpAny_runValue (qp5 PySem.F.entry_proto_collect ?_));rw [qn0 PySem.F.plain_proto_collect _];show wpAny _ A.in1 (newList [] >>= fun l=>again (.builtin "list.__iadd__" ⟨[l,.ref a],[]⟩)) _ _ s;refine wB (qd2 ?_);refine qa2 ⟨qv5 PySem.F.plain_list_iadd _,qp5 PySem.F.entry_list_iadd ?_⟩;rw [qn0 PySem.F.plain_list_iadd _];show wpAny _ A.in1 (qg7 (.ref s.heap.objs.size) (.ref a) (.ref s.heap.objs.size)) _ _ _;have hS1:TxS κ (s.heap.push {cls:=.type "list",data:=.seq ([]:List Value).toArray}) a ss (cZ u):=hS.moved fun ob e=>gP _ e
 have hT1:zh3 {s with heap:=s.heap.push {cls:=.type "list",data:=.seq ([]:List Value).toArray}} (.ref a) "set":=⟨o,gP _ g1,gc⟩;have gL:(s.heap.push {cls:=.type "list",data:=.seq ([]:List Value).toArray}).get? s.heap.objs.size=some {cls:=.type "list",data:=.seq ([]:List Value).toArray}:=qa8 _ rfl;unfold qg7;refine wB (qu0 hT1 ?_);have h1:qn8 (.ref s.heap.objs.size) (.ref a)=false:=by simp [qn8,qm1 la]
 have h2:(qj9 "set"==qj9 "list")=false:=by decide
 have h3:(qj9 "set"==qj9 "tuple")=false:=by decide
 simp only [h1,h2,h3,qs2,qf0,if_false];refine wB (lP (s:={s with heap:=s.heap.push {cls:=.type "list",data:=.seq ([]:List Value).toArray}}) hS1 fun I fp vs ks St d h' W st hfp keep hI k1 k2=>?_);have hTI:zh3 {s with drawn:=d,heap:=h'} (.ref a) "set":=⟨o,keep a o (gP _ g1),gc⟩;refine wB (qh4 (lO hTI ?_));show wpAny _ A.in1 (rule "list.extend.makes-room" >>= fun _=>qh5.List.listTouch (.ref s.heap.objs.size) >>= fun _=>again (.builtin "list.extend.loop" ⟨[.ref s.heap.objs.size,.ref I,.ref s.heap.objs.size],[]⟩)) _ _ _;refine wB (qw0 (wB ?_));have Y:=keep _ _ gL;show wpAny _ A.in1 (updateSeq s.heap.objs.size (·.push .none) >>= fun _=>updateSeq s.heap.objs.size (·.pop)) _ _ _;refine wB (ze7 Y rfl ?_);have Z:=qe4 (qo8 (·.push qh1)) Y rfl;refine ze7 Z rfl ?_;have gL3:=qe4 (qo8 (·.pop)) Z rfl;have oth:∀ b ob,b≠s.heap.objs.size->h'.get? b=some ob->((h'.update s.heap.objs.size (qo8 (·.push qh1))).update s.heap.objs.size (qo8 (·.pop))).get? b=some ob:=fun b ob hb e=>(ql6 _ _ (qq4 hb)).trans ((ql6 _ _ (qq4 hb)).trans e)
 have out:s.heap.objs.size∉fp:=fun hm=>by
  rcases (hfp _ hm).2 with z | z
  . exact qm1 la z
  . have z:(s.heap.push {cls:=.type "list",data:=.seq ([]:List Value).toArray}).objs.size<=s.heap.objs.size:=z;rw [qf4] at z;exact Nat.not_succ_le_self _ z
 have W1:=W A.in1 (by simp [U])
 have hvl:vs.length<=qb0:=by
  have e:vs.length=ss.length:=by rw [<- k2.length_eq];exact k1.len
  rw [e];exact qt6 hsz
 refine qa2 ⟨qv5 PySem.F.plain_extend_loop _,codeAny_extend_loopS W1 hvl _ out _ vs.length 0 _ _ _ rfl (qj2 _) (W1.frame 0 ({s with drawn:=d,heap:=h'}:qa4) _ s.toks st (nL _) fun b hb ob e=>oth b ob (fun h=>out (h▸hb)) e) gL3 (ItemsOf.nil _) fun s2 acc c2 mv gS2 O=>?_⟩;show wpAny _ A (load s.heap.objs.size >>= _) _ _ s2;refine wB (wpAny_load gS2 ?_)
 have hav:acc.toList=vs:=by
  apply qu5
  . simpa using O.1
  . intro i h1 h2;have:=O.2 i acc.toList[i] (by simp);rw [this];simp [h2]
 rw [<- hav] at k1;obtain ⟨h2',g2',d2',tk2',o2'⟩:=s2;have eg:g2'=s.gens:=mv.gens;have ed:d2'=d:=mv.drawn;have eo:o2'=s.os:=mv.os;subst eg ed eo;refine qa2 (q acc.toList ks d2' h2' tk2' k1 k2 (qj6 (qa7 gS2)) fun b ob e=>?_);have nb:b≠s.heap.objs.size:=qb9 (qa7 e);refine mv.heap b ob (fun hm=>?_) (oth b ob nb (keep b ob (gP _ e)));rcases qb3.mp hm with z | z
 . exact nb z
 . rw [qb7.mp z] at e;have z2:(s.heap.push {cls:=.type "list",data:=.seq ([]:List Value).toArray}).objs.size<=I:=hI;rw [qf4] at z2;exact absurd (qa7 e) (qv9.mpr (Nat.le_of_succ_le z2))
end
section
variable {P:qc8} {u:World} {K:Type} [DecidableEq K] {κ:SK P u K} {A:qd5} {E:Value->qa4->Prop} {s:qa4} {a:Addr}
noncomputable def i7 (κ:SK P u K) (O:List K->List K):Prop:=∀ {A:qd5} {E:Value->qa4->Prop} {s:qa4} {a:Addr} {vs:List Value} {ks:List K} {n:Nat} {Q:Fin->qa4->Prop},s.heap.get? a=some (seqObj "list" vs.toArray n)->AreK κ vs ks->vs.length<64→ (∀ q:Array Value,AreK κ q.toList (O ks)->Q (.done (.ret .none)) {s with heap:=sortedHeap s.heap a vs q})->wpAny (model P u) A (qh5.«list.sort» ⟨[.ref a],[]⟩) Q E s
theorem jG {ss:List K} {O:List K->List K} (hs:i7 κ O) (pm:∀ {ks},ks.Perm ss->O ks=O ss) (Y:A.handled=none) (hS:TxS κ s.heap a ss (cZ u)) (few:ss.length<64)
 (q:∀ (l:Addr) (W:Array Value) (d:Drawn) (h':Heap) (tk:Nat),AreK κ W.toList (O ss)->(∃ e,h'.get? l=some (seqObj "list" W e))->s.heap.objs.size<=l->(∀ b ob,s.heap.get? b=some ob->h'.get? b=some ob)->Q (.ref l) {s with drawn:=d,heap:=h',toks:=tk}):wpAny (model P u) A (call (.builtin "sorted") [.ref a]) Q E s:=by
 refine Calls.call_function_entry kind_sorted plain_sorted entry_sorted (args_sorted1 _) ?_;unfold qh5.«sorted»;refine wB (m:=checkCount "sorted" 1 1 _) (qa2 ?_);refine qg9 (iY (by simp [Y]) hS fun vs ks d h' tk k1 k2 le keep=>?_);have U:vs.length<64:=by rw [k1.len,k2.length_eq];exact few
 refine wB (wpAny_newList ?_ (qc1 (qj6 U) (by decide)));have Z:(h'.push (seqObj "list" vs.toArray 0)).get? h'.objs.size=some (seqObj "list" vs.toArray 0):=qa8 _ rfl;show wpAny _ _ _ _ _ {s with drawn:=d,toks:=tk,heap:=h'.push (seqObj "list" vs.toArray 0)};refine wB (qh4 (qe7 slot_list_sort ⟨_,Z,rfl⟩ entry_list_sort (hs Z k1 U fun W a1=>⟨_,rfl,?_⟩) (args_list_sort _)));refine qa2 ⟨_,rfl,?_⟩;refine q _ _ d _ tk (pm k2▸a1) (sortedHeap_at Z) le fun b ob e=>?_
 have lt:b<h'.objs.size:=qa7 (keep b ob e);rw [sortedHeap_old (qb9 lt) (by rw [size_push'];exact qh8 lt)];exact gP _ (keep b ob e)
end
section
variable {P:qc8} {u:World}
theorem ut {vs:List Value} {ks:List Str} (h:AreK (rT P u) vs ks):StrsAre vs ks:=by
 induction h with
 | nil=>exact .nil
 | cons k t _ q=>exact .cons k t q
theorem uu {vs:List Value} {ks:List Str} (h:StrsAre vs ks):AreK (rT P u) vs ks:=by
 induction h with
 | nil=>exact .nil
 | cons k t _ q=>exact AreK.cons (κ:=rT P u) k t q
theorem uv:i7 (rT P u) f6:=fun {A E s a vs ks n Q} g k O q=>by
 have W:=ut k;refine list_sort_treeK strKind_oneLt g W.keysOf (fun v1 v2 r e=>keyKind_strs (by rw [<- e];exact W)) O fun st a1 a2=>?_
 obtain ⟨U,Z,e2,Y⟩:=sorted_out_str W a1 a2;have e:U=f6 ks:=iA (e2.trans (dH ks).symm) (rP U Y) (jA ks);exact q _ (uu (e▸Z))
theorem uw {ss ks:List Str} (p:ks.Perm ss):f6 ks=f6 ss:=iA ((dH ks).trans (p.trans (dH ss).symm)) (jA ks) (jA ss)
end
section
variable {K:Type} [DecidableEq K]
def dJ (ss:List K):List K:=ss.foldl j1 []
theorem kS [Inhabited K] (ss:List K):met (fun i=>ss.getD i default) ss.length=dJ ss:=by
 unfold met dJ;congr 1;apply qu5
 . simp
 . intro i h1 h2;simp at h1;simp [h1]
theorem rW [Inhabited K] (ss:List K):(dJ ss).length<=ss.length:=by rw [<- kS];exact lM _ _
end
theorem Inv.dr (I:Inv X pins σ H s) (d:Drawn):Inv X pins σ H {s with drawn:=d}:=⟨I.ok,I.os,I.bare,I.base,I.loc,I.cell,I.free,I.freeC,I.pin,I.hok,I.len⟩
section
variable {X:Cx} {K:Type} [DecidableEq K] [Inhabited K] {κ:SK X.prog X.w K} {kv:K->V}
theorem ux:∀ {vs:List Value} {ss:List K},AreK κ vs ss->∀ (i:Nat) (v:Value),vs[i]?=some v->∃ t,v=κ.put (ss.getD i default) t
 | _,_,.nil,i,v,h=>by simp at h
 | _,_,.cons y t r,0,v,h=>by simp at h;exact ⟨t,by rw [<- h];rfl⟩
 | _,_,.cons y t r,i+1,v,h=>ux r i v (by simpa using h)
abbrev uy (κ:SK X.prog X.w K) (l:Addr) (ss:List K):HO:=.ext fun h=>TxS κ h l ss (cZ X.w)
def rX (κ:SK X.prog X.w K) (kv:K->V):Prop:=∀ k v,RelV (kv k) v↔∃ t,v=κ.put k t
theorem nn (hk:rX κ kv):∀ {ss:List K} {its:List Value},Vals (ss.map kv) its->AreK κ its ss
 | [],_,h=>by cases h;exact .nil
 | x::ss,_,h=>by
  cases h with
  | cons h1 h2 =>obtain ⟨t,rfl⟩:=(hk x _).mp h1;exact .cons x t (nn hk h2)
theorem np (hk:rX κ kv):∀ {its:List Value} {ss:List K},AreK κ its ss->Vals (ss.map kv) its
 | _,_,.nil=>.nil
 | _,_,.cons x t h=>.cons ((hk x _).mpr ⟨t,rfl⟩) (np hk h)
theorem rY (hk:rX κ kv) (U:X.calm=true):cL X (.type "set") (fun xs H Q=>∃ p ss,xs=[.ref p]/\SqL X.K H p (ss.map kv)/\ss.length<4000/\∀ l,H l=none->Q (.ref l) (upd H l (uy κ l (dJ ss)))):=by
 intro pins s σ H xs us Q I r h;obtain ⟨p,ss,rfl,hq,hz,q⟩:=h;obtain ⟨u,rfl,rx⟩:=fV r;cases rx;obtain ⟨its,Y,pl,hz'⟩:=I.list hq;have hS:=nn hk Y;have O:its.length=ss.length:=by have:=Y.length;simpa using this.symm
 have hi:∀ (i:Nat) (v:Value),its.toArray[i]?=some v->∃ t,v=κ.put (ss.getD i default) t:=fun i v Z=>ux hS i v (by simpa using Z)
 have hb:its.toArray.size+1<qn7:=by
  have:its.toArray.size=ss.length:=by simpa using O
  rw [this];unfold qn7;lia
 refine ur (I.ok.hd U) pl.isList hi hb fun hp tk W kept=>?_
 have e:met (fun i=>ss.getD i default) its.toArray.size=dJ ss:=by rw [show its.toArray.size=ss.length by simpa using O];exact kS ss
 rw [e] at W;refine ⟨.ref s.heap.objs.size,_,I.laid (t':=tk) (fun b o g=>kept b o (qa7 g) g) (nL _) (show ObjOk X.prog X.w _ _ _ (uy κ s.heap.objs.size (dJ ss)) from ⟨W,?_,fun h1 h2 x g=>x.moved g⟩),rfl,q _ (I.hok.fresh (nL _))⟩;obtain ⟨_,o,g,_⟩:=W.small;exact ⟨o,g⟩
theorem lQ {O:List K->List K} (hk:rX κ kv) (hs:i7 κ O) (pm:∀ {ss ks},ks.Perm ss->O ks=O ss) (pl:∀ ss,(O ss).length=ss.length) (U:X.calm=true):cL X (.builtin "sorted") (fun xs H Q=>∃ p ss,xs=[.ref p]/\H p=some (uy κ p ss)/\ss.length<64/\∀ l,H l=none->Q (.ref l) (upd H l (.lst ((O ss).map kv)))):=by
 intro pins s σ H xs us Q I r h;obtain ⟨p,ss,rfl,hq,hz,q⟩:=h;obtain ⟨u,rfl,rx⟩:=fV r;cases rx;have hT:TxS κ s.heap p ss (cZ X.w):=(show ObjOk X.prog X.w H s.heap p (uy κ p ss) from I.hok p _ hq).1;refine jG hs pm (I.ok.hd U) hT hz fun l Y d h' tk a1 W Z kept=>?_
 obtain ⟨c,W⟩:=W;refine ⟨.ref l,_,(I.laid (t':=tk) kept Z (show ObjOk X.prog X.w _ _ _ (.lst ((O ss).map kv)) from ⟨?_,Y.toList,c,np hk a1,W⟩)).dr d,rfl,q _ (I.hok.fresh Z)⟩;rw [qa1,pl];exact qc1 (qj6 hz) (by decide)
end
theorem kvS {X:Cx}:rX (X:=X) (rT X.prog X.w) V.str:=fun _ _=>Iff.rfl
noncomputable def wU {K:Type} [DecidableEq K] (rd:List Dt->Option (List K)) (q:List K->List K) (wr:K->Dt):List Dt->Option T
 | [.lst ds]=>(rd ds).bind fun ss=>if ss.length<4000/\(dJ ss).length<64 then some (.lst ((q (dJ ss)).map wr)) else none
 | _=>none
def g5:List Dt->Option T:=wU fA f6 .str
section
variable {X:Cx} {e:Expr} {pos pos2 p p2:Pos} {sc:Scope} {fs:De->Option (List Dt)}
theorem Ac {K:Type} [DecidableEq K] [Inhabited K] {rd:List Dt->Option (List K)} {q:List K->List K} {wr:K->Dt} (κ:SK X.prog X.w K) {kv:K->V} (hk:rX κ kv) (W:i7 κ q) (pm:∀ {ss ks},ks.Perm ss->q ks=q ss) (pl:∀ ss,(q ss).length=ss.length)
  (hr:∀ {F:Hp} {l:List Dt} {vs:List V} {bs:List K},Reps X.K F l vs->rd l=some bs->vs=bs.map kv) (hw:∀ {F:Hp} (ns:List K),Reps X.K F (ns.map wr) (ns.map kv))
  (h1:aE sc "sorted"=true) (h2:aE sc "set"=true) (hc:X.calm=true) (m1:X.mg "sorted"=none) (m2:X.mg "set"=none) (ha:DAB X [e] fs) (e1:bV X sc)
  (s1:qa6 [.Call (.Name "set" p2) [e] [] pos2] X.env=(false,eval (.Call (.Name "set" p2) [e] [] pos2) X.env)::qa6 [] X.env) (n1:(qk0 pos (qa6 [] X.env)).any (·.1)=false)
  (s2:qa6 [e] X.env=(false,eval e X.env)::qa6 [] X.env) (n2:(qk0 pos2 (qa6 [] X.env)).any (·.1)=false):DO X (.Call (.Name "sorted" p) [.Call (.Name "set" p2) [e] [] pos2] [] pos) (ao (wU rd q wr) fs):=
 PE.mono (iq h1 (lQ hk W pm pl hc) m1 (by rfl) (cS (jm h2 (rY hk hc) m2 (by rfl) ha.pa e1 s2 n2) eT s1) e1 s1 n1) fun σ H Q ⟨Φ,δ,F,t,hK,en,hf,k⟩=>by
  unfold ao at hf;obtain ⟨ds,hd,O⟩:=bS hf;refine ⟨Φ,δ,F,ds,hK,en,hd,fun vs H1 F1 st r=>?_⟩;unfold wU at O;split at O<;>first | (cases O;done) | skip
  obtain ⟨ss,W,O⟩:=bS O;split at O<;>cases O
  rename_i Z;obtain ⟨v,rfl,rv⟩:=c9 r;obtain ⟨b,ws,rfl,g1,g2⟩:=rv;have:=hr g2 W;subst this;refine ⟨b,ss,rfl,g1,Z.1,fun l hl=>?_⟩;have U:Step F1 H1 F1 (upd H1 l (uy κ l (dJ ss))):=Step.made st.fh hl;refine ⟨l,dJ ss,rfl,aQ,Z.2,fun l2 Y=>?_⟩;exact dq (k.step (st.trans U)) U.fh (hw _) Y
theorem oQ (h1:aE sc "sorted"=true) (h2:aE sc "set"=true) (U:X.calm=true) (Y:X.mg "sorted"=none) (O:X.mg "set"=none) (W:DAB X [e] fs) (e1:bV X sc:=by rfl)
  (s1:qa6 [.Call (.Name "set" p2) [e] [] pos2] X.env=(false,eval (.Call (.Name "set" p2) [e] [] pos2) X.env)::qa6 [] X.env:=by rfl) (n1:(qk0 pos (qa6 [] X.env)).any (·.1)=false:=by rfl)
  (q:qa6 [e] X.env=(false,eval e X.env)::qa6 [] X.env:=by rfl) (n2:(qk0 pos2 (qa6 [] X.env)).any (·.1)=false:=by rfl):DO X (.Call (.Name "sorted" p) [.Call (.Name "set" p2) [e] [] pos2] [] pos) (ao g5 fs):=
 Ac (rT X.prog X.w) kvS uv uw (fun ss=>(dH ss).length_eq) (fun g h=>iy g h) (fun ss=>kO ss) h1 h2 U Y O W e1 s1 n1 q n2
end
def oR:List Dt->Option T
 | [.int i,.int j]=>some (.leaf (.int (if i<j then j else i)))
 | _=>none
def rMax:List V->Hp->VK->Prop:=fun xs H Q=>∃ i j,xs=[.int i,.int j]/\Q (.int (if i<j then j else i)) H
theorem iE (q:X.calm=true):cL X (.builtin "max") rMax:=qV q
theorem uz:CRD K rMax oR:=by
 intro F H ds vs Q t O r q k;unfold oR at q;split at q<;>first | (cases q;done) | skip
 cases q;rename_i i j;simp only [RepBs,RepB,Rep] at r;obtain ⟨v,U,rfl,rfl,w,us,rfl,rfl,rfl⟩:=r;exact ⟨i,j,rfl,k.int O⟩
section
variable {P:qc8} {u:World} {A:qd5} {E:Value->qa4->Prop} {s:qa4} {Ty:String} {r d:Addr} {n:Nat} {Pr:Nat->Value->Prop} {OK:Heap->Prop}
end
section
variable {X:Cx}
def qk:List Key->Option (List Str)
 | []=>some []
 | .inr x::r=>(qk r).map (x::·)
 | _=>none
def gSortD:List Dt->Option T
 | [.dct ks _]=>(qk ks).bind fun ss=>if ss.length<64 then some (.lst ((f6 ss).map .str)) else none
 | _=>none
theorem uA:MtR X "str.index" (fun x vs H Q=>∃ a b i rest,x=.str a/\vs=[.str b]/\qh0 a b 0 a.length 1=i::rest/\Q (.int i) H):=by intro pins s σ H x vs v us Q I Y U h;obtain ⟨a,b,i,rest,rfl,rfl,O,q⟩:=h;obtain ⟨t,rfl⟩:=Y;obtain ⟨u,rfl,W⟩:=U.one;obtain ⟨t',rfl⟩:=W;exact SC.index O ⟨.int _,H,I.tok _,⟨_,rfl⟩,q⟩
def dQ:Dt->List Dt->Option T
 | .str a,[.str b]=>match qh0 a b 0 a.length 1 with
  | i::_=>some (.leaf (.int (Int.ofNat i)))
  | []=>none
 | _,_=>none
theorem uB:MRD K (fun x vs H Q=>∃ a b i rest,x=.str a/\vs=[.str b]/\qh0 a b 0 a.length 1=i::rest/\Q (.int i) H) dQ:=by
 intro F H d v ds vs Q t W rd U q k;unfold dQ at q;split at q<;>first | cases q;done | skip
 split at q<;>first | cases q;done | skip
 rename_i i rest O;cases q;cases rd;obtain ⟨v,rfl,Y⟩:=c9 U;cases Y;exact ⟨_,_,i,rest,rfl,rfl,O,k.int W⟩
theorem nq:∀ d ds t,dQ d ds=some t->∃ z,d=.str z:=fun d ds t h=>by
 unfold dQ at h;split at h
 . exact ⟨_,rfl⟩
 . cases h
variable {e o:Expr} {es:List Expr} {fo:De->Option Dt} {fs:De->Option (List Dt)} {apos cpos pos:Pos}
theorem uC (ho:DB X o fo) (Z:DAB X (e::es) fs)
  (O:qo4 o "index" X.env (eval o X.env)=eval o X.env:=by rfl)
  (W:((qk0 cpos (qa6 (e::es) X.env)).all (fun x=>!x.1)&&(zh0 cpos (qw6 [] X.env)).all (fun x=>x.1.isSome)
   && decide ((e::es).length+([]:List qu3).length+(if ([]:List qu3).isEmpty then 0 else 1)<30))=true:=by rfl)
  (U:(apos.endLine==cpos.line)=true:=by rfl) (Y:qa6 (e::es) X.env=(false,eval e X.env)::qa6 es X.env:=by rfl) (q:(qk0 cpos (qa6 es X.env)).any (·.1)=false:=by rfl) :
  DO X (.Call (.Attribute o "index" apos) (e::es) [] cpos) (kA dQ fo fs):=tX PySem.F.slot_str_index PySem.F.type_str_index uA uB nq ho Z O W U Y q
noncomputable def q48 (i:Nat) (f:De->Option T):De->Option Out:=fun δ=>match δ[i]? with
 | some (some (.lst l))=>(f δ).bind fun t=>match t with
  | .lst m=>if l.length+m.length<=qb0 then some (.nx (δ.set i (some (.lst (l++m))))) else none
  | _=>none
 | _=>none
theorem kU {fe:De->Option T} (hx:PE X o (f9 i)) (he:DO X e fe)
 (U:qo4 o "extend" X.env (eval o X.env)=eval o X.env:=by rfl)
 (Y:((qk0 cpos (qa6 [e] X.env)).all (fun x=>!x.1)&&(zh0 cpos (qw6 [] X.env)).all (fun x=>x.1.isSome)
 && decide ([e].length+([]:List qu3).length+(if ([]:List qu3).isEmpty then 0 else 1)<30))=true:=by rfl)
 (W:(apos.endLine==cpos.line)=true:=by rfl) (hs:qa6 [e] X.env=(false,eval e X.env)::qa6 [] X.env:=by rfl) (O:(qk0 cpos (qa6 [] X.env)).any (·.1)=false:=by rfl)
 (hsw:qm0 (.Call (.Attribute o "extend" apos) [e] [] cpos) none pos.line X.env=pure false:=by rfl) :
  DS1 X (.Expr (.Call (.Attribute o "extend" apos) [e] [] cpos) pos) (q48 i fe):=
 PS.mono (px (sU PySem.F.plainAttrs_list PySem.F.slot_list_extend PySem.F.type_list_extend rb hx (cS he eT hs) U Y W hs O) hsw) fun D σ H ⟨Φ,δ,F,ot,hK,en,q,k⟩=>by
  unfold q48 at q;split at q<;>first | cases q;done | skip
  rename_i l hl;obtain ⟨t,hd,q⟩:=bS q;split at q<;>first | cases q;done | skip
  rename_i m;split at q<;>first | cases q;done | skip
  rename_i hz;cases q;obtain ⟨a,vs,hv,h1,h2⟩:=en.ownL hl;refine ⟨.ref a,hv,.inl ⟨rfl,vs,.inl (.inl h1)⟩,Φ,δ,F,.lst m,hK,en,hd,fun v H1 F1 S st ov hS=>?_⟩;have Z:=en.step st;have h1':=st.hh _ _ h1;obtain ⟨b,ws,rfl,sb,g1,g2⟩:=ov;refine ⟨a,b,vs,ws,rfl,rfl,h1',g1,by rw [h2.length,g2.length];exact hz,?_⟩;refine k σ F1 _ (Z.poke hl hv rfl fun S sa=>⟨a,vs++ws,rfl,sa,aQ,(h2.same st.ff).append (hK▸g2)⟩)
end
noncomputable def xX (outer:Scope) (NX N ps fr:List Str) (js:List Nat) (sc:Scope):Bool:=
 (match sc.kind with | .function=>true | _=>false)&&!sc.isCoroutine&&!sc.isGenerator&&decide N.Nodup&&decide (N.take ps.length=ps)&&decide (N.drop (N.length-fr.length)=fr)&&decide (ps.length+fr.length<=N.length)&&
 ps.all (fun x=>decide (sc.names.lookup x=some .local)||decide (sc.names.lookup x=some .cell))&&
 fr.all (fun x=>decide (sc.names.lookup x=some .free))&&
 sc.names.all (fun y=>!decide (y.2=.free)||decide (y.1∈fr))&&
 sc.names.all (fun y=>decide (sc.names.lookup y.1=some y.2))&&
 decide (ps.length=1)&&
 sc.names.all (fun y=>!decide (y.2=.free)||decide (outer.names.lookup y.1=some .cell))&&
 decide (js.length=fr.length)&&
 (fr.zip js).all (fun p=>decide (NX[p.2]?=some p.1)&&decide (outer.names.lookup p.1=some .cell))
structure NsC (outer:Scope) (NX N ps fr:List Str) (js:List Nat) (sc:Scope):Prop where
 S:ClScope N ps fr sc
 nd:N.Nodup
 ndn:∀ x,∀ y∈sc.names,y.1=x->sc.names.lookup x=some y.2
 one:ps.length=1
 fre:∀ x∈sc.names,x.2=.free->outer.names.lookup x.1=some .cell
 jl:js.length=fr.length
 nm:∀ (i j:Nat) (x:Str),fr[i]?=some x->js[i]?=some j->NX[j]?=some x/\outer.names.lookup x=some .cell
 all:∀ x∈sc.names,x.2=.free->x.1∈fr
theorem NsC.of {outer:Scope} {NX fr:List Str} (h:xX outer NX N ps fr js sc=true):NsC outer NX N ps fr js sc:=by
 unfold xX at h;simp only [qb1,qi6,qj7,qj3,decide_eq_true_eq,decide_eq_false_iff_not] at h;obtain ⟨⟨⟨⟨⟨⟨⟨⟨⟨⟨⟨⟨⟨⟨h1,h2⟩,h3⟩,h4⟩,h5⟩,h6⟩,h7⟩,h8⟩,h9⟩,h10⟩,U⟩,O⟩,Y⟩,W⟩,h15⟩:=h;have q:∀ x∈sc.names,x.2=.free->x.1∈fr:=fun x Z e=>(h10 x Z).resolve_left fun z=>z e
 have hk:sc.kind=.function:=by revert h1;cases sc.kind<;>simp
 refine ⟨⟨hk,h2,h3,h4,h5,h6,h7,h8,h9,fun x e=>q _ (PySem.mem_of_lookup e) rfl⟩,h4,fun x y hy e=>by rw [<- e];exact U y hy,O,fun x Z e=>(Y x Z).resolve_left fun z=>z e,W,fun i j x e1 e2=>?_,q⟩;have hm:(x,j)∈fr.zip js:=qc7 (i:=i) (by rw [qq8];exact ⟨e1,e2⟩);exact h15 (x,j) hm
variable {qs:List ((Nat×Nat)×Str)}
section
variable {X:Cx} {name qual:Str} {params:qi9} {body:List Stmt} {scope outer:Scope} {NX N ps fr:List Str} {js:List Nat} {g:De->Option Out} {kk i:Nat} {pos:Pos}
theorem NestD.of (C:NsC outer NX N ps fr js scope) (O:∀ (s:qa4) (cl:List (Str×Addr)) (doc pm ctv q:Value) (us:List Value),us.length=ps.length->za8 s (xG9 name qual params body scope cl .none .none doc pm none q ctv) ⟨us,[]⟩ (ps.zip us))
  (U:∀ (f c':Addr) (cl:List (Str×Addr)) (A:qd5) (outer:List Env) (s:qa4) (H:Hp),Room kk (A.deeper (gH qual scope s.heap.objs.size f (.ref c') cl))->DS (mI CX0 X.prog X.w X.K X.mg X.base N qual scope f (.ref c') cl A outer s H E0 fun _ _=>False) body g)
  (e1:bV X outer:=by rfl) (Y:X.N=NX:=by rfl):NestD X name qual params body scope N ps fr js g kk:=by
 have e1:X.env.scope=outer:=e1;subst e1 Y;exact ⟨C.S,C.ndn,C.one,C.fre,C.jl,C.nm,O,U⟩
def hasQ (qs:List ((Nat×Nat)×Str)) (pos:Pos) (qual:Str):Bool:=decide (((pos.line,pos.col),qual)∈qs)&&qs.all fun p=>!decide (p.1=(pos.line,pos.col))||decide (p.2=qual)
theorem ql {P:Addr} (h:cu outer NX i name=true) (hl:gl outer name=true) (nd:NX.Nodup) (C:NsC outer NX N ps fr js scope) (B:TabB X.mg X.base c P) (hT:(P,qs)∈c4 X.K) (U:hasQ qs pos qual=true)
 (O:X.env.code=.ref c:=by rfl) (Z:qualnameIn X.env name name=qual:=by rfl) (W:params.defaults=[]:=by rfl) (hk0:params.kw_defaults=[]:=by rfl) (ha:annTrees params none X.env=[]:=by rfl)
 (e1:bV X outer:=by rfl) (e2:X.N=NX:=by rfl) (Y:X.fn name=true:=by rfl):PS X (.FunctionDef name params body [] none [] scope none name pos) (qd i name qual params body scope (ei scope.names X.env.cells)):=fun pins s σ H D I hh=>by
 have e1:X.env.scope=outer:=e1;subst e1 e2;unfold hasQ at U;simp only [qb1,qi6,qj7,qj3,decide_eq_true_eq,decide_eq_false_iff_not] at U;exact wP nd (e8 h) (ip hl) (.inl Y) B O hT Z U.1 (fun q hm=>(U.2 _ hm).resolve_left fun z=>z rfl) (gk fun x hx e=>I.ok.has x.1 (.inl (C.fre x hx e))) W hk0 ha pins s σ H D I hh
theorem Ad {i1 i2:Nat} (h:decide (i1<NX.length/\i2<NX.length)=true) (q:X.N=NX:=by rfl):∀ σ:St,σ.length=X.N.length->i1<σ.length/\i2<σ.length:=fun σ e=>by rw [e,q];exact of_decide_eq_true h
end
structure DefC (K:xA9) (mg:Str->Option Value) (x:Str) (st:Stmt) (ps:List Str) (c:Addr):Prop where
 ex:∃ (f:Addr) (oc:Value) (od:Option Addr) (kV doc pm:Value) (an:Option Addr) (ct:Value) (osl:Array (Option Value)),mg x=some (.ref f)/\xF9 K (.ref f)=true/\Binds K (xC9 x x (bJ st) (aX st) (ac st) .none kV doc pm an (.ref c) ct) ps []∧K.lookup f=some ⟨oc,od,.func (xC9 x x (bJ st) (aX st) (ac st) .none kV doc pm an (.ref c) ct),osl⟩/\xH9 K (.ref c) x=true
section
variable {P:qc8} {w:World} {K:xA9} {mg:Str->Option Value} {base:Heap} {x:Str} {st:Stmt} {N ps:List Str} {c:Addr}
theorem DefC.mk' {oc:Value} {od an:Option Addr} {osl:Array (Option Value)} {kV doc pm ct:Value} (X:K.In h) (G:h.Ns qc0 mg)
 (a:xB9 K qc0 x=some (some (.ref f)))
 (l:K.lookup f=some ⟨oc,od,.func (xC9 x x (bJ st) (aX st) (ac st) .none kV doc pm an (.ref c) ct),osl⟩) (q:xH9 K (.ref c) x=true) (k:xF9 K (.ref f)=true)
 (O:∀ (kV doc pm:Value) (an:Option Addr) (cdv ct:Value) (us:List Value),us.length=ps.length->zg8 (xC9 x x (bJ st) (aX st) (ac st) .none kV doc pm an cdv ct) ⟨us,[]⟩=pure (ps.zip us)):DefC K mg x st ps c:=
 ⟨f,oc,od,kV,doc,pm,an,ct,osl,xI9 X G a,k,(lr l q k).binds O,l,q⟩
theorem Ae {k:Nat} (D:DefC K mg x st ps c) (S:FnScope N ps (ac st)) (hn:ps.length=n)
 (O:∀ (f:Addr) (A:qd5) (outer:List Env) (s:qa4) (H:Hp) (E:XK),Room k (A.deeper (qz4 x (ac st) s.heap.objs.size f (.ref c)))->DS (jd CX0 P w K mg base N x (ac st) f (.ref c) A outer s H E).nox (aX st) g) :
  OkF P w K mg base x (k+1) ps (spD K n (b8 N.length g)):=by
 obtain ⟨f,oc,od,kV,doc,pm,an,ct,osl,h1,h2,h3,lk,W⟩:=D.ex;refine ⟨f,_,h1,h2,h3,xL lk W S (fun vs H Q E h=>?_) fun A outer s H vs Q E hr h=>?_⟩
 . obtain ⟨F,ds,t,_,Z,r,_⟩:=h;rw [r.length,Z,hn]
 . obtain ⟨F,ds,t,Y,Z,r,U,kq⟩:=h;refine ⟨_,PSs.nox (O f A outer s H E hr),?_⟩;unfold b8 at U;split at U
   . rename_i t' q;cases U;exact ⟨⟨K,F,H,fun _=>False⟩,_,F,_,rfl,d6 Y r,q,fun v F' H' z=>z.step kq⟩
   . rename_i δ' q;cases U;exact ⟨⟨K,F,H,fun _=>False⟩,_,F,_,rfl,d6 Y r,q,fun σ' F' H' z=>(z.rt (Step.refl z.fh) (t:=.leaf .non) (S:=fun _=>False) (gT (K:=K) (F:=F')) fun _ y=>y.elim).step kq⟩
   . cases U
theorem wV {P:Addr} (q:decide (x∈nestNames)=true) (h:nT K x=some (P,qs)):(P,qs)∈c4 K:=qy2.mpr ⟨x,of_decide_eq_true q,h⟩
end
variable {R:Result->qa4->Prop}
section
variable {P:qc8} {u:World} {B:qd5} {Ex:Value->qa4->Prop} {s:qa4} {it l:Addr} {xs:Array Value}
theorem lR:zf0 (.type "list_reverseiterator") "__len__"=pure none:=by rw [qs8,qm5];kernel_rfl
theorem j4:zf0 (.type "list_reverseiterator") "__length_hint__"=pure (some (.builtin "list_reverseiterator.__length_hint__")):=by rw [qs8,qm5];kernel_rfl
theorem uD {W:Bool->qa4->Prop} (O:s.TypeIs (.ref it) "list_reverseiterator") (q:W false s):wpAny (model P u) B (ql3 (.ref it)) W Ex s:=by
 unfold ql3;refine wB (qw7 O lR ?_)
 wp_delta
 refine ql4 (fun z=>absurd z (by decide)) fun _=>?_
 refine ql4 (fun z=>absurd z (by decide)) fun _=>?_
 refine wB (qw7 O j4 ?_);generalize hi:("list_reverseiterator.__length_hint__":String)=j
 wp_delta
 rw [show splitId j=some ("list_reverseiterator","__length_hint__") from by subst hi;decide +kernel];subst hi;refine wB (qr1 (T:="list_reverseiterator") (b:=true) O (by rw [zf9];kernel_rfl) ?_);refine ql4 (fun z=>absurd z (by decide)) fun _=>?_
 refine ql4 (fun _=>?_) fun z=>absurd (by decide +kernel) z
 refine ql4 (fun z=>absurd z (by decide +kernel)) fun _=>?_
 exact qa2 q
abbrev qm (xs:Array Value):Nat->Value->Prop:=fun i v=>xs[xs.size-1-i]?=some v
theorem oS (O:B.handled=none) (hi:s.heap.IsRevIter it l ((xs.size:Int)-1)) (hl:s.heap.IsList l xs) (Z:l≠it) (t:Addr) (n1:t≠it) (n2:t≠l) (U:Value) (c0:Nat) (ht:s.heap.get? t=some {cls:=.type "list",data:=.seq #[] c0}) (fits:xs.size<=qb0)
 (q:∀ (h':Heap) (tk:Nat) (ys:Array Value) (c:Nat),(∀ b o,b≠t->b≠it->s.heap.get? b=some o->h'.get? b=some o)->h'.get? t=some {cls:=.type "list",dict:=none,data:=.seq ys c,slots:=#[]}->ItemsOf (qm xs) ys xs.size->R (.ok (.ret U)) {s with heap:=h',toks:=tk}) :
  wpAny (model P u) B.in1 (qg7 (.ref t) (.ref it) U) (fun W s'=>match W with | .done f=>R (.ok f) s' | .again c'=>c'.quiet=true/\qq5 (model P u) B c' R s') (fun e s'=>R (.error e) s') s:=by
 have tn:t∉[it,l]:=by
  intro z;rcases qb3.mp z with z | z
  . exact n1 z
  . exact n2 (qb7.mp z)
 have Wk:=Walks.listRev (prog:=P) (w:=u) (A:=B.in1) (by simpa using O) it l Z xs
 have go:qq5 (model P u) B (.builtin "list.extend.loop" ⟨[.ref t,.ref it,U],[]⟩) R s:=by
  refine codeAny_extend_loopS Wk.toS fits t tn U xs.size 0 _ #[] c0 rfl (qj2 _) ⟨qj2 _,by simpa using hi,hl⟩ ht (ItemsOf.nil _) fun s' ys c mv Y its=>?_
  rw [Moved.eq_with mv];refine q s'.heap s'.toks ys c (fun b o b1 b2 e=>mv.heap b o (fun z=>?_) e) Y its;rcases qb3.mp z with z | z
  . exact b1 z
  . exact b2 (qb7.mp z)
 unfold qg7;refine wB (qu0 (T:="list_reverseiterator") hi.typeIs ?_);have e1:qn8 (.ref t) (.ref it)=false:=by simp [qn8,n1]
 have e2:(qj9 "list_reverseiterator"==qj9 "list")=false:=by decide +kernel
 have e3:(qj9 "list_reverseiterator"==qj9 "tuple")=false:=by decide +kernel
 simp only [e1,e2,e3,qs2,qf0,if_false];refine wB (wpAny_pyIter_revIter hi ?_);refine wB (qh4 (uD hi.typeIs ?_));refine ql4 (fun z=>absurd z (by decide +kernel)) fun _=>?_
 exact qa2 ⟨qv5 PySem.F.plain_extend_loop _,go⟩
theorem uE (U:B.handled=none) (hi:s.heap.IsRevIter it l ((xs.size:Int)-1)) (hl:s.heap.IsList l xs) (hne:l≠it) (t:Addr) (n1:t≠it) (n2:t≠l) (W:s.heap.get? t=some {cls:=.type "list",data:=.seq #[]}) (fits:xs.size<=qb0)
 (q:∀ (h':Heap) (tk:Nat) (ys:Array Value) (c:Nat),(∀ b o,b≠t->b≠it->s.heap.get? b=some o->h'.get? b=some o)->h'.get? t=some {cls:=.type "list",dict:=none,data:=.seq ys c,slots:=#[]}->ItemsOf (qm xs) ys xs.size->R (.ok (.ret .none)) {s with heap:=h',toks:=tk}) :
  wpAny (model P u) B.in1 (qh5.«list.__init__» ⟨[.ref t,.ref it],[]⟩) (fun fin s'=>match fin with | .done f=>R (.ok f) s' | .again c'=>c'.quiet=true/\qq5 (model P u) B c' R s') (fun e s'=>R (.error e) s') s:=by
 show wpAny _ _ (do let Z <- zc7 (.ref t);qh5.List.listUpdate (.ref t) (fun _=>#[]);letGo Z.toList.reverse;qg7 (.ref t) (.ref it) .none) _ _ s;refine wB ?_;unfold zc7;refine wB (qt9 W rfl (qa2 ?_));show wpAny _ _ (updateSeq t (fun _=>#[]) >>= fun _=>letGo (#[]:Array Value).toList.reverse >>= fun _=>qg7 (.ref t) (.ref it) .none) _ _ s;refine wB (ze7 W rfl ?_);have Y:=qe4 (qo8 (fun _=>(#[]:Array Value))) W rfl;have O:∀ b o,b≠t->s.heap.get? b=some o->(s.heap.update t (qo8 (fun _=>(#[]:Array Value)))).get? b=some o:=fun b o hb e=>(ql6 _ _ (qq4 hb)).trans e
 refine wB (wpAny_letGo ?_);exact oS U (hi.at fun o e=>O _ o n1.symm e) (hl.at fun o e=>O _ o n2.symm e) hne t n1 n2 .none _ Y fits fun h' tk ys c k k2 k3=>q h' tk ys c (fun b o b1 b2 e=>k b o b1 b2 (O b o b1 e)) k2 k3
theorem uF {W:Value->qa4->Prop} (U:B.handled=none) (hi:s.heap.IsRevIter it l ((xs.size:Int)-1)) (hl:s.heap.IsList l xs) (Z:l≠it) (fits:xs.size<=qb0)
  (q:∀ (h':Heap) (tk:Nat) (ys:Array Value) (c:Nat),(∀ b o,b≠it->s.heap.get? b=some o->h'.get? b=some o)->h'.get? s.heap.objs.size=some {cls:=.type "list",dict:=none,data:=.seq ys c,slots:=#[]}->ItemsOf (qm xs) ys xs.size->W (.ref s.heap.objs.size) {s with heap:=h',toks:=tk}) :
  wpAny (model P u) B (call (.type "list") [.ref it]) W Ex s:=by
 refine callType_codes (Q₁:=fun z O=>z=.ref s.heap.objs.size/\O={s with heap:=s.heap.push {cls:=.type "list",data:=.seq #[]}}) PySem.F.called_list (PySem.F.typeCall_list_1 _) PySem.F.entry_list_init (code_list_new _ ⟨rfl,rfl⟩) fun z O Y=>?_
 obtain ⟨rfl,rfl⟩:=Y;have ht:(s.heap.push {cls:=.type "list",data:=.seq #[]}).get? s.heap.objs.size=some {cls:=.type "list",data:=.seq #[]}:=qa8 _ rfl;have l1:it<s.heap.objs.size:=let ⟨_,e,_⟩:=hi;qa7 e;have l2:l<s.heap.objs.size:=let ⟨_,e,_⟩:=hl;qa7 e;refine ⟨⟨_,ht,rfl⟩,PySem.F.args_list_init_2 _ _,uE (B:=B.in1) (by simpa using U) (hi.at fun o e=>ql5 _ e) (hl.at fun o e=>ql5 _ e) Z _ (qm1 l1) (qm1 l2) ht fits fun h' tk ys c k k2 k3=>?_⟩;exact ⟨rfl,q h' tk ys c (fun b o b1 e=>k b o (qb9 (qa7 e)) b1 (gP _ e)) k2 k3⟩
theorem uG {its ys:List Value} (r:Vals vs its) (q:ys.length=its.length) (h:∀ (i:Nat) (v:Value),ys[i]?=some v->its[its.length-1-i]?=some v):ys=its.reverse:=by
 apply za5;intro i;by_cases hi:i<ys.length
 . have e:=h i ys[i] (gQ hi);rw [List.getElem?_reverse (by lia),e,gQ hi]
 . rw [ze8 (by lia),ze8 (by simp;lia)]
end
def tLR (X:Cx) (ta:TA):TE:=fun σ H Q=>ta σ H fun xs H1=>∃ p vs,xs=[.ref p]/\SqL X.K H1 p vs/\∀ l,H1 l=none->Q (.ref l) (upd H1 l (.lst vs.reverse))
section
variable {X:Cx} {e:Expr} {ta:TA} {p1 p2 pos1 pos2:Pos} {sc:Scope}
theorem nr:qe2 "reversed"=some (.type "reversed"):=by decide +kernel
theorem g6:∀ {vs:List V} {us:List Value},Vals vs us->Vals vs.reverse us.reverse
 | _,_,.nil=>.nil
 | _,_,.cons h r=>by rw [qq3,qq3];exact (g6 r).append (.cons h .nil)
theorem oT (h1:aE sc "list"=true) (h2:aE sc "reversed"=true) (hm1:X.mg "list"=none) (hm2:X.mg "reversed"=none) (hc:X.calm=true) (ha:PA X [e] ta) (e1:bV X sc:=by rfl) (hs:qa6 [e] X.env=[(false,eval e X.env)]:=by rfl)
  (hs2:qa6 [.Call (.Name "reversed" p2) [e] [] pos2] X.env=[(false,eval (.Call (.Name "reversed" p2) [e] [] pos2) X.env)]:=by rfl) :
  PE X (.Call (.Name "list" p1) [.Call (.Name "reversed" p2) [e] [] pos2] [] pos1) (tLR X ta):=by
 intro pins s σ H Q I h'
 have W:wpAny (model X.prog X.w) X.A (eval (.Call (.Name "reversed" p2) [e] [] pos2) X.env) (fun u s2=>∃ it p vs H1,u=.ref it/\Inv X pins σ H1 s2/\fU X pins H1 it/\p≠it/\SqL X.K H1 p vs/\s2.heap.IsRevIter it p ((vs.length:Int)-1)/\(∀ l,H1 l=none->Q (.ref l) (upd H1 l (.lst vs.reverse)))) X.xe s:=by
  refine Call_ (eR I (glD h2 e1) hm2 nr (qg5 (thn (ha pos2 pins s σ H _ I h') fun us s1 ⟨vs,H1,I1,r1,q1⟩=>?_) hs rfl));obtain ⟨p,vs,rfl,hq,q⟩:=q1;obtain ⟨u,rfl,ru⟩:=fV r1;cases ru;obtain ⟨its,r',pl,U⟩:=I1.list hq;have O:its.toArray.size=vs.length:=by have:=r'.length;simpa using this.symm
  refine call_reversed_list pl.isList ?_;have Y:=I1.kept (t':=s1.toks) (h':=s1.heap.push (revObj p ((its.toArray.size:Int)-1))) fun b o g=>gP _ g
  have fp:=I1.fpOk (b:=s1.heap.objs.size) (nL _) (I1.hok.fresh (nL _));refine ⟨s1.heap.objs.size,p,vs,H1,rfl,Y,fp,?_,hq,⟨_,qa8 _ rfl,rfl,by rw [<- O];rfl⟩,q⟩;obtain ⟨_,g,_⟩:=pl.isList;exact qb9 (qa7 g)
 have key:wpAny (model X.prog X.w) X.A (spliced (qk0 pos1 (qa6 [.Call (.Name "reversed" p2) [e] [] pos2] X.env))) (fun vs Z=>wpAny (model X.prog X.w) X.A (call (.type "list") vs) (EP X pins σ Q) X.xe Z) X.xe s:=?key
 . exact Call_ (eR I (glD h1 e1) hm1 fM (qg5 key hs2 rfl))
 rw [hs2];show wpAny _ _ (spliced ((false,eval (.Call (.Name "reversed" p2) [e] [] pos2) X.env)::[])) _ _ s;refine Calls.spliced_cons (thn W fun u s2 w=>Calls.spliced_nil ?_);obtain ⟨it,p,vs,H1,rfl,Y,fp,hne,hq,hR,q⟩:=w;obtain ⟨its,r',pl,U⟩:=Y.list hq;have O:its.toArray.size=vs.length:=by have:=r'.length;simpa using this.symm
 have fits:its.toArray.size<=qb0:=by first | exact U | (rw [O];exact U) | simpa using U
 refine uF (Y.ok.hd hc) (by rw [O];exact hR) pl.isList hne fits fun h3 tk ys c k k2 k3=>?_
 have ey:ys.toList=its.reverse:=uG r' (by have:=k3.1;simpa using this) fun i v hv=>by have:=k3.2 i v (by simpa using hv);simpa [qm] using this
 refine ⟨.ref s2.heap.objs.size,_,Y.turnedT (fp:=[it]) (t:=s2.heap.objs.size) (u:=.lst vs.reverse) (t':=tk) (fun b o hb g=>k b o (fun z=>hb (by simp [z])) g) (fun b hb=>?_) (qt1 _) ⟨?_,its.reverse,c,g6 r',?_⟩,rfl,q _ (Y.hok.fresh (qt1 _))⟩
 . cases qb7.mp hb;exact fp
 . rw [List.length_reverse,<- O];exact fits
 . rw [k2,<- ey]
end
def jH (ks:List Key):Dt:=.tup (ks.map kJ)
theorem iF {F:Hp}:∀ ks:List Key,Reps K F (ks.map kJ) (ks.map kV)
 | []=>by simp only [qs0,Reps]
 | k::ks=>by simp only [qa5,Reps];exact ⟨_,_,rfl,wM k,iF ks⟩
theorem uH {F:Hp} {b:Addr} {ks:List Key} (h:F b=some (.tup (ks.map kV))):Rep K F (jH ks) (.ref b):=by unfold jH;simp only [Rep];exact ⟨b,_,rfl,SqT.of h,iF ks⟩
theorem kW {α β:Type} {R:α->β->Prop}:∀ {l:List α} {m:List β},Paired R l m->∀ {i:Nat} {a:α},l[i]?=some a->∃ b,m[i]?=some b/\R a b
 | _,_,.nil,i,a,h=>by simp at h
 | _,_,.cons r t,0,a,h=>by simp at h;subst h;exact ⟨_,rfl,r⟩
 | _,_,.cons r t,i+1,a,h=>by simpa using kW t (by simpa using h)
theorem jI {α β:Type} {R:α->β->Prop}:∀ {l:List α} {m:List β},Paired R l m->l.length=m.length
 | _,_,.nil=>rfl
 | _,_,.cons r t=>by simp [jI t]
theorem Af {kvs:List (List Key×V)} (x:ObjOk P w H h a (.dT kvs)):kvs.length<=qb0/\(a==qk8)=false/\∃ (bs:List Addr) (ob:Obj) (es:Array DictEntry) (ep:Nat),h.get? a=some ob/\ob.data=.dict es ep/\EntA h a (bs.map .ref) ep/\bs.length=kvs.length∧
  ∀ (j:Nat) (p:List Key×V),kvs[j]?=some p->∃ b,bs[j]?=some b/\H b=some (.tup (p.1.map kV)):=by
 obtain ⟨z,y,xs,r,o,es,ep,h1,h2,h3,U,Y⟩:=x;refine ⟨z,y,xs.map (·.2.1),o,es,ep,h1,h3,⟨o,es,h1,h2,h3,?_⟩,by rw [qa1,<- jI r],fun j p hp=>?_⟩
 . rw [U,qd0,qd0];rfl
 . obtain ⟨q,W,_,O,_⟩:=kW r hp;exact ⟨q.2.1,by rw [qb4,W];rfl,O⟩
section
variable {X:Cx} {tg:Expr}
theorem xY {u:HO} (I:Inv X pins σ H s) (h:Rd H a u):ObjOk X.prog X.w H s.heap a u:=by
 rcases h with h | ⟨o,h⟩
 . exact I.hok a _ h
 . exact (I.hok a _ h).2
theorem oU (hc:X.calm=true):cL X (.type "list") (fun xs H Q=>∃ a kvs,xs=[.ref a]/\Rd H a (.dT kvs)/\∀ bs:List Addr,bs.length=kvs.length->(∀ (j:Nat) (b:Addr) (p:List Key×V),bs[j]?=some b->kvs[j]?=some p->H b=some (.tup (p.1.map kV)))->∀ l,H l=none->Q (.ref l) (upd H l (.lst (bs.map V.ref)))):=by
 intro pins s σ H xs us Q I r h;obtain ⟨a,kvs,rfl,hq,q⟩:=h;obtain ⟨u,rfl,rx⟩:=fV r;cases rx;obtain ⟨z,y,bs,ob,es,ep,e1,e2,en,Z,hk⟩:=Af (xY I hq);have hz:(bs.map qf1).length<=qb0:=by rw [qa1,Z];exact z
 refine PySem.W.kdl_call (qh y) (I.ok.hd hc) en hz fun h' tk acc c kp hD O=>?_
 have U:acc.toList=bs.map qf1:=by
  apply za5;intro j;cases hj:acc.toList[j]? with
  | none =>have h1:=qh3.mp hj;rw [qe1,O.1] at h1;rw [qh3.mpr h1]
  | some v=>exact (O.2 j v (by rw [<- qm3];exact hj)).symm
 have rv:Vals (bs.map V.ref) acc.toList:=by
  rw [U];clear U hk Z en hz q O;induction bs with
  | nil=>exact .nil
  | cons b bs ih=>exact .cons rfl ih
 refine ⟨.ref s.heap.objs.size,_,I.laid (t':=tk) kp (nL _) (show ObjOk X.prog X.w _ h' _ (.lst (bs.map V.ref)) from ⟨by rw [qa1,Z];exact z,acc.toList,c,rv,by rw [qv1];exact hD⟩),rfl,q bs Z (fun j b p h1 h2=>?_) _ (I.hok.fresh (nL _))⟩;obtain ⟨b',Y,hH⟩:=hk j p h2;rw [h1] at Y;cases Y;exact hH
end
end L2
namespace HT
open PySem PySem.Spec PyProof.Rows
end HT
namespace L2
open PySem PySem.Spec PyProof.Rows
section
variable {X:Cx} {a:Expr} {fa:Fg} {p pos:Pos} {sc:Scope}
theorem kX {P:qc8} {w:World}:∀ {kvs:List (Key×V)} {vs:List (Key×Value)} {es:List DictEntry},KV kvs vs->Pairs (bM P w) es vs->Vals (kvs.map fun p=>kV p.1) (es.map (·.key))
 | [],_,_,.nil,.nil=>.nil
 | _::_,_,_,.cons r t,.cons h _ m=>.cons (by dsimp only;rw [r.1];exact wK h) (kX t m)
theorem oV (hc:X.calm=true):cL X (.type "list") (fun xs H Q=>∃ a kvs,xs=[.ref a]/\Rd H a (.dK kvs)/\∀ l,H l=none->Q (.ref l) (upd H l (.lst (kvs.map fun p=>kV p.1)))):=by
 intro pins s σ H xs us Q I r h;obtain ⟨a,kvs,rfl,hq,q⟩:=h;obtain ⟨u,rfl,rx⟩:=fV r;cases rx;obtain ⟨z,y,vs,Y,ob,es,ep,e1,e2,e3,e4,e5,e6⟩:=xY I hq;have en:EntA s.heap a (es.toList.map (·.key)) ep:=⟨ob,es,e1,e2,e3,rfl⟩;have kv:=kX Y e5;have hz:(es.toList.map (·.key)).length<=qb0:=by rw [<- kv.length,qa1];exact z
 refine PySem.W.kdl_call (qh y) (I.ok.hd hc) en hz fun h' tk acc c kp hD O=>?_
 have U:acc.toList=es.toList.map (·.key):=by
  apply za5;intro j;cases Z:acc.toList[j]? with
  | none =>have h1:=qh3.mp Z;rw [qe1,O.1] at h1;rw [qh3.mpr h1]
  | some v=>exact (O.2 j v (by rw [<- qm3];exact Z)).symm
 exact ⟨.ref s.heap.objs.size,_,I.laid (t':=tk) kp (nL _) (show ObjOk X.prog X.w _ h' _ (.lst (kvs.map fun p=>kV p.1)) from ⟨by rw [qa1];exact z,acc.toList,c,by rw [U];exact kv,by rw [qv1];exact hD⟩),rfl,q _ (I.hok.fresh (nL _))⟩
end
def oW (K:xA9):Bool:=K.all fun p=>match p.2.data with
 | .seq its _=>(match its.toList with
  | [.int _ _,.str _ _]=>false
  | _=>true)
 | _=>true
variable {a:Addr}
theorem nu {o:Obj}:∀ {K:List (Addr×Obj)},K.lookup a=some o->(a,o)∈K
 | [],h=>by cases h
 | (b,u)::K,h=>by
  rw [qf9] at h;cases q:a==b with
  | true=>rw [q] at h;cases h;rw [beq_iff_eq.mp q];exact .head _
  | false=>rw [q] at h;exact .tail _ (nu h)
variable {K:xA9} {H:Hp}
theorem uI {n:Int} {s:Str} (U:oW K=true) (h:SqT K H a [.int n,.str s]):H a=some (.tup ([qy7 n,za6 s].map kV)):=by
 rcases h with h | ⟨o,its,m,hk,hc,Z,hz,r⟩
 . exact h
 . have q:=qi6.mp U (a,o) (nu hk);dsimp only at q;rw [Z] at q;dsimp only at q;generalize its.toList=w at q r;cases r with
   | cons W t =>
    cases t with
    | cons Y O =>cases O;obtain ⟨t1,rfl⟩:=W;obtain ⟨O,rfl⟩:=Y;cases q
section
variable {X:Cx} {a b:Expr} {ta:TA} {p1 p2 pos1 pos2:Pos} {sc:Scope} {fs:De->Option (List Dt)}
end
section
variable {X:Cx} {pins:List (Addr×Obj)} {s:qa4} {σ:St} {H:Hp}
end
theorem TabsIn.one {h:Heap} {c P:Addr} {qs:List ((Nat×Nat)×Str)} (O:K.In h) (e:c4 K=[(P,qs)]) (n:K.lookup P=none) (U:xN9 K c P=true) (t:h.get? P=some (xJ9 #[])):TabsIn K h:=by
 unfold TabsIn;rw [e];refine ⟨fun p hp=>?_,fun p hp q Y _=>?_⟩
 . cases qb7.mp hp;exact ⟨n,⟨c,PySem.W.codeHd_of_K O U⟩,t⟩
 . cases qb7.mp hp;cases qb7.mp Y;rfl
def isK:Dt->Option (List Key)
 | .tup [.int n,.str s]=>some [.inl n,.inr s]
 | _=>none
theorem oX {F:Hp} {d:Dt} {v:V} {ks:List Key} (q:oW K=true) (h:isK d=some ks) (r:RepB K F H d v):∃ b,v=.ref b/\F b=some (.tup (ks.map kV)):=by
 unfold isK at h;split at h<;>cases h
 obtain ⟨a,vs,rfl,h1,h2⟩:=r;unfold Reps at h2;obtain ⟨U,O,rfl,q1,h2⟩:=h2;unfold Reps at h2;obtain ⟨Y,W,rfl,q2,h2⟩:=h2;unfold Reps at h2;subst h2;simp only [Rep] at q1 q2;subst q1 q2;exact ⟨a,rfl,uI q h1⟩
section
variable {X:Cx} {o a b e ox ik:Expr} {fa fb fk fe:De->Option Dt} {pos apos cpos p1 p2 pos1 pos2:Pos} {sc:Scope} {i j m:Nat} {K:xA9}
def oY:De->Option T:=fun _=>some (.dcT [])
theorem uJ:DO X (.Dict [] [] pos) oY:=PE.mono sZ fun σ H Q ⟨Φ,δ,F,t,U,q,O,k⟩=>by
 cases O;intro p hp;refine k _ _ F (fun b=>b=p) (Step.made q.fh hp) ⟨p,[],rfl,rfl,aQ,rfl,by simp [Reps]⟩ fun b z=>?_
 subst z;exact ⟨q.fh.free hp,hp,_,aQ,nofun⟩
def rZ:Dt->Dt->Option T
 | .dcT ks l,k=>(isK k).bind fun k=>(cq ks l k).map .leaf
 | _,_=>none
theorem Ag (hI:oW X.K=true) (hr:Room m X.A) (ha:DB X a fa) (Y:DB X b fb) (hn:v8 b:=by exact fun _ _=>rfl):DO X (.Subscript a b pos) (d2 rZ fa fb):=
 PE.mono (pO (jg hr) ha Y hn) fun σ H Q ⟨Φ,δ,F,t,Z,en,O,k⟩=>by
  obtain ⟨x,hx,O⟩:=bS O;obtain ⟨y,hy,O⟩:=bS O;unfold rZ at O;split at O<;>first | (cases O;done) | skip
  obtain ⟨kk,hk,O⟩:=bS O;obtain ⟨d,hd,rfl⟩:=mS O;refine ⟨Φ,δ,F,_,Z,en,hx,fun v H1 F1 st rv=>⟨Φ,δ,F1,_,Z,en.step st,hy,fun v2 H2 F2 q U=>?_⟩⟩;obtain ⟨ad,kvs,rfl,h1,rfl,h3⟩:=rv;obtain ⟨w,hw,W⟩:=fO h3 hd;obtain ⟨b,rfl,Y⟩:=oX hI hk U;exact ⟨ad,w,rfl,.inr ⟨kvs,kk,b,q.hh.rd h1,rfl,q.fh _ _ Y,hw.symm⟩,(k.step (st.trans q)).leaf.here q.fh (W.same q.ff)⟩
def uK (fa fb:De->Option Dt):De->Option Bool:=fun δ=>(fa δ).bind fun x=>(fb δ).bind fun y=>match y with
 | .dcT ks l=>(isK x).map fun k=>!(cq ks l k).isSome
 | _=>none
theorem Ah (hI:oW X.K=true) (hr:Room m X.A) (ha:DB X a fa) (W:DB X b fb) (hm:qk5 .NotIn b=false:=by with_unfolding_all rfl):DT X (.Compare a [.NotIn] [b] pos) (uK fa fb):=
 PT.mono (nU (ka (jg hr) ha W) hm) fun σ H Q ⟨Φ,δ,F,t,Y,Z,O,k⟩=>by
  obtain ⟨x,hx,O⟩:=bS O;obtain ⟨y,hy,O⟩:=bS O;split at O<;>first | (cases O;done) | skip
  obtain ⟨kk,hk,rfl⟩:=mS O;refine ⟨Φ,δ,F,x,Y,Z,hx,fun v H1 F1 st rv=>⟨Φ,δ,F1,_,Y,Z.step st,hy,fun v2 H2 F2 q U=>?_⟩⟩;obtain ⟨ad,kvs,rfl,h1,rfl,h3⟩:=U;obtain ⟨b,rfl,W⟩:=oX hI hk rv;refine ⟨ad,_,rfl,.inr ⟨kvs,kk,b,h1,rfl,q.fh _ _ (q.ff _ _ W),rfl⟩,_,rfl,?_⟩;rw [<- lK h3];exact k H2 F2 (st.trans q)
noncomputable def jJ (i:Nat) (fk fe:De->Option Dt):De->Option Out:=fun δ=>(fe δ).bind fun d=>(fk δ).bind fun k=>match δ[i]? with
 | some (some (.dcT l))=>(isK k).bind fun k=>if l.length<qb0/\(l.map (·.1)).Nodup then some (.nx (δ.set i (some (.dcT (gr l k d))))) else none
 | _=>none
theorem qo (hI:oW X.K=true) (hr:Room m X.A) (hx:PE X ox (f9 i)) (hk:DB X ik fk) (he:DL X e fe)
  (hs:qm0 e (some (.Subscript ox ik apos)) pos.line X.env=pure false:=by rfl):DS1 X (.Assign [.Subscript ox ik apos] e pos) (jJ i fk fe):=
 PS.mono (pP (jg hr) hx hk he hs) fun D σ H ⟨Φ,δ,F,ot,hK,en,O,k⟩=>by
  obtain ⟨d,hd,O⟩:=bS O;obtain ⟨kd,hkd,O⟩:=bS O;split at O<;>first | (cases O;done) | skip
  rename_i l hl;obtain ⟨kk,Y,O⟩:=bS O;split at O<;>first | (cases O;done) | skip
  rename_i hc;cases O;refine ⟨Φ,δ,F,d,hK,en,hd,fun v H1 F1 st rv=>?_⟩;have U:=en.step st;obtain ⟨w0,Z⟩:=U.has i _ hl;obtain ⟨S,s⟩:=U.sep;obtain ⟨a,kvs,rfl,_,h1,h2,h3⟩:=s.own i _ w0 (bK hl Z);refine ⟨.ref a,Z,Φ,δ,F1,kd,hK,U,hkd,fun w H2 F2 q rw'=>?_⟩;have en2:=U.step q;obtain ⟨b,rfl,hb⟩:=oX hI Y rw';have W:kvs.length=l.length:=by simpa using congrArg za9 h2
  refine ⟨a,_,rfl,.inr ⟨kvs,kk,b,q.hh _ _ h1,rfl,q.fh _ _ hb,by rw [W];exact hc.1,rfl⟩,?_⟩;obtain ⟨p1,p2⟩:=p7 kk v kvs l d (by rw [h2];exact hc.2) h2;exact k σ F2 _ (en2.poke hl Z rfl fun S sa=>⟨a,_,rfl,sa,aQ,p1,p2 _ _ (hK▸rv.same q.ff) (h3.same q.ff)⟩)
def cI:List Dt->Option T
 | [.dcT ks _]=>some (.lst (ks.map jH))
 | [.dct ks _]=>some (.lst (ks.map kJ))
 | _=>none
noncomputable abbrev uL:List V->Hp->VK->Prop:=fun xs H Q=>(∃ a kvs,xs=[.ref a]/\Rd H a (.dT kvs)/\∀ bs:List Addr,bs.length=kvs.length->(∀ (j:Nat) (b:Addr) (p:List Key×V),bs[j]?=some b->kvs[j]?=some p->H b=some (.tup (p.1.map kV)))->∀ l,H l=none->Q (.ref l) (upd H l (.lst (bs.map V.ref))))∨∃ a kvs,xs=[.ref a]/\Rd H a (.dK kvs)/\∀ l,H l=none->Q (.ref l) (upd H l (.lst (kvs.map fun p=>kV p.1)))
theorem gt (q:X.calm=true):cL X (.type "list") uL:=fun pins s σ H xs us Q I r h=>h.elim (oU q pins s σ H xs us Q I r) (oV q pins s σ H xs us Q I r)
theorem qp {F:Hp}:∀ {O:List (List Key)} {bs:List Addr},bs.length=O.length->(∀ (j:Nat) (b:Addr) (k:List Key),bs[j]?=some b->O[j]?=some k->F b=some (.tup (k.map kV)))->Reps K F (O.map jH) (bs.map V.ref)
 | [],[],_,_=>by simp [Reps]
 | [],_::_,h,_=>by cases h
 | _::_,[],h,_=>by cases h
 | k::O,b::bs,h,q=>by simp only [qa5,Reps];exact ⟨_,_,rfl,uH (q 0 b k rfl rfl),qp (by simpa using h) fun j b k h1 h2=>q (j+1) b k (by simpa using h1) (by simpa using h2)⟩
theorem lS:CRD K uL cI:=fun F H ds vs Q t Y r hg k=>by
 unfold cI at hg;split at hg<;>cases hg
 . obtain ⟨v,rfl,a,kvs,rfl,h1,rfl,h3⟩:=c9 r;refine .inl ⟨a,kvs,rfl,h1,fun bs hl hb l hn=>?_⟩
   have Z:∀ (j:Nat) (b:Addr) (k:List Key),bs[j]?=some b->(kvs.map (·.1))[j]?=some k->H b=some (.tup (k.map kV)):=fun j b k h1 h2=>by rw [qb4] at h2;obtain ⟨p,hp,rfl⟩:=mS h2;exact hb j b p h1 hp
   have hin:∀ b∈bs,∃ vs,H b=some (.tup vs):=fun b hm=>by
    obtain ⟨j,hj⟩:=qu9 hm;have W:j<kvs.length:=by rw [<- hl];exact (gX hj).1
    exact ⟨_,hb j b _ hj (gQ W)⟩
   let F':Hp:=fun b=>if b∈bs then H b else F b
   have O:∀ {b:Addr},b∈bs->F' b=H b:=fun h=>if_pos h
   have q:∀ {b:Addr},b∉bs->F' b=F b:=fun h=>if_neg h
   have ff:Same F F':=fun b o e=>by
    by_cases h:b∈bs
    . rw [O h];exact Y _ _ e
    . rw [q h];exact e
   have U:Same F' H:=fun b o e=>by
    by_cases h:b∈bs
    . rw [O h] at e;exact e
    . rw [q h] at e;exact Y _ _ e
   have st:Step F H F' H:=⟨Same.refl _,ff,U,fun b o e=>by
    by_cases h:b∈bs
    . exact .inr (.inr (hin b h))
    . rw [q h] at e;exact .inl e⟩
   exact dq (k.step st) U (qp (by simpa using hl) fun j b k h1 h2=>by rw [O (qc7 h1)];exact Z j b k h1 h2) hn
 . obtain ⟨v,rfl,a,kvs,rfl,h1,rfl,h3⟩:=c9 r;refine .inr ⟨a,kvs,rfl,h1,fun l hn=>dq k Y ?_ hn⟩;rw [show (kvs.map fun p=>kV p.1)=(kvs.map (·.1)).map kV by rw [qd0];rfl];exact iF _
def vLR (fa:De->Option Dt):De->Option T:=fun δ=>(fa δ).bind fun d=>match d with
 | .lst l=>some (.lst l.reverse)
 | _=>none
theorem Reps.rev {F:Hp}:∀ {l:List Dt} {vs:List V},Reps K F l vs->Reps K F l.reverse vs.reverse
 | [],_,h=>by simp only [Reps] at h;subst h;simp [Reps]
 | d::l,_,h=>by simp only [Reps] at h;obtain ⟨v,q,rfl,h1,h2⟩:=h;rw [qq3,qq3];exact (Reps.rev h2).append (Reps.one h1)
theorem oZ (h1:aE sc "list"=true) (h2:aE sc "reversed"=true) (W:X.mg "list"=none) (U:X.mg "reversed"=none) (hc:X.calm=true) (ha:DB X a fa) (e1:bV X sc:=by rfl) (he:qa6 [a] X.env=(false,eval a X.env)::qa6 [] X.env:=by rfl) (Z:qa6 [a] X.env=[(false,eval a X.env)]:=by rfl)
  (Y:qa6 [.Call (.Name "reversed" p2) [a] [] pos2] X.env=[(false,eval (.Call (.Name "reversed" p2) [a] [] pos2) X.env)]:=by rfl) :
  DO X (.Call (.Name "list" p1) [.Call (.Name "reversed" p2) [a] [] pos2] [] pos1) (vLR fa):=
 PE.mono (oT h1 h2 W U hc (cS ha eT he) e1 Z Y) fun σ H Q ⟨Φ,δ,F,t,hK,en,O,k⟩=>by
  obtain ⟨d,hd,O⟩:=bS O;split at O<;>cases O
  refine ⟨Φ,δ,F,_,hK,en,hd,fun v H1 F1 st rv=>?_⟩;obtain ⟨a,vs,rfl,g1,g2⟩:=rv;exact ⟨a,vs,rfl,g1,fun q hq=>dq (k.step st) st.fh (g2.rev) hq⟩
def uM (j i:Nat):De->Option Out:=fun δ=>match δ[i]? with
 | some (some (.lst l))=>l.getLast?.map fun d=>.nx ((δ.set i (some (.lst l.dropLast))).set j (some (.leaf d)))
 | _=>none
theorem Ai {N:List Str} {x:Str} {pos':Pos} (h:cu sc N j x=true) (U:gl sc x=true) (nd:N.Nodup) (hx:PE X o (f9 i)) (e1:bV X sc:=by rfl) (e2:X.N=N:=by rfl) (hf:X.fn x=true∨X.env.scope.names.lookup x=some .local:=by exact .inl rfl)
  (q:qo4 o "pop" X.env (eval o X.env)=eval o X.env:=by rfl) (O:(apos.endLine==cpos.line)=true:=by rfl) (hs:qm0 (.Call (.Attribute o "pop" apos) [] [] cpos) (some (.Name x pos')) pos.line X.env=pure false:=by rfl) :
  DS1 X (.Assign [.Name x pos'] (.Call (.Attribute o "pop" apos) [] [] cpos) pos) (uM j i):=
 PS.mono (lw h U nd (zo PySem.F.plainAttrs_list PySem.F.slot_list_pop PySem.F.type_list_pop zq hx q O) e1 e2 hf hs) fun D σ H ⟨Φ,δ,F,ot,hK,en,W,k⟩=>by
  unfold uM at W;split at W<;>first | (cases W;done) | skip
  rename_i l U;obtain ⟨d,Z,rfl⟩:=mS W;obtain ⟨a,vs,Y,h1,h2⟩:=en.ownL U;rw [List.getLast?_eq_getElem?] at Z;obtain ⟨y,hy,ry⟩:=h2.get Z;rw [<- h2.length] at hy;refine ⟨.ref a,Y,.inl ⟨rfl,vs,.inl (.inl h1)⟩,a,vs,y,rfl,rfl,h1,hy,k _ F _ ?_⟩
  have hr:Reps Φ.K F l.dropLast vs.dropLast:=by rw [ze9,ze9,h2.length];exact h2.take _
  exact (en.poke (o:=.lst vs.dropLast) (t':=.lst l.dropLast) U Y rfl fun S sa=>⟨a,_,rfl,sa,aQ,hr⟩).name ry j
end
noncomputable def AtF (K:xA9) (x:Str) (st:Stmt):Prop:=∃ (f:Addr) (oc:Value) (od an:Option Addr) (sl:Array (Option Value)) (kV dc pm q ct:Value),xB9 K qc0 x=some (some (.ref f))/\K.lookup f=some ⟨oc,od,.func (xC9 x x (bJ st) (aX st) (ac st) .none kV dc pm an q ct),sl⟩/\xH9 K q x=true/\xF9 K (.ref f)=true
noncomputable def AtC (K:xA9) (x:Str) (st:Stmt) (c P:Addr):Prop:=∃ (f:Addr) (oc:Value) (od an:Option Addr) (sl:Array (Option Value)) (kV dc pm ct:Value) (O:Value) (xd:Option Addr) (q:Array Value) (xs:Array (Option Value)),
 xB9 K qc0 x=some (some (.ref f))/\K.lookup f=some ⟨oc,od,.func (xC9 x x (bJ st) (aX st) (ac st) .none kV dc pm an (.ref c) ct),sl⟩/\xH9 K (.ref c) x=true/\xF9 K (.ref f)=true∧
 K.lookup c=some ⟨O,xd,.fields q,xs⟩/\q[11]?=some (.ref P)
variable {f:Addr} {oc dc pm:Value} {od an:Option Addr}
section
variable {K:xA9} {mg:Str->Option Value} {h:Heap} {x:Str} {st:Stmt} {ps:List Str} {c P:Addr}
theorem AtF.mk {sl:Array (Option Value)} {kV q ct:Value} (a:xB9 K qc0 x=some (some (.ref f))) (l:K.lookup f=some ⟨oc,od,.func (xC9 x x (bJ st) (aX st) (ac st) .none kV dc pm an q ct),sl⟩) (c:xH9 K q x=true) (k:xF9 K (.ref f)=true):AtF K x st:=⟨f,oc,od,an,sl,kV,dc,pm,q,ct,a,l,c,k⟩
theorem AtC.mk {sl:Array (Option Value)} {kV ct O:Value} {xd:Option Addr} {q:Array Value} {xs:Array (Option Value)} (a:xB9 K qc0 x=some (some (.ref f))) (l:K.lookup f=some ⟨oc,od,.func (xC9 x x (bJ st) (aX st) (ac st) .none kV dc pm an (.ref c) ct),sl⟩) (Y:xH9 K (.ref c) x=true) (k:xF9 K (.ref f)=true) (cl:K.lookup c=some ⟨O,xd,.fields q,xs⟩) (U:q[11]?=some (.ref P)):AtC K x st c P:=⟨f,oc,od,an,sl,kV,dc,pm,ct,O,xd,q,xs,a,l,Y,k,cl,U⟩
theorem AtF.df (A:AtF K x st) (X:K.In h) (G:h.Ns qc0 mg) (q:∀ (kV doc pm:Value) (an:Option Addr) (cdv ct:Value) (us:List Value),us.length=ps.length->zg8 (xC9 x x (bJ st) (aX st) (ac st) .none kV doc pm an cdv ct) ⟨us,[]⟩=pure (ps.zip us)):DefF K mg x st ps:=by obtain ⟨f,oc,od,an,sl,kV,dc,pm,O,ct,a,l,c,k⟩:=A;exact DefF.mk' X G a l c k q
theorem AtC.df (A:AtC K x st c P) (X:K.In h) (G:h.Ns qc0 mg) (q:∀ (kV doc pm:Value) (an:Option Addr) (cdv ct:Value) (us:List Value),us.length=ps.length->zg8 (xC9 x x (bJ st) (aX st) (ac st) .none kV doc pm an cdv ct) ⟨us,[]⟩=pure (ps.zip us)):DefC K mg x st ps c:=by obtain ⟨f,oc,od,an,sl,kV,dc,pm,ct,O,xd,U,xs,a,l,c,k,_⟩:=A;exact DefC.mk' X G a l c k q
end
section
variable {X:Cx} {e:Expr} {es:List Expr} {x:Str} {p pos:Pos} {fs:De->Option (List Dt)} {i:Nat}
theorem pvX (h:cu X.env.scope X.N i x=true):PE X (.Name x pos) (f9 i):=pvD i h rfl rfl
end
def o0:Dt->Dt->Option T
 | .int i,.int j=>if i=1/\0<=j/\j<=1000000 then some (.leaf (.int (i*2^j.toNat))) else none
 | _,_=>none
theorem lT {X:Cx}:OpR X (qk1 .LShift) (rI (fun i j=>i=1/\0<=j/\j<=1000000) fun i j=>.int (i*2^j.toNat)):=opI fun i j _ _ _ _ _ O q=>by obtain ⟨rfl,h1,h2⟩:=O;exact lshift_int h1 (by rw [show qh5.Int.intBits 1=1 by decide +kernel];lia) q
theorem uN:R2D K (rI (fun i j=>i=1/\0<=j/\j<=1000000) fun i j=>.int (i*2^j.toNat)) o0:=by
 intro F H x y Y Z Q t W U O q k;unfold o0 at q;split at q<;>first | (cases q;done) | skip
 split at q
 . cases q;cases U;cases O;exact ⟨_,_,rfl,rfl,by assumption,k.int W⟩
 . cases q
theorem Aj {j:Int} (q:0<=j) (h1:j<=1000000):o0 (.int 1) (.int j)=some (.leaf (.int (1*2^j.toNat))):=if_pos ⟨rfl,q,h1⟩
end L2
namespace HT
open PySem PySem.Spec PyProof.Rows
theorem qq {prog:qc8} {w:World} {A:qd5} {E:Value->qa4->Prop} {s:qa4} {t sl:Addr} {q:Array Value} {vl vu:Value} {lo hi:Option Int} {Q:Value->qa4->Prop} (O:IsTup s.heap t q) (Z:s.heap.IsSliceOf sl vl vu .none) (pl:zf7 vl lo) (pu:zf7 vu hi)
  (hw:sIx q.size 0 lo=0/\sIx q.size q.size hi=q.size) (h:Q (.ref t) s):wpAny (model prog w) A (zb1 (.ref t) (.ref sl)) Q E s:=by
 obtain ⟨os,U,W,hds⟩:=id Z;have Y:s.TypeIs (.ref sl) "slice":=⟨os,U,W⟩;unfold zb1
 try with_reducible refine qh4 ?_
 first | refine wB (qa2 ?_) | skip
 refine wB (wpAny_sequenceKey O.typeIs (by decide) ?_)
 refine wB (qe3 (name:=qa0 "__getitem__") O.typeIs qf3
  (qe7 qf3 O.typeIs entry_tuple_getitem ?_ (args_tuple_getitem _ _)))
 show wpAny _ _ (qx8 (.ref t) >>= _) _ _ s;refine wB (tupleItemsOf_ O ?_);refine wB (qu0 Y ?_);rw [if_pos (by decide)];refine wB (dX Z pl pu ?_);show wpAny _ _ (if (((sIx q.size 0 lo:Nat):Int)==0&&(1:Int)==1&&(sIx q.size q.size hi-sIx q.size 0 lo)==q.size)=true then _ else _) _ _ s;rw [if_pos (by rw [hw.1,hw.2];simp)];refine wB (m:=qh5.Tuple.tupleIsExact _) (wB (qu0 O.typeIs (qa2 ?_)));rw [if_pos (by decide)]
 first
  | exact wB (m:=rule _) (qw0 (qa2 ⟨_,rfl,qa2 h⟩))
  | exact wB (qw0 (qa2 ⟨_,rfl,qa2 h⟩))
  | exact qw0 (qa2 ⟨_,rfl,qa2 h⟩)
  | (wp_walk;exact ⟨_,rfl,qa2 h⟩)
end HT
namespace L2
open PySem PySem.Spec PyProof.Rows
variable {K:xA9}
section
variable {X:Cx}
def rSlW (K:xA9):V->Option Int->Option Int->Hp->VK->Prop:=fun x lo hi H Q=>∃ a xs,x=.ref a/\SqT K H a xs/\(HT.sIx xs.length 0 lo=0/\HT.sIx xs.length xs.length hi=xs.length)/\Q (.ref a) H
theorem wW:SlR X (rSlW X.K):=by
 intro pins s σ H x v vl vu lo hi sl Q I rx Y pl pu h;obtain ⟨a,xs,rfl,W,Z,q⟩:=h;cases rx;obtain ⟨its,r,U,hz⟩:=I.tuple W;have O:its.toArray.size=xs.length:=by rw [qb2];exact r.length.symm
 refine ⟨"tuple",_,qf3.lookup,U.typeIs,?_⟩;exact HT.qq U Y pl pu (by rw [O];exact Z) ⟨.ref a,H,I,rfl,q⟩
def uO:Dt->Option Int->Option Int->Option T
 | .tup l,lo,hi=>if HT.sIx l.length 0 lo=0/\HT.sIx l.length l.length hi=l.length then some (.leaf (.tup l)) else some (.leaf (.tup (ou l lo hi)))
 | x,lo,hi=>gSl x lo hi
def wX (fa:De->Option Dt) (q O:De->Option (Option Int)):De->Option T:=fun δ=>(fa δ).bind fun x=>(q δ).bind fun l=>(O δ).bind fun h=>uO x l h
theorem BW {F H:Hp} {x:Dt} {v:V} {lo hi:Option Int} {Q:VK} {t:T} (O:Same F H) (W:RepB K F H x v) (q:uO x lo hi=some t) (k:KO K F H t Q):zN K v lo hi H Q∨rSlW K v lo hi H Q:=by
 unfold uO at q;split at q
 . rename_i l;split at q
   . rename_i U;cases q;obtain ⟨a,vs,rfl,h1,h2⟩:=W;refine .inr ⟨a,vs,rfl,O.tup h1,by rw [h2.length];exact U,k.leaf.here O ?_⟩;simp only [Rep];exact ⟨a,vs,rfl,h1,h2⟩
   . rename_i U;exact .inl (zO O W (by show (if _ then none else some _)=_;rw [if_neg U];exact q) k)
 . exact .inl (zO O W q k)
theorem r0 {e:Expr} {lo hi:Option Expr} {p2 pos:Pos} {f:De->Option Dt} {fl fh:De->Option (Option Int)} (he:DB X e f) (hl:DP X lo fl) (W:DP X hi fh):DO X (.Subscript e (.Slice lo hi none p2) pos) (wX f fl fh):=PE.mono (my (SlR.or tU wW) he hl W) fun σ H Q ⟨Φ,δ,F,t,Y,Z,q,k⟩=>by unfold wX at q;obtain ⟨x,hx,q⟩:=bS q;obtain ⟨l,hl,q⟩:=bS q;obtain ⟨h,W,q⟩:=bS q;exact ⟨Φ,δ,F,x,Y,Z,hx,fun v H1 F1 s1 r1=>⟨Φ,δ,F1,l,Y,Z.step s1,hl,fun H2 F2 O=>⟨Φ,δ,F2,h,Y,Z.step (s1.trans O),W,fun H3 F3 U=>BW U.fh (r1.step (O.ff.trans U.ff) (O.hh.trans U.hh)) q (k.step ((s1.trans O).trans U))⟩⟩⟩
def uP (K:xA9):R2:=fun x y H Q=>∃ a b z xs,x=.ref a/\y=.ref b/\SqT K H a (z::xs)/\SqT K H b []/\Q (.ref a) H
theorem wY:OpR X (qk1 .Add) (uP X.K):=by
 intro pins s σ H x y v u Q I rx ry h;obtain ⟨a,b,z,xs,rfl,rfl,ha,hb,q⟩:=h;cases rx;cases ry;obtain ⟨its,r1,p1,_⟩:=I.tuple ha;obtain ⟨its2,r2,p2,_⟩:=I.tuple hb;cases r2;obtain ⟨⟨cls,dd,data,sl⟩,ho,hc,n,hd⟩:=id p1;obtain ⟨⟨cls2,Z,Y,sl2⟩,U,W,n2,O⟩:=id p2;simp only at hc hd W O;subst hc hd W O
 exact qy3 ⟨_,ho,rfl⟩ ⟨_,U,rfl⟩ qu4 zb0 PySem.F.slot_tuple_add PySem.F.entry_tuple_add (PySem.F.args_tuple_add_2 _ _)
  (tuple_addW1 a b its.toArray #[] n n2 dd Z sl sl2 (by cases r1;simp) rfl) ⟨ho,U,⟨.ref a,H,I,rfl,q⟩⟩
def kY:Dt->Dt->Option T
 | .tup (d::l),.tup []=>some (.leaf (.tup (d::l)))
 | x,y=>t8 x y
theorem qr:OpR X (qk1 .Add) (fun x y H Q=>(mY X.K x y H Q∨kx X.K x y H Q)∨uP X.K x y H Q):=OpR.or wJ wY
theorem uQ:R2D K (fun x y H Q=>(mY K x y H Q∨kx K x y H Q)∨uP K x y H Q) kY:=by
 intro F H x y vx vy Q t O Z W U k;unfold kY at U;split at U
 . rename_i d l;cases U;obtain ⟨a,vs,rfl,h1,h2⟩:=Z;obtain ⟨b,ws,rfl,h3,Y⟩:=W;simp only [Reps] at Y;subst Y;have q:=h2;simp only [Reps] at q;obtain ⟨v,us,rfl,_,_⟩:=q;refine .inr ⟨a,b,v,us,rfl,rfl,O.tup h1,O.tup h3,k.leaf.here O ?_⟩;simp only [Rep];exact ⟨a,_,rfl,h1,h2⟩
 . exact .inl (zS F H _ _ vx vy Q t O Z W U k)
theorem uR (l:Addr) (n:Nat) (q:Option Addr) (sl:Array (Option Value)) (x:Int) (u:Tok) (h1:1<x) (h2:x<=1000) :
  Meets (qh5.«tuple.__mul__» ⟨[.ref l,.int x u],[]⟩) (fun _ R s=>s.heap.get? l=some {cls:=.type "tuple",dict:=q,data:=.seq #[] n,slots:=sl}/\R (.ok (.ret (qf1 l))) s):=
 .of_wp fun prog w A R s h=>by obtain ⟨hp,g,d,tk,O⟩:=s;obtain ⟨U,h⟩:=h;wp_walk;refine qn4 (by rw [decide_eq_false (by lia:¬ x < -2^63),decide_eq_false (by lia:¬ x ≥ 2^63)];rfl) ?_;wp_walk;exact ⟨_,rfl,h⟩
def uS (K:xA9):R2:=fun x y H Q=>∃ a k,x=.ref a/\y=.int k/\SqT K H a []/\1<k/\k<=1000/\Q (.ref a) H
theorem wZ:OpR X (qk1 .Mult) (uS X.K):=by
 intro pins s σ H x y v u Q I rx ry h;obtain ⟨a,k,rfl,rfl,hT,h1,h2,q⟩:=h;cases rx;obtain ⟨t,rfl⟩:=ry;obtain ⟨its,r,pl,hz⟩:=I.tuple hT;obtain ⟨⟨cls,Y,W,sl⟩,O,hc,n,Z⟩:=id pl;simp only at hc Z;subst hc Z;cases r
 exact qy8 (T:="tuple") (U:="int") (by decide) ⟨_,O,rfl⟩ (fun s'=>zf1 s' k t) fB F.fills_int_mul qx1 qa F.slot_int_index.lookup
  (qv8 qx1 (zf1 s k t) F.entry_int_rmul (F.args_int_rmul_2 _ _) (m6 k t a #[] n Y sl)
   ⟨O,rfl,⟨_,O,rfl⟩,qv8 qu7 ⟨_,O,rfl⟩ F.entry_tuple_mul (F.args_tuple_mul_2 _ _) (uR a n Y sl k t h1 h2) ⟨O,⟨.ref a,H,I,rfl,q⟩⟩⟩)
def kZ:Dt->Dt->Option T
 | .tup [],.int k=>if 1<k/\k<=1000 then some (.leaf (.tup [])) else none
 | x,y=>t9 x y
theorem w4:OpR X (qk1 .Mult) (fun x y H Q=>uS X.K x y H Q∨qb X.K x y H Q):=OpR.or wZ wO
theorem Ak:R2D K (fun x y H Q=>uS K x y H Q∨qb K x y H Q) kZ:=by
 intro F H x y vx vy Q t U Y W O k;unfold kZ at O;split at O
 . split at O<;>cases O
   rename_i Z;obtain ⟨a,vs,rfl,h1,h2⟩:=Y;have q:=h2;simp only [Reps] at q;subst q;cases W;refine .inl ⟨a,_,rfl,rfl,U.tup h1,Z.1,Z.2,k.leaf.here U ?_⟩;simp only [Rep];exact ⟨a,_,rfl,h1,h2⟩
 . exact .inr (zU F H _ _ vx vy Q t U Y W O k)
end
abbrev Hk3:=Str×Int×Bool
def h3 (k:Hk3):Dt:=.tup [.str k.1,.int k.2.1,.bl k.2.2]
def lU:Dt->Option Hk3
 | .tup [.str a,.int b,.bl c]=>some (a,b,c)
 | _=>none
theorem qt {d:Dt} {k:Hk3} (h:lU d=some k):d=h3 k:=by
 unfold lU at h;split at h<;>cases h
 rfl
theorem nv:∀ {l:List Dt} {ks:List Hk3},l.mapM lU=some ks->l=ks.map h3
 | [],ks,h=>by simp at h;subst h;rfl
 | d::ds,ks,h=>by simp only [List.mapM_cons,qx3,qo1,Option.pure_def,qp8] at h;obtain ⟨k,hk,r,q,rfl⟩:=h;rw [qt hk,nv q];rfl
theorem uT (a b:Hk3):peq (h3 a) (h3 b)=decide (a=b):=by
 obtain ⟨Z,W,q⟩:=a;obtain ⟨U,Y,O⟩:=b;show peqs [.str Z,.int W,.bl q] [.str U,.int Y,.bl O]=_;simp only [peqs,peq];rw [qh2];simp
 try (cases q<;>cases O<;>simp)
def rInS (K:xA9):R2:=fun x y H Q=>∃ (p:Addr) (vs:List V) (q:List Hk3) (ks:Hk3),y=.ref p/\SqT K H p vs/\Reps K H (q.map h3) vs/\Rep K H (h3 ks) x/\Q (.bl (decide (ks∈q))) H
section
variable {X:Cx} {pins:List (Addr×Obj)} {s:qa4} {σ:St} {H:Hp}
open Classical in
theorem BX {A:qd5} {vs:List V} {its:List Value} {q:List Hk3} {ks:Hk3} {x:V} {u:Value} (I:Inv X pins σ H s) (hu:A.units+1<cLine) (r:Vals vs its) (Z:Reps X.K H (q.map h3) vs) (hx:Rep X.K H (h3 ks) x) (rx:RelV x u) :
  ∃ e:Value->Bool,(∀ y,y∈its.toArray->qf7 A s y u (e y))/\its.toArray.any e=decide (ks∈q):=by
 have Y:∀ y∈its,∃ (k:Hk3) (v:V),k∈q/\Rep X.K H (h3 k) v/\RelV v y:=fun y O=>by obtain ⟨j,W,rfl⟩:=qx5 O;obtain ⟨d,v,h1,h2,h3⟩:=bX Z r W;rw [qb4] at h1;obtain ⟨k,hk,rfl⟩:=mS h1;exact ⟨k,v,qc7 hk,h2,h3⟩
 have one:∀ {y:Value} {k k':Hk3} {v U:V},Rep X.K H (h3 k) v->RelV v y->Rep X.K H (h3 k') U->RelV U y->k=k':=fun {y k k' v U} a1 a2 b1 b2=>by have:=a2.inj b2;subst this;have:=i0 I _ _ _ a1 b1;rw [uT] at this;exact of_decide_eq_true this
 refine ⟨fun y=>decide (∃ v,Rep X.K H (h3 ks) v/\RelV v y/\ks∈q/\y∈its),fun y O=>?_,?_⟩
 . have O:y∈its:=by simpa using O
   obtain ⟨k,v,hk,h1,h2⟩:=Y y O;have e:=tH I 1 (A:=A) (d:=h3 k) (e:=h3 ks) (by show deeps _+1<=1;exact nL _) hu (by rfl) h1 hx h2 rx;rw [uT] at e
   have:decide (k=ks)=decide (∃ v,Rep X.K H (h3 ks) v/\RelV v y/\ks∈q/\y∈its):=by
    rw [decide_eq_decide];constructor
    . intro z;subst z;exact ⟨v,h1,h2,hk,O⟩
    . rintro ⟨U,g1,g2,_,_⟩;exact one h1 h2 g1 g2
   rw [this] at e;exact e
 . rw [qh2];simp only [List.any_toArray,List.any_eq_true,decide_eq_true_eq];constructor
   . rintro ⟨y,_,v,_,_,h,_⟩;exact h
   . intro h;obtain ⟨j,W,e⟩:=qx5 h
     have hl:j<its.length:=by rw [<- r.length,Z.length,qa1];exact W
     obtain ⟨d,v,h1,h2,h3⟩:=bX Z r hl;rw [qb4,gQ W,e] at h1;cases h1;exact ⟨its[j],qi7 hl,v,h2,h3,h,qi7 hl⟩
theorem Al {k:Nat} (hr:Room k X.A) (U:X.K=K):OpR X (qg4 .In) (rInS K):=by subst U;intro pins s σ H x y v u Q I rx O h;obtain ⟨p,vs,Z,ks,rfl,Y,h1,h2,q⟩:=h;cases O;obtain ⟨its,r,pl,hz⟩:=I.tuple Y;have hu:=hr.units;obtain ⟨e,h3,W⟩:=BX (A:=X.A.in1) I (show X.A.in1.units+1<cLine by have:X.A.in1.units<=X.A.units+1:=(by first | exact nL _ | exact qx0 _);lia) r h1 h2 rx;refine SeqAt.in_tupleAt e pl h3 ⟨.bl _,H,I,rfl,?_⟩;rw [W];exact q
end
def lV:Dt->Dt->Option T
 | x,.tup l=>(lU x).bind fun ks=>(l.mapM lU).map fun q=>.leaf (.bl (decide (ks∈q)))
 | _,_=>none
theorem BY:R2D K (rInS K) lV:=by
 intro F H x y vx vy Q t O Z Y q k;unfold lV at q;split at q<;>first | (cases q;done) | skip
 rename_i l;obtain ⟨ks,hk,q⟩:=bS q;obtain ⟨U,W,q⟩:=mS q;cases q;have e1:=qt hk;have e2:=nv W;subst e1 e2;obtain ⟨a,vs,rfl,h1,h2⟩:=Y;exact ⟨a,vs,U,ks,rfl,O.tup h1,h2.same O,Z.rep O,k.bl O⟩
section
variable {X:Cx}
end
section
variable {P:qc8} {u:World} {A:qd5} {R:Result->qa4->Prop} {I:Addr} {fp wr:List Addr} {n:Nat} {Pv:Nat->Value->Prop} {St:Nat->Heap->Prop}
end
section
variable {P:qc8} {u:World} {A:qd5} {E:Value->qa4->Prop} {s:qa4} {l:Addr} {xs:Array (Int×Tok)} {d:Value}
end
section
variable {X:Cx} {e:Expr} {pos p kp kq:Pos} {sc:Scope} {fs:De->Option (List Dt)} {d:Int} {t:TA} {i:Nat}
end
open PySem
section
variable {K:Type} [DecidableEq K]
end
section
variable {X:Cx} {K:Type} [DecidableEq K] [Inhabited K] {κ:SK X.prog X.w K}
end
section
variable {X:Cx} {e:Expr} {pos pos2 p p2:Pos} {sc:Scope} {fs:De->Option (List Dt)}
end
section
variable {X:Cx} {e o:Expr} {es:List Expr} {fo:De->Option Dt} {fs:De->Option (List Dt)} {apos cpos pos:Pos}
end
section
variable {X:Cx}
end
seal L2.PE L2.PS L2.PSs L2.PT L2.PW L2.PA L2.PI L2.PG L2.PTs L2.PO L2.PGs L2.cL L2.OpR L2.IxR L2.SlR L2.MtR L2.UnR L2.DO L2.DL L2.DB L2.DT L2.DW L2.DS L2.DS1 L2.R2D L2.CRD L2.MRD L2.DG L2.DGs L2.DIF L2.DIB L2.DTs L2.DP
theorem el1 {α:Type} {p:List α->Prop} (h:∀ a,p [a]):∀ us:List α,us.length=1->p us
 | [a],_=>h a
theorem el2 {α:Type} {p:List α->Prop} (h:∀ a b,p [a,b]):∀ us:List α,us.length=2->p us
 | [a,b],_=>h a b
theorem el3 {α:Type} {p:List α->Prop} (h:∀ a b c,p [a,b,c]):∀ us:List α,us.length=3->p us
 | [a,b,c],_=>h a b c
theorem el4 {α:Type} {p:List α->Prop} (h:∀ a b c d,p [a,b,c,d]):∀ us:List α,us.length=4->p us
 | [a,b,c,d],_=>h a b c d
theorem el5 {α:Type} {p:List α->Prop} (h:∀ a b c d e,p [a,b,c,d,e]):∀ us:List α,us.length=5->p us
 | [a,b,c,d,e],_=>h a b c d e
end L2
namespace P34
open PySem L2
def top (i:Nat):Stmt:=PySem.Challenge.pw_dimhouse_k34_whole_spoilt_by_a_way.main.body.getD i (.Pass ⟨0,0,0,0⟩)
noncomputable section
def dw:Dt:=(.str "fresh")
def lW:Dt:=(.str "safe")
def jK:Dt:=(.str "seen")
def g7:Dt:=(.str "spoilt")
def y1:List Dt->Option T:=b8 2 ((aA (sIf (tB2 (iW fun i j=>decide (i<j)) (vB 1) (toD (ao du (aa (vB 0) ak)))) (bq (d2 aq (vB 0) (vB 1))) bZ) (bq (toT (kD (.int 0))))))
noncomputable def z53:De->Option Out:=(aA (aP 3 (toT (toD (d2 dO (toD (d2 bD (toD (d2 bD (toD (d2 iU (vB 3) (vB 3))) (toD (d2 iU (kD (.int 69621)) (vB 3))))) (vB 4))) (kD (.int 2147483629))))))
  (aA (aP 3 (toT (toD (d2 dO (toD (d2 bD (toD (d2 bD (toD (d2 iU (vB 3) (kD (.int 16807)))) (toD (d2 iU (kD (.int 7919)) (vB 4))))) (vB 1))) (kD (.int 2147483587))))))
  (aP 2 (toT (toD (d2 bD (toD (d2 iU (vB 2) (kD (.int 2147483587)))) (vB 3)))))))
noncomputable def q21:List Dt->Option T:=b8 5 ((aA (aP 2 (toT (kD (.int 0))))
  (aA (aP 3 (toT (toD (d2 bD (toD (d2 bD (toD (d2 dO (vB 0) (kD (.int 2147483629)))) (toD (d2 iU (kD (.int 48271)) (vB 1))))) (kD (.int 11))))))
  (aA (d4 (fu iu (aa (kD (.int 15)) ak)) (ay 4) z53)
  (ku 2)))))
noncomputable def y13:List Dt->Option T:=b8 2 ((aA (sIf (tB2 (gEq false) (toD (d2 dO (toD (ao y1 (aa (vL 0) (aa (kD (.int 0)) ak)))) (kD (.int 2)))) (kD (.int 0))) (bq (ao y1 (aa (vL 0) (aa (vL 1) ak)))) bZ) (bq (ao q21 (aa (toD (ao y1 (aa (vL 0) (aa (vL 1) ak)))) (aa (vL 1) ak))))))
def y52:De->Option Bool:=(tB2 (gEq false) (toD (d2 dO (toD (d2 cN (vB 2) (toD (d2 o0 (kD (.int 1)) (vB 0))))) (kD (.int 2)))) (kD (.int 1)))
def y54:De->Option Dt:=(toD (d2 aq (vB 1) (vB 0)))
def q26:List Dt->Option T:=b8 2 ((bq (ao fz (aa (toD (bP [none,some 0,some 1] (fu iu (aa (toD (ao du (aa (vB 0) ak))) ak)) (ay 0) y52 y54)) ak))))
noncomputable def y28:De->Option Out:=(aA (sIf (tB2 (gEq false) (toD (d2 dO (toD (ao y1 (aa (vL 0) (aa (kD (.int 0)) ak)))) (kD (.int 2)))) (kD (.int 1))) (aA (aP 3 (toT (toD (ao q21 (aa (vL 3) (aa (vL 7) ak))))))
  (aP 5 (toT (toD (d2 aq (toD (bL (aa (kD (.int 2)) (aa (kD (.int 4)) (aa (kD (.int 8)) ak))))) (toD (d2 dO (toD (d2 cN (toD (ao y1 (aa (vL 0) (aa (kD (.int 0)) ak)))) (kD (.int 6)))) (kD (.int 3))))))))) bZ)
  (aA (sIf (tB2 (gEq false) (toD (d2 dO (vB 3) (vB 5))) (kD (.int 1))) (q14 6 (toD (bG (aa (vL 7) (aa (toD (ao q26 (aa (vL 2) (aa (toD (d2 cN (vB 3) (vB 5))) ak)))) ak))))) bZ)
  (aP 3 (toT (toD (d2 cN (toD (d2 cN (vB 3) (vB 5))) (toD (d2 o0 (kD (.int 1)) (toD (ao du (aa (vB 2) ak)))))))))))
noncomputable def y11:List Dt->Option T:=b8 8 ((aA (aP 3 (toT (toD (ao y13 (aa (vL 0) (aa (kD (.int 4)) ak))))))
  (aA (aP 4 (toT (toD (ao q26 (aa (vL 2) (aa (vL 3) ak))))))
  (aA (aP 3 (toT (toD (d2 cN (vB 3) (toD (d2 o0 (kD (.int 1)) (toD (ao du (aa (vB 2) ak)))))))))
  (aA (aP 5 (toT (kD (.int 2))))
  (aA (aP 6 (bL ak))
  (aA (d4 (fu iu (aa (toD (ao du (aa (toD (d2 aq (vB 1) (kD (.int 2)))) ak))) ak)) (ay 7) y28)
  (bq (bG (aa (vL 4) (aa (toD (ao fz (aa (vB 6) ak))) ak)))))))))))
noncomputable def y12:List Dt->Option T:=b8 2 ((aA (sIf (tB2 (gEq false) (toD (d2 aq (toD (d2 aq (vB 0) (vB 1))) (kD (.int 0)))) (kD (.str "end"))) (bq (bL ak)) bZ)
  (aA (sIf (tB2 (gEq false) (toD (d2 aq (toD (d2 aq (vB 0) (vB 1))) (kD (.int 0)))) (kD (.str "go"))) (bq (bL (aa (toD (d2 aq (toD (d2 aq (vB 0) (vB 1))) (kD (.int 1)))) ak))) bZ)
  (aA (sIf (tB2 (gEq false) (toD (d2 aq (toD (d2 aq (vB 0) (vB 1))) (kD (.int 0)))) (kD (.str "if"))) (bq (bL (aa (toD (d2 aq (toD (d2 aq (vB 0) (vB 1))) (kD (.int 2)))) (aa (toD (d2 bD (vB 1) (kD (.int 1)))) ak)))) bZ)
  (bq (bL (aa (toD (d2 bD (vB 1) (kD (.int 1)))) ak)))))))
def z36:List Dt->Option T:=b8 1 ((bq (lz (toD (mU "int" (vB 0))) (zH (toD (mU "bool" (vB 0)))))))
def y39:De->Option Dt:=(toD (ao z36 (aa (vL 0) ak)))
noncomputable def z27:De->Option Out:=(sIf (fOr (tB2 (bA false) (toD (d2 aq (vB 2) (vB 3))) (vB 1)) (tB2 (bA true) (toD (d2 aq (vB 2) (vB 3))) (toD (ao y12 (aa (vL 0) (aa (toD (d2 aq (vB 2) (toD (d2 fw (vB 3) (kD (.int 1)))))) ak)))))) (bq (toT (kD (.bl false)))) bZ)
noncomputable def q15:List Dt->Option T:=b8 4 ((aA (sIf (fOr (iS (dN (toD (mU "list" (vB 2))))) (fOr (tB2 (gEq false) (vB 2) (toD (bL ak))) (iS (dN (toD (ao (wC fun bs=>bs.all id) (aa (toD (bP [none] (fIt (vB 2)) (ay 0) dm y39)) ak))))))) (bq (toT (kD (.bl false)))) bZ)
  (aA (sIf (dl (tB2 (gEq true) (toD (d2 aq (vB 2) (kD (.int 0)))) (kD (.int 0))) (tB2 (bA true) (toD (d2 aq (vB 2) (kD (.int 0)))) (vB 1))) (bq (toT (kD (.bl false)))) bZ)
  (aA (d4 (fu wn (aa (kD (.int 1)) (aa (toD (ao du (aa (vB 2) ak))) ak))) (ay 3) z27)
  (bq (toT (kD (.bl true))))))))
def q57:De->Option Bool:=(tB2 (bA true) (vB 0) (vB 1))
noncomputable def y29:De->Option Out:=(aA (uM 6 5)
  (sIf (tB2 (bA true) (vB 6) (vB 4)) (aA (rE 4 (vB 6) (kD (.bl true)))
  (sIf (fOr (tB2 (gEq true) (toD (d2 aq (toD (d2 aq (vB 0) (vB 6))) (kD (.int 0)))) (kD (.str "store"))) (tB2 (gEq true) (toD (d2 aq (toD (d2 aq (vB 0) (vB 6))) (kD (.int 1)))) (vB 3))) (q48 5 (bP [none,some 1] (fIt (toD (ao y12 (aa (vL 0) (aa (vL 6) ak))))) (ay 0) q57 (vL 0))) bZ)) bZ))
def z29:De->Option Bool:=(tB2 (iW fun i j=>decide (j<i)) (toD (ao du (aa (vB 5) ak))) (kD (.int 0)))
def q12:List Dt->Option T:=b8 7 ((aA (aP 4 tZ)
  (aA (aP 5 (ao tW (aa (vB 2) ak)))
  (aA (bt z29 y29 100000)
  (bq (ao cI (aa (vB 4) ak)))))))
def z74:De->Option Bool:=(tB2 (bA true) (vB 0) (vB 1))
noncomputable def q28:De->Option Out:=(sIf (dl (tB2 (bA false) (toD (d2 aq (toD (d2 aq (vB 0) (vB 4))) (kD (.int 0)))) (toD (bG (aa (kD (.str "load")) (aa (kD (.str "take")) ak))))) (tB2 (gEq false) (toD (d2 aq (toD (d2 aq (vB 0) (vB 4))) (kD (.int 2)))) (vB 2))) (q48 3 (bP [none,some 1] (fIt (toD (ao y12 (aa (vL 0) (aa (vL 4) ak))))) (ay 0) z74 (vL 0))) bZ)
noncomputable def z42:De->Option Out:=(sIf (dl (tB2 (bA false) (toD (d2 aq (toD (d2 aq (vB 0) (vB 4))) (kD (.int 0)))) (toD (bG (aa (kD (.str "store")) (aa (kD (.str "lay")) ak))))) (tB2 (gEq false) (toD (d2 aq (toD (d2 aq (vB 0) (vB 4))) (kD (.int 1)))) (vB 2))) (bq (toT (kD (.bl true)))) bZ)
noncomputable def y25:List Dt->Option T:=b8 5 ((aA (aP 3 (bL ak))
  (aA (d4 (fIt (toD (ao q12 (aa (vL 0) (aa (vL 1) (aa (toD (d2 bD (toD (bL (aa (kD (.int 0)) ak))) (toD (ao cI (aa (vB 1) ak))))) (aa (vL 2) ak))))))) (ay 4) q28)
  (aA (rn 3 (d4 (fIt (toD (ao q12 (aa (vL 0) (aa (vL 1) (aa (vL 3) (aa (kD (.str "")) ak))))))) (ay 4) z42))
  (bq (toT (kD (.bl false))))))))
def y43:De->Option Out:=(aA (q14 2 (toD (d2 dO (vB 0) (vB 3)))) (aP 0 (toT (toD (d2 cN (vB 0) (vB 3))))))
def z8:List Dt->Option T:=b8 4 ((aA (aP 2 (bL ak))
  (aA (d4 (fIt (vL 1)) (ay 3) y43)
  (ku 2))))
def z37:De->Option Dt:=(toD (d2 aq (vB 1) (toD (d2 aq (vB 2) (toD (d2 bD (kD (.int 1)) (vB 0)))))))
noncomputable def z38:De->Option Out:=(aP 5 (toT (toD (d2 bD (toD (vSl (vB 5) pZ (mQ (toD (rC (kD (.int 1))))))) (toD (d2 aq (vB 2) (toD (d2 dO (toD (d2 bD (toD (kA dQ (vB 2) (aa (toD (d2 aq (vB 5) (toD (rC (kD (.int 1)))))) ak))) (kD (.int 1)))) (kD (.int 26))))))))))
def z22:De->Option Bool:=(tB2 (bA false) (vB 5) (vB 3))
noncomputable def q37:De->Option Out:=(aA (aP 4 (toT (toD (ao z8 (aa (vL 0) (aa (toD (bL (aa (kD (.int 6)) (aa (kD (.int 26)) (aa (kD (.int 26)) (aa (kD (.int 26)) (aa (kD (.int 26)) (aa (kD (.int 26)) (aa (kD (.int 26)) ak))))))))) ak))))))
  (aA (aP 5 (toT (toD (kA gq (kD (.str "")) (aa (toD (bP [none,some 2,some 4] (fu iu (aa (toD (d2 bD (kD (.int 1)) (toD (d2 aq (vB 4) (kD (.int 0)))))) ak)) (ay 0) dm z37)) ak)))))
  (aA (aP 0 (toT (toD (d2 cN (vB 0) (toD (d2 iU (kD (.int 6)) (toD (d2 iV (kD (.int 26)) (kD (.int 6))))))))))
  (aA (bt z22 z38 100000)
  (q14 3 (vL 5))))))
def q22:De->Option Bool:=(tB2 (iW fun i j=>decide (i<j)) (toD (ao du (aa (vB 3) ak))) (vB 1))
def z23:List Dt->Option T:=b8 6 ((aA (aP 2 (toT (kD (.str "abcdefghijklmnopqrstuvwxyz"))))
  (aA (aP 3 (bL ak))
  (aA (bt q22 q37 100000)
  (ku 3)))))
noncomputable def y47:De->Option Out:=(aA (q14 6 (toD (bG (aa (toD (d2 aq (vB 5) (vB 7))) (aa (toD (d2 dO (vB 1) (toD (d2 iV (kD (.int 2)) (kD (.int 40)))))) (aa (toD (d2 (gEq false) (toD (d2 dO (toD (d2 cN (vB 1) (toD (d2 iV (kD (.int 2)) (kD (.int 40)))))) (kD (.int 2)))) (kD (.int 1)))) ak)))))) (aP 1 (toT (toD (d2 cN (vB 1) (toD (d2 iV (kD (.int 2)) (kD (.int 41)))))))))
noncomputable def z48:De->Option Out:=(aA (q14 8 (toD (bG (aa (toD (d2 aq (vB 5) (toD (d2 bD (kD (.int 8)) (vB 7))))) (aa (toD (d2 bD (kD (.int 1)) (toD (d2 dO (vB 1) (kD (.int 8)))))) (aa (toD (d2 (gEq false) (toD (d2 dO (toD (d2 cN (vB 1) (kD (.int 8)))) (kD (.int 2)))) (kD (.int 1)))) ak)))))) (aP 1 (toT (toD (d2 cN (vB 1) (kD (.int 16)))))))
noncomputable def z18:List Dt->Option T:=b8 9 ((aA (aP 1 (toT (toD (ao y13 (aa (vL 0) (aa (kD (.int 3)) ak))))))
  (aA (oo (toD (ao z8 (aa (vL 1) (aa (toD (bL (aa (kD (.int 9)) (aa (kD (.int 5)) (aa (kD (.int 12)) ak))))) ak)))) (mZ 3 (br (ay 2) (br (ay 3) (br (ay 4) gn)))))
  (aA (aP 1 (toT (toD (d2 cN (vB 1) (kD (.int 540))))))
  (aA (aP 5 (toT (toD (ao z23 (aa (toD (ao y13 (aa (vL 0) (aa (toD (d2 aq (toD (bL (aa (kD (.int 1)) (aa (kD (.int 1)) (aa (kD (.int 2)) ak))))) (toD (d2 dO (toD (d2 cN (toD (ao y1 (aa (vL 0) (aa (kD (.int 0)) ak)))) (kD (.int 2)))) (kD (.int 3)))))) ak)))) (aa (kD (.int 12)) ak))))))
  (aA (aP 6 (bL ak))
  (aA (d4 (fu iu (aa (vL 2) ak)) (ay 7) y47)
  (aA (aP 8 (bL ak))
  (aA (d4 (fu iu (aa (vL 3) ak)) (ay 7) z48)
  (bq (bG (aa (toD (ao z23 (aa (toD (ao y13 (aa (vL 0) (aa (kD (.int 2)) ak)))) (aa (toD (d2 bD (kD (.int 1)) (vB 4))) ak)))) (aa (toD (ao fz (aa (vB 6) ak))) (aa (toD (ao fz (aa (vB 8) ak))) (aa (vL 1) ak)))))))))))))))
def z52:De->Option Dt:=(toD (d2 aq (vB 0) (kD (.int 0))))
noncomputable def z16:List Dt->Option T:=b8 5 ((aA (oo (toD (ao z18 (aa (vL 0) ak))) (j0 4 (br (ay 1) (br (ay 2) (br (ay 3) (br (ay 4) gn)))))) (bq (ao g5 (aa (toD (d2 bD (toD (d2 bD (vB 1) (toD (bP [none] (fIt (toD (wX (vB 2) pZ (mQ (kD (.int 1)))))) (ay 0) dm z52)))) (toD (bL (aa (kD (.str "zz")) ak))))) ak)))))
def z57:De->Option Out:=(aP 0 (toT (toD (d2 cN (vB 0) (vB 14)))))
noncomputable def q44:List Dt->Option T:=b8 19 ((aA (oo (vL 1) (j0 4 (br (ay 3) (br (ay 4) (br (ay 5) (br (ay 6) gn))))))
  (aA (aP 7 (toT (toD (bL (aa (kD (.int 11)) (aa (toD (ao du (aa (vB 3) ak))) (aa (toD (ao oR (aa (kD (.int 1)) (aa (toD (ao du (aa (vB 4) ak))) ak)))) (aa (toD (ao oR (aa (kD (.int 1)) (aa (toD (ao du (aa (vB 5) ak))) ak)))) (aa (kD (.int 8)) (aa (vL 2) ak))))))))))
  (aA (oo (toD (ao z8 (aa (vL 0) (aa (vL 7) ak)))) (mZ 6 (br (ay 8) (br (ay 9) (br (ay 10) (br (ay 11) (br (ay 12) (br (ay 13) gn))))))))
  (aA (d4 (fIt (vL 7)) (ay 14) z57)
  (aA (aP 15 (toT (toD (ao z8 (aa (vL 0) (aa (toD (bL (aa (toD (d2 bD (toD (ao du (aa (vB 3) ak))) (kD (.int 1)))) (aa (toD (d2 iV (kD (.int 2)) (kD (.int 40)))) (aa (toD (d2 bD (toD (ao du (aa (vB 3) ak))) (kD (.int 1)))) (aa (toD (d2 iV (kD (.int 2)) (kD (.int 40)))) ak)))))) ak))))))
  (aA (aP 16 (toT (toD (d2 aq (toD (d2 bD (vB 3) (toD (bL (aa (toD (d2 aq (vB 15) (kD (.int 1)))) ak))))) (toD (d2 aq (vB 15) (kD (.int 0))))))))
  (aA (aP 17 (toT (toD (d2 aq (toD (d2 bD (vB 3) (toD (bL (aa (toD (d2 aq (vB 15) (kD (.int 3)))) ak))))) (toD (d2 aq (vB 15) (kD (.int 2))))))))
  (aA (sIf (dl (tB2 (bA false) (vB 8) (toD (bG (aa (kD (.int 2)) (aa (kD (.int 3)) ak))))) (tB2 (gEq true) (vB 4) (toD (bG ak)))) (bq (d2 aq (toD (bL (aa (toD (bG (aa (kD (.str "load")) (aa (toD (d2 aq (vB 3) (vB 9))) (aa (toD (d2 aq (toD (d2 aq (vB 4) (vB 10))) (kD (.int 0)))) ak))))) (aa (toD (bG (aa (kD (.str "store")) (aa (toD (d2 aq (toD (d2 aq (vB 4) (vB 10))) (kD (.int 0)))) (aa (vL 16) ak))))) ak)))) (toD (d2 fw (vB 8) (kD (.int 2)))))) bZ)
  (aA (sIf (dl (tB2 (bA false) (vB 8) (toD (bG (aa (kD (.int 4)) (aa (kD (.int 5)) ak))))) (tB2 (gEq true) (vB 5) (toD (bG ak)))) (bq (d2 aq (toD (bL (aa (toD (bG (aa (kD (.str "take")) (aa (toD (d2 aq (vB 3) (vB 9))) (aa (toD (d2 aq (toD (d2 aq (vB 5) (vB 11))) (kD (.int 0)))) (aa (vL 16) ak)))))) (aa (toD (bG (aa (kD (.str "lay")) (aa (toD (d2 aq (toD (d2 aq (vB 5) (vB 11))) (kD (.int 0)))) (aa (vL 16) (aa (vL 17) ak)))))) ak)))) (toD (d2 fw (vB 8) (kD (.int 4)))))) bZ)
  (aA (sIf (tB2 (gEq false) (vB 8) (kD (.int 1))) (bq (bG (aa (kD (.str "op")) (aa (toD (d2 aq (vB 3) (vB 9))) (aa (toD (d2 aq (kD (.str "+-*<=&|^")) (vB 12))) (aa (vL 16) (aa (vL 17) ak))))))) bZ)
  (aA (aP 18 (toT (toD (bL (aa (toD (bG (aa (kD (.str "hear")) (aa (toD (d2 aq (vB 3) (vB 9))) ak)))) (aa (toD (bG (aa (kD (.str "say")) (aa (vL 16) ak)))) (aa (toD (bG (aa (kD (.str "if")) (aa (vL 16) (aa (vL 13) ak))))) (aa (toD (bG (aa (kD (.str "go")) (aa (vL 13) ak)))) (aa (toD (bG (aa (kD (.str "end")) (aa (vL 16) ak)))) ak)))))))))
  (aA (sIf (tB2 (iW fun i j=>decide (j<i)) (vB 8) (kD (.int 5))) (bq (d2 aq (vB 18) (toD (d2 fw (vB 8) (kD (.int 6)))))) bZ)
  (bq (bG (aa (kD (.str "copy")) (aa (toD (d2 aq (vB 3) (vB 9))) (aa (vL 16) ak))))))))))))))))))
def z30:De->Option Dt:=(toD (ao q44 (aa (toD (ao y13 (aa (vL 1) (aa (toD (d2 bD (kD (.int 6)) (vB 0))) ak)))) (aa (vL 2) (aa (vL 3) ak)))))
noncomputable def q13:List Dt->Option T:=b8 9 ((aA (aP 2 (toT (toD (ao z18 (aa (vL 0) ak)))))
  (aA (aP 3 (toT (toD (ao oR (aa (kD (.int 1)) (aa (toD (ao wL (aa (toD (d2 fw (toD (ao du (aa (vB 0) ak))) (kD (.int 5)))) (aa (toD (d2 bD (kD (.int 1)) (vB 1))) ak)))) ak))))))
  (aA (aP 4 (bP [none,some 0,some 2,some 3] (fu iu (aa (toD (d2 fw (vB 3) (kD (.int 1)))) ak)) (ay 0) dm z30))
  (aA (oo (toD (ao z8 (aa (toD (d2 aq (vB 2) (kD (.int 3)))) (aa (toD (bL (aa (kD (.int 2)) (aa (vL 3) (aa (toD (d2 bD (toD (ao du (aa (toD (d2 aq (vB 2) (kD (.int 0)))) ak))) (kD (.int 1)))) (aa (toD (d2 iV (kD (.int 2)) (kD (.int 40)))) ak)))))) ak)))) (mZ 4 (br (ay 5) (br (ay 6) (br (ay 7) (br (ay 8) gn))))))
  (aA (q14 4 (toD (d2 aq (toD (bL (aa (toD (bG (aa (kD (.str "end")) (aa (toD (d2 aq (toD (d2 bD (toD (d2 aq (vB 2) (kD (.int 0)))) (toD (bL (aa (vL 8) ak))))) (vB 7))) ak)))) (aa (toD (bG (aa (kD (.str "go")) (aa (vL 6) ak)))) ak)))) (vB 5))))
  (bq (bG (aa (toD (d2 aq (vB 2) (kD (.int 1)))) (aa (toD (d2 aq (vB 2) (kD (.int 2)))) (aa (toD (ao fz (aa (vB 4) ak))) ak)))))))))))
noncomputable def z33:De->Option Bool:=(dl (tB2 (bA false) (toD (d2 aq (toD (d2 aq (vB 1) (toD (d2 aq (vB 2) (vB 0))))) (kD (.int 0)))) (toD (bG (aa (kD (.str "load")) (aa (kD (.str "take")) ak))))) (tB2 (gEq false) (toD (d2 aq (toD (d2 aq (vB 1) (toD (d2 aq (vB 2) (vB 0))))) (kD (.int 2)))) (vB 3)))
noncomputable def y32:De->Option Bool:=(dl (tB2 (bA false) (toD (d2 aq (toD (d2 aq (vB 1) (toD (d2 aq (vB 2) (vB 0))))) (kD (.int 0)))) (toD (bG (aa (kD (.str "store")) (aa (kD (.str "lay")) ak))))) (tB2 (gEq false) (toD (d2 aq (toD (d2 aq (vB 1) (toD (d2 aq (vB 2) (vB 0))))) (kD (.int 1)))) (vB 3)))
noncomputable def q24:List Dt->Option T:=b8 6 ((aA (aP 4 (toT (toD (bP [none,some 0,some 1,some 2] (fu iu (aa (toD (ao du (aa (vB 1) ak))) ak)) (ay 0) z33 (vL 0)))))
  (aA (aP 5 (toT (toD (bP [none,some 0,some 1,some 2] (fu iu (aa (toD (ao du (aa (vB 1) ak))) ak)) (ay 0) y32 (vL 0)))))
  (aA (sIf (fOr (tB2 (gEq false) (vB 5) (toD (bL ak))) (fOr (tB2 (gEq true) (toD (d2 aq (vB 5) (toD (rC (kD (.int 1)))))) (toD (d2 fw (toD (ao du (aa (vB 1) ak))) (kD (.int 1))))) (tB2 (gEq false) (vB 4) (toD (bL ak))))) (bq (toT (kD (.bl false)))) bZ)
  (bq (lz (toD (d2 (iW fun i j=>decide (i<j)) (toD (d2 aq (vB 4) (kD (.int 0)))) (toD (d2 aq (vB 5) (toD (rC (kD (.int 1)))))))) (vOr (vB 3) (d2 (iW fun i j=>decide (i<j)) (toD (d2 aq (vB 4) (kD (.int 0)))) (toD (d2 aq (vB 5) (kD (.int 0))))))))))))
def z68:De->Option Dt:=(toD (d2 aq (vB 0) (kD (.int 0))))
def z26:List Dt->Option T:=b8 1 ((bq (bP [none] (fIt (toD (d2 aq (vB 0) (kD (.int 1))))) (ay 0) dm z68)))
noncomputable def q60:List Dt->Option T:=b8 2 ((aA (sIf (tB2 (gEq false) (toD (d2 aq (vB 1) (kD (.int 0)))) (kD (.str "go"))) (bq (bG (aa (toD (d2 aq (vB 1) (kD (.int 1)))) ak))) bZ)
  (aA (sIf (tB2 (gEq false) (toD (d2 aq (vB 1) (kD (.int 0)))) (kD (.str "if"))) (bq (bG (aa (toD (d2 aq (vB 1) (kD (.int 2)))) (aa (toD (d2 bD (vB 0) (kD (.int 1)))) ak)))) bZ)
  (aA (sIf (tB2 (gEq false) (toD (d2 aq (vB 1) (kD (.int 0)))) (kD (.str "end"))) (bq (bG ak)) bZ)
  (bq (bG (aa (toD (d2 bD (vB 0) (kD (.int 1)))) ak)))))))
def q90:De->Option Dt:=(toD (ao q60 (aa (vL 0) (aa (vL 1) ak))))
def jL:List Dt->Option T:=b8 1 ((bq (bP [none,none] (fu p8 (aa (toD (d2 aq (vB 0) (kD (.int 2)))) ak)) (j0 2 (br (ay 0) (br (ay 1) gn))) dm q90)))
def q65:De->Option Bool:=(tB2 (bA true) (vB 0) (vB 1))
def y48:De->Option Dt:=(toD (bP [none,some 1] (fIt (vB 0)) (ay 0) q65 (vL 0)))
def q23:List Dt->Option T:=b8 3 ((aA (aP 2 (toT (toD (ao z26 (aa (vL 1) ak))))) (bq (bP [none,some 2] (fIt (toD (ao jL (aa (vL 0) ak)))) (ay 0) dm y48))))
noncomputable def z24:List Dt->Option T:=b8 3 ((aA (sIf (dl (tB2 (gEq false) (vB 0) (kD dw)) (dl (tB2 (bA false) (toD (d2 aq (vB 1) (kD (.int 0)))) (toD (bG (aa (kD (.str "load")) (aa (kD (.str "take")) ak))))) (tB2 (gEq false) (toD (d2 aq (vB 1) (kD (.int 2)))) (vB 2)))) (bq (toT (kD jK))) bZ)
  (aA (sIf (dl (tB2 (gEq false) (vB 0) (kD dw)) (dl (tB2 (gEq false) (toD (d2 aq (vB 1) (kD (.int 0)))) (kD (.str "store"))) (tB2 (gEq false) (toD (d2 aq (vB 1) (kD (.int 1)))) (vB 2)))) (bq (toT (kD lW))) bZ)
  (aA (sIf (dl (tB2 (gEq false) (vB 0) (kD jK)) (dl (tB2 (bA false) (toD (d2 aq (vB 1) (kD (.int 0)))) (toD (bG (aa (kD (.str "store")) (aa (kD (.str "lay")) ak))))) (tB2 (gEq false) (toD (d2 aq (vB 1) (kD (.int 1)))) (vB 2)))) (bq (toT (kD g7))) bZ)
  (ku 0)))))
def y60:De->Option Bool:=(iS (dN (toD (d2 aq (vB 0) (kD (.int 2))))))
def q61:De->Option Dt:=(toD (d2 aq (vB 0) (kD (.int 0))))
def q20:List Dt->Option T:=b8 1 ((bq (bP [none] (fIt (toD (d2 kY (toD (d2 aq (vB 0) (kD (.int 0)))) (toD (d2 aq (vB 0) (kD (.int 1))))))) (ay 0) y60 q61)))
def q94:De->Option Out:=(aA (q14 2 (vL 3)) (aP 3 (toT (toD (d2 rZ (vB 0) (vB 3))))))
def z94:De->Option Bool:=(tB2 (gIs true) (vB 3) (kD .non))
def z79:List Dt->Option T:=b8 4 ((aA (aP 2 (bL ak))
  (aA (aP 3 (toT (vL 1)))
  (aA (bt z94 q94 100000)
  (bq (vLR (vB 2)))))))
def z95 (G:Orc):De->Option Out:=(jJ 3 (vB 4) (kD .non))
def y96 (G:Orc):De->Option Out:=(sIf (uK (vB 8) (vB 3)) (aA (jJ 3 (vB 8) (vL 7)) (q14 5 (vL 8))) bZ)
noncomputable def q96 (G:Orc):De->Option Out:=(aA (aP 7 (toT (toD (d2 aq (vB 5) (vB 6)))))
  (aA (rD (fun i j=>i+j) 6 (kD (.int 1)))
  (aA (sIf (dN (toD (vCl G 2 (aa (vL 7) ak)))) (rn 3 (bq (ao z79 (aa (vL 3) (aa (vL 7) ak))))) bZ)
  (d4 (fIt (toD (vCl G 1 (aa (vL 7) ak)))) (ay 8) (y96 G)))))
def q95 (G:Orc):De->Option Bool:=(tB2 (iW fun i j=>decide (i<j)) (vB 6) (toD (ao du (aa (vB 5) ak))))
def y76 (G:Orc):Dt->Addr->Addr->Hp->Option T:=rK 9 ((aA (aP 3 oY)
  (aA (d4 (fIt (vL 0)) (ay 4) (z95 G))
  (aA (aP 5 (ao cI (aa (vB 3) ak)))
  (aA (aP 6 (toT (kD (.int 0))))
  (aA (bt (q95 G) (q96 G) 100000)
  (bq (toT (kD .non)))))))))
def q55:De->Option Dt:=(toD (bG (aa (vL 0) (aa (vL 1) ak))))
noncomputable def bH:De->Option Out:=(aA (aP 1 (toT (toD (ao z24 (aa (toD (d2 aq (vB 0) (kD (.int 1)))) (aa (toD (d2 aq (vB 3) (toD (d2 aq (vB 0) (kD (.int 0)))))) (aa (vL 2) ak))))))) (bq (vIf (tB2 (gEq false) (vB 1) (kD lW)) (bL ak) (bP [none,some 1] (fIt (toD (d2 aq (vB 4) (toD (d2 aq (vB 0) (kD (.int 0))))))) (ay 0) dm q55))))
def bI:De->Option Out:=(bq (d2 (gEq false) (toD (ao z24 (aa (toD (d2 aq (vB 0) (kD (.int 1)))) (aa (toD (d2 aq (vB 2) (toD (d2 aq (vB 0) (kD (.int 0)))))) (aa (vL 1) ak))))) (kD g7)))
def q82:De->Option Dt:=(toD (bG (aa (vL 0) (aa (kD dw) ak))))
def q56:De->Option Dt:=(toD (bP [none] (fIt (toD (d2 bD (toD (bL (aa (kD (.int 0)) ak))) (toD (ao z26 (aa (vL 1) ak)))))) (ay 0) dm q82))
def z80:De->Option Dt:=(toD (d2 aq (vB 0) (kD (.int 0))))
noncomputable def y26:List Dt->Option T:=b8 8 ((aA (sIf (tB2 (bA true) (vB 2) (toD (ao q20 (aa (vL 0) ak)))) (bq (toT (kD .non))) bZ)
  (aA (aP 3 (toT (toD (d2 aq (vB 0) (kD (.int 2))))))
  (aA (aP 4 (toT (toD (ao q23 (aa (vL 0) (aa (vL 1) ak))))))
  (fun δ=>(aA (aP 7 (fRt [2,3,4] [2,3] ["place","mark","name","rows","inner"] ["place","name","rows"] bH bI q56 y76))
  (bq (vIf (tB2 (gIs false) (vB 7) (kD .non)) (toT (kD .non)) (bP [none] (fIt (vB 7)) (ay 0) dm z80)))) (oH 5 6 δ))))))
def y64:De->Option Out:=(rE 4 (vB 5) (kD (.bl true)))
noncomputable def z63:De->Option Out:=(aA (aP 7 (ao y26 (aa (vL 1) (aa (vL 3) (aa (toD (d2 aq (vB 6) (kD (.int 0)))) ak))))) (sIf (tB2 (gIs false) (vB 7) (kD .non)) (sIf (dl (iS (dN (toD (d2 aq (vB 6) (kD (.int 2)))))) (dN (toD (cF y25 (aa (vB 2) (aa (vB 4) (aa (toD (d2 aq (vB 6) (kD (.int 0)))) ak))))))) (bq (toT (kD (.bl false)))) bZ) (sIf (fOr (dN (toD (d2 aq (vB 6) (kD (.int 2))))) (iS (dN (toD (cF q15 (aa (vB 2) (aa (vB 4) (aa (vB 7) ak)))))))) (bq (toT (kD (.bl false)))) (sIf (iS (dN (toD (cF q24 (aa (vB 2) (aa (vB 7) (aa (toD (d2 aq (vB 6) (kD (.int 0)))) (aa (toD (d2 lV (vB 6) (toD (d2 aq (vB 1) (kD (.int 1)))))) ak)))))))) (bq (toT (kD (.bl false)))) (q14 7 (kD (.int 0)))))))
noncomputable def qu:List Dt->Option T:=b8 8 ((aA (aP 1 (toT (toD (ao q13 (aa (vL 0) (aa (kD (.int 57)) ak))))))
  (aA (aP 2 (toT (toD (d2 aq (vB 1) (kD (.int 2))))))
  (aA (aP 3 (toT (toD (ao y11 (aa (vL 0) (aa (vL 1) (aa (toD (ao z16 (aa (vL 0) ak))) ak)))))))
  (aA (aP 4 tZ)
  (aA (d4 (fIt (toD (d2 aq (vB 3) (kD (.int 1))))) (j0 2 (br (ay 5) (br (ay 6) gn))) y64)
  (aA (d4 (fIt (toD (d2 kZ (toD (d2 kY (toD (d2 aq (vB 1) (kD (.int 0)))) (toD (d2 aq (vB 1) (kD (.int 1)))))) (kD (.int 2))))) (ay 6) z63)
  (bq (lz (toD (d2 (gEq false) (vB 1) (toD (ao q13 (aa (vL 0) (aa (kD (.int 57)) ak)))))) (d2 (gEq false) (vB 3) (toD (ao y11 (aa (vL 0) (aa (vL 1) (aa (toD (ao z16 (aa (vL 0) ak))) ak)))))))))))))))
end
structure Txt (P:qc8) (w:World) (K:xA9) (mg:Str->Option Value):Prop where
 n_all:mg "all"=none
 n_bool:mg "bool"=none
 n_enumerate:mg "enumerate"=none
 n_int:mg "int"=none
 n_isinstance:mg "isinstance"=none
 n_len:mg "len"=none
 n_list:mg "list"=none
 n_max:mg "max"=none
 n_min:mg "min"=none
 n_range:mg "range"=none
 n_reversed:mg "reversed"=none
 n_set:mg "set"=none
 n_sorted:mg "sorted"=none
 n_tuple:mg "tuple"=none
 g_B:kz K mg "FRESH" dw
 g_C:kz K mg "SAFE" lW
 g_D:kz K mg "SEEN" jK
 g_A:kz K mg "SPOILT" g7
 is:oW K=true
 k_bool:gp K "bool"
 k_int:gp K "int"
 k_list:gp K "list"
variable {X:Cx} {pos:Pos} {sc:Scope} {N:List Str} {x:Str}
theorem dsN {e:Expr} {f:De->Option T} {i:Nat} {pos':Pos} (h:cz sc N=true) (Y:N.Nodup) (q:DO X e f) (e0:N[i]?=some x:=by rfl) (e1:bV X sc:=by rfl) (W:X.N=N:=by rfl) (O:X.fn x=true∨X.env.scope.names.lookup x=some .local:=by exact .inl rfl) (U:qm0 e (some (.Name x pos')) pos.line X.env=pure false:=by rfl):DS1 X (.Assign [.Name x pos'] e pos) (aP i f):=tM (nsN h i e0) (nsL h i e0) Y q e1 W O U
theorem doC {p:Pos} {iter elt:Expr} {ifs:List Expr} {scope:Scope} {src:List (Option Nat)} {fi:De->Option (List Dt)} {ft:De->Option Bool} {fe:De->Option Dt} (M:List Str) (h:(tu X.N X.env.scope scope M src&&cu (jj scope X.env.scope) M 0 x&&loOk (jj scope X.env.scope) x&&decide (src[0]?=some none))=true) (hi:DIB X (.Name x p) iter fi) (U:∀ C s H ex,DTs (cxC X M scope C s H ex) ifs ft) (Y:∀ C s H ex,DL (cxC X M scope C s H ex) elt fe) (O:X.calm=true:=by rfl) (q:∀ x,qh6 iter X.env x=pure x:=by intro _;rfl):DO X (.ListComp elt [⟨.Name x p,iter,ifs,0⟩] scope pos) (bP src fi (ay 0) ft fe):=by simp only [qb1] at h;exact lH (ts:=[0]) (CmpScope.of h.1.1.1) O hi (fun W C s H ex=>aG (dB h.1.1.2 h.1.2 W (scC rfl))) U Y (by simp only [qo3,zi3,qs4];exact h.2) q
theorem fnS {P:List Str} (h:N.Nodup/\N.take P.length=P/\(∀ x∈P,sc.names.lookup x=some .local∨sc.names.lookup x=some .cell)/\∀ y∈sc.names,y.2≠.free) (a:sc.kind=.function:=by rfl) (b:sc.isCoroutine=false:=by rfl) (c:sc.isGenerator=false:=by rfl):FnScope N P sc:=⟨a,b,c,h.1,h.2.1,h.2.2.1,h.2.2.2⟩
section
variable {P:qc8} {w:World} {K:xA9} {mg:Str->Option Value} {base:Heap}
abbrev y21:Stmt:=top 16
theorem y80:FnScope ["_law_script","_law_k"] ["_law_script","_law_k"] (ac y21):=fnS (by decide +kernel)
theorem cA:cz (ac y21) ["_law_script","_law_k"]=true:=by decide +kernel
theorem y70:aE (ac y21) "len"=true:=by decide +kernel
theorem z83 (T:Txt P w K mg) (D:DefF K mg "_law_cell_at" y21 ["_law_script","_law_k"]):OkF P w K mg base "_law_cell_at" 1 ["_law_script","_law_k"] (spD K 2 y1):=
 b7 D y80 rfl fun f cdv A outer s H E q=>(ah (bz (aS mx jv (ae (pvN 1 cA)) (DO.toB (aW y70 bj cY T.n_len bQ (aw (ae (pvN 0 cA)) aJ))) (aL _)) (av (aI (aj q (ae (pvN 0 cA)) (ae (pvN 1 cA))))) bo)
     (av (aI (DL.toO ag))))
abbrev z31:Stmt:=top 17
theorem y22:FnScope ["_law_cell","_law_k","_law_found","_law_number","_law_j"] ["_law_cell","_law_k"] (ac z31):=fnS (by decide +kernel)
theorem aK:cz (ac z31) ["_law_cell","_law_k","_law_found","_law_number","_law_j"]=true:=by decide +kernel
theorem z72:aE (ac z31) "range"=true:=by decide +kernel
theorem z90 (T:Txt P w K mg) (D:DefF K mg "_law_rich" z31 ["_law_cell","_law_k"]):OkF P w K mg base "_law_rich" 1 ["_law_cell","_law_k"] (spD K 2 q21):=
 b7 D y22 rfl fun f cdv A outer s H E q=>(ah (dsN aK y22.nd (DL.toO ag))
     (ah (dsN aK y22.nd (DL.toO (DO.toL (au aT bE (DO.toB (au aT bE (DO.toB (au cB dF (ae (pvN 0 aK)) (DL.toB ag))) (DO.toB (au gh jt (DL.toB ag) (ae (pvN 1 aK)))))) (DL.toB ag)))))
     (ah (c8 qd7 rfl (cg z72 T.n_range (ab ag ai)) (aG (aF (nsN aK 4) (nsL aK 4) y22.nd)) (ah (dsN aK y22.nd (DL.toO (DO.toL (au cB dF (DO.toB (au aT bE (DO.toB (au aT bE (DO.toB (au gh jt (ae (pvN 3 aK)) (ae (pvN 3 aK)))) (DO.toB (au gh jt (DL.toB ag) (ae (pvN 3 aK)))))) (ae (pvN 4 aK)))) (DL.toB ag)))))
     (ah (dsN aK y22.nd (DL.toO (DO.toL (au cB dF (DO.toB (au aT bE (DO.toB (au aT bE (DO.toB (au gh jt (ae (pvN 3 aK)) (DL.toB ag))) (DO.toB (au gh jt (DL.toB ag) (ae (pvN 4 aK)))))) (ae (pvN 1 aK)))) (DL.toB ag)))))
     (av (dsN aK y22.nd (DL.toO (DO.toL (au aT bE (DO.toB (au gh jt (ae (pvN 2 aK)) (DL.toB ag))) (ae (pvN 3 aK))))))))))
     (av (i5 (pvN 2 aK))))))
abbrev q30:Stmt:=top 18
theorem z92:FnScope ["_law_script","_law_k"] ["_law_script","_law_k"] (ac q30):=fnS (by decide +kernel)
theorem cO:cz (ac q30) ["_law_script","_law_k"]=true:=by decide +kernel
theorem y23:aE (ac q30) "_law_cell_at"=true:=by decide +kernel
theorem y63:aE (ac q30) "_law_rich"=true:=by decide +kernel
theorem y92 (T:Txt P w K mg) (D:DefF K mg "_law_big" q30 ["_law_script","_law_k"]) (q:OkF P w K mg base "_law_cell_at" 1 ["_law_script","_law_k"] (spD K 2 (y1))) (U:OkF P w K mg base "_law_rich" 1 ["_law_cell","_law_k"] (spD K 2 (q21))):OkF P w K mg base "_law_big" 2 ["_law_script","_law_k"] (spD K 2 y13):=
 b7 D z92 rfl fun f cdv A outer s H E O=>(ah (bz (aS (bi O) cE (DO.toB (au cB dF (DO.toB (ax y23 q (O.mono (by decide)) (ab (ap (pvN 0 cO)) (ab ag ai)))) (DL.toB ag))) (DL.toB ag) (aL _)) (av (aI (ax y23 q (O.mono (by decide)) (ab (ap (pvN 0 cO)) (ab (ap (pvN 1 cO)) ai))))) bo)
     (av (aI (ax y63 U (O.mono (by decide)) (ab (DO.toL (ax y23 q (O.mono (by decide)) (ab (ap (pvN 0 cO)) (ab (ap (pvN 1 cO)) ai)))) (ab (ap (pvN 1 cO)) ai))))))
abbrev y20:Stmt:=top 24
theorem z91:FnScope ["_law_pool_here","_law_number"] ["_law_pool_here","_law_number"] (ac y20):=fnS (by decide +kernel)
theorem lX:cz (ac y20) ["_law_pool_here","_law_number"]=true:=by decide +kernel
theorem y78:aE (ac y20) "len"=true:=by decide +kernel
theorem z75:aE (ac y20) "range"=true:=by decide +kernel
theorem z73:aE (ac y20) "tuple"=true:=by decide +kernel
theorem q91 (T:Txt P w K mg) (D:DefF K mg "_law_some" y20 ["_law_pool_here","_law_number"]):OkF P w K mg base "_law_some" 1 ["_law_pool_here","_law_number"] (spD K 2 q26):=b7 D z91 rfl fun f cdv A outer s H E q=>(av (aI (cW z73 cr gW T.n_tuple eZ (aw (DO.toB (doC ["_law_j","_law_pool_here","_law_number"] (by kernel_rfl) (DIF.toB (cg z75 T.n_range (ab (DO.toL (aW y78 bj cY T.n_len bQ (aw (ae (pvN 0 lX)) aJ))) ai))) (fun _ _ _ _=>eD (aS (bi q) cE (DO.toB (au cB dF (DO.toB (au bF cH (ae (pvX (by kernel_rfl))) (DO.toB (au lT uN (DL.toB ag) (ae (pvX (by kernel_rfl))))))) (DL.toB ag))) (DL.toB ag) (aL _))) (fun _ _ _ _=>(DO.toL (aj q (ae (pvX (by kernel_rfl))) (ae (pvX (by kernel_rfl)))))))) aJ))))
abbrev z11:Stmt:=top 25
theorem z13:FnScope ["_law_script","_law_program_here","_law_pool_here","_law_number","_law_begin","_law_share","_law_keeps","_law_at"] ["_law_script","_law_program_here","_law_pool_here"] (ac z11):=fnS (by decide +kernel)
theorem am:cz (ac z11) ["_law_script","_law_program_here","_law_pool_here","_law_number","_law_begin","_law_share","_law_keeps","_law_at"]=true:=by decide +kernel
theorem y56:aE (ac z11) "_law_big"=true:=by decide +kernel
theorem y33:aE (ac z11) "_law_some"=true:=by decide +kernel
theorem z32:aE (ac z11) "len"=true:=by decide +kernel
theorem z62:aE (ac z11) "range"=true:=by decide +kernel
theorem y27:aE (ac z11) "_law_cell_at"=true:=by decide +kernel
theorem z56:aE (ac z11) "_law_rich"=true:=by decide +kernel
theorem y62:aE (ac z11) "tuple"=true:=by decide +kernel
theorem q81 (T:Txt P w K mg) (D:DefF K mg "_law_cutting" z11 ["_law_script","_law_program_here","_law_pool_here"]) (Y:OkF P w K mg base "_law_big" 2 ["_law_script","_law_k"] (spD K 2 (y13))) (O:OkF P w K mg base "_law_cell_at" 1 ["_law_script","_law_k"] (spD K 2 (y1))) (W:OkF P w K mg base "_law_rich" 1 ["_law_cell","_law_k"] (spD K 2 (q21))) (U:OkF P w K mg base "_law_some" 1 ["_law_pool_here","_law_number"] (spD K 2 (q26))):OkF P w K mg base "_law_cutting" 3 ["_law_script","_law_program_here","_law_pool_here"] (spD K 3 y11):=
 b7 D z13 rfl fun f cdv A outer s H E q=>(ah (dsN am z13.nd (DL.toO (DO.toL (ax y56 Y (q.mono (by decide)) (ab (ap (pvN 0 am)) (ab ag ai))))))
     (ah (dsN am z13.nd (DL.toO (DO.toL (ax y33 U (q.mono (by decide)) (ab (ap (pvN 2 am)) (ab (ap (pvN 3 am)) ai))))))
     (ah (dsN am z13.nd (DL.toO (DO.toL (au bF cH (ae (pvN 3 am)) (DO.toB (au lT uN (DL.toB ag) (DO.toB (aW z32 bj cY T.n_len bQ (aw (ae (pvN 2 am)) aJ)))))))))
     (ah (dsN am z13.nd (DL.toO ag))
     (ah (dsN am z13.nd (bh ai))
     (ah (c8 qd7 rfl (cg z62 T.n_range (ab (DO.toL (aW z32 bj cY T.n_len bQ (aw (DO.toB (aj q (ae (pvN 1 am)) (DL.toB ag))) aJ))) ai)) (aG (aF (nsN am 7) (nsL am 7) z13.nd)) (ah (bz (aS (bi q) cE (DO.toB (au cB dF (DO.toB (ax y27 O (q.mono (by decide)) (ab (ap (pvN 0 am)) (ab ag ai)))) (DL.toB ag))) (DL.toB ag) (aL _)) (ah (dsN am z13.nd (DL.toO (DO.toL (ax z56 W (q.mono (by decide)) (ab (ap (pvN 3 am)) (ab (ap (pvN 7 am)) ai))))))
     (av (dsN am z13.nd (DL.toO (DO.toL (aj q (DO.toB (bh (ab ag (ab ag (ab ag ai))))) (DO.toB (au cB dF (DO.toB (au bF cH (DO.toB (ax y27 O (q.mono (by decide)) (ab (ap (pvN 0 am)) (ab ag ai)))) (DL.toB ag))) (DL.toB ag))))))))) bo)
     (ah (bz (aS (bi q) cE (DO.toB (au cB dF (ae (pvN 3 am)) (ae (pvN 5 am)))) (DL.toB ag) (aL _)) (av (ci (pvN 6 am) (DO.toL (aY (ab (ap (pvN 7 am)) (ab (DO.toL (ax y33 U (q.mono (by decide)) (ab (ap (pvN 2 am)) (ab (DO.toL (au bF cH (ae (pvN 3 am)) (ae (pvN 5 am)))) ai)))) ai)))))) bo)
     (av (dsN am z13.nd (DL.toO (DO.toL (au bF cH (DO.toB (au bF cH (ae (pvN 3 am)) (ae (pvN 5 am)))) (DO.toB (au lT uN (DL.toB ag) (DO.toB (aW z32 bj cY T.n_len bQ (aw (ae (pvN 2 am)) aJ)))))))))))))
     (av (aI (aY (ab (ap (pvN 4 am)) (ab (DO.toL (cW y62 cr gW T.n_tuple eZ (aw (ae (pvN 6 am)) aJ))) ai)))))))))))
abbrev z34:Stmt:=top 27
theorem q88:FnScope ["_law_rows","_law_at"] ["_law_rows","_law_at"] (ac z34):=fnS (by decide +kernel)
theorem be:cz (ac z34) ["_law_rows","_law_at"]=true:=by decide +kernel
theorem q89 (T:Txt P w K mg) (D:DefF K mg "_law_exits" z34 ["_law_rows","_law_at"]):OkF P w K mg base "_law_exits" 1 ["_law_rows","_law_at"] (spD K 2 y12):=
 b7 D q88 rfl fun f cdv A outer s H E q=>(ah (bz (aS (bi q) cE (DO.toB (aj q (DO.toB (aj q (ae (pvN 0 be)) (ae (pvN 1 be)))) (DL.toB ag))) (DL.toB aU) (aL _)) (av (aI (bh ai))) bo)
     (ah (bz (aS (bi q) cE (DO.toB (aj q (DO.toB (aj q (ae (pvN 0 be)) (ae (pvN 1 be)))) (DL.toB ag))) (DL.toB aU) (aL _)) (av (aI (bh (ab (DO.toL (aj q (DO.toB (aj q (ae (pvN 0 be)) (ae (pvN 1 be)))) (DL.toB ag))) ai)))) bo)
     (ah (bz (aS (bi q) cE (DO.toB (aj q (DO.toB (aj q (ae (pvN 0 be)) (ae (pvN 1 be)))) (DL.toB ag))) (DL.toB aU) (aL _)) (av (aI (bh (ab (DO.toL (aj q (DO.toB (aj q (ae (pvN 0 be)) (ae (pvN 1 be)))) (DL.toB ag))) (ab (DO.toL (au aT bE (ae (pvN 1 be)) (DL.toB ag))) ai))))) bo)
     (av (aI (bh (ab (DO.toL (au aT bE (ae (pvN 1 be)) (DL.toB ag))) ai)))))))
abbrev z19:Stmt:=top 28
theorem z89:FnScope ["_law_found"] ["_law_found"] (ac z19):=fnS (by decide +kernel)
theorem f8:cz (ac z19) ["_law_found"]=true:=by decide +kernel
theorem q35:aE (ac z19) "isinstance"=true:=by decide +kernel
theorem q73:aE (ac z19) "bool"=true:=by decide +kernel
theorem z77:aE (ac z19) "int"=true:=by decide +kernel
theorem z87 (T:Txt P w K mg) (D:DefF K mg "_law_whole" z19 ["_law_found"]):OkF P w K mg base "_law_whole" 1 ["_law_found"] (spD K 1 z36):=b7 D z89 rfl fun f cdv A outer s H E q=>(av (aI (om (DO.toB (ix q35 z77 T.n_isinstance T.n_int zC T.k_int (ae (pvN 0 f8)))) (lD (zI (DO.toB (ix q35 q73 T.n_isinstance T.n_bool wf T.k_bool (ae (pvN 0 f8)))))))))
abbrev y9:Stmt:=top 29
theorem y57:FnScope ["_law_rows","_law_keeps","_law_way","_law_k"] ["_law_rows","_law_keeps","_law_way"] (ac y9):=fnS (by decide +kernel)
theorem aB:cz (ac y9) ["_law_rows","_law_keeps","_law_way","_law_k"]=true:=by decide +kernel
theorem y66:aE (ac y9) "all"=true:=by decide +kernel
theorem y51:aE (ac y9) "isinstance"=true:=by decide +kernel
theorem y65:aE (ac y9) "list"=true:=by decide +kernel
theorem q67:aE (ac y9) "len"=true:=by decide +kernel
theorem y61:aE (ac y9) "range"=true:=by decide +kernel
theorem q51:aE (ac y9) "_law_exits"=true:=by decide +kernel
theorem q79 (T:Txt P w K mg) (D:DefF K mg "_law_is_piece" y9 ["_law_rows","_law_keeps","_law_way"]) (U:OkF P w K mg base "_law_exits" 1 ["_law_rows","_law_at"] (spD K 2 (y12))) (O:OkF P w K mg base "_law_whole" 1 ["_law_found"] (spD K 1 (z36))):OkF P w K mg base "_law_is_piece" 2 ["_law_rows","_law_keeps","_law_way"] (spD K 3 q15):=
 b7 D y57 rfl fun f cdv A outer s H E q=>(ah (bz (DW.t (jo (ir (cT (DO.toB (ix y51 y65 T.n_isinstance T.n_list fM T.k_list (ae (pvN 2 aB)))) (fun _=>rfl))) (jo (aS (bi q) cE (ae (pvN 2 aB)) (DO.toB (bh ai)) (aL _)) (jn (ir (cT (DO.toB (aW y66 (tp rfl) (BP (f:=fun bs=>bs.all id)) T.n_all zA (aw (DO.toB (doC ["_law_at"] (by kernel_rfl) (cX (ae (pvN 2 aB))) (fun _ _ _ _=>dh) (fun _ _ _ _=>(DO.toL (ax (by decide +kernel) O (q.mono (by decide)) (ab (ap (pvX (by kernel_rfl))) ai) (e1:=(scC (outer:=ac y9) rfl))))))) aJ))) (fun _=>rfl))))))) (av (aI (DL.toO eN))) bo)
     (ah (bz (DW.t (cV (aS (iw q) rA (DO.toB (aj q (ae (pvN 2 aB)) (DL.toB ag))) (DL.toB ag) (aL _)) (cU (dG q (DO.toB (aj q (ae (pvN 2 aB)) (DL.toB ag))) (ae (pvN 1 aB)))))) (av (aI (DL.toO eN))) bo)
     (ah (c8 qd7 rfl (rp y61 T.n_range (ab ag (ab (DO.toL (aW q67 bj cY T.n_len bQ (aw (ae (pvN 2 aB)) aJ))) ai))) (aG (aF (nsN aB 3) (nsL aB 3) y57.nd)) (av (bz (DW.t (jo (fY q (DO.toB (aj q (ae (pvN 2 aB)) (ae (pvN 3 aB)))) (ae (pvN 1 aB))) (jn (dG q (DO.toB (aj q (ae (pvN 2 aB)) (ae (pvN 3 aB)))) (DO.toB (ax q51 U (q.mono (by decide)) (ab (ap (pvN 0 aB)) (ab (DO.toL (aj q (ae (pvN 2 aB)) (DO.toB (au gd jr (ae (pvN 3 aB)) (DL.toB ag))))) ai)))))))) (av (aI (DL.toO eN))) bo)))
     (av (aI (DL.toO eN))))))
abbrev z17:Stmt:=top 31
theorem q33:FnScope ["_law_rows","_law_keeps","_law_starts","_law_name","_law_seen","_law_left","_law_at"] ["_law_rows","_law_keeps","_law_starts","_law_name"] (ac z17):=fnS (by decide +kernel)
theorem az:cz (ac z17) ["_law_rows","_law_keeps","_law_starts","_law_name","_law_seen","_law_left","_law_at"]=true:=by decide +kernel
theorem q42:aE (ac z17) "list"=true:=by decide +kernel
theorem z69:aE (ac z17) "len"=true:=by decide +kernel
theorem z54:aE (ac z17) "_law_exits"=true:=by decide +kernel
theorem z81 (T:Txt P w K mg) (D:DefF K mg "_law_reached" z17 ["_law_rows","_law_keeps","_law_starts","_law_name"]) (O:OkF P w K mg base "_law_exits" 1 ["_law_rows","_law_at"] (spD K 2 (y12))):OkF P w K mg base "_law_reached" 2 ["_law_rows","_law_keeps","_law_starts","_law_name"] (spD K 4 q12):=
 b7 D q33 rfl fun f cdv A outer s H E q=>(ah (dsN az q33.nd p6)
     (ah (dsN az q33.nd (cW q42 lq zP T.n_list fM (aw (ae (pvN 2 az)) aJ)))
     (ah (fm 100000 qd7 (aS xK jv (DO.toB (aW z69 bj cY T.n_len bQ (aw (ae (pvN 5 az)) aJ))) (DL.toB ag) (aL _)) (ah (Ai (nsN az 6) (nsL az 6) q33.nd (pvN 5 az))
     (av (bz (dG q (ae (pvN 6 az)) (ae (pvN 4 az))) (ah (t0 q (pvN 4 az) (ae (pvN 6 az)) eN)
     (av (bz (DW.t (jo (aS (iw q) rA (DO.toB (aj q (DO.toB (aj q (ae (pvN 0 az)) (ae (pvN 6 az)))) (DL.toB ag))) (DL.toB aU) (aL _)) (jn (aS (iw q) rA (DO.toB (aj q (DO.toB (aj q (ae (pvN 0 az)) (ae (pvN 6 az)))) (DL.toB ag))) (ae (pvN 3 az)) (aL _))))) (av (kU (pvN 5 az) (doC ["_law_to","_law_keeps"] (by kernel_rfl) (cX (DO.toB (ax z54 O (q.mono (by decide)) (ab (ap (pvN 0 az)) (ab (ap (pvN 6 az)) ai))))) (fun _ _ _ _=>eD (dG q (ae (pvX (by kernel_rfl))) (ae (pvX (by kernel_rfl))))) (fun _ _ _ _=>(ap (pvX (by kernel_rfl))))))) bo))) bo))))
     (av (aI (cW q42 (gt rfl) lS T.n_list fM (aw (ae (pvN 4 az)) aJ)))))))
abbrev y24:Stmt:=top 32
theorem y49:FnScope ["_law_rows","_law_keeps","_law_name","_law_starts","_law_at"] ["_law_rows","_law_keeps","_law_name"] (ac y24):=fnS (by decide +kernel)
theorem aC:cz (ac y24) ["_law_rows","_law_keeps","_law_name","_law_starts","_law_at"]=true:=by decide +kernel
theorem z78:aE (ac y24) "list"=true:=by decide +kernel
theorem y35:aE (ac y24) "_law_reached"=true:=by decide +kernel
theorem q62:aE (ac y24) "_law_exits"=true:=by decide +kernel
theorem q93 (T:Txt P w K mg) (D:DefF K mg "_law_may" y24 ["_law_rows","_law_keeps","_law_name"]) (U:OkF P w K mg base "_law_exits" 1 ["_law_rows","_law_at"] (spD K 2 (y12))) (O:OkF P w K mg base "_law_reached" 2 ["_law_rows","_law_keeps","_law_starts","_law_name"] (spD K 4 (q12))):OkF P w K mg base "_law_may" 3 ["_law_rows","_law_keeps","_law_name"] (spD K 3 y25):=
 b7 D y49 rfl fun f cdv A outer s H E q=>(ah (dsN aC y49.nd (bh ai))
     (ah (c8 qd7 rfl (fq (DO.toL (ax y35 O (q.mono (by decide)) (ab (ap (pvN 0 aC)) (ab (ap (pvN 1 aC)) (ab (DO.toL (au aT bE (DO.toB (bh (ab ag ai))) (DO.toB (cW z78 (gt rfl) lS T.n_list fM (aw (ae (pvN 1 aC)) aJ))))) (ab (ap (pvN 2 aC)) ai))))))) (aG (aF (nsN aC 4) (nsL aC 4) y49.nd)) (av (bz (DW.t (cV (fY q (DO.toB (aj q (DO.toB (aj q (ae (pvN 0 aC)) (ae (pvN 4 aC)))) (DL.toB ag))) (DO.toB (aY (ab aU (ab aU ai))))) (cU (aS (bi q) cE (DO.toB (aj q (DO.toB (aj q (ae (pvN 0 aC)) (ae (pvN 4 aC)))) (DL.toB ag))) (ae (pvN 2 aC)) (aL _))))) (av (kU (pvN 3 aC) (doC ["_law_to","_law_keeps"] (by kernel_rfl) (cX (DO.toB (ax q62 U (q.mono (by decide)) (ab (ap (pvN 0 aC)) (ab (ap (pvN 4 aC)) ai))))) (fun _ _ _ _=>eD (dG q (ae (pvX (by kernel_rfl))) (ae (pvX (by kernel_rfl))))) (fun _ _ _ _=>(ap (pvX (by kernel_rfl))))))) bo)))
     (ah (pV (i:=3) (c8 qd7 rfl (fq (DO.toL (ax y35 O (q.mono (by decide)) (ab (ap (pvN 0 aC)) (ab (ap (pvN 1 aC)) (ab (ap (pvN 3 aC)) (ab aU ai))))))) (aG (aF (nsN aC 4) (nsL aC 4) y49.nd)) (av (bz (DW.t (cV (fY q (DO.toB (aj q (DO.toB (aj q (ae (pvN 0 aC)) (ae (pvN 4 aC)))) (DL.toB ag))) (DO.toB (aY (ab aU (ab aU ai))))) (cU (aS (bi q) cE (DO.toB (aj q (DO.toB (aj q (ae (pvN 0 aC)) (ae (pvN 4 aC)))) (DL.toB ag))) (ae (pvN 2 aC)) (aL _))))) (av (aI (DL.toO eN))) bo))))
     (av (aI (DL.toO eN))))))
abbrev q31:Stmt:=top 19
theorem q39:FnScope ["_law_number","_law_sizes","_law_digits_here","_law_size"] ["_law_number","_law_sizes"] (ac q31):=fnS (by decide +kernel)
theorem aZ:cz (ac q31) ["_law_number","_law_sizes","_law_digits_here","_law_size"]=true:=by decide +kernel
theorem y83 (T:Txt P w K mg) (D:DefF K mg "_law_digits" q31 ["_law_number","_law_sizes"]):OkF P w K mg base "_law_digits" 1 ["_law_number","_law_sizes"] (spD K 2 z8):=
 b7 D q39 rfl fun f cdv A outer s H E q=>(ah (dsN aZ q39.nd (bh ai))
     (ah (c8 qd7 rfl (fq (ap (pvN 1 aZ))) (aG (aF (nsN aZ 3) (nsL aZ 3) q39.nd)) (ah (ci (pvN 2 aZ) (DO.toL (au cB dF (ae (pvN 0 aZ)) (ae (pvN 3 aZ)))))
     (av (dsN aZ q39.nd (DL.toO (DO.toL (au bF cH (ae (pvN 0 aZ)) (ae (pvN 3 aZ)))))))))
     (av (i5 (pvN 2 aZ)))))
abbrev y18:Stmt:=top 20
theorem z20:FnScope ["_law_number","_law_many","_law_letters","_law_found","_law_digits_here","_law_word"] ["_law_number","_law_many"] (ac y18):=fnS (by decide +kernel)
theorem aD:cz (ac y18) ["_law_number","_law_many","_law_letters","_law_found","_law_digits_here","_law_word"]=true:=by decide +kernel
theorem y77:aE (ac y18) "len"=true:=by decide +kernel
theorem y55:aE (ac y18) "_law_digits"=true:=by decide +kernel
theorem q70:aE (ac y18) "range"=true:=by decide +kernel
theorem q87 (T:Txt P w K mg) (D:DefF K mg "_law_names" y18 ["_law_number","_law_many"]) (O:OkF P w K mg base "_law_digits" 1 ["_law_number","_law_sizes"] (spD K 2 (z8))):OkF P w K mg base "_law_names" 2 ["_law_number","_law_many"] (spD K 2 z23):=
 b7 D z20 rfl fun f cdv A outer s H E q=>(ah (dsN aD z20.nd (DL.toO aU))
     (ah (dsN aD z20.nd (bh ai))
     (ah (fm 100000 qd7 (aS mx jv (DO.toB (aW y77 bj cY T.n_len bQ (aw (ae (pvN 3 aD)) aJ))) (ae (pvN 1 aD)) (aL _)) (ah (dsN aD z20.nd (DL.toO (DO.toL (ax y55 O (q.mono (by decide)) (ab (ap (pvN 0 aD)) (ab (DO.toL (bh (ab ag (ab ag (ab ag (ab ag (ab ag (ab ag (ab ag ai))))))))) ai))))))
     (ah (dsN aD z20.nd (DL.toO (DO.toL (wF (DL.toB aU) (aw (DO.toB (doC ["_law_k","_law_letters","_law_digits_here"] (by kernel_rfl) (DIF.toB (cg q70 T.n_range (ab (DO.toL (au aT bE (DL.toB ag) (DO.toB (aj q (ae (pvN 4 aD)) (DL.toB ag))))) ai))) (fun _ _ _ _=>dh) (fun _ _ _ _=>(DO.toL (aj q (ae (pvX (by kernel_rfl))) (DO.toB (aj q (ae (pvX (by kernel_rfl))) (DO.toB (au aT bE (DL.toB ag) (ae (pvX (by kernel_rfl)))))))))))) aJ)))))
     (ah (dsN aD z20.nd (DL.toO (DO.toL (au bF cH (ae (pvN 0 aD)) (DO.toB (au gh jt (DL.toB ag) (DO.toB (au gi ju (DL.toB ag) (DL.toB ag)))))))))
     (ah (fm 100000 qd7 (fY q (ae (pvN 5 aD)) (ae (pvN 3 aD))) (av (dsN aD z20.nd (DL.toO (DO.toL (au aT bE (DO.toB (tV (ae (pvN 5 aD)) p0 (p5 (DO.toB (lJ (DL.toB ag)))))) (DO.toB (aj q (ae (pvN 2 aD)) (DO.toB (au cB dF (DO.toB (au aT bE (DO.toB (uC (ae (pvN 2 aD)) (aw (DO.toB (aj q (ae (pvN 5 aD)) (DO.toB (lJ (DL.toB ag))))) aJ))) (DL.toB ag))) (DL.toB ag)))))))))))
     (av (ci (pvN 3 aD) (ap (pvN 5 aD)))))))))
     (av (i5 (pvN 3 aD))))))
abbrev y15:Stmt:=top 21
theorem z10:FnScope ["_law_script","_law_number","_law_count","_law_more","_law_many","_law_things","_law_cells","_law_k","_law_shelves"] ["_law_script"] (ac y15):=fnS (by decide +kernel)
theorem al:cz (ac y15) ["_law_script","_law_number","_law_count","_law_more","_law_many","_law_things","_law_cells","_law_k","_law_shelves"]=true:=by decide +kernel
theorem q27:aE (ac y15) "_law_big"=true:=by decide +kernel
theorem z55:aE (ac y15) "_law_digits"=true:=by decide +kernel
theorem q53:aE (ac y15) "_law_cell_at"=true:=by decide +kernel
theorem y34:aE (ac y15) "_law_names"=true:=by decide +kernel
theorem z45:aE (ac y15) "range"=true:=by decide +kernel
theorem q45:aE (ac y15) "tuple"=true:=by decide +kernel
theorem y88 (T:Txt P w K mg) (D:DefF K mg "_law_world" y15 ["_law_script"]) (O:OkF P w K mg base "_law_big" 2 ["_law_script","_law_k"] (spD K 2 (y13))) (W:OkF P w K mg base "_law_cell_at" 1 ["_law_script","_law_k"] (spD K 2 (y1))) (Y:OkF P w K mg base "_law_digits" 1 ["_law_number","_law_sizes"] (spD K 2 (z8))) (U:OkF P w K mg base "_law_names" 2 ["_law_number","_law_many"] (spD K 2 (z23))):OkF P w K mg base "_law_world" 3 ["_law_script"] (spD K 1 z18):=
 b7 D z10 rfl fun f cdv A outer s H E q=>(ah (dsN al z10.nd (DL.toO (DO.toL (ax q27 O (q.mono (by decide)) (ab (ap (pvN 0 al)) (ab ag ai))))))
     (ah (jp (DO.toL (ax z55 Y (q.mono (by decide)) (ab (ap (pvN 1 al)) (ab (DO.toL (bh (ab ag (ab ag (ab ag ai))))) ai)))) (oG rfl (aV (aG (aF (nsN al 2) (nsL al 2) z10.nd)) (aV (aG (aF (nsN al 3) (nsL al 3) z10.nd)) (aV (aG (aF (nsN al 4) (nsL al 4) z10.nd)) eC)))))
     (ah (dsN al z10.nd (DL.toO (DO.toL (au bF cH (ae (pvN 1 al)) (DL.toB ag)))))
     (ah (dsN al z10.nd (DL.toO (DO.toL (ax y34 U (q.mono (by decide)) (ab (DO.toL (ax q27 O (q.mono (by decide)) (ab (ap (pvN 0 al)) (ab (DO.toL (aj q (DO.toB (bh (ab ag (ab ag (ab ag ai))))) (DO.toB (au cB dF (DO.toB (au bF cH (DO.toB (ax q53 W (q.mono (by decide)) (ab (ap (pvN 0 al)) (ab ag ai)))) (DL.toB ag))) (DL.toB ag))))) ai)))) (ab ag ai))))))
     (ah (dsN al z10.nd (bh ai))
     (ah (c8 qd7 rfl (cg z45 T.n_range (ab (ap (pvN 2 al)) ai)) (aG (aF (nsN al 7) (nsL al 7) z10.nd)) (ah (ci (pvN 6 al) (DO.toL (aY (ab (DO.toL (aj q (ae (pvN 5 al)) (ae (pvN 7 al)))) (ab (DO.toL (au cB dF (ae (pvN 1 al)) (DO.toB (au gi ju (DL.toB ag) (DL.toB ag))))) (ab (DO.toL (fj (bi q) cE (DO.toB (au cB dF (DO.toB (au bF cH (ae (pvN 1 al)) (DO.toB (au gi ju (DL.toB ag) (DL.toB ag))))) (DL.toB ag))) (DL.toB ag) (aL _))) ai))))))
     (av (dsN al z10.nd (DL.toO (DO.toL (au bF cH (ae (pvN 1 al)) (DO.toB (au gi ju (DL.toB ag) (DL.toB ag))))))))))
     (ah (dsN al z10.nd (bh ai))
     (ah (c8 qd7 rfl (cg z45 T.n_range (ab (ap (pvN 3 al)) ai)) (aG (aF (nsN al 7) (nsL al 7) z10.nd)) (ah (ci (pvN 8 al) (DO.toL (aY (ab (DO.toL (aj q (ae (pvN 5 al)) (DO.toB (au aT bE (DL.toB ag) (ae (pvN 7 al)))))) (ab (DO.toL (au aT bE (DL.toB ag) (DO.toB (au cB dF (ae (pvN 1 al)) (DL.toB ag))))) (ab (DO.toL (fj (bi q) cE (DO.toB (au cB dF (DO.toB (au bF cH (ae (pvN 1 al)) (DL.toB ag))) (DL.toB ag))) (DL.toB ag) (aL _))) ai))))))
     (av (dsN al z10.nd (DL.toO (DO.toL (au bF cH (ae (pvN 1 al)) (DL.toB ag))))))))
     (av (aI (aY (ab (DO.toL (ax y34 U (q.mono (by decide)) (ab (DO.toL (ax q27 O (q.mono (by decide)) (ab (ap (pvN 0 al)) (ab ag ai)))) (ab (DO.toL (au aT bE (DL.toB ag) (ae (pvN 4 al)))) ai)))) (ab (DO.toL (cW q45 cr gW T.n_tuple eZ (aw (ae (pvN 6 al)) aJ))) (ab (DO.toL (cW q45 cr gW T.n_tuple eZ (aw (ae (pvN 8 al)) aJ))) (ab (ap (pvN 1 al)) ai)))))))))))))))
abbrev z21:Stmt:=top 26
theorem q36:FnScope ["_law_script","_law_boxes","_law_cells","_law_shelves","_law_rest"] ["_law_script"] (ac z21):=fnS (by decide +kernel)
theorem bp:cz (ac z21) ["_law_script","_law_boxes","_law_cells","_law_shelves","_law_rest"]=true:=by decide +kernel
theorem y59:aE (ac z21) "_law_world"=true:=by decide +kernel
theorem q69:aE (ac z21) "sorted"=true:=by decide +kernel
theorem q78:aE (ac z21) "set"=true:=by decide +kernel
theorem q92 (T:Txt P w K mg) (D:DefF K mg "_law_pool" z21 ["_law_script"]) (q:OkF P w K mg base "_law_world" 3 ["_law_script"] (spD K 1 (z18))):OkF P w K mg base "_law_pool" 4 ["_law_script"] (spD K 1 z16):=
 b7 D q36 rfl fun f cdv A outer s H E O=>(ah (jp (DO.toL (ax y59 q (O.mono (by decide)) (ab (ap (pvN 0 bp)) ai))) (lE rfl (aV (aG (aF (nsN bp 1) (nsL bp 1) q36.nd)) (aV (aG (aF (nsN bp 2) (nsL bp 2) q36.nd)) (aV (aG (aF (nsN bp 3) (nsL bp 3) q36.nd)) (aV (aG (aF (nsN bp 4) (nsL bp 4) q36.nd)) eC))))))
     (av (aI (oQ q69 q78 rfl T.n_sorted T.n_set (aw (DO.toB (au aT bE (DO.toB (au aT bE (ae (pvN 1 bp)) (DO.toB (doC ["_law_one"] (by kernel_rfl) (cX (DO.toB (r0 (ae (pvN 2 bp)) p0 (p5 (DL.toB ag))))) (fun _ _ _ _=>dh) (fun _ _ _ _=>(DO.toL (aj O (ae (pvX (by kernel_rfl))) (DL.toB ag)))))))) (DO.toB (bh (ab aU ai))))) aJ)))))
abbrev q25:Stmt:=top 22
theorem z9:FnScope ["_law_number","_law_world_here","_law_many","_law_boxes","_law_cells","_law_shelves","_law_rest","_law_sizes","_law_kind","_law_x","_law_c","_law_f","_law_sign","_law_goal","_law_size","_law_atoms","_law_one","_law_other","_law_some_here"] ["_law_number","_law_world_here","_law_many"] (ac q25):=fnS (by decide +kernel)
theorem af:cz (ac q25) ["_law_number","_law_world_here","_law_many","_law_boxes","_law_cells","_law_shelves","_law_rest","_law_sizes","_law_kind","_law_x","_law_c","_law_f","_law_sign","_law_goal","_law_size","_law_atoms","_law_one","_law_other","_law_some_here"]=true:=by decide +kernel
theorem z25:aE (ac q25) "len"=true:=by decide +kernel
theorem z60:aE (ac q25) "max"=true:=by decide +kernel
theorem z39:aE (ac q25) "_law_digits"=true:=by decide +kernel
theorem z93 (T:Txt P w K mg) (D:DefF K mg "_law_row" q25 ["_law_number","_law_world_here","_law_many"]) (O:OkF P w K mg base "_law_digits" 1 ["_law_number","_law_sizes"] (spD K 2 (z8))):OkF P w K mg base "_law_row" 2 ["_law_number","_law_world_here","_law_many"] (spD K 3 q44):=
 b7 D z9 rfl fun f cdv A outer s H E q=>(ah (jp (ap (pvN 1 af)) (lE rfl (aV (aG (aF (nsN af 3) (nsL af 3) z9.nd)) (aV (aG (aF (nsN af 4) (nsL af 4) z9.nd)) (aV (aG (aF (nsN af 5) (nsL af 5) z9.nd)) (aV (aG (aF (nsN af 6) (nsL af 6) z9.nd)) eC))))))
     (ah (dsN af z9.nd (DL.toO (DO.toL (bh (ab ag (ab (DO.toL (aW z25 bj cY T.n_len bQ (aw (ae (pvN 3 af)) aJ))) (ab (DO.toL (aW z60 (iE rfl) uz T.n_max n9 (aw (DL.toB ag) (aw (DO.toB (aW z25 bj cY T.n_len bQ (aw (ae (pvN 4 af)) aJ))) aJ)))) (ab (DO.toL (aW z60 (iE rfl) uz T.n_max n9 (aw (DL.toB ag) (aw (DO.toB (aW z25 bj cY T.n_len bQ (aw (ae (pvN 5 af)) aJ))) aJ)))) (ab ag (ab (ap (pvN 2 af)) ai))))))))))
     (ah (jp (DO.toL (ax z39 O (q.mono (by decide)) (ab (ap (pvN 0 af)) (ab (ap (pvN 7 af)) ai)))) (oG rfl (aV (aG (aF (nsN af 8) (nsL af 8) z9.nd)) (aV (aG (aF (nsN af 9) (nsL af 9) z9.nd)) (aV (aG (aF (nsN af 10) (nsL af 10) z9.nd)) (aV (aG (aF (nsN af 11) (nsL af 11) z9.nd)) (aV (aG (aF (nsN af 12) (nsL af 12) z9.nd)) (aV (aG (aF (nsN af 13) (nsL af 13) z9.nd)) eC))))))))
     (ah (c8 qd7 rfl (fq (ap (pvN 7 af))) (aG (aF (nsN af 14) (nsL af 14) z9.nd)) (av (dsN af z9.nd (DL.toO (DO.toL (au bF cH (ae (pvN 0 af)) (ae (pvN 14 af))))))))
     (ah (dsN af z9.nd (DL.toO (DO.toL (ax z39 O (q.mono (by decide)) (ab (ap (pvN 0 af)) (ab (DO.toL (bh (ab (DO.toL (au aT bE (DO.toB (aW z25 bj cY T.n_len bQ (aw (ae (pvN 3 af)) aJ))) (DL.toB ag))) (ab (DO.toL (au gi ju (DL.toB ag) (DL.toB ag))) (ab (DO.toL (au aT bE (DO.toB (aW z25 bj cY T.n_len bQ (aw (ae (pvN 3 af)) aJ))) (DL.toB ag))) (ab (DO.toL (au gi ju (DL.toB ag) (DL.toB ag))) ai)))))) ai))))))
     (ah (dsN af z9.nd (DL.toO (DO.toL (aj q (DO.toB (au aT bE (ae (pvN 3 af)) (DO.toB (bh (ab (DO.toL (aj q (ae (pvN 15 af)) (DL.toB ag))) ai))))) (DO.toB (aj q (ae (pvN 15 af)) (DL.toB ag)))))))
     (ah (dsN af z9.nd (DL.toO (DO.toL (aj q (DO.toB (au aT bE (ae (pvN 3 af)) (DO.toB (bh (ab (DO.toL (aj q (ae (pvN 15 af)) (DL.toB ag))) ai))))) (DO.toB (aj q (ae (pvN 15 af)) (DL.toB ag)))))))
     (ah (bz (DW.t (cV (fY q (ae (pvN 8 af)) (DO.toB (aY (ab ag (ab ag ai))))) (cU (aS (iw q) rA (ae (pvN 4 af)) (DO.toB (aY ai)) (aL _))))) (av (aI (aj q (DO.toB (bh (ab (DO.toL (aY (ab aU (ab (DO.toL (aj q (ae (pvN 3 af)) (ae (pvN 9 af)))) (ab (DO.toL (aj q (DO.toB (aj q (ae (pvN 4 af)) (ae (pvN 10 af)))) (DL.toB ag))) ai))))) (ab (DO.toL (aY (ab aU (ab (DO.toL (aj q (DO.toB (aj q (ae (pvN 4 af)) (ae (pvN 10 af)))) (DL.toB ag))) (ab (ap (pvN 16 af)) ai))))) ai)))) (DO.toB (au gd jr (ae (pvN 8 af)) (DL.toB ag)))))) bo)
     (ah (bz (DW.t (cV (fY q (ae (pvN 8 af)) (DO.toB (aY (ab ag (ab ag ai))))) (cU (aS (iw q) rA (ae (pvN 5 af)) (DO.toB (aY ai)) (aL _))))) (av (aI (aj q (DO.toB (bh (ab (DO.toL (aY (ab aU (ab (DO.toL (aj q (ae (pvN 3 af)) (ae (pvN 9 af)))) (ab (DO.toL (aj q (DO.toB (aj q (ae (pvN 5 af)) (ae (pvN 11 af)))) (DL.toB ag))) (ab (ap (pvN 16 af)) ai)))))) (ab (DO.toL (aY (ab aU (ab (DO.toL (aj q (DO.toB (aj q (ae (pvN 5 af)) (ae (pvN 11 af)))) (DL.toB ag))) (ab (ap (pvN 16 af)) (ab (ap (pvN 17 af)) ai)))))) ai)))) (DO.toB (au gd jr (ae (pvN 8 af)) (DL.toB ag)))))) bo)
     (ah (bz (aS (bi q) cE (ae (pvN 8 af)) (DL.toB ag) (aL _)) (av (aI (aY (ab aU (ab (DO.toL (aj q (ae (pvN 3 af)) (ae (pvN 9 af)))) (ab (DO.toL (aj q (DL.toB aU) (ae (pvN 12 af)))) (ab (ap (pvN 16 af)) (ab (ap (pvN 17 af)) ai)))))))) bo)
     (ah (dsN af z9.nd (DL.toO (DO.toL (bh (ab (DO.toL (aY (ab aU (ab (DO.toL (aj q (ae (pvN 3 af)) (ae (pvN 9 af)))) ai)))) (ab (DO.toL (aY (ab aU (ab (ap (pvN 16 af)) ai)))) (ab (DO.toL (aY (ab aU (ab (ap (pvN 16 af)) (ab (ap (pvN 13 af)) ai))))) (ab (DO.toL (aY (ab aU (ab (ap (pvN 13 af)) ai)))) (ab (DO.toL (aY (ab aU (ab (ap (pvN 16 af)) ai)))) ai)))))))))
     (ah (bz (aS xK jv (ae (pvN 8 af)) (DL.toB ag) (aL _)) (av (aI (aj q (ae (pvN 18 af)) (DO.toB (au gd jr (ae (pvN 8 af)) (DL.toB ag)))))) bo)
     (av (aI (aY (ab aU (ab (DO.toL (aj q (ae (pvN 3 af)) (ae (pvN 9 af)))) (ab (ap (pvN 16 af)) ai))))))))))))))))))
abbrev y2:Stmt:=top 23
theorem q16:FnScope ["_law_script","_law_most","_law_world_here","_law_many","_law_rows","_law_last","_law_goal","_law_box","_law_number"] ["_law_script","_law_most"] (ac y2):=fnS (by decide +kernel)
theorem ar:cz (ac y2) ["_law_script","_law_most","_law_world_here","_law_many","_law_rows","_law_last","_law_goal","_law_box","_law_number"]=true:=by decide +kernel
theorem q52:aE (ac y2) "_law_world"=true:=by decide +kernel
theorem q46:aE (ac y2) "len"=true:=by decide +kernel
theorem z70:aE (ac y2) "min"=true:=by decide +kernel
theorem y69:aE (ac y2) "max"=true:=by decide +kernel
theorem q66:aE (ac y2) "range"=true:=by decide +kernel
theorem z51:aE (ac y2) "_law_digits"=true:=by decide +kernel
theorem z65:aE (ac y2) "tuple"=true:=by decide +kernel
theorem y82 (T:Txt P w K mg) (D:DefF K mg "_law_program" y2 ["_law_script","_law_most"]) (Y:OkF P w K mg base "_law_big" 2 ["_law_script","_law_k"] (spD K 2 (y13))) (O:OkF P w K mg base "_law_digits" 1 ["_law_number","_law_sizes"] (spD K 2 (z8))) (W:OkF P w K mg base "_law_row" 2 ["_law_number","_law_world_here","_law_many"] (spD K 3 (q44))) (U:OkF P w K mg base "_law_world" 3 ["_law_script"] (spD K 1 (z18))):OkF P w K mg base "_law_program" 4 ["_law_script","_law_most"] (spD K 2 q13):=
 b7 D q16 rfl fun f cdv A outer s H E q=>(ah (dsN ar q16.nd (DL.toO (DO.toL (ax q52 U (q.mono (by decide)) (ab (ap (pvN 0 ar)) ai)))))
     (ah (dsN ar q16.nd (DL.toO (DO.toL (aW y69 (iE rfl) uz T.n_max n9 (aw (DL.toB ag) (aw (DO.toB (aW z70 (rJ rfl) BT T.n_min zB (aw (DO.toB (au gd jr (DO.toB (aW q46 bj cY T.n_len bQ (aw (ae (pvN 0 ar)) aJ))) (DL.toB ag))) (aw (DO.toB (au aT bE (DL.toB ag) (ae (pvN 1 ar)))) aJ)))) aJ))))))
     (ah (wH (nsN ar 4) (nsL ar 4) q16.nd (M:=["_law_k","_law_script","_law_world_here","_law_many"]) (src:=[none,some 0,some 2,some 3]) (ts:=[0]) (CmpScope.of (by kernel_rfl)) rfl (DIF.toB (cg q66 T.n_range (ab (DO.toL (au gd jr (ae (pvN 3 ar)) (DL.toB ag))) ai))) (fun Z _ _ _ _=>(aG (dB (N:=["_law_k","_law_script","_law_world_here","_law_many"]) (i:=0) (by decide +kernel) (by decide +kernel) Z (scC (outer:=ac y2) (by exact rfl))))) (fun _ _ _ _=>dh) (fun _ _ _ _=>(DO.toL (ax (by decide +kernel) W (q.mono (by decide)) (ab (DO.toL (ax (by decide +kernel) Y (q.mono (by decide)) (ab (ap (pvX (by kernel_rfl))) (ab (DO.toL (au aT bE (DL.toB ag) (ae (pvX (by kernel_rfl))))) ai)) (e1:=(scC (outer:=ac y2) rfl)))) (ab (ap (pvX (by kernel_rfl))) (ab (ap (pvX (by kernel_rfl))) ai))) (e1:=(scC (outer:=ac y2) rfl))))) (by decide +kernel))
     (ah (jp (DO.toL (ax z51 O (q.mono (by decide)) (ab (DO.toL (aj q (ae (pvN 2 ar)) (DL.toB ag))) (ab (DO.toL (bh (ab ag (ab (ap (pvN 3 ar)) (ab (DO.toL (au aT bE (DO.toB (aW q46 bj cY T.n_len bQ (aw (DO.toB (aj q (ae (pvN 2 ar)) (DL.toB ag))) aJ))) (DL.toB ag))) (ab (DO.toL (au gi ju (DL.toB ag) (DL.toB ag))) ai)))))) ai)))) (oG rfl (aV (aG (aF (nsN ar 5) (nsL ar 5) q16.nd)) (aV (aG (aF (nsN ar 6) (nsL ar 6) q16.nd)) (aV (aG (aF (nsN ar 7) (nsL ar 7) q16.nd)) (aV (aG (aF (nsN ar 8) (nsL ar 8) q16.nd)) eC))))))
     (ah (ci (pvN 4 ar) (DO.toL (aj q (DO.toB (bh (ab (DO.toL (aY (ab aU (ab (DO.toL (aj q (DO.toB (au aT bE (DO.toB (aj q (ae (pvN 2 ar)) (DL.toB ag))) (DO.toB (bh (ab (ap (pvN 8 ar)) ai))))) (ae (pvN 7 ar)))) ai)))) (ab (DO.toL (aY (ab aU (ab (ap (pvN 6 ar)) ai)))) ai)))) (ae (pvN 5 ar)))))
     (av (aI (aY (ab (DO.toL (aj q (ae (pvN 2 ar)) (DL.toB ag))) (ab (DO.toL (aj q (ae (pvN 2 ar)) (DL.toB ag))) (ab (DO.toL (cW z65 cr gW T.n_tuple eZ (aw (ae (pvN 4 ar)) aJ))) ai)))))))))))
abbrev y16:Stmt:=top 30
theorem q47:FnScope ["_law_rows","_law_way","_law_name","_law_shelf","_law_taken","_law_put"] ["_law_rows","_law_way","_law_name","_law_shelf"] (ac y16):=fnS (by decide +kernel)
theorem aM:cz (ac y16) ["_law_rows","_law_way","_law_name","_law_shelf","_law_taken","_law_put"]=true:=by decide +kernel
theorem z35:aE (ac y16) "len"=true:=by decide +kernel
theorem q43:aE (ac y16) "range"=true:=by decide +kernel
theorem z84 (T:Txt P w K mg) (D:DefF K mg "_law_spoils" y16 ["_law_rows","_law_way","_law_name","_law_shelf"]):OkF P w K mg base "_law_spoils" 1 ["_law_rows","_law_way","_law_name","_law_shelf"] (spD K 4 q24):=
 b7 D q47 rfl fun f cdv A outer s H E q=>(ah (mX (nsN aM 4) (nsL aM 4) q47.nd (M:=["_law_k","_law_rows","_law_way","_law_name"]) (src:=[none,some 0,some 1,some 2]) (ts:=[0]) (CmpScope.of (by kernel_rfl)) rfl (DIF.toB (cg q43 T.n_range (ab (DO.toL (aW z35 bj cY T.n_len bQ (aw (ae (pvN 1 aM)) aJ))) ai))) (fun O _ _ _ _=>(aG (dB (N:=["_law_k","_law_rows","_law_way","_law_name"]) (i:=0) (by decide +kernel) (by decide +kernel) O (scC (outer:=ac y16) (by exact rfl))))) (fun _ _ _ _=>eD (DW.t (cV (fY q (DO.toB (aj q (DO.toB (aj q (ae (pvX (by kernel_rfl))) (DO.toB (aj q (ae (pvX (by kernel_rfl))) (ae (pvX (by kernel_rfl))))))) (DL.toB ag))) (DO.toB (aY (ab aU (ab aU ai))))) (cU (aS (bi q) cE (DO.toB (aj q (DO.toB (aj q (ae (pvX (by kernel_rfl))) (DO.toB (aj q (ae (pvX (by kernel_rfl))) (ae (pvX (by kernel_rfl))))))) (DL.toB ag))) (ae (pvX (by kernel_rfl))) (aL _)))))) (fun _ _ _ _=>(ap (pvX (by kernel_rfl)))) (by decide +kernel))
     (ah (mX (nsN aM 5) (nsL aM 5) q47.nd (M:=["_law_k","_law_rows","_law_way","_law_name"]) (src:=[none,some 0,some 1,some 2]) (ts:=[0]) (CmpScope.of (by kernel_rfl)) rfl (DIF.toB (cg q43 T.n_range (ab (DO.toL (aW z35 bj cY T.n_len bQ (aw (ae (pvN 1 aM)) aJ))) ai))) (fun O _ _ _ _=>(aG (dB (N:=["_law_k","_law_rows","_law_way","_law_name"]) (i:=0) (by decide +kernel) (by decide +kernel) O (scC (outer:=ac y16) (by exact rfl))))) (fun _ _ _ _=>eD (DW.t (cV (fY q (DO.toB (aj q (DO.toB (aj q (ae (pvX (by kernel_rfl))) (DO.toB (aj q (ae (pvX (by kernel_rfl))) (ae (pvX (by kernel_rfl))))))) (DL.toB ag))) (DO.toB (aY (ab aU (ab aU ai))))) (cU (aS (bi q) cE (DO.toB (aj q (DO.toB (aj q (ae (pvX (by kernel_rfl))) (DO.toB (aj q (ae (pvX (by kernel_rfl))) (ae (pvX (by kernel_rfl))))))) (DL.toB ag))) (ae (pvX (by kernel_rfl))) (aL _)))))) (fun _ _ _ _=>(ap (pvX (by kernel_rfl)))) (by decide +kernel))
     (ah (bz (DW.t (jo (aS (bi q) cE (ae (pvN 5 aM)) (DO.toB (bh ai)) (aL _)) (jo (aS (iw q) rA (DO.toB (aj q (ae (pvN 5 aM)) (DO.toB (lJ (DL.toB ag))))) (DO.toB (au gd jr (DO.toB (aW z35 bj cY T.n_len bQ (aw (ae (pvN 1 aM)) aJ))) (DL.toB ag))) (aL _)) (jn (aS (bi q) cE (ae (pvN 4 aM)) (DO.toB (bh ai)) (aL _)))))) (av (aI (DL.toO eN))) bo)
     (av (aI (om (DO.toB (fj mx jv (DO.toB (aj q (ae (pvN 4 aM)) (DL.toB ag))) (DO.toB (aj q (ae (pvN 5 aM)) (DO.toB (lJ (DL.toB ag))))) (aL _))) (lD (BM (ae (pvN 3 aM)) (lD (fj mx jv (DO.toB (aj q (ae (pvN 4 aM)) (DL.toB ag))) (DO.toB (aj q (ae (pvN 5 aM)) (DL.toB ag))) (aL _)))))))))))
abbrev q40:Stmt:=top 11
theorem y90:FnScope ["code"] ["code"] (ac q40):=fnS (by decide +kernel)
theorem lY:cz (ac q40) ["code"]=true:=by decide +kernel
theorem y91 (T:Txt P w K mg) (D:DefF K mg "kept_rows" q40 ["code"]):OkF P w K mg base "kept_rows" 1 ["code"] (spD K 1 z26):=b7 D y90 rfl fun f cdv A outer s H E q=>(av (aI (doC ["keep"] (by kernel_rfl) (cX (DO.toB (aj q (ae (pvN 0 lY)) (DL.toB ag)))) (fun _ _ _ _=>dh) (fun _ _ _ _=>(DO.toL (aj q (ae (pvX (by kernel_rfl))) (DL.toB ag)))))))
abbrev q50:Stmt:=top 1
theorem y94:FnScope ["number","row"] ["number","row"] (ac q50):=fnS (by decide +kernel)
theorem cJ:cz (ac q50) ["number","row"]=true:=by decide +kernel
theorem y93 (T:Txt P w K mg) (D:DefF K mg "ways_of" q50 ["number","row"]):OkF P w K mg base "ways_of" 1 ["number","row"] (spD K 2 q60):=
 b7 D y94 rfl fun f cdv A outer s H E q=>(ah (bz (aS (bi q) cE (DO.toB (aj q (ae (pvN 1 cJ)) (DL.toB ag))) (DL.toB aU) (aL _)) (av (aI (aY (ab (DO.toL (aj q (ae (pvN 1 cJ)) (DL.toB ag))) ai)))) bo)
     (ah (bz (aS (bi q) cE (DO.toB (aj q (ae (pvN 1 cJ)) (DL.toB ag))) (DL.toB aU) (aL _)) (av (aI (aY (ab (DO.toL (aj q (ae (pvN 1 cJ)) (DL.toB ag))) (ab (DO.toL (au aT bE (ae (pvN 0 cJ)) (DL.toB ag))) ai))))) bo)
     (ah (bz (aS (bi q) cE (DO.toB (aj q (ae (pvN 1 cJ)) (DL.toB ag))) (DL.toB aU) (aL _)) (av (aI (aY ai))) bo)
     (av (aI (aY (ab (DO.toL (au aT bE (ae (pvN 0 cJ)) (DL.toB ag))) ai)))))))
abbrev eL:Stmt:=top 2
theorem z97:FnScope ["program"] ["program"] (ac eL):=fnS (by decide +kernel)
theorem w6:cz (ac eL) ["program"]=true:=by decide +kernel
theorem q77:aE (ac eL) "enumerate"=true:=by decide +kernel
theorem y97 (T:Txt P w K mg) (D:DefF K mg "ways" eL ["program"]) (q:OkF P w K mg base "ways_of" 1 ["number","row"] (spD K 2 (q60))):OkF P w K mg base "ways" 2 ["program"] (spD K 1 jL):=b7 D z97 rfl fun f cdv A outer s H E O=>(av (aI (lH (M:=["number","row"]) (src:=[none,none]) (ts:=[0,1]) (CmpScope.of (by kernel_rfl)) rfl (DIF.toB (lL q77 T.n_enumerate (ab (DO.toL (aj O (ae (pvN 0 w6)) (DL.toB ag))) ai))) (fun U _ _ _ _=>(lE rfl (aV (aG (dB (N:=["number","row"]) (i:=0) (by decide +kernel) (by decide +kernel) U (scC (outer:=ac eL) (by exact rfl)))) (aV (aG (dB (N:=["number","row"]) (i:=1) (by decide +kernel) (by decide +kernel) U (scC (outer:=ac eL) (by exact rfl)))) eC)))) (fun _ _ _ _=>dh) (fun _ _ _ _=>(DO.toL (ax (by decide +kernel) q (O.mono (by decide)) (ab (ap (pvX (by kernel_rfl))) (ab (ap (pvX (by kernel_rfl))) ai)) (e1:=(scC (outer:=ac eL) rfl))))) (by decide +kernel))))
abbrev q19:Stmt:=top 12
theorem y68:FnScope ["program","code","kept"] ["program","code"] (ac q19):=fnS (by decide +kernel)
theorem dU:cz (ac q19) ["program","code","kept"]=true:=by decide +kernel
theorem q59:aE (ac q19) "kept_rows"=true:=by decide +kernel
theorem y73:aE (ac q19) "ways"=true:=by decide +kernel
theorem y86 (T:Txt P w K mg) (D:DefF K mg "inner_ways" q19 ["program","code"]) (O:OkF P w K mg base "kept_rows" 1 ["code"] (spD K 1 (z26))) (q:OkF P w K mg base "ways" 2 ["program"] (spD K 1 (jL))):OkF P w K mg base "inner_ways" 3 ["program","code"] (spD K 2 q23):=
 b7 D y68 rfl fun f cdv A outer s H E U=>(ah (dsN dU y68.nd (DL.toO (DO.toL (ax q59 O (U.mono (by decide)) (ab (ap (pvN 1 dU)) ai)))))
     (av (aI (doC ["onward","kept"] (by kernel_rfl) (cX (DO.toB (ax y73 q (U.mono (by decide)) (ab (ap (pvN 0 dU)) ai)))) (fun _ _ _ _=>dh) (fun _ _ _ _=>(DO.toL (lH (M:=["way","kept"]) (src:=[none,some 1]) (ts:=[0]) (CmpScope.of (by kernel_rfl)) rfl (cX (ae (pvX (by kernel_rfl)))) (fun W _ _ _ _=>(aG (dB (N:=["way","kept"]) (i:=0) (by decide +kernel) (by decide +kernel) W (scC (scC (outer:=ac q19) (by exact rfl)))))) (fun _ _ _ _=>eD (dG U (ae (pvX (by kernel_rfl))) (ae (pvX (by kernel_rfl))))) (fun _ _ _ _=>(ap (pvX (by kernel_rfl)))) (by decide +kernel))))))))
abbrev q17:Stmt:=top 13
theorem y85:FnScope ["mark","row","name"] ["mark","row","name"] (ac q17):=fnS (by decide +kernel)
theorem aR:cz (ac q17) ["mark","row","name"]=true:=by decide +kernel
theorem z44:aE (ac q17) "FRESH"=true:=by decide +kernel
theorem y44:aE (ac q17) "SEEN"=true:=by decide +kernel
theorem q71:aE (ac q17) "SAFE"=true:=by decide +kernel
theorem z64:aE (ac q17) "SPOILT"=true:=by decide +kernel
theorem z86 (T:Txt P w K mg) (D:DefF K mg "mark_behind" q17 ["mark","row","name"]):OkF P w K mg base "mark_behind" 1 ["mark","row","name"] (spD K 3 z24):=
 b7 D y85 rfl fun f cdv A outer s H E q=>(ah (bz (DW.t (cV (aS (bi q) cE (ae (pvN 0 aR)) (DL.toB (dv z44 T.g_B)) (aL _)) (cV (fY q (DO.toB (aj q (ae (pvN 1 aR)) (DL.toB ag))) (DO.toB (aY (ab aU (ab aU ai))))) (cU (aS (bi q) cE (DO.toB (aj q (ae (pvN 1 aR)) (DL.toB ag))) (ae (pvN 2 aR)) (aL _)))))) (av (aI (DL.toO (dv y44 T.g_D)))) bo)
     (ah (bz (DW.t (cV (aS (bi q) cE (ae (pvN 0 aR)) (DL.toB (dv z44 T.g_B)) (aL _)) (cV (aS (bi q) cE (DO.toB (aj q (ae (pvN 1 aR)) (DL.toB ag))) (DL.toB aU) (aL _)) (cU (aS (bi q) cE (DO.toB (aj q (ae (pvN 1 aR)) (DL.toB ag))) (ae (pvN 2 aR)) (aL _)))))) (av (aI (DL.toO (dv q71 T.g_C)))) bo)
     (ah (bz (DW.t (cV (aS (bi q) cE (ae (pvN 0 aR)) (DL.toB (dv y44 T.g_D)) (aL _)) (cV (fY q (DO.toB (aj q (ae (pvN 1 aR)) (DL.toB ag))) (DO.toB (aY (ab aU (ab aU ai))))) (cU (aS (bi q) cE (DO.toB (aj q (ae (pvN 1 aR)) (DL.toB ag))) (ae (pvN 2 aR)) (aL _)))))) (av (aI (DL.toO (dv z64 T.g_A)))) bo)
     (av (i5 (pvN 0 aR))))))
abbrev y30:Stmt:=top 10
theorem z85:FnScope ["program"] ["program"] (ac y30):=fnS (by decide +kernel)
theorem fD:cz (ac y30) ["program"]=true:=by decide +kernel
theorem q86 (T:Txt P w K mg) (D:DefF K mg "plain_names" y30 ["program"]):OkF P w K mg base "plain_names" 1 ["program"] (spD K 1 q20):=b7 D z85 rfl fun f cdv A outer s H E q=>(av (aI (doC ["head"] (by kernel_rfl) (cX (DO.toB (au qr uQ (DO.toB (aj q (ae (pvN 0 fD)) (DL.toB ag))) (DO.toB (aj q (ae (pvN 0 fD)) (DL.toB ag)))))) (fun _ _ _ _=>eD (ir (cT (DO.toB (aj q (ae (pvX (by kernel_rfl))) (DL.toB ag))) (fun _=>rfl)))) (fun _ _ _ _=>(DO.toL (aj q (ae (pvX (by kernel_rfl))) (DL.toB ag)))))))
abbrev y40:Stmt:=top 3
theorem z61:FnScope ["came_from","last","places","here"] ["came_from","last"] (ac y40):=fnS (by decide +kernel)
theorem bY:cz (ac y40) ["came_from","last","places","here"]=true:=by decide +kernel
theorem q84:aE (ac y40) "list"=true:=by decide +kernel
theorem q74:aE (ac y40) "reversed"=true:=by decide +kernel
theorem y95 (T:Txt P w K mg) (D:DefF K mg "traced" y40 ["came_from","last"]):OkF P w K mg base "traced" 1 ["came_from","last"] (spD K 2 z79):=
 b7 D z61 rfl fun f cdv A outer s H E q=>(ah (dsN bY z61.nd (bh ai))
     (ah (dsN bY z61.nd (DL.toO (ap (pvN 1 bY))))
     (ah (fm 100000 qd7 (aS vR wA (ae (pvN 3 bY)) (DL.toB gm) (aL _)) (ah (ci (pvN 2 bY) (ap (pvN 3 bY)))
     (av (dsN bY z61.nd (DL.toO (DO.toL (Ag T.is q (ae (pvN 0 bY)) (ae (pvN 3 bY)))))))))
     (av (aI (oZ q84 q74 T.n_list T.n_reversed rfl (ae (pvN 2 bY))))))))
abbrev z41:Stmt:=top 4
theorem q34:FnScope ["starts","behind","fits","came_from","start","queue","looked","here","there"] ["starts","behind","fits"] (ac z41):=fnS (by decide +kernel)
theorem aN:cz (ac z41) ["starts","behind","fits","came_from","start","queue","looked","here","there"]=true:=by decide +kernel
theorem z88:aE (ac z41) "list"=true:=by decide +kernel
theorem y89:aE (ac z41) "len"=true:=by decide +kernel
theorem q83:aE (ac z41) "traced"=true:=by decide +kernel
theorem q97 (T:Txt P w K mg) (D:DefF K mg "route" z41 ["starts","behind","fits"]) (O:OkF P w K mg base "traced" 1 ["came_from","last"] (spD K 2 (z79))):OkF P w K mg base "route" 3 ["starts","behind","fits"] (spR P w K mg base 2 y76):=
 zV D q34 rfl fun f cdv A outer s H E q G U=>(ah (dsN aN q34.nd uJ)
     (ah (c8 qd7 rfl (fq (ap (pvN 0 aN))) (aG (aF (nsN aN 4) (nsL aN 4) q34.nd)) (av (qo T.is q (pvN 3 aN) (ae (pvN 4 aN)) gm)))
     (ah (dsN aN q34.nd (cW z88 (gt rfl) lS T.n_list fM (aw (ae (pvN 3 aN)) aJ)))
     (ah (dsN aN q34.nd (DL.toO ag))
     (ah (fm 100000 qd7 (aS mx jv (ae (pvN 6 aN)) (DO.toB (aW y89 bj cY T.n_len bQ (aw (ae (pvN 5 aN)) aJ))) (aL _)) (ah (dsN aN q34.nd (DL.toO (DO.toL (aj q (ae (pvN 5 aN)) (ae (pvN 6 aN))))))
     (ah (oB (nsN aN 6) (nsL aN 6) q34.nd (DL.toB ag))
     (ah (bz (cT (DO.toB (qc (pvN 2 aN) U (q.mono (by decide)) (ab (ap (pvN 7 aN)) ai))) (fun _=>rfl)) (av (pV (i:=3) (aI (ax q83 O (q.mono (by decide)) (ab (ap (pvN 3 aN)) (ab (ap (pvN 7 aN)) ai)))))) bo)
     (av (c8 qd7 rfl (fq (DO.toL (qc (pvN 1 aN) U (q.mono (by decide)) (ab (ap (pvN 7 aN)) ai)))) (aG (aF (nsN aN 8) (nsL aN 8) q34.nd)) (av (bz (Ah T.is q (ae (pvN 8 aN)) (ae (pvN 3 aN))) (ah (qo T.is q (pvN 3 aN) (ae (pvN 8 aN)) (ap (pvN 7 aN)))
     (av (ci (pvN 5 aN) (ap (pvN 8 aN))))) bo))))))))
     (av (aI (DL.toO gm))))))))
abbrev z14:Stmt:=top 14
theorem y41:FnScope ["program","code","name","rows","inner","behind","spoils","found"] ["program","code","name"] (ac z14):=fnS (by decide +kernel)
theorem bg:cz (ac z14) ["program","code","name","rows","inner","behind","spoils","found"]=true:=by decide +kernel
theorem q63:aE (ac z14) "plain_names"=true:=by decide +kernel
theorem z66:aE (ac z14) "inner_ways"=true:=by decide +kernel
theorem z71:aE (ac z14) "kept_rows"=true:=by decide +kernel
theorem z82:aE (ac z14) "route"=true:=by decide +kernel
abbrev z15:Stmt:=(aX z14).getD 3 (.Pass ⟨0,0,0,0⟩)
theorem q29:NsC (ac z14) ["program","code","name","rows","inner","behind","spoils","found"] ["place","mark","name","rows","inner"] ["place"] ["name","rows","inner"] [2,3,4] (ac z15):=NsC.of (by decide +kernel)
theorem y36:cu (ac z15) ["place","mark","name","rows","inner"] 0 "place"=true:=by decide +kernel
theorem z50:cu (ac z15) ["place","mark","name","rows","inner"] 1 "mark"=true:=by decide +kernel
theorem z76:gl (ac z15) "mark"=true:=by decide +kernel
theorem q72:cu (ac z15) ["place","mark","name","rows","inner"] 2 "name"=true:=by decide +kernel
theorem q76:cu (ac z15) ["place","mark","name","rows","inner"] 3 "rows"=true:=by decide +kernel
theorem y72:cu (ac z15) ["place","mark","name","rows","inner"] 4 "inner"=true:=by decide +kernel
theorem y46:aE (ac z15) "mark_behind"=true:=by decide +kernel
theorem q64:aE (ac z15) "SAFE"=true:=by decide +kernel
abbrev y19:Stmt:=(aX z14).getD 4 (.Pass ⟨0,0,0,0⟩)
theorem q41:NsC (ac z14) ["program","code","name","rows","inner","behind","spoils","found"] ["place","name","rows"] ["place"] ["name","rows"] [2,3] (ac y19):=NsC.of (by decide +kernel)
theorem y50:cu (ac y19) ["place","name","rows"] 0 "place"=true:=by decide +kernel
theorem q75:cu (ac y19) ["place","name","rows"] 1 "name"=true:=by decide +kernel
theorem y75:cu (ac y19) ["place","name","rows"] 2 "rows"=true:=by decide +kernel
theorem z47:aE (ac y19) "mark_behind"=true:=by decide +kernel
theorem z59:aE (ac y19) "SPOILT"=true:=by decide +kernel
theorem z96 {c Pt:Addr} (T:Txt P w K mg) (D:DefC K mg "spoilt" z14 ["program","code","name"] c) (B:TabB mg base c Pt) (hT:(Pt,pw "spoilt" (aX z14))∈c4 K) (W:OkF P w K mg base "inner_ways" 3 ["program","code"] (spD K 2 (q23))) (Y:OkF P w K mg base "kept_rows" 1 ["code"] (spD K 1 (z26))) (O:OkF P w K mg base "mark_behind" 1 ["mark","row","name"] (spD K 3 (z24))) (y53:OkF P w K mg base "plain_names" 1 ["program"] (spD K 1 (q20))) (U:OkF P w K mg base "route" 3 ["starts","behind","fits"] (spR P w K mg base 2 y76)):OkF P w K mg base "spoilt" 4 ["program","code","name"] (spD K 3 (y26)):=
 Ae D y41 rfl fun f A outer s H E q=>(ah (bz (dG q (ae (pvN 2 bg)) (DO.toB (ax q63 y53 (q.mono (by decide)) (ab (ap (pvN 0 bg)) ai)))) (av (aI (DL.toO gm))) bo)
     (ah (dsN bg y41.nd (DL.toO (DO.toL (aj q (ae (pvN 0 bg)) (DL.toB ag)))))
     (ah (dsN bg y41.nd (DL.toO (DO.toL (ax z66 W (q.mono (by decide)) (ab (ap (pvN 0 bg)) (ab (ap (pvN 1 bg)) ai))))))
     (ue (i1:=5) (i2:=6) (by decide) (Ad (NX:=["program","code","name","rows","inner","behind","spoils","found"]) rfl) (ql (qual:="spoilt.<locals>.behind") (nsN bg 5) (nsL bg 5) y41.nd q29 B hT (by decide +kernel)) (ql (qual:="spoilt.<locals>.spoils") (nsN bg 6) (nsL bg 6) y41.nd q41 B hT (by decide +kernel))
     (ug (wQ (nsN bg 7) (nsL bg 7) y41.nd (BU (i1:=5) (i2:=6) U (q.mono (by decide)) (glD z82) (fun _=>rfl) (DO.toL (doC ["row"] (by kernel_rfl) (cX (DO.toB (au aT bE (DO.toB (bh (ab ag ai))) (DO.toB (ax z71 Y (q.mono (by decide)) (ab (ap (pvN 1 bg)) ai)))))) (fun _ _ _ _=>dh) (fun _ _ _ _=>(DO.toL (aY (ab (ap (pvX (by kernel_rfl))) (ab (dv (by decide +kernel) T.g_B (e1:=(scC (outer:=ac z14) rfl))) ai))))))) (pvN 5 bg) (pvN 6 bg) (NestD.of q29 (fun s cl doc pm ctv cd us Z=>match us,Z with | [_],_=>.of_eq rfl) fun f c' cl A outer s H q=>(ah (tM z50 z76 q29.nd (DL.toO (DO.toL (ax y46 O (q.mono (by decide)) (ab (DO.toL (aj q (ae (pvD 0 y36)) (DL.toB ag))) (ab (DO.toL (aj q (ae (pvD 3 q76)) (DO.toB (aj q (ae (pvD 0 y36)) (DL.toB ag))))) (ab (ap (pvD 2 q72)) ai)))))))
     (av (aI (xR (aS (bi q) cE (ae (pvD 1 z50)) (DL.toB (dv q64 T.g_C)) (aL _)) (bh ai) (doC ["way","mark"] (by kernel_rfl) (cX (DO.toB (aj q (ae (pvD 4 y72)) (DO.toB (aj q (ae (pvD 0 y36)) (DL.toB ag)))))) (fun _ _ _ _=>dh) (fun _ _ _ _=>(DO.toL (aY (ab (ap (pvX (by kernel_rfl))) (ab (ap (pvX (by kernel_rfl))) ai))))))))))) (NestD.of q41 (fun s cl doc pm ctv cd us Z=>match us,Z with | [_],_=>.of_eq rfl) fun f c' cl A outer s H q=>(av (aI (fj (bi q) cE (DO.toB (ax z47 O (q.mono (by decide)) (ab (DO.toL (aj q (ae (pvD 0 y50)) (DL.toB ag))) (ab (DO.toL (aj q (ae (pvD 2 y75)) (DO.toB (aj q (ae (pvD 0 y50)) (DL.toB ag))))) (ab (ap (pvD 1 q75)) ai))))) (DL.toB (dv z59 T.g_A)) (aL _))))) q29.all q41.all))
     (av (aI (xR (aS sI r_is (ae (pvN 7 bg)) (DL.toB gm) (aL _)) (DL.toO gm) (doC ["place"] (by kernel_rfl) (cX (ae (pvN 7 bg))) (fun _ _ _ _=>dh) (fun _ _ _ _=>(DO.toL (aj q (ae (pvX (by kernel_rfl))) (DL.toB ag)))))))))))))
abbrev dL:Stmt:=top 33
theorem sc_law:FnScope ["_law_script","_law_program_here","_law_rows","_law_code","_law_keeps","_law_at","_law_told","_law_found"] ["_law_script"] (ac dL):=fnS (by decide +kernel)
theorem aO:cz (ac dL) ["_law_script","_law_program_here","_law_rows","_law_code","_law_keeps","_law_at","_law_told","_law_found"]=true:=by decide +kernel
theorem y45:aE (ac dL) "_law_program"=true:=by decide +kernel
theorem y58:aE (ac dL) "_law_pool"=true:=by decide +kernel
theorem z46:aE (ac dL) "_law_cutting"=true:=by decide +kernel
theorem y87:aE (ac dL) "spoilt"=true:=by decide +kernel
theorem y81:aE (ac dL) "_law_may"=true:=by decide +kernel
theorem y67:aE (ac dL) "_law_is_piece"=true:=by decide +kernel
theorem y74:aE (ac dL) "_law_spoils"=true:=by decide +kernel
theorem Am {f:Addr} {fd:qp9} (T:Txt P w K mg) (D:Fun K "law" "law" dL f fd) (U:OkF P w K mg base "_law_cutting" 3 ["_law_script","_law_program_here","_law_pool_here"] (spD K 3 (y11))) (z43:OkF P w K mg base "_law_is_piece" 2 ["_law_rows","_law_keeps","_law_way"] (spD K 3 (q15))) (Y:OkF P w K mg base "_law_may" 3 ["_law_rows","_law_keeps","_law_name"] (spD K 3 (y25))) (O:OkF P w K mg base "_law_pool" 4 ["_law_script"] (spD K 1 (z16))) (W:OkF P w K mg base "_law_program" 4 ["_law_script","_law_most"] (spD K 2 (q13))) (q54:OkF P w K mg base "_law_spoils" 1 ["_law_rows","_law_way","_law_name","_law_shelf"] (spD K 4 (q24))) (Z:OkF P w K mg base "spoilt" 4 ["program","code","name"] (spD K 3 (y26))):FnOk P w K mg base CX0 5 f fd ["_law_script"] (spD K 1 qu):=
 BO D sc_law rfl fun cdv A outer s H E q=>(ah (dsN aO sc_law.nd (DL.toO (DO.toL (ax y45 W (q.mono (by decide)) (ab (ap (pvN 0 aO)) (ab ag ai))))))
     (ah (dsN aO sc_law.nd (DL.toO (DO.toL (aj q (ae (pvN 1 aO)) (DL.toB ag)))))
     (ah (dsN aO sc_law.nd (DL.toO (DO.toL (ax z46 U (q.mono (by decide)) (ab (ap (pvN 0 aO)) (ab (ap (pvN 1 aO)) (ab (DO.toL (ax y58 O (q.mono (by decide)) (ab (ap (pvN 0 aO)) ai))) ai)))))))
     (ah (dsN aO sc_law.nd p6)
     (ah (c8 qd7 rfl (fq (DO.toL (aj q (ae (pvN 3 aO)) (DL.toB ag)))) (lE rfl (aV (aG (aF (nsN aO 5) (nsL aO 5) sc_law.nd)) (aV (aG (aF (nsN aO 6) (nsL aO 6) sc_law.nd)) eC))) (av (t0 q (pvN 4 aO) (ae (pvN 5 aO)) eN)))
     (ah (c8 qd7 rfl (fq (DO.toL (au w4 Ak (DO.toB (au qr uQ (DO.toB (aj q (ae (pvN 1 aO)) (DL.toB ag))) (DO.toB (aj q (ae (pvN 1 aO)) (DL.toB ag))))) (DL.toB ag)))) (aG (aF (nsN aO 6) (nsL aO 6) sc_law.nd)) (ah (dsN aO sc_law.nd (ax y87 Z (q.mono (by decide)) (ab (ap (pvN 1 aO)) (ab (ap (pvN 3 aO)) (ab (DO.toL (aj q (ae (pvN 6 aO)) (DL.toB ag))) ai)))))
     (av (bz (aS sI r_is (ae (pvN 7 aO)) (DL.toB gm) (aL _)) (av (bz (DW.t (cV (ir (cT (DO.toB (aj q (ae (pvN 6 aO)) (DL.toB ag))) (fun _=>rfl))) (cU (cT (DO.toB (iz y81 Y (q.mono (by decide)) (aw (ae (pvN 2 aO)) (aw (ae (pvN 4 aO)) (aw (DO.toB (aj q (ae (pvN 6 aO)) (DL.toB ag))) aJ))))) (fun _=>rfl))))) (av (aI (DL.toO eN))) bo)) (av (bz (DW.t (jo (cT (DO.toB (aj q (ae (pvN 6 aO)) (DL.toB ag))) (fun _=>rfl)) (jn (ir (cT (DO.toB (iz y67 z43 (q.mono (by decide)) (aw (ae (pvN 2 aO)) (aw (ae (pvN 4 aO)) (aw (ae (pvN 7 aO)) aJ))))) (fun _=>rfl)))))) (av (aI (DL.toO eN))) (av (bz (ir (cT (DO.toB (iz y74 q54 (q.mono (by decide)) (aw (ae (pvN 2 aO)) (aw (ae (pvN 7 aO)) (aw (DO.toB (aj q (ae (pvN 6 aO)) (DL.toB ag))) (aw (DO.toB (fj (Al q rfl) BY (ae (pvN 6 aO)) (DO.toB (aj q (ae (pvN 1 aO)) (DL.toB ag))) (by with_unfolding_all rfl))) aJ)))))) (fun _=>rfl))) (av (aI (DL.toO eN))) (av (ci (pvN 7 aO) ag))))))))))
     (av (aI (om (DO.toB (fj (bi q) cE (ae (pvN 1 aO)) (DO.toB (ax y45 W (q.mono (by decide)) (ab (ap (pvN 0 aO)) (ab ag ai)))) (aL _))) (lD (fj (bi q) cE (ae (pvN 3 aO)) (DO.toB (ax z46 U (q.mono (by decide)) (ab (ap (pvN 0 aO)) (ab (ap (pvN 1 aO)) (ab (DO.toL (ax y58 O (q.mono (by decide)) (ab (ap (pvN 0 aO)) ai))) ai))))) (aL _))))))))))))
end
end P34
namespace L2
open PySem PySem.Spec PyProof.Rows
variable {i j:Int}
theorem gAdd_i:bD (.int i) (.int j)=some (.leaf (.int (i+j))):=rfl
variable {x y:Str}
theorem An (h:x.length+y.length<=qb0):bD (.str x) (.str y)=some (.leaf (.str (x++y))):=if_pos h
variable {l m:List Dt}
theorem o4 (h:l.length+m.length<=qb0):bD (.lst l) (.lst m)=some (.lst (l++m)):=if_pos h
theorem gSub_i:fw (.int i) (.int j)=some (.leaf (.int (i-j))):=rfl
theorem uU (h:iM i j=true):iU (.int i) (.int j)=some (.leaf (.int (i*j))):=if_pos h
theorem o5 (h:0<j):dO (.int i) (.int j)=some (.leaf (.int (i%j))):=if_pos h
theorem o6 (h:kw i j=true):iV (.int i) (.int j)=some (.leaf (.int (i^j.toNat))):=if_pos h
theorem uV:kw 2 40=true:=by decide
@[irreducible] def wide:Int:=1099511627776
theorem lZ:wide=1099511627776:=by unfold wide;rfl
theorem Cn:iV (.int 2) (.int 40)=some (.leaf (.int wide)):=by rw [o6 uV,lZ];rfl
theorem uW:(0:Int)<wide:=by rw [lZ];decide
theorem gMod_w:dO (.int i) (.int wide)=some (.leaf (.int (i%wide))):=o5 uW
theorem Ao {f:Int->Int->Bool}:iW f (.int i) (.int j)=some (.leaf (.bl (f i j))):=rfl
theorem uX (h:(cmpbs l m&&decide (deeps l<=59))=true):eqD (.tup l) (.tup m)=some (peqs l m):=if_pos h
theorem BZ (h:(cmpbs l m&&decide (deeps l<=59))=true):eqD (.lst l) (.lst m)=some (peqs l m):=if_pos h
variable {neg b:Bool}
theorem l3 {x y:Dt} (h:eqD x y=some b):gEq neg x y=some (.leaf (.bl (if neg then !b else b))):=by unfold gEq;rw [h];rfl
theorem gEq_ii:gEq false (.int i) (.int j)=some (.leaf (.bl (decide (i=j)))):=rfl
theorem gEq_ss {i j:Str}:gEq false (.str i) (.str j)=some (.leaf (.bl (decide (i=j)))):=rfl
theorem uY:gEq true (.int i) (.int j)=some (.leaf (.bl (!decide (i=j)))):=rfl
theorem gNe_ss {i j:Str}:gEq true (.str i) (.str j)=some (.leaf (.bl (!decide (i=j)))):=rfl
theorem gIs_n {x:Dt}:gIs neg x .non=some (.leaf (.bl (if neg then !mM x else mM x))):=rfl
theorem qv:aq (.lst l) (.int i)=(atI l i).map .leaf:=rfl
theorem xZ:aq (.tup l) (.int i)=(atI l i).map .leaf:=rfl
theorem uZ (h:x.length<=qb0):aq (.str x) (.int i)=(atI x.cps.toList i).map fun c=>.leaf (.str ⟨#[c]⟩):=if_pos h
theorem B0 {ks:List Key} {k:Dt}:bA neg k (.dct ks l)=(oC k).map fun k=>.leaf (.bl (if neg then !(cq ks l k).isSome else (cq ks l k).isSome)):=rfl
theorem B1 {x:Dt} (h:(ck x&&l.all ck)=true):bA neg x (.lst l)=some (.leaf (.bl (if neg then !(l.any fun y=>eqF y x) else l.any fun y=>eqF y x))):=by cases x<;>simp only [bA,gIn,inD]<;>first | rw [if_pos h];rfl | cases h
theorem gIn_t {x:Dt} (h:(ck x&&l.all ck)=true):bA neg x (.tup l)=some (.leaf (.bl (if neg then !(l.any fun y=>eqF y x) else l.any fun y=>eqF y x))):=by cases x<;>simp only [bA,gIn,inD]<;>first | rw [if_pos h];rfl | cases h
theorem gLen_l:du [.lst l]=some (.leaf (.int l.length)):=rfl
theorem gLen_t:du [.tup l]=some (.leaf (.int l.length)):=rfl
theorem B2:fz [.lst l]=some (.leaf (.tup l)):=rfl
theorem u0 (h:fX j=true):iu [.int j]=some (dE 0 j.toNat):=if_pos h
theorem jM (q:-1000000000<=j) (h1:j<=1000000000):fX j=true:=by unfold fX;simp only [qb1,decide_eq_true_eq];lia
variable {n:Nat}
theorem fE (h:n<=1000000000):iu [.int n]=some (dE 0 n):=by rw [u0 (jM (by lia) (by lia))];rfl
theorem itD_l:itD (.lst l)=some l:=rfl
theorem itD_t:itD (.tup l)=some l:=rfl
theorem truD_b:mK (.bl b)=some b:=rfl
theorem asB_b:asB (.leaf (.bl b))=some b:=rfl
theorem asBl_b:ly (.bl b)=some b:=rfl
theorem asI_i {b:Int}:asI (.int b)=some b:=rfl
theorem small (h:n<=1000000):n<=qb0:=qc1 h (by decide)
theorem fF (h:n<1000000):n<qb0:=qc2 h (by decide)
variable {g1 g2:De->Option Out} {δ:De}
theorem bc {δ':De} (h:g1 δ=some (.nx δ')):aA g1 g2 δ=g2 δ':=by unfold aA;rw [h];rfl
theorem o7 {t:T} (h:g1 δ=some (.rt t)):aA g1 g2 δ=some (.rt t):=by unfold aA;rw [h];rfl
variable {bb:Dt->De->Option De} {g:De->Option Out} {δ1:De}
theorem bB {d:Dt} {r:List Dt} {δ2:De} (h1:bb d δ=some δ1) (h2:g δ1=some (.nx δ2)):cC bb g (d::r) δ=cC bb g r δ2:=by show ((bb d δ).bind fun δ1=>(g δ1).bind fun o=>match o with | .nx δ2=>cC bb g r δ2 | .ct δ2=>cC bb g r δ2 | .bk δ2=>some (.nx δ2) | .rt t=>some (.rt t))=_;rw [h1,qa3,h2];rfl
theorem bW {α:Type} {l:List α} {k:Nat}:atI l (k:Int)=l[k]?:=by
 unfold atI ixN;rw [if_pos (by lia)];by_cases h:k<l.length
 . rw [if_pos (by lia)];simp
 . rw [if_neg (by lia)];simp;lia
theorem Ap (h1:-1000000000000000000<i) (h2:i<1000000000000000000):iU (.int i) (.int j)=some (.leaf (.int (i*j))):=uU (wv h1 h2)
theorem gMul_r (h1:-1000000000000000000<j) (h2:j<1000000000000000000):iU (.int i) (.int j)=some (.leaf (.int (i*j))):=uU (ww h1 h2)
def u1 (o:Option Out) (g:De->Option Out):Option Out:=o.bind fun o=>match o with
 | .nx q=>g q
 | o=>some o
theorem jN:aA g1 g2 δ=u1 (g1 δ) g2:=rfl
theorem fG:u1 (some (.nx δ)) g=g δ:=rfl
theorem B3 {t:T}:u1 (some (.rt t)) g=some (.rt t):=rfl
def Aq:Option Out->Option T
 | some (.rt t)=>some t
 | some (.nx _)=>some (.leaf .non)
 | _=>none
variable {ds:List Dt}
theorem Ar {m:Nat}:b8 m g ds=Aq (g (ds.map (fun d=>some (.leaf d))++qc3 (m-ds.length) none)):=rfl
theorem Co {t:T}:Aq (some (.rt t))=some t:=rfl
def dn {α:Type} (b:Option Bool) (f g:De->Option α) (δ:De):Option α:=b.bind fun b=>if b then f δ else g δ
theorem i8 {α:Type} {f g:De->Option α}:dn (some true) f g δ=f δ:=rfl
theorem g8 {α:Type} {f g:De->Option α}:dn (some false) f g δ=g δ:=rfl
theorem g9 {α:Type} {f g:De->Option α} (h:b=true):dn (some b) f g δ=f δ:=by subst h;rfl
theorem hJ {α:Type} {f g:De->Option α} (h:b=false):dn (some b) f g δ=g δ:=by subst h;rfl
variable {c:De->Option Bool}
theorem qw:sIf c g1 g2 δ=dn (c δ) g1 g2 δ:=rfl
theorem vIf_d {g1 g2:De->Option T}:vIf c g1 g2 δ=dn (c δ) g1 g2 δ:=rfl
def kB (b:Bool):De->Option Bool:=fun _=>some b
def kT (b:Bool):De->Option T:=fun _=>some (.leaf (.bl b))
theorem kB_d:kB b δ=some b:=rfl
theorem kT_d:kT b δ=some (.leaf (.bl b)):=rfl
theorem iG {f g:De->Option Bool}:dl f g δ=dn (f δ) g (kB false) δ:=rfl
theorem fOr_d {f g:De->Option Bool}:fOr f g δ=dn (f δ) (kB true) g δ:=rfl
variable {f:De->Option Dt}
theorem vAnd_d {g:De->Option T}:lz f g δ=dn ((f δ).bind ly) g (kT false) δ:=by
 unfold lz dn kT;cases f δ with
 | none=>rfl
 | some d=>rfl
theorem vOr_d {g:De->Option T}:vOr f g δ=dn ((f δ).bind ly) (kT true) g δ:=by
 unfold vOr dn kT;cases f δ with
 | none=>rfl
 | some d=>rfl
def mkL (ds:List Dt):Option T:=if ds.length<=qb0 then some (.lst ds) else none
def mkTp (ds:List Dt):Option T:=if ds.length<=qb0 then some (.leaf (.tup ds)) else none
theorem cb (h:ds.length<=1000000):mkL ds=some (.lst ds):=if_pos (small h)
theorem Cp (h:ds.length<=1000000):mkTp ds=some (.leaf (.tup ds)):=if_pos (small h)
theorem u2 {f:De->Option (List Dt)}:bL f δ=(f δ).bind mkL:=rfl
theorem vTup_d {f:De->Option (List Dt)}:bG f δ=(f δ).bind mkTp:=rfl
variable {fi:De->Option (List Dt)} {ft:De->Option Bool} {fe:De->Option Dt}
theorem Cq {src:List (Option Nat)}:bP src fi bb ft fe δ=(fi δ).bind fun ds=>(cM bb ft fe (dC src δ) ds).bind mkL:=rfl
def As (l:List Dt) (i:Nat) (δ:De) (d:Dt):Option Out:=if l.length<qb0 then some (.nx (δ.set i (some (.lst (l++[d]))))) else none
theorem hV {i:Nat} {d:Dt} (h:l.length<1000000):As l i δ d=some (.nx (δ.set i (some (.lst (l++[d]))))):=if_pos (fF h)
theorem k5 {i:Nat} (h:δ[i]?=some (some (.lst l))):q14 i f δ=(f δ).bind (As l i δ):=by unfold q14;rw [h];rfl
theorem o8 (cs:List Nat):Txt.join "" (cs.map fun c=>(⟨#[c]⟩:Str))=⟨cs.toArray⟩:=by
 have e0:("":Str).cps=#[]:=by decide +kernel
 have q:∀ (l:List Nat) (acc:Array Nat),(l.map fun c=>(⟨#[c]⟩:Str)).foldl (fun acc p=>acc++("":Str).cps++p.cps) acc=acc++l.toArray:=by
  intro l;induction l with
  | nil=>intro acc;simp
  | cons c l O =>intro acc;rw [qa5,qi2,O,e0];simp
 unfold Txt.join qh5.Str.glued;cases cs with
 | nil=>rfl
 | cons c r =>show (⟨(r.map fun c=>(⟨#[c]⟩:Str)).foldl (fun acc p=>acc++("":Str).cps++p.cps) (#[c]:Array Nat)⟩:Str)=_;rw [q];simp
theorem l4 (cs:List Nat) (h:cs.length<=1000):JoinOk "" (cs.map fun c=>(⟨#[c]⟩:Str))=true:=by
 unfold JoinOk
 have h1:∀ y∈cs.map (fun c=>(⟨#[c]⟩:Str)),y.length<=1:=fun y q=>by obtain ⟨c,_,rfl⟩:=qc9.mp q;exact nL _
 rw [StrLaws.joinFits h1 (by rw [qa1,show ("":Str).length=0 by decide +kernel];lia)];rfl
theorem gu:∀ ts:List Str,fA (ts.map .str)=some ts
 | []=>rfl
 | t::r=>by show (fA (r.map .str)).map (t::·)=_;rw [gu r];rfl
def sgD (cs:List Nat):List Dt:=cs.map fun c=>.str ⟨#[c]⟩
theorem u3 {cs:List Nat} (h:cs.length<=1000):gq (.str "") [.lst (sgD cs)]=some (.leaf (.str ⟨cs.toArray⟩)):=by
 have e:sgD cs=(cs.map fun c=>(⟨#[c]⟩:Str)).map .str:=by unfold sgD;rw [qd0];rfl
 show (fA (sgD cs)).bind _=_;rw [e,gu,qa3,if_pos (l4 cs h),o8]
theorem At {α:Type} {xs:List α} (O:0<=i) (h1:i<xs.length):∃ v,atI xs i=some v/\v∈xs:=by
 obtain ⟨n,rfl⟩:=Int.eq_ofNat_of_zero_le O;have q:n<xs.length:=by lia
 exact ⟨xs[n],vZ (by simp [q]),qi7 q⟩
theorem w8 (x:Str):x.length=x.cps.toList.length:=by show x.cps.size=_;simp
theorem w9 (q:x.length<=1000000) (U:0<=i) (h1:i<x.length):∃ c,aq (.str x) (.int i)=some (.leaf (.str ⟨#[c]⟩))/\c∈x.cps.toList:=by obtain ⟨c,e,O⟩:=At (xs:=x.cps.toList) U (by rw [<- w8];exact h1);refine ⟨c,?_,O⟩;rw [uZ (small q),e];rfl
theorem Cr:ck (.int i)=true:=rfl
theorem Cs:ck (.str x)=true:=rfl
theorem eqF_s:eqF (.str x) (.str y)=decide (x=y):=by show (x==y)=_;rw [qh2];simp
theorem eqF_i {x y:Int}:eqF (.int x) (.int y)=decide (x=y):=by show (x==y)=_;rw [qh2];simp
theorem sFor_d:d4 fi bb g δ=(fi δ).bind fun ds=>cC bb g ds δ:=rfl
theorem jO (a:Int) (q:0<n):∃ k:Nat,k<n/\a%(n:Int)=(k:Int):=by have O:=qn9 a (show (n:Int)≠0 by lia);have h1:=qk3 a (show (0:Int)<n by lia);exact ⟨(a%(n:Int)).toNat,by lia,by lia⟩
theorem atI_0 {α:Type} {l:List α}:atI l 0=l[0]?:=bW (k:=0)
theorem atI_1 {α:Type} {l:List α}:atI l 1=l[1]?:=bW (k:=1)
theorem atI_2 {α:Type} {l:List α}:atI l 2=l[2]?:=bW (k:=2)
theorem atI_3 {α:Type} {l:List α}:atI l 3=l[3]?:=bW (k:=3)
theorem atI_4 {α:Type} {l:List α}:atI l 4=l[4]?:=bW (k:=4)
open PySem
theorem vw:(qa0 "copy"=qa0 "store")=False:=eq_false (by decide +kernel)
theorem Au:(qa0 "copy"=qa0 "if")=False:=eq_false (by decide +kernel)
theorem Av:(qa0 "copy"=qa0 "go")=False:=eq_false (by decide +kernel)
theorem x9:(qa0 "copy"=qa0 "end")=False:=eq_false (by decide +kernel)
theorem ya:(qa0 "op"=qa0 "store")=False:=eq_false (by decide +kernel)
theorem B4:(qa0 "op"=qa0 "if")=False:=eq_false (by decide +kernel)
theorem B5:(qa0 "op"=qa0 "go")=False:=eq_false (by decide +kernel)
theorem A9:(qa0 "op"=qa0 "end")=False:=eq_false (by decide +kernel)
theorem xa:(qa0 "load"=qa0 "copy")=False:=eq_false (by decide +kernel)
theorem Aw:(qa0 "load"=qa0 "op")=False:=eq_false (by decide +kernel)
theorem vz:(qa0 "load"=qa0 "store")=False:=eq_false (by decide +kernel)
theorem xb:(qa0 "load"=qa0 "take")=False:=eq_false (by decide +kernel)
theorem yb:(qa0 "load"=qa0 "lay")=False:=eq_false (by decide +kernel)
theorem xc:(qa0 "load"=qa0 "hear")=False:=eq_false (by decide +kernel)
theorem yc:(qa0 "load"=qa0 "say")=False:=eq_false (by decide +kernel)
theorem Ax:(qa0 "load"=qa0 "if")=False:=eq_false (by decide +kernel)
theorem Ay:(qa0 "load"=qa0 "go")=False:=eq_false (by decide +kernel)
theorem yd:(qa0 "load"=qa0 "end")=False:=eq_false (by decide +kernel)
theorem vA:(qa0 "store"=qa0 "copy")=False:=eq_false (by decide +kernel)
theorem ye:(qa0 "store"=qa0 "op")=False:=eq_false (by decide +kernel)
theorem vC:(qa0 "store"=qa0 "load")=False:=eq_false (by decide +kernel)
theorem vD:(qa0 "store"=qa0 "take")=False:=eq_false (by decide +kernel)
theorem xf:(qa0 "store"=qa0 "lay")=False:=eq_false (by decide +kernel)
theorem vE:(qa0 "store"=qa0 "hear")=False:=eq_false (by decide +kernel)
theorem xg:(qa0 "store"=qa0 "say")=False:=eq_false (by decide +kernel)
theorem yf:(qa0 "store"=qa0 "if")=False:=eq_false (by decide +kernel)
theorem yg:(qa0 "store"=qa0 "go")=False:=eq_false (by decide +kernel)
theorem xh:(qa0 "store"=qa0 "end")=False:=eq_false (by decide +kernel)
theorem xi:(qa0 "take"=qa0 "copy")=False:=eq_false (by decide +kernel)
theorem Az:(qa0 "take"=qa0 "op")=False:=eq_false (by decide +kernel)
theorem xj:(qa0 "take"=qa0 "load")=False:=eq_false (by decide +kernel)
theorem vF:(qa0 "take"=qa0 "store")=False:=eq_false (by decide +kernel)
theorem yh:(qa0 "take"=qa0 "lay")=False:=eq_false (by decide +kernel)
theorem xk:(qa0 "take"=qa0 "hear")=False:=eq_false (by decide +kernel)
theorem yi:(qa0 "take"=qa0 "say")=False:=eq_false (by decide +kernel)
theorem AA:(qa0 "take"=qa0 "if")=False:=eq_false (by decide +kernel)
theorem AB:(qa0 "take"=qa0 "go")=False:=eq_false (by decide +kernel)
theorem yj:(qa0 "take"=qa0 "end")=False:=eq_false (by decide +kernel)
theorem yk:(qa0 "lay"=qa0 "copy")=False:=eq_false (by decide +kernel)
theorem Ba:(qa0 "lay"=qa0 "op")=False:=eq_false (by decide +kernel)
theorem yl:(qa0 "lay"=qa0 "load")=False:=eq_false (by decide +kernel)
theorem xl:(qa0 "lay"=qa0 "store")=False:=eq_false (by decide +kernel)
theorem ym:(qa0 "lay"=qa0 "take")=False:=eq_false (by decide +kernel)
theorem yn:(qa0 "lay"=qa0 "hear")=False:=eq_false (by decide +kernel)
theorem AC:(qa0 "lay"=qa0 "say")=False:=eq_false (by decide +kernel)
theorem Bb:(qa0 "lay"=qa0 "if")=False:=eq_false (by decide +kernel)
theorem Bc:(qa0 "lay"=qa0 "go")=False:=eq_false (by decide +kernel)
theorem AD:(qa0 "lay"=qa0 "end")=False:=eq_false (by decide +kernel)
theorem vG:(qa0 "hear"=qa0 "store")=False:=eq_false (by decide +kernel)
theorem AE:(qa0 "hear"=qa0 "if")=False:=eq_false (by decide +kernel)
theorem AF:(qa0 "hear"=qa0 "go")=False:=eq_false (by decide +kernel)
theorem yo:(qa0 "hear"=qa0 "end")=False:=eq_false (by decide +kernel)
theorem xm:(qa0 "say"=qa0 "store")=False:=eq_false (by decide +kernel)
theorem Bd:(qa0 "say"=qa0 "if")=False:=eq_false (by decide +kernel)
theorem Be:(qa0 "say"=qa0 "go")=False:=eq_false (by decide +kernel)
theorem AG:(qa0 "say"=qa0 "end")=False:=eq_false (by decide +kernel)
theorem yp:(qa0 "if"=qa0 "store")=False:=eq_false (by decide +kernel)
theorem B6:(qa0 "if"=qa0 "go")=False:=eq_false (by decide +kernel)
theorem Bf:(qa0 "if"=qa0 "end")=False:=eq_false (by decide +kernel)
theorem yq:(qa0 "go"=qa0 "store")=False:=eq_false (by decide +kernel)
theorem Bg:(qa0 "go"=qa0 "end")=False:=eq_false (by decide +kernel)
theorem xn:(qa0 "end"=qa0 "store")=False:=eq_false (by decide +kernel)
theorem Bh:(qa0 "end"=qa0 "if")=False:=eq_false (by decide +kernel)
theorem Bi:(qa0 "end"=qa0 "go")=False:=eq_false (by decide +kernel)
variable {acc:List Str}
theorem u4 {k:Str}:x∈j1 acc k↔x∈acc∨x=k:=by
 unfold j1;split
 . rename_i h;exact ⟨.inl,fun z=>z.elim id fun e=>e▸h⟩
 . simp
theorem fH:∀ {ss acc:List Str},x∈ss.foldl j1 acc↔x∈acc∨x∈ss
 | [],acc=>by simp
 | s::ss,acc=>by rw [qi2,fH,u4,qb3,or_assoc]
theorem onces_mem {ss:List Str}:x∈dJ ss↔x∈ss:=by unfold dJ;rw [fH];simp
theorem o9 {k:Str} (h:acc.Nodup):(j1 acc k).Nodup:=by
 unfold j1;split
 . exact h
 . rename_i hk;rw [qe8];exact ⟨h,by simp,fun a q b O e=>hk (by rw [qb7.mp O] at e;exact e▸q)⟩
theorem d9:∀ {ss acc:List Str},acc.Nodup->(ss.foldl j1 acc).Nodup
 | [],acc,h=>h
 | s::ss,acc,h=>by rw [qi2];exact d9 (o9 h)
theorem ny (ss:List Str):(dJ ss).Nodup:=d9 qt8
theorem cQ {α:Type} [DecidableEq α]:∀ {l m:List α},l.Nodup->(∀ x∈l,x∈m)->l.length<=m.length
 | [],m,_,_=>qj2 _
 | a::l,m,h,O=>by
  obtain ⟨h1,h2⟩:=qi1.mp h;have U:a∈m:=O a (.head _);have:=cQ (m:=m.erase a) h2 fun x q=>(List.mem_erase_of_ne (show x≠a from fun e=>h1 (by rw [<- e];exact q))).mpr (O x (.tail _ q))
  rw [List.length_erase_of_mem U] at this;have hp:=List.length_pos_of_mem U;rw [qi5];lia
inductive Atm where
 | nm (x:Str) | vl (i:Int)
inductive Rw where
 | copy (x:Str) (a:Atm) | op (x s:Str) (a b:Atm) | load (x c:Str) | store (c:Str) (a:Atm) | take (x f:Str) (a:Atm) | lay (f:Str) (a b:Atm) | hear (x:Str) | say (a:Atm) | iff (a:Atm) (g:Nat) | go (g:Nat) | fin (a:Atm)
def nms:List Atm->List Str
 | []=>[]
 | .nm x::r=>x::nms r
 | .vl _::r=>nms r
def Rw.outs (n:Nat):Rw->List Nat
 | .go g=>[g] | .iff _ g=>[g,n+1] | .fin _=>[]
 | _=>[n+1]
theorem Rw.outs_len (r:Rw) (n:Nat):(r.outs n).length<=2:=by cases r<;>simp [Rw.outs]
section
variable {rows:List Rw} {B:List Str} {found:List (List Str)}
end
def Atm.d:Atm->Dt
 | .nm x=>.str x
 | .vl i=>.int i
noncomputable def Rw.d:Rw->Dt
 | .copy x a=>.tup [.str "copy",.str x,a.d]
 | .op x s a b=>.tup [.str "op",.str x,.str s,a.d,b.d]
 | .load x c=>.tup [.str "load",.str x,.str c]
 | .store c a=>.tup [.str "store",.str c,a.d]
 | .take x f a=>.tup [.str "take",.str x,.str f,a.d]
 | .lay f a b=>.tup [.str "lay",.str f,a.d,b.d]
 | .hear x=>.tup [.str "hear",.str x]
 | .say a=>.tup [.str "say",a.d]
 | .iff a g=>.tup [.str "if",a.d,.int g]
 | .go g=>.tup [.str "go",.int g]
 | .fin a=>.tup [.str "end",a.d]
def dI (j:Nat):Dt:=.int (j:Int)
def dS (l:List Str):Dt:=.lst (l.map .str)
def dR (rows:List Rw):Dt:=.tup (rows.map Rw.d)
theorem bR {α:Type} {f h:α->Dt}:∀ {l:List α},(∀ a∈l,∃ δ1,bb (f a) δ=some δ1/\ft δ1=some true/\fe δ1=some (h a))->cM bb ft fe δ (l.map f)=some (l.map h)
 | [],_=>rfl
 | a::l,q=>by obtain ⟨δ1,h1,h2,h3⟩:=q a qe5;rw [qa5];unfold cM;rw [h1,qa3,h2,qa3,if_pos rfl,h3,qa3,bR fun e O=>q e (qd3 _ O)];rfl
theorem cK {α:Type} {f h:α->Dt} {p:α->Bool}:∀ {l:List α},(∀ a∈l,∃ δ1,bb (f a) δ=some δ1/\ft δ1=some (p a)/\(p a=true->fe δ1=some (h a)))->cM bb ft fe δ (l.map f)=some ((l.filter p).map h)
 | [],_=>rfl
 | a::l,q=>by
  obtain ⟨δ1,h1,h2,h3⟩:=q a qe5;have O:=cK (l:=l) fun e U=>q e (qd3 _ U)
  rw [qa5];unfold cM;rw [h1,qa3,h2,qa3];cases hp:p a with
  | true =>rw [if_pos rfl,h3 hp,qa3,O,zc1 hp];rfl
  | false =>rw [if_neg (by simp),O,List.filter_cons_of_neg (by simp [hp])]
theorem r6 {α:Type} {f:α->Dt}:∀ (l:List α) (i:Nat),dP i (l.map f)=(l.mapIdx fun k a=>Dt.tup [.int ((i+k:Nat):Int),f a])
 | [],_=>rfl
 | a::l,i=>by rw [qa5,dP,r6 l (i+1),List.mapIdx_cons];congr 1;congr 1;funext k a;rw [show i+1+k=i+(k+1) by lia]
theorem jP {α:Type} {f:α->Dt} {h:Nat->α->Dt}:∀ {l:List α} (i:Nat),(∀ k a,∃ δ1,bb (.tup [.int ((k:Nat):Int),f a]) δ=some δ1/\fe δ1=some (h k a))->cM bb dm fe δ (dP i (l.map f))=some (l.mapIdx fun k a=>h (i+k) a)
 | [],_,_=>rfl
 | a::l,i,q=>by obtain ⟨δ1,h1,h3⟩:=q i a;rw [qa5,dP];unfold cM;rw [h1,qa3];show ((fe δ1).bind fun y=>_)=_;rw [h3,qa3,jP (i+1) q,List.mapIdx_cons];show some _=some _;congr 1;congr 1;congr 1;funext k a;rw [show i+1+k=i+(k+1) by lia]
theorem l5 (l:List Str):(l.map Dt.str).all ck=true:=by rw [qi6];intro x q;obtain ⟨y,_,rfl⟩:=qc9.mp q;rfl
theorem xp (l:List Str) (x:Str):((l.map Dt.str).any fun y=>eqF y (.str x))=decide (x∈l):=by
 induction l with
 | nil=>rfl
 | cons a l q =>
  rw [qa5,qk7,q,show eqF (.str a) (.str x)=decide (a=x) from rfl];by_cases h:a=x
  . simp [h]
  . have:¬ x=a:=fun z=>h z.symm
    simp [h,this]
theorem jQ {l:List Str}:bA neg (.str x) (.lst (l.map .str))=some (.leaf (.bl (if neg then !decide (x∈l) else decide (x∈l)))):=by rw [B1 (by rw [l5];rfl),xp]
theorem nz {l:List Str} (h:l.length<64):g5 [.lst (l.map .str)]=some (.lst ((f6 (dJ l)).map .str)):=by unfold g5 wU;dsimp only;rw [gu,qa3,if_pos ⟨by lia,Nat.lt_of_le_of_lt (rW l) h⟩]
def extL (l m:List Dt) (i:Nat) (δ:De):Option Out:=if l.length+m.length<=qb0 then some (.nx (δ.set i (some (.lst (l++m))))) else none
theorem qx {i:Nat} (h:l.length+m.length<=1000000):extL l m i δ=some (.nx (δ.set i (some (.lst (l++m))))):=if_pos (small h)
theorem yr {i:Nat} {f:De->Option T} (h:δ[i]?=some (some (.lst l))) (q:f δ=some (.lst m)):q48 i f δ=extL l m i δ:=by unfold q48;rw [h];dsimp only;rw [q];rfl
theorem bT {i:Nat} {f:De->Option T} {t:T} (h:f δ=some t):aP i f δ=some (.nx (δ.set i (some t))):=by unfold aP;rw [h];rfl
theorem AH (h:c δ=some true):sIf c g1 g2 δ=g1 δ:=by unfold sIf;rw [h];rfl
theorem AI (h:c δ=some false):sIf c g1 g2 δ=g2 δ:=by unfold sIf;rw [h];rfl
theorem i9 (h:c δ=some true) (q:g δ=some (.nx δ1)):bt c g (n+1) δ=bt c g n δ1:=by
 conv=>lhs;unfold bt
 rw [h,qa3,if_pos rfl,q];rfl
theorem u5 {t:T} (h:c δ=some true) (q:g δ=some (.rt t)):bt c g (n+1) δ=some (.rt t):=by
 conv=>lhs;unfold bt
 rw [h,qa3,if_pos rfl,q];rfl
theorem l7 (h:c δ=some false):bt c g (n+1) δ=some (.nx δ):=by
 conv=>lhs;unfold bt
 rw [h];rfl
theorem fQ {m:Nat} {t:T} (h:g (ds.map (fun d=>some (T.leaf d))++qc3 (m-ds.length) none)=some (.rt t)):b8 m g ds=some t:=by unfold b8;rw [h]
theorem yt {i:Nat} {fk:De->Option Dt} {l:List (Key×Dt)} {kd d:Dt} {k:Key} (h:δ[i]?=some (some (.dct l))) (hk:fk δ=some kd) (q:oC kd=some k) (O:fe δ=some d) (W:l.length<1000000) (U:(l.map (·.1)).Nodup):rE i fk fe δ=some (.nx (δ.set i (some (.dct (gr l k d))))):=by unfold rE;rw [O,hk,qa3,qa3,h];dsimp only;rw [q,qa3,if_pos ⟨fF W,U⟩]
theorem pb {i:Nat} {d:Dt} (h:δ[i]?=some (some (.lst l))) (q:f δ=some d) (O:l.length<1000000):q14 i f δ=some (.nx (δ.set i (some (.lst (l++[d]))))):=by unfold q14;rw [h];dsimp only;rw [q,qa3,if_pos (fF O)]
theorem AJ {i j:Nat} {d:Dt} (h:δ[i]?=some (some (.lst (l++[d])))):uM j i δ=some (.nx ((δ.set i (some (.lst l))).set j (some (.leaf d)))):=by unfold uM;rw [h];simp
section
variable {α:Type} [DecidableEq α]
abbrev CF (α:Type):=List (α×Option α)
def ks (q:CF α):List α:=q.map (·.1)
def gv (h:α) (q:CF α) (t:α):CF α:=if t∈ks q then q else q++[(t,some h)]
def ce (h:α) (q:CF α) (ts:List α):CF α:=ts.foldl (gv h) q
noncomputable def bfs (beh:α->List α) (fit:α->Bool):Nat->CF α->Nat->List (List α)->Option (Option α×CF α×List (List α))
 | 0,_,_,_=>none
 | n+1,q,k,J=>match q[k]? with
  | none=>some (none,q,J)
  | some (h,_)=>if fit h then some (some h,q,J) else bfs beh fit n (ce h q (beh h)) (k+1) (J++[beh h])
def bv (q:CF α) (s:α):CF α:=if s∈ks q then q else q++[(s,none)]
structure BI (beh:α->List α) (fit:α->Bool) (starts:List α) (cf:CF α) (k:Nat):Prop where
 nd:(ks cf).Nodup
 sub:∀ s∈starts,s∈ks cf
 par:∀ (i:Nat) (t p:α),cf[i]?=some (t,some p)->∃ j q,j<i/\cf[j]?=some (p,q)/\t∈beh p/\fit p=false
 st:∀ (i:Nat) (t:α),cf[i]?=some (t,none)->t∈starts
 done:∀ (i:Nat) (t:α) (q:Option α),i<k->cf[i]?=some (t,q)->fit t=false/\∀ u∈beh t,u∈ks cf
variable {beh:α->List α} {fit:α->Bool} {starts:List α}
theorem dW (q cf':CF α):ks (q++cf')=ks q++ks cf':=qc6
theorem fR {O:CF α} {t:α} (h:t∈ks O):∃ (i:Nat) (q:Option α),O[i]?=some (t,q):=by obtain ⟨p,hp,rfl⟩:=qc9.mp h;obtain ⟨i,hi,e⟩:=qx5 hp;exact ⟨i,p.2,by rw [gQ hi,e]⟩
theorem fS {cf:CF α} {t:α} {i:Nat} {q:Option α} (h:cf[i]?=some (t,q)):t∈ks cf:=qc9.mpr ⟨(t,q),qc7 h,rfl⟩
theorem da (h:α):∀ (ts:List α) (cf:CF α),∃ e,ce h cf ts=cf++e/\(∀ p∈e,p.2=some h/\p.1∈ts)/\((ks cf).Nodup->(ks (ce h cf ts)).Nodup)/\∀ t∈ts,t∈ks (ce h cf ts)
 | [],cf=>⟨[],by simp [ce],by simp,fun z=>z,by simp⟩
 | t::ts,cf=>by
  obtain ⟨e,h1,h2,h3,h4⟩:=da h ts (gv h cf t);have e0:ce h cf (t::ts)=ce h (gv h cf t) ts:=rfl;rw [e0]
  have W:t∈ks (ce h (gv h cf t) ts):=by
   rw [h1,dW];refine qg2 _ ?_;unfold gv;split
   . assumption
   . rw [dW];exact qc5 _ (by simp [ks])
  have O:∀ u∈t::ts,u∈ks (ce h (gv h cf t) ts):=fun u U=>by
   rcases qb3.mp U with rfl | U
   . exact W
   . exact h4 u U
  by_cases q:t∈ks cf
  . have:gv h cf t=cf:=if_pos q;rw [this] at h1 h3 ⊢;refine ⟨e,h1,fun p hp=>⟨(h2 p hp).1,qd3 _ (h2 p hp).2⟩,h3,?_⟩;rw [this] at O;exact O
  . have:gv h cf t=cf++[(t,some h)]:=if_neg q;rw [this] at h1 h3 ⊢;refine ⟨(t,some h)::e,by rw [h1,qj1];rfl,fun p hp=>?_,fun nd=>h3 ?_,?_⟩
    . rcases qb3.mp hp with rfl | hp
      . exact ⟨rfl,qe5⟩
      . exact ⟨(h2 p hp).1,qd3 _ (h2 p hp).2⟩
    . rw [dW];refine qe8.mpr ⟨nd,by simp [ks],fun a Z b Y=>?_⟩;simp [ks] at Y;subst Y;rintro rfl;exact q Z
    . rw [this] at O;exact O
theorem BI.step {O:CF α} {k:Nat} {h:α} {q:Option α} (B:BI beh fit starts O k) (hk:O[k]?=some (h,q)) (hf:fit h=false):BI beh fit starts (ce h O (beh h)) (k+1):=by
 obtain ⟨e,h1,h2,h3,h4⟩:=da h (beh h) O
 have keep:∀ {i:Nat} {x:α×Option α},O[i]?=some x->(ce h O (beh h))[i]?=some x:=fun {i x} z=>by rw [h1,qc4 (gX z).1];exact z
 have U:∀ {i:Nat} {x:α×Option α},(ce h O (beh h))[i]?=some x->O[i]?=some x∨(x.2=some h/\x.1∈beh h/\O.length<=i):=fun {i x} z=>by
  rw [h1] at z;by_cases hi:i<O.length
  . rw [qc4 hi] at z;exact .inl z
  . rw [gR (by lia)] at z;have:=h2 _ (qc7 z);exact .inr ⟨this.1,this.2,by lia⟩
 have W:∀ {t:α},t∈ks O->t∈ks (ce h O (beh h)):=fun {t} z=>by rw [h1,dW];exact qg2 _ z
 refine ⟨h3 B.nd,fun s hs=>W (B.sub s hs),fun i t p z=>?_,fun i t z=>?_,fun i t Y hi z=>?_⟩
 . rcases U z with z | ⟨z1,z2,z3⟩
   . obtain ⟨j,Y,g1,g2,g3⟩:=B.par i t p z;exact ⟨j,Y,g1,keep g2,g3⟩
   . cases z1;exact ⟨k,q,qc2 (gX hk).1 z3,keep hk,z2,hf⟩
 . rcases U z with z | ⟨z1,_,_⟩
   . exact B.st i t z
   . cases z1
 . have hk':=(gX hk).1;rcases U z with z | ⟨_,_,z3⟩
   . by_cases hik:i=k
     . subst hik;rw [hk] at z;cases z;exact ⟨hf,fun u Z=>h4 u Z⟩
     . obtain ⟨g1,g2⟩:=B.done i t Y (by lia) z;exact ⟨g1,fun u Z=>W (g2 u Z)⟩
   . lia
theorem jR {U:List α} {h:α} {ts:List α} {q:CF α} (O:∀ t∈ks q,t∈U) (W:∀ t∈ts,t∈U):∀ t∈ks (ce h q ts),t∈U:=fun t z=>by
 obtain ⟨e,h1,h2,_,_⟩:=da h ts q;rw [h1,dW] at z;rcases qf8.mp z with z | z
 . exact O t z
 . obtain ⟨p,hp,rfl⟩:=qc9.mp z;exact W _ (h2 p hp).2
theorem nA {U:List α} (Z:∀ t∈U,∀ u∈beh t,u∈U):∀ (n:Nat) (O:CF α) (k:Nat) (J:List (List α)),BI beh fit starts O k->(∀ t∈ks O,t∈U)->k<=O.length->U.length<n+k→
  ∃ f W J' k',bfs beh fit n O k J=some (f,W,J')/\BI beh fit starts W k'/\(∀ t∈ks W,t∈U)/\(f=none->k'=W.length)/\∀ h,f=some h->fit h=true/\h∈ks W
 | 0,O,k,J,B,Y,hk,hn=>by have:=cQ B.nd Y;rw [show (ks O).length=O.length from qa1 ..] at this;lia
 | n+1,O,k,J,B,Y,hk,hn=>by
  unfold bfs;cases q:O[k]? with
  | none =>have:=qh3.mp q;exact ⟨none,O,J,k,rfl,B,Y,fun _=>by lia,fun h z=>nomatch z⟩
  | some x =>
   obtain ⟨h,p⟩:=x;dsimp only;cases hf:fit h with
   | true =>exact ⟨some h,O,J,k,rfl,B,Y,fun z=>(nomatch z),fun h' z=>by cases z;exact ⟨hf,fS q⟩⟩
   | false =>have hk':=(gX q).1;obtain ⟨e,h1,_⟩:=da h (beh h) O;exact nA Z n _ (k+1) _ (B.step q hf) (jR Y (Z h (Y h (fS q)))) (by rw [h1,qb5];lia) (by lia)
theorem BI.start:BI beh fit starts (starts.foldl bv []) 0:=by
 have Y:∀ (ss:List α) (O:CF α),(ks O).Nodup->(∀ p∈O,p.2=none/\p.1∈starts)->(∀ s∈ss,s∈starts)->(ks (ss.foldl bv O)).Nodup/\(∀ p∈ss.foldl bv O,p.2=none/\p.1∈starts)/\∀ s,(s∈ss∨s∈ks O)->s∈ks (ss.foldl bv O):=fun ss=>by
  induction ss with
  | nil=>intro O h1 h2 _;exact ⟨h1,h2,fun s W=>W.elim (fun z=>nomatch z) id⟩
  | cons s ss ih =>
   intro O h1 h2 h3;rw [qi2]
   have W:s∈ks (bv O s):=by
    unfold bv;split
    . assumption
    . rw [dW];exact qc5 _ (by simp [ks])
   have hm:∀ t∈ks O,t∈ks (bv O s):=fun t U=>by
    unfold bv;split
    . exact U
    . rw [dW];exact qg2 _ U
   obtain ⟨a,b,c⟩:=ih (bv O s) (by
    unfold bv;split
    . exact h1
    . rename_i q;rw [dW];refine qe8.mpr ⟨h1,by simp [ks],fun a ha b Z=>?_⟩;simp [ks] at Z;subst Z;rintro rfl;exact q ha) (fun p hp=>by
    unfold bv at hp;split at hp
    . exact h2 p hp
    . rcases qf8.mp hp with hp | hp
      . exact h2 p hp
      . cases qb7.mp hp;exact ⟨rfl,h3 _ qe5⟩) fun t U=>h3 t (qd3 _ U)
   refine ⟨a,b,fun t U=>c t ?_⟩;rcases U with U | U
   . rcases qb3.mp U with rfl | U
     . exact .inr W
     . exact .inl U
   . exact .inr (hm t U)
 obtain ⟨a,b,c⟩:=Y starts [] (by simp [ks]) (by simp) fun s W=>W
 exact ⟨a,fun s W=>c s (.inl W),fun i t p z=>(by have:=(b _ (qc7 z)).1;cases this),fun i t z=>(b _ (qc7 z)).2,fun i t q hi=>by lia⟩
def look (q:CF α) (t:α):Option (Option α):=(q.find? fun p=>decide (p.1=t)).map (·.2)
theorem l8:∀ {O:CF α} {i:Nat} {t:α} {q:Option α},(ks O).Nodup->O[i]?=some (t,q)->look O t=some q
 | [],i,t,q,_,h=>by simp at h
 | p::O,0,t,q,U,h=>by simp at h;subst h;simp [look]
 | p::O,i+1,t,q,U,h=>by
  have h:O[i]?=some (t,q):=by simpa using h
  have U:(p.1::ks O).Nodup:=U;have W:p.1≠t:=fun z=>(qi1.mp U).1 (z▸fS h)
  have:=l8 (qi1.mp U).2 h;unfold look at this ⊢;rw [zc8 (by simpa using W)];exact this
inductive Tr (cf:CF α):α->List α->Prop
 | one {t:α} (h:look cf t=some none):Tr cf t [t]
 | more {t p:α} {r:List α} (h:look cf t=some (some p)) (r':Tr cf p r):Tr cf t (t::r)
inductive Wy (beh:α->List α) (fit:α->Bool) (starts:List α):α->List α->Prop
 | one {t:α} (h:t∈starts):Wy beh fit starts t [t]
 | more {t p:α} {r:List α} (h:t∈beh p) (hf:fit p=false) (w:Wy beh fit starts p r):Wy beh fit starts t (t::r)
theorem BI.trace {O:CF α} {k:Nat} (B:BI beh fit starts O k):∀ (i:Nat) (t:α) (q:Option α),O[i]?=some (t,q)->∃ r,Tr O t r/\Wy beh fit starts t r/\r.length<=i+1:=fun i=>by
 induction i using Nat.strongRecOn with
 | ind i Y =>
  intro t q h;cases q with
  | none=>exact ⟨[t],.one (l8 B.nd h),.one (B.st i t h),by simp⟩
  | some p =>obtain ⟨j,U,h1,h2,h3,W⟩:=B.par i t p h;obtain ⟨r,g1,g2,Z⟩:=Y j h1 p U h2;exact ⟨t::r,.more (l8 B.nd h) g1,.more h3 W g2,by simp;lia⟩
inductive Rch (beh:α->List α) (starts:List α):α->Prop
 | one {t:α} (h:t∈starts):Rch beh starts t
 | more {t p:α} (w:Rch beh starts p) (h:t∈beh p):Rch beh starts t
theorem BI.none {cf:CF α} (B:BI beh fit starts cf cf.length) {t:α} (h:Rch beh starts t):fit t=false:=by
 have O:t∈ks cf:=by
  induction h with
  | one h=>exact B.sub _ h
  | more w h U =>obtain ⟨i,q,e⟩:=fR U;exact (B.done i _ q (gX e).1 e).2 _ h
 obtain ⟨i,q,e⟩:=fR O;exact (B.done i t q (gX e).1 e).1
end
inductive Mrk where
 | fresh | seen | safe | spoilt
deriving DecidableEq
def Rw.gets:Rw->Str->Bool
 | .load _ c,nm=>decide (c=nm) | .take _ f _,nm=>decide (f=nm)
 | _,_=>false
def Rw.puts:Rw->Str->Bool
 | .store c _,nm=>decide (c=nm) | .lay f _ _,nm=>decide (f=nm)
 | _,_=>false
def Rw.stores:Rw->Str->Bool
 | .store c _,nm=>decide (c=nm)
 | _,_=>false
variable {r:Rw}
theorem Rw.excl {nm:Str} (h:r.gets nm=true):r.puts nm=false:=by cases r<;>first | cases h;done | rfl
def mb:Mrk->Rw->Str->Mrk
 | .fresh,r,nm=>if r.gets nm then .seen else if r.stores nm then .safe else .fresh
 | .seen,r,nm=>if r.puts nm then .spoilt else .seen
 | m,_,_=>m
section
variable (rows:List Rw) (kept:List Nat) (nm:Str)
def ee (t:Nat×Mrk):List (Nat×Mrk):=match rows[t.1]? with
 | none=>[]
 | some r=>if mb t.2 r nm=.safe then [] else ((r.outs t.1).filter fun w=>!decide (w∈kept)).map fun w=>(w,mb t.2 r nm)
def fI (t:Nat×Mrk):Bool:=match rows[t.1]? with
 | none=>false
 | some r=>decide (mb t.2 r nm=.spoilt)
def bN:List (Nat×Mrk):=(0::kept).map fun k=>(k,.fresh)
def gA (k:Nat):Bool:=match rows[k]? with | some r=>r.gets nm | none=>false
def pA (k:Nat):Bool:=match rows[k]? with | some r=>r.puts nm | none=>false
def sA (k:Nat):Bool:=match rows[k]? with | some r=>r.stores nm | none=>false
end
section
variable {rows:List Rw} {kept:List Nat} {nm:Str}
theorem yu {k:Nat} (h:rows[k]?=some r):gA rows nm k=r.gets nm:=by unfold gA;rw [h]
theorem u6 {k:Nat} (h:rows[k]?=some r):pA rows nm k=r.puts nm:=by unfold pA;rw [h]
theorem B7 {k:Nat} (h:rows[k]?=some r):sA rows nm k=r.stores nm:=by unfold sA;rw [h]
theorem xq {k:Nat} (h:gA rows nm k=true):pA rows nm k=false:=by
 unfold gA at h;unfold pA;split at h
 . rename_i r e;exact Rw.excl h
 . cases h
theorem k6 {m:Mrk} (h:mb m r nm=.spoilt):m=.spoilt∨(m=.seen/\r.puts nm=true):=by
 cases m with
 | fresh=>simp only [mb] at h;split at h<;>(try split at h)<;>cases h
 | seen =>
  simp only [mb] at h;cases h1:r.puts nm<;>simp [h1] at h
  exact .inr ⟨rfl,rfl⟩
 | safe=>cases h
 | spoilt=>exact .inl rfl
theorem u7 {p:Nat->Bool}:∀ {n g:Nat},g<n->p g=true->(∀ j<g,p j=false)->∃ r,(qb8 n).filter p=g::r:=fun {n g} U hp q=>by
 obtain ⟨d,rfl⟩:∃ d,n=g+(d+1):=⟨n-g-1,by lia⟩;rw [List.range_add,List.filter_append]
 have e:(qb8 g).filter p=[]:=by rw [zc9];intro a O;rw [q a (qd1.mp O)];decide
 rw [e,qj8,qt0];simp [hp]
structure Kd (rows:List Rw) (nm:Str) (shelf:Bool):Prop where
 c:shelf=false->∀ k,pA rows nm k=sA rows nm k
 s:shelf=true->∀ k,sA rows nm k=false
end
section
variable {rows:List Rw} {kept:List Nat} {nm:Str}
theorem u8 {t u:Nat×Mrk} (h:u∈ee rows kept nm t):∃ r,rows[t.1]?=some r/\mb t.2 r nm≠.safe/\u.1∈r.outs t.1/\u.1∉kept/\u.2=mb t.2 r nm:=by
 unfold ee at h;split at h
 . cases h
 . rename_i r e;split at h
   . cases h
   . rename_i q;obtain ⟨w,O,rfl⟩:=qc9.mp h;obtain ⟨h1,h2⟩:=ql2.mp O;exact ⟨r,e,q,h1,by simpa using h2,rfl⟩
theorem pd {k w:Nat} {m:Mrk} (e:rows[k]?=some r) (O:mb m r nm≠.safe) (q:w∈r.outs k) (hk:w∉kept):(w,mb m r nm)∈ee rows kept nm (k,m):=by unfold ee;simp only [e];rw [if_neg O];exact qc9.mpr ⟨w,ql2.mpr ⟨q,by simpa using hk⟩,rfl⟩
end
end L2
local macro_rules | `(tactic| walk_at "d") => `(tactic| simp -implicitDefEqProofs only [L2.Ar, L2.Co, L2.jN, L2.fG, L2.B3, L2.bZ, L2.aP, L2.bq, L2.ku, L2.qw, L2.i8, L2.g8, L2.kB_d, L2.kT_d, L2.sFor_d, L2.rn, L2.oo, L2.rD, L2.rE, L2.toT, L2.toD, L2.T.d, L2.kD, L2.vL, L2.vB, L2.d2, L2.tB2, L2.dN, L2.iS, L2.iG, L2.fOr_d, L2.zH, L2.vAnd_d, L2.vOr_d, L2.vIf_d, L2.ak, L2.aa, L2.vTup_d, L2.u2, L2.cb, L2.Cp, L2.hV, L2.ao, L2.cF, L2.kA, L2.Cq, L2.vSl, L2.pZ, L2.mQ, L2.mU, L2.xS, L2.mT, L2.rC, L2.fIt, L2.fu, L2.ay, L2.dC, L2.dm, L2.gAdd_i, L2.atI_0, L2.atI_1, L2.atI_2, L2.atI_3, L2.atI_4, L2.B1, L2.gIn_t, L2.Cr, L2.Cs, L2.eqF_s, L2.eqF_i, qo3, zi3, qk7, List.any_nil, L2.gSub_i, L2.Ap, L2.gMul_r, L2.o5, L2.Cn, L2.gMod_w, L2.Ao, L2.gEq_ii, L2.gEq_ss, L2.uY, L2.gNe_ss, L2.gIs_n, L2.mM, L2.qv, L2.xZ, L2.B0, L2.gLen_l, L2.gLen_t, L2.B2, L2.itD_l, L2.itD_t, L2.truD_b, L2.asB_b, L2.asBl_b, L2.asI_i, qa5, qs0, qi5, ze1, ql8, qj8, qc3, qo5, qi3, qy6, qs5, qa3, Option.bind_none, ql1, Option.map_none, qr0, Option.join_none, Nat.reduceAdd, Nat.reduceSub, Nat.reduceLeDiff, zi4, zi5, eq_self, Int.reduceNeg, Int.reduceLE, if_true, if_false, ite_true, ite_false, qf0, decide_true, decide_false, zh4, zg0, qs4, qm4, zi6, ze0, qs2, zb2, qt7, zf6, String.reduceBEq, reduceCtorEq])
local macro_rules | `(tactic| walk_at "k") => `(tactic| simp -implicitDefEqProofs only [L2.Ar, L2.Co, L2.jN, L2.fG, L2.B3, L2.bZ, L2.aP, L2.bq, L2.ku, L2.qw, L2.i8, L2.g8, L2.kB_d, L2.kT_d, L2.sFor_d, L2.rn, L2.oo, L2.rD, L2.rE, L2.toT, L2.toD, L2.T.d, L2.kD, L2.vL, L2.vB, L2.d2, L2.tB2, L2.dN, L2.iS, L2.iG, L2.fOr_d, L2.zH, L2.vAnd_d, L2.vOr_d, L2.vIf_d, L2.ak, L2.aa, L2.vTup_d, L2.u2, L2.cb, L2.Cp, L2.hV, L2.ao, L2.cF, L2.kA, L2.Cq, L2.vSl, L2.pZ, L2.mQ, L2.mU, L2.xS, L2.mT, L2.rC, L2.fIt, L2.fu, L2.ay, L2.dC, L2.dm, L2.gAdd_i, L2.atI_0, L2.atI_1, L2.atI_2, L2.atI_3, L2.atI_4, L2.B1, L2.gIn_t, L2.Cr, L2.Cs, L2.eqF_s, L2.eqF_i, qo3, zi3, qk7, List.any_nil, L2.gSub_i, L2.Ap, L2.gMul_r, L2.o5, L2.Cn, L2.gMod_w, L2.Ao, L2.gEq_ii, L2.gEq_ss, L2.uY, L2.gNe_ss, L2.gIs_n, L2.mM, L2.qv, L2.xZ, L2.B0, L2.gLen_l, L2.gLen_t, L2.B2, L2.itD_l, L2.itD_t, L2.truD_b, L2.asB_b, L2.asBl_b, L2.asI_i, qa5, qs0, qi5, ze1, ql8, qj8, qc3, qo5, qi3, qy6, qs5, qa3, Option.bind_none, ql1, Option.map_none, qr0, Option.join_none, Nat.reduceAdd, Nat.reduceSub, Nat.reduceLeDiff, zi4, zi5, eq_self, Int.reduceNeg, Int.reduceLE, if_true, if_false, ite_true, ite_false, qf0, decide_true, decide_false, zh4, zg0, qs4, qm4, zi6, ze0, qs2, zb2, qt7, zf6, String.reduceBEq, reduceCtorEq, L2.vw, L2.Au, L2.Av, L2.x9, L2.ya, L2.B4, L2.B5, L2.A9, L2.xa, L2.Aw, L2.vz, L2.xb, L2.yb, L2.xc, L2.yc, L2.Ax, L2.Ay, L2.yd, L2.vA, L2.ye, L2.vC, L2.vD, L2.xf, L2.vE, L2.xg, L2.yf, L2.yg, L2.xh, L2.xi, L2.Az, L2.xj, L2.vF, L2.yh, L2.xk, L2.yi, L2.AA, L2.AB, L2.yj, L2.yk, L2.Ba, L2.yl, L2.xl, L2.ym, L2.yn, L2.AC, L2.Bb, L2.Bc, L2.AD, L2.vG, L2.AE, L2.AF, L2.yo, L2.xm, L2.Bd, L2.Be, L2.AG, L2.yp, L2.B6, L2.Bf, L2.yq, L2.Bg, L2.xn, L2.Bh, L2.Bi])
namespace P34
open PySem L2
def ms:Mrk->Str
 | .fresh=>"fresh" | .seen=>"seen" | .safe=>"safe" | .spoilt=>"spoilt"
theorem l9:∀ {a b:Mrk},ms a=ms b->a=b:=fun {a b} h=>by cases a<;>cases b<;>first | rfl | (exfalso;revert h;unfold ms;decide +kernel)
theorem B8 (a b:Mrk):decide (ms a=ms b)=decide (a=b):=by rw [decide_eq_decide];exact ⟨l9,fun h=>by rw [h]⟩
theorem B9 (r:Rw) (nm:Str) (x:Option T):tB2 (bA false) (toD (d2 aq (vB 1) (kD (.int 0)))) (toD (bG (aa (kD (.str "load")) (aa (kD (.str "take")) ak)))) [x,some (.leaf r.d),some (.leaf (.str nm))]=some (match r with | .load _ _=>true | .take _ _ _=>true | _=>false):=by cases r<;>simp only [Rw.d]<;>walk_at "k"
theorem Ca (r:Rw) (nm:Str) (x:Option T):tB2 (bA false) (toD (d2 aq (vB 1) (kD (.int 0)))) (toD (bG (aa (kD (.str "store")) (aa (kD (.str "lay")) ak)))) [x,some (.leaf r.d),some (.leaf (.str nm))]=some (match r with | .store _ _=>true | .lay _ _ _=>true | _=>false):=by cases r<;>simp only [Rw.d]<;>walk_at "k"
theorem Cb (r:Rw) (nm:Str) (x:Option T):tB2 (gEq false) (toD (d2 aq (vB 1) (kD (.int 0)))) (kD (.str "store")) [x,some (.leaf r.d),some (.leaf (.str nm))]=some (match r with | .store _ _=>true | _=>false):=by cases r<;>simp only [Rw.d]<;>walk_at "k"
theorem ma (a b:Mrk) (x y:Option T):tB2 (gEq false) (vB 0) (kD (.str (ms b))) [some (.leaf (.str (ms a))),x,y]=some (decide (a=b)):=by rw [<- B8];rfl
theorem qy (m:Mrk) (r:Rw) (nm:Str):z24 [.str (ms m),r.d,.str nm]=some (.leaf (.str (ms (mb m r nm)))):=by
 have q:dl (tB2 (gEq false) (vB 0) (kD dw)) (dl (tB2 (bA false) (toD (d2 aq (vB 1) (kD (.int 0)))) (toD (bG (aa (kD (.str "load")) (aa (kD (.str "take")) ak))))) (tB2 (gEq false) (toD (d2 aq (vB 1) (kD (.int 2)))) (vB 2))) [some (.leaf (.str (ms m))),some (.leaf r.d),some (.leaf (.str nm))]=some (decide (m=.fresh)&&r.gets nm):=by
  rw [iG,show tB2 (gEq false) (vB 0) (kD dw) [some (.leaf (.str (ms m))),some (.leaf r.d),some (.leaf (.str nm))]=_ from ma m .fresh _ _];cases decide (m=.fresh)
  . rfl
  . rw [i8,iG,B9];cases r<;>rfl
 have O:dl (tB2 (gEq false) (vB 0) (kD dw)) (dl (tB2 (gEq false) (toD (d2 aq (vB 1) (kD (.int 0)))) (kD (.str "store"))) (tB2 (gEq false) (toD (d2 aq (vB 1) (kD (.int 1)))) (vB 2))) [some (.leaf (.str (ms m))),some (.leaf r.d),some (.leaf (.str nm))]=some (decide (m=.fresh)&&r.stores nm):=by
  rw [iG,show tB2 (gEq false) (vB 0) (kD dw) [some (.leaf (.str (ms m))),some (.leaf r.d),some (.leaf (.str nm))]=_ from ma m .fresh _ _];cases decide (m=.fresh)
  . rfl
  . rw [i8,iG,Cb];cases r<;>rfl
 have U:dl (tB2 (gEq false) (vB 0) (kD jK)) (dl (tB2 (bA false) (toD (d2 aq (vB 1) (kD (.int 0)))) (toD (bG (aa (kD (.str "store")) (aa (kD (.str "lay")) ak))))) (tB2 (gEq false) (toD (d2 aq (vB 1) (kD (.int 1)))) (vB 2))) [some (.leaf (.str (ms m))),some (.leaf r.d),some (.leaf (.str nm))]=some (decide (m=.seen)&&r.puts nm):=by
  rw [iG,show tB2 (gEq false) (vB 0) (kD jK) [some (.leaf (.str (ms m))),some (.leaf r.d),some (.leaf (.str nm))]=_ from ma m .seen _ _];cases decide (m=.seen)
  . rfl
  . rw [i8,iG,Ca];cases r<;>rfl
 unfold z24;rw [Ar];show Aq (aA _ _ [some (.leaf (.str (ms m))),some (.leaf r.d),some (.leaf (.str nm))])=_;rw [jN,qw,q];cases h1:(decide (m=.fresh)&&r.gets nm) with
 | true =>
  have:m=.fresh/\r.gets nm=true:=by simpa using h1
  rw [this.1];simp only [mb,this.2,if_true];rfl
 | false =>
  rw [g8,bZ,fG,jN,qw,O];cases h2:(decide (m=.fresh)&&r.stores nm) with
  | true =>
   have:m=.fresh/\r.stores nm=true:=by simpa using h2
   rw [this.1] at h1 ⊢;simp only [decide_true,qm4] at h1;simp only [mb,this.2,h1,if_true,qf0,if_false];rfl
  | false =>
   rw [g8,bZ,fG,jN,qw,U];cases h3:(decide (m=.seen)&&r.puts nm) with
   | true =>
    have:m=.seen/\r.puts nm=true:=by simpa using h3
    rw [this.1];simp only [mb,this.2,if_true];rfl
   | false =>
    rw [g8,bZ,fG];cases m with
    | fresh =>simp only [decide_true,qm4] at h1 h2;simp only [mb,h1,h2,qf0,if_false];rfl
    | seen =>simp only [decide_true,qm4] at h3;simp only [mb,h3,qf0,if_false];rfl
    | safe=>rfl
    | spoilt=>rfl
theorem pe (n:Nat) (r:Rw):q60 [.int n,r.d]=some (.leaf (.tup ((r.outs n).map dI))):=by cases r<;>kernel_rfl
theorem xr (c s:Dt) (rows:List Rw) (h:rows.length<=1000):jL [.tup [c,s,dR rows]]=some (.lst (rows.mapIdx fun k r=>.tup ((r.outs k).map dI))):=by
 unfold jL;walk_at "k";unfold p8 dR;walk_at "k"
 rw [jP (h:=fun k r=>.tup ((r.outs k).map dI)) 0 fun k a=>⟨_,rfl,by unfold q90;walk_at "k";rw [pe];walk_at "k"⟩]
 walk_at "k";rw [cb (by rw [List.length_mapIdx];lia)];walk_at "k";simp
theorem xt (l:List Nat) (x:Nat):((l.map dI).any fun y=>eqF y (dI x))=decide (x∈l):=by
 rw [qh2,List.any_eq_true];constructor
 . rintro ⟨y,q,e⟩;obtain ⟨z,O,rfl⟩:=qc9.mp q;have:(z:Int)=x:=by simpa [dI,eqF] using e
   have:z=x:=by lia
   subst this;exact decide_eq_true O
 . intro h;exact ⟨dI x,qc9.mpr ⟨x,of_decide_eq_true h,rfl⟩,by simp [dI,eqF]⟩
theorem u9 (l:List Nat):(l.map dI).all ck=true:=by rw [qi6];intro y q;obtain ⟨z,O,rfl⟩:=qc9.mp q;rfl
theorem nB {neg:Bool} {l:List Nat} {x:Nat}:bA neg (dI x) (.lst (l.map dI))=some (.leaf (.bl (if neg then !decide (x∈l) else decide (x∈l)))):=by
 show gIn neg (dI x) (.lst (l.map dI))=_;unfold gIn
 have:inD (dI x) (.lst (l.map dI))=some (decide (x∈l)):=by show (if ck (dI x)&&(l.map dI).all ck then some ((l.map dI).any fun y=>eqF y (dI x)) else none)=_;rw [u9,xt];rfl
 rw [this];rfl
def kpD (ks:List (Nat×Dt)):Dt:=.tup (ks.map fun p=>.tup [dI p.1,p.2])
theorem qz (b:Dt) (ks:List (Nat×Dt)) (h:ks.length<=1000):z26 [.tup [b,kpD ks]]=some (.lst ((ks.map (·.1)).map dI)):=by unfold z26;walk_at "k";unfold kpD;walk_at "k";rw [bR (h:=fun p:Nat×Dt=>dI p.1) fun p hp=>⟨_,rfl,rfl,by unfold z68;walk_at "k"⟩];walk_at "k";rw [cb (by rw [qa1];lia),qd0];walk_at "k";rfl
def hX (kept:List Nat) (rows:List Rw):List Dt:=rows.mapIdx fun k r=>.lst (((r.outs k).filter fun w=>!decide (w∈kept)).map dI)
theorem z98 (kept outs:List Nat) (O:outs.length<=10):y48 [some (.leaf (.tup (outs.map dI))),some (.leaf (.lst (kept.map dI)))]=some (.lst ((outs.filter fun w=>!decide (w∈kept)).map dI)):=by
 unfold y48;walk_at "k"
 rw [cK (h:=dI) (p:=fun w=>!decide (w∈kept)) fun w q=>⟨_,rfl,by unfold q65;walk_at "k";rw [nB];rfl,fun _=>rfl⟩]
 walk_at "k";rw [cb (by rw [qa1];exact qc1 (qg8 _ _) (by lia))];walk_at "k"
theorem vc (c s b:Dt) (rows:List Rw) (ks:List (Nat×Dt)) (h:rows.length<=1000) (hk:ks.length<=1000):q23 [.tup [c,s,dR rows],.tup [b,kpD ks]]=some (.lst (hX (ks.map (·.1)) rows)):=by unfold q23;walk_at "k";rw [qz b ks hk];walk_at "k";rw [xr c s rows h];walk_at "k";unfold hX;rw [qz2,qz2,bR (h:=fun p:Rw×Nat=>Dt.lst (((p.1.outs p.2).filter fun w=>!decide (w∈ks.map (·.1))).map dI)) fun p hp=>⟨_,rfl,rfl,z98 _ _ (qc1 (Rw.outs_len _ _) (by decide))⟩];walk_at "k";rw [cb (by rw [qa1,List.length_zipIdx];lia)];walk_at "k"
structure Hd where
 x:Str
 n:Int
 b:Bool
def hdD (h:Hd):Dt:=.tup [.str h.x,.int h.n,.bl h.b]
theorem qA {α:Type} (f:α->Dt) (cs ss:List α) (q:cs.length+ss.length<=1000):kY (.tup (cs.map f)) (.tup (ss.map f))=some (.leaf (.tup ((cs++ss).map f))):=by
 cases cs with
 | nil=>rfl
 | cons a cs =>
  cases ss with
  | nil=>rw [qi0];rfl
  | cons b ss =>show (if ((a::cs).map f).length+((b::ss).map f).length<=qb0/\(a::cs).map f≠[]/\(b::ss).map f≠[] then _ else none)=_;rw [if_pos ⟨by rw [qa1,qa1];exact small (by lia),by simp,by simp⟩,qc6];rfl
theorem nC (cs ss:List Hd) (R:Dt) (q:cs.length+ss.length<=1000):q20 [.tup [.tup (cs.map hdD),.tup (ss.map hdD),R]]=some (.lst ((((cs++ss).filter fun h=>!h.b).map (·.x)).map .str)):=by
 unfold q20;walk_at "k";rw [qA hdD cs ss q];walk_at "k"
 rw [cK (h:=fun h:Hd=>Dt.str h.x) (p:=fun h=>!h.b) fun h _=>⟨_,rfl,by
  unfold y60 hdD;walk_at "k"
  try rfl,fun _=>by unfold q61 hdD;walk_at "k"⟩]
 walk_at "k";rw [cb (by rw [qa1];exact qc1 (qg8 _ _) (by rw [qb5];lia)),qd0];walk_at "k";rfl
def dk (t:Nat×Mrk):Dt:=.tup [dI t.1,.str (ms t.2)]
variable {rows:List Rw} {i:Nat} {r:Rw}
theorem gx (h:rows[i]?=some r):aq (dR rows) (dI i)=some (.leaf r.d):=by unfold dR dI;rw [xZ,bW,qb4,h];rfl
theorem AK {kept:List Nat} (h:rows[i]?=some r):aq (.lst (hX kept rows)) (dI i)=some (.leaf (.lst (((r.outs i).filter fun w=>!decide (w∈kept)).map dI))):=by unfold hX dI;rw [qv,bW,List.getElem?_mapIdx,h];rfl
theorem qB (t:Nat×Mrk):aq (dk t) (.int 0)=some (.leaf (dI t.1)):=by unfold dk;walk_at "k"
theorem yv (t:Nat×Mrk):aq (dk t) (.int 1)=some (.leaf (.str (ms t.2))):=by unfold dk;walk_at "k"
theorem Cc {a b:Mrk}:decide (ms a=ms b)=decide (a=b):=by rw [decide_eq_decide];exact ⟨l9,fun h=>by rw [h]⟩
theorem r8 {nm:Str} {t:Nat×Mrk} (h:t.1<rows.length):iT 3 bI [.str nm,dR rows] [dk t]=some (.leaf (.bl (fI rows nm t))):=by
 have q:rows[t.1]?=some rows[t.1]:=gQ h;unfold iT
 show (match bI [some (.leaf (dk t)),some (.leaf (.str nm)),some (.leaf (dR rows))] with
  | some (.rt t)=>some t | some (.nx _)=>some (.leaf .non) | _=>none)=_
 have e:bI [some (.leaf (dk t)),some (.leaf (.str nm)),some (.leaf (dR rows))]=some (.rt (.leaf (.bl (fI rows nm t)))):=by unfold bI;walk_at "k";rw [yv,qB];walk_at "k";rw [gx q];walk_at "k";rw [qy];unfold g7;walk_at "k";unfold fI;simp only [q];rw [<- Cc];rfl
 rw [e]
theorem r9 {kept:List Nat} {nm:Str} {t:Nat×Mrk} (h:t.1<rows.length):iT 5 bH [.str nm,dR rows,.lst (hX kept rows)] [dk t]=some (.lst ((ee rows kept nm t).map dk)):=by
 have q:rows[t.1]?=some rows[t.1]:=gQ h;unfold iT
 show (match bH [some (.leaf (dk t)),none,some (.leaf (.str nm)),some (.leaf (dR rows)),some (.leaf (.lst (hX kept rows)))] with
  | some (.rt t)=>some t | some (.nx _)=>some (.leaf .non) | _=>none)=_
 have e:bH [some (.leaf (dk t)),none,some (.leaf (.str nm)),some (.leaf (dR rows)),some (.leaf (.lst (hX kept rows)))]=some (.rt (.lst ((ee rows kept nm t).map dk))):=by
  unfold bH;walk_at "k";rw [yv,qB];walk_at "k";rw [gx q];walk_at "k";rw [qy];unfold lW;walk_at "k";unfold ee;simp only [q];generalize O:mb t.2 rows[t.1] nm=m;by_cases e:m=.safe
  . rw [g9 (by simp [e,ms]),if_pos e];walk_at "k"
  . rw [hJ (by simp only [decide_eq_false_iff_not];exact fun z=>e (l9 (b:=.safe) z)),if_neg e];walk_at "k";rw [qB];walk_at "k";rw [AK q];walk_at "k";rw [bR (h:=fun w:Nat=>dk (w,m)) fun w _=>⟨_,rfl,rfl,by unfold q55 dk;walk_at "k"⟩];walk_at "k";rw [cb (by rw [qa1];exact qc1 (qg8 _ _) (qc1 (Rw.outs_len _ _) (by decide))),qd0];walk_at "k";rfl
 rw [e]
theorem fJ {α β:Type} (f:α->β) (l:List α) (k:Nat) (h:k<l.length) (d:α):atI (l.map f) (k:Int)=some (f (l.getD k d)):=by unfold atI ixN;rw [if_pos (by lia),qa1,if_pos (by lia)];simp [h]
theorem hZ (ns:List Int) (k:Nat):y1 [.lst (ns.map .int),.int k]=some (.leaf (.int (ns.getD k 0))):=by
 unfold y1;walk_at "d";by_cases h:k<ns.length
 . rw [g9 (by simpa using h)];walk_at "d";rw [fJ Dt.int ns k h 0];rfl
 . rw [hJ (by simpa using h)];walk_at "d";simp [List.getD,show ns.length<=k by lia]
theorem k7 (q:Option T) (k:Nat) (hk:k<=1000):∀ (ds:List Nat) (f n:Int) (x4:Option T),-1000000000<=n->n<=10000000000->(∀ j∈ds,j<=100)->∃ U O y,cC (ay 4) z53 (ds.map dI) [q,some (.leaf (.int k)),some (.leaf (.int f)),some (.leaf (.int n)),x4]=some (.nx [q,some (.leaf (.int k)),some (.leaf (.int U)),some (.leaf (.int O)),y])
 | [],f,n,x4,_,_,_=>⟨f,n,x4,rfl⟩
 | j::ds,f,n,x4,h0,h1,W=>by
  have hj0:=W j (.head _);have a0:=qn9 (n*n+69621*n+(j:Int)) (show (2147483629:Int)≠0 by decide);have a1:=qk3 (n*n+69621*n+(j:Int)) (show (0:Int)<2147483629 by decide);generalize Z:(n*n+69621*n+(j:Int))%2147483629=u at a0 a1;have b0:=qn9 (u*16807+7919*(j:Int)+(k:Int)) (show (2147483587:Int)≠0 by decide);have b1:=qk3 (u*16807+7919*(j:Int)+(k:Int)) (show (0:Int)<2147483587 by decide);generalize Y:(u*16807+7919*(j:Int)+(k:Int))%2147483587=v at b0 b1;obtain ⟨U,O,y,e⟩:=k7 q k hk ds (f*2147483587+v) v (some (.leaf (dI j))) (by lia) (by lia) fun i hi=>W i (.tail _ hi)
  refine ⟨U,O,y,?_⟩;rw [qa5,bB (δ1:=[q,some (.leaf (.int k)),some (.leaf (.int f)),some (.leaf (.int n)),some (.leaf (dI j))]) (δ2:=[q,some (.leaf (.int k)),some (.leaf (.int (f*2147483587+v))),some (.leaf (.int v)),some (.leaf (dI j))]) rfl ?_]
  . exact e
  . unfold z53 dI;walk_at "d";rw [Ap (i:=n) (j:=n) (by lia) (by lia)];walk_at "d";rw [Z,Y]
theorem bU {i j:Int} (q:0<j) (h1:j<10000000000000):cN (.int i) (.int j)=some (.leaf (.int (i/j))):=if_pos ⟨q,by lia⟩
theorem qC (c:Int) (k:Nat) (hk:k<=1000):∃ v:Int,q21 [.int c,.int k]=some (.leaf (.int v)):=by
 have Y:=qn9 c (show (2147483629:Int)≠0 by decide);have Z:=qk3 c (show (0:Int)<2147483629 by decide);obtain ⟨U,W,y,e⟩:=k7 (some (.leaf (.int c))) k hk (qb8 15) 0 (c%2147483629+48271*(k:Int)+11) none (by lia) (by lia) fun j q=>by have:=qd1.mp q;lia
 have O:dE 0 15=(qb8 15).map dI:=by unfold dE dI;simp
 refine ⟨U,?_⟩;unfold q21;walk_at "d";rw [u0 (by decide),qa3,show (15:Int).toNat=15 from rfl,O,e];walk_at "d"
theorem jS (ns:List Int) (k:Nat) (hk:k<=1000):∃ v:Int,y13 [.lst (ns.map .int),.int k]=some (.leaf (.int v)):=by
 unfold y13;walk_at "d";rw [show (Dt.int 0)=.int ((0:Nat):Int) from rfl,hZ];walk_at "d";by_cases h:ns.getD 0 0%2=0
 . rw [g9 (by simpa using h)];walk_at "d";rw [hZ];exact ⟨_,rfl⟩
 . rw [hJ (by simpa using h)];walk_at "d";rw [hZ];walk_at "d";obtain ⟨v,e⟩:=qC (ns.getD k 0) k hk;rw [e];exact ⟨_,rfl⟩
theorem iO (q:Option T):∀ (zs:List Nat) (n:Int) (done:List Nat) (x3:Option T),(∀ z∈zs,0<z/\z<10000000000000)->done.length+zs.length<=100->∃ (O:Int) (ds:List Nat) (y:Option T),cC (ay 3) y43 (zs.map dI) [some (.leaf (.int n)),q,some (.lst (done.map dI)),x3]=some (.nx [some (.leaf (.int O)),q,some (.lst ((done++ds).map dI)),y])/\ds.length=zs.length/\∀ (i d z:Nat),ds[i]?=some d->zs[i]?=some z->d<z
 | [],n,done,x3,_,_=>⟨n,[],x3,by simp [cC],rfl,fun i d z h=>by simp at h⟩
 | z::zs,n,done,x3,U,W=>by
  obtain ⟨h0,h1⟩:=U z (.head _);have m0:=qn9 n (show (z:Int)≠0 by lia);have m1:=qk3 n (show (0:Int)<z by lia);obtain ⟨d,hd⟩:∃ d:Nat,n%(z:Int)=(d:Int):=⟨(n%(z:Int)).toNat,by lia⟩;obtain ⟨O,ds,y,e,el,Z⟩:=iO q zs (n/z) (done++[d]) (some (.leaf (dI z))) (fun w Y=>U w (.tail _ Y)) (by simp at W ⊢;lia);refine ⟨O,d::ds,y,?_,by simp [el],fun i d' z' h1 h2=>?_⟩
  . rw [qa5,bB (δ1:=[some (.leaf (.int n)),q,some (.lst (done.map dI)),some (.leaf (dI z))]) (δ2:=[some (.leaf (.int (n/z))),q,some (.lst ((done++[d]).map dI)),some (.leaf (dI z))]) rfl ?_]
    . rw [e];simp
    . unfold y43 dI;walk_at "d";rw [k5 rfl];walk_at "d";rw [o5 (by lia),hd];walk_at "d";rw [hV (by rw [qa1];simp at W;lia)];walk_at "d";rw [bU (by lia) (by lia)];walk_at "d";simp [dI]
  . cases i with
    | zero =>simp at h1 h2;subst h1 h2;lia
    | succ i=>exact Z i d' z' (by simpa using h1) (by simpa using h2)
theorem ef (n:Int) (zs:List Nat) (U:∀ z∈zs,0<z/\z<10000000000000) (W:zs.length<=50):∃ ds:List Nat,z8 [.int n,.lst (zs.map dI)]=some (.lst (ds.map dI))/\ds.length=zs.length/\∀ (i d z:Nat),ds[i]?=some d->zs[i]?=some z->d<z:=by obtain ⟨Y,ds,y,e,q,O⟩:=iO (some (.leaf (.lst (zs.map dI)))) zs n [] none U (by simp;lia);refine ⟨ds,?_,q,O⟩;unfold z8;walk_at "d";rw [show ([]:List Dt)=([]:List Nat).map dI from rfl,e];walk_at "d"
def letters:Str:="abcdefghijklmnopqrstuvwxyz"
theorem nE:letters.length=26:=by decide +kernel
def sgN (i:Nat):Nat:=letters.cps.toList.getD i 0
theorem vd (i:Nat) (h1:i<26):aq (.str letters) (.int i)=some (.leaf (.str ⟨#[sgN i]⟩)):=by
 have q:letters.cps.toList.length=26:=by decide +kernel
 rw [uZ (by rw [nE];exact small (by decide)),bW,gQ (by lia)];unfold sgN;rw [qa9,gQ (by lia)];rfl
theorem xu:∀ i<26,∀ j<26,sgN i=sgN j->i=j:=by decide +kernel
theorem AL:∀ i<26,qh0 letters ⟨#[sgN i]⟩ 0 letters.length 1=[i]:=by decide +kernel
theorem sd (i:Nat) (h:i<26):dQ (.str letters) [.str ⟨#[sgN i]⟩]=some (.leaf (.int i)):=by unfold dQ;dsimp only;rw [AL i h];rfl
def wd (base:List Nat) (e:Nat):Str:=⟨(base++[sgN e]).toArray⟩
theorem ve (base:List Nat) (e:Nat):(wd base e).length=base.length+1:=by show ((base++[sgN e]).toArray).size=_;simp
variable {base:List Nat} {j:Nat}
theorem AM (hi:i<26) (q:j<26) (h:wd base i=wd base j):i=j:=by have e:=congrArg (fun s:Str=>s.cps.toList) h;simp only [wd] at e;have e:=List.append_cancel_left e;exact xu i hi j q (by simpa using e)
theorem nG:∀ (l m:List Nat),(qb8 l.length).filterMap (fun i=>(l++m)[i]?)=l
 | [],m=>rfl
 | a::l,m=>by rw [qi5,qt0,qr4];simp only [ql8,qo5,List.filterMap_map];congr 1;exact nG l m
theorem AN:∀ n<10,qh5.Str.strSliceIndices none (some (-1)) 1 (n+1)=qb8 n:=by decide +kernel
theorem AO (base:List Nat) (e:Nat) (h:base.length<10):gSl (.str (wd base e)) none (some (-1))=some (.leaf (.str ⟨base.toArray⟩)):=by
 have O:=ve base e;unfold gSl;dsimp only;rw [if_pos (small (by lia))];unfold Txt.slice;rw [O,AN _ h,if_neg (by simp)];have:=nG base [sgN e]
 have q:(qb8 base.length).filterMap (fun i=>(wd base e).cps[i]?)=base:=by refine Eq.trans ?_ this;congr 1;funext i;unfold wd;simp
 rw [q]
theorem xw (base:List Nat) (e:Nat) (h:base.length<10):aq (.str (wd base e)) (.int (-1))=some (.leaf (.str ⟨#[sgN e]⟩)):=by
 rw [uZ (by rw [ve];exact small (by lia))];have:(wd base e).cps.toList=base++[sgN e]:=by unfold wd;simp
 rw [this];unfold atI ixN;rw [if_neg (by decide),if_pos (by simp;lia)];simp only [qa3,qb5,qg6];rw [show ((-1:Int)+((base.length+1:Nat):Int)).toNat=base.length by lia];simp
theorem AQ (base:List Nat) (e:Nat) (h:base.length<10):bD (.str ⟨base.toArray⟩) (.str ⟨#[sgN e]⟩)=some (.leaf (.str (wd base e))):=by rw [An (small (by show base.toArray.size+1<=_;simp;lia))];congr 3;show (⟨base.toArray++#[sgN e]⟩:Str)=_;unfold wd;simp
variable {n m:Dt} {fd:List Str} {x4:Option T}
theorem se {e:Nat} (h:base.length<10) (q:e<26) :
  z38 [some (.leaf n),some (.leaf m),some (.leaf (.str letters)),some (.lst (fd.map .str)),x4,some (.leaf (.str (wd base e)))]=some (.nx [some (.leaf n),some (.leaf m),some (.leaf (.str letters)),some (.lst (fd.map .str)),x4,some (.leaf (.str (wd base ((e+1)%26))))]):=by
 unfold z38;walk_at "d";rw [show (-(1:Int))=-1 from rfl,xw base e h];walk_at "d";rw [AO base e h,sd e q];walk_at "d";rw [show ((e:Int)+1)%26=(((e+1)%26:Nat):Int) by lia,vd _ (qw1 _ (by decide))];walk_at "d";rw [AQ _ _ h];walk_at "d"
theorem sf {w:Str}:z22 [some (.leaf n),some (.leaf m),some (.leaf (.str letters)),some (.lst (fd.map .str)),x4,some (.leaf (.str w))]=some (decide (w∈fd)):=by unfold z22;walk_at "d";rw [jQ];rfl
theorem yw {n m:Dt} {fd:List Str} {x4:Option T} {e0:Nat} (h:base.length<10) (hf:fd.length<=12):∀ (d s O:Nat),s+d=13->d<O->(∀ t,t<s->wd base ((e0+t)%26)∈fd)→
  ∃ e,e<26/\wd base e∉fd/\bt z22 z38 O [some (.leaf n),some (.leaf m),some (.leaf (.str letters)),some (.lst (fd.map .str)),x4,some (.leaf (.str (wd base ((e0+s)%26))))]=some (.nx [some (.leaf n),some (.leaf m),some (.leaf (.str letters)),some (.lst (fd.map .str)),x4,some (.leaf (.str (wd base e)))])
 | 0,s,O,hs,_,W=>by
  exfalso
  have hl:((qb8 s).map fun t=>wd base ((e0+t)%26)).length<=fd.length:=cQ (by
   rw [qi8,qn6];refine qz0.mpr fun i j hi hj hij q=>?_
   simp only [qt4] at hi hj;simp only [List.getElem_range] at q;have:=AM (qw1 _ (by decide)) (qw1 _ (by decide)) q;lia) fun x U=>by
   obtain ⟨t,ht,rfl⟩:=qc9.mp U;exact W t (qd1.mp ht)
  simp at hl;lia
 | d+1,s,0,hs,Z,W=>by lia
 | d+1,s,O+1,hs,Z,W=>by
  have Y:=sf (n:=n) (m:=m) (fd:=fd) (x4:=x4) (w:=wd base ((e0+s)%26));by_cases U:wd base ((e0+s)%26)∈fd
  . obtain ⟨e,h1,h2,h3⟩:=yw (n:=n) (m:=m) (x4:=x4) (e0:=e0) h hf d (s+1) O (by lia) (by lia) fun t ht=>by
     by_cases q:t=s
     . rw [q];exact U
     . exact W t (by lia)
    refine ⟨e,h1,h2,?_⟩;rw [decide_eq_true U] at Y;show ((z22 _).bind fun b=>_)=_;rw [Y,qa3,if_pos rfl,se h (qw1 _ (by decide)),qa3];dsimp only;rw [show ((e0+s)%26+1)%26=(e0+(s+1))%26 by lia];exact h3
  . refine ⟨_,qw1 _ (by decide),U,?_⟩;rw [decide_eq_false U] at Y;show ((z22 _).bind fun b=>_)=_;rw [Y];rfl
theorem cR (k:Nat):dE 0 k=(qb8 k).map dI:=by unfold dE dI;simp
theorem AR {ds:List Nat} (O:ds.length=7) (q:∀ i,0<i->i<7->ds.getD i 0<26) (i:Nat) (hi:i<6):z37 [some (.leaf (dI i)),some (.leaf (.str letters)),some (.leaf (.lst (ds.map dI)))]=some (.str ⟨#[sgN (ds.getD (1+i) 0)]⟩):=by unfold z37;walk_at "d";unfold dI;walk_at "d";rw [show (1:Int)+(i:Int)=((1+i:Nat):Int) by lia,fJ (fun j:Nat=>Dt.int (j:Int)) ds (1+i) (by lia) 0];walk_at "d";rw [vd _ (q (1+i) (by lia) (by lia))];walk_at "d"
theorem si (n:Int) (m:Dt) (fd:List Str) (hf:fd.length<=12) (x4 x5:Option T):∃ (n':Int) (w:Str) (y4:Option T),w∉fd/\q37 [some (.leaf (.int n)),some (.leaf m),some (.leaf (.str letters)),some (.lst (fd.map .str)),x4,x5]=some (.nx [some (.leaf (.int n')),some (.leaf m),some (.leaf (.str letters)),some (.lst ((fd++[w]).map .str)),y4,some (.leaf (.str w))]):=by
 obtain ⟨ds,e,el,ed⟩:=ef n [6,26,26,26,26,26,26] (by intro z hz;simp at hz;lia) (by simp);have hl:ds.length=7:=el
 have hg:∀ i,i<7->ds[i]?=some (ds.getD i 0):=fun i hi=>by rw [qa9,gQ (by lia)];rfl
 have h0:ds.getD 0 0<6:=ed 0 _ 6 (hg 0 (by lia)) rfl
 have hd:∀ i,0<i->i<7->ds.getD i 0<26:=fun i hi Y=>ed i _ 26 (hg i Y) (by
  have q:i=1∨i=2∨i=3∨i=4∨i=5∨i=6:=by lia
  rcases q with rfl | rfl | rfl | rfl | rfl | rfl<;>rfl)
 generalize U:ds.getD 0 0=d0 at h0;have Z:=hd (1+d0) (by lia) (by lia);generalize O:(qb8 d0).map (fun i=>sgN (ds.getD (1+i) 0))=base;have hbl:base.length=d0:=by rw [<- O];simp
 have W:((qb8 (d0+1)).map fun i=>sgN (ds.getD (1+i) 0))=base++[sgN (ds.getD (1+d0) 0)]:=by rw [qx4,qc6,O];rfl
 obtain ⟨e',h1,h2,h3⟩:=yw (n:=.int (n/1853494656)) (m:=m) (fd:=fd) (x4:=some (.leaf (.lst (ds.map dI)))) (base:=base) (e0:=ds.getD (1+d0) 0) (by lia) hf 13 0 100000 (by lia) (by lia) (fun t ht=>by lia);rw [Nat.add_zero,Nat.mod_eq_of_lt Z] at h3;refine ⟨n/1853494656,wd base e',some (.leaf (.lst (ds.map dI))),h2,?_⟩;have ec:=bR (bb:=ay 0) (ft:=dm) (fe:=z37) (δ:=[none,some (.leaf (.str letters)),some (.leaf (.lst (ds.map dI)))]) (f:=dI) (h:=fun i=>.str ⟨#[sgN (ds.getD (1+i) 0)]⟩) (l:=qb8 (d0+1)) fun i hi=>⟨_,rfl,rfl,AR hl hd i (by have:=qd1.mp hi;lia)⟩
 have es:(qb8 (d0+1)).map (fun i=>Dt.str ⟨#[sgN (ds.getD (1+i) 0)]⟩)=sgD (base++[sgN (ds.getD (1+d0) 0)]):=by rw [<- W];unfold sgD;rw [qd0];rfl
 rw [es] at ec
 have hx0:(ds.map dI)[0]?=some (.int (d0:Int)):=by rw [qb4,hg 0 (by lia),U];rfl
 unfold q37;walk_at "d";rw [show Dt.lst [.int 6,.int 26,.int 26,.int 26,.int 26,.int 26,.int 26]=.lst (([6,26,26,26,26,26,26]:List Nat).map dI) from rfl,e];walk_at "d";rw [hx0];walk_at "d";rw [show (1:Int)+(d0:Int)=((d0+1:Nat):Int) by lia,fE (by lia),qa3,cR,ec,qa3,cb (by unfold sgD;simp;lia)];walk_at "d";rw [show qa0 ""=("":Str) from rfl,u3 (by simp;lia)];walk_at "d";rw [o6 (show kw 26 6=true by decide +kernel)];walk_at "d";rw [show (6:Int)*26^(6:Int).toNat=1853494656 from by decide +kernel,bU (by decide) (by decide)];walk_at "d";rw [show (⟨(base++[sgN (ds.getD (1+d0) 0)]).toArray⟩:Str)=wd base (ds.getD (1+d0) 0) from rfl,h3];walk_at "d";rw [k5 rfl];walk_at "d";rw [hV (by rw [qa1];lia)];walk_at "d";simp
theorem nH (m:Nat) (hm:m<=12):∀ (d O:Nat) (n:Int) (fd:List Str) (x4 U:Option T),fd.length+d=m->d<O->fd.Nodup->∃ (B:List Str) (Z:Int) (Y y5:Option T),B.Nodup/\B.length=m/\bt q22 q37 O [some (.leaf (.int n)),some (.leaf (.int m)),some (.leaf (.str letters)),some (.lst (fd.map .str)),x4,U]=some (.nx [some (.leaf (.int Z)),some (.leaf (.int m)),some (.leaf (.str letters)),some (.lst (B.map .str)),Y,y5])
 | d,0,n,fd,x4,U,h1,h2,nd=>by lia
 | d,O+1,n,fd,x4,U,h1,h2,nd=>by
  have W:q22 [some (.leaf (.int n)),some (.leaf (.int m)),some (.leaf (.str letters)),some (.lst (fd.map .str)),x4,U]=some (decide (fd.length<m)):=by
   unfold q22;walk_at "d";rw [qa1];congr 1;by_cases q:fd.length<m
   . rw [decide_eq_true q,decide_eq_true (by lia)]
   . rw [decide_eq_false q,decide_eq_false (by lia)]
  cases d with
  | zero =>refine ⟨fd,n,x4,U,nd,by lia,?_⟩;rw [decide_eq_false (by lia)] at W;show ((q22 _).bind fun b=>_)=_;rw [W];rfl
  | succ d =>
   obtain ⟨Z,w,Y,hw,e⟩:=si n (.int m) fd (by lia) x4 U
   obtain ⟨B,n2,z4,z5,ndB,hB,e2⟩:=nH m hm d O Z (fd++[w]) Y (some (.leaf (.str w))) (by simp;lia) (by lia) (by rw [qe8];exact ⟨nd,by simp,fun a ha c hc q=>hw (by rw [qb7.mp hc] at q;exact q▸ha)⟩)
   refine ⟨B,n2,z4,z5,ndB,hB,?_⟩;rw [decide_eq_true (by lia)] at W;show ((q22 _).bind fun b=>_)=_;rw [W,qa3,if_pos rfl,e,qa3];exact e2
theorem nI (n:Int) (m:Nat) (O:m<=12):∃ B:List Str,z23 [.int n,.int m]=some (.lst (B.map .str))/\B.length=m/\B.Nodup:=by obtain ⟨B,W,Z,Y,U,q,e⟩:=nH m O m 100000 n [] none none (by simp) (by lia) qt8;refine ⟨B,?_,q,U⟩;unfold z23;walk_at "d";rw [show qa0 "abcdefghijklmnopqrstuvwxyz"=letters from rfl,show ([]:List Dt)=([]:List Str).map .str from rfl,e];walk_at "d"
theorem pw41:iV (.int 2) (.int 41)=some (.leaf (.int 2199023255552)):=by rw [o6 (by decide +kernel)];rfl
theorem pf:wide=1099511627776:=lZ
theorem qD {th:List Str} {k:Nat} (h:k<th.length):atI (th.map Dt.str) (k:Int)=some (.str (th.getD k "")):=fJ Dt.str th k h ""
def ceH (th:List Str) (q:Int) (k:Nat):Hd:=⟨th.getD k "",q%1099511627776,decide (q/1099511627776%2=1)⟩
def shH (th:List Str) (q:Int) (k:Nat):Hd:=⟨th.getD (8+k) "",1+q%8,decide (q/8%2=1)⟩
theorem jT (Z Y x3 x4 x8:Option T) (th:List Str) (hth:th.length=12):∀ (ks:List Nat) (done:List Hd) (q:Int) (x7:Option T),(∀ k∈ks,k<12)->done.length+ks.length<=100→
  ∃ (U:List Hd) (O:Int) (y7:Option T),cC (ay 7) y47 (ks.map dI) [Z,some (.leaf (.int q)),Y,x3,x4,some (.leaf (dS th)),some (.lst (done.map hdD)),x7,x8]=some (.nx [Z,some (.leaf (.int O)),Y,x3,x4,some (.leaf (dS th)),some (.lst ((done++U).map hdD)),y7,x8])/\U.map (·.x)=ks.map (fun k=>th.getD k "")/\∀ h∈U,0<=h.n/\h.n<1099511627776
 | [],done,q,x7,_,_=>⟨[],q,x7,by simp [cC],rfl,fun h W=>by cases W⟩
 | k::ks,done,q,x7,hk,hl=>by
  have hk0:=hk k (.head _);obtain ⟨U,O,y7,e,e1,e2⟩:=jT Z Y x3 x4 x8 th hth ks (done++[ceH th q k]) (q/2199023255552) (some (.leaf (dI k))) (fun j hj=>hk j (.tail _ hj)) (by simp at hl ⊢;lia);refine ⟨ceH th q k::U,O,y7,?_,by simp only [qa5,e1];rfl,fun h W=>?_⟩
  . rw [qa5,bB (δ1:=[Z,some (.leaf (.int q)),Y,x3,x4,some (.leaf (dS th)),some (.lst (done.map hdD)),some (.leaf (dI k)),x8]) (δ2:=[Z,some (.leaf (.int (q/2199023255552))),Y,x3,x4,some (.leaf (dS th)),some (.lst ((done++[ceH th q k]).map hdD)),some (.leaf (dI k)),x8]) rfl ?_]
    . rw [e,qj1];rfl
    . unfold y47 dI dS;walk_at "d";rw [k5 rfl];walk_at "d";rw [qD (by lia)];walk_at "d";rw [pf,bU (by decide) (by decide)];walk_at "d";rw [hV (by rw [qa1];simp at hl;lia)];walk_at "d";rw [pw41];walk_at "d";rw [bU (by decide) (by decide)];walk_at "d";rw [qc6];rfl
  . rcases qb3.mp W with rfl | W
    . exact ⟨qn9 _ (by decide),qk3 _ (by decide)⟩
    . exact e2 h W
theorem ia (Z Y x3 x4 x6:Option T) (th:List Str) (hth:th.length=12):∀ (ks:List Nat) (done:List Hd) (q:Int) (x7:Option T),(∀ k∈ks,k<4)->done.length+ks.length<=100→
  ∃ (U:List Hd) (O:Int) (y7:Option T),cC (ay 7) z48 (ks.map dI) [Z,some (.leaf (.int q)),Y,x3,x4,some (.leaf (dS th)),x6,x7,some (.lst (done.map hdD))]=some (.nx [Z,some (.leaf (.int O)),Y,x3,x4,some (.leaf (dS th)),x6,y7,some (.lst ((done++U).map hdD))])/\U.map (·.x)=ks.map (fun k=>th.getD (8+k) "")/\∀ h∈U,1<=h.n/\h.n<=8
 | [],done,q,x7,_,_=>⟨[],q,x7,by simp [cC],rfl,fun h W=>by cases W⟩
 | k::ks,done,q,x7,hk,hl=>by
  have hk0:=hk k (.head _);have m0:=qn9 q (show (8:Int)≠0 by decide);have m1:=qk3 q (show (0:Int)<8 by decide);obtain ⟨U,O,y7,e,e1,e2⟩:=ia Z Y x3 x4 x6 th hth ks (done++[shH th q k]) (q/16) (some (.leaf (dI k))) (fun j hj=>hk j (.tail _ hj)) (by simp at hl ⊢;lia);refine ⟨shH th q k::U,O,y7,?_,by simp only [qa5,e1];rfl,fun h W=>?_⟩
  . rw [qa5,bB (δ1:=[Z,some (.leaf (.int q)),Y,x3,x4,some (.leaf (dS th)),x6,some (.leaf (dI k)),some (.lst (done.map hdD))]) (δ2:=[Z,some (.leaf (.int (q/16))),Y,x3,x4,some (.leaf (dS th)),x6,some (.leaf (dI k)),some (.lst ((done++[shH th q k]).map hdD))]) rfl ?_]
    . rw [e,qj1];rfl
    . unfold z48 dI dS;walk_at "d";rw [k5 rfl];walk_at "d";rw [show (8:Int)+(k:Int)=((8+k:Nat):Int) by lia,qD (by lia)];walk_at "d";rw [bU (by decide) (by decide)];walk_at "d";rw [hV (by rw [qa1];simp at hl;lia)];walk_at "d";rw [bU (by decide) (by decide)];walk_at "d";rw [qc6];rfl
  . rcases qb3.mp W with rfl | W
    . exact ⟨by show 1<=1+q%8;lia,by show 1+q%8<=8;lia⟩
    . exact e2 h W
structure Wld (B:List Str) (cs ss:List Hd):Prop where
 b0:0<B.length
 b1:B.length<=12
 nd:B.Nodup
 c1:cs.length<=8
 s1:ss.length<=4
 hn:((cs++ss).map (·.x)).Nodup
 cn:∀ h∈cs,0<=h.n/\h.n<1099511627776
 sn:∀ h∈ss,1<=h.n/\h.n<=8
def wD (B:List Str) (cs ss:List Hd) (rest:Int):Dt:=.tup [dS B,.tup (cs.map hdD),.tup (ss.map hdD),.int rest]
theorem vf (ns:List Int):∃ (B:List Str) (cs ss:List Hd) (rest:Int),z18 [.lst (ns.map .int)]=some (.leaf (wD B cs ss rest))/\Wld B cs ss:=by
 obtain ⟨v3,e3⟩:=jS ns 3 (by lia);obtain ⟨v2,e2⟩:=jS ns 2 (by lia);obtain ⟨v1,e1⟩:=jS ns 1 (by lia);obtain ⟨ds,ed,el,hd⟩:=ef v3 [9,5,12] (by intro z hz;simp at hz;lia) (by simp);have hl:ds.length=3:=el
 obtain ⟨a,b,c,rfl⟩:∃ a b c,ds=[a,b,c]:=by
  match ds,hl with
  | [a,b,c],_=>exact ⟨a,b,c,rfl⟩
 have ha:a<9:=hd 0 a 9 rfl rfl;have hb:b<5:=hd 1 b 5 rfl rfl;have hc:c<12:=hd 2 c 12 rfl rfl;obtain ⟨k,hk,ek⟩:=jO (ns.getD 0 0/2) (n:=3) (by decide)
 obtain ⟨Z,et⟩:∃ Z:Int,∃ j:Nat,y13 [.lst (ns.map .int),.int j]=some (.leaf (.int Z))/\atI [Dt.int 1,Dt.int 1,Dt.int 2] (k:Int)=some (.int j):=by
  have q:k=0∨k=1∨k=2:=by lia
  rcases q with rfl | rfl | rfl
  . exact ⟨v1,1,e1,rfl⟩
  . exact ⟨v1,1,e1,rfl⟩
  . exact ⟨v2,2,e2,rfl⟩
 obtain ⟨j,et,ej⟩:=et;obtain ⟨th,en,U,ndt⟩:=nI Z 12 (by lia);obtain ⟨B,eB,hB,ndB⟩:=nI v2 (1+c) (by lia);obtain ⟨cs,n1,y7,ec,Y,hc2⟩:=jT (some (.leaf (.lst (ns.map .int)))) (some (.leaf (.int a))) (some (.leaf (.int b))) (some (.leaf (.int c))) none th U (qb8 a) [] (v3/540) none (fun k hk=>by have:=qd1.mp hk;lia) (by simp;lia);obtain ⟨ss,n2,z7,es,O,hs2⟩:=ia (some (.leaf (.lst (ns.map .int)))) (some (.leaf (.int a))) (some (.leaf (.int b))) (some (.leaf (.int c))) (some (.lst (cs.map hdD))) th U (qb8 b) [] n1 y7 (fun k hk=>by have:=qd1.mp hk;lia) (by simp;lia);have lc:cs.length=a:=by have:=congrArg za9 Y;simpa using this
 have ls:ss.length=b:=by have:=congrArg za9 O;simpa using this
 refine ⟨B,cs,ss,n2,?_,⟨by lia,by lia,ndB,by lia,by lia,?_,hc2,hs2⟩⟩
 . have e3':y13 [.lst (ns.map .int),.int 3]=some (.leaf (.int v3)):=e3;have e2':y13 [.lst (ns.map .int),.int 2]=some (.leaf (.int v2)):=e2;have c0':y1 [.lst (ns.map .int),.int 0]=some (.leaf (.int (ns.getD 0 0))):=hZ ns 0;have en':z23 [.int Z,.int 12]=some (.lst (th.map .str)):=en;have ed':z8 [.int v3,.lst [.int 9,.int 5,.int 12]]=some (.lst [.int a,.int b,.int c]):=ed;have ek':ns.getD 0 0/2%3=(k:Int):=ek;unfold z18;walk_at "d";rw [e3'];walk_at "d";rw [ed'];walk_at "d";unfold mZ br gn;walk_at "d";simp only [qr2,if_true];walk_at "d";rw [bU (by decide) (by decide)];walk_at "d";rw [c0'];walk_at "d";rw [bU (by decide) (by decide)];walk_at "d";rw [ek',ej];walk_at "d";rw [et];walk_at "d";rw [en'];walk_at "d";rw [fE (by lia),qa3,cR];rw [show (Dt.lst (th.map .str))=dS th from rfl,show (([]:List Dt))=([]:List Hd).map hdD from rfl,ec];walk_at "d";rw [fE (by lia),qa3,cR];rw [show (([]:List Dt))=([]:List Hd).map hdD from rfl,es];walk_at "d";rw [e2'];walk_at "d";rw [show (1:Int)+(c:Int)=((1+c:Nat):Int) by lia,eB];walk_at "d";rfl
 . rw [qc6,Y,O]
   have e:(qb8 a).map (fun k=>th.getD k "")++(qb8 b).map (fun k=>th.getD (8+k) "")=((qb8 a)++(qb8 b).map (8 + ·)).map (fun k=>th.getD k ""):=by rw [qc6,qd0];rfl
   rw [e,qi8,qn6]
   have nd2:((qb8 a)++(qb8 b).map (8 + ·)).Nodup:=by
    rw [qe8];refine ⟨List.nodup_range,?_,fun x W y hy q=>?_⟩
    . rw [qi8,qn6];exact qt5 (fun {a b} (z:a≠b) q=>z (Nat.add_left_cancel q)) List.nodup_range
    . have:=qd1.mp W;obtain ⟨w,_,rfl⟩:=qc9.mp hy;lia
   refine List.Pairwise.imp_of_mem (fun {x y} W hy (z:x≠y) q=>z ?_) nd2
   have lt:∀ x,x∈(qb8 a)++(qb8 b).map (8 + ·)->x<12:=fun x W=>by
    rcases qf8.mp W with h | h
    . have:=qd1.mp h;lia
    . obtain ⟨w,hw,rfl⟩:=qc9.mp h;have:=qd1.mp hw;lia
   have hx2:=lt x W;have hy2:=lt y hy;rw [qa9,qa9,gQ (by lia),gQ (by lia)] at q;exact (List.getElem_inj ndt).mp (by simpa using q)
local macro_rules | `(tactic| walk_at "l") => `(tactic| simp only [zi5, zi4, Int.reduceSub, decide_true, decide_false, qs2, zb2, Bool.or_self, zi6, ze0, zh4, zg0, Int.reduceToNat, ql1, qa3])
def AtB (B:List Str) (a:Atm):Prop:=∀ x,a=.nm x->x∈B
theorem md {B:List Str} {v:Nat} (U:B.length<=100) (O:j<B.length+1):∃ a:Atm,AtB B a/\((bD (.lst (B.map .str)) (.lst [.int v])).bind T.d).bind (fun x=>aq x (.int j))=some (.leaf a.d):=by
 rw [o4 (small (by simp;lia))];show ∃ a:Atm,AtB B a/\aq (.lst (B.map .str++[.int v])) (.int j)=some (.leaf a.d);rw [qv,bW];by_cases h:j<B.length
 . refine ⟨.nm (B.getD j ""),fun x q=>?_,?_⟩
   . cases q;rw [qa9,gQ h];exact qi7 _
   . rw [qc4 (by simpa using h),qb4,qr5 h,qa9,qr5 h];rfl
 . refine ⟨.vl v,fun x q=>(by cases q),?_⟩;rw [qd4 (by simpa using h)];have:j-(B.map Dt.str).length=0:=by simp;lia
   rw [this];rfl
theorem nJ (xs:List (Option T)):∀ (zs:List Nat) (n:Int) (O:Option T),(∀ z∈zs,0<z/\z<10000000000000)->xs.length=13->∀ r,∃ (U:Int) (y:Option T),cC (ay 14) z57 (zs.map dI) (some (.leaf (.int n))::(xs++O::r))=some (.nx (some (.leaf (.int U))::(xs++y::r)))
 | [],n,O,_,_,r=>⟨n,O,rfl⟩
 | z::zs,n,O,W,Y,r=>by
  obtain ⟨h0,h1⟩:=W z (.head _);obtain ⟨U,y,e⟩:=nJ xs zs (n/z) (some (.leaf (dI z))) (fun w Z=>W w (.tail _ Z)) Y r;refine ⟨U,y,?_⟩;rw [qa5,bB (δ1:=some (.leaf (.int n))::(xs++some (.leaf (dI z))::r)) (δ2:=some (.leaf (.int (n/z)))::(xs++some (.leaf (dI z))::r)) ?_ ?_]
  . exact e
  . unfold ay;rw [qs5,List.set_append_right _ _ (by lia)];rw [show 13-xs.length=0 by lia];rfl
  . have q:(some (T.leaf (Dt.int n))::(xs++some (T.leaf (dI z))::r))[14]?=some (some (.leaf (dI z))):=by rw [qi3,gR (by lia),show 13-xs.length=0 by lia];rfl
    unfold z57 aP toT toD d2 vB;simp only [q,qo5,qa3,T.d];unfold dI;rw [bU (by lia) (by lia)];rfl
def RwN (cs ss:List Hd):Rw->Prop
 | .load _ c=>c∈cs.map (·.x)
 | .store c _=>c∈cs.map (·.x)
 | .take _ f _=>f∈ss.map (·.x)
 | .lay f _ _=>f∈ss.map (·.x)
 | _=>True
def RwB (cs ss:List Hd) (many:Nat) (r:Rw):Prop:=RwN cs ss r/\∀ g,(∃ a,r=.iff a g)∨r=.go g->g<many
theorem AS (n:Nat):oR [.int 1,.int n]=some (.leaf (.int ((max 1 n:Nat):Int))):=by
 show some (T.leaf (Dt.int (if (1:Int)<n then (n:Int) else 1)))=_;by_cases h:1<n
 . rw [if_pos (by lia)];congr 3;lia
 . rw [if_neg (by lia)];congr 3;lia
theorem nM:∀ cs:List Hd,deeps (cs.map hdD)<=5
 | []=>by simp [deeps]
 | h::cs=>by have:=nM cs;simp only [qa5,deeps,hdD,c7] at this ⊢;lia
theorem iP (cs:List Hd):gEq true (.tup (cs.map hdD)) (.tup [])=some (.leaf (.bl (!cs.isEmpty))):=by
 rw [l3 (b:=peqs (cs.map hdD) []) (uX (by have:=nM cs;rw [decide_eq_true (by lia)];cases cs<;>simp [cmpbs]))]
 cases cs<;>rfl
theorem qE {cs:List Hd} {c:Nat} (h:c<cs.length):∃ (x:Str) (n:Int) (t:Bool),atI (cs.map hdD) (c:Int)=some (.tup [.str x,.int n,.bl t])/\x∈cs.map (·.x):=by rw [bW,qb4,gQ h];exact ⟨(cs[c]).x,(cs[c]).n,(cs[c]).b,rfl,qj4 (qi7 h)⟩
theorem AT (n rest:Int) (B:List Str) (cs ss:List Hd) (many:Nat) (W:Wld B cs ss) (hm:0<many) (hm2:many<=100):∃ r:Rw,q44 [.int n,wD B cs ss rest,.int many]=some (.leaf r.d)/\RwB cs ss many r:=by
 have b0:=W.b0;have b1:=W.b1;have c1:=W.c1;have s1:=W.s1;obtain ⟨ds,ed,el,hd⟩:=ef n [11,B.length,max 1 cs.length,max 1 ss.length,8,many] (by intro z hz;simp at hz;lia) (by simp);have hl:ds.length=6:=el
 obtain ⟨k,x,c,f,sg,g,rfl⟩:∃ k x c f sg g,ds=[k,x,c,f,sg,g]:=by
  match ds,hl with
  | [k,x,c,f,sg,g],_=>exact ⟨k,x,c,f,sg,g,rfl⟩
 have hk:k<11:=hd 0 _ _ rfl rfl;have hx:x<B.length:=hd 1 _ _ rfl rfl;have hc:c<max 1 cs.length:=hd 2 _ _ rfl rfl;have hf:f<max 1 ss.length:=hd 3 _ _ rfl rfl;have hs:sg<8:=hd 4 _ _ rfl rfl;have hg:g<many:=hd 5 _ _ rfl rfl;have ed':z8 [.int n,.lst [.int 11,.int B.length,.int ((max 1 cs.length:Nat):Int),.int ((max 1 ss.length:Nat):Int),.int 8,.int many]]=some (.lst [.int k,.int x,.int c,.int f,.int sg,.int g]):=ed
 obtain ⟨n1,y14,e1⟩:=nJ [some (.leaf (.tup [.lst (B.map .str),.tup (cs.map hdD),.tup (ss.map hdD),.int rest])),some (.leaf (.int many)),some (.leaf (.lst (B.map .str))),some (.leaf (.tup (cs.map hdD))),some (.leaf (.tup (ss.map hdD))),some (.leaf (.int rest)),some (.leaf (.lst [.int 11,.int B.length,.int ((max 1 cs.length:Nat):Int),.int ((max 1 ss.length:Nat):Int),.int 8,.int many])),some (.leaf (.int k)),some (.leaf (.int x)),some (.leaf (.int c)),some (.leaf (.int f)),some (.leaf (.int sg)),some (.leaf (.int g))] [11,B.length,max 1 cs.length,max 1 ss.length,8,many] n none (by intro z hz;simp at hz;lia) rfl [none,none,none,none]
 simp only [dI,qa5,qs0,ql8,qj8,Int.cast_ofNat_Int] at e1;obtain ⟨ds2,ed2,el2,hd2⟩:=ef n1 [B.length+1,1099511627776,B.length+1,1099511627776] (by intro z hz;simp at hz;lia) (by simp);have hl2:ds2.length=4:=el2
 obtain ⟨p,q,u,v,rfl⟩:∃ p q u v,ds2=[p,q,u,v]:=by
  match ds2,hl2 with
  | [p,q,u,v],_=>exact ⟨p,q,u,v,rfl⟩
 have hp:p<B.length+1:=hd2 0 _ _ rfl rfl;have hu:u<B.length+1:=hd2 2 _ _ rfl rfl
 have ed2':z8 [.int n1,.lst [.int ((B.length:Int)+1),.int wide,.int ((B.length:Int)+1),.int wide]]=some (.lst [.int p,.int q,.int u,.int v]):=by rw [pf];exact ed2
 obtain ⟨one,ho,eo⟩:=md (B:=B) (v:=q) (j:=p) (by lia) hp;obtain ⟨oth,ht,et⟩:=md (B:=B) (v:=v) (j:=u) (by lia) hu;have U:=qD (th:=B) (k:=x) hx;clear ed el hd ed2 el2 hd2;unfold q44 wD;walk_at "k";unfold j0 mZ br gn;walk_at "k";simp only [qr2,if_true];walk_at "k";unfold dS;walk_at "k";simp only [qa1,AS];walk_at "k";rw [ed'];walk_at "k";simp only [qr2,if_true];walk_at "k";rw [e1];walk_at "k";simp only [qa1];rw [ed2'];walk_at "k";rw [eo];walk_at "k";rw [et];walk_at "k"
 obtain ⟨sgn,esg,_⟩:=w9 (x:=qa0 "+-*<=&|^") (i:=(sg:Int)) (by decide +kernel) (by lia) (by
  have:(qa0 "+-*<=&|^").length=8:=by decide +kernel
  lia)
 have Y:∀ r:Rw,(∀ g,¬ ((∃ a,r=.iff a g)∨r=.go g))->∀ g,(∃ a,r=.iff a g)∨r=.go g->g<many:=fun r h g z=>absurd z (h g)
 have k11:k=0∨k=1∨k=2∨k=3∨k=4∨k=5∨k=6∨k=7∨k=8∨k=9∨k=10:=by lia
 rcases k11 with q0 | q0 | q0 | q0 | q0 | q0 | q0 | q0 | q0 | q0 | q0
 . have O:(k:Int)=0:=by lia
   rw [O]
   repeat (first | walk_at "l" | walk_at "k" | rw [U])
   exact ⟨.copy _ one,rfl,trivial,Y _ (by simp)⟩
 . have O:(k:Int)=1:=by lia
   rw [O]
   repeat (first | walk_at "l" | walk_at "k" | rw [U] | rw [esg])
   exact ⟨.op _ _ one oth,rfl,trivial,Y _ (by simp)⟩
 . have O:(k:Int)=2:=by lia
   rw [O];cases Z:cs.isEmpty with
   | true =>
    repeat (first | walk_at "l" | walk_at "k" | rw [U] | rw [iP,Z])
    exact ⟨.copy _ one,rfl,trivial,Y _ (by simp)⟩
   | false =>
    obtain ⟨cx,_,_,ecx,hcx⟩:=qE (cs:=cs) (c:=c) (by cases cs<;>simp at Z hc ⊢;lia)
    repeat (first | walk_at "l" | walk_at "k" | rw [U] | rw [iP,Z] | rw [ecx])
    exact ⟨.load _ cx,rfl,hcx,Y _ (by simp)⟩
 . have O:(k:Int)=3:=by lia
   rw [O];cases Z:cs.isEmpty with
   | true =>
    repeat (first | walk_at "l" | walk_at "k" | rw [U] | rw [iP,Z])
    exact ⟨.copy _ one,rfl,trivial,Y _ (by simp)⟩
   | false =>
    obtain ⟨cx,_,_,ecx,hcx⟩:=qE (cs:=cs) (c:=c) (by cases cs<;>simp at Z hc ⊢;lia)
    repeat (first | walk_at "l" | walk_at "k" | rw [U] | rw [iP,Z] | rw [ecx])
    exact ⟨.store cx one,rfl,hcx,Y _ (by simp)⟩
 . have O:(k:Int)=4:=by lia
   rw [O];cases hss:ss.isEmpty with
   | true =>
    repeat (first | walk_at "l" | walk_at "k" | rw [U] | rw [iP,hss])
    exact ⟨.copy _ one,rfl,trivial,Y _ (by simp)⟩
   | false =>
    obtain ⟨fx,_,_,efx,hfx⟩:=qE (cs:=ss) (c:=f) (by cases ss<;>simp at hss hf ⊢;lia)
    repeat (first | walk_at "l" | walk_at "k" | rw [U] | rw [iP,hss] | rw [efx])
    exact ⟨.take _ fx one,rfl,hfx,Y _ (by simp)⟩
 . have O:(k:Int)=5:=by lia
   rw [O];cases hss:ss.isEmpty with
   | true =>
    repeat (first | walk_at "l" | walk_at "k" | rw [U] | rw [iP,hss])
    exact ⟨.copy _ one,rfl,trivial,Y _ (by simp)⟩
   | false =>
    obtain ⟨fx,_,_,efx,hfx⟩:=qE (cs:=ss) (c:=f) (by cases ss<;>simp at hss hf ⊢;lia)
    repeat (first | walk_at "l" | walk_at "k" | rw [U] | rw [iP,hss] | rw [efx])
    exact ⟨.lay fx one oth,rfl,hfx,Y _ (by simp)⟩
 . have O:(k:Int)=6:=by lia
   rw [O]
   repeat (first | walk_at "l" | walk_at "k" | rw [U])
   exact ⟨.hear _,rfl,trivial,Y _ (by simp)⟩
 . have O:(k:Int)=7:=by lia
   rw [O]
   repeat (first | walk_at "l" | walk_at "k" | rw [U])
   exact ⟨.say one,rfl,trivial,Y _ (by simp)⟩
 . have O:(k:Int)=8:=by lia
   rw [O]
   repeat (first | walk_at "l" | walk_at "k" | rw [U])
   exact ⟨.iff one g,rfl,trivial,fun g' h=>by rcases h with ⟨a,h⟩ | h<;>cases h;exact hg⟩
 . have O:(k:Int)=9:=by lia
   rw [O]
   repeat (first | walk_at "l" | walk_at "k" | rw [U])
   exact ⟨.go g,rfl,trivial,fun g' h=>by rcases h with ⟨a,h⟩ | h<;>cases h;exact hg⟩
 . have O:(k:Int)=10:=by lia
   rw [O]
   repeat (first | walk_at "l" | walk_at "k" | rw [U])
   exact ⟨.fin one,rfl,trivial,Y _ (by simp)⟩
end P34
namespace L2
open PySem
def TRb:De->Option Out:=(aA (q14 2 (vL 3)) (aP 3 (toT (toD (d2 rZ (vB 0) (vB 3))))))
def TRc:De->Option Bool:=(tB2 (gIs true) (vB 3) (kD .non))
def TRf:List Dt->Option T:=b8 4 ((aA (aP 2 (bL ak)) (aA (aP 3 (toT (vL 1))) (aA (bt TRc TRb 100000) (bq (vLR (vB 2)))))))
def RT0:De->Option Out:=(jJ 3 (vB 4) (kD .non))
def RT1:De->Option Out:=(sIf (uK (vB 8) (vB 3)) (aA (jJ 3 (vB 8) (vL 7)) (q14 5 (vL 8))) bZ)
noncomputable def RT2 (G:Orc):De->Option Out:=(aA (aP 7 (toT (toD (d2 aq (vB 5) (vB 6))))) (aA (rD (fun i j=>i+j) 6 (kD (.int 1))) (aA (sIf (dN (toD (vCl G 2 (aa (vL 7) ak)))) (rn 3 (bq (ao TRf (aa (vL 3) (aa (vL 7) ak))))) bZ) (d4 (fIt (toD (vCl G 1 (aa (vL 7) ak)))) (ay 8) RT1))))
def RTc:De->Option Bool:=(tB2 (iW fun i j=>decide (i<j)) (vB 6) (toD (ao du (aa (vB 5) ak))))
def RTf (G:Orc):Dt->Addr->Addr->Hp->Option T:=rK 9 ((aA (aP 3 oY) (aA (d4 (fIt (vL 0)) (ay 4) RT0) (aA (aP 5 (ao cI (aa (vB 3) ak))) (aA (aP 6 (toT (kD (.int 0)))) (aA (bt RTc (RT2 G) 100000) (bq (toT (kD .non)))))))))
variable {δ:De}
theorem vg {g:Dt->Dt->Option T} {fa fb:De->Option Dt} {x y:Dt} {b:Bool} (h1:fa δ=some x) (h2:fb δ=some y) (h:g x y=some (.leaf (.bl b))):tB2 g fa fb δ=some b:=by unfold tB2 d2;rw [h1,h2];show (g x y).bind asB=_;rw [h];rfl
theorem yx {i:Nat} {fk fe:De->Option Dt} {l:List (List Key×Dt)} {kd d:Dt} {k:List Key} (h:δ[i]?=some (some (.dcT l))) (hk:fk δ=some kd) (q:isK kd=some k) (O:fe δ=some d) (W:l.length<1000000) (U:(l.map (·.1)).Nodup):jJ i fk fe δ=some (.nx (δ.set i (some (.dcT (gr l k d))))):=by unfold jJ;rw [O,hk,qa3,qa3,h];dsimp only;rw [q,qa3,if_pos ⟨fF W,U⟩]
variable {x4 x6:Option T}
section
variable {α:Type} [DecidableEq α] (ky:α->Int×Str)
def nD (t:α):Dt:=.tup [.int (ky t).1,.str (ky t).2]
def nK (t:α):List Key:=[.inl (ky t).1,.inr (ky t).2]
def pN:Option α->Dt
 | none=>.non
 | some h=>nD ky h
def cfT (q:CF α):T:=.dcT (q.map fun p=>(nK ky p.1,pN ky p.2))
def cfD (q:CF α):Dt:=.dcT (q.map fun p=>nK ky p.1) (q.map fun p=>pN ky p.2)
def sT (O:CF α) (q:Dt) (acc:List α) (h:Dt):De:=[some (.leaf (cfD ky O)),some (.leaf q),some (.lst (acc.map (nD ky))),some (.leaf h)]
def sR (st:Dt) (f1 f2:Addr) (F0:Hp) (q:CF α) (x4 x6 O U:Option T):De:=[some (.leaf st),some (.fn f1 F0),some (.fn f2 F0),some (cfT ky q),x4,some (.lst ((ks q).map (nD ky))),x6,O,U]
def sS (st:Dt) (f1 f2:Addr) (F0:Hp) (q:CF α) (x4:Option T):De:=[some (.leaf st),some (.fn f1 F0),some (.fn f2 F0),some (cfT ky q),x4,none,none,none,none]
variable {ky} (hk:∀ a b,ky a=ky b->a=b)
theorem me (hk:∀ a b,ky a=ky b->a=b) {a b:α} (h:nK ky a=nK ky b):a=b:=by unfold nK at h;simp only [List.cons.injEq,qy7.injEq,za6.injEq,and_true] at h;exact hk a b (Prod.ext h.1 h.2)
theorem vh (q:CF α):(cfT ky q).d=some (cfD ky q):=by unfold cfT T.d;dsimp only;rw [qd0,qd0];rfl
include hk
theorem mf (t:α):∀ q:CF α,cq (q.map fun p=>nK ky p.1) (q.map fun p=>pN ky p.2) (nK ky t)=(look q t).map (pN ky)
 | []=>rfl
 | p::q=>by
  simp only [qa5,cq];unfold look;by_cases h:p.1=t
  . rw [if_pos (by rw [h]),List.find?_cons_of_pos (by simpa using h)];rfl
  . rw [if_neg fun z=>h (me hk z),zc8 (by simpa using h),mf t q];rfl
theorem Cd (O:CF α) (t:α) {q:Option α} (h:look O t=some q):rZ (cfD ky O) (nD ky t)=some (.leaf (pN ky q)):=by show (cq (O.map fun p=>nK ky p.1) (O.map fun p=>pN ky p.2) (nK ky t)).map T.leaf=_;rw [mf hk,h];rfl
omit hk in
theorem Ce (q:CF α) (t:α):(look q t).isSome=decide (t∈ks q):=by unfold look ks;rw [qq0,qh2,List.find?_isSome];simp
theorem xx {O:CF α} {W:Dt}:∀ {t:α} {U:List α},Tr O t U->∀ (n:Nat) (acc:List α),U.length<n->acc.length+U.length<100000→
  bt TRc TRb n (sT ky O W acc (nD ky t))=some (.nx (sT ky O W (acc++U) .non)):=by
 intro t U tr
 have one:∀ (t:α) (acc:List α) (q:Option α),look O t=some q->acc.length<100000->TRb (sT ky O W acc (nD ky t))=some (.nx (sT ky O W (acc++[t]) (pN ky q))):=by
  intro t acc q hq Y;unfold TRb
  rw [bc (pb (l:=acc.map (nD ky)) (d:=nD ky t) rfl rfl (by rw [qa1];lia)),bT (t:=.leaf (pN ky q)) (by show ((rZ (cfD ky O) (nD ky t)).bind T.d).map T.leaf=_;rw [Cd hk O t hq];rfl)]
  unfold sT;rw [qc6];rfl
 induction tr with
 | @one t h =>intro n acc Z Y;obtain ⟨n,rfl⟩:∃ m,n=m+2:=⟨n-2,by simp at Z;lia⟩;rw [i9 rfl (one t acc none h (by lia))];exact l7 rfl
 | @more t p r h r' ih =>intro n acc Z Y;obtain ⟨n,rfl⟩:∃ m,n=m+1:=⟨n-1,by lia⟩;rw [i9 rfl (one t acc (some p) h (by simp at Y;lia))];have:=ih n (acc++[t]) (by simp at Z;lia) (by simp at Y ⊢;lia);rw [show pN ky (some p)=nD ky p from rfl,this,qj1];rfl
theorem sj {O:CF α} {t:α} {q:List α} (U:Tr O t q) (W:q.length<10000):TRf [cfD ky O,nD ky t]=some (.lst (q.reverse.map (nD ky))):=by unfold TRf;refine fQ ?_;show aA _ _ [some (.leaf (cfD ky O)),some (.leaf (nD ky t)),none,none]=_;rw [bc (bT (t:=.lst []) (by rw [u2];show ((some []).bind mkL)=_;rw [qa3,cb (by simp)])),bc (δ':=sT ky O (nD ky t) [] (nD ky t)) (bT rfl),bc (xx hk U 100000 [] (by lia) (by simp;lia)),qj8];show some (Out.rt (.lst (q.map (nD ky)).reverse))=_;rw [List.map_reverse]
variable {f1 f2:Addr} {F0:Hp} {G:Orc} {st:Dt}
theorem mh (t:α) (q:Option α):∀ {cf:CF α},t∉ks cf->gr (cf.map fun p=>(nK ky p.1,pN ky p.2)) (nK ky t) (pN ky q)=(cf++[(t,q)]).map fun p=>(nK ky p.1,pN ky p.2)
 | [],_=>rfl
 | p::cf,h=>by have h:t∉p.1::ks cf:=h;rw [qa5,gr,if_neg fun z=>h (by rw [me hk z];exact .head _),mh t q fun z=>h (.tail _ z)];rfl
theorem nN {t:α}:∀ {O:CF α},t∈ks O->(∀ p∈O,p.2=none)->gr (O.map fun p=>(nK ky p.1,pN ky p.2)) (nK ky t) .non=O.map fun p=>(nK ky p.1,pN ky p.2)
 | [],h,_=>by cases h
 | p::O,h,U=>by
  rw [qa5,gr];by_cases e:p.1=t
  . rw [if_pos (by rw [e]),U p (.head _)];rfl
  . rw [if_neg fun z=>e (me hk z),nN ((qb3.mp (show t∈p.1::ks O from h)).resolve_left fun z=>e z.symm) fun q W=>U q (.tail _ W)]
theorem yy {q:CF α} (h:(ks q).Nodup):((q.map fun p=>(nK ky p.1,pN ky p.2)).map (·.1)).Nodup:=by
 have:((ks q).map (nK ky)).Nodup:=by rw [qi8,qn6];exact qt5 (fun {a b} (z:a≠b) e=>z (me hk e)) h
 rw [qd0];unfold ks at this;rw [qd0] at this;exact this
omit hk in
theorem mi (q:CF α):(ks q).length=q.length:=qa1 ..
theorem Cf {O:CF α} {h t:α} (W:(ks O).Nodup) (Y:O.length<100000) :
  RT1 (sR ky st f1 f2 F0 O x4 x6 (some (.leaf (nD ky h))) (some (.leaf (nD ky t))))=some (.nx (sR ky st f1 f2 F0 (gv h O t) x4 x6 (some (.leaf (nD ky h))) (some (.leaf (nD ky t))))):=by
 have U:uK (vB 8) (vB 3) (sR ky st f1 f2 F0 O x4 x6 (some (.leaf (nD ky h))) (some (.leaf (nD ky t))))=some (!decide (t∈ks O)):=by unfold uK;rw [show vB 8 (sR ky st f1 f2 F0 O x4 x6 (some (.leaf (nD ky h))) (some (.leaf (nD ky t))))=some (nD ky t) from rfl,show vB 3 (sR ky st f1 f2 F0 O x4 x6 (some (.leaf (nD ky h))) (some (.leaf (nD ky t))))=some (cfD ky O) from vh O];show some (!(cq (O.map fun p=>nK ky p.1) (O.map fun p=>pN ky p.2) (nK ky t)).isSome)=_;rw [mf hk,qq0,Ce]
 unfold RT1;by_cases q:t∈ks O
 . rw [decide_eq_true q] at U;rw [AI U,show gv h O t=O from if_pos q];rfl
 . rw [decide_eq_false q] at U;rw [AH U,show gv h O t=O++[(t,some h)] from if_neg q,bc (yx (i:=3) (kd:=nD ky t) (k:=nK ky t) (d:=pN ky (some h)) (l:=O.map fun p=>(nK ky p.1,pN ky p.2)) rfl rfl rfl rfl (by rw [qa1];lia) (yy hk W)),mh hk t (some h) q];refine (pb (i:=5) (l:=(ks O).map (nD ky)) (d:=nD ky t) rfl rfl (by rw [qa1,mi];lia)).trans ?_;unfold sR;rw [dW,qc6 (f:=nD ky)];rfl
omit hk in
theorem xy {h t:α} {q:CF α} (O:(ks q).Nodup):(ks (gv h q t)).Nodup:=by obtain ⟨_,_,_,h3,_⟩:=da h [t] q;exact h3 O
omit hk in
theorem vi (h t:α) (q:CF α):(gv h q t).length<=q.length+1:=by unfold gv;split<;>simp
theorem yz {h:α}:∀ (ts:List α) (q:CF α) (O:Option T),(ks q).Nodup->q.length+ts.length<100000→
  ∃ U,cC (ay 8) RT1 (ts.map (nD ky)) (sR ky st f1 f2 F0 q x4 x6 (some (.leaf (nD ky h))) O)=some (.nx (sR ky st f1 f2 F0 (ce h q ts) x4 x6 (some (.leaf (nD ky h))) U))
 | [],q,O,_,_=>⟨O,rfl⟩
 | t::ts,q,O,W,Y=>by rw [qi5] at Y;obtain ⟨U,e⟩:=yz ts (gv h q t) (some (.leaf (nD ky t))) (xy W) (by have:=vi h t q;lia);refine ⟨U,?_⟩;rw [qa5,bB rfl (Cf hk W (by lia))];exact e
omit hk in
theorem AU (q:CF α) (t:α):(bv q t).length<=q.length+1:=by unfold bv;split<;>simp
omit hk in
theorem Cg {O:CF α} {t:α} (W:(ks O).Nodup):(ks (bv O t)).Nodup:=by
 unfold bv;split
 . exact W
 . rename_i q;rw [dW];refine qe8.mpr ⟨W,by simp [ks],fun a Y b U=>?_⟩;simp [ks] at U;subst U;rintro rfl;exact q Y
omit hk in
theorem qF {O:CF α} {t:α} (q:∀ p∈O,p.2=none):∀ p∈bv O t,p.2=none:=fun p hp=>by
 unfold bv at hp;split at hp
 . exact q p hp
 . rcases qf8.mp hp with z | z
   . exact q p z
   . cases qb7.mp z;rfl
include hk in
theorem sk {x4:Option T} {O:CF α} {t:α} (W:(ks O).Nodup) (U:∀ p∈O,p.2=none) (Y:O.length<100000):RT0 (sS ky st f1 f2 F0 O (some (.leaf (nD ky t))))=some (.nx (sS ky st f1 f2 F0 (bv O t) (some (.leaf (nD ky t))))):=by
 unfold RT0;rw [yx (i:=3) (kd:=nD ky t) (k:=nK ky t) (d:=.non) (l:=O.map fun p=>(nK ky p.1,pN ky p.2)) rfl rfl rfl rfl (by rw [qa1];lia) (yy hk W)];unfold bv;split
 . rename_i q;rw [nN hk q U];rfl
 . rename_i q;rw [show (Dt.non)=pN ky (none:Option α) from rfl,mh hk t none q];rfl
theorem k8:∀ (ss:List α) (q:CF α) (x4:Option T),(ks q).Nodup->(∀ p∈q,p.2=none)->q.length+ss.length<100000→
  ∃ O,cC (ay 4) RT0 (ss.map (nD ky)) (sS ky st f1 f2 F0 q x4)=some (.nx (sS ky st f1 f2 F0 (ss.foldl bv q) O))
 | [],q,x4,_,_,_=>⟨x4,rfl⟩
 | t::ss,q,x4,W,U,Y=>by rw [qi5] at Y;obtain ⟨O,e⟩:=k8 ss (bv q t) (some (.leaf (nD ky t))) (Cg W) (qF U) (by have:=AU q t;lia);refine ⟨O,?_⟩;rw [qa5,bB rfl (sk hk W U (by lia) (x4:=x4))];exact e
end
section
variable {α:Type} [DecidableEq α] {ky:α->Int×Str} (hk:∀ a b,ky a=ky b->a=b) {f1 f2:Addr} {F0:Hp} {G:Orc} {st:Dt}
def LpR (ky:α->Int×Str) (q:CF α) (o:Option Out):Option α->Prop
 | none=>∃ δ,o=some (.nx δ)
 | some h=>∀ c,TRf [cfD ky q,nD ky h]=some c->o=some (.rt c)
include hk
theorem gy {x4:Option T} {U:List α} {beh:α->List α} {fit:α->Bool} (hU:∀ t∈U,∀ u∈beh t,u∈U) (hUl:U.length<=10000) (hbl:∀ t∈U,(beh t).length<=1000) (h1:∀ t∈U,G f1 F0 [nD ky t]=some (.lst ((beh t).map (nD ky)))) (h2:∀ t∈U,G f2 F0 [nD ky t]=some (.leaf (.bl (fit t)))) :
  ∀ (n:Nat) (O:CF α) (k:Nat) (J:List (List α)) (x7 Y:Option T) (f:Option α) (cf':CF α) (J':List (List α)),(ks O).Nodup->(∀ t∈ks O,t∈U)->bfs beh fit n O k J=some (f,cf',J')→
   LpR ky cf' (bt RTc (RT2 G) n (sR ky st f1 f2 F0 O x4 (some (.leaf (.int k))) x7 Y)) f
 | 0,O,k,J,x7,Y,f,cf',J',nd,hc,Z=>by cases Z
 | n+1,O,k,J,x7,Y,f,cf',J',nd,hc,Z=>by
  have hcl:O.length<=10000:=by have:=cQ nd hc;rw [mi] at this;lia
  have W:RTc (sR ky st f1 f2 F0 O x4 (some (.leaf (.int k))) x7 Y)=some (decide ((k:Int)<O.length)):=by refine vg (x:=.int k) rfl (y:=.int (O.length:Nat)) ?_ rfl;show some (Dt.int (((ks O).map (nD ky)).length:Nat))=_;rw [qa1,mi]
  unfold bfs at Z;cases q:O[k]? with
  | none =>rw [q] at Z;cases Z;have:=qh3.mp q;rw [decide_eq_false (by lia)] at W;exact ⟨_,l7 W⟩
  | some x =>
   obtain ⟨h,pq⟩:=x;rw [q] at Z;dsimp only at Z;have hkl:=(gX q).1;have hhU:h∈U:=hc h (fS q);rw [decide_eq_true (by lia)] at W
   have s1:aP 7 (toT (toD (d2 aq (vB 5) (vB 6)))) (sR ky st f1 f2 F0 O x4 (some (.leaf (.int k))) x7 Y)=some (.nx (sR ky st f1 f2 F0 O x4 (some (.leaf (.int k))) (some (.leaf (nD ky h))) Y)):=by
    refine (bT (t:=.leaf (nD ky h)) ?_).trans rfl;show ((aq (.lst ((ks O).map (nD ky))) (.int k)).bind T.d).map T.leaf=_;rw [qv,bW,qb4];have:(ks O)[k]?=some h:=by unfold ks;rw [qb4,q];rfl
    rw [this];rfl
   have s2:rD (fun i j=>i+j) 6 (kD (.int 1)) (sR ky st f1 f2 F0 O x4 (some (.leaf (.int k))) (some (.leaf (nD ky h))) Y)=some (.nx (sR ky st f1 f2 F0 O x4 (some (.leaf (.int ((k+1:Nat):Int)))) (some (.leaf (nD ky h))) Y)):=by show some (Out.nx _)=some (Out.nx _);rw [show ((k+1:Nat):Int)=(k:Int)+1 by lia];rfl
   have tf:dN (toD (vCl G 2 (aa (vL 7) ak))) (sR ky st f1 f2 F0 O x4 (some (.leaf (.int ((k+1:Nat):Int)))) (some (.leaf (nD ky h))) Y)=some (fit h):=by show (((G f2 F0 [nD ky h]).bind T.d).bind mK)=_;rw [h2 h hhU];rfl
   cases hf:fit h with
   | true =>rw [hf] at Z tf;cases Z;intro c ht;refine u5 W ?_;unfold RT2;rw [bc s1,bc s2];refine o7 ?_;rw [AH tf];show ((cfT ky O).d.bind fun d=>bq (ao TRf (aa (vL 3) (aa (vL 7) ak))) ((sR ky st f1 f2 F0 O x4 (some (.leaf (.int ((k+1:Nat):Int)))) (some (.leaf (nD ky h))) Y).set 3 (some (.leaf d))))=_;rw [vh,qa3];show (TRf [cfD ky O,nD ky h]).map Out.rt=_;rw [ht];rfl
   | false =>
    rw [hf] at Z tf;simp only [qf0,if_false] at Z;obtain ⟨e,p1,p2,p3,p4⟩:=da h (beh h) O;obtain ⟨y8,hpE⟩:=yz hk (st:=st) (f1:=f1) (f2:=f2) (F0:=F0) (x4:=x4) (x6:=some (.leaf (.int ((k+1:Nat):Int)))) (h:=h) (beh h) O Y nd (by have:=hbl h hhU;lia)
    have body:RT2 G (sR ky st f1 f2 F0 O x4 (some (.leaf (.int k))) x7 Y)=some (.nx (sR ky st f1 f2 F0 (ce h O (beh h)) x4 (some (.leaf (.int ((k+1:Nat):Int)))) (some (.leaf (nD ky h))) y8)):=by unfold RT2;rw [bc s1,bc s2,bc (by rw [AI tf];rfl)];show ((((G f1 F0 [nD ky h]).bind T.d).bind itD).bind fun ds=>cC (ay 8) RT1 ds (sR ky st f1 f2 F0 O x4 (some (.leaf (.int ((k+1:Nat):Int)))) (some (.leaf (nD ky h))) Y))=_;rw [h1 h hhU];exact hpE
    rw [i9 W body];exact gy hU hUl hbl h1 h2 n (ce h O (beh h)) (k+1) _ (some (.leaf (nD ky h))) y8 f cf' J' (p3 nd) (jR hc (hU h hhU)) Z
omit hk in
def resR (ky:α->Int×Str):Option (List α)->T
 | none=>.leaf .non
 | some q=>.lst (q.reverse.map (nD ky))
theorem iQ {starts:List α} (hl:starts.length<=10000):∃ q,∀ o:Option Out,bt RTc (RT2 G) 100000 (sR ky (.lst (starts.map (nD ky))) f1 f2 F0 (starts.foldl bv []) q (some (.leaf (.int ((0:Nat):Int)))) none none)=o→
  (∀ c,o=some (.rt c)->RTf G (.lst (starts.map (nD ky))) f1 f2 F0=some c)/\(∀ δ,o=some (.nx δ)->RTf G (.lst (starts.map (nD ky))) f1 f2 F0=some (.leaf .non)):=by
 obtain ⟨q,e⟩:=k8 hk (st:=.lst (starts.map (nD ky))) (f1:=f1) (f2:=f2) (F0:=F0) starts [] none (by simp [ks]) (by simp) (by simp;lia)
 have Z:∀ {g:De->Option Out} {r:T},g (deR 9 (.lst (starts.map (nD ky))) f1 f2 F0)=some (.rt r)->rK 9 g (.lst (starts.map (nD ky))) f1 f2 F0=some r:=fun {g r} z=>by unfold rK;rw [z]
 have Y:d4 (fIt (vL 0)) (ay 4) RT0 (sS ky (.lst (starts.map (nD ky))) f1 f2 F0 [] none)=some (.nx (sS ky (.lst (starts.map (nD ky))) f1 f2 F0 (starts.foldl bv []) q)):=e
 have W:aP 5 (ao cI (aa (vB 3) ak)) (sS ky (.lst (starts.map (nD ky))) f1 f2 F0 (starts.foldl bv []) q)=some (.nx (sR ky (.lst (starts.map (nD ky))) f1 f2 F0 (starts.foldl bv []) q none none none)):=by refine (bT (t:=.lst ((ks (starts.foldl bv [])).map (nD ky))) ?_).trans rfl;unfold ao aa;rw [show vB 3 (sS ky (.lst (starts.map (nD ky))) f1 f2 F0 (starts.foldl bv []) q)=some (cfD ky (starts.foldl bv [])) from vh _];show some (T.lst (((starts.foldl bv []).map fun p=>nK ky p.1).map jH))=_;unfold ks;rw [qd0,qd0];rfl
 refine ⟨q,fun o U=>⟨fun c O=>?_,fun δ O=>?_⟩⟩
 all_goals
  unfold RTf;refine Z ?_;show aA _ _ (some (.leaf (.lst (starts.map (nD ky))))::some (.fn f1 F0)::some (.fn f2 F0)::qc3 6 none)=_;rw [bc (δ':=sS ky (.lst (starts.map (nD ky))) f1 f2 F0 [] none) (bT rfl),bc Y,bc W,bc (δ':=sR ky (.lst (starts.map (nD ky))) f1 f2 F0 (starts.foldl bv []) q (some (.leaf (.int ((0:Nat):Int)))) none none) (bT rfl)]
 . exact o7 (U.trans O)
 . rw [bc (U.trans O)];rfl
theorem vj {U starts:List α} {beh:α->List α} {fit:α->Bool} (hU:∀ t∈U,∀ u∈beh t,u∈U) (hUl:U.length<=9000) (Z:∀ t∈U,(beh t).length<=1000) (hs:∀ t∈starts,t∈U) (hsl:starts.length<=10000) :
  ∃ r:Option (List α),(∀ (G:Orc) (f1 f2:Addr) (F0:Hp),(∀ t∈U,G f1 F0 [nD ky t]=some (.lst ((beh t).map (nD ky))))->(∀ t∈U,G f2 F0 [nD ky t]=some (.leaf (.bl (fit t))))→
      RTf G (.lst (starts.map (nD ky))) f1 f2 F0=some (resR ky r))∧
   (r=none->∀ t,Rch beh starts t->fit t=false)/\∀ Y,r=some Y->Y.length<=9001/\∃ t,Wy beh fit starts t Y/\fit t=true:=by
 have W:∀ t∈ks (starts.foldl bv ([]:CF α)),t∈U:=fun t ht=>by
  obtain ⟨i,q,e⟩:=fR ht;have B:=BI.start (beh:=beh) (fit:=fit) (starts:=starts);cases q with
  | none=>exact hs t (B.st i t e)
  | some p =>
   exfalso
   have key:∀ (ss:List α) (O:CF α),(∀ p∈O,p.2=none)->∀ p∈ss.foldl bv O,p.2=none:=fun ss=>by
    induction ss with
    | nil=>intro O h;exact h
    | cons s ss ih=>intro O h;exact ih _ (qF h)
   have:=key starts [] (by simp) _ (qc7 e);cases this
 obtain ⟨f,O,J,k',h1,B,hc,hn,hf⟩:=nA (fit:=fit) (starts:=starts) hU 100000 (starts.foldl bv []) 0 [] BI.start W (qj2 _) (by lia);have nd:=(BI.start (beh:=beh) (fit:=fit) (starts:=starts)).nd;cases f with
 | none =>
  refine ⟨none,fun G f1 f2 F0 g1 g2=>?_,fun _ t ht=>?_,fun Y z=>(by cases z)⟩
  . obtain ⟨y4,hr⟩:=iQ hk (G:=G) (f1:=f1) (f2:=f2) (F0:=F0) hsl;obtain ⟨δ',hw⟩:=gy hk (st:=.lst (starts.map (nD ky))) (x4:=y4) hU (by lia) Z g1 g2 100000 _ 0 [] none none none O J nd W h1;exact (hr _ rfl).2 δ' hw
  . have:=hn rfl;subst this;exact B.none ht
 | some h =>
  obtain ⟨g1,g2⟩:=hf h rfl;obtain ⟨i,q,e⟩:=fR g2;obtain ⟨Y,tr,wy,hl⟩:=B.trace i h q e;have hi:=(gX e).1
  have hcl:O.length<=9000:=by have:=cQ B.nd hc;rw [mi] at this;lia
  refine ⟨some Y,fun G f1 f2 F0 q1 q2=>?_,fun z=>(by cases z),fun ws' z=>(by cases z;exact ⟨by lia,h,wy,g1⟩)⟩;obtain ⟨y4,hr⟩:=iQ hk (G:=G) (f1:=f1) (f2:=f2) (F0:=F0) hsl;have hw:=gy hk (st:=.lst (starts.map (nD ky))) (x4:=y4) hU (by lia) Z q1 q2 100000 _ 0 [] none none (some h) O J nd W h1;exact (hr _ rfl).1 _ (hw _ (sj hk tr (by lia)))
end
end L2
namespace P34
open PySem L2
def ky (t:Nat×Mrk):Int×Str:=((t.1:Int),ms t.2)
theorem AV (a b:Nat×Mrk) (h:ky a=ky b):a=b:=by unfold ky at h;simp only [Prod.mk.injEq] at h;exact Prod.ext (by lia) (l9 h.2)
def Un (n:Nat):List (Nat×Mrk):=(qb8 n).flatMap fun k=>[(k,.fresh),(k,.seen),(k,.safe),(k,.spoilt)]
theorem mem_Un {n:Nat} {t:Nat×Mrk}:t∈Un n↔t.1<n:=by
 unfold Un;rw [List.mem_flatMap];constructor
 . rintro ⟨k,hk,h⟩;have hk:=qd1.mp hk;simp at h;rcases h with rfl | rfl | rfl | rfl<;>exact hk
 . intro h;refine ⟨t.1,qd1.mpr h,?_⟩;obtain ⟨k,m⟩:=t;cases m<;>simp
theorem AW (n:Nat):(Un n).length=4*n:=by
 unfold Un;induction n with
 | zero=>rfl
 | succ n q=>rw [qx4,List.flatMap_append,qb5,q];simp;lia
def pD (cs ss:List Hd) (rows:List Rw):Dt:=.tup [.tup (cs.map hdD),.tup (ss.map hdD),dR rows]
def cD (b:Dt) (kp:List (Nat×Dt)):Dt:=.tup [b,kpD kp]
def kps (kp:List (Nat×Dt)):List Nat:=kp.map (·.1)
def plain (cs ss:List Hd):List Str:=((cs++ss).filter fun h=>!h.b).map (·.x)
def sl8 (P C:Dt) (nm:Str) (x3 x4 q:Option T):De:=[some (.leaf P),some (.leaf C),some (.leaf (.str nm)),x3,x4,none,none,q]
variable {cs ss:List Hd} {rows:List Rw} {b:Dt} {kp:List (Nat×Dt)}
theorem sq {nm:Str} (q:cs.length+ss.length<=1000) (h:nm∉plain cs ss) :
  y26 [pD cs ss rows,cD b kp,.str nm]=some (.leaf .non):=by
 unfold y26;refine fQ ?_;show aA _ _ (sl8 (pD cs ss rows) (cD b kp) nm none none none)=_
 have O:tB2 (bA true) (vB 2) (toD (ao q20 (aa (vL 0) ak))) (sl8 (pD cs ss rows) (cD b kp) nm none none none)=some true:=by unfold sl8;walk_at "k";unfold pD;rw [nC cs ss _ q];walk_at "k";rw [jQ];simp only [if_true];rw [show (((cs++ss).filter fun h=>!h.b).map (·.x))=plain cs ss from rfl,decide_eq_false h];rfl
 exact o7 (by rw [AH O];rfl)
def AX:Option (List (Nat×Mrk))->T
 | none=>.leaf .non
 | some q=>.lst ((q.reverse.map (·.1)).map dI)
theorem ph {b:Dt} {nm:Str} (hl:cs.length+ss.length<=1000) (h:nm∈plain cs ss) (hr:rows.length<=1000) (Z:0<rows.length) (hk:kp.length<=1000) (hkr:∀ k∈kps kp,k<rows.length) (hO:∀ (k:Nat) (r:Rw) (w:Nat),rows[k]?=some r->w∈r.outs k->w<rows.length) :
  ∃ r:Option (List (Nat×Mrk)),y26 [pD cs ss rows,cD b kp,.str nm]=some (AX r)∧(r=none->∀ t,Rch (ee rows (kps kp) nm) (bN (kps kp)) t->fI rows nm t=false)/\∀ q,r=some q->q.length<=10000/\∃ t,Wy (ee rows (kps kp) nm) (fI rows nm) (bN (kps kp)) t q/\fI rows nm t=true:=by
 obtain ⟨r,h1,h2,h3⟩:=vj (ky:=ky) AV (U:=Un rows.length) (starts:=bN (kps kp)) (beh:=ee rows (kps kp) nm) (fit:=fI rows nm)
  (fun t O u hu=>by obtain ⟨r,e,_,g,_⟩:=u8 hu;exact mem_Un.mpr (hO _ r _ e g))
  (by rw [AW];lia)
  (fun t O=>by
   unfold ee;split
   . simp
   . split
     . simp
     . rw [qa1];exact qc1 (qg8 _ _) (qc1 (Rw.outs_len _ _) (by decide)))
  (fun t O=>by
   obtain ⟨k,W,rfl⟩:=qc9.mp O;refine mem_Un.mpr ?_;rcases qb3.mp W with rfl | z
   . exact Z
   . exact hkr k z)
  (by unfold bN kps;simp;lia)
 refine ⟨r,?_,h2,fun q z=>⟨qc1 (h3 q z).1 (by decide),(h3 q z).2⟩⟩;have Y:∀ q,r=some q->q.length<=10000:=fun q z=>qc1 (h3 q z).1 (by decide)
 unfold y26;refine fQ ?_;show aA _ _ (sl8 (pD cs ss rows) (cD b kp) nm none none none)=_
 have t1:tB2 (bA true) (vB 2) (toD (ao q20 (aa (vL 0) ak))) (sl8 (pD cs ss rows) (cD b kp) nm none none none)=some false:=by unfold sl8;walk_at "k";unfold pD;rw [nC cs ss _ hl];walk_at "k";rw [jQ];simp only [if_true];rw [show (((cs++ss).filter fun h=>!h.b).map (·.x))=plain cs ss from rfl,decide_eq_true h];rfl
 have t3:aP 4 (toT (toD (ao q23 (aa (vL 0) (aa (vL 1) ak))))) (sl8 (pD cs ss rows) (cD b kp) nm (some (.leaf (dR rows))) none none)=some (.nx (sl8 (pD cs ss rows) (cD b kp) nm (some (.leaf (dR rows))) (some (.leaf (.lst (hX (kps kp) rows)))) none)):=by refine (bT (t:=.leaf (.lst (hX (kps kp) rows))) ?_).trans rfl;show (((q23 [pD cs ss rows,cD b kp]).bind T.d).map T.leaf)=_;unfold pD cD;rw [vc _ _ _ rows kp hr hk];rfl
 rw [bc (by rw [AI t1];rfl),bc (δ':=sl8 (pD cs ss rows) (cD b kp) nm (some (.leaf (dR rows))) none none) (bT rfl),bc t3];show aA _ _ (sl8 (pD cs ss rows) (cD b kp) nm (some (.leaf (dR rows))) (some (.leaf (.lst (hX (kps kp) rows)))) none)=_
 have f0:q56 (sl8 (pD cs ss rows) (cD b kp) nm (some (.leaf (dR rows))) (some (.leaf (.lst (hX (kps kp) rows)))) none)=some (.lst ((bN (kps kp)).map (nD ky))):=by unfold q56 sl8;walk_at "k";unfold cD;rw [qz b kp hk];walk_at "k";rw [o4 (small (by simp;lia))];walk_at "k";rw [show (Dt.int 0::(kp.map (fun x=>x.1)).map dI)=(0::kps kp).map dI from rfl,bR (h:=fun k:Nat=>dk (k,.fresh)) fun k _=>⟨_,rfl,rfl,by unfold q82 dk dw;walk_at "k";rfl⟩];walk_at "k";rw [cb (by unfold kps;simp;lia)];unfold bN;rw [qd0];rfl
 have fr:fRt [2,3,4] [2,3] ["place","mark","name","rows","inner"] ["place","name","rows"] bH bI q56 y76 (sl8 (pD cs ss rows) (cD b kp) nm (some (.leaf (dR rows))) (some (.leaf (.lst (hX (kps kp) rows)))) none)=some (resR ky r):=by
  refine z0 (d0:=.lst ((bN (kps kp)).map (nD ky))) (a:=[.str nm,dR rows,.lst (hX (kps kp) rows)]) (b:=[.str nm,dR rows]) f0 rfl rfl fun f1 f2 F0 hne=>?_
  refine h1 _ f1 f2 F0 (fun t O=>?_) fun t O=>?_
  . rw [zX];exact r9 (mem_Un.mp O)
  . rw [zY hne];exact r8 (mem_Un.mp O)
 rw [bc (bT fr)];cases r with
 | none=>rfl
 | some q =>
  have hwl:q.length<=10000:=Y q rfl;show bq _ [some (.leaf (pD cs ss rows)),some (.leaf (cD b kp)),some (.leaf (.str nm)),some (.leaf (dR rows)),some (.leaf (.lst (hX (kps kp) rows))),none,none,some (.lst (q.reverse.map (nD ky)))]=_;walk_at "k"
  rw [bR (h:=fun t:Nat×Mrk=>dI t.1) fun t _=>⟨[some (.leaf (dk t))],rfl,rfl,by unfold z80;walk_at "k";rw [qB];rfl⟩]
  walk_at "k";rw [cb (by rw [qa1,List.length_reverse];lia)];show some (Out.rt (.lst (q.reverse.map fun t=>dI t.1)))=some (Out.rt (.lst ((q.reverse.map (·.1)).map dI)));rw [qd0];rfl
theorem k9 {α β:Type} {bb:Dt->De->Option De} {fe:De->Option Dt} {δ:De} {f:α->Dt} {h:β->Dt} {P:β->Prop}:∀ {l:List α},(∀ a∈l,∃ δ1 y,bb (f a) δ=some δ1/\fe δ1=some (h y)/\P y)->∃ ys:List β,cM bb dm fe δ (l.map f)=some (ys.map h)/\ys.length=l.length/\∀ y∈ys,P y
 | [],_=>⟨[],rfl,rfl,fun y U=>by cases U⟩
 | a::l,q=>by
  obtain ⟨δ1,y,h1,h2,h3⟩:=q a qe5;obtain ⟨ys,e,W,hp⟩:=k9 (l:=l) fun e Y=>q e (qd3 _ Y)
  refine ⟨y::ys,?_,by simp [W],fun z O=>?_⟩
  . rw [qa5];unfold cM;rw [h1,qa3];show ((fe δ1).bind fun y=>_)=_;rw [h2,qa3,e];rfl
  . rcases qb3.mp O with rfl | O
    . exact h3
    . exact hp z O
def many (ns:List Int):Nat:=max 1 (min (ns.length-5) 58)
def vk (ns:List Int):Int:=if (58:Int)<(ns.length:Int)-5 then 58 else (ns.length:Int)-5
theorem AY (ns:List Int):wL [.int ((ns.length:Int)-5),.int (1+57)]=some (.leaf (.int (vk ns))):=rfl
theorem xz (ns:List Int):oR [.int 1,.int (vk ns)]=some (.leaf (.int (many ns))):=by show some (T.leaf (Dt.int (if (1:Int)<vk ns then vk ns else 1)))=_;congr 3;unfold many vk;split<;>split<;>lia
variable {ns:List Int}
theorem Ch {scr:Dt} (q:scr=.lst (ns.map .int)) {B:List Str} {rest:Int} (W:Wld B cs ss) (k:Nat) (hk:k<100) (m:Nat) (hm:0<m) (O:m<=100):∃ r:Rw,z30 [some (.leaf (dI k)),some (.leaf scr),some (.leaf (wD B cs ss rest)),some (.leaf (.int m))]=some r.d/\RwB cs ss m r:=by subst q;obtain ⟨v,Y⟩:=jS ns (6+k) (by lia);obtain ⟨r,Z,U⟩:=AT v rest B cs ss m W hm O;refine ⟨r,?_,U⟩;unfold z30 dI;walk_at "d";rw [show (6:Int)+(k:Int)=((6+k:Nat):Int) by lia,Y];walk_at "d";rw [Z];rfl
variable {j:Nat}
theorem RwB.outs {m:Nat} {r:Rw} (h:RwB cs ss m r) {i:Nat} (hi:i+1<m) (q:j∈r.outs i):j<m:=by
 cases r<;>simp [Rw.outs] at q<;>first | lia | skip
 . rcases q with rfl | rfl
   . exact h.2 _ (.inl ⟨_,rfl⟩)
   . exact hi
 . subst q;exact h.2 _ (.inr rfl)
structure Prg (cs ss:List Hd) (rows:List Rw):Prop where
 l0:0<rows.length
 l1:rows.length<=58
 hN:∀ (i:Nat) (r:Rw),rows[i]?=some r->RwN cs ss r
 hO:∀ (i:Nat) (r:Rw) (j:Nat),rows[i]?=some r->j∈r.outs i->j<rows.length
theorem xA (ns:List Int):∃ (B:List Str) (cs ss:List Hd) (rest:Int) (rows:List Rw),z18 [.lst (ns.map .int)]=some (.leaf (wD B cs ss rest))/\q13 [.lst (ns.map .int),.int 57]=some (.leaf (pD cs ss rows))/\Wld B cs ss/\Prg cs ss rows:=by
 obtain ⟨B,cs,ss,rest,ew,W⟩:=vf ns;have hm:0<many ns:=by unfold many;lia
 have hm2:many ns<=58:=by unfold many;lia
 have b1:=W.b1
 obtain ⟨rows,er,el,hr⟩:=k9 (bb:=ay 0) (fe:=z30) (δ:=[none,some (.leaf (.lst (ns.map .int))),some (.leaf (wD B cs ss rest)),some (.leaf (.int (many ns)))]) (f:=dI) (h:=Rw.d) (P:=RwB cs ss (many ns)) (l:=qb8 (many ns-1)) fun k hk=>by have hk:=qd1.mp hk;obtain ⟨r,e,h⟩:=Ch (ns:=ns) (rest:=rest) rfl W k (by lia) (many ns) hm (by lia);exact ⟨_,r,rfl,e,h⟩
 have el:rows.length=many ns-1:=by simpa using el
 obtain ⟨ds,ed,eld,hd⟩:=ef rest [2,many ns,B.length+1,1099511627776] (by intro z hz;simp at hz;lia) (by simp);have hl:ds.length=4:=eld
 obtain ⟨Y,g,bx,O,rfl⟩:∃ Y g bx O,ds=[Y,g,bx,O]:=by
  match ds,hl with
  | [Y,g,bx,O],_=>exact ⟨Y,g,bx,O,rfl⟩
 have hla:Y<2:=hd 0 _ _ rfl rfl;have hg:g<many ns:=hd 1 _ _ rfl rfl;have hbx:bx<B.length+1:=hd 2 _ _ rfl rfl
 have ed':z8 [.int rest,.lst [.int 2,.int (many ns),.int ((B.length:Int)+1),.int wide]]=some (.lst [.int Y,.int g,.int bx,.int O]):=by rw [pf];exact ed
 obtain ⟨at1,ha,ea⟩:=md (B:=B) (v:=O) (j:=bx) (by lia) hbx
 obtain ⟨last,Z,U⟩:∃ last:Rw,atI [Dt.tup [.str "end",at1.d],.tup [.str "go",.int g]] (Y:Int)=some last.d/\((∃ a,AtB B a/\last=.fin a)∨(∃ g,g<many ns/\last=.go g)):=by
  have q:Y=0∨Y=1:=by lia
  rcases q with rfl | rfl
  . exact ⟨.fin at1,rfl,.inl ⟨at1,ha,rfl⟩⟩
  . exact ⟨.go g,rfl,.inr ⟨g,hg,rfl⟩⟩
 have hlb:RwB cs ss (many ns) last:=by
  rcases U with ⟨a,h,rfl⟩ | ⟨g,h,rfl⟩
  . exact ⟨trivial,fun g z=>by simp at z⟩
  . exact ⟨trivial,fun g' z=>by simp at z;rw [<- z];exact h⟩
 have hlo:∀ i j,j∈last.outs i->j<many ns:=fun i j hj=>by
  rcases U with ⟨a,h,rfl⟩ | ⟨g,h,rfl⟩
  . cases hj
  . rw [qb7.mp hj];exact h
 refine ⟨B,cs,ss,rest,rows++[last],ew,?_,W,⟨by simp,by simp;lia,fun i r h=>?_,fun i r j h hj=>?_⟩⟩
 . unfold q13;walk_at "d";rw [ew];walk_at "d";simp only [qa1];rw [AY];walk_at "d";rw [xz];walk_at "d";rw [show ((many ns:Nat):Int)-1=((many ns-1:Nat):Int) by lia,fE (by lia),qa3,cR,er,qa3,cb (by rw [qa1];lia)];walk_at "d";unfold wD;walk_at "d";unfold dS;walk_at "d";simp only [qa1];rw [ed'];walk_at "d";unfold mZ br gn;walk_at "d";simp only [qr2,if_true];walk_at "d";rw [k5 rfl];walk_at "d";rw [ea];walk_at "d";rw [Z];walk_at "d";rw [hV (by rw [qa1];lia)];walk_at "d";unfold pD dR;rw [qc6];rfl
 . by_cases hi:i<rows.length
   . rw [qc4 hi] at h;exact (hr r (qc7 h)).1
   . rw [gR (by lia)] at h;have:=qc7 h;rw [qb7.mp this];exact hlb.1
 . rw [qb5,qg6];by_cases hi:i<rows.length
   . rw [qc4 hi] at h;have:=(hr r (qc7 h)).outs (i:=i) (j:=j) (by lia) hj;lia
   . rw [gR (by lia)] at h;have:=qc7 h;rw [qb7.mp this] at hj;have:=hlo i j hj;lia
def tS (l:List Str):Dt:=.tup (l.map .str)
def kq (l:List (Nat×List Str)):List (Nat×Dt):=l.map fun p=>(p.1,tS p.2)
def keD (p:Nat×List Str):Dt:=.tup [dI p.1,tS p.2]
theorem sr (h:j<=20):(0:Int)<1*2^j/\(1:Int)*2^j<10000000000000:=by have:j∈qb8 21:=qd1.mpr (by lia);revert j;decide +kernel
theorem pi (h:j<=20):o0 (.int 1) (.int (j:Int))=some (.leaf (.int (1*2^j))):=by rw [Aj (by lia) (by lia),qd9]
theorem qG (B:List Str) (n:Int) (U:B.length<=20):∃ m:List Str,q26 [.lst (B.map .str),.int n]=some (.leaf (tS m)):=by
 have O:cM (ay 0) y52 y54 [none,some (.leaf (.lst (B.map .str))),some (.leaf (.int n))] ((qb8 B.length).map dI)=some (((qb8 B.length).filter (fun j=>decide (n/(1*2^j)%2=1))).map fun j=>.str (B.getD j "")):=
  cK fun j q=>⟨_,rfl,by
   have q:=qd1.mp q;unfold y52 dI;walk_at "k";rw [pi (by lia)];walk_at "k";rw [bU (sr (by lia)).1 (sr (by lia)).2];walk_at "k",fun _=>by
   have q:=qd1.mp q;unfold y54 dI;walk_at "k";rw [qD q];rfl⟩
 refine ⟨((qb8 B.length).filter (fun j=>decide (n/(1*2^j)%2=1))).map fun j=>B.getD j "",?_⟩;unfold q26;walk_at "k";rw [qa1,fE (by lia),qa3,cR,O,qa3,cb (by rw [qa1];exact qc1 (qg8 _ _) (by simp;lia))];walk_at "k";unfold tS;rw [qd0];rfl
noncomputable def sC (ns:List Int) (P:Dt) (B:List Str) (q:Int) (x4:Option T) (O:Int) (done:List (Nat×List Str)) (U:Option T):De:=[some (.leaf (.lst (ns.map .int))),some (.leaf P),some (.leaf (.lst (B.map .str))),some (.leaf (.int q)),x4,some (.leaf (.int O)),some (.lst (done.map keD)),U]
def xB (q:Int):Prop:=q=2∨q=4∨q=8
variable {P:Dt}
theorem vm {B:List Str} (hB:B.length<=20) (O sh:Int) (hs:xB sh) (done:List (Nat×List Str)) (t:Nat) (ht:t<=1000) (hd:done.length<=1000) (x4:Option T) :
  ∃ (e:List (Nat×List Str)) (Z Y:Int),xB Y/\(∀ p∈e,p.1=t)/\e.length<=1/\y28 (sC ns P B O x4 sh done (some (.leaf (dI t))))=some (.nx (sC ns P B Z x4 Y (done++e) (some (.leaf (dI t))))):=by
 unfold y28;have ca:y1 [.lst (ns.map .int),.int 0]=some (.leaf (.int (ns.getD 0 0))):=hZ ns 0;generalize ns.getD 0 0=c at ca;obtain ⟨v,ev⟩:=qC O t (by lia)
 have first:∃ (n1 sh1:Int),xB sh1/\sIf (tB2 (gEq false) (toD (d2 dO (toD (ao y1 (aa (vL 0) (aa (kD (.int 0)) ak)))) (kD (.int 2)))) (kD (.int 1))) (aA (aP 3 (toT (toD (ao q21 (aa (vL 3) (aa (vL 7) ak))))))
  (aP 5 (toT (toD (d2 aq (toD (bL (aa (kD (.int 2)) (aa (kD (.int 4)) (aa (kD (.int 8)) ak))))) (toD (d2 dO (toD (d2 cN (toD (ao y1 (aa (vL 0) (aa (kD (.int 0)) ak)))) (kD (.int 6)))) (kD (.int 3))))))))) bZ (sC ns P B O x4 sh done (some (.leaf (dI t))))=some (.nx (sC ns P B n1 x4 sh1 done (some (.leaf (dI t))))):=by
  unfold sC dI;walk_at "k";rw [ca];walk_at "k";by_cases q:c%2=1
  . rw [g9 (by simpa using q)];walk_at "k";rw [ev];walk_at "k";rw [ca];walk_at "k";rw [bU (by decide) (by decide)];walk_at "k";obtain ⟨k,hk,ek⟩:=jO (c/6) (n:=3) (by decide);have ek':c/6%3=(k:Int):=ek;rw [ek'];have q:k=0∨k=1∨k=2:=by lia
    rcases q with rfl | rfl | rfl
    . exact ⟨v,2,.inl rfl,rfl⟩
    . exact ⟨v,4,.inr (.inl rfl),rfl⟩
    . exact ⟨v,8,.inr (.inr rfl),rfl⟩
  . rw [hJ (by simpa using q)];exact ⟨O,sh,hs,rfl⟩
 obtain ⟨n1,s1,W,e1⟩:=first
 have p1:0<s1:=by rcases W with rfl | rfl | rfl<;>decide
 have p2:s1<10000000000000:=by rcases W with rfl | rfl | rfl<;>decide
 rw [jN,e1,fG,jN]
 have U:∃ (e:List (Nat×List Str)),(∀ p∈e,p.1=t)/\e.length<=1/\sIf (tB2 (gEq false) (toD (d2 dO (vB 3) (vB 5))) (kD (.int 1))) (q14 6 (toD (bG (aa (vL 7) (aa (toD (ao q26 (aa (vL 2) (aa (toD (d2 cN (vB 3) (vB 5))) ak)))) ak))))) bZ (sC ns P B n1 x4 s1 done (some (.leaf (dI t))))=some (.nx (sC ns P B n1 x4 s1 (done++e) (some (.leaf (dI t))))):=by
  obtain ⟨m,em⟩:=qG B (n1/s1) hB;unfold sC dI;walk_at "k";rw [o5 p1];walk_at "k";by_cases q:n1%s1=1
  . rw [g9 (by simpa using q),k5 (l:=done.map keD) rfl];walk_at "k";rw [bU p1 p2];walk_at "k";rw [em];walk_at "k";refine ⟨[(t,m)],by simp,by simp,?_⟩;unfold As;rw [if_pos (by rw [qa1];exact fF (by lia)),qc6];rfl
  . rw [hJ (by simpa using q)];exact ⟨[],by simp,by simp,by rw [qi0];rfl⟩
 obtain ⟨e,h1,h2,e2⟩:=U;rw [e2,fG];refine ⟨e,n1/s1/(1*2^B.length),s1,W,h1,h2,?_⟩;unfold sC;walk_at "k";rw [bU p1 p2];walk_at "k";rw [qa1,pi hB];walk_at "k";rw [bU (sr hB).1 (sr hB).2];rfl
theorem nO {ns:List Int} {P:Dt} {B:List Str} (hB:B.length<=20) (x4:Option T):∀ (d t:Nat) (O U:Int) (done:List (Nat×List Str)) (Y:Option T),xB U->t+d<=1000->done.length+d<=1000->(∀ p∈done,p.1<t)->(done.map (·.1)).Nodup→
  ∃ (all:List (Nat×List Str)) (W sh':Int) (y7:Option T),(∀ p∈all,p.1<t+d)/\(all.map (·.1)).Nodup/\all.length<=done.length+d/\cC (ay 7) y28 ((List.range' t d).map dI) (sC ns P B O x4 U done Y)=some (.nx (sC ns P B W x4 sh' all y7))
 | 0,t,O,U,done,Y,_,_,_,h,nd=>⟨done,O,U,Y,h,nd,by lia,rfl⟩
 | d+1,t,O,U,done,Y,hs,h1,h2,h,nd=>by
  obtain ⟨e,n1,s1,Z,he,hel,hb⟩:=vm (ns:=ns) (P:=P) hB O U hs done t (by lia) (by lia) x4
  obtain ⟨all,n2,s2,y7,g1,g0,g2,g3⟩:=nO hB x4 d (t+1) n1 s1 (done++e) (some (.leaf (dI t))) Z (by lia) (by rw [qb5];lia) (fun p hp=>by
   rcases qf8.mp hp with z | z
   . have:=h p z;lia
   . have:=he p z;lia) (by
   rw [qc6,qe8];refine ⟨nd,?_,fun a ha b hb=>?_⟩
   . match e,hel with
     | [],_=>exact qt8
     | [p],_=>simp
   . obtain ⟨p,hp,rfl⟩:=qc9.mp ha;obtain ⟨q,hq,rfl⟩:=qc9.mp hb;have:=h p hp;have:=he q hq;lia)
  refine ⟨all,n2,s2,y7,fun p hp=>by have:=g1 p hp;lia,g0,by rw [qb5] at g2;lia,?_⟩;rw [List.range'_succ,qa5,bB (δ1:=sC ns P B O x4 U done (some (.leaf (dI t)))) rfl hb,g3]
theorem pj {ns:List Int} {B:List Str} (q:B.length<=20) (hr:rows.length<=1000):∃ (bs:List Str) (kl:List (Nat×List Str)),y11 [.lst (ns.map .int),pD cs ss rows,.lst (B.map .str)]=some (.leaf (cD (tS bs) (kq kl)))/\(∀ p∈kl,p.1<rows.length)/\(kl.map (·.1)).Nodup/\kl.length<=rows.length:=by obtain ⟨v,Y⟩:=jS ns 4 (by lia);have O:y13 [.lst (ns.map .int),.int 4]=some (.leaf (.int v)):=Y;obtain ⟨m,W⟩:=qG B v q;obtain ⟨all,n2,s2,y7,g1,Z,g2,U⟩:=nO (ns:=ns) (P:=pD cs ss rows) (B:=B) q (some (.leaf (tS m))) rows.length 0 (v/(1*2^B.length)) 2 [] none (.inl rfl) (by lia) (by simp;lia) (by simp) (by simp);refine ⟨m,all,?_,fun p hp=>by have:=g1 p hp;lia,Z,by simpa using g2⟩;unfold y11;walk_at "k";rw [O];walk_at "k";rw [W];walk_at "k";rw [qa1,pi q];walk_at "k";rw [bU (sr q).1 (sr q).2];walk_at "k";unfold pD dR;walk_at "k";rw [qa1,fE (by lia),qa3,cR,List.range_eq_range'];unfold sC pD dR at U;rw [show (some (T.lst []):Option T)=some (.lst (([]:List (Nat×List Str)).map keD)) from rfl,U];walk_at "k";unfold cD kpD kq;rw [qd0];rfl
theorem xC {B:List Str} {rest:Int} (ew:z18 [.lst (ns.map .int)]=some (.leaf (wD B cs ss rest))) (W:Wld B cs ss):∃ b:List Str,z16 [.lst (ns.map .int)]=some (.lst (b.map .str))/\b.length<=20:=by
 have b1:=W.b1
 have sl:∃ c':List Hd,c'.length<=1/\uO (.tup (cs.map hdD)) none (some 1)=some (.leaf (.tup (c'.map hdD))):=by
     match cs with
     | []=>exact ⟨[],by simp,rfl⟩
     | [h]=>exact ⟨[h],by simp,rfl⟩
     | h::h'::r =>
      refine ⟨[h],by simp,?_⟩
      have Y:HT.sIx ((h::h'::r).map hdD).length ((h::h'::r).map hdD).length (some 1)=1:=by
       unfold HT.sIx;simp
       try lia
      have e0:HT.sIx ((h::h'::r).map hdD).length 0 none=0:=rfl;show (if HT.sIx ((h::h'::r).map hdD).length 0 none=0/\HT.sIx ((h::h'::r).map hdD).length ((h::h'::r).map hdD).length (some 1)=((h::h'::r).map hdD).length then some (T.leaf (.tup ((h::h'::r).map hdD))) else some (T.leaf (.tup (ou ((h::h'::r).map hdD) none (some 1)))))=_;rw [if_neg (by rw [Y];simp)];unfold ou;rw [Y,e0];rfl
 obtain ⟨c',U,es⟩:=sl
 have q:cM (ay 0) dm z52 [none] (c'.map hdD)=some (c'.map fun h=>.str h.x):=bR (h:=fun h:Hd=>Dt.str h.x) fun h _=>⟨_,rfl,rfl,by unfold z52 hdD;walk_at "k"⟩
 have hl:(c'.map (·.x)).length<=1:=by simpa using U
 rw [show (c'.map fun h=>Dt.str h.x)=(c'.map (·.x)).map Dt.str by rw [qd0];rfl] at q;generalize c'.map (·.x)=l at q hl;have hg:=nz (l:=B++l++[("zz":Str)]) (by simp;lia)
 have O:(f6 (dJ (B++l++[("zz":Str)]))).length<=20:=by
  have:=cQ (ny (B++l++[("zz":Str)])) (m:=B++l++[("zz":Str)]) fun x Z=>onces_mem.mp Z
  rw [(dH _).length_eq];rw [qb5,qb5,qg6] at this;lia
 refine ⟨_,?_,O⟩;unfold z16;walk_at "k";rw [ew];unfold wD j0 br gn ay;walk_at "k";simp only [qr2,if_true];walk_at "k";unfold dS;rw [show (fun (d:Dt) (δ:De)=>some (List.set δ 0 (some (T.leaf d))))=ay 0 from rfl];rw [show wX (vB 2) pZ (mQ (kD (.int 1))) [some (.leaf (.lst (ns.map .int))),some (.leaf (.lst (B.map .str))),some (.leaf (.tup (cs.map hdD))),some (.leaf (.tup (ss.map hdD))),some (.leaf (.int rest))]=uO (.tup (cs.map hdD)) none (some 1) from rfl,es];walk_at "k";rw [q];walk_at "k";rw [cb (by rw [qa1];lia)];walk_at "k"
 have g1:bD (.lst (B.map .str)) (.lst (l.map .str))=some (.lst ((B++l).map .str)):=by show (if _ then _ else none)=_;rw [if_pos (by rw [qa1,qa1];exact small (by lia)),qc6]
 have g2:bD (.lst ((B++l).map .str)) (.lst [.str "zz"])=some (.lst ((B++l++[("zz":Str)]).map .str)):=by show (if _ then _ else none)=_;rw [if_pos (by rw [qa1,qb5];exact small (by simp;lia))];show some (T.lst ((B++l).map Dt.str++[("zz":Str)].map Dt.str))=_;rw [<- qc6]
 rw [g1];walk_at "k";rw [g2];walk_at "k";rw [hg];rfl
end P34
namespace L2
open PySem
variable {L:List Nat} {x j w:Nat} {r:Rw}
section
variable {rows:List Rw} {kept:List Nat} {nm:Str}
theorem mj (h:j<L.length):(L++[x]).getD j 0=L.getD j 0:=by rw [qa9,qa9,qc4 h]
theorem gd_r (h:j=L.length):(L++[x]).getD j 0=x:=by subst h;simp [qa9]
structure Pth (rows:List Rw) (kept:List Nat) (nm:Str) (W:List Nat) (m:Mrk) (z:Nat):Prop where
 last:∃ n,W.length=n+1/\W.getD n 0=z
 hd:W.getD 0 0=0∨W.getD 0 0∈kept
 lt:∀ k∈W,k<rows.length
 nx:∀ k,k+1<W.length->W.getD (k+1) 0∉kept/\∃ r,rows[W.getD k 0]?=some r/\W.getD (k+1) 0∈r.outs (W.getD k 0)
 mks:(m=.fresh/\∀ j,j+1<W.length->gA rows nm (W.getD j 0)=false/\sA rows nm (W.getD j 0)=false)∨(m=.seen/\∃ g,g+1<W.length/\gA rows nm (W.getD g 0)=true/\(∀ j,j<g->gA rows nm (W.getD j 0)=false/\sA rows nm (W.getD j 0)=false)/\∀ j,g<j->j+1<W.length->pA rows nm (W.getD j 0)=false)
theorem AZ (hn:0<rows.length) (hk:∀ k∈kept,k<rows.length) (hO:∀ (i:Nat) (r:Rw) (j:Nat),rows[i]?=some r->j∈r.outs i->j<rows.length) {t:Nat×Mrk} {r:List (Nat×Mrk)} (h:Wy (ee rows kept nm) (fI rows nm) (bN kept) t r) :
  Pth rows kept nm (r.reverse.map (·.1)) t.2 t.1:=by
 induction h with
 | @one t h =>
  obtain ⟨k,hk1,rfl⟩:=qc9.mp h;refine ⟨⟨0,rfl,rfl⟩,?_,fun j W=>?_,fun j W=>absurd W (by simp),.inl ⟨rfl,fun j W=>absurd W (by simp)⟩⟩
  . rcases qb3.mp hk1 with rfl | z
    . exact .inl rfl
    . exact .inr z
  . have:j=k:=by simpa using W
    subst this;rcases qb3.mp hk1 with rfl | z
    . exact hn
    . exact hk _ z
 | @more t p r h hf w ih =>
  obtain ⟨O,e,g1,g2,g3,Z⟩:=u8 h
  have Y:mb p.2 O nm≠.spoilt:=fun z=>by unfold fI at hf;rw [e] at hf;simp [z] at hf
  rw [qq3,qc6];show Pth rows kept nm (r.reverse.map (·.1)++[t.1]) t.2 t.1;obtain ⟨⟨n,e1,e2⟩,h2,h3,h4,h5⟩:=ih;generalize r.reverse.map (·.1)=L at*
  have hg:=yu (nm:=nm) e;have hp:=u6 (nm:=nm) e;have hs:=B7 (nm:=nm) e;refine ⟨⟨n+1,by simp [e1],gd_r e1.symm⟩,by rw [mj (by lia)];exact h2,fun k hk=>?_,fun k hk=>?_,?_⟩
  . rcases qf8.mp hk with z | z
    . exact h3 k z
    . rw [qb7.mp z];exact hO _ O _ e g2
  . rw [qb5] at hk;have hk:k+1<L.length+1:=hk;rw [mj (show k<L.length by lia)];by_cases z:k+1=L.length
    . rw [gd_r z];have:k=n:=by lia
      rw [this,e2];exact ⟨g3,O,e,g2⟩
    . rw [mj (by lia)];exact h4 k (by lia)
  . have hlen:(L++[t.1]).length=n+2:=by simp [e1]
    rw [hlen];rw [e1] at h5;rcases h5 with ⟨m0,q⟩ | ⟨m0,g,q1,q2,q3,q4⟩
    . rw [m0] at g1 Z Y;cases U:O.gets nm with
      | true =>right;refine ⟨by rw [Z];simp [mb,U],n,by lia,by rw [mj (by lia),e2,hg];exact U,fun j W=>?_,fun j h1 h2=>by lia⟩;rw [mj (by lia)];exact q j (by lia)
      | false =>
       cases c2:O.stores nm with
       | true=>exact absurd (by simp [mb,U,c2]) g1
       | false =>
        left;refine ⟨by rw [Z];simp [mb,U,c2],fun j W=>?_⟩;rw [mj (by lia)];by_cases z:j=n
        . rw [z,e2,hg,hs];exact ⟨U,c2⟩
        . exact q j (by lia)
    . rw [m0] at g1 Z Y;cases U:O.puts nm with
      | true=>exact absurd (by simp [mb,U]) Y
      | false =>
       right;refine ⟨by rw [Z];simp [mb,U],g,by lia,by rw [mj (by lia)];exact q2,fun j W=>?_,fun j h1 h2=>?_⟩
       . rw [mj (by lia)];exact q3 j W
       . rw [mj (by lia)];by_cases z:j=n
         . rw [z,e2,hp];exact U
         . exact q4 j h1 (by lia)
theorem xD {shelf:Bool} (K:Kd rows nm shelf) {W:List Nat} {m:Mrk} {z:Nat} (p:Pth rows kept nm W m z) (O:fI rows nm (z,m)=true) :
  ∃ n g,W.length=n+1/\g<n/\gA rows nm (W.getD g 0)=true/\(∀ j,j<g->gA rows nm (W.getD j 0)=false)/\pA rows nm (W.getD n 0)=true/\(shelf=false->∀ j,j<n->pA rows nm (W.getD j 0)=false):=by
 obtain ⟨n,e1,e2⟩:=p.last
 have Y:∃ r,rows[z]?=some r/\mb m r nm=.spoilt:=by
  unfold fI at O;split at O
  . cases O
  . rename_i r e;exact ⟨r,e,of_decide_eq_true O⟩
 obtain ⟨r,e,U⟩:=Y;rcases p.mks with ⟨Z,q⟩ | ⟨Z,g,q1,q2,q3,q4⟩
 . rw [Z] at U;rcases k6 U with z | ⟨z,_⟩<;>cases z
 . rw [Z] at U;rcases k6 U with z | ⟨_,hp⟩
   . cases z
   . refine ⟨n,g,e1,by lia,q2,fun j hj=>(q3 j hj).1,by rw [e2,u6 e];exact hp,fun hs j hj=>?_⟩;rcases Nat.lt_trichotomy j g with h | h | h
     . rw [K.c hs];exact (q3 j h).2
     . subst h;exact xq q2
     . exact q4 j h (by lia)
def P1 (rows:List Rw) (kept:List Nat) (nm:Str) (k:Nat):Prop:=Rch (ee rows kept nm) (bN kept) (k,.fresh)∨Rch (ee rows kept nm) (bN kept) (k,.seen)
def P2 (rows:List Rw) (kept:List Nat) (nm:Str) (k:Nat):Prop:=Rch (ee rows kept nm) (bN kept) (k,.seen)
theorem P1.start {k:Nat} (h:k=0∨k∈kept):P1 rows kept nm k:=.inl (.one (qc9.mpr ⟨k,qb3.mpr h,rfl⟩))
theorem P2.put (q:∀ t,Rch (ee rows kept nm) (bN kept) t->fI rows nm t=false) {k:Nat} (h:P2 rows kept nm k) (e:rows[k]?=some r):r.puts nm=false:=by
 have:=q _ h;unfold fI at this;rw [e] at this;cases c:r.puts nm with
 | false=>rfl
 | true=>simp [mb,c] at this
theorem P2.step (q:∀ t,Rch (ee rows kept nm) (bN kept) t->fI rows nm t=false) {k:Nat} (h:P2 rows kept nm k) (e:rows[k]?=some r) (O:w∈r.outs k) (hk:w∉kept):P2 rows kept nm w:=by
 have hp:=h.put q e;have m:mb .seen r nm=.seen:=by simp [mb,hp]
 have:=Rch.more h (pd (m:=.seen) e (by rw [m];exact fun z=>nomatch z) O hk);rw [m] at this;exact this
theorem P1.get (q:∀ t,Rch (ee rows kept nm) (bN kept) t->fI rows nm t=false) {k:Nat} (h:P1 rows kept nm k) (e:rows[k]?=some r) (U:r.gets nm=true) (O:w∈r.outs k) (hk:w∉kept):P2 rows kept nm w:=by
 rcases h with h | h
 . have m:mb .fresh r nm=.seen:=by simp [mb,U]
   have:=Rch.more h (pd (m:=.fresh) e (by rw [m];exact fun z=>nomatch z) O hk);rw [m] at this;exact this
 . exact P2.step q h e O hk
theorem P1.step (q:∀ t,Rch (ee rows kept nm) (bN kept) t->fI rows nm t=false) {k:Nat} (h:P1 rows kept nm k) (e:rows[k]?=some r) (W:r.stores nm=false) (O:w∈r.outs k) (hk:w∉kept):P1 rows kept nm w:=by
 cases U:r.gets nm with
 | true=>exact .inr (h.get q e U O hk)
 | false =>
  rcases h with h | h
  . have m:mb .fresh r nm=.fresh:=by simp [mb,U,W]
    have:=Rch.more h (pd (m:=.fresh) e (by rw [m];exact fun z=>nomatch z) O hk);rw [m] at this;exact .inl this
  . exact .inr (P2.step q h e O hk)
end
end L2
namespace P34
open PySem L2
def kI (j:Nat):Key:=.inl (j:Int)
variable {j:Nat}
theorem pk {a:Nat} (z:kI a=kI j):a=j:=by unfold kI at z;have:=qy7.inj z;lia
theorem lb (j:Nat):∀ seen:List Nat,(cq (seen.map fun j=>kI j) (seen.map fun _=>Dt.bl true) (kI j)).isSome=decide (j∈seen)
 | []=>rfl
 | a::seen=>by
  simp only [qa5,cq];by_cases h:a=j
  . subst h;rw [if_pos rfl];simp
  . have h':¬ j=a:=fun z=>h z.symm
    rw [if_neg (fun z=>h (pk z)),lb j seen];simp [h']
theorem iH (j:Nat):∀ seen:List Nat,j∉seen->gr (seen.map fun j=>(kI j,Dt.bl true)) (kI j) (.bl true)=(seen++[j]).map fun j=>(kI j,.bl true)
 | [],_=>rfl
 | a::seen,h=>by
  have h1:¬ a=j:=fun z=>h (z▸.head _)
  simp only [qa5,ql8];unfold gr;rw [if_neg (fun z=>h1 (pk z)),iH j seen fun z=>h (.tail _ z)]
theorem qH {seen:List Nat} (h:seen.Nodup):((seen.map fun j=>(kI j,Dt.bl true)).map (·.1)).Nodup:=by rw [qd0,qi8,qn6];exact qt5 (fun {a b} (z:a≠b) e=>z (pk e)) h
theorem nQ (rows:List Rw) (n:Nat) (r:Rw) (h:rows[n]?=some r):y12 [dR rows,.int n]=some (.lst ((r.outs n).map dI)):=by
 have e:aq (dR rows) (.int n)=some (.leaf r.d):=by unfold dR;rw [xZ,bW,qb4,h];rfl
 cases r<;>(unfold y12;simp only [Rw.d] at e;walk_at "k";repeat (rw [e];walk_at "k"))<;>rfl
def tK (l:List Nat):T:=.dct (l.map fun j=>(kI j,.bl true))
def kD' (l:List Nat):Dt:=.dct (l.map fun j=>kI j) (l.map fun _=>.bl true)
theorem A0 (l:List Nat):(tK l).d=some (kD' l):=by unfold tK T.d;dsimp only;rw [qd0,qd0];rfl
def nR (kept:List Nat) (r:Rw) (j:Nat):List Nat:=(r.outs j).filter fun w=>!decide (w∈kept)
theorem fK (kept:List Nat) (r:Rw) (j:Nat):(nR kept r j).length<=2:=qc1 (qg8 _ _) (by cases r<;>simp [Rw.outs])
variable {neg:Bool}
theorem vn (l:List Nat) (j:Nat):bA neg (dI j) (kD' l)=some (.leaf (.bl (if neg then !decide (j∈l) else decide (j∈l)))):=by unfold kD';rw [B0];unfold dI;show some (T.leaf (.bl (if neg then !(cq (l.map fun j=>kI j) (l.map fun _=>Dt.bl true) (kI j)).isSome else (cq (l.map fun j=>kI j) (l.map fun _=>Dt.bl true) (kI j)).isSome)))=_;rw [lb]
variable {rows:List Rw} {r:Rw}
theorem qI {ft:De->Option Bool} (q:ft=tB2 (bA true) (vB 0) (vB 1)) {kept:List Nat} (Y:rows[j]?=some r) {δ:De} {k:Nat} (U:δ[0]?=some (some (.leaf (dR rows)))) (h1:δ[1]?=some (some (.leaf (kD' kept)))) (h2:δ[k]?=some (some (.leaf (dI j)))) :
  bP [none,some 1] (fIt (toD (ao y12 (aa (vL 0) (aa (vL k) ak))))) (ay 0) ft (vL 0) δ=some (.lst ((nR kept r j).map dI)):=by
 have e0:vL 0 δ=some (dR rows):=by unfold vL;rw [U]
 have Z:vL k δ=some (dI j):=by unfold vL;rw [h2]
 unfold bP
 have e3:fIt (toD (ao y12 (aa (vL 0) (aa (vL k) ak)))) δ=some ((r.outs j).map dI):=by unfold fIt toD ao aa ak;simp only [e0,Z,qa3];rw [show y12 [dR rows,dI j]=_ from nQ rows j r Y];rfl
 have O:dC [none,some 1] δ=[none,some (.leaf (kD' kept))]:=by unfold dC;simp [h1]
 have W:cM (ay 0) ft (vL 0) [none,some (.leaf (kD' kept))] ((r.outs j).map dI)=some ((nR kept r j).map dI):=by
  subst q
  exact cK (h:=dI) (p:=fun w=>!decide (w∈kept)) fun w hw=>⟨_,rfl,by show ((bA true (dI w) (kD' kept)).bind asB)=_;rw [vn];rfl,fun _=>rfl⟩
 rw [e3,qa3,O,W,qa3,if_pos (by rw [qa1];exact small (qc1 (fK _ _ _) (by decide)))]
variable {P:Nat->Prop}
section
variable {rows:List Rw} {kept st seen left:List Nat} {nm:Str}
noncomputable def d7 (rows:List Rw) (kept st:List Nat) (nm:Str) (seen left:List Nat) (x6:Option Dt):De:=[some (.leaf (dR rows)),some (.leaf (kD' kept)),some (.leaf (.lst (st.map dI))),some (.leaf (.str nm)),some (tK seen),some (.lst (left.map dI)),x6.map .leaf]
theorem ml (W:rows[j]?=some r) (Z:seen.Nodup) (Y:seen.length<1000) (hll:left.length<=1000) (x6:Option Dt) :
  y29 (d7 rows kept st nm seen (left++[j]) x6)=some (.nx (d7 rows kept st nm (if j∈seen then seen else seen++[j]) (if j∈seen∨r.stores nm=true then left else left++nR kept r j) (some (dI j)))):=by
 unfold y29;rw [bc (δ':=d7 rows kept st nm seen left (some (dI j))) ((AJ (l:=left.map dI) (d:=dI j) (by unfold d7;rw [qc6];rfl)).trans rfl)];have O:tB2 (bA true) (vB 6) (vB 4) (d7 rows kept st nm seen left (some (dI j)))=some (!decide (j∈seen)):=vg (x:=dI j) rfl (A0 seen) (vn seen j);by_cases h:j∈seen
 . rw [decide_eq_true h] at O;rw [L2.AI O,if_pos h,if_pos (.inl h)];rfl
 . rw [decide_eq_false h] at O;rw [L2.AH O,if_neg h,bc (δ':=d7 rows kept st nm (seen++[j]) left (some (dI j))) ((yt (i:=4) (kd:=dI j) (k:=kI j) (d:=.bl true) (l:=seen.map fun j=>(kI j,.bl true)) rfl rfl rfl rfl (by rw [qa1];lia) (qH Z)).trans (by rw [iH j seen h];rfl))]
   have U:(fOr (tB2 (gEq true) (toD (d2 aq (toD (d2 aq (vB 0) (vB 6))) (kD (.int 0)))) (kD (.str "store"))) (tB2 (gEq true) (toD (d2 aq (toD (d2 aq (vB 0) (vB 6))) (kD (.int 1)))) (vB 3))) (d7 rows kept st nm (seen++[j]) left (some (dI j)))=some (!r.stores nm):=by unfold d7;have e:aq (dR rows) (dI j)=some (.leaf r.d):=gx W;unfold dI at e ⊢;walk_at "k";rw [e];walk_at "k";cases r<;>simp only [Rw.d,Rw.stores]<;>walk_at "k"<;>(try (rw [e];simp only [Rw.d];walk_at "k"))
   cases q:r.stores nm with
   | true =>rw [q] at U;rw [L2.AI U,if_pos (.inr rfl)];rfl
   | false =>rw [q] at U;have ol:=fK kept r j;rw [L2.AH U,yr (l:=left.map dI) rfl (qI (ft:=q57) (k:=6) rfl W rfl rfl rfl),qx (by rw [qa1,qa1];lia),if_neg (by simp [h])];unfold d7;rw [qc6];rfl
theorem dy (hN:rows.length<=100) (hO:∀ (i:Nat) (r:Rw) (j:Nat),rows[i]?=some r->j∈r.outs i->j<rows.length) 
 (hP:∀ (k w:Nat) (r:Rw),P k->rows[k]?=some r->r.stores nm=false->w∈r.outs k->w∉kept->P w):∀ (m:Nat) (seen left:List Nat) (x6:Option Dt),seen.Nodup->(∀ k∈seen,k<rows.length/\P k)->(∀ k∈left,k<rows.length/\P k)->3*rows.length+left.length<m+3*seen.length->left.length+3*rows.length<=1000+3*seen.length→
  ∃ (q:List Nat) (y:Option Dt),bt z29 y29 m (d7 rows kept st nm seen left x6)=some (.nx (d7 rows kept st nm q [] y))/\q.Nodup/\∀ k∈q,k<rows.length/\P k
 | m,seen,left,x6,U,h1,h2,O,hb=>by
  have hlen:seen.length<=rows.length:=by
   have:=cQ (m:=qb8 rows.length) U fun x hx=>qd1.mpr (h1 x hx).1
   simpa using this
  have Z:∀ x6,z29 (d7 rows kept st nm seen left x6)=some (decide (0<left.length)):=fun x6=>by
   unfold z29 d7;walk_at "k";show some (decide ((0:Int)<((left.map dI).length:Int)))=_;rw [qa1];congr 1;by_cases h:0<left.length
   . rw [decide_eq_true h,decide_eq_true (by lia)]
   . rw [decide_eq_false h,decide_eq_false (by lia)]
  rcases List.eq_nil_or_concat left with rfl | ⟨l,j,rfl⟩
  . match m,O with
    | m+1,_=>exact ⟨seen,x6,l7 (Z x6),U,h1⟩
    | 0,O=>simp at O;lia
  . rw [List.concat_eq_append] at*
    match m,O with
    | 0,O=>simp at O;lia
    | m+1,O =>
     have Z:=Z x6;rw [decide_eq_true (by simp)] at Z;have hj:=h2 j (by simp);have hr:rows[j]?=some rows[j]:=by simp [hj.1]
     simp only [qb5,qg6] at O hb;have e:=ml (nm:=nm) (kept:=kept) (st:=st) (left:=l) hr U (by lia) (by lia) x6;rw [i9 Z e];have ol:=fK kept rows[j] j;by_cases h:j∈seen
     . rw [if_pos h,if_pos (.inl h)];exact dy hN hO hP m seen l _ U h1 (fun k hk=>h2 k (qg2 _ hk)) (by lia) (by lia)
     . rw [if_neg h]
       have W:(seen++[j]).Nodup:=by rw [qe8];exact ⟨U,by simp,fun a ha b hb e=>by rw [qb7.mp hb] at e;exact h (e▸ha)⟩
       have Y:∀ k∈seen++[j],k<rows.length/\P k:=fun k hk=>by
        rcases qf8.mp hk with z | z
        . exact h1 k z
        . rw [qb7.mp z];exact hj
       cases hst:rows[j].stores nm with
       | true =>rw [if_pos (.inr rfl)];exact dy hN hO hP m (seen++[j]) l _ W Y (fun k hk=>h2 k (qg2 _ hk)) (by simp;lia) (by simp;lia)
       | false =>
        rw [if_neg (by simp [h])];refine dy hN hO hP m (seen++[j]) (l++nR kept rows[j] j) _ W Y (fun k hk=>?_) (by simp;lia) (by simp;lia);rcases qf8.mp hk with z | z
        . exact h2 k (qg2 _ z)
        . obtain ⟨z1,z2⟩:=ql2.mp z;exact ⟨hO j _ k hr z1,hP j k _ hj.2 hr hst z1 (by simpa using z2)⟩
theorem jU (Y:rows.length<=100) (hst:st.length<=400) (U:∀ (i:Nat) (r:Rw) (j:Nat),rows[i]?=some r->j∈r.outs i->j<rows.length) 
 (hP:∀ (k w:Nat) (r:Rw),P k->rows[k]?=some r->r.stores nm=false->w∈r.outs k->w∉kept->P w) (h0:∀ k∈st,k<rows.length/\P k) :
  ∃ l:List Nat,q12 [dR rows,kD' kept,.lst (st.map dI),.str nm]=some (.lst (l.map dI))/\l.length<=rows.length/\∀ k∈l,k<rows.length/\P k:=by
 obtain ⟨seen,y,e,Z,q⟩:=dy (nm:=nm) (st:=st) Y U hP 100000 [] st none (by simp) (by simp) h0 (by simp;lia) (by simp;lia)
 have O:seen.length<=rows.length:=by
  have:=cQ (m:=qb8 rows.length) Z fun x W=>qd1.mpr (q x W).1
  simpa using this
 refine ⟨seen,?_,O,q⟩;unfold q12;refine fQ ?_;show aA _ _ [some (.leaf (dR rows)),some (.leaf (kD' kept)),some (.leaf (.lst (st.map dI))),some (.leaf (.str nm)),none,none,none]=_;rw [bc (bT rfl),bc (δ':=d7 rows kept st nm [] st none) (bT rfl),bc e];show (ao cI (aa (vB 4) ak) (d7 rows kept st nm seen [] y)).map Out.rt=_;unfold ao aa;rw [show vB 4 (d7 rows kept st nm seen [] y)=some (kD' seen) from A0 seen];show some (Out.rt (.lst ((seen.map fun j=>kI j).map kJ)))=_;rw [qd0];rfl
end
theorem Ci {nm:Str} (O:rows[j]?=some r) (q x3:Option T):dl (tB2 (bA false) (toD (d2 aq (toD (d2 aq (vB 0) (vB 4))) (kD (.int 0)))) (toD (bG (aa (kD (.str "load")) (aa (kD (.str "take")) ak))))) (tB2 (gEq false) (toD (d2 aq (toD (d2 aq (vB 0) (vB 4))) (kD (.int 2)))) (vB 2)) [some (.leaf (dR rows)),q,some (.leaf (.str nm)),x3,some (.leaf (dI j))]=some (r.gets nm):=by have e:=gx O;walk_at "k";rw [e];walk_at "k";cases r<;>simp only [Rw.d,Rw.gets]<;>(repeat walk_at "k")<;>(try (rw [e];simp only [Rw.d];walk_at "k"))
theorem A1 {nm:Str} (O:rows[j]?=some r) (q x3:Option T):dl (tB2 (bA false) (toD (d2 aq (toD (d2 aq (vB 0) (vB 4))) (kD (.int 0)))) (toD (bG (aa (kD (.str "store")) (aa (kD (.str "lay")) ak))))) (tB2 (gEq false) (toD (d2 aq (toD (d2 aq (vB 0) (vB 4))) (kD (.int 1)))) (vB 2)) [some (.leaf (dR rows)),q,some (.leaf (.str nm)),x3,some (.leaf (dI j))]=some (r.puts nm):=by have e:=gx O;walk_at "k";rw [e];walk_at "k";cases r<;>simp only [Rw.d,Rw.puts]<;>(repeat walk_at "k")<;>(try (rw [e];simp only [Rw.d];walk_at "k"))
section
variable {rows:List Rw} {kept st:List Nat} {nm:Str}
def d5 (rows:List Rw) (kept:List Nat) (nm:Str) (x3 x4:Option T):De:=[some (.leaf (dR rows)),some (.leaf (kD' kept)),some (.leaf (.str nm)),x3,x4]
theorem Cj (O:rows[j]?=some r) (W:st.length<=1000) :
  q28 (d5 rows kept nm (some (.lst (st.map dI))) (some (.leaf (dI j))))=some (.nx (d5 rows kept nm (some (.lst ((if r.gets nm=true then st++nR kept r j else st).map dI))) (some (.leaf (dI j))))):=by
 unfold q28;have q:=Ci (nm:=nm) O (some (.leaf (kD' kept))) (some (.lst (st.map dI)));cases U:r.gets nm with
 | false =>rw [U] at q;rw [show (if false=true then st++nR kept r j else st)=st from rfl];exact (L2.AI q).trans rfl
 | true =>rw [U] at q;have Y:=fK kept r j;refine (L2.AH q).trans ?_;rw [if_pos rfl,yr (l:=st.map dI) rfl (qI (ft:=z74) (k:=4) rfl O rfl rfl rfl),qx (by rw [qa1,qa1];lia),qc6];rfl
theorem ld {Q:Nat->Prop}:∀ (l:List Nat) (hl:∀ j∈l,j<rows.length) (Z:∀ (j w:Nat) (r:Rw),j∈l->rows[j]?=some r->r.gets nm=true->w∈r.outs j->w∉kept->Q w) (st:List Nat) (x4:Option T),st.length+2*l.length<=300->(∀ w∈st,Q w)→
  ∃ (q:List Nat) (W:Option T),cC (ay 4) q28 (l.map dI) (d5 rows kept nm (some (.lst (st.map dI))) x4)=some (.nx (d5 rows kept nm (some (.lst (q.map dI))) W))/\q.length<=300/\∀ w∈q,Q w
 | [],_,_,st,x4,U,O=>⟨st,x4,rfl,by simpa using U,O⟩
 | j::l,hl,Z,st,x4,U,O=>by
  have hjr:=hl j (.head _);have er:rows[j]?=some rows[j]:=by simp [hjr]
  have e:=Cj (nm:=nm) (kept:=kept) (st:=st) er (by lia);have ol:=fK kept rows[j] j;rw [qi5] at U
  obtain ⟨q,W,e',h2,h3⟩:=ld l (fun k hk=>hl k (.tail _ hk)) (fun k w r hk=>Z k w r (.tail _ hk)) (if rows[j].gets nm=true then st++nR kept rows[j] j else st) (some (.leaf (dI j))) (by split<;>first | (rw [qb5];lia) | lia) (fun w Y=>by
   split at Y
   . rename_i hg;rcases qf8.mp Y with z | z
     . exact O w z
     . obtain ⟨z1,z2⟩:=ql2.mp z;exact Z _ w _ (.head _) er hg z1 (by simpa using z2)
   . exact O w Y)
  refine ⟨q,W,?_,h2,h3⟩;rw [qa5,bB rfl e];exact e'
theorem lg {x3:Option T}:∀ (l:List Nat) (hp:∀ j∈l,∃ r,rows[j]?=some r/\r.puts nm=false) (x4:Option T),
  ∃ q,cC (ay 4) z42 (l.map dI) (d5 rows kept nm x3 x4)=some (.nx (d5 rows kept nm x3 q))
 | [],_,x4=>⟨x4,rfl⟩
 | j::l,hp,x4=>by
  obtain ⟨r,O,h⟩:=hp j (.head _);obtain ⟨q,U⟩:=lg l (fun k hk=>hp k (.tail _ hk)) (some (.leaf (dI j)));refine ⟨q,?_⟩
  rw [qa5,bB rfl (δ2:=d5 rows kept nm x3 (some (.leaf (dI j)))) (by unfold z42;exact (L2.AI ((A1 O (some (.leaf (kD' kept))) x3).trans (congrArg some h))).trans rfl)]
  exact U
theorem A2 (hN:rows.length<=60) (hn:0<rows.length) (hkl:kept.length<=100) (hkr:∀ k∈kept,k<rows.length) (hO:∀ (i:Nat) (r:Rw) (j:Nat),rows[i]?=some r->j∈r.outs i->j<rows.length) (O:∀ t,Rch (ee rows kept nm) (bN kept) t->fI rows nm t=false) :
  y25 [dR rows,kD' kept,.str nm]=some (.leaf (.bl false)):=by
 obtain ⟨l,e4,ll4,W⟩:=jU (nm:=nm) (kept:=kept) (st:=0::kept) (rows:=rows) (P:=P1 rows kept nm) (by lia) (by simp;lia) hO (fun k w r h e hs U q=>h.step O e hs U q) (fun k hk=>by
     rcases qb3.mp hk with rfl | z
     . exact ⟨hn,P1.start (.inl rfl)⟩
     . exact ⟨hkr k z,P1.start (.inr z)⟩)
 obtain ⟨st,y4,e5,ls5,hq5⟩:=ld (nm:=nm) (rows:=rows) (kept:=kept) (Q:=fun w=>w<rows.length/\P2 rows kept nm w) l (fun j Y=>(W j Y).1) (fun j w r Y e hg U q=>⟨hO j r w e U,(W j Y).2.get O e hg U q⟩) [] none (by simp;lia) (by simp);obtain ⟨l6,e6,ll6,hl6⟩:=jU (nm:="") (kept:=kept) (st:=st) (rows:=rows) (P:=P2 rows kept nm) (by lia) (by lia) hO (fun k w r h e hs U q=>h.step O e U q) hq5
 obtain ⟨z4,e7⟩:=lg (nm:=nm) (rows:=rows) (kept:=kept) (x3:=some (.leaf (.lst (st.map dI)))) l6 (fun j Y=>by
  have Z:=hl6 j Y;have er:rows[j]?=some rows[j]:=by simp [Z.1]
  exact ⟨_,er,Z.2.put O er⟩) y4
 unfold y25;refine fQ ?_;show aA _ _ [some (.leaf (dR rows)),some (.leaf (kD' kept)),some (.leaf (.str nm)),none,none]=_;rw [bc (δ':=d5 rows kept nm (some (.lst [])) none) ((bT (t:=.lst []) (by rw [u2];show ((some []).bind mkL)=_;rw [qa3,cb (by simp)])).trans rfl)]
 have s1:d4 (fIt (toD (ao q12 (aa (vL 0) (aa (vL 1) (aa (toD (d2 bD (toD (bL (aa (kD (.int 0)) ak))) (toD (ao cI (aa (vB 1) ak))))) (aa (vL 2) ak))))))) (ay 4) q28 (d5 rows kept nm (some (.lst [])) none)=some (.nx (d5 rows kept nm (some (.lst (st.map dI))) y4)):=by
  have a1:toD (d2 bD (toD (bL (aa (kD (.int 0)) ak))) (toD (ao cI (aa (vB 1) ak)))) (d5 rows kept nm (some (.lst [])) none)=some (.lst ((0::kept).map dI)):=by
   have b1:toD (bL (aa (kD (.int 0)) ak)) (d5 rows kept nm (some (.lst [])) none)=some (.lst [.int 0]):=rfl
   have b2:toD (ao cI (aa (vB 1) ak)) (d5 rows kept nm (some (.lst [])) none)=some (.lst (kept.map dI)):=by show some (Dt.lst ((kept.map fun j=>kI j).map kJ))=_;rw [qd0];rfl
   show (((toD (bL (aa (kD (.int 0)) ak)) (d5 rows kept nm (some (.lst [])) none)).bind fun x=>(toD (ao cI (aa (vB 1) ak)) (d5 rows kept nm (some (.lst [])) none)).bind fun y=>bD x y).bind T.d)=_;rw [b1,b2];show ((bD (.lst [.int 0]) (.lst (kept.map dI))).bind T.d)=_;rw [o4 (small (by simp;lia))];rfl
  show ((((ao q12 (aa (vL 0) (aa (vL 1) (aa (toD (d2 bD (toD (bL (aa (kD (.int 0)) ak))) (toD (ao cI (aa (vB 1) ak))))) (aa (vL 2) ak)))) (d5 rows kept nm (some (.lst [])) none)).bind T.d).bind itD).bind fun ds=>cC (ay 4) q28 ds (d5 rows kept nm (some (.lst [])) none))=_
  rw [show ao q12 (aa (vL 0) (aa (vL 1) (aa (toD (d2 bD (toD (bL (aa (kD (.int 0)) ak))) (toD (ao cI (aa (vB 1) ak))))) (aa (vL 2) ak)))) (d5 rows kept nm (some (.lst [])) none)=q12 [dR rows,kD' kept,.lst ((0::kept).map dI),.str nm] by show (((vL 0 (d5 rows kept nm (some (.lst [])) none)).bind fun d=>((vL 1 (d5 rows kept nm (some (.lst [])) none)).bind fun d1=>((toD (d2 bD (toD (bL (aa (kD (.int 0)) ak))) (toD (ao cI (aa (vB 1) ak)))) (d5 rows kept nm (some (.lst [])) none)).bind fun d2=>((vL 2 (d5 rows kept nm (some (.lst [])) none)).bind fun d3=>(some []).bind fun ds=>some (d3::ds)).bind fun ds=>some (d2::ds)).bind fun ds=>some (d1::ds)).bind fun ds=>some (d::ds)).bind q12)=_;rw [a1];rfl,e4]
  exact e5
 rw [bc s1,bc (δ':=d5 rows kept nm (some (.leaf (.lst (st.map dI)))) z4) (by show ((((q12 [dR rows,kD' kept,.lst (st.map dI),.str ""]).bind T.d).bind itD).bind fun ds=>cC (ay 4) z42 ds (d5 rows kept nm (some (.leaf (.lst (st.map dI)))) y4))=_;rw [e6];exact e7)]
 rfl
end
theorem fT:∀ l:List Nat,deeps (l.map dI)=0
 | []=>rfl
 | a::l=>by simp only [qa5,deeps,fT l];rfl
theorem mm (ds:List Dt) (h:deeps ds<=50):gEq neg (.lst ds) (.lst [])=some (.leaf (.bl (if neg then !ds.isEmpty else ds.isEmpty))):=by
 rw [l3 (b:=peqs ds []) (BZ (by rw [decide_eq_true (by lia)];cases ds<;>simp [cmpbs]))]
 cases ds<;>rfl
theorem vo (k:Nat):z36 [dI k]=some (.leaf (.bl true)):=by
 unfold z36 dI;walk_at "k"
 try rfl
theorem su (l:List Nat):cM (ay 0) dm y39 [none] (l.map dI)=some (l.map fun _=>.bl true):=bR (h:=fun _=>Dt.bl true) fun k _=>⟨_,rfl,rfl,by unfold y39;walk_at "k";rw [vo];rfl⟩
theorem allB (l:List Nat):wC (fun bs=>bs.all id) [.lst (l.map fun _=>.bl true)]=some (.leaf (.bl true)):=by
 have e:∀ l:List Nat,jx (l.map fun _=>Dt.bl true)=some (l.map fun _=>true):=fun l=>by
  induction l with
  | nil=>rfl
  | cons a l O=>simp only [qa5,jx,O,ql1]
 show (jx (l.map fun _=>Dt.bl true)).map (fun bs=>T.leaf (.bl (bs.all id)))=_;rw [e];show some (T.leaf (.bl ((l.map fun _=>true).all id)))=_;congr 3;rw [qi6];intro x q;obtain ⟨_,_,rfl⟩:=qc9.mp q;rfl
theorem qJ {W:List Nat} {k:Nat} (h:k<W.length):aq (.lst (W.map dI)) (.int (k:Int))=some (.leaf (dI (W.getD k 0))):=by rw [qv,fJ dI W k h 0];rfl
theorem qK (A:List Nat) (n:Nat):atI ((A++[n]).map dI) (-1)=some (dI n):=by unfold atI ixN;rw [if_neg (by decide),qa1,qb5,qg6,if_pos (by lia)];simp only [qa3];rw [qb4,show (-1+((A.length+1:Nat):Int)).toNat=A.length by lia];simp
section
variable {rows:List Rw} {kept:List Nat} {nm:Str}
def tKd (l:List Nat):Dt:=kD' l
theorem yA (l:List Nat) (j:Nat):bA neg (dI j) (tKd l)=some (.leaf (.bl (if neg then !decide (j∈l) else decide (j∈l)))):=vn l j
theorem pp {W:List Nat} {k:Nat} (h1:k+1<W.length) (Y:rows[W.getD k 0]?=some r) (O:W.getD (k+1) 0∉kept) (U:W.getD (k+1) 0∈r.outs (W.getD k 0)) :
  z27 [some (.leaf (dR rows)),some (.leaf (tKd kept)),some (.leaf (.lst (W.map dI))),some (.leaf (dI (k+1)))]=some (.nx [some (.leaf (dR rows)),some (.leaf (tKd kept)),some (.leaf (.lst (W.map dI))),some (.leaf (dI (k+1)))]):=by
 unfold z27;have q:aq (.lst (W.map dI)) (dI (k+1))=some (.leaf (dI (W.getD (k+1) 0))):=qJ h1
 have Z:atI (W.map dI) (((k+1:Nat):Int)-1)=some (dI (W.getD k 0)):=by rw [show ((k+1:Nat):Int)-1=((k:Nat):Int) by lia];exact fJ dI W k (by lia) 0
 have e3:=nQ rows (W.getD k 0) r Y;generalize W.getD (k+1) 0=y at*
 generalize W.getD k 0=x at*
 have t:fOr (tB2 (bA false) (toD (d2 aq (vB 2) (vB 3))) (vB 1)) (tB2 (bA true) (toD (d2 aq (vB 2) (vB 3))) (toD (ao y12 (aa (vL 0) (aa (toD (d2 aq (vB 2) (toD (d2 fw (vB 3) (kD (.int 1)))))) ak))))) [some (.leaf (dR rows)),some (.leaf (tKd kept)),some (.leaf (.lst (W.map dI))),some (.leaf (dI (k+1)))]=some false:=by
  walk_at "k";rw [q];walk_at "k";rw [yA,decide_eq_false O];walk_at "k";rw [q];unfold dI at*
  walk_at "k";rw [Z];walk_at "k";rw [e3];walk_at "k";rw [show (Dt.int (y:Int))=L2.dI y from rfl,show (r.outs x).map (fun k:Nat=>Dt.int (k:Int))=(r.outs x).map L2.dI from rfl,nB,decide_eq_true U];rfl
 rw [qw,t];rfl
theorem jV {W:List Nat} (nx:∀ k,k+1<W.length->W.getD (k+1) 0∉kept/\∃ r,rows[W.getD k 0]?=some r/\W.getD (k+1) 0∈r.outs (W.getD k 0)):∀ (d k:Nat) (x3:Option T),k+1+d=W.length→
  ∃ q,cC (ay 3) z27 ((List.range' (k+1) d).map dI) [some (.leaf (dR rows)),some (.leaf (tKd kept)),some (.leaf (.lst (W.map dI))),x3]=some (.nx [some (.leaf (dR rows)),some (.leaf (tKd kept)),some (.leaf (.lst (W.map dI))),q])
 | 0,k,x3,_=>⟨x3,rfl⟩
 | d+1,k,x3,h=>by obtain ⟨h1,r,h2,h3⟩:=nx k (by lia);obtain ⟨q,e⟩:=jV nx d (k+1) (some (.leaf (dI (k+1)))) (by lia);refine ⟨q,?_⟩;rw [List.range'_succ,qa5,bB rfl (pp (by lia) h2 h1 h3)];exact e
theorem vp {W:List Nat} {m:Mrk} {z:Nat} (p:Pth rows kept nm W m z) (hW:W.length<=10000):q15 [dR rows,tKd kept,.lst (W.map dI)]=some (.leaf (.bl true)):=by
 obtain ⟨n,e1,_⟩:=p.last;obtain ⟨y3,e⟩:=jV p.nx n 0 none (by lia);have Z:aq (.lst (W.map dI)) (.int 0)=some (.leaf (dI (W.getD 0 0))):=qJ (k:=0) (by lia)
 have h1:(W.map dI)[0]?=some (dI (W.getD 0 0)):=by rw [qb4,qa9,gQ (show 0<W.length by lia)];rfl
 have hd:=p.hd;have U:W.isEmpty=false:=by cases W<;>simp at e1 ⊢
 generalize W.getD 0 0=O at*
 unfold q15;walk_at "k";rw [mm _ (by rw [fT];decide)];walk_at "k";rw [List.isEmpty_map,U];walk_at "k";rw [su];walk_at "k";rw [cb (by rw [qa1];lia)];walk_at "k";rw [allB];walk_at "k"
 have Y:dn ((((Option.map T.leaf (W.map dI)[0]?).bind T.d).bind fun x=>gEq true x (Dt.int 0)).bind asB) (tB2 (bA true) (toD (d2 aq (vB 2) (kD (Dt.int 0)))) (vB 1)) (kB false) [some (.leaf (dR rows)),some (.leaf (tKd kept)),some (.leaf (.lst (W.map dI))),none]=some false:=by
  rw [h1];show dn ((gEq true (.int (O:Int)) (.int 0)).bind asB) _ _ _=_;rw [uY];by_cases q:O=0
  . subst q;show dn (some (!decide (((0:Nat):Int)=0))) _ _ _=_;rw [show (!decide (((0:Nat):Int)=0))=false by decide,g8];rfl
  . rw [decide_eq_false (by lia)];show dn (some true) _ _ _=_;rw [i8];have hk:O∈kept:=hd.resolve_left q;show (((aq (.lst (W.map dI)) (.int 0)).bind T.d).bind fun x=>bA true x (tKd kept)).bind asB=_;rw [Z];show (bA true (dI O) (tKd kept)).bind asB=_;rw [yA,decide_eq_true hk];rfl
 rw [Y,g8];walk_at "k"
 have r2:wn [.int 1,.int (W.length:Int)]=some ((List.range' (0+1) n).map dI):=by show (if fX 1&&fX (W.length:Int) then some (dE 1 ((W.length:Int)-1).toNat) else none)=_;rw [if_pos (by rw [jM (by lia) (by lia),jM (by lia) (by lia)];rfl),show ((W.length:Int)-1).toNat=n by lia];unfold dE;rw [List.range'_eq_map_range,qd0];refine congrArg some (List.map_congr_left fun k _=>?_);show Dt.int (1+(k:Int))=Dt.int ((0+1+k:Nat):Int);rw [show ((0+1+k:Nat):Int)=1+(k:Int) by lia]
 rw [qa1,r2];walk_at "k";rw [e];rfl
theorem Ck {W:List Nat} (Z:∀ k∈W,k<rows.length) {k:Nat} (hk:k<W.length):z33 [some (.leaf (dI k)),some (.leaf (dR rows)),some (.leaf (.lst (W.map dI))),some (.leaf (.str nm))]=some (gA rows nm (W.getD k 0)):=by
 have O:aq (.lst (W.map dI)) (dI k)=some (.leaf (dI (W.getD k 0))):=qJ hk;have Y:W.getD k 0<rows.length:=Z _ (by rw [qa9,gQ hk];exact qi7 hk);have q:rows[W.getD k 0]?=some rows[W.getD k 0]:=by simp [Y]
 rw [yu q];have U:=gx q;generalize rows[W.getD k 0]=r at*
 generalize W.getD k 0=y at*
 unfold z33;walk_at "k";rw [O];walk_at "k";rw [U];walk_at "k";cases r<;>simp only [Rw.d,Rw.gets]<;>(repeat walk_at "k")<;>(try (rw [O];walk_at "k";rw [U];simp only [Rw.d];walk_at "k"))
theorem Cl {W:List Nat} (Z:∀ k∈W,k<rows.length) {k:Nat} (hk:k<W.length):y32 [some (.leaf (dI k)),some (.leaf (dR rows)),some (.leaf (.lst (W.map dI))),some (.leaf (.str nm))]=some (pA rows nm (W.getD k 0)):=by
 have O:aq (.lst (W.map dI)) (dI k)=some (.leaf (dI (W.getD k 0))):=qJ hk;have Y:W.getD k 0<rows.length:=Z _ (by rw [qa9,gQ hk];exact qi7 hk);have q:rows[W.getD k 0]?=some rows[W.getD k 0]:=by simp [Y]
 rw [u6 q];have U:=gx q;generalize rows[W.getD k 0]=r at*
 generalize W.getD k 0=y at*
 unfold y32;walk_at "k";rw [O];walk_at "k";rw [U];walk_at "k";cases r<;>simp only [Rw.d,Rw.puts]<;>(repeat walk_at "k")<;>(try (rw [O];walk_at "k";rw [U];simp only [Rw.d];walk_at "k"))
theorem pr {W:List Nat} {shelf:Bool} {n g:Nat} (O:∀ k∈W,k<rows.length) (hW:W.length<=10000) (e1:W.length=n+1) (hg:g<n) (h1:gA rows nm (W.getD g 0)=true) (h2:∀ j,j<g->gA rows nm (W.getD j 0)=false) (h3:pA rows nm (W.getD n 0)=true) (Z:shelf=false->∀ j,j<n->pA rows nm (W.getD j 0)=false) :
  q24 [dR rows,.lst (W.map dI),.str nm,.bl shelf]=some (.leaf (.bl true)):=by
 obtain ⟨G,q⟩:=u7 (p:=fun k=>gA rows nm (W.getD k 0)) (n:=W.length) (g:=g) (by lia) h1 h2
 have eP:(qb8 W.length).filter (fun k=>pA rows nm (W.getD k 0))=(qb8 n).filter (fun k=>pA rows nm (W.getD k 0))++[n]:=by rw [e1,qx4,List.filter_append,zc1 (p:=fun k=>pA rows nm (W.getD k 0)) h3,List.filter_nil]
 have cG:cM (ay 0) z33 (vL 0) [none,some (.leaf (dR rows)),some (.leaf (.lst (W.map dI))),some (.leaf (.str nm))] ((qb8 W.length).map dI)=some ((g::G).map dI):=by rw [<- q];exact cK (h:=dI) fun k hk=>⟨_,rfl,Ck O (qd1.mp hk),fun _=>rfl⟩
 have U:cM (ay 0) y32 (vL 0) [none,some (.leaf (dR rows)),some (.leaf (.lst (W.map dI))),some (.leaf (.str nm))] ((qb8 W.length).map dI)=some (((qb8 n).filter (fun k=>pA rows nm (W.getD k 0))++[n]).map dI):=by rw [<- eP];exact cK (h:=dI) fun k hk=>⟨_,rfl,Cl O (qd1.mp hk),fun _=>rfl⟩
 have lG:(g::G).length<=10000:=by rw [<- q];exact qc1 (qg8 _ _) (by simpa using hW)
 have hA:shelf=false->(qb8 n).filter (fun k=>pA rows nm (W.getD k 0))=[]:=fun z=>zc9.mpr fun j Y=>by rw [Z z j (qd1.mp Y)];simp
 have lA:((qb8 n).filter (fun k=>pA rows nm (W.getD k 0))).length<=n:=qc1 (qg8 _ _) (by simp);generalize (qb8 n).filter (fun k=>pA rows nm (W.getD k 0))=A at*
 unfold q24;walk_at "k";rw [qa1,fE (by lia),qa3,cR,cG,qa3,cb (by rw [qa1];lia)];walk_at "k";rw [qa1,fE (by lia),qa3,cR,U,qa3,cb (by rw [qa1,qb5,qg6];lia)];walk_at "k";have ne:((A++[n]).map dI).isEmpty=false:=by simp
 rw [mm _ (by rw [fT];decide),ne];walk_at "k";rw [qK];walk_at "k"
 have q1:gEq true (dI n) (.int ((W.length:Int)-1))=some (.leaf (.bl false)):=by unfold dI;rw [uY,decide_eq_true (by lia)];rfl
 rw [qa1,q1];walk_at "k";rw [show dI g::G.map dI=(g::G).map dI from rfl,mm _ (by rw [fT];decide)];simp only [qa5,List.isEmpty_cons];walk_at "k";rw [qK]
 have q2:iW (fun i j=>decide (i<j)) (dI g) (dI n)=some (.leaf (.bl true)):=by unfold dI;rw [Ao,decide_eq_true (by lia)]
 walk_at "k";rw [q2];walk_at "k";cases shelf with
 | true =>walk_at "k"
 | false =>rw [hA rfl];walk_at "k";rw [q2];rfl
end
theorem db {α:Type} {f:α->Dt} (h:∀ a,cw (f a) (f a)=true):∀ l:List α,cmpbs (l.map f) (l.map f)=true
 | []=>rfl
 | a::l=>by rw [qa5];unfold cmpbs;rw [h a,db h l];rfl
variable {n:Nat}
theorem dM {α:Type} {f:α->Dt} (h:∀ a,c7 (f a)<=n):∀ l:List α,deeps (l.map f)<=n
 | []=>qj2 _
 | a::l=>by have h1:=h a;have h2:=dM h l;rw [qa5];unfold deeps;lia
theorem xE (a:Atm):cw a.d a.d=true:=by cases a<;>rfl
theorem ib (a:Atm):c7 a.d<=1:=by cases a<;>simp [Atm.d,c7]
theorem A3 (r:Rw):cw r.d r.d=true:=by cases r<;>simp [Rw.d,cw,cmpbs,b9,xE]
theorem xF (r:Rw):c7 r.d<=5:=by cases r<;>(simp only [Rw.d,c7,deeps];first | lia | (rename_i a;have:=ib a;lia) | (rename_i a _;have:=ib a;lia) | (rename_i a b;have:=ib a;have:=ib b;lia))
theorem A4 (h:Hd):cw (hdD h) (hdD h)=true:=by simp [hdD,cw,cmpbs,b9]
theorem qL (h:Hd):c7 (hdD h)<=5:=by simp [hdD,c7,deeps]
theorem qM (x:Str):cw (.str x) (.str x)=true:=rfl
theorem nS (x:Str):c7 (.str x)<=0:=by simp [c7]
theorem A5 (p:Nat×List Str):cw (keD p) (keD p)=true:=by unfold keD tS;simp only [cw,cmpbs,db qM,qs4];rfl
theorem xG (p:Nat×List Str):c7 (keD p)<=5:=by have:=dM nS p.2;simp only [keD,tS,c7,deeps,dI];lia
theorem sv (cs ss:List Hd) (rows:List Rw):gEq false (pD cs ss rows) (pD cs ss rows)=some (.leaf (.bl true)):=by
 unfold pD;have h1:=dM qL cs;have h2:=dM qL ss;have h3:=dM xF rows;rw [l3 (b:=true) ((uX ?_).trans (by rw [peqs_self]))]
 . rfl
 . rw [qb1];refine ⟨?_,decide_eq_true ?_⟩
   . simp only [cmpbs,dR,cw,db A4,db A3,zb3]
   . simp only [deeps,c7,dR];lia
theorem sw (bs:List Str) (kl:List (Nat×List Str)):gEq false (cD (tS bs) (kq kl)) (cD (tS bs) (kq kl))=some (.leaf (.bl true)):=by
 have e:kpD (kq kl)=.tup (kl.map keD):=by unfold kpD kq;rw [qd0];rfl
 unfold cD;rw [e];have h1:=dM nS bs;have h2:=dM xG kl;rw [l3 (b:=true) ((uX ?_).trans (by rw [peqs_self]))]
 . rfl
 . rw [qb1];refine ⟨?_,decide_eq_true ?_⟩
   . simp only [cmpbs,tS,cw,db qM,db A5,zb3]
   . simp only [deeps,c7,tS];lia
theorem vq:∀ {l:List Hd},(l.map (·.x)).Nodup->∀ {a b:Hd},a∈l->b∈l->a.x=b.x->a=b
 | [],_,a,b,ha,_,_=>by cases ha
 | c::l,nd,a,b,ha,hb,e=>by
  rw [qa5,qi1] at nd;rcases qb3.mp ha with q | q<;>rcases qb3.mp hb with w | w
  . rw [q,w]
  . exact absurd (qc9.mpr ⟨b,w,by rw [<- e,q]⟩) nd.1
  . exact absurd (qc9.mpr ⟨a,q,by rw [e,w]⟩) nd.1
  . exact vq nd.2 q w e
variable {x:Str} {h:Hd}
section
variable {scr:Dt} {cs ss:List Hd} {rows:List Rw} {bs:List Str} {kl:List (Nat×List Str)}
noncomputable def sl (scr:Dt) (cs ss:List Hd) (rows:List Rw) (bs:List Str) (kl:List (Nat×List Str)) (seen:List Nat) (q x6 O:Option T):De:=[some (.leaf scr),some (.leaf (pD cs ss rows)),some (.leaf (dR rows)),some (.leaf (cD (tS bs) (kq kl))),some (tK seen),q,x6,O]
structure All (cs ss:List Hd) (rows:List Rw) (kl:List (Nat×List Str)):Prop where
 hn:((cs++ss).map (·.x)).Nodup
 lc:cs.length+ss.length<=100
 P:Prg cs ss rows
 kn:(kl.map (·.1)).Nodup
 kr:∀ p∈kl,p.1<rows.length
 kl1:kl.length<=rows.length
theorem pv:kps (kq kl)=kl.map (·.1):=by unfold kps kq;rw [qd0];rfl
theorem A6:(kq kl).length=kl.length:=by simp [kq]
theorem All.ne (A:All cs ss rows kl) (h1:x∈cs.map (·.x)) (h2:x∈ss.map (·.x)):False:=by have:=A.hn;rw [qc6,qe8] at this;exact this.2.2 x h1 x h2 rfl
theorem All.cell (A:All cs ss rows kl) (h:x∈cs.map (·.x)):Kd rows x false:=⟨fun _ k=>by
 unfold pA sA;cases e:rows[k]? with
 | none=>rfl
 | some r =>
  have q:=A.P.hN k r e;cases r<;>try rfl
  rename_i f _ _;have q:f∈ss.map (·.x):=q;show decide (f=x)=false;exact decide_eq_false fun z=>A.ne h (z▸q),fun z=>by cases z⟩
theorem All.shelf (A:All cs ss rows kl) (h:x∈ss.map (·.x)):Kd rows x true:=⟨fun z=>(by cases z),fun _ k=>by
 unfold sA;cases e:rows[k]? with
 | none=>rfl
 | some r =>
  have q:=A.P.hN k r e;cases r<;>try rfl
  rename_i c _;have q:c∈cs.map (·.x):=q;show decide (c=x)=false;exact decide_eq_false fun z=>A.ne (z▸q) h⟩
def hk3 (h:Hd):Hk3:=(h.x,h.n,h.b)
theorem vv:∀ l:List Hd,(l.map hdD).mapM lU=some (l.map hk3)
 | []=>rfl
 | h::l=>by simp only [qa5,List.mapM_cons,vv l];rfl
theorem All.told (A:All cs ss rows kl) (O:h∈cs++ss):∃ shelf,lV (hdD h) (.tup (ss.map hdD))=some (.leaf (.bl shelf))/\Kd rows h.x shelf:=by
 refine ⟨decide (hk3 h∈ss.map hk3),?_,?_⟩
 . show ((lU (hdD h)).bind fun ks=>((ss.map hdD).mapM lU).map fun q=>T.leaf (.bl (decide (ks∈q))))=_;rw [show lU (hdD h)=some (hk3 h) from rfl,qa3,vv];rfl
 . rcases qf8.mp O with z | z
   . rw [decide_eq_false fun w=>?_]
     . exact A.cell (qj4 z)
     . obtain ⟨h',h1,h2⟩:=qc9.mp w;have e:h'.x=h.x:=congrArg (·.1) h2;exact A.ne (qj4 z) (e▸qj4 h1)
   . rw [decide_eq_true (qj4 z)];exact A.shelf (qj4 z)
theorem All.plain (A:All cs ss rows kl) (hh:h∈cs++ss):h.b=false↔h.x∈plain cs ss:=by
 unfold P34.plain;constructor
 . intro z;exact qc9.mpr ⟨h,ql2.mpr ⟨hh,by simp [z]⟩,rfl⟩
 . intro z;obtain ⟨h',h1,h2⟩:=qc9.mp z;obtain ⟨h3,h4⟩:=ql2.mp h1;have:=vq A.hn h3 hh h2;subst this;simpa using h4
theorem jW:∀ (l done:List (Nat×List Str)) (O x6:Option T),(done++l).length<=900->((done++l).map (·.1)).Nodup→
  ∃ Z W,cC (j0 2 (br (ay 5) (br (ay 6) gn))) y64 (l.map keD) (sl scr cs ss rows bs kl (done.map (·.1)) O x6 none)=some (.nx (sl scr cs ss rows bs kl ((done++l).map (·.1)) Z W none))
 | [],done,O,x6,_,_=>⟨O,x6,by rw [qi0];rfl⟩
 | p::l,done,O,x6,hl,U=>by
  have e0:done++p::l=(done++[p])++l:=by simp
  rw [e0] at U hl ⊢
  have q:((done++[p]).map (·.1)).Nodup:=by rw [qc6] at U;exact (qe8.mp U).1
  have Y:(done.map (·.1)).Nodup:=by rw [qc6] at q;exact (qe8.mp q).1
  have hx:p.1∉done.map (·.1):=fun z=>by rw [qc6] at q;exact (qe8.mp q).2.2 _ z _ (by simp) rfl
  obtain ⟨Z,W,e⟩:=jW l (done++[p]) (some (.leaf (dI p.1))) (some (.leaf (tS p.2))) hl U;refine ⟨Z,W,?_⟩
  have st:y64 (sl scr cs ss rows bs kl (done.map (·.1)) (some (.leaf (dI p.1))) (some (.leaf (tS p.2))) none)=some (.nx (sl scr cs ss rows bs kl ((done++[p]).map (·.1)) (some (.leaf (dI p.1))) (some (.leaf (tS p.2))) none)):=by unfold y64;refine (yt (i:=4) (kd:=dI p.1) (k:=kI p.1) (d:=.bl true) (l:=(done.map (·.1)).map fun j=>(kI j,.bl true)) rfl rfl rfl rfl (by simp at hl ⊢;lia) (qH Y)).trans ?_;rw [iH p.1 _ hx,qc6 (l₁:=done)];rfl
  rw [qa5,<- e];exact bB rfl st
end
section
variable {scr:Dt} {cs ss:List Hd} {rows:List Rw} {bs:List Str} {kl:List (Nat×List Str)}
theorem xH (A:All cs ss rows kl) (hh:h∈cs++ss) (q x7:Option T) :
  ∃ y7:Option T,z63 (sl scr cs ss rows bs kl (kps (kq kl)) q (some (.leaf (hdD h))) x7)=some (.nx (sl scr cs ss rows bs kl (kps (kq kl)) q (some (.leaf (hdD h))) y7)):=by
 have l0:=A.P.l0;have l1:=A.P.l1;have lc:=A.lc;have kl1:=A.kl1
 have O:∀ k∈kps (kq kl),k<rows.length:=fun k hk=>by rw [pv] at hk;obtain ⟨p,hp,rfl⟩:=qc9.mp hk;exact A.kr p hp
 have v4:∀ x,vB 4 (sl scr cs ss rows bs kl (kps (kq kl)) q (some (.leaf (hdD h))) x)=some (kD' (kps (kq kl))):=fun x=>A0 _
 have b2:∀ x,dN (toD (d2 aq (vB 6) (kD (.int 2)))) (sl scr cs ss rows bs kl (kps (kq kl)) q (some (.leaf (hdD h))) x)=some h.b:=fun x=>rfl
 unfold z63;cases hb:h.b with
 | true =>
  have hp:h.x∉plain cs ss:=fun z=>by have:=(A.plain hh).mpr z;rw [hb] at this;cases this
  refine ⟨some (.leaf .non),?_⟩;rw [bc (δ':=sl scr cs ss rows bs kl (kps (kq kl)) q (some (.leaf (hdD h))) (some (.leaf .non))) ((bT (show ao y26 (aa (vL 1) (aa (vL 3) (aa (toD (d2 aq (vB 6) (kD (.int 0)))) ak))) (sl scr cs ss rows bs kl (kps (kq kl)) q (some (.leaf (hdD h))) x7)=_ from sq (by lia) hp)).trans rfl),L2.AH rfl];refine (L2.AI ?_).trans rfl;show ((dN (toD (d2 aq (vB 6) (kD (.int 2)))) (sl scr cs ss rows bs kl (kps (kq kl)) q (some (.leaf (hdD h))) (some (.leaf .non)))).map not).bind _=_;rw [b2,hb];rfl
 | false =>
  have hp:h.x∈plain cs ss:=(A.plain hh).mp hb;obtain ⟨r,e1,hn,hs⟩:=ph (rows:=rows) (b:=tS bs) (kp:=kq kl) (by lia) hp (by lia) l0 (by rw [A6];lia) O (fun k r w e hw=>A.P.hO k r w e hw);have s1:aP 7 (ao y26 (aa (vL 1) (aa (vL 3) (aa (toD (d2 aq (vB 6) (kD (.int 0)))) ak)))) (sl scr cs ss rows bs kl (kps (kq kl)) q (some (.leaf (hdD h))) x7)=some (.nx (sl scr cs ss rows bs kl (kps (kq kl)) q (some (.leaf (hdD h))) (some (AX r)))):=(bT (show ao y26 (aa (vL 1) (aa (vL 3) (aa (toD (d2 aq (vB 6) (kD (.int 0)))) ak))) (sl scr cs ss rows bs kl (kps (kq kl)) q (some (.leaf (hdD h))) x7)=_ from e1)).trans rfl;rw [bc s1];cases r with
  | none =>
   have em:=A2 (rows:=rows) (nm:=h.x) (by lia) l0 (by rw [pv,qa1];lia) O A.P.hO (hn rfl);refine ⟨some (.leaf .non),?_⟩;rw [L2.AH rfl];refine (L2.AI ?_).trans rfl;show (((dN (toD (d2 aq (vB 6) (kD (.int 2)))) (sl scr cs ss rows bs kl (kps (kq kl)) q (some (.leaf (hdD h))) (some (.leaf .non)))).map not).bind fun z=>if z then dN (toD (cF y25 (aa (vB 2) (aa (vB 4) (aa (toD (d2 aq (vB 6) (kD (.int 0)))) ak))))) (sl scr cs ss rows bs kl (kps (kq kl)) q (some (.leaf (hdD h))) (some (.leaf .non))) else some false)=_;rw [b2,hb];show dN (toD (cF y25 (aa (vB 2) (aa (vB 4) (aa (toD (d2 aq (vB 6) (kD (.int 0)))) ak))))) (sl scr cs ss rows bs kl (kps (kq kl)) q (some (.leaf (hdD h))) (some (.leaf .non)))=_
   have ea:aa (vB 2) (aa (vB 4) (aa (toD (d2 aq (vB 6) (kD (.int 0)))) ak)) (sl scr cs ss rows bs kl (kps (kq kl)) q (some (.leaf (hdD h))) (some (.leaf .non)))=some [dR rows,kD' (kps (kq kl)),.str h.x]:=by show ((some (dR rows)).bind fun d=>((vB 4 (sl scr cs ss rows bs kl (kps (kq kl)) q (some (.leaf (hdD h))) (some (.leaf .non)))).bind fun Y=>(some [.str h.x]).bind fun ds=>some (Y::ds)).bind fun ds=>some (d::ds))=_;rw [v4];rfl
   show (((cF y25 (aa (vB 2) (aa (vB 4) (aa (toD (d2 aq (vB 6) (kD (.int 0)))) ak))) (sl scr cs ss rows bs kl (kps (kq kl)) q (some (.leaf (hdD h))) (some (.leaf .non)))).bind T.d).bind mK)=_;unfold cF;rw [ea,qa3,em];rfl
  | some U =>
   obtain ⟨hwl,t,hw,hf⟩:=hs U rfl;have p:=AZ l0 O A.P.hO hw;obtain ⟨shelf,eS,K⟩:=A.told hh;obtain ⟨n,g,q1,q2,q3,q4,q5,q6⟩:=xD K p hf;have Z:(U.reverse.map (·.1)).length<=10000:=by simpa using hwl
   show ∃ y7:Option T,_=_;rw [show AX (some U)=.lst ((U.reverse.map (·.1)).map dI) from rfl];generalize U.reverse.map (·.1)=W at*
   have ep:=vp p Z;have es:=pr p.lt Z q1 q2 q3 q4 q5 q6;refine ⟨some (.lst (W.map dI++[.int 0])),?_⟩;rw [L2.AI rfl]
   have ea:aa (vB 2) (aa (vB 4) (aa (vB 7) ak)) (sl scr cs ss rows bs kl (kps (kq kl)) q (some (.leaf (hdD h))) (some (.lst (W.map dI))))=some [dR rows,kD' (kps (kq kl)),.lst (W.map dI)]:=by show ((some (dR rows)).bind fun d=>((vB 4 (sl scr cs ss rows bs kl (kps (kq kl)) q (some (.leaf (hdD h))) (some (.lst (W.map dI))))).bind fun Y=>(some [.lst (W.map dI)]).bind fun ds=>some (Y::ds)).bind fun ds=>some (d::ds))=_;rw [v4];rfl
   have sh:toD (d2 lV (vB 6) (toD (d2 aq (vB 1) (kD (.int 1))))) (sl scr cs ss rows bs kl (kps (kq kl)) q (some (.leaf (hdD h))) (some (.lst (W.map dI))))=some (.bl shelf):=by show (lV (hdD h) (.tup (ss.map hdD))).bind T.d=_;rw [eS];rfl
   have eb:aa (vB 2) (aa (vB 7) (aa (toD (d2 aq (vB 6) (kD (.int 0)))) (aa (toD (d2 lV (vB 6) (toD (d2 aq (vB 1) (kD (.int 1)))))) ak))) (sl scr cs ss rows bs kl (kps (kq kl)) q (some (.leaf (hdD h))) (some (.lst (W.map dI))))=some [dR rows,.lst (W.map dI),.str h.x,.bl shelf]:=by show ((some (dR rows)).bind fun d=>((some (.lst (W.map dI))).bind fun Y=>((some (.str h.x)).bind fun e2=>((toD (d2 lV (vB 6) (toD (d2 aq (vB 1) (kD (.int 1))))) (sl scr cs ss rows bs kl (kps (kq kl)) q (some (.leaf (hdD h))) (some (.lst (W.map dI))))).bind fun d3=>(some []).bind fun ds=>some (d3::ds)).bind fun ds=>some (e2::ds)).bind fun ds=>some (Y::ds)).bind fun ds=>some (d::ds))=_;rw [sh];rfl
   rw [L2.AI (c:=fOr _ _) (by
    show ((dN (toD (d2 aq (vB 6) (kD (.int 2)))) (sl scr cs ss rows bs kl (kps (kq kl)) q (some (.leaf (hdD h))) (some (.lst (W.map dI))))).bind fun z=>if z then some true else iS (dN (toD (cF q15 (aa (vB 2) (aa (vB 4) (aa (vB 7) ak)))))) (sl scr cs ss rows bs kl (kps (kq kl)) q (some (.leaf (hdD h))) (some (.lst (W.map dI)))))=_;rw [b2,hb];show iS (dN (toD (cF q15 (aa (vB 2) (aa (vB 4) (aa (vB 7) ak)))))) (sl scr cs ss rows bs kl (kps (kq kl)) q (some (.leaf (hdD h))) (some (.lst (W.map dI))))=_;show ((((cF q15 (aa (vB 2) (aa (vB 4) (aa (vB 7) ak))) (sl scr cs ss rows bs kl (kps (kq kl)) q (some (.leaf (hdD h))) (some (.lst (W.map dI))))).bind T.d).bind mK).map not)=_;unfold cF;rw [ea,qa3,show q15 [dR rows,kD' (kps (kq kl)),.lst (W.map dI)]=_ from ep];rfl),L2.AI (c:=iS _) (by
    unfold iS dN;show ((((cF q24 (aa (vB 2) (aa (vB 7) (aa (toD (d2 aq (vB 6) (kD (.int 0)))) (aa (toD (d2 lV (vB 6) (toD (d2 aq (vB 1) (kD (.int 1)))))) ak)))) (sl scr cs ss rows bs kl (kps (kq kl)) q (some (.leaf (hdD h))) (some (.lst (W.map dI))))).bind T.d).bind mK).map not)=_;unfold cF;rw [eb,qa3,es];rfl)]
   exact (pb (i:=7) (l:=W.map dI) (d:=.int 0) rfl rfl (by rw [qa1];lia)).trans rfl
end
theorem A7 (l:List Dt) (O:l.length<=1000):∃ m,kZ (.tup l) (.int 2)=some (.leaf (.tup m))/\∀ d∈m,d∈l:=by
 cases l with
 | nil=>exact ⟨[],rfl,fun _ h=>h⟩
 | cons a l =>
  refine ⟨(qc3 2 (a::l)).flatten,?_,fun d q=>?_⟩
  . show (if _ then _ else none)=_;rw [if_pos ⟨by decide,by decide,rfl,O⟩];rfl
  . obtain ⟨x,h1,h2⟩:=List.mem_flatten.mp q;rw [(List.mem_replicate.mp h1).2] at h2;exact h2
theorem main (ns:List Int) (hns:ns.length<=63):qu [.lst (ns.map .int)]=some (.leaf (.bl true)):=by
 obtain ⟨B,cs,ss,rest,rows,ew,ep,W,Pg⟩:=xA ns;obtain ⟨b,eb,hb⟩:=xC ew W;have l1:=Pg.l1;obtain ⟨bs,kl,ec,k1,k2,k3⟩:=pj (ns:=ns) (cs:=cs) (ss:=ss) (rows:=rows) (B:=b) hb (by lia);have A:All cs ss rows kl:=⟨W.hn,by have:=W.c1;have:=W.s1;lia,Pg,k2,k1,k3⟩;generalize (Dt.lst (ns.map .int))=scr at ew ep eb ec
 have prE:∀ {δ:De},vL 0 δ=some scr->toD (ao q13 (aa (vL 0) (aa (kD (.int 57)) ak))) δ=some (pD cs ss rows):=fun {δ} Y=>by unfold toD ao aa ak;simp only [Y,qa3,kD];rw [ep];rfl
 have cuE:∀ {δ:De},vL 0 δ=some scr->vL 1 δ=some (pD cs ss rows)->toD (ao y11 (aa (vL 0) (aa (vL 1) (aa (toD (ao z16 (aa (vL 0) ak))) ak)))) δ=some (cD (tS bs) (kq kl)):=fun {δ} Y h1=>by unfold toD ao aa ak;simp only [Y,h1,qa3,eb];show (y11 [scr,pD cs ss rows,.lst (b.map .str)]).bind T.d=_;rw [ec];rfl
 obtain ⟨y5,Z,e5⟩:=jW (scr:=scr) (cs:=cs) (ss:=ss) (rows:=rows) (bs:=bs) (kl:=kl) kl [] none none (by rw [qj8];lia) (by rw [qj8];exact k2);obtain ⟨m,em,hm⟩:=A7 ((cs++ss).map hdD) (by rw [qa1,qb5];have:=A.lc;lia)
 have loop:∀ (ds:List Dt) (U x6 O:Option T),(∀ d∈ds,d∈(cs++ss).map hdD)->∃ Z y7,cC (ay 6) z63 ds (sl scr cs ss rows bs kl (kps (kq kl)) U x6 O)=some (.nx (sl scr cs ss rows bs kl (kps (kq kl)) U Z y7)):=fun ds=>by
  induction ds with
  | nil=>exact fun U x6 O _=>⟨x6,O,rfl⟩
  | cons d ds ih =>
   intro U x6 O hd;obtain ⟨h,hh,rfl⟩:=qc9.mp (hd d (.head _));obtain ⟨y7,e1⟩:=xH (scr:=scr) (bs:=bs) A hh U O;obtain ⟨z6,z7,e2⟩:=ih U (some (.leaf (hdD h))) y7 fun d hd'=>hd d (.tail _ hd')
   exact ⟨z6,z7,by rw [bB rfl e1];exact e2⟩
 obtain ⟨x6,O,e6⟩:=loop m y5 Z none hm;unfold qu;refine fQ ?_;show aA _ _ [some (.leaf scr),none,none,none,none,none,none,none]=_
 have t1:aP 1 (toT (toD (ao q13 (aa (vL 0) (aa (kD (.int 57)) ak))))) [some (.leaf scr),none,none,none,none,none,none,none]=some (.nx [some (.leaf scr),some (.leaf (pD cs ss rows)),none,none,none,none,none,none]):=(bT (t:=.leaf (pD cs ss rows)) (by show (toD (ao q13 (aa (vL 0) (aa (kD (.int 57)) ak))) [some (.leaf scr),none,none,none,none,none,none,none]).map T.leaf=_;rw [prE rfl];rfl)).trans rfl
 have t3:aP 3 (toT (toD (ao y11 (aa (vL 0) (aa (vL 1) (aa (toD (ao z16 (aa (vL 0) ak))) ak)))))) [some (.leaf scr),some (.leaf (pD cs ss rows)),some (.leaf (dR rows)),none,none,none,none,none]=some (.nx [some (.leaf scr),some (.leaf (pD cs ss rows)),some (.leaf (dR rows)),some (.leaf (cD (tS bs) (kq kl))),none,none,none,none]):=(bT (t:=.leaf (cD (tS bs) (kq kl))) (by show (toD (ao y11 (aa (vL 0) (aa (vL 1) (aa (toD (ao z16 (aa (vL 0) ak))) ak)))) [some (.leaf scr),some (.leaf (pD cs ss rows)),some (.leaf (dR rows)),none,none,none,none,none]).map T.leaf=_;rw [cuE rfl rfl];rfl)).trans rfl
 rw [bc t1,bc (δ':=[some (.leaf scr),some (.leaf (pD cs ss rows)),some (.leaf (dR rows)),none,none,none,none,none]) (bT rfl),bc t3,bc (δ':=sl scr cs ss rows bs kl [] none none none) (bT rfl),bc (δ':=sl scr cs ss rows bs kl (kps (kq kl)) y5 Z none) (by
  show cC (j0 2 (br (ay 5) (br (ay 6) gn))) y64 ((kq kl).map fun p=>Dt.tup [dI p.1,p.2]) (sl scr cs ss rows bs kl [] none none none)=_;rw [pv];unfold kq;rw [qd0];exact e5),bc (δ':=sl scr cs ss rows bs kl (kps (kq kl)) y5 x6 O) (by
  show (((((kY (.tup (cs.map hdD)) (.tup (ss.map hdD))).bind T.d).bind fun x=>kZ x (.int 2)).bind T.d).bind itD).bind (fun ds=>cC (ay 6) z63 ds (sl scr cs ss rows bs kl (kps (kq kl)) y5 Z none))=_;rw [qA hdD cs ss (by have:=A.lc;lia)];show (((kZ (.tup ((cs++ss).map hdD)) (.int 2)).bind T.d).bind itD).bind _=_;rw [em];exact e6)]
 generalize q:sl scr cs ss rows bs kl (kps (kq kl)) y5 x6 O=δ;have Y:vL 0 δ=some scr:=by rw [<- q];rfl
 have h1:vL 1 δ=some (pD cs ss rows):=by rw [<- q];rfl
 have h2:vB 1 δ=some (pD cs ss rows):=by rw [<- q];rfl
 have h3:vB 3 δ=some (cD (tS bs) (kq kl)):=by rw [<- q];rfl
 have q1:toD (d2 (gEq false) (vB 1) (toD (ao q13 (aa (vL 0) (aa (kD (.int 57)) ak))))) δ=some (.bl true):=by show (((vB 1 δ).bind fun x=>(toD (ao q13 (aa (vL 0) (aa (kD (.int 57)) ak))) δ).bind fun y=>gEq false x y).bind T.d)=_;rw [h2,prE Y];show (gEq false (pD cs ss rows) (pD cs ss rows)).bind T.d=_;rw [sv];rfl
 have q2:d2 (gEq false) (vB 3) (toD (ao y11 (aa (vL 0) (aa (vL 1) (aa (toD (ao z16 (aa (vL 0) ak))) ak))))) δ=some (.leaf (.bl true)):=by show ((vB 3 δ).bind fun x=>(toD (ao y11 (aa (vL 0) (aa (vL 1) (aa (toD (ao z16 (aa (vL 0) ak))) ak)))) δ).bind fun y=>gEq false x y)=_;rw [h3,cuE Y h1];exact sw bs kl
 show ((lz _ _ δ).map Out.rt)=_;unfold lz;rw [q1];show ((d2 (gEq false) (vB 3) _ δ).map Out.rt)=_;rw [q2];rfl
def mn (K:xA9):Sp:=fun vs H Q _=>∃ (a:Addr) (ns:List Int),vs=[.ref a]/\SqL K H a (ns.map V.int)/\ns.length<=63/\qe H/\∀ H',Q (.bl true) H'
variable {K:xA9}
theorem A8 {vs:List V} {H:Hp} {Q:VK} {E:XK} (h:mn K vs H Q E):spD K 1 qu vs H Q E:=by
 obtain ⟨a,ns,rfl,O,U,W,q⟩:=h;refine ⟨H,[.lst (ns.map .int)],.leaf (.bl true),Same.refl H,rfl,?_,main ns U,fun v H' F' S st o _=>?_⟩
 . simp only [Reps,Rep];exact ⟨_,[],rfl,⟨a,_,rfl,O,Reps.map (fun _=>fN) ns⟩,rfl⟩
 . have o:Rep K F' (.bl true) v:=o;simp only [Rep] at o;subst o;exact q H'
variable {l:PySem.W.OpenLaw}
theorem all_mk {w:World} {h:Heap} {mg:Str->Option Value} {fa:Addr} (X:K.In h) (G:h.Ns qc0 mg) (hfa:mg "law"=some (.ref fa))
 (a0:AtF K "_law_cell_at" y21)
 (a1:AtF K "_law_rich" z31)
 (a2:AtF K "_law_big" q30)
 (a3:AtF K "_law_some" y20)
 (a4:AtF K "_law_cutting" z11)
 (a5:AtF K "_law_exits" z34)
 (a6:AtF K "_law_whole" z19)
 (a7:AtF K "_law_is_piece" y9)
 (a8:AtF K "_law_reached" z17)
 (a9:AtF K "_law_may" y24)
 (a10:AtF K "_law_digits" q31)
 (a11:AtF K "_law_names" y18)
 (a12:AtF K "_law_world" y15)
 (a13:AtF K "_law_pool" z21)
 (a14:AtF K "_law_row" q25)
 (a15:AtF K "_law_program" y2)
 (a16:AtF K "_law_spoils" y16)
 (a17:AtF K "kept_rows" q40)
 (a18:AtF K "ways_of" q50)
 (a19:AtF K "ways" eL)
 (a20:AtF K "inner_ways" q19)
 (a21:AtF K "mark_behind" q17)
 (a22:AtF K "plain_names" y30)
 (a23:AtF K "traced" y40)
 (a24:AtF K "route" z41)
 {cc25 Pt25:Addr} (a25:AtC K "spoilt" z14 cc25 Pt25) (hd25:xN9 K cc25 Pt25=true) (to25:nT K "spoilt"=some (Pt25,pw "spoilt" (aX z14)))
 (a26:AtF K "law" dL)
 (z_all:xB9 K qc0 "all"=some none)
 (z_bool:xB9 K qc0 "bool"=some none)
 (U:xB9 K qc0 "enumerate"=some none)
 (z_int:xB9 K qc0 "int"=some none)
 (q:xB9 K qc0 "isinstance"=some none)
 (z_len:xB9 K qc0 "len"=some none)
 (z_list:xB9 K qc0 "list"=some none)
 (z_max:xB9 K qc0 "max"=some none)
 (z_min:xB9 K qc0 "min"=some none)
 (z_range:xB9 K qc0 "range"=some none)
 (Z:xB9 K qc0 "reversed"=some none)
 (z_set:xB9 K qc0 "set"=some none)
 (z_sorted:xB9 K qc0 "sorted"=some none)
 (z_tuple:xB9 K qc0 "tuple"=some none)
 {Y:Value} (b_B:xB9 K qc0 "FRESH"=some (some Y)) (r_B:RelV (.str "fresh") Y)
 {u_C:Value} (b_C:xB9 K qc0 "SAFE"=some (some u_C)) (r_C:RelV (.str "safe") u_C)
 {u_D:Value} (b_D:xB9 K qc0 "SEEN"=some (some u_D)) (r_D:RelV (.str "seen") u_D)
 {O:Value} (b_A:xB9 K qc0 "SPOILT"=some (some O)) (r_A:RelV (.str "spoilt") O)
 (zIS:oW K=true)
 (kd_bool:gp K "bool")
 (kd_int:gp K "int")
 (kd_list:gp K "list")
 : ∃ fd:qp9,(∀ (s:qa4) (v:Value),za8 s fd ⟨[v],[]⟩ [("_law_script",v)])/\∀ base:Heap,K.In base->base.Ns qc0 mg->oI mg base->FnOk l.prog w K mg base CX0 5 fa fd ["_law_script"] (mn K):=by
 obtain ⟨f26,oc26,od26,an26,sl26,kV26,dc26,pm26,cd26,ct26,a26,l26,c26,k26⟩:=a26;have e:=hfa.symm.trans (xI9 X G a26);cases e;have T:Txt l.prog w K mg:={n_all:=xE9 X G z_all,n_bool:=xE9 X G z_bool,n_enumerate:=xE9 X G U,n_int:=xE9 X G z_int,n_isinstance:=xE9 X G q,n_len:=xE9 X G z_len,n_list:=xE9 X G z_list,n_max:=xE9 X G z_max,n_min:=xE9 X G z_min,n_range:=xE9 X G z_range,n_reversed:=xE9 X G Z,n_set:=xE9 X G z_set,n_sorted:=xE9 X G z_sorted,n_tuple:=xE9 X G z_tuple,g_B:=gY ⟨_,xI9 X G b_B,r_B⟩,g_C:=gY ⟨_,xI9 X G b_C,r_C⟩,g_D:=gY ⟨_,xI9 X G b_D,r_D⟩,g_A:=gY ⟨_,xI9 X G b_A,r_A⟩,is:=zIS,k_bool:=kd_bool,k_int:=kd_int,k_list:=kd_list};have D0:DefF K mg "_law_cell_at" y21 ["_law_script","_law_k"]:=a0.df X G fun _ _ _ _ _ _=>el2 fun _ _=>rfl
 have D1:DefF K mg "_law_rich" z31 ["_law_cell","_law_k"]:=a1.df X G fun _ _ _ _ _ _=>el2 fun _ _=>rfl
 have D2:DefF K mg "_law_big" q30 ["_law_script","_law_k"]:=a2.df X G fun _ _ _ _ _ _=>el2 fun _ _=>rfl
 have D3:DefF K mg "_law_some" y20 ["_law_pool_here","_law_number"]:=a3.df X G fun _ _ _ _ _ _=>el2 fun _ _=>rfl
 have D4:DefF K mg "_law_cutting" z11 ["_law_script","_law_program_here","_law_pool_here"]:=a4.df X G fun _ _ _ _ _ _=>el3 fun _ _ _=>rfl
 have D5:DefF K mg "_law_exits" z34 ["_law_rows","_law_at"]:=a5.df X G fun _ _ _ _ _ _=>el2 fun _ _=>rfl
 have D6:DefF K mg "_law_whole" z19 ["_law_found"]:=a6.df X G fun _ _ _ _ _ _=>el1 fun _=>rfl
 have D7:DefF K mg "_law_is_piece" y9 ["_law_rows","_law_keeps","_law_way"]:=a7.df X G fun _ _ _ _ _ _=>el3 fun _ _ _=>rfl
 have D8:DefF K mg "_law_reached" z17 ["_law_rows","_law_keeps","_law_starts","_law_name"]:=a8.df X G fun _ _ _ _ _ _=>el4 fun _ _ _ _=>rfl
 have D9:DefF K mg "_law_may" y24 ["_law_rows","_law_keeps","_law_name"]:=a9.df X G fun _ _ _ _ _ _=>el3 fun _ _ _=>rfl
 have D10:DefF K mg "_law_digits" q31 ["_law_number","_law_sizes"]:=a10.df X G fun _ _ _ _ _ _=>el2 fun _ _=>rfl
 have D11:DefF K mg "_law_names" y18 ["_law_number","_law_many"]:=a11.df X G fun _ _ _ _ _ _=>el2 fun _ _=>rfl
 have D12:DefF K mg "_law_world" y15 ["_law_script"]:=a12.df X G fun _ _ _ _ _ _=>el1 fun _=>rfl
 have D13:DefF K mg "_law_pool" z21 ["_law_script"]:=a13.df X G fun _ _ _ _ _ _=>el1 fun _=>rfl
 have D14:DefF K mg "_law_row" q25 ["_law_number","_law_world_here","_law_many"]:=a14.df X G fun _ _ _ _ _ _=>el3 fun _ _ _=>rfl
 have D15:DefF K mg "_law_program" y2 ["_law_script","_law_most"]:=a15.df X G fun _ _ _ _ _ _=>el2 fun _ _=>rfl
 have D16:DefF K mg "_law_spoils" y16 ["_law_rows","_law_way","_law_name","_law_shelf"]:=a16.df X G fun _ _ _ _ _ _=>el4 fun _ _ _ _=>rfl
 have D17:DefF K mg "kept_rows" q40 ["code"]:=a17.df X G fun _ _ _ _ _ _=>el1 fun _=>rfl
 have D18:DefF K mg "ways_of" q50 ["number","row"]:=a18.df X G fun _ _ _ _ _ _=>el2 fun _ _=>rfl
 have D19:DefF K mg "ways" eL ["program"]:=a19.df X G fun _ _ _ _ _ _=>el1 fun _=>rfl
 have D20:DefF K mg "inner_ways" q19 ["program","code"]:=a20.df X G fun _ _ _ _ _ _=>el2 fun _ _=>rfl
 have D21:DefF K mg "mark_behind" q17 ["mark","row","name"]:=a21.df X G fun _ _ _ _ _ _=>el3 fun _ _ _=>rfl
 have D22:DefF K mg "plain_names" y30 ["program"]:=a22.df X G fun _ _ _ _ _ _=>el1 fun _=>rfl
 have D23:DefF K mg "traced" y40 ["came_from","last"]:=a23.df X G fun _ _ _ _ _ _=>el2 fun _ _=>rfl
 have D24:DefF K mg "route" z41 ["starts","behind","fits"]:=a24.df X G fun _ _ _ _ _ _=>el3 fun _ _ _=>rfl
 have D25:DefC K mg "spoilt" z14 ["program","code","name"] cc25:=a25.df X G fun _ _ _ _ _ _=>el3 fun _ _ _=>rfl
 refine ⟨xC9 "law" "law" (bJ dL) (aX dL) (ac dL) .none kV26 dc26 pm26 an26 cd26 ct26,fun s v=>.of_eq rfl,fun base kb _ bm=>?_⟩;have z12:=z83 (P:=l.prog) (w:=w) (base:=base) T D0;have y31:=z90 (P:=l.prog) (w:=w) (base:=base) T D1;have q18:=y92 (P:=l.prog) (w:=w) (base:=base) T D2 z12 y31;have q49:=q91 (P:=l.prog) (w:=w) (base:=base) T D3;have q38:=q81 (P:=l.prog) (w:=w) (base:=base) T D4 q18 z12 y31 q49;have y17:=q89 (P:=l.prog) (w:=w) (base:=base) T D5;have q58:=z87 (P:=l.prog) (w:=w) (base:=base) T D6;have z43:=q79 (P:=l.prog) (w:=w) (base:=base) T D7 y17 q58;have y37:=z81 (P:=l.prog) (w:=w) (base:=base) T D8 y17;have q68:=q93 (P:=l.prog) (w:=w) (base:=base) T D9 y17 y37;have y10:=y83 (P:=l.prog) (w:=w) (base:=base) T D10;have y42:=q87 (P:=l.prog) (w:=w) (base:=base) T D11 y10;have z28:=y88 (P:=l.prog) (w:=w) (base:=base) T D12 q18 z12 y10 y42;have z49:=q92 (P:=l.prog) (w:=w) (base:=base) T D13 z28;have z67:=z93 (P:=l.prog) (w:=w) (base:=base) T D14 y10;have y38:=y82 (P:=l.prog) (w:=w) (base:=base) T D15 q18 y10 z67 z28;have q54:=z84 (P:=l.prog) (w:=w) (base:=base) T D16;have q32:=y91 (P:=l.prog) (w:=w) (base:=base) T D17;have y71:=y93 (P:=l.prog) (w:=w) (base:=base) T D18;have h_ways:=y97 (P:=l.prog) (w:=w) (base:=base) T D19 y71;have z58:=y86 (P:=l.prog) (w:=w) (base:=base) T D20 q32 h_ways;have z40:=z86 (P:=l.prog) (w:=w) (base:=base) T D21;have y53:=q86 (P:=l.prog) (w:=w) (base:=base) T D22;have y79:=y95 (P:=l.prog) (w:=w) (base:=base) T D23;have y84:=q97 (P:=l.prog) (w:=w) (base:=base) T D24 y79;have q80:=z96 (P:=l.prog) (w:=w) (base:=base) T D25 (TabB.mk' kb hd25 bm) (wV rfl to25) z58 q32 z40 y53 y84;exact (Am T (lr (st:=dL) l26 c26 k26) q38 z43 q68 z49 y38 q54 q80).imp fun vs H Q E z=>A8 z
theorem Ct {h:Heap} {ts:List Addr} (X:K.In h) (Y:∀ P∈ts,h.get? P=some (xJ9 #[])) {O q:Addr} (a0:AtC K "spoilt" z14 O q) (U:xN9 K O q=true) (n0:K.lookup q=none) (Z:q∈ts) (e:c4 K=[(q,pw "spoilt" (aX z14))]):TabsIn K h:=TabsIn.one X e n0 U (Y _ Z)
theorem walk {q:qc8} {loose:List Str} {XP:(Str->Option Value)->Heap->Prop} {YP:World->Heap->Prop} {d:DefRec} {K:Params->xA9} (U:l.most=some 63) (O:d.params.defaults=[])
 (hY:∀ (w:World) (h:Heap),YP w h->(K w.params).In h) (Z:∀ (w:World) (h:Heap),YP w h->TabsIn (K w.params) h)
 (F:∀ (w:World) (mg:Str->Option Value) (fa:Addr) (h:Heap),(K w.params).In h->h.Ns qc0 mg->mg d.name=some (.ref fa)→
 ∃ fd:qp9,(∀ (s:qa4) (u:Value),za8 s fd ⟨[u],[]⟩ [("_law_script",u)])/\∀ base:Heap,(K w.params).In base->base.Ns qc0 mg->oI mg base->FnOk l.prog w (K w.params) mg base CX0 5 fa fd ["_law_script"] (mn (K w.params))) :
  PySem.W.WalkO q loose XP YP l.row.toRowW d [] (fun f vs=>PySem.call f vs):=
 L2.BV (n:=63) (k:=5) (x:="_law_script") (CX:=fun _=>CX0) (sp:=fun w=>mn (K w.params)) U (by decide) O ⟨rfl,by decide,by decide⟩ hY Z F (fun _ _ a ns hl Y hS=>⟨a,ns,rfl,hS,hl,Y,fun _=>rfl⟩) fun _ _ _ _ _ z=>z
end P34
open PySem PySem.W PyProof.Rows
local macro_rules | `(tactic| walk_at "f") => `(tactic| (refine' L2.AtF.mk ?za ?zl ?zc ?zk; (case za => k_is); (case zl => k_is); (case zc => k_is); (case zk => k_is)))
local macro_rules | `(tactic| walk_at "c") => `(tactic| (refine' L2.AtC.mk ?za ?zl ?zc ?zk ?zx ?zp; (case za => k_is); (case zl => k_is); (case zc => k_is); (case zk => k_is); (case zx => k_is); (case zp => exact rfl)))
set_option maxRecDepth 100000 in
set_option maxHeartbeats 0 in
theorem PySem.Challenge.cw_dimhouse_k34_whole_spoilt_by_a_way_holds : PySem.Challenge.rw_dimhouse_k34_whole_spoilt_by_a_way.Holds := by
 w_on;o_law
 refine holds_open (q:=P34.seen) (loose:=[]) (Xt:=fun s=>xlAt P34.seen [] s&&recOk (zi0 (zf5 PySem.Challenge.rw_dimhouse_k34_whole_spoilt_by_a_way.row)) s) (XP:=XL P34.seen []) (Yf:=Hook.obs P34.hook) (Ya:=Hook.val P34.hook) (YP:=Hook.says P34.hook) (N:=1868) ?hl (Hook.of P34.hook) (Hook.keeps P34.hook) (fun s e=>xl_of s (qv0.mp e).1) XL.keeps (by rfl) (by rfl) (by rfl) (fun s e=>recFacts_of (qv0.mp e).2) (by rfl) (by first | assumption | decide +kernel) (by decide +kernel) ⟨rfl,rfl,rfl,rfl,rfl,by decide +kernel⟩ ?hw ?hc
 case hl=>exact LeftO.of_split "special-get-raises" fun w=>P34.map_two (P34.run_false w) (P34.run_true w)
 case hw=>w_witness2
 delta P34.hook
 k_fill
 refine P34.walk (l:=PySem.Challenge.rw_dimhouse_k34_whole_spoilt_by_a_way) rfl rfl (fun w h Y=>PySem.W.km_in_of Y) ?T ?F
 case T =>
  intro w h Y;refine' P34.Ct (PySem.W.km_in_of Y) (PySem.W.km_tabs_of Y) ?a0 ?hd0 ?n0 ?m0 ?e
  (case a0=>walk_at "c")
  (case hd0=>kernel_rfl)
  (case n0=>kernel_rfl)
  (case m0=>simp)
  (case e=>kernel_rfl)
 case F =>
  intro w mg fa h Z G U;refine' P34.all_mk Z G U ?a0 ?a1 ?a2 ?a3 ?a4 ?a5 ?a6 ?a7 ?a8 ?a9 ?a10 ?a11 ?a12 ?a13 ?a14 ?a15 ?a16 ?a17 ?a18 ?a19 ?a20 ?a21 ?a22 ?a23 ?a24 ?a25 ?hd25 ?to25 ?a26 ?z_all ?z_bool ?z_enumerate ?z_int ?z_isinstance ?z_len ?z_list ?z_max ?z_min ?z_range ?z_reversed ?z_set ?z_sorted ?z_tuple ?b_B ?r_B ?b_C ?r_C ?b_D ?r_D ?b_A ?r_A ?zIS ?kd_bool ?kd_int ?kd_list
  (case a0=>walk_at "f")
  (case a1=>walk_at "f")
  (case a2=>walk_at "f")
  (case a3=>walk_at "f")
  (case a4=>walk_at "f")
  (case a5=>walk_at "f")
  (case a6=>walk_at "f")
  (case a7=>walk_at "f")
  (case a8=>walk_at "f")
  (case a9=>walk_at "f")
  (case a10=>walk_at "f")
  (case a11=>walk_at "f")
  (case a12=>walk_at "f")
  (case a13=>walk_at "f")
  (case a14=>walk_at "f")
  (case a15=>walk_at "f")
  (case a16=>walk_at "f")
  (case a17=>walk_at "f")
  (case a18=>walk_at "f")
  (case a19=>walk_at "f")
  (case a20=>walk_at "f")
  (case a21=>walk_at "f")
  (case a22=>walk_at "f")
  (case a23=>walk_at "f")
  (case a24=>walk_at "f")
  (case a25=>walk_at "c")
  (case hd25=>kernel_rfl)
  (case to25=>kernel_rfl)
  (case a26=>walk_at "f")
  (case z_all | z_bool | z_enumerate | z_int | z_isinstance | z_len | z_list | z_max | z_min | z_range | z_reversed | z_set | z_sorted | z_tuple | b_B=>k_is)
  (case r_B=>exact ⟨_,rfl⟩)
  (case b_C=>k_is)
  (case r_C=>exact ⟨_,rfl⟩)
  (case b_D=>k_is)
  (case r_D=>exact ⟨_,rfl⟩)
  (case b_A=>k_is)
  (case r_A=>exact ⟨_,rfl⟩)
  (case zIS=>kernel_rfl)
  (case kd_bool=>exact fun d O=>by cases d<;>first | (cases O;done) | k_is | rfl)
  (case kd_int=>exact fun d O=>by cases d<;>first | (cases O;done) | k_is | rfl)
  (case kd_list=>exact fun d O=>by cases d<;>first | (cases O;done) | k_is | rfl)
