import PyProof.Rows.All
import KE.KNest
import Wide.All
import OpenK.AllK
import Wide.FinOn
import Lean
import PyProof.EqAt
import PyProof.EqKinds
import PyProof.TupleCall
import PySem.Challenge.RW_dimhouse_k54_breath
open Array renaming length_toList→qe2,getElem?_eq_getElem→qf8,getElem?_eq_none→qn2,getElem?_toList→qs2,toList_push→qy2,toList→zg3
open Bool renaming and_eq_true→qb1,false_ne_true→qb4,false_eq_true→qh7,eq_iff_iff→qj6,or_eq_true→qj9,not_eq_true'→ql8,true_and→qo3,and_false→qr9,and_eq_false_imp→qs3,and_eq_true_iff→qt5,or_eq_false_iff→qt6,and_true→qt7,or_false→qz3,false_or→qz5,false_and→zd9,and_self→zf5,true_or→zg5,or_true→zg6
open False renaming elim→ql3
open ForInStep renaming yield→qn7
open Int renaming toNat_natCast→qd5,emod_nonneg→qv1,le_antisymm→zd1
open Lean renaming maxHeartbeats→qo1,maxRecDepth→qp4
open List renaming length_map→qa3,map_cons→qa5,mem_cons→qa9,length_append→qb2,size_toArray→qb3,mem_singleton→qb7,range→qb8,getElem?_map→qb9,length_cons→qc0,mem_map→qc1,getElem?_append_left→qc2,getD_eq_getElem?_getD→qc3,mem_append_right→qc7,map_map→qd0,getElem?_set_self→qd1,replicate→qd3,length_filter_le→qe0,mem_cons_of_mem→qe4,length_nil→qe9,mem_cons_self→qf0,mem_of_getElem?→qf9,append_nil→qg0,getElem?_append_right→qg2,pairwise_cons→qg4,mem_range→qg6,map_nil→qh2,any_cons→qh6,not_mem_nil→qh8,take_of_length_le→qh9,length_range→qi2,map_congr_left→qi3,append_assoc→qi4,foldl_cons→qi6,all_cons→qj1,getElem?_cons_zero→qj2,mem_append→qj4,length→qj7,map_append→qk0,lookup_cons→qk4,mem_filter→ql2,nodup_cons→ql6,getElem?_replicate→qm4,all_eq_true→qm8,length_singleton→qn5,find?_cons→qn6,getElem?_mapIdx→qo6,mem_iff_getElem→qo7,getElem?_of_mem→qo8,getElem?_eq_none_iff→qp1,ext_getElem→qp3,length_eq_zero_iff→qq6,sum_cons→qq8,range_succ_eq_map→qr1,ext_getElem?→qr8,getElem?_eq_none→qs6,drop_length→qs9,eq_nil_of_length_eq_zero→qt0,getElem_mem→qt3,mem_append_left→qt4,filterMap_cons→qu0,getElem?_range→qu3,mem_map_of_mem→qu6,length_eraseIdx_of_lt→qv5,set_cons_zero→qw3,set_cons_succ→qw4,getElem?_zip_eq_some→qw6,drop_eq_getElem_cons→qw7,nodup_nil→qw9,mem_or_eq_of_mem_set→qx0,mapIdx_eq_zipIdx_map→qx1,getElem?_set→qx8,nodup_append→qy4,pairwise_mergeSort→qz7,getElem?_cons_succ→za2,length_take→za3,mapIdx_cons→za4,cons_append→za5,pairwise_lt_range→zb0,length_pos_of_mem→zb1,drop_of_length_le→zb2,of_mem_zip→zb8,length_set→zc0,singleton_append→zc8,nil_append→zd3,Perm→zh6
open List.Pairwise renaming nil→qr5,imp→qy3
open List.Perm renaming refl→qw8
open List.cons renaming injEq→zc4
open Nat renaming lt_of_lt_of_le→qb6,ne_of_lt→qc4,le_trans→qc5,lt_succ_of_lt→qh4,zero_le→qi8,not_lt→ql9,lt_irrefl→qm3,lt_succ_self→qm9,le_of_lt→qn3,ne_of_gt→qn4,le_succ→qn8,not_lt_zero→qn9,lt_of_le_of_lt→qw0,mod_lt→qy5,le_refl→qy7,lt_trans→zc2,sub_self→zg8,zero_add→zg9
open Ne renaming symm→qk6
open Option renaming bind_some→qa1,map_some→qf5,map→qg1,join_some→qm7,bind_eq_some_iff→qp9,map_eq_some_iff→qq9,isSome_iff_exists→qx3,isSome_map→qx4,map_none→zd4
open Option.some renaming inj→qe1,injEq→qi0
open PyProof.Rows renaming slot_tuple_getitem→qe8,callWith_type1→qj5,envOfC→qx2,subscriptTail_builtinR→za8,AllBare→zb3,IntsAre→zb9,subscriptTail→zf4
open PyProof.Rows.F renaming plain_set_update_loop→qq5,entry_set_update_loop→za0
open PySem renaming wpAny_pure→qa2,Shared→qa4,starEach→qa6,sizeLine→qa7,Program→qb5,wpAny_newObj_type→qc8,mainGlobals→qc9,Around→qd2,bootBuiltins→qd7,wpAny_callSpecial?_slot→qd9,wpAny_call_entry→qe5,wpAny_setState_of→qe6,SetTable→qf2,rawInt→qf4,foldedSetIterable→qf7,wpAny_bind→qg5,compareOp→qg7,wpAny_holding→qg9,sysModules→qi1,wpAny_setField→qi5,codeAny_builtin→qi7,wpAny_typeNameOfWhole_keyiter→qi9,behindInMarks→qj0,Builtin→qj8,backTo→qk1,wpAny_mono→qk3,binaryOp→qk5,firstArgMember→qk9,FuncData→ql1,assignEach→ql4,wpAny_passesOwn→ql5,wpAny_typeNameOf_keyiter→qm0,scanBound→qm1,plainId_quiet→qm5,swapsWith→qm6,wpAny_askSetting→qn0,wpAny_seqItems→qn1,wpAny_fieldsOf→qp0,NameKind→qp2,wpAny_Call_Name_kw→qq1,Arguments→qq2,tupleKind_room_in1→qq3,wpAny_attempt→qq4,wpAny_updateSeq→qq7,wpAny_truthy_bool→qr2,wpAny_field→qr3,sliceBounds→qr4,wpAny_rule→qr6,fits_of_scanBound→qr7,wpAny_tryCatch→qs0,pyNext→qs1,builtinLookup_eq_fast→qs5,codeAny→qs7,noFill_tuple_add→qs8,wpAny_isInstance→qt2,wpAny_execs_nil→qu1,letOwnedTupleGo→qu2,wpAny_of_eq→qu5,wpAny_pyIter_tuple→qv6,codeAny_mono→qv7,concat_meets→qv8,wpAny_typeOf→qv9,intItems→qw2,wpAny_comprehension_free→qx5,wpAny_pyIter_slot→qx9,wpAny_dictEntries→qy0,holding→qy9,sizeLine_eq→qz0,seq_tuple_add→qz1,getItem→qz2,attributeBase→qz4,wpAny_handled→qz6,setField→qz8,relayAll→qz9,setNext→za1,wpAny_pyNext_range_end→za6,wpAny_pyIter_rangeiter→za7,codeAny_compStart_list→za9,wpAny_isTrue_Compare1→zb4,assign→zb5,PassesOwn→zb6,Keyword→zb7,wpAny_dictEpoch→zc6,wpAny_isOneOf_keyiter→zc7,typeLookup_type→zc9,pickOrder→zd0,argBest→zd2,compPost→zd6,setEntries→zd7,IsPart→ze0,isSubtype_stop→ze1,IsRangeIter→ze2,subscripted→ze3,keywordEach→ze4,valueAt→ze5,wpAny_throw→ze7,wpAny_letGo→ze8,tupleKind→zf0,wpAny_standAt→zf1,swapsWithSole→zf2,swappedStores→zf3,seqItems?→zf6,newExc→zf7,raiseNew→zf8,callerA→zg0,setsByText→zg1,pyIter→zg4,newTuple→zh0,treeTable→zh1,DictEntry→zh4,BindsTo→zh5,updateSeq→zh7
open PySem.Around renaming under_plainId→qg3
open PySem.AutoSeq1 renaming wpAny_loadPart'→qp8
open PySem.Builtin.Builtins renaming bindParams→qv0
open PySem.Builtin.Dict renaming showsAll→zc5
open PySem.Builtin.Dict_items renaming ownsTuple→qt9
open PySem.Builtin.List renaming listTooLong→qp7,listLengthHint→qu8,listExtendWith→qu9,listSameRef→qy6
open PySem.Builtin.Range renaming rangeSize→qc6,rangeFitsLong→qu7
open PySem.Builtin.Slice renaming slicePlaces→qk7,sliceAdjust→qo9,sliceApplied→qv3
open PySem.Builtin.SmallTypes renaming nextOf→qk8
open PySem.Builtin.Str renaming occurrences→qq0
open PySem.Builtin.Tuple renaming tupleExact→ql7,tupleItemsOf→qv4
open PySem.Calls renaming Name_function_global→qv2
open PySem.F renaming slot_dict_keyiterator_next→qh5,slot_tuple_iterator_next→qk2,called_set→qo0,args_dict_keyiterator_next_1→qs4,entry_dict_keyiterator_next→qt1,args_tuple_iterator_next_1→qt8,entry_tuple_iterator_next→qu4
open PySem.Heap renaming lt_size→qa8,get?_push_size→qb0,get?_update_self→qd4,get?_update_other→qe7,size_push→qg8,SameBut→qm2,get?_push_of_some→qr0,ExtBut→ze6
open PySem.Heap.SameBut renaming update→qe3
open PySem.NameKind renaming free→qh0
open PySem.Obj renaming data_mapFields→qd6,isFreed_of_fields→qh3,cls_mapFields→qo4,mapFields→qo5,mapSeq→qp6
open PySem.PassesOwn renaming never→qd8
open PySem.PyData renaming keyHash→qj3
open PySem.SeqAt renaming EqAt→qf6,RcAt→qx6,RcNeAt→zc3
open PySem.SeqAt.EqAt renaming of_refs→qw1,same→zc1
open PySem.SeqAt.RcAt renaming lists_lengths→qx7
open PySem.SetTable renaming below→qf1,grown→ql0,insertAt→qy1
open PySem.Shared renaming TypeIs→zf9
open PySem.Str renaming ofString→qa0,length→zd5
open PySem.Value renaming ref→qf3,none→qh1,type→qo2,isStrOf→ze9,int→zh2,str→zh3
open PySem.W.OpenRow renaming toRowW→zd8
open PySem.W.RowW renaming records→zg2
open PySem.pickOrder renaming go→zg7
open Sum renaming inr→qw5,inl→qy8
open True renaming intro→qp5
set_option Elab.async false
set_option linter.all false
namespace P54
open PySem PySem.W PyProof.Rows
section
local macro_rules | `(tactic| o_head $_) => `(tactic| exact (by assumption : ∀ p : Prop, p) _)
set_option maxRecDepth 100000 in
set_option maxHeartbeats 0 in
theorem pre (h0:∀ p:Prop,p):PySem.Challenge.rw_dimhouse_k54_breath.row.Holds:=by k_head
end
def seen:qb5:={PySem.Challenge.pw_dimhouse_k54_breath with main:={PySem.Challenge.pw_dimhouse_k54_breath.main with body:=[1,2,4,5,6,7,8,9,10,12,13,14,16,17,18,19,20,21,23,24,25,26,27,28,29,30,31].filterMap fun i=>PySem.Challenge.pw_dimhouse_k54_breath.main.body[i]?}}
noncomputable abbrev hook:Hook:=kHook P54.pre.heap_1 [2,3,15,17,18,20,21,22,25,26,27,28,29,30,31,32,33,34,35,36,37,39,40,42,43,44,46,47,49,50,51,53,54,56,57,58,61,62,63,66,67,68,71,72,73,76,77,78,81,82,83,86,87,88,90,91,93,94,95,98,99,100,103,104,105,108,109,110,113,114,115,117,118,120,121,122,124,125,127,128,129,131,132,134,135,136,138,139,141,142,143,145,146,148,149,150,153,154,155,157,158,160,161,162,165,166,167,170,171] (fun _=>by kernel_rfl)
theorem map_two {α β γ:Type} {x:Option α} {f:α→β} {g:α→γ} {a:β} {b:γ} (h:x.map f=some a) (h':x.map g=some b):x.map (fun s=>(f s,g s))=some (a,b):=by
  cases x with
  | none=>cases h
  | some s=>simp only [qf5,qi0] at h h' ⊢;rw [h,h']
set_option maxRecDepth 100000 in
set_option maxHeartbeats 0 in
theorem run_false (w:World):(fencedOpening zh1 PySem.Challenge.rw_dimhouse_k54_breath.row.prog w 1994).map (fun s₀=>(topFrom zh1 PySem.Challenge.rw_dimhouse_k54_breath.row.prog (w.withFollow "special-get-raises" false) 1994 s₀).map (fun s=>(openSeen seen [PySem.Str.ofString "ATOM_PLACES"] (importedModules PySem.Challenge.rw_dimhouse_k54_breath.row.prog.main.body) (fun s=>xlAt seen [] s&&recOk (zg2 (zd8 PySem.Challenge.rw_dimhouse_k54_breath.row)) s) true s,Hook.obs hook s)))=some (some (openGood seen [PySem.Str.ofString "ATOM_PLACES"],Hook.val hook (w.withFollow "special-get-raises" false))):=by kernel_rfl
set_option maxRecDepth 100000 in
set_option maxHeartbeats 0 in
theorem run_true (w:World):(fencedOpening zh1 PySem.Challenge.rw_dimhouse_k54_breath.row.prog w 1994).map (fun s₀=>(topFrom zh1 PySem.Challenge.rw_dimhouse_k54_breath.row.prog (w.withFollow "special-get-raises" true) 1994 s₀).map (fun s=>(openSeen seen [PySem.Str.ofString "ATOM_PLACES"] (importedModules PySem.Challenge.rw_dimhouse_k54_breath.row.prog.main.body) (fun s=>xlAt seen [] s&&recOk (zg2 (zd8 PySem.Challenge.rw_dimhouse_k54_breath.row)) s) true s,Hook.obs hook s)))=some (some (openGood seen [PySem.Str.ofString "ATOM_PLACES"],Hook.val hook (w.withFollow "special-get-raises" true))):=by kernel_rfl
end P54
set_option maxRecDepth 100000
set_option maxHeartbeats 4000000
set_option compiler.extract_closed false
noncomputable section
theorem bS {α β:Type _} {o:Option α} {f:α->Option β} {b:β} (h:o.bind f=some b):∃ a,o=some a/\f a=some b:=qp9.mp h
theorem mS {α β:Type _} {o:Option α} {f:α->β} {b:β} (h:o.map f=some b):∃ a,o=some a/\f a=b:=qq9.mp h
theorem gX {α:Type _} {l:List α} {i:Nat} {a:α} (h:l[i]?=some a):∃ z:i<l.length,l[i]=a:=List.getElem?_eq_some_iff.mp h
open PySem PySem.Spec PyProof.Rows in abbrev gN := @List.getElem?_set_ne
open PySem PySem.Spec PyProof.Rows in abbrev gP := @Heap.get?_push_of_some
open PySem PySem.Spec PyProof.Rows in abbrev wB := @wpAny_bind
open PySem PySem.Spec PyProof.Rows in abbrev gR := @List.getElem?_append_right
open PySem PySem.Spec PyProof.Rows in abbrev gQ := @List.getElem?_eq_getElem
open PySem PySem.Spec PyProof.Rows in abbrev nL := @Nat.le_refl
set_option maxRecDepth 100000
namespace L2
open PySem PySem.Spec PyProof.Rows
abbrev Key:=Sum Int Str
noncomputable def iz:Key->Value->Bool
 | .inl k,v=>Value.isInt k v
 | .inr x,v=>ze9 x v
noncomputable def keyH (w:World):Key->Int
 | .inl k=>hashInt k
 | .inr x=>hashStr w x
theorem br:∀ {k:Key} {v:Value},iz k v=true->(∃ i t,k=qy8 i/\v=zh2 i t)∨(∃ x t,k=qw5 x/\v=zh3 x t)
 | .inl i,v,h=>by obtain ⟨t,e⟩:=Value.isInt_shape (k:=i) (v:=v) h;exact .inl ⟨i,t,rfl,e⟩
 | .inr x,v,h=>by obtain ⟨t,e⟩:=Value.isStrOf_shape (x:=x) (v:=v) h;exact .inr ⟨x,t,rfl,e⟩
theorem pV (i:Int) (t:Tok):iz (.inl i) (.int i t)=true:=by simp [iz,Value.isInt]
theorem pW (x:Str) (t:Tok):iz (.inr x) (.str x t)=true:=by simp [iz,ze9]
theorem xf (a b:Int):decide ((qy8 a:Key)=qy8 b)=(a==b):=by
 by_cases e:a=b
 . subst e;simp
 . have h:¬ (qy8 a:Key)=qy8 b:=fun q=>e (qy8.inj q)
   rw [decide_eq_false h];exact (beq_eq_false_iff_ne.mpr e).symm
theorem xg (a b:Str):decide ((qw5 a:Key)=qw5 b)=decide (a=b):=by
 by_cases e:a=b
 . subst e;simp
 . have h:¬ (qw5 a:Key)=qw5 b:=fun q=>e (qw5.inj q)
   rw [decide_eq_false h,decide_eq_false e]
theorem xh (a:Int) (b:Str):decide ((qy8 a:Key)=qw5 b)=false:=decide_eq_false (fun q=>nomatch q)
theorem xi (a:Str) (b:Int):decide ((qw5 a:Key)=qy8 b)=false:=decide_eq_false (fun q=>nomatch q)
noncomputable def bn (prog:qb5) (w:World):PySem.KeyKind prog w Key where
 is:=iz
 hash:=keyH w
 inj:=fun v a b ha hb=>by
  rcases br ha with ⟨i,t,rfl,rfl⟩ | ⟨x,t,rfl,rfl⟩
  . rcases br hb with ⟨j,u,rfl,e⟩ | ⟨y,u,rfl,e⟩
    . injection e with e1 _;rw [e1]
    . exact nomatch e
  . rcases br hb with ⟨j,u,rfl,e⟩ | ⟨y,u,rfl,e⟩
    . exact nomatch e
    . injection e with e1 _;rw [e1]
 byValue:=fun k v h=>by rcases br h with ⟨i,t,rfl,rfl⟩ | ⟨x,t,rfl,rfl⟩<;>rfl
 pyHash:=fun hv h=>by
  rcases br hv with ⟨i,t,rfl,rfl⟩ | ⟨x,t,rfl,rfl⟩
  . exact wpAny_pyHash_int h
  . exact wpAny_pyHash_str h
 eqBool:=fun hu hv h=>by
  rcases br hu with ⟨i,t,rfl,rfl⟩ | ⟨x,t,rfl,rfl⟩
  . rcases br hv with ⟨j,u,rfl,rfl⟩ | ⟨y,u,rfl,rfl⟩
    . rw [xf] at h;exact wpAny_eqBool_int h
    . rw [xh] at h;exact qf6.int_str i t y u _ _ _ _ h
  . rcases br hv with ⟨j,u,rfl,rfl⟩ | ⟨y,u,rfl,rfl⟩
    . rw [xi] at h;exact qf6.str_int x t j u _ _ _ _ h
    . rw [xg] at h;exact wpAny_eqBool_str h
 «strs»:=fun k x t v h=>by
  rcases br h with ⟨i,u,rfl,e⟩ | ⟨y,u,rfl,e⟩
  . exact nomatch e
  . injection e with e1 _;subst e1;cases v<;>rfl
theorem lz (prog:qb5) (w:World) (i:Int) (t:Tok):(bn prog w).is (.inl i) (.int i t)=true:=pV i t
theorem ev (prog:qb5) (w:World) (x:Str) (t:Tok):(bn prog w).is (.inr x) (.str x t)=true:=pW x t
inductive V where
 | non | bl (b:Bool) | int (i:Int) | str (x:Str) | byt (b:Array UInt8) | flt (b:UInt64) | ref (a:Addr) | ty (n:String)
 deriving DecidableEq
noncomputable def RelV:V->Value->Prop
 | .non,u=>u=qh1
 | .bl b,u=>u=Value.bool b
 | .int i,u=>∃ t,u=zh2 i t
 | .str x,u=>∃ t,u=zh3 x t
 | .byt b,u=>∃ t,u=Value.bytes b t
 | .flt b,u=>∃ t,u=Value.float b t
 | .ref a,u=>u=qf3 a
 | .ty n,u=>u=qo2 n
abbrev Vals:List V->List Value->Prop:=Paired RelV
theorem Vals.length {xs:List V} {us:List Value} (r:Vals xs us):xs.length=us.length:=Paired.length r
theorem Vals.get:∀ {xs:List V} {us:List Value} {i:Nat} {x:V},Vals xs us->xs[i]?=some x->∃ u,us[i]?=some u/\RelV x u
 | _,_,_,_,.nil,e=>by simp at e
 | _,_,0,_,.cons r _,e=>by simp at e;subst e;exact ⟨_,rfl,r⟩
 | _,_,i+1,x,.cons _ t,e=>by obtain ⟨u,h1,h2⟩:=Vals.get (i:=i) (x:=x) t (by simpa using e);exact ⟨u,by simpa using h1,h2⟩
theorem Vals.set {x:V} {u:Value} (r:RelV x u):∀ {xs:List V} {us:List Value} (i:Nat),Vals xs us->Vals (xs.set i x) (us.set i u)
 | _,_,_,.nil=>.nil
 | _,_,0,.cons _ t=>.cons r t
 | _,_,i+1,.cons q t=>.cons q (Vals.set r i t)
theorem Vals.append:∀ {xs ys:List V} {us ws:List Value},Vals xs us->Vals ys ws->Vals (xs++ys) (us++ws)
 | _,_,_,_,.nil,s=>s
 | _,_,_,_,.cons r t,s=>.cons r (Vals.append t s)
theorem Vals.take:∀ {xs:List V} {us:List Value} (n:Nat),Vals xs us->Vals (xs.take n) (us.take n)
 | _,_,0,_=>.nil
 | _,_,_+1,.nil=>.nil
 | _,_,n+1,.cons r t=>.cons r (Vals.take n t)
theorem Vals.drop:∀ {xs:List V} {us:List Value} (n:Nat),Vals xs us->Vals (xs.drop n) (us.drop n)
 | _,_,0,r=>r
 | _,_,_+1,.nil=>.nil
 | _,_,n+1,.cons _ t=>Vals.drop n t
noncomputable def RelO:Option V->Option Value->Prop
 | some v,some u=>RelV v u
 | none,none=>True
 | _,_=>False
noncomputable def KV {κ:Type}:List (κ×V)->List (κ×Value)->Prop:=Paired fun (p:κ×V) (q:κ×Value)=>p.1=q.1/\RelV p.2 q.2
noncomputable def kV:Key->V
 | .inl i=>.int i
 | .inr x=>.str x
inductive HO where
 | lst (xs:List V)
 | tup (xs:List V)
 | dK (kvs:List (Key×V)) | dT (kvs:List (List Key×V))
 | set (S:Int->Bool) (n:Nat)
 | ins (C dx:Addr) (fs:List (Str×V))
 | own (x:Addr)
 | xd (fs:List (Str×V))
 | met (f x:Addr)
 | rng (lo hi:Int)
 | frz (o:Obj) (u:HO)
 | tbl (ps:Array Value)
 | code (q:Str)
 | ctab (qs:List ((Nat×Nat)×Str))
 | ext (φ:Heap->Prop)
abbrev Hp:=Addr->Option HO
noncomputable def upd (H:Hp) (a:Addr) (o:HO):Hp:=fun b=>if b=a then some o else H b
theorem aT {H:Hp} {a:Addr} {o:HO}:upd H a o a=some o:=by unfold upd;rw [if_pos rfl]
theorem aK {H:Hp} {a b:Addr} {o:HO} (h:b≠a):upd H a o b=H b:=by unfold upd;rw [if_neg h]
theorem zv {H:Hp} {a b:Addr} {o u:HO} (h:H a=some o) (h':H b=some u) (d:o≠u):a≠b:=by intro e;subst e;rw [h] at h';exact d (qe1 h')
theorem bw {H:Hp} {a b:Addr} {o:HO} (h:H a=some o) (h':H b=none):a≠b:=by intro e;subst e;rw [h] at h';cases h'
section
variable (P:qb5) (w:World)
noncomputable def ObjOk (H:Hp) (h:Heap) (a:Addr):HO->Prop
 | .lst xs=>xs.length<=qa7/\∃ (its:List Value) (n:Nat),Vals xs its/\h.get? a=some {cls:=.type "list",data:=.seq its.toArray n}
 | .tup xs=>xs.length<=qa7/\∃ its:List Value,Vals xs its/\IsTup h a its.toArray
 | .dK kvs=>kvs.length<=qa7/\(a==qi1)=false/\∃ vs,KV kvs vs/\h.DictOf (bn P w) a vs
 | .dT kvs=>kvs.length<=qa7/\(a==qi1)=false/\∃ xs:List (List Key×Addr×Value),
     Paired (fun (p:List Key×V) (q:List Key×Addr×Value)=>p.1=q.1/\H q.2.1=some (.tup (p.1.map kV))/\RelV p.2 q.2.2) kvs xs∧
     ∃ o es ep,h.get? a=some o/\o.ExactDict/\o.data=.dict es ep/\es.toList=xs.map (entryOfKey (zf0 (bn P w)))/\(xs.map (·.1)).Nodup
 | .set S n=>h.SetOf (intKind P w) a S n
 | .ins C dx fs=>H dx=some (.own a)/\fs.length<=1000/\dx≠a/\h.get? a=some (PySem.W.instObj C dx)∧∃ mA,h.Ns1 dx mA/\(∀ f,RelO (fs.lookup f) (mA f))/\PySem.Within mA (fs.map (·.1))
 | .own _=>∃ o,h.get? a=some o
 | .xd fs=>∃ mA,h.Ns1 a mA/\∀ f,RelO (fs.lookup f) (mA f)
 | .rng lo hi=>∃ t u v,h.get? a=some {cls:=.type "range",data:=.fields #[.int lo t,.int hi u,.int 1 v]}
 | .frz o u=>h.get? a=some o/\ObjOk H h a u
 | .tbl ps=>h.get? a=some {cls:=.none,data:=.fields ps}
 | .code q=>h.CodeRec (.ref a) q
 | .ctab qs=>∃ ps:Array Value,h.get? a=some {cls:=.none,data:=.fields ps}/\TriplesOk ps.toList/\∀ (pos:Pos) (q:Str) (v:Value),((pos.line,pos.col),q)∈qs->codeAmong pos ps.toList=some v->∃ c o,v=.ref c/\H c=some (.frz o (.code q))
 | .met f x=>h.get? a=some (PySem.W.methodObj (.ref f) (.ref x))
 | .ext φ=>φ h/\(∃ o,h.get? a=some o)/\∀ h1 h2:Heap,φ h1->(∀ o,h1.get? a=some o->h2.get? a=some o)->φ h2
noncomputable def HOk (H:Hp) (h:Heap):Prop:=∀ a o,H a=some o->ObjOk P w H h a o
end
section
variable {P:qb5} {w:World} {H H':Hp} {h h':Heap} {a:Addr} {o:HO}
theorem ObjOk.lt (x:ObjOk P w H h a o):a<h.objs.size:=by
 cases o with
 | lst xs=>obtain ⟨_,_,_,_,e⟩:=x;exact qa8 e
 | tup xs=>obtain ⟨_,_,_,p⟩:=x;exact p.lt
 | dK kvs=>obtain ⟨_,_,_,_,o,_,_,e,_⟩:=x;exact qa8 e
 | dT kvs=>obtain ⟨_,_,_,_,o,_,_,e,_⟩:=x;exact qa8 e
 | set S n=>obtain ⟨o,_,_,_,e,_⟩:=x;exact qa8 e
 | ins C dx fs=>obtain ⟨_,_,_,e,_⟩:=x;exact qa8 e
 | own y=>obtain ⟨_,e⟩:=x;exact qa8 e
 | xd fs=>obtain ⟨_,⟨_,_,_,e,_⟩,_⟩:=x;exact qa8 e
 | rng lo hi=>obtain ⟨_,_,_,e⟩:=x;exact qa8 e
 | frz ob u=>obtain ⟨e,_⟩:=x;exact qa8 e
 | tbl ps=>exact qa8 (show h.get? a=some _ from x)
 | code q=>obtain ⟨c,o,vs,t,e,g,_⟩:=x;cases e;exact qa8 g
 | ctab qs=>obtain ⟨ps,g,_⟩:=x;exact qa8 g
 | met f y=>exact qa8 (show h.get? a=some _ from x)
 | ext φ=>obtain ⟨_,⟨_,e⟩,_⟩:=x;exact qa8 e
theorem Paired.mapP {α β:Type} {F G:α->β->Prop}:∀ {l₁:List α} {l₂:List β},Paired F l₁ l₂->(∀ a b,F a b->G a b)->Paired G l₁ l₂
 | _,_,.nil,_=>.nil
 | _,_,.cons r t,f=>.cons (f _ _ r) (Paired.mapP t f)
theorem ObjOk.stay (x:ObjOk P w H h a o) (k:∀ b u,(b=a∨H b=some (.own a))->h.get? b=some u->h'.get? b=some u)
  (ho:∀ b,H b=some (.own a)->H' b=some (.own a)) (ht:∀ b xs,H b=some (.tup xs)->H' b=some (.tup xs)) (hcd:∀ b ob q,H b=some (.frz ob (.code q))->H' b=some (.frz ob (.code q))):ObjOk P w H' h' a o:=by
 induction o with
 | lst xs=>obtain ⟨z,its,n,r,e⟩:=x;exact ⟨z,its,n,r,k _ _ (.inl rfl) e⟩
 | tup xs=>obtain ⟨z,its,r,ob,e,c⟩:=x;exact ⟨z,its,r,ob,k _ _ (.inl rfl) e,c⟩
 | dK kvs=>obtain ⟨z,y,vs,r,ob,es,ep,e,c⟩:=x;exact ⟨z,y,vs,r,ob,es,ep,k _ _ (.inl rfl) e,c⟩
 | dT kvs =>obtain ⟨z,y,xs,r,ob,es,ep,e,c⟩:=x;exact ⟨z,y,xs,Paired.mapP r fun p q z=>⟨z.1,ht _ _ z.2.1,z.2.2⟩,ob,es,ep,k _ _ (.inl rfl) e,c⟩
 | set S n=>obtain ⟨ob,es,ep,t,e,c⟩:=x;exact ⟨ob,es,ep,t,k _ _ (.inl rfl) e,c⟩
 | ins C dx fs =>obtain ⟨d,z,ne,e,mA,⟨od,es,ep,e2,c⟩,r⟩:=x;exact ⟨ho _ d,z,ne,k _ _ (.inl rfl) e,mA,⟨od,es,ep,k _ _ (.inr d) e2,c⟩,r⟩
 | own y=>obtain ⟨ob,e⟩:=x;exact ⟨ob,k _ _ (.inl rfl) e⟩
 | xd fs=>obtain ⟨mA,⟨od,es,ep,e,c⟩,r⟩:=x;exact ⟨mA,⟨od,es,ep,k _ _ (.inl rfl) e,c⟩,r⟩
 | rng lo hi=>obtain ⟨t,u,v,e⟩:=x;exact ⟨t,u,v,k _ _ (.inl rfl) e⟩
 | frz ob u ih=>obtain ⟨e,q⟩:=x;exact ⟨k _ _ (.inl rfl) e,ih q⟩
 | tbl ps =>have e:h.get? a=some {cls:=.none,data:=.fields ps}:=x;show h'.get? a=some {cls:=.none,data:=.fields ps};exact k a _ (.inl rfl) e
 | code q=>obtain ⟨c,o,vs,t,e,g,r⟩:=x;cases e;exact ⟨a,o,vs,t,rfl,k a _ (.inl rfl) g,r⟩
 | ctab qs=>obtain ⟨ps,g,r1,r2⟩:=x;exact ⟨ps,k a _ (.inl rfl) g,r1,fun pos q v h1 h2=>let ⟨c,ob,e,g⟩:=r2 pos q v h1 h2;⟨c,ob,e,hcd c ob q g⟩⟩
 | met f y =>have e:h.get? a=some (PySem.W.methodObj (.ref f) (.ref y)):=x;show h'.get? a=some (PySem.W.methodObj (.ref f) (.ref y));exact k a _ (.inl rfl) e
 | ext φ=>obtain ⟨p,⟨o,e⟩,st⟩:=x;exact ⟨st _ _ p fun o q=>k _ _ (.inl rfl) q,⟨o,k _ _ (.inl rfl) e⟩,st⟩
theorem HOk.lt (x:HOk P w H h) (e:H a=some o):a<h.objs.size:=(x a o e).lt
theorem HOk.fresh (x:HOk P w H h) (e:h.objs.size<=a):H a=none:=by
 cases q:H a with
 | none=>rfl
 | some u=>exact absurd (qb6 (x.lt q) e) (qm3 _)
theorem HOk.kept (x:HOk P w H h) (k:∀ b u,h.get? b=some u->h'.get? b=some u):HOk P w H h':=fun a o e =>(x a o e).stay (fun b u _ q=>k b u q) (fun _ q=>q) (fun _ _ q=>q) fun _ _ _ q=>q
theorem HOk.laid (x:HOk P w H h) (k:∀ b u,h.get? b=some u->h'.get? b=some u) (hp:h.objs.size<=a) (new:ObjOk P w (upd H a o) h' a o):HOk P w (upd H a o) h':=fun b u e=>by
 have hn:=x.fresh hp;by_cases hb:b=a
 . subst hb;rw [aT] at e;cases e;exact new
 . rw [aK hb] at e;exact (x b u e).stay (fun c v _ q=>k c v q) (fun c q=>by rw [aK (bw q hn)];exact q) (fun c xs q=>by rw [aK (bw q hn)];exact q) fun c ob xs q=>by rw [aK (bw q hn)];exact q
end
noncomputable def Rd (H:Hp) (a:Addr) (u:HO):Prop:=H a=some u∨∃ o,H a=some (.frz o u)
theorem Rd.of {H:Hp} {a:Addr} {u:HO} (h:H a=some u):Rd H a u:=.inl h
theorem Rd.ok {P:qb5} {w:World} {H:Hp} {h:Heap} {a:Addr} {u:HO} (r:Rd H a u) (x:HOk P w H h):ObjOk P w H h a u:=by
 rcases r with r | ⟨o,r⟩
 . exact x a u r
 . obtain ⟨_,q⟩:=x a _ r;exact q
noncomputable def Mut:Option HO->Prop
 | some (.lst _)=>True
 | some (.dK _)=>True
 | some (.dT _)=>True
 | some (.set _ _)=>True
 | some (.ins _ _ _)=>True
 | some (.ext _)=>True
 | _=>False
section
variable {P:qb5} {w:World} {H:Hp} {h h':Heap} {x e:Addr} {o':HO}
theorem HOk.write (ok:HOk P w H h) (mu:Mut (H x)) (he:e=x∨H e=some (.own x)) (k:∀ b u,b≠e->h.get? b=some u->h'.get? b=some u) (heo:∃ u,h'.get? e=some u)
  (new:ObjOk P w (upd H x o') h' x o'):HOk P w (upd H x o') h':=fun b u q=>by
 have nown:∀ c y,H c=some (.own y)->c≠x:=fun c y r z=>by subst z;rw [r] at mu;exact mu
 have ntup:∀ c xs,H c=some (.tup xs)->c≠x:=fun c xs r z=>by subst z;rw [r] at mu;exact mu
 have ncod:∀ c ob xs,H c=some (.frz ob (.code xs))->c≠x:=fun c ob xs r z=>by subst z;rw [r] at mu;exact mu
 by_cases hb:b=x
 . subst hb;rw [aT] at q;cases q;exact new
 . rw [aK hb] at q;by_cases hbe:b=e
   . have q':H b=some (.own x):=by
      rcases he with z | z
      . exact absurd (hbe.trans z) hb
      . rw [hbe];exact z
     rw [q] at q';cases q'
     obtain ⟨v,hv⟩:=heo;exact ⟨v,by rw [hbe];exact hv⟩
   . refine (ok b u q).stay (fun c v hc r=>k c v ?_ r) (fun c r=>by rw [aK (nown c b r)];exact r) (fun c xs r=>by rw [aK (ntup c xs r)];exact r) fun c ob xs r=>by rw [aK (ncod c ob xs r)];exact r
     rcases hc with rfl | hc
     . exact hbe
     . rintro rfl;rcases he with z | z
       . exact nown c b hc z
       . rw [hc] at z;cases z;exact hb rfl
end
structure Un (fs ex:List Addr) (H H':Hp) (h h':Heap):Prop where
 keep:∀ b o,h.get? b=some o->H b=none->b∉fs->b∉ex->h'.get? b=some o
 slot:∀ b o,h.get? b=some o->H b=none->b∈fs->b∉ex->∃ sl,h'.get? b=some {o with slots:=sl}
 free:∀ b o,h.get? b=some o->H b=none->b∉ex->H' b=none
 there:∀ b o,h.get? b=some o->b∉ex->∃ o',h'.get? b=some o'
 tups:∀ b xs,H b=some (.tup xs)->H' b=some (.tup xs)
 frzs:∀ b o u,H b=some (.frz o u)->H' b=some (.frz o u)
 tbls:∀ b ps,H b=some (.tbl ps)->∃ more,H' b=some (.tbl (ps++more))
 cts:∀ b qs,H b=some (.ctab qs)->H' b=some (.ctab qs)
section
variable {fs fs' ex ex':List Addr} {H H1 H2:Hp} {h h1 h2 h':Heap} {a x e:Addr} {o:HO}
theorem Un.any (u:Un fs ex H H1 h h1) {b:Addr} {ob:Obj} (q:h.get? b=some ob) (n:H b=none) (hx:b∉ex):∃ sl,h1.get? b=some {ob with slots:=sl}:=by
 by_cases hb:b∈fs
 . exact u.slot b ob q n hb hx
 . exact ⟨ob.slots,u.keep b ob q n hb hx⟩
theorem Un.kept (k:∀ b u,h.get? b=some u->h'.get? b=some u):Un fs ex H H h h':=⟨fun b ob q _ _ _=>k b ob q,fun b ob q _ _ _=>⟨ob.slots,k b ob q⟩,fun _ _ _ n _=>n,fun b ob q _=>⟨ob,k b ob q⟩,fun _ _ q=>q,fun _ _ _ q=>q,fun _ ps q=>⟨#[],by rw [q];simp⟩,fun _ _ q=>q⟩
theorem Un.refl:Un fs ex H H h h:=Un.kept fun _ _ q=>q
theorem Un.laid (k:∀ b u,h.get? b=some u->h'.get? b=some u) (hp:h.objs.size<=a) (hn:H a=none):Un fs ex H (upd H a o) h h' where
 keep:=fun b u q _ _ _=>k b u q
 slot:=fun b u q _ _ _=>⟨u.slots,k b u q⟩
 free:=fun b u q n _=>by rw [aK (qc4 (qb6 (qa8 q) hp))];exact n
 there:=fun b u q _=>⟨u,k b u q⟩
 tups:=fun b xs q=>by rw [aK (bw q hn)];exact q
 frzs:=fun b u xs q=>by rw [aK (bw q hn)];exact q
 tbls:=fun b ps q=>⟨#[],by rw [aK (bw q hn),q];simp⟩
 cts:=fun b qs q=>by rw [aK (bw q hn)];exact q
theorem Un.write (mu:Mut (H x)) (he:e=x∨H e=some (.own x)) (k:∀ b u,b≠e->h.get? b=some u->h'.get? b=some u) (heo:∃ u,h'.get? e=some u):Un fs ex H (upd H x o) h h':=by
 have hx:∀ b,H b=none->b≠x:=fun b n z=>by subst z;rw [n] at mu;exact mu
 have hb:∀ b,H b=none->b≠e:=fun b n z=>by
  subst z;rcases he with r | r
  . exact hx b n r
  . rw [n] at r;cases r
 have hm:∀ b u,H b=some u->¬ Mut (some u)->b≠x:=fun b u q nm z=>by subst z;rw [q] at mu;exact nm mu
 refine ⟨fun b u q n _ _=>k b u (hb b n) q,fun b u q n _ _=>⟨u.slots,k b u (hb b n) q⟩,fun b u q n _=>by rw [aK (hx b n)];exact n,fun b u q _=>?_,fun b xs q=>by rw [aK (hm b _ q fun z=>z)];exact q,fun b u xs q=>by rw [aK (hm b _ q fun z=>z)];exact q,fun b ps q=>⟨#[],by rw [aK (hm b _ q fun z=>z),q];simp⟩,fun b xs q=>by rw [aK (hm b _ q fun z=>z)];exact q⟩
 by_cases hbe:b=e
 . subst hbe;exact heo
 . exact ⟨u,k b u hbe q⟩
end
noncomputable def trk (h:Heap) (H:Hp):List Addr:=(qb8 h.objs.size).filter fun a=>(H a).isSome
noncomputable def ku (h:Heap) (H:Hp):Heap:=PySem.W.hideAll h (trk h H)
theorem pX (h:Heap) (H:Hp):(ku h H).objs.size=h.objs.size:=PySem.W.hideAll_size _ _
theorem qT {h:Heap} {H:Hp} {b:Addr} {o:Obj} (e:h.get? b=some o) (n:H b=none):(ku h H).get? b=some o:=PySem.W.hideAll_get _ e fun hm=>by have q:(H b).isSome=true:=(ql2.mp hm).2;rw [n] at q;simp at q
theorem up {h:Heap} {H:Hp} {b:Addr} {o:Obj} (e:(ku h H).get? b=some o):h.get? b=some o/\H b=none:=by
 have e':h.get? b=some o:=PySem.W.of_hideAll (trk h H) e;refine ⟨e',?_⟩;cases q:H b with
 | none=>rfl
 | some x =>have hm:b∈trk h H:=ql2.mpr ⟨qg6.mpr (qa8 e'),by simp [q]⟩;have z:(ku h H).get? b=none:=PySem.W.hideAll_none (trk h H) hm;rw [z] at e;cases e
noncomputable def uq (g h:Heap) (L:Addr):List (Addr×Obj):=(qb8 h.objs.size).filterMap fun a=>if a=L∨(g.get? a).isSome=true then none else (h.get? a).map fun o=>(a,o)
noncomputable def rest (g h:Heap) (L d:Addr):List (Addr×Obj):=(uq g h L).filter fun p=>decide (p.1≠d)
noncomputable def nestNames:List Str:=["way_to_reading","spoilt"]
noncomputable def zw (x:Str) (ss:List Stmt):List ((Nat×Nat)×Str):=ss.filterMap fun st=>match st with
 | .FunctionDef name _ _ _ _ _ _ _ _ pos=>some ((pos.line,pos.col),x++".<locals>."++name)
 | _=>none
noncomputable def xj (K:PySem.W.Frag) (x:Str):Option (Addr×List ((Nat×Nat)×Str)):=match PySem.W.tabIn K x with
 | some (_,P)=>(match PySem.W.nsIn K qc9 x with
  | some (some (.ref f))=>(match K.lookup f with
   | some o=>(match o.data with
    | .func fd=>(match fd.body with
     | .stmts b=>some (P,zw x b)
     | _=>none)
    | _=>none)
   | none=>none)
  | _=>none)
 | none=>none
noncomputable def lA (K:PySem.W.Frag):List (Addr×List ((Nat×Nat)×Str)):=nestNames.filterMap (xj K)
structure Mod (K:PySem.W.Frag) (mg:Str->Option Value) (base:Heap):Prop where
 kin:K.In base
 glob:base.Ns qc9 mg
 blt:∃ mb,base.Ns builtinsNs mb/\∀ x:Str,x≠"__name__"->mb x=qd7 x
 nolimit:base.NoLimit
structure Cx where
 prog:qb5
 w:World
 K:PySem.W.Frag
 mg:Str->Option Value
 base:Heap
 A:qd2
 N:List Str
 s₀:qa4
 H₀:Hp
 env:Env
 outer:List Env
 stack:List Env
 ex:List Addr
 fn:Str->Bool
 calm:Bool
 pn:List (Addr×Obj)
 xe:Value->qa4->Prop
noncomputable def frs (l:List Env):List Addr:=l.filterMap (·.frame)
abbrev Cx.fs (X:Cx):List Addr:=frs X.outer
noncomputable def Vis (sc:Scope) (x:Str):Prop:=sc.names.lookup x=some .local∨sc.names.lookup x=some .cell∨sc.names.lookup x=some .free
noncomputable def Loc (sc:Scope) (x:Str):Prop:=sc.names.lookup x=some .local∨sc.names.lookup x=some .cell
noncomputable def Look (env:Env) (h:Heap) (m:Str->Option Value) (x:Str) (u:Value):Prop:=(env.kindOf x=some .local/\m x=some u)∨((env.kindOf x=some .cell∨env.kindOf x=some .free)/\∃ c,env.cells.lookup x=some c/\h.IsCell c (some u))
structure Cx.Ok (X:Cx):Prop where
 mod:Mod X.K X.mg X.base
 kind:X.env.scope.kind=.function
 glob:X.env.globals=qc9
 blt:X.env.builtins=builtinsNs
 above:X.s₀.heap.objs.size<=X.env.locals
 inj:∀ x y c,X.env.cells.lookup x=some c->X.env.cells.lookup y=some c->x=y
 has:∀ x,(X.env.kindOf x=some .cell∨X.env.kindOf x=some .free)->∃ c,X.env.cells.lookup x=some c
 cab:∀ x c,X.fn x=true->X.env.cells.lookup x=some c->X.s₀.heap.objs.size<=c
 hd:X.calm=true->X.A.handled=none
 frames:X.A.frames=some X.stack
 stk:X.stack=X.outer∨(X.stack=X.env::X.outer/\X.env.frame=some X.env.locals)
 exf:∀ b∈X.ex,b≠X.env.locals/\∀ x c,X.env.cells.lookup x=some c->c≠b
 bs:∀ b o,X.base.get? b=some o->X.s₀.heap.get? b=some o/\X.H₀ b=none
 bsz:X.base.objs.size<=X.s₀.heap.objs.size
 noex:∀ b o,X.base.get? b=some o->b∉X.ex
 exfs:∀ b∈X.ex,b∉X.fs
 funs:X.s₀.heap.FunFrames X.base X.outer
 frf:∀ b∈X.fs,X.H₀ b=none
 tb:∀ p∈lA X.K,X.H₀ p.1=some (.ctab p.2)
structure Inv (X:Cx) (pins:List (Addr×Obj)) (σ:List (Option V)) (H:Hp) (s:qa4):Prop where
 ok:X.Ok
 os:s.os=X.s₀.os
 bare:zb3 s.gens
 base:Un X.fs X.ex X.H₀ H X.s₀.heap s.heap
 loc:∃ m,s.heap.Ns X.env.locals m/\∀ (i:Nat) (x:Str) (v:V),X.N[i]?=some x->σ[i]?=some (some v)->Vis X.env.scope x->∃ u,RelV v u/\Look X.env s.heap m x u
 cell:∀ x c,X.env.cells.lookup x=some c->∃ v,s.heap.IsCell c v
 free:H X.env.locals=none
 freeC:∀ x c,X.env.cells.lookup x=some c->H c=none
 pin:∀ p∈X.pn++pins,s.heap.get? p.1=some p.2/\H p.1=none/\p.1≠X.env.locals/\p.1∉X.fs/\∀ v,p.2.data≠.cell v
 hok:HOk X.prog X.w H s.heap
 len:σ.length=X.N.length
section
variable {X:Cx} {pins:List (Addr×Obj)} {σ:List (Option V)} {H H':Hp} {s:qa4} {h':Heap}
theorem Cx.Ok.nofr (ok:X.Ok) {b:Addr} {o:Obj} (e:X.base.get? b=some o):b∉X.fs:=fun hb=>by have:=(ok.funs.mem hb).1;rw [e] at this;cases this
theorem Inv.bs (I:Inv X pins σ H s):∀ b o,X.base.get? b=some o->s.heap.get? b=some o/\H b=none:=fun b o e =>⟨I.base.keep b o (I.ok.bs b o e).1 (I.ok.bs b o e).2 (I.ok.nofr e) (I.ok.noex b o e),I.base.free b o (I.ok.bs b o e).1 (I.ok.bs b o e).2 (I.ok.noex b o e)⟩
theorem Inv.bk (I:Inv X pins σ H s):∀ b o,X.base.get? b=some o->s.heap.get? b=some o:=fun b o e=>(I.bs b o e).1
theorem Inv.mod (I:Inv X pins σ H s):Mod X.K X.mg X.base:=I.ok.mod
theorem Inv.kIn (I:Inv X pins σ H s):X.K.In s.heap:=I.ok.mod.kin.keeps I.bk
theorem Inv.fr (I:Inv X pins σ H s):∃ m,Fr X.base X.env.locals s.heap m:=
 let ⟨m,hn,_⟩:=I.loc
 ⟨m,hn,I.bk,qc5 I.ok.bsz I.ok.above⟩
theorem Inv.lt (I:Inv X pins σ H s):X.env.locals<s.heap.objs.size:=let ⟨_,hn,_⟩:=I.loc;hn.lt
theorem Inv.sz (I:Inv X pins σ H s):X.s₀.heap.objs.size<=s.heap.objs.size:=qc5 I.ok.above (qn3 I.lt)
theorem Inv.nofs (I:Inv X pins σ H s) {a:Addr} (h:s.heap.objs.size<=a):a∉X.fs:=fun hb=>by obtain ⟨_,o,ho,_⟩:=I.ok.funs.mem hb;exact absurd (qb6 (qa8 ho) (qc5 I.sz h)) (qm3 _)
theorem Inv.cne (I:Inv X pins σ H s):∀ x c,X.env.cells.lookup x=some c->c≠X.env.locals:=fun x c e z=>by obtain ⟨v,o,ho,hd⟩:=I.cell x c e;obtain ⟨m,⟨o',es,ep,ho',hd',_⟩,_⟩:=I.loc;rw [z,ho'] at ho;cases ho;rw [hd'] at hd;cases hd
theorem Inv.funs (I:Inv X pins σ H s):s.heap.FunFrames X.base X.outer:=by
 have all:∀ (l:List Env),(∀ b∈frs l,b∈X.fs)->X.s₀.heap.FunFrames X.base l->s.heap.FunFrames X.base l:=by
  intro l;induction l with
  | nil=>intro _ _;trivial
  | cons env r ih =>
   intro hs hl;obtain ⟨hk,⟨L,o,hf,hn,ho,hd⟩,hr⟩:=hl;have hL:L∈X.fs:=hs L (by unfold frs;rw [qu0,hf];exact qf0);obtain ⟨sl,e⟩:=I.base.slot L o ho (I.ok.frf L hL) hL fun z=>I.ok.exfs L z hL
   exact ⟨hk,⟨L,_,hf,hn,e,hd⟩,ih (fun b hb=>hs b (by unfold frs;rw [qu0,hf];exact qe4 _ hb)) hr⟩
 exact all X.outer (fun _ hb=>hb) I.ok.funs
theorem Inv.stack (I:Inv X pins σ H s):s.heap.FunFrames X.base X.stack:=by
 rcases I.ok.stk with e | ⟨e,hf⟩
 . rw [e];exact I.funs
 . rw [e];obtain ⟨m,hn,_⟩:=I.loc;refine .cons (by rw [I.ok.kind];decide) hf hn ?_ I.funs;exact Heap.get?_none_of_le (qc5 I.ok.bsz I.ok.above)
theorem Inv.stkSub (I:Inv X pins σ H s):∀ b∈frs X.stack,b∈X.env.locals::X.fs:=fun b hb=>by
 rcases I.ok.stk with e | ⟨e,hf⟩
 . rw [e] at hb;exact qe4 _ hb
 . rw [e] at hb;unfold frs at hb;rw [qu0,hf] at hb;exact hb
theorem Inv.stkFree (I:Inv X pins σ H s):∀ b∈frs X.stack,H b=none:=fun b hb=>by
 rcases qa9.mp (I.stkSub b hb) with e | hb
 . rw [e];exact I.free
 . obtain ⟨_,o,ho,_⟩:=I.ok.funs.mem hb;exact I.base.free b o ho (I.ok.frf b hb) fun z=>I.ok.exfs b z hb
theorem Inv.step {g':Array GenState} {t':Nat} {d':Drawn} {ch:List Addr} (I:Inv X pins σ H s)
  (hch:∀ b∈ch,(b∈X.ex∨X.s₀.heap.objs.size<=b)/\b≠X.env.locals/\(∀ x c,X.env.cells.lookup x=some c->c≠b)/\∀ p∈X.pn++pins,p.1≠b)
  (keep:∀ b o,b≠X.env.locals->b∉X.fs->b∉ch->s.heap.get? b=some o->H b=none->h'.get? b=some o)
  (slot:∀ b o,b≠X.env.locals->b∈X.fs->b∉ch->s.heap.get? b=some o->H b=none->∃ sl,h'.get? b=some {o with slots:=sl}) (free:∀ b o,b∉ch->s.heap.get? b=some o->H b=none->H' b=none)
  (there:∀ b o,b∉ch->s.heap.get? b=some o->∃ o',h'.get? b=some o')
  (tups:∀ b xs,H b=some (.tup xs)->H' b=some (.tup xs)) (frzs:∀ b o u,H b=some (.frz o u)->H' b=some (.frz o u)) (tbls:∀ b ps,H b=some (.tbl ps)->∃ more,H' b=some (.tbl (ps++more))) (cts:∀ b qs,H b=some (.ctab qs)->H' b=some (.ctab qs))
  (ns:∀ m,s.heap.Ns X.env.locals m->h'.Ns X.env.locals m) (hok:HOk X.prog X.w H' h') (hg:zb3 g') :
  Inv X pins σ H' {s with heap:=h',gens:=g',drawn:=d',toks:=t'}:=by
 have neL:∀ b o,X.s₀.heap.get? b=some o->b≠X.env.locals:=fun b o e=>qc4 (qb6 (qa8 e) I.ok.above)
 have neC:∀ b o,X.s₀.heap.get? b=some o->b∉X.ex->b∉ch:=fun b o e hx hb=>by
  rcases (hch b hb).1 with z | z
  . exact hx z
  . exact absurd (qb6 (qa8 e) z) (qm3 _)
 have cellK:∀ x c,X.env.cells.lookup x=some c->∀ v,s.heap.IsCell c v->h'.IsCell c v:=fun x c e v ⟨o,ho,hd⟩=>by
  have nch:c∉ch:=fun z=>(hch c z).2.2.1 x c e rfl
  by_cases hc:c∈X.fs
  . obtain ⟨sl,q⟩:=slot c o (I.cne x c e) hc nch ho (I.freeC x c e);exact ⟨_,q,hd⟩
  . exact ⟨o,keep c o (I.cne x c e) hc nch ho (I.freeC x c e),hd⟩
 refine ⟨I.ok,I.os,hg,⟨fun b o e n hb hx=>?_,fun b o e n hb hx=>?_,fun b o e n hx=>?_,fun b o e hx=>?_,fun b xs e=>tups b xs (I.base.tups b xs e),fun b o xs e=>frzs b o xs (I.base.frzs b o xs e),fun b ps e=>?_,fun b qs e=>cts b qs (I.base.cts b qs e)⟩,?_,fun x c e=>?_,?_,fun x c e=>?_,fun p hp=>?_,hok,I.len⟩
 . exact keep b o (neL b o e) hb (neC b o e hx) (I.base.keep b o e n hb hx) (I.base.free b o e n hx)
 . obtain ⟨sl,e1⟩:=I.base.slot b o e n hb hx;obtain ⟨sl',e2⟩:=slot b _ (neL b o e) hb (neC b o e hx) e1 (I.base.free b o e n hx);exact ⟨sl',e2⟩
 . obtain ⟨o',e1⟩:=I.base.there b o e hx;exact free b o' (neC b o e hx) e1 (I.base.free b o e n hx)
 . obtain ⟨o',e1⟩:=I.base.there b o e hx;exact there b o' (neC b o e hx) e1
 . obtain ⟨m1,e1⟩:=I.base.tbls b ps e;obtain ⟨m2,e2⟩:=tbls b _ e1;exact ⟨m1++m2,by rw [e2,Array.append_assoc]⟩
 . obtain ⟨m,hn,hl⟩:=I.loc;refine ⟨m,ns m hn,fun i x v e1 e2 e3=>?_⟩;obtain ⟨u,r,l⟩:=hl i x v e1 e2 e3;refine ⟨u,r,?_⟩;rcases l with l | ⟨k,c,e,z⟩
   . exact .inl l
   . exact .inr ⟨k,c,e,cellK x c e _ z⟩
 . obtain ⟨v,z⟩:=I.cell x c e;exact ⟨v,cellK x c e v z⟩
 . obtain ⟨m,⟨o,_,_,ho,_⟩,_⟩:=I.loc;exact free _ o (fun z=>(hch _ z).2.1 rfl) ho I.free
 . obtain ⟨v,o,ho,hd⟩:=I.cell x c e;exact free c o (fun z=>(hch c z).2.2.1 x c e rfl) ho (I.freeC x c e)
 . obtain ⟨e,n,ne,nf,d⟩:=I.pin p hp;have nch:p.1∉ch:=fun z=>(hch p.1 z).2.2.2 p hp rfl
   exact ⟨keep p.1 p.2 ne nf nch e n,free p.1 p.2 nch e n,ne,nf,d⟩
theorem Inv.un {t':Nat} (I:Inv X pins σ H s) (u:Un X.fs [] H H' s.heap h') (hok:HOk X.prog X.w H' h'):Inv X pins σ H' {s with heap:=h',toks:=t'}:=by
 obtain ⟨m,⟨o,es,ep,ho,r⟩,_⟩:=id I.loc;obtain ⟨sl,hL⟩:=u.any ho I.free (by simp)
 exact I.step (g':=s.gens) (d':=s.drawn) (ch:=[]) (fun _ z=>nomatch z) (fun b o _ hb _ e n=>u.keep b o e n hb (by simp)) (fun b o _ hb _ e n=>u.slot b o e n hb (by simp)) (fun b o _ e n=>u.free b o e n (by simp)) (fun b o _ e=>u.there b o e (by simp)) u.tups u.frzs u.tbls u.cts (fun m' hm=>by
  obtain ⟨o',es',ep',ho',r'⟩:=hm;rw [ho] at ho';cases ho'
  exact ⟨_,es',ep',hL,r'⟩) hok I.bare
theorem Inv.call {g':Array GenState} {t':Nat} {d':Drawn} {ch:List Addr} (I:Inv X pins σ H s) (u:Un (frs X.stack) ch H H' s.heap h') (hok:HOk X.prog X.w H' h') (hg:zb3 g')
  (hch:∀ b∈ch,(b∈X.ex∨X.s₀.heap.objs.size<=b)/\b≠X.env.locals/\(∀ x c,X.env.cells.lookup x=some c->c≠b)/\∀ p∈X.pn++pins,p.1≠b) :
  Inv X pins σ H' {s with heap:=h',gens:=g',drawn:=d',toks:=t'}:=by
 obtain ⟨m,⟨o,es,ep,ho,r⟩,_⟩:=id I.loc;obtain ⟨sl,hL⟩:=u.any ho I.free fun z=>(hch _ z).2.1 rfl
 exact I.step (ch:=ch) hch (fun b o hL hb hc e n=>u.keep b o e n (fun z=>(qa9.mp (I.stkSub b z)).elim hL hb) hc) (fun b o _ _ hc e n=>u.any e n hc) (fun b o hc e n=>u.free b o e n hc) (fun b o hc e=>u.there b o e hc) u.tups u.frzs u.tbls u.cts (fun m' hm=>by
  obtain ⟨o',es',ep',ho',r'⟩:=hm;rw [ho] at ho';cases ho'
  exact ⟨_,es',ep',hL,r'⟩) hok hg
theorem Inv.turned {t':Nat} {it:Addr} (I:Inv X pins σ H s) (k:∀ b o,b≠it->s.heap.get? b=some o->h'.get? b=some o) (hn:H it=none) (hL:it≠X.env.locals)
  (h1:it∈X.ex∨X.s₀.heap.objs.size<=it) (h2:∀ x c,X.env.cells.lookup x=some c->c≠it) (h3:∀ p∈X.pn++pins,p.1≠it):Inv X pins σ H {s with heap:=h',toks:=t'}:=by
 have nit:∀ b u,H b=some u->b≠it:=fun b u e z=>by rw [z,hn] at e;cases e
 refine I.step (g':=s.gens) (d':=s.drawn) (ch:=[it]) (fun b hb=>?_) (fun b o _ _ hc e _=>k b o (fun z=>hc (by simp [z])) e) (fun b o _ _ hc e _=>⟨o.slots,k b o (fun z=>hc (by simp [z])) e⟩) (fun _ _ _ _ n=>n)
  (fun b o hc e=>⟨o,k b o (fun z=>hc (by simp [z])) e⟩) (fun _ _ e=>e) (fun _ _ _ e=>e) (fun b ps e=>⟨#[],by rw [e];simp⟩) (fun _ _ e=>e) (fun m hm=>?_) (fun b u e=>?_) I.bare
 . have e:b=it:=by simpa using hb
   subst e;exact ⟨h1,hL,h2,h3⟩
 . obtain ⟨o,es,ep,ho,r⟩:=hm;exact ⟨o,es,ep,k _ o (qk6 hL) ho,r⟩
 . refine (I.hok b u e).stay (fun c v hc q=>k c v ?_ q) (fun _ q=>q) (fun _ _ q=>q) fun _ _ _ q=>q
   rcases hc with z | z
   . rw [z];exact nit b u e
   . exact nit c _ z
theorem Inv.tok (I:Inv X pins σ H s) (t:Nat):Inv X pins σ H {s with toks:=t}:=I.un (h':=s.heap) (t':=t) Un.refl I.hok
theorem Inv.kept {t':Nat} (I:Inv X pins σ H s) (k:∀ b u,s.heap.get? b=some u->h'.get? b=some u):Inv X pins σ H {s with heap:=h',toks:=t'}:=I.un (Un.kept k) (I.hok.kept k)
theorem Inv.laid {a:Addr} {o:HO} {t':Nat} (I:Inv X pins σ H s) (k:∀ b u,s.heap.get? b=some u->h'.get? b=some u) (hp:s.heap.objs.size<=a) (new:ObjOk X.prog X.w (upd H a o) h' a o) :
  Inv X pins σ (upd H a o) {s with heap:=h',toks:=t'}:=I.un (Un.laid k hp (I.hok.fresh hp)) (I.hok.laid k hp new)
theorem Inv.write {x e:Addr} {o:HO} {t':Nat} (I:Inv X pins σ H s) (mu:Mut (H x)) (he:e=x∨H e=some (.own x)) (k:∀ b u,b≠e->s.heap.get? b=some u->h'.get? b=some u) (heo:∃ u,h'.get? e=some u) (new:ObjOk X.prog X.w (upd H x o) h' x o):Inv X pins σ (upd H x o) {s with heap:=h',toks:=t'}:=I.un (Un.write mu he k heo) (I.hok.write mu he k heo new)
theorem Inv.weak {σ':List (Option V)} (I:Inv X pins σ H s) (hl:σ'.length=σ.length) (w:∀ (i:Nat) v,σ'[i]?=some (some v)->σ[i]?=some (some v)):Inv X pins σ' H s:=⟨I.ok,I.os,I.bare,I.base,let ⟨m,hn,hl'⟩:=I.loc;⟨m,hn,fun i x v e1 e2 e3=>hl' i x v e1 (w i v e2) e3⟩,I.cell,I.free,I.freeC,I.pin,I.hok,hl.trans I.len⟩
theorem Inv.pins_of {pins':List (Addr×Obj)} (I:Inv X pins σ H s) (h:∀ p∈pins',s.heap.get? p.1=some p.2/\H p.1=none/\p.1≠X.env.locals/\p.1∉X.fs/\∀ v,p.2.data≠.cell v):Inv X pins' σ H s:=⟨I.ok,I.os,I.bare,I.base,I.loc,I.cell,I.free,I.freeC,fun p hp=>(qj4.mp hp).elim (fun z=>I.pin p (qt4 _ z)) (h p),I.hok,I.len⟩
theorem lB {N:List Str} (hN:N.Nodup) {i j:Nat} {x:Str} (a:N[i]?=some x) (b:N[j]?=some x):i=j:=by obtain ⟨h1,e1⟩:=gX a;obtain ⟨h2,e2⟩:=gX b;exact (List.getElem_inj hN).mp (e1.trans e2.symm)
theorem jy {M:Model} {A:qd2} {E:Value->qa4->Prop} {i:Nat} {x:Str} {v:V} {u:Value} {Q:Unit->qa4->Prop} (I:Inv X pins σ H s) (hN:X.N.Nodup) (hi:X.N[i]?=some x) (hx:Loc X.env.scope x) (r:RelV v u)
  (h:∀ s',Inv X pins (σ.set i (some v)) H s'->(∃ a,qm2 a s.heap s'.heap/\(a=X.env.locals∨X.env.cells.lookup x=some a))->Q () s') (hf:X.fn x=true∨X.env.scope.names.lookup x=some .local:=by first | exact .inl rfl | exact .inr rfl | assumption):wpAny M A (storeName X.env x u) Q E s:=by
 obtain ⟨m,hn,hl⟩:=id I.loc;have hcls:(X.env.scope.kind==.class||(X.env.scope.kind==.module&&X.env.locals != X.env.globals))=false:=by rw [I.ok.kind];rfl
 have hiσ:i<σ.length:=by rw [I.len];exact (gX hi).1
 have cne:=I.cne
 have tracked:∀ {a:Addr} {h':Heap},(∃ o,s.heap.get? a=some o/\H a=none)->qm2 a s.heap h'->HOk X.prog X.w H h':=fun {a h'} ha hs b ob e=>by
  obtain ⟨_,_,hfree⟩:=ha;refine (I.hok b ob e).stay (fun c w' hc q=>(hs.2 c ?_).trans q) (fun _ q=>q) (fun _ _ q=>q) fun _ _ _ q=>q
  rintro rfl;rcases hc with rfl | hc
  . rw [hfree] at e;cases e
  . rw [hfree] at hc;cases hc
 rcases hx with hk | hk
 . refine wpAny_storeName_local hk hn (fun h' hn' hs=>?_) hcls;obtain ⟨oL,_,_,hoL,_⟩:=id hn;refine h _ ⟨I.ok,I.os,I.bare,⟨fun b o e n hb hx=>?_,fun b o e n hb hx=>?_,I.base.free,fun b o e hx=>?_,I.base.tups,I.base.frzs,I.base.tbls,I.base.cts⟩,⟨_,hn',fun j y v' e1 e2 e3=>?_⟩,fun y c e=>?_,I.free,I.freeC,fun p hp=>?_,tracked ⟨oL,hoL,I.free⟩ hs,by simpa using I.len⟩ ⟨_,hs,.inl rfl⟩
   . exact (hs.2 b (qc4 (qb6 (qa8 e) I.ok.above))).trans (I.base.keep b o e n hb hx)
   . obtain ⟨sl,e1⟩:=I.base.slot b o e n hb hx;exact ⟨sl,(hs.2 b (qc4 (qb6 (qa8 e) I.ok.above))).trans e1⟩
   . obtain ⟨o',e1⟩:=I.base.there b o e hx;exact ⟨o',(hs.2 b (qc4 (qb6 (qa8 e) I.ok.above))).trans e1⟩
   . by_cases hj:j=i
     . subst hj;rw [hi] at e1;cases e1
       rw [qd1 hiσ] at e2;cases e2;exact ⟨u,r,.inl ⟨hk,by simp⟩⟩
     . rw [gN (qk6 hj)] at e2;obtain ⟨u',r',q⟩:=hl j y v' e1 e2 e3;refine ⟨u',r',?_⟩;rcases q with ⟨k,e⟩ | ⟨k,c,e,z⟩
       . refine .inl ⟨k,?_⟩;have:y≠x:=fun e=>hj (lB hN e1 (e▸hi))
         simp [this,e]
       . exact .inr ⟨k,c,e,z.sameBut hs (cne y c e)⟩
   . obtain ⟨w',z⟩:=I.cell y c e;exact ⟨w',z.sameBut hs (cne y c e)⟩
   . obtain ⟨e,n,ne,nf,d⟩:=I.pin p hp;exact ⟨(hs.2 p.1 ne).trans e,n,ne,nf,d⟩
 . have hfn:X.fn x=true:=by
    rcases hf with z | z
    . exact z
    . rw [z] at hk;cases hk
   obtain ⟨c,hc⟩:=I.ok.has x (.inl hk);obtain ⟨w',z⟩:=I.cell x c hc;refine wpAny_storeName_cell I.ok.kind hk hc z (fun h' hc' hs=>?_);obtain ⟨oc,hoc,hocd⟩:=id z;refine h {s with heap:=h'} ⟨I.ok,I.os,I.bare,⟨fun b o e n hb hx=>?_,fun b o e n hb hx=>?_,I.base.free,fun b o e hx=>?_,I.base.tups,I.base.frzs,I.base.tbls,I.base.cts⟩,⟨m,hn.sameBut hs (qk6 (cne x c hc)),fun j y v' e1 e2 e3=>?_⟩,fun y c' e=>?_,I.free,I.freeC,fun p hp=>?_,tracked ⟨oc,hoc,I.freeC x c hc⟩ hs,by simpa using I.len⟩ ⟨c,hs,.inr hc⟩
   . exact (hs.2 b (qc4 (qb6 (qa8 e) (I.ok.cab x c hfn hc)))).trans (I.base.keep b o e n hb hx)
   . obtain ⟨sl,e1⟩:=I.base.slot b o e n hb hx;exact ⟨sl,(hs.2 b (qc4 (qb6 (qa8 e) (I.ok.cab x c hfn hc)))).trans e1⟩
   . obtain ⟨o',e1⟩:=I.base.there b o e hx;exact ⟨o',(hs.2 b (qc4 (qb6 (qa8 e) (I.ok.cab x c hfn hc)))).trans e1⟩
   . by_cases hj:j=i
     . subst hj;rw [hi] at e1;cases e1
       rw [qd1 hiσ] at e2;cases e2;exact ⟨u,r,.inr ⟨.inl hk,c,hc,hc'⟩⟩
     . rw [gN (qk6 hj)] at e2;obtain ⟨u',r',q⟩:=hl j y v' e1 e2 e3;refine ⟨u',r',?_⟩;rcases q with q | ⟨k,c',e,z'⟩
       . exact .inl q
       . refine .inr ⟨k,c',e,z'.sameBut hs ?_⟩;rintro rfl;exact hj (lB hN e1 (I.ok.inj _ _ _ e hc▸hi))
   . by_cases hcc:c'=c
     . subst hcc;exact ⟨_,hc'⟩
     . obtain ⟨w2,z2⟩:=I.cell y c' e;exact ⟨w2,z2.sameBut hs hcc⟩
   . obtain ⟨e,n,ne,nf,d⟩:=I.pin p hp;refine ⟨(hs.2 p.1 ?_).trans e,n,ne,nf,d⟩;intro q;rw [q,hoc] at e;have q':oc=p.2:=qe1 e;exact d w' (by rw [<- q'];exact hocd)
theorem lC {M:Model} {A:qd2} {E:Value->qa4->Prop} {i:Nat} {x:Str} {v:V} {u:Value} {Q:Unit->qa4->Prop} (I:Inv X pins σ H s) (hN:X.N.Nodup) (hi:X.N[i]?=some x) (hx:Loc X.env.scope x) (r:RelV v u)
  (h:∀ s',Inv X pins (σ.set i (some v)) H s'->Q () s') (hf:X.fn x=true∨X.env.scope.names.lookup x=some .local:=by first | exact .inl rfl | exact .inr rfl | assumption):wpAny M A (storeName X.env x u) Q E s:=
 jy I hN hi hx r (fun s' I' _=>h s' I') hf
theorem Inv.call' {s':qa4} {ch:List Addr} (I:Inv X pins σ H s) (ho:s'.os=s.os) (u:Un (frs X.stack) ch H H' s.heap s'.heap) (hok:HOk X.prog X.w H' s'.heap) (hg:zb3 s'.gens)
  (hch:∀ b∈ch,(b∈X.ex∨X.s₀.heap.objs.size<=b)/\b≠X.env.locals/\(∀ x c,X.env.cells.lookup x=some c->c≠b)/\∀ p∈X.pn++pins,p.1≠b):Inv X pins σ H' s':=by
 obtain ⟨h',g',d',t',o'⟩:=s';have e:o'=s.os:=ho;subst e;exact I.call (g':=g') (t':=t') (d':=d') u hok hg hch
end
abbrev XK:=Value->Option Addr->Hp->Prop
abbrev St:=List (Option V)
abbrev VK:=V->Hp->Prop
abbrev TE:=St->Hp->VK->Prop
abbrev TT:=St->Hp->(Bool->Hp->Prop)->Prop
abbrev TA:=St->Hp->(List V->Hp->Prop)->Prop
structure Ends where
 nx:St->Hp->Prop
 rt:VK
 bk:St->Hp->Prop:=fun _ _=>False
 ct:St->Hp->Prop:=fun _ _=>False
abbrev TS:=Ends->St->Hp->Prop
noncomputable def EP (X:Cx) (pins:List (Addr×Obj)) (σ:St) (Q:VK) (u:Value) (s':qa4):Prop:=∃ v H',Inv X pins σ H' s'/\RelV v u/\Q v H'
noncomputable def TP (X:Cx) (pins:List (Addr×Obj)) (σ:St) (Q:Bool->Hp->Prop) (b:Bool) (s':qa4):Prop:=∃ H',Inv X pins σ H' s'/\Q b H'
noncomputable def AP (X:Cx) (pins:List (Addr×Obj)) (σ:St) (Q:List V->Hp->Prop) (us:List Value) (s':qa4):Prop:=∃ vs H',Inv X pins σ H' s'/\Vals vs us/\Q vs H'
noncomputable def SP (X:Cx) (pins:List (Addr×Obj)) (D:Ends) (f:Flow) (s':qa4):Prop:=
 match f with
 | .next=>∃ σ' H',Inv X pins σ' H' s'/\D.nx σ' H'
 | .brk=>∃ σ' H',Inv X pins σ' H' s'/\D.bk σ' H'
 | .cont=>∃ σ' H',Inv X pins σ' H' s'/\D.ct σ' H'
 | .ret u=>∃ v σ' H',Inv X pins σ' H' s'/\RelV v u/\D.rt v H'
noncomputable def PE (X:Cx) (e:Expr) (t:TE):Prop:=∀ (pins:List (Addr×Obj)) (s:qa4) (σ:St) (H:Hp) (Q:VK),Inv X pins σ H s->t σ H Q->wpAny (model X.prog X.w) X.A (eval e X.env) (EP X pins σ Q) X.xe s
noncomputable def PT (X:Cx) (e:Expr) (t:TT):Prop:=∀ (pins:List (Addr×Obj)) (s:qa4) (σ:St) (H:Hp) (Q:Bool->Hp->Prop),Inv X pins σ H s->t σ H Q->wpAny (model X.prog X.w) X.A (isTrue e X.env (eval e X.env)) (TP X pins σ Q) X.xe s
noncomputable def PW (X:Cx) (e:Expr) (t:TT):Prop:=∀ (whole:Sem Value) (pins:List (Addr×Obj)) (s:qa4) (σ:St) (H:Hp) (Q:Bool->Hp->Prop),Inv X pins σ H s->t σ H Q->wpAny (model X.prog X.w) X.A (isTrue e X.env whole) (TP X pins σ Q) X.xe s
theorem PW.pt {X:Cx} {e:Expr} {t:TT} (h:PW X e t):PT X e t:=h _
noncomputable def PA (X:Cx) (es:List Expr) (t:TA):Prop:=∀ (pos:Pos) (pins:List (Addr×Obj)) (s:qa4) (σ:St) (H:Hp) (Q:List V->Hp->Prop),Inv X pins σ H s->t σ H Q->wpAny (model X.prog X.w) X.A (spliced (qk1 pos (qa6 es X.env))) (AP X pins σ Q) X.xe s
noncomputable def PS (X:Cx) (st:Stmt) (t:TS):Prop:=∀ (pins:List (Addr×Obj)) (s:qa4) (σ:St) (H:Hp) (D:Ends),Inv X pins σ H s->t D σ H->wpAny (model X.prog X.w) X.A (exec st X.env) (SP X pins D) X.xe s
noncomputable def PSs (X:Cx) (st:List Stmt) (t:TS):Prop:=∀ (pins:List (Addr×Obj)) (s:qa4) (σ:St) (H:Hp) (D:Ends),Inv X pins σ H s->t D σ H->wpAny (model X.prog X.w) X.A (execs st X.env) (SP X pins D) X.xe s
theorem thn {α:Type} {t:Sem α} {Q Q':α->qa4->Prop} {M:Model} {A:qd2} {E:Value->qa4->Prop} {s:qa4} (h:wpAny M A t Q E s) (hQ:∀ a s,Q a s->Q' a s):wpAny M A t Q' E s:=qk3 h hQ fun _ _ x=>x
section
variable {X:Cx}
theorem bin {a b:Expr} {ta tb:TE} (ha:PE X a ta) (hb:PE X b tb) {pins:List (Addr×Obj)} {s:qa4} {σ:St} {H:Hp} {R:V->V->Hp->Prop} (I:Inv X pins σ H s) (h:ta σ H fun x H1=>tb σ H1 fun y H2=>R x y H2)
  {α:Type} {Q:α->qa4->Prop} {f:Value->Value->Sem α}
  (hf:∀ v u s2 x y H2,Inv X pins σ H2 s2->RelV x v->RelV y u->R x y H2->wpAny (model X.prog X.w) X.A (f v u) Q X.xe s2) :
  wpAny (model X.prog X.w) X.A (eval a X.env) (fun v s₁=>wpAny (model X.prog X.w) X.A (eval b X.env) (fun u s₂=>wpAny (model X.prog X.w) X.A (f v u) Q X.xe s₂) X.xe s₁) X.xe s:=by
 refine thn (ha pins s σ H _ I h) fun v s1 ⟨x,H1,I1,r1,q1⟩=>?_
 refine thn (hb pins s1 σ H1 _ I1 q1) fun u s2 ⟨y,H2,I2,r2,q2⟩=>?_
 exact hf v u s2 x y H2 I2 r1 r2 q2
noncomputable def jn (i:Nat):TE:=fun σ H Q=>∃ v,σ[i]?=some (some v)/\Q v H
noncomputable def tC (v:V):TE:=fun _ H Q=>Q v H
theorem xk {i:Nat} {x:Str} {pos:Pos} (hN:X.N[i]?=some x) (hv:Vis X.env.scope x) (hd:(x==("__debug__":Str))=false:=by decide) (hcd:(x==("__classdict__":Str))=false:=by decide):PE X (.Name x pos) (jn i):=by
 intro pins s σ H Q I h;obtain ⟨v,e,h⟩:=h;obtain ⟨m,hn,hl⟩:=I.loc;obtain ⟨u,r,l⟩:=hl i x v hN e hv;have fin:EP X pins σ Q u s:=⟨v,H,I,r,h⟩;rcases l with ⟨hk,hm⟩ | ⟨hk,c,hc,hcell⟩
 . exact wpAny_Name (wpAny_loadName_local I.ok.kind hk hn hm fin) hd
 . rcases hk with hk | hk
   . exact wpAny_Name (wpAny_loadName_cell I.ok.kind hk hc hcell fin) hd
   . exact wpAny_Name (wpAny_loadName_free I.ok.kind hk hc hcell fin hcd) hd
theorem xl {i j pos}:PE X (.Constant (.int i) j pos) (tC (.int i)):=fun _ _ _ H _ I h=>wpAny_Constant_int ⟨.int i,H,I.tok _,⟨_,rfl⟩,h⟩
theorem zx {b j pos}:PE X (.Constant (.bool b) j pos) (tC (.bl b)):=fun _ _ _ H _ I h=>Constant_bool ⟨.bl b,H,I,rfl,h⟩
theorem xm {j pos}:PE X (.Constant .none j pos) (tC .non):=fun _ _ _ H _ I h=>Constant_none ⟨.non,H,I,rfl,h⟩
theorem xo {x j pos}:PE X (.Constant (.str x) j pos) (tC (.str x)):=fun _ _ _ H _ I h=>Calls.Constant_str ⟨.str x,H,I.tok _,⟨_,rfl⟩,h⟩
noncomputable def Gl (X:Cx) (x:Str):Prop:=X.env.kindOf x=some .globalImplicit
theorem ou {E:Value->qa4->Prop} {pins:List (Addr×Obj)} {s:qa4} {σ:St} {H:Hp} {x:Str} {u:Value} {pos:Pos} {Q:Value->qa4->Prop} (I:Inv X pins σ H s) (hg:Gl X x) (hm:X.mg x=some u) (h:Q u s)
  (hd:(x==("__debug__":Str))=false:=by decide):wpAny (model X.prog X.w) X.A (eval (.Name x pos) X.env) Q E s:=
 qv2 I.ok.kind hg (Calls.loadGlobal_global (by rw [I.ok.glob];exact I.mod.glob.keeps I.bk) hm h) hd
theorem fH {E:Value->qa4->Prop} {pins:List (Addr×Obj)} {s:qa4} {σ:St} {H:Hp} {x:Str} {u:Value} {pos:Pos} {Q:Value->qa4->Prop} (I:Inv X pins σ H s) (hg:Gl X x) (hm:X.mg x=none) (hv:qd7 x=some u) (h:Q u s)
  (hn:x≠"__name__":=by decide) (hd:(x==("__debug__":Str))=false:=by decide):wpAny (model X.prog X.w) X.A (eval (.Name x pos) X.env) Q E s:=by
 obtain ⟨mb,h1,h2⟩:=I.mod.blt;exact qv2 I.ok.kind hg (Calls.loadGlobal_builtin (by rw [I.ok.glob];exact I.mod.glob.keeps I.bk) hm (by rw [I.ok.blt];exact h1.keeps I.bk) ((h2 x hn).trans hv) h) hd
theorem ur {x:Str} {v:V} {u:Value} {pos:Pos} (hg:Gl X x) (hm:X.mg x=some u) (r:RelV v u) (hd:(x==("__debug__":Str))=false:=by decide):PE X (.Name x pos) (tC v):=fun _ _ _ H _ I h=>ou I hg hm ⟨v,H,I,r,h⟩ hd
theorem ut {x:Str} {v:V} {u:Value} {pos:Pos} (hg:Gl X x) (hm:X.mg x=none) (hv:qd7 x=some u) (r:RelV v u) (hn:x≠"__name__":=by decide) (hd:(x==("__debug__":Str))=false:=by decide):PE X (.Name x pos) (tC v):=fun _ _ _ H _ I h=>fH I hg hm hv ⟨v,H,I,r,h⟩ hn hd
variable {a b:Expr} {ta tb:TE} {pos:Pos}
noncomputable def PC (X:Cx) (op:CmpOp) (a b:Expr) (t:TE):Prop:=
 ∀ (pins:List (Addr×Obj)) (s:qa4) (σ:St) (H:Hp) (Q:VK),Inv X pins σ H s->t σ H Q→
  wpAny (model X.prog X.w) X.A (eval a X.env) (fun v s₁=>wpAny (model X.prog X.w) X.A (eval b X.env) (fun u s₂=>wpAny (model X.prog X.w) X.A (qg7 op v u) (EP X pins σ Q) X.xe s₂) X.xe s₁) X.xe s
noncomputable def tB (t:TE):TT:=fun σ H Q=>t σ H fun x H1=>∃ c,x=.bl c/\Q c H1
theorem m6 {op:CmpOp} {t:TE} (h:PC X op a b t) (h1:qj0 op b=false:=by first | exact nobehind _ (by decide) (by decide) | rfl):PT X (.Compare a [op] [b] pos) (tB t):=by intro pins s σ H Q I hw;refine zb4 (thn (h pins s σ H _ I hw) fun v s1 h1=>thn h1 fun u s2 h2=>thn h2 fun c s3 ⟨x,H1,I1,r1,q1⟩=>?_) h1;obtain ⟨d,rfl,q⟩:=q1;cases r1;exact qr2 ⟨H1,I1,q⟩
variable {tA tB':TT} {rest:List Expr}
noncomputable def tAnd (t u:TT):TT:=fun σ H Q=>t σ H fun c H1=>if c=true then u σ H1 Q else Q false H1
noncomputable def tOr (t u:TT):TT:=fun σ H Q=>t σ H fun c H1=>if c=true then Q true H1 else u σ H1 Q
noncomputable def tNot (t:TT):TT:=fun σ H Q=>t σ H fun c H1=>Q (!c) H1
theorem uu (ha:PT X a tA):PW X (.BoolOp .And [a] pos) tA:=by
 intro wh pins s σ H Q I h;refine isTrue_and (thn (ha pins s σ H Q I h) fun c s1 e=>?_);cases c with
 | true=>exact isTrue_and_nil e
 | false=>exact e
theorem xp (ha:PT X a tA):PW X (.BoolOp .Or [a] pos) tA:=by
 intro wh pins s σ H Q I h;refine isTrue_or (thn (ha pins s σ H Q I h) fun c s1 e=>?_);cases c with
 | false=>exact isTrue_or_nil e
 | true=>exact e
theorem xq (ha:PT X a tA) (hb:PW X (.BoolOp .And (b::rest) pos) tB'):PW X (.BoolOp .And (a::b::rest) pos) (tAnd tA tB'):=by
 intro wh pins s σ H Q I h;refine isTrue_and (thn (ha pins s σ H _ I h) fun c s1 ⟨H1,I1,q1⟩=>?_);cases c with
 | true=>exact hb wh pins s1 σ H1 Q I1 q1
 | false=>exact ⟨H1,I1,q1⟩
theorem zy (ha:PT X a tA) (hb:PW X (.BoolOp .Or (b::rest) pos) tB'):PW X (.BoolOp .Or (a::b::rest) pos) (tOr tA tB'):=by
 intro wh pins s σ H Q I h;refine isTrue_or (thn (ha pins s σ H _ I h) fun c s1 ⟨H1,I1,q1⟩=>?_);cases c with
 | true=>exact ⟨H1,I1,q1⟩
 | false=>exact hb wh pins s1 σ H1 Q I1 q1
theorem xr (ha:PT X a tA):PT X (.UnaryOp .Not a pos) (tNot tA):=by intro pins s σ H Q I h;exact isTrue_not (ha pins s σ H (fun c H1=>Q (!c) H1) I h)
noncomputable def tIf (t:TT) (ta tb:TE):TE:=fun σ H Q=>t σ H fun c H1=>if c=true then ta σ H1 Q else tb σ H1 Q
theorem qU {c:Expr} (hc:PT X c tA) (ha:PE X a ta) (hb:PE X b tb):PE X (.IfExp c a b pos) (tIf tA ta tb):=by
 intro pins s σ H Q I h;refine wpAny_IfExp (thn (hc pins s σ H _ I h) fun d s1 ⟨H1,I1,q1⟩=>?_);cases d with
 | true=>exact ha pins s1 σ H1 Q I1 q1
 | false=>exact hb pins s1 σ H1 Q I1 q1
end
noncomputable def SqL (K:PySem.W.Frag) (H:Hp) (a:Addr) (xs:List V):Prop:=Rd H a (.lst xs)∨∃ (o:Obj) (its:Array Value) (n:Nat),K.lookup a=some o/\o.cls=.type "list"/\o.dict=none/\o.data=.seq its n/\its.size<=qa7/\Vals xs its.toList
noncomputable def SqT (K:PySem.W.Frag) (H:Hp) (a:Addr) (xs:List V):Prop:=H a=some (.tup xs)∨∃ (o:Obj) (its:Array Value) (n:Nat),K.lookup a=some o/\o.cls=.type "tuple"/\o.data=.seq its n/\its.size<=qa7/\Vals xs its.toList
noncomputable def absV:Value->Option V
 | .none=>some .non
 | .bool b=>some (.bl b)
 | .int i _=>some (.int i)
 | .str x _=>some (.str x)
 | .bytes b _=>some (.byt b)
 | .float b _=>some (.flt b)
 | .ref a=>some (.ref a)
 | .type n=>some (.ty n)
 | _=>none
theorem RelV.abs {x:V} {u:Value} (r:RelV x u):absV u=some x:=by
 cases x with
 | non=>cases r;rfl
 | bl _=>cases r;rfl
 | int _=>obtain ⟨t,rfl⟩:=r;rfl
 | str _=>obtain ⟨t,rfl⟩:=r;rfl
 | byt _=>obtain ⟨t,rfl⟩:=r;rfl
 | flt _=>obtain ⟨t,rfl⟩:=r;rfl
 | ref _=>cases r;rfl
 | ty _=>cases r;rfl
theorem RelV.inj {x y:V} {u:Value} (r:RelV x u) (q:RelV y u):x=y:=qe1 (r.abs.symm.trans q.abs)
theorem Vals.inj:∀ {xs ys:List V} {us:List Value},Vals xs us->Vals ys us->xs=ys
 | _,_,_,.nil,.nil=>rfl
 | _,_,_,.cons r t,.cons r' t'=>by rw [r.inj r',Vals.inj t t']
section
variable {X:Cx} {pins:List (Addr×Obj)} {σ:St} {H:Hp} {s:qa4} {a:Addr} {xs ys:List V}
theorem SqL.of {K:PySem.W.Frag} (h:H a=some (.lst xs)):SqL K H a xs:=.inl (.inl h)
theorem SqT.of {K:PySem.W.Frag} (h:H a=some (.tup xs)):SqT K H a xs:=.inl h
theorem Inv.list (I:Inv X pins σ H s) (h:SqL X.K H a xs):∃ its:List Value,Vals xs its/\PlainL s.heap a its.toArray/\xs.length<=qa7:=by
 rcases h with h | ⟨o,its,n,hk,hc,hd,hs,hz,r⟩
 . obtain ⟨z,its,n,r,e⟩:=h.ok I.hok;exact ⟨its,r,⟨_,n,e,rfl,rfl,rfl⟩,z⟩
 . refine ⟨its.toList,r,⟨o,n,I.kIn a o hk,hc,hd,by simpa using hs⟩,?_⟩;have e:=r.length;simp only [qe2] at e;lia
theorem Inv.tuple (I:Inv X pins σ H s) (h:SqT X.K H a xs):∃ its:List Value,Vals xs its/\IsTup s.heap a its.toArray/\xs.length<=qa7:=by
 rcases h with h | ⟨o,its,n,hk,hc,hs,hz,r⟩
 . obtain ⟨z,its,r,p⟩:=(Rd.of h).ok I.hok;exact ⟨its,r,p,z⟩
 . refine ⟨its.toList,r,⟨o,I.kIn a o hk,hc,n,by simpa using hs⟩,?_⟩;have e:=r.length;simp only [qe2] at e;lia
theorem Inv.list_inj (I:Inv X pins σ H s) (h:SqL X.K H a xs) (h':SqL X.K H a ys):xs=ys:=by
 obtain ⟨its,r,⟨o,n,e,_,_,d⟩,_⟩:=I.list h;obtain ⟨its',r',⟨o',n',e',_,_,d'⟩,_⟩:=I.list h';rw [e] at e';cases e'
 rw [d] at d';injection d' with d1 _;have:its=its':=by simpa using congrArg zg3 d1
 subst this;exact r.inj r'
theorem Inv.tuple_inj (I:Inv X pins σ H s) (h:SqT X.K H a xs) (h':SqT X.K H a ys):xs=ys:=by
 obtain ⟨its,r,⟨o,e,_,n,d⟩,_⟩:=I.tuple h;obtain ⟨its',r',⟨o',e',_,n',d'⟩,_⟩:=I.tuple h';rw [e] at e';cases e'
 rw [d] at d';injection d' with d1 _;have:its=its':=by simpa using congrArg zg3 d1
 subst this;exact r.inj r'
end
abbrev Cx.wish (X:Cx) (E:Value->qa4->Prop):Cx:={X with xe:=E}
abbrev Cx.nox (X:Cx):Cx:=X.wish fun _ _=>False
theorem Cx.Ok.wish {X:Cx} (ok:X.Ok) (E:Value->qa4->Prop):(X.wish E).Ok:=⟨ok.mod,ok.kind,ok.glob,ok.blt,ok.above,ok.inj,ok.has,ok.cab,ok.hd,ok.frames,ok.stk,ok.exf,ok.bs,ok.bsz,ok.noex,ok.exfs,ok.funs,ok.frf,ok.tb⟩
theorem Cx.Ok.unwish {X:Cx} {E:Value->qa4->Prop} (ok:(X.wish E).Ok):X.Ok:=⟨ok.mod,ok.kind,ok.glob,ok.blt,ok.above,ok.inj,ok.has,ok.cab,ok.hd,ok.frames,ok.stk,ok.exf,ok.bs,ok.bsz,ok.noex,ok.exfs,ok.funs,ok.frf,ok.tb⟩
section
variable {X:Cx} {pins:List (Addr×Obj)} {σ:St} {H:Hp} {s:qa4} {E:Value->qa4->Prop}
theorem Inv.wish (I:Inv X pins σ H s) (E:Value->qa4->Prop):Inv (X.wish E) pins σ H s:=⟨I.ok.wish E,I.os,I.bare,I.base,I.loc,I.cell,I.free,I.freeC,I.pin,I.hok,I.len⟩
theorem Inv.unwish (I:Inv (X.wish E) pins σ H s):Inv X pins σ H s:=⟨I.ok.unwish,I.os,I.bare,I.base,I.loc,I.cell,I.free,I.freeC,I.pin,I.hok,I.len⟩
theorem SP.unwish {D:Ends} {f:Flow} {s':qa4} (h:SP (X.wish E) pins D f s'):SP X pins D f s':=by
 cases f with
 | next=>obtain ⟨σ',H',I,q⟩:=h;exact ⟨σ',H',I.unwish,q⟩
 | brk=>obtain ⟨σ',H',I,q⟩:=h;exact ⟨σ',H',I.unwish,q⟩
 | cont=>obtain ⟨σ',H',I,q⟩:=h;exact ⟨σ',H',I.unwish,q⟩
 | ret u=>obtain ⟨v,σ',H',I,r,q⟩:=h;exact ⟨v,σ',H',I.unwish,r,q⟩
theorem PSs.nox {st:List Stmt} {t:TS} (h:PSs X.nox st t):PSs X st t:=fun pins s σ H D I hw =>qk3 (h pins s σ H D (I.wish _) hw) (fun _ _ q=>q.unwish) fun _ _ z=>ql3 z
end
section
variable {X:Cx} {st:Stmt} {rest:List Stmt} {t u:TS} {e:Expr} {te:TE} {pos:Pos}
noncomputable def zz:TS:=fun D σ H=>D.nx σ H
noncomputable def tSeq (t u:TS):TS:=fun D σ H=>t {D with nx:=u D} σ H
theorem ox:PSs X [] zz:=fun _ _ σ H _ I h=>qu1 ⟨σ,H,I,h⟩
theorem lD (h1:PS X st t) (h2:PSs X rest u):PSs X (st::rest) (tSeq t u):=by
 intro pins s σ H D I h;refine wpAny_execs_cons (thn (h1 pins s σ H {D with nx:=u D} I h) fun f s1 q=>?_);cases f with
 | next =>obtain ⟨σ',H',I',q⟩:=q;exact h2 pins s1 σ' H' D I' q
 | ret v=>exact q
 | brk=>exact q
 | cont=>exact q
theorem oy (h1:PS X st t):PSs X [st] t:=by
 intro pins s σ H D I h;refine wpAny_execs_cons (thn (h1 pins s σ H D I h) fun f s1 q=>?_);cases f with
 | next=>exact qu1 q
 | ret v=>exact q
 | brk=>exact q
 | cont=>exact q
theorem Inv.quiet {pins:List (Addr×Obj)} {σ:St} {H:Hp} {s:qa4} (I:Inv X pins σ H s):interactive X.env=false:=by simp [interactive,I.ok.kind]
noncomputable def zA (te:TE):TS:=fun D σ H=>te σ H fun _ H1=>D.nx σ H1
theorem kx (he:PE X e te) (hs:qm6 e none pos.line X.env=pure false:=by rfl):PS X (.Expr e pos) (zA te):=by intro pins s σ H D I h;exact wpAny_Expr_any (thn (he pins s σ H _ I h) fun v s1 ⟨x,H1,I1,r1,q1⟩=>⟨σ,H1,I1,q1⟩) I.quiet hs
noncomputable def tRet (te:TE):TS:=fun D σ H=>te σ H D.rt
theorem m7 (he:PE X e te):PS X (.Return (some e) pos) (tRet te):=by intro pins s σ H D I h;exact wpAny_Return_some (thn (he pins s σ H _ I h) fun v s1 ⟨x,H1,I1,r1,q1⟩=>⟨x,σ,H1,I1,r1,q1⟩)
noncomputable def tIfS (c:TT) (t u:TS):TS:=fun D σ H=>c σ H fun b H1=>if b=true then t D σ H1 else u D σ H1
theorem we {c:Expr} {a b:List Stmt} {tc:TT} (hc:PT X c tc) (ha:PSs X a t) (hb:PSs X b u):PS X (.If c a b pos) (tIfS tc t u):=by
 intro pins s σ H D I h;refine wpAny_If (thn (hc pins s σ H _ I h) fun d s1 ⟨H1,I1,q1⟩=>?_);cases d with
 | true=>exact ha pins s1 σ H1 D I1 q1
 | false=>exact hb pins s1 σ H1 D I1 q1
end
abbrev TG:=V->St->Hp->(St->Hp->Prop)->Prop
abbrev TGs:=List V->St->Hp->(St->Hp->Prop)->Prop
noncomputable def PG (X:Cx) (target:Expr) (t:TG):Prop:=
 ∀ (pins:List (Addr×Obj)) (s:qa4) (σ:St) (H:Hp) (v:V) (u:Value) (Q:St->Hp->Prop),Inv X pins σ H s->RelV v u->t v σ H Q→
  wpAny (model X.prog X.w) X.A (zb5 target X.env u) (fun _ s'=>∃ σ' H',Inv X pins σ' H' s'/\Q σ' H') X.xe s
noncomputable def PGs (X:Cx) (ts:List Expr) (t:TGs):Prop:=
 ∀ (pins:List (Addr×Obj)) (s:qa4) (σ:St) (H:Hp) (vs:List V) (us:List Value) (Q:St->Hp->Prop),Inv X pins σ H s->Vals vs us->t vs σ H Q→
  wpAny (model X.prog X.w) X.A (assignInOrder ((ql4 ts X.env).map (·.2)) us) (fun _ s'=>∃ σ' H',Inv X pins σ' H' s'/\Q σ' H') X.xe s
abbrev xt:=V->V->V->Hp->(Hp->Prop)->Prop
noncomputable def PSet (X:Cx) (t:xt):Prop:=
 ∀ (pins:List (Addr×Obj)) (s:qa4) (σ:St) (H:Hp) (o i v:V) (ov iv u:Value) (Q:Hp->Prop),Inv X pins σ H s->RelV o ov->RelV i iv->RelV v u->t o i v H Q→
  wpAny (model X.prog X.w) X.A (setItem ov iv u) (fun _ s'=>∃ H',Inv X pins σ H' s'/\Q H') X.xe s
section
variable {X:Cx} {pos:Pos}
noncomputable def g8 (i:Nat):TG:=fun v σ H Q=>Q (σ.set i (some v)) H
theorem oz {i:Nat} {x:Str} (hN:X.N.Nodup) (hi:X.N[i]?=some x) (hx:Loc X.env.scope x) (hf:X.fn x=true∨X.env.scope.names.lookup x=some .local:=by first | exact .inl rfl | exact .inr rfl | assumption):PG X (.Name x pos) (g8 i):=by intro pins s σ H v u Q I r h;exact wpAny_assign_Name (lC I hN hi hx r (fun s' I'=>⟨_,H,I',h⟩) hf)
noncomputable def gNil:TGs:=fun vs σ H Q=>vs=[]/\Q σ H
noncomputable def zB (t:TG) (u:TGs):TGs:=fun vs σ H Q=>∃ v r,vs=v::r/\t v σ H fun σ' H'=>u r σ' H' Q
theorem uv:PGs X [] gNil:=by intro pins s σ H vs us Q I r h;obtain ⟨e,h⟩:=h;subst e;cases r;exact assignInOrder_nil ⟨σ,H,I,h⟩
theorem qV {e:Expr} {es:List Expr} {t:TG} {u:TGs} (h1:PG X e t) (h2:PGs X es u)
  (hs:(ql4 (e::es) X.env).map (·.2)=zb5 e X.env::(ql4 es X.env).map (·.2):=by rfl):PGs X (e::es) (zB t u):=by
 intro pins s σ H vs us Q I r h;obtain ⟨v,vr,e1,h⟩:=h;subst e1;cases r with
 | cons r rr =>rw [hs];refine assignInOrder_cons (thn (h1 pins s σ H _ _ _ I r h) fun _ s1 ⟨σ1,H1,I1,q1⟩=>?_);exact h2 pins s1 σ1 H1 _ _ Q I1 rr q1
noncomputable def gTup (K:PySem.W.Frag) (n:Nat) (t:TGs):TG:=fun v σ H Q=>∃ a xs,v=.ref a/\SqT K H a xs/\xs.length=n/\t xs σ H Q
theorem xu {es:List Expr} {k:Nat} {t:TGs} {n:Nat} (hc:X.calm=true) (h:PGs X es t)
  (hn:(ql4 es X.env).length=n:=by rfl) (hst:(ql4 es X.env).findIdx? (·.1)=none:=by rfl):PG X (.Tuple es k pos) (gTup X.K n t):=by
 intro pins s σ H v u Q I r hw;obtain ⟨a,xs,e1,hq,hl,hw⟩:=hw;subst e1;cases r;obtain ⟨its,rv,ht,hz⟩:=I.tuple hq;refine assign_Tuple_tuple (I.ok.hd hc) ht (by simp [hn,<- hl,rv.length]) hst fun h' hx=>?_
 have I1:Inv X pins σ H {s with heap:=h'}:=I.kept (t':=s.toks) fun b o e=>hx b o (qc4 (qa8 e)) e
 exact h pins _ σ H xs _ Q I1 (by simpa using rv) hw
noncomputable def gSub (to ti:TE) (t:xt):TG:=fun v σ H Q=>to σ H fun o H1=>ti σ H1 fun i H2=>t o i v H2 fun H3=>Q σ H3
theorem xv {o i:Expr} {to ti:TE} {t:xt} (ho:PE X o to) (hi:PE X i ti) (hs:PSet X t)
  (ha:∀ v,zb5 (.Subscript o i pos) X.env v=(do
   let ov <- qy9 [v] (eval o X.env);let iv <- qy9 [v,ov] (eval i X.env)
   standAt pos
   qy9 [v,ov,iv] (setItem ov iv v)
   release [v,ov,iv] []):=by intro _;rfl):PG X (.Subscript o i pos) (gSub to ti t):=by
 intro pins s σ H v u Q I r h;rw [ha];refine wB (qg9 (thn (ho pins s σ H _ I h) fun ov s1 ⟨x,H1,I1,r1,q1⟩=>?_));refine wB (qg9 (thn (hi pins s1 σ H1 _ I1 q1) fun iv s2 ⟨y,H2,I2,r2,q2⟩=>?_));refine wB (zf1 (wB (qg9 (thn (hs pins s2 σ H2 x y v ov iv u _ I2 r1 r2 r q2) fun _ s3 ⟨H3,I3,q3⟩=>?_))));exact wpAny_release ⟨σ,H3,I3,q3⟩
noncomputable def uw (te:TE) (g:TG):TS:=fun D σ H=>te σ H fun x H1=>g x σ H1 D.nx
theorem qW {tg e:Expr} {te:TE} {g:TG} (he:PE X e te) (hg:PG X tg g) (hs:zf2 [tg] e pos.line X.env=pure false:=by rfl) (hw:zf3 [tg] e X.env=pure none:=by rfl)
  (h1:(ql4 [tg] X.env).map (·.2)=[zb5 tg X.env]:=by rfl):PS X (.Assign [tg] e pos) (uw te g):=by
 intro pins s σ H D I h;refine wpAny_Assign_stores (thn (he pins s σ H _ I h) fun v s1 ⟨x,H1,I1,r1,q1⟩=>?_) hs hw;rw [h1];exact thn (hg pins s1 σ H1 x v _ I1 r1 q1) fun _ s2 q=>q
theorem xw {i:Nat} {x:Str} {e:Expr} {te:TE} {pos':Pos} (hN:X.N.Nodup) (hi:X.N[i]?=some x) (hx:Loc X.env.scope x) (he:PE X e te) (hs:qm6 e (some (.Name x pos')) pos.line X.env=pure false:=by rfl) (hf:X.fn x=true∨X.env.scope.names.lookup x=some .local:=by first | exact .inl rfl | exact .inr rfl | assumption) :
  PS X (.Assign [.Name x pos'] e pos) (uw te (g8 i)):=by
 intro pins s σ H D I h;refine wpAny_Assign_Name (thn (he pins s σ H _ I h) fun v s1 ⟨y,H1,I1,r1,q1⟩=>?_) hs;exact lC I1 hN hi hx r1 (fun s2 I2=>⟨_,H1,I2,q1⟩) hf
end
section
variable {X:Cx} {pos:Pos}
noncomputable def xx (c:TT) (tb:TS):TS:=fun D σ H=>∃ W:Nat->St->Hp->Prop,(∃ m,W m σ H)/\∀ m σ H,W m σ H→
 c σ H fun b H1=>if b=true then ∃ N:St->Hp->Prop,(∀ σ' H',N σ' H'->∃ m',m'<m/\W m' σ' H')/\tb {D with nx:=N,ct:=N,bk:=D.nx} σ H1 else D.nx σ H1
theorem qX {c:Expr} {body:List Stmt} {tc:TT} {tb:TS} (hp:zb6 (model X.prog X.w) X.A X.env X.xe) (hc:PT X c tc) (hb:PSs X body tb):PS X (.While c body [] pos) (xx tc tb):=by
 intro pins s σ H D I h;obtain ⟨W,⟨m0,w0⟩,turn⟩:=h;refine wpAny_While (codeAny_whileLoop (fun n s'=>∃ σ' H',Inv X pins σ' H' s'/\W n σ' H') ?_ m0 ⟨σ,H,I,w0⟩);rintro n s1 ⟨σ1,H1,I1,w1⟩;refine ql5 hp (thn (hc pins s1 σ1 H1 _ I1 (turn n σ1 H1 w1)) fun b s2 ⟨H2,I2,q2⟩=>?_);cases b with
 | true =>
  obtain ⟨N,hN,q2⟩:=q2;rw [if_pos rfl];refine ql5 hp (thn (hb pins s2 σ1 H2 _ I2 q2) fun f s3 q3=>?_);cases f with
  | next =>obtain ⟨σ3,H3,I3,n3⟩:=q3;obtain ⟨m',hm,w3⟩:=hN σ3 H3 n3;exact ⟨m',hm,σ3,H3,I3,w3⟩
  | cont =>obtain ⟨σ3,H3,I3,n3⟩:=q3;obtain ⟨m',hm,w3⟩:=hN σ3 H3 n3;exact ⟨m',hm,σ3,H3,I3,w3⟩
  | brk=>exact q3
  | ret v=>exact q3
 | false =>rw [if_neg qb4];exact qu1 ⟨σ1,H2,I2,q2⟩
end
structure It where
 go:Nat->Hp->Prop
 yld:Nat->Hp->V->Hp->Prop
 stop:Nat->Hp->Prop
noncomputable def fI (X:Cx) (pins:List (Addr×Obj)) (H:Hp) (b:Addr):Prop:=H b=none/\b≠X.env.locals/\b∉X.fs/\(b∈X.ex∨X.s₀.heap.objs.size<=b)/\(∀ x c,X.env.cells.lookup x=some c->c≠b)/\∀ p∈X.pn++pins,p.1≠b
theorem Inv.fpOk {X:Cx} {pins:List (Addr×Obj)} {σ:St} {H H':Hp} {s:qa4} {b:Addr} (I:Inv X pins σ H s) (hb:s.heap.objs.size<=b) (hn:H' b=none):fI X pins H' b:=by
 refine ⟨hn,qn4 (qb6 I.lt hb),I.nofs hb,.inr (qc5 I.sz hb),fun x c e z=>?_,fun p hp z=>?_⟩
 . obtain ⟨v,q⟩:=I.cell x c e;exact absurd (qb6 q.lt (by rw [z];exact hb)) (qm3 _)
 . exact absurd (qb6 (qa8 (I.pin p hp).1) (by rw [z];exact hb)) (qm3 _)
structure Turn (P:qb5) (w:World) (K:PySem.W.Frag) (tg:Expr) (J:It) (fp:List Addr) (it:Addr) (tn:Nat->Heap->Prop):Prop where
 mem:it∈fp
 obj:∀ i h,tn i h->∀ b∈fp,∃ o,h.get? b=some o/\∀ v,o.data≠.cell v
 keep:∀ i h h',tn i h->(∀ b∈fp,∀ o,h.get? b=some o->h'.get? b=some o)->tn i h'
 item:∀ (X:Cx),X.prog=P->X.w=w->X.K=K->X.calm=true->∀ (i:Nat) (pins:List (Addr×Obj)) (s:qa4) (σ:St) (H:Hp) (E:Value->qa4->Prop),Inv X pins σ H s->(∀ b∈fp,fI X pins H b)->tn i s.heap->J.go i H→
  wpAny (model P w) X.A (qs1 (.ref it)) (fun r s1=>∃ u,r=some u∧wpAny (model P w) X.A (qu2 tg (.ref it) u) (fun _ s2=>∃ x H',Inv X pins σ H' s2/\RelV x u/\J.yld i H x H'/\tn (i+1) s2.heap/\∀ b∈fp,H' b=none) E s1) E s
 done:∀ (X:Cx),X.prog=P->X.w=w->X.K=K->X.calm=true->∀ (i:Nat) (pins:List (Addr×Obj)) (s:qa4) (σ:St) (H:Hp) (E:Value->qa4->Prop),Inv X pins σ H s->(∀ b∈fp,fI X pins H b)->tn i s.heap->J.stop i H→
  wpAny (model P w) X.A (qs1 (.ref it)) (fun r s1=>r=none/\Inv X pins σ H s1) E s
 self:∀ (A:qd2) (i:Nat) (s:qa4) (Q:Value->qa4->Prop) (E:Value->qa4->Prop),tn i s.heap->Q (.ref it) s->wpAny (model P w) A (zg4 (.ref it)) Q E s
abbrev TI:=St->Hp->(It->Hp->Prop)->Prop
noncomputable def PIE (X:Cx) (pins:List (Addr×Obj)) (σ:St) (tg:Expr) (R:It->Hp->Prop) (itv:Value) (s2:qa4):Prop:=∃ (it:Addr) (fp:List Addr) (tn:Nat->Heap->Prop) (J:It) (H':Hp),itv=.ref it/\Inv X pins σ H' s2/\Turn X.prog X.w X.K tg J fp it tn/\tn 0 s2.heap/\(∀ b∈fp,fI X pins H' b)/\R J H'
noncomputable def PI (X:Cx) (tg iter:Expr) (wi:TI):Prop:=
 ∀ (pins:List (Addr×Obj)) (s:qa4) (σ:St) (H:Hp) (R:It->Hp->Prop),Inv X pins σ H s->wi σ H R→
  wpAny (model X.prog X.w) X.A (eval iter X.env) (fun v s1=>wpAny (model X.prog X.w) X.A (zg4 v) (PIE X pins σ tg R) X.xe s1) X.xe s
theorem jz {M:Model} {A:qd2} {E:Value->qa4->Prop} {s:qa4} {tg:Expr} {it:Addr} {u:Value} {o:Obj} {n:String} {vs:Array Value} {Q:Unit->qa4->Prop} (ho:s.heap.get? it=some o) (hc:o.cls=.type n) (hd:o.data=.fields vs)
  (hn:["enumerate","zip","dict_itemiterator","dict_reverseitemiterator","odict_iterator","itertools.zip_longest","itertools.pairwise"].contains n=false) (hQ:Q () s):wpAny M A (qu2 tg (.ref it) u) Q E s:=by
 unfold qu2
 cases tg<;>first
  | exact qa2 hQ
  | (cases u<;>first
      | exact qa2 hQ
      | (refine wB (wpAny_load ho ?_)
         rw [hc,hd];show wpAny M A (if (["enumerate","zip","dict_itemiterator","dict_reverseitemiterator","odict_iterator","itertools.zip_longest","itertools.pairwise"].contains n&&vs[0]?==some (qf4 _))=true then _ else _) Q E s;rw [if_neg (by intro h;rw [hn,zd9] at h;cases h)];exact qa2 hQ))
noncomputable def Itl (K:PySem.W.Frag) (a:Addr):It:=⟨fun i H=>∃ xs x,SqL K H a xs/\xs[i]?=some x,fun i H x H'=>H'=H/\∀ xs,SqL K H a xs->xs[i]?=some x,fun i H=>∃ xs,SqL K H a xs/\xs.length<=i⟩
noncomputable def Itt (K:PySem.W.Frag) (a:Addr):It:=⟨fun i H=>∃ xs x,SqT K H a xs/\xs[i]?=some x,fun i H x H'=>H'=H/\∀ xs,SqT K H a xs->xs[i]?=some x,fun i H=>∃ xs,SqT K H a xs/\xs.length<=i⟩
noncomputable def Itr (lo:Int) (n:Nat):It:=⟨fun i _=>i<n,fun i H x H'=>H'=H/\x=.int (lo+i),fun i _=>n<=i⟩
theorem pY {P:qb5} {w:World} {K:PySem.W.Frag} {tg:Expr} (a it:Addr):Turn P w K tg (Itl K a) [it] it (fun i h=>h.IsListIter it a i) where
 mem:=by simp
 obj:=fun i h st b hb=>by
  have e:b=it:=by simpa using hb
  subst e;obtain ⟨o,e,c,d⟩:=st;exact ⟨o,e,fun v z=>by rw [d] at z;cases z⟩
 keep:=fun i h h' st k=>st.at fun o e=>k it (by simp) o e
 item:=by
  intro X hP hw hK hc i pins s σ H E I hf st hg;subst hP hw hK;obtain ⟨xs,x,hq,hx⟩:=hg;obtain ⟨its,rv,p,hz⟩:=I.list hq;obtain ⟨u,hu,ru⟩:=rv.get hx;obtain ⟨f0,f1,f2,f3,f4,f5⟩:=hf it (by simp);refine wpAny_pyNext_list_item st p.isList (x:=u) (by simpa using hu) fun h' st' sb=>?_
  have I1:Inv X pins σ H {s with heap:=h'}:=I.turned (t':=s.toks) (fun b o hb e=>(sb.2 b hb).trans e) f0 f1 f3 f4 f5;obtain ⟨o,e,c,d⟩:=id st';exact ⟨u,rfl,jz (s:={s with heap:=h'}) e c d (by decide) ⟨x,H,I1,ru,⟨rfl,fun ys hy=>by rw [I.list_inj hy hq];exact hx⟩,st',fun b hb=>(hf b hb).1⟩⟩
 done:=by intro X hP hw hK hc i pins s σ H E I hf st hg;subst hP hw hK;obtain ⟨xs,hq,hx⟩:=hg;obtain ⟨its,rv,p,hz⟩:=I.list hq;obtain ⟨f0,f1,f2,f3,f4,f5⟩:=hf it (by simp);have hl:=rv.length;exact wpAny_pyNext_list_end (I.ok.hd hc) st p.isList (by simp;lia) fun h' eb=>⟨rfl,I.turned (t':=s.toks) (fun b o hb e=>eb b o hb e) f0 f1 f3 f4 f5⟩
 self:=fun _ _ _ _ _ st h=>wpAny_pyIter_listiter st h
theorem m8 {P:qb5} {w:World} {K:PySem.W.Frag} {tg:Expr} (a it:Addr):Turn P w K tg (Itt K a) [it] it (fun i h=>h.IsTupleIter it a i) where
 mem:=by simp
 obj:=fun i h st b hb=>by
  have e:b=it:=by simpa using hb
  subst e;obtain ⟨o,e,c,d⟩:=st;exact ⟨o,e,fun v z=>by rw [d] at z;cases z⟩
 keep:=fun i h h' st k=>st.at fun o e=>k it (by simp) o e
 item:=by
  intro X hP hw hK hc i pins s σ H E I hf st hg;subst hP hw hK;obtain ⟨xs,x,hq,hx⟩:=hg;obtain ⟨its,rv,p,hz⟩:=I.tuple hq;obtain ⟨u,hu,ru⟩:=rv.get hx;obtain ⟨f0,f1,f2,f3,f4,f5⟩:=hf it (by simp);refine wpAny_pyNext_tuple_item st (show s.heap.IsTuple a its.toArray from p) (x:=u) (by simpa using hu) fun h' st' sb=>?_
  have I1:Inv X pins σ H {s with heap:=h'}:=I.turned (t':=s.toks) (fun b o hb e=>(sb.2 b hb).trans e) f0 f1 f3 f4 f5;obtain ⟨o,e,c,d⟩:=id st';exact ⟨u,rfl,jz (s:={s with heap:=h'}) e c d (by decide) ⟨x,H,I1,ru,⟨rfl,fun ys hy=>by rw [I.tuple_inj hy hq];exact hx⟩,st',fun b hb=>(hf b hb).1⟩⟩
 done:=by intro X hP hw hK hc i pins s σ H E I hf st hg;subst hP hw hK;obtain ⟨xs,hq,hx⟩:=hg;obtain ⟨its,rv,p,hz⟩:=I.tuple hq;obtain ⟨f0,f1,f2,f3,f4,f5⟩:=hf it (by simp);have hl:=rv.length;exact wpAny_pyNext_tuple_end (I.ok.hd hc) st (show s.heap.IsTuple a its.toArray from p) (by simp;lia) fun h' eb=>⟨rfl,I.turned (t':=s.toks) (fun b o hb e=>eb b o hb e) f0 f1 f3 f4 f5⟩
 self:=fun _ _ _ _ _ st h=>wpAny_pyIter_tupleiter st h
theorem m9 {P:qb5} {w:World} {K:PySem.W.Frag} {tg:Expr} (it:Addr) (lo:Int) (n:Nat):Turn P w K tg (Itr lo n) [it] it (fun i h=>ze2 h it (lo+(i:Nat)*1) ((n:Int)-(i:Nat)) 1) where
 mem:=by simp
 obj:=fun i h st b hb=>by
  have e:b=it:=by simpa using hb
  subst e
  exact ⟨_,st,fun v z=>by have z':Data.fields _=Data.cell v:=z;cases z'⟩
 keep:=fun i h h' st k=>k it (by simp) _ st
 item:=by
  intro X hP hw hK hc i pins s σ H E I hf st hg;subst hP hw hK;obtain ⟨f0,f1,f2,f3,f4,f5⟩:=hf it (by simp);have W:=Walks.range (prog:=X.prog) (w:=X.w) (I.ok.hd hc) it lo 1 n;refine W.item i s _ _ hg st fun v h' tk hv st' kk=>?_
  obtain ⟨t,rfl⟩:=hv;have I1:Inv X pins σ H {s with heap:=h',toks:=tk}:=I.turned (fun b o hb e=>kk b o (by simpa using hb) e) f0 f1 f3 f4 f5;refine ⟨_,rfl,jz (s:={s with heap:=h',toks:=tk}) (n:="range_iterator") st' rfl rfl (by decide) ⟨.int (lo+i),H,I1,⟨t,?_⟩,⟨rfl,rfl⟩,st',fun b hb=>(hf b hb).1⟩⟩;rw [Int.mul_one]
 done:=by intro X hP hw hK hc i pins s σ H E I hf st hg;subst hP hw hK;obtain ⟨f0,f1,f2,f3,f4,f5⟩:=hf it (by simp);exact za6 (I.ok.hd hc) st (by have:n<=i:=hg;lia) fun h' eb=>⟨rfl,I.turned (t':=s.toks) (fun b o hb e=>eb b o hb e) f0 f1 f3 f4 f5⟩
 self:=fun _ _ _ _ _ st h=>za7 st h
section
variable {X:Cx} {tg:Expr}
noncomputable def zC (K:PySem.W.Frag) (tl:TE):TI:=fun σ H R=>tl σ H fun x H1=>∃ a,x=.ref a/\(∃ xs,SqL K H1 a xs)/\R (Itl K a) H1
noncomputable def iTup (K:PySem.W.Frag) (tl:TE):TI:=fun σ H R=>tl σ H fun x H1=>∃ a,x=.ref a/\(∃ xs,SqT K H1 a xs)/\R (Itt K a) H1
theorem ky {l:Expr} {tl:TE} (hl:PE X l tl):PI X tg l (zC X.K tl):=by
 intro pins s σ H R I h;refine thn (hl pins s σ H _ I h) fun v s1 ⟨x,H1,I1,r1,q1⟩=>?_
 obtain ⟨a,e,⟨xs,hq⟩,q⟩:=q1;subst e;cases r1;obtain ⟨its,rv,p,hz⟩:=I1.list hq;refine wpAny_pyIter_list p.isList ?_;refine ⟨s1.heap.objs.size,[s1.heap.objs.size],_,_,H1,rfl,I1.kept (t':=s1.toks) fun b o e=>gP _ e,pY a _,⟨_,qb0 _ rfl,rfl,rfl⟩,fun b hb=>?_,q⟩;have e:b=s1.heap.objs.size:=by simpa using hb
 subst e;exact I1.fpOk (nL _) (I1.hok.fresh (nL _))
theorem qY {l:Expr} {tl:TE} (hl:PE X l tl):PI X tg l (iTup X.K tl):=by
 intro pins s σ H R I h;refine thn (hl pins s σ H _ I h) fun v s1 ⟨x,H1,I1,r1,q1⟩=>?_
 obtain ⟨a,e,⟨xs,hq⟩,q⟩:=q1;subst e;cases r1;obtain ⟨its,rv,p,hz⟩:=I1.tuple hq;refine qv6 (show s1.heap.IsTuple a its.toArray from p) ?_;refine ⟨s1.heap.objs.size,[s1.heap.objs.size],_,_,H1,rfl,I1.kept (t':=s1.toks) fun b o e=>gP _ e,m8 a _,⟨_,qb0 _ rfl,rfl,rfl⟩,fun b hb=>?_,q⟩;have e:b=s1.heap.objs.size:=by simpa using hb
 subst e;exact I1.fpOk (nL _) (I1.hok.fresh (nL _))
theorem qZ {pins:List (Addr×Obj)} {σ:St} {H:Hp} {s:qa4} {R:It->Hp->Prop} {E:Value->qa4->Prop} {lo hi:Int} {t u v:Tok} {tk:Nat} (I:Inv X pins σ H s) (h1:-(2^62)<=lo) (h2:lo<2^62) (h3:-(2^62)<=hi) (h4:hi<2^62)
  (q:R (Itr lo (hi-lo).toNat) H):wpAny (model X.prog X.w) X.A (zg4 (.ref s.heap.objs.size)) (PIE X pins σ tg R) E {s with heap:=s.heap.push {cls:=.type "range",data:=.fields #[.int lo t,.int hi u,.int 1 v]},toks:=tk}:=by
 refine wpAny_pyIter_range (IsRange.new ..) (small_one h1 h2 h3 h4) ?_;have I1:Inv X pins σ H {s with heap:=s.heap.push {cls:=.type "range",data:=.fields #[.int lo t,.int hi u,.int 1 v]},toks:=tk}:=I.kept fun b o e=>gP _ e
 refine ⟨(s.heap.push {cls:=.type "range",data:=.fields #[.int lo t,.int hi u,.int 1 v]}).objs.size,[(s.heap.push {cls:=.type "range",data:=.fields #[.int lo t,.int hi u,.int 1 v]}).objs.size],_,_,H,rfl,I1.kept (t':=tk) fun b o e=>gP _ e,m9 _ lo (hi-lo).toNat,?_,fun b hb=>?_,q⟩
 . have e1:lo+((0:Nat):Int)*1=lo:=by simp
   have e2:(((hi-lo).toNat:Nat):Int)-((0:Nat):Int)=qc6 lo hi 1:=by rw [rangeSize_one];split<;>lia
   show ze2 _ _ (lo+((0:Nat):Int)*1) ((((hi-lo).toNat:Nat):Int)-((0:Nat):Int)) 1;rw [e1,e2];exact qb0 _ rfl
 . have e:b=(s.heap.push {cls:=.type "range",data:=.fields #[.int lo t,.int hi u,.int 1 v]}).objs.size:=by simpa using hb
   subst e;exact I1.fpOk (nL _) (I1.hok.fresh (nL _))
noncomputable def wf (ta:TA):TI:=fun σ H R=>ta σ H fun vs H1=>∃ j:Int,vs=[.int j]/\-(2^62)<=j/\j<2^62/\R (Itr 0 j.toNat) H1
theorem pZ {a:Expr} {ta:TA} {p pos:Pos} (hg:Gl X "range") (hm:X.mg "range"=none) (ha:PA X [a] ta) (hs:qa6 [a] X.env=[(false,eval a X.env)]:=by rfl):PI X tg (.Call (.Name "range" p) [a] [] pos) (wf ta):=by
 intro pins s σ H R I h;refine Call_ (fH I hg hm boot_range (qj5 (thn (ha pos pins s σ H _ I h) fun us s1 ⟨vs,H1,I1,r1,q1⟩=>?_) hs rfl));obtain ⟨j,e,q1,q2,q⟩:=q1;subst e;cases r1 with
 | cons r rr =>cases rr;obtain ⟨t,rfl⟩:=r;exact call_range_1 (qZ I1 (by lia) (by lia) q1 q2 (by simpa using q))
noncomputable def tFor (wi:TI) (g:TG) (tb:TS):TS:=fun D σ H=>wi σ H fun J H1=>∃ W:Nat->Nat->St->Hp->Prop,(∃ m,W 0 m σ H1)/\∀ i m σ H,W i m σ H→ (J.stop i H/\D.nx σ H)∨(J.go i H/\∃ N:St->Hp->Prop,(∀ σ' H',N σ' H'->∃ m',m'<m/\W (i+1) m' σ' H')/\∀ x H',J.yld i H x H'->g x σ H' fun σ2 H2=>tb {D with nx:=N,ct:=N,bk:=D.nx} σ2 H2)
noncomputable def gy (fp:List Addr) (h:Heap):List (Addr×Obj):=fp.filterMap fun b=>(h.get? b).map fun o=>(b,o)
theorem cG {fp:List Addr} {h:Heap} {b:Addr} {o:Obj} (hb:b∈fp) (e:h.get? b=some o):(b,o)∈gy fp h:=List.mem_filterMap.mpr ⟨b,hb,by rw [e];rfl⟩
theorem p0 {fp:List Addr} {h:Heap} {p:Addr×Obj} (hp:p∈gy fp h):p.1∈fp/\h.get? p.1=some p.2:=by
 obtain ⟨b,hb,e⟩:=List.mem_filterMap.mp hp;cases q:h.get? b with
 | none=>rw [q] at e;cases e
 | some o =>rw [q] at e;have e':(b,o)=p:=qe1 e;subst e';exact ⟨hb,q⟩
theorem Inv.pinned {pins:List (Addr×Obj)} {σ:St} {H:Hp} {s:qa4} {fp:List Addr} (I:Inv X pins σ H s) (hf:∀ b∈fp,fI X pins H b) (ho:∀ b∈fp,∃ o,s.heap.get? b=some o/\∀ v,o.data≠.cell v):Inv X (pins++gy fp s.heap) σ H s:=
 I.pins_of fun p hp=>(qj4.mp hp).elim (fun z=>I.pin p (qc7 _ z)) fun z=>by
  obtain ⟨hb,e⟩:=p0 z;obtain ⟨f0,f1,f2,_⟩:=hf p.1 hb;obtain ⟨o,e',d⟩:=ho p.1 hb;rw [e] at e';cases e'
  exact ⟨e,f0,f1,f2,d⟩
theorem Inv.unpinned {pins pl:List (Addr×Obj)} {σ:St} {H:Hp} {s:qa4} (I:Inv X (pins++pl) σ H s):Inv X pins σ H s:=I.pins_of fun p hp=>I.pin p (qc7 _ (qt4 _ hp))
theorem na {iter:Expr} {body:List Stmt} {wi:TI} {g:TG} {tb:TS} {pos:Pos} (hp:zb6 (model X.prog X.w) X.A X.env X.xe) (hc:X.calm=true) (hi:PI X tg iter wi) (hg:PG X tg g) (hb:PSs X body tb)
  (hs:∀ x,qf7 iter X.env x=pure x:=by intro _;rfl):PS X (.For tg iter body [] pos) (tFor wi g tb):=by
 intro pins s σ H D I h;refine wpAny_For (thn (hi pins s σ H _ I h) fun v s1 h1=>thn h1 fun itv s2 h2=>?_) hs;obtain ⟨it,fp,tn,J,H2,e,I2,T,st2,f2,W,⟨m0,w0⟩,turn⟩:=h2;subst e
 -- what stays true of the iterator's objects through the loop
 have stat:∀ {H':Hp},(∀ b∈fp,H' b=none)->∀ b∈fp,fI X pins H' b:=fun hn b hb=>⟨hn b hb,(f2 b hb).2⟩
 refine codeAny_forLoop_any (fun n s'=>∃ i σ' H',Inv X pins σ' H' s'/\tn i s'.heap/\(∀ b∈fp,H' b=none)/\W i n σ' H') ?_ m0 ⟨0,σ,H2,I2,st2,fun b hb=>(f2 b hb).1,w0⟩;rintro n s3 ⟨i,σ3,H3,I3,st3,fr3,w3⟩;rcases turn i n σ3 H3 w3 with ⟨stop,qn⟩ | ⟨go,N,hN,step⟩
 . refine ql5 hp (thn (T.done X rfl rfl rfl hc i pins s3 σ3 H3 X.xe I3 (stat fr3) st3 stop) fun r s4 ⟨hr,I4⟩=>?_);subst hr;exact qu1 ⟨σ3,H3,I4,qn⟩
 . refine ql5 hp (thn (T.item X rfl rfl rfl hc i pins s3 σ3 H3 X.xe I3 (stat fr3) st3 go) fun r s4 ⟨u,hr,h4⟩=>?_);subst hr;refine ql5 hp (thn h4 fun _ s5 ⟨x,H5,I5,r5,y5,st5,fr5⟩=>?_);have I5':=I5.pinned (stat fr5) (T.obj _ _ st5);refine ql5 hp (thn (hg _ s5 σ3 H5 x u _ I5' r5 (step x H5 y5)) fun _ s6 ⟨σ6,H6,I6,q6⟩=>?_);refine ql5 hp (thn (hb _ s6 σ6 H6 _ I6 q6) fun f s7 q7=>?_)
   have again:∀ {σ7:St} {H7:Hp},Inv X (pins++gy fp s5.heap) σ7 H7 s7->N σ7 H7->∃ m,m<n/\∃ i σ' H',Inv X pins σ' H' s7/\tn i s7.heap/\(∀ b∈fp,H' b=none)/\W i m σ' H':=fun {σ7 H7} I7 n7=>by obtain ⟨m',hm,w7⟩:=hN σ7 H7 n7;refine ⟨m',hm,i+1,σ7,H7,I7.unpinned,T.keep _ _ _ st5 fun b hb o e=>(I7.pin (b,o) (qc7 _ (qc7 _ (cG hb e)))).1,fun b hb=>?_,w7⟩;obtain ⟨o,e,d⟩:=T.obj _ _ st5 b hb;exact (I7.pin (b,o) (qc7 _ (qc7 _ (cG hb e)))).2.1
   cases f with
   | next=>obtain ⟨σ7,H7,I7,n7⟩:=q7;exact again I7 n7
   | cont=>obtain ⟨σ7,H7,I7,n7⟩:=q7;exact again I7 n7
   | brk=>obtain ⟨σ7,H7,I7,q7⟩:=q7;exact ⟨σ7,H7,I7.unpinned,q7⟩
   | ret v=>obtain ⟨x7,σ7,H7,I7,r7,q7⟩:=q7;exact ⟨x7,σ7,H7,I7.unpinned,r7,q7⟩
end
abbrev R2:=V->V->Hp->VK->Prop
noncomputable def OpR (X:Cx) (f:Value->Value->Sem Value) (r:R2):Prop:=
 ∀ (pins:List (Addr×Obj)) (s:qa4) (σ:St) (H:Hp) (x y:V) (v u:Value) (Q:VK),Inv X pins σ H s->RelV x v->RelV y u->r x y H Q→
  wpAny (model X.prog X.w) X.A (f v u) (EP X pins σ Q) X.xe s
noncomputable def UnR (X:Cx) (f:Value->Sem Value) (r:V->Hp->VK->Prop):Prop:=
 ∀ (pins:List (Addr×Obj)) (s:qa4) (σ:St) (H:Hp) (x:V) (v:Value) (Q:VK),Inv X pins σ H s->RelV x v->r x H Q→
  wpAny (model X.prog X.w) X.A (f v) (EP X pins σ Q) X.xe s
noncomputable def da (X:Cx) (f:Value) (r:List V->Hp->VK->Prop):Prop:=
 ∀ (pins:List (Addr×Obj)) (s:qa4) (σ:St) (H:Hp) (xs:List V) (us:List Value) (Q:VK),Inv X pins σ H s->Vals xs us->r xs H Q→
  wpAny (model X.prog X.w) X.A (call f us) (EP X pins σ Q) X.xe s
noncomputable def TruR (X:Cx) (r:V->Hp->(Bool->Hp->Prop)->Prop):Prop:=
 ∀ (pins:List (Addr×Obj)) (s:qa4) (σ:St) (H:Hp) (x:V) (v:Value) (Q:Bool->Hp->Prop),Inv X pins σ H s->RelV x v->r x H Q→
  wpAny (model X.prog X.w) X.A (truthy v) (TP X pins σ Q) X.xe s
noncomputable def tOp (r:R2) (ta tb:TE):TE:=fun σ H Q=>ta σ H fun x H1=>tb σ H1 fun y H2=>r x y H2 Q
noncomputable def tUn (r:V->Hp->VK->Prop) (ta:TE):TE:=fun σ H Q=>ta σ H fun x H1=>r x H1 Q
noncomputable def rI (C:Int->Int->Prop) (g:Int->Int->V):R2:=fun x y H Q=>∃ i j,x=.int i/\y=.int j/\C i j/\Q (g i j) H
noncomputable def rI0 (g:Int->Int->V):R2:=fun x y H Q=>∃ i j,x=.int i/\y=.int j/\Q (g i j) H
noncomputable def rU (g:Int->V):V->Hp->VK->Prop:=fun x H Q=>∃ i,x=.int i/\Q (g i) H
section
variable {X:Cx} {a b c:Expr} {ta tb tc:TE} {pos:Pos}
theorem xy (ha:PE X a ta) (hb:PE X b tb) {pins:List (Addr×Obj)} {s:qa4} {σ:St} {H:Hp} {R:V->V->Hp->Prop} (I:Inv X pins σ H s)
  (h:ta σ H fun x H1=>tb σ H1 fun y H2=>R x y H2) {Q:Value->qa4->Prop} {f:Value->Value->Sem Value}
  (hf:∀ v u s2 x y H2,Inv X pins σ H2 s2->RelV x v->RelV y u->R x y H2->wpAny (model X.prog X.w) X.A (f v u) Q X.xe s2) :
  wpAny (model X.prog X.w) X.A (eval a X.env) (fun v s₁=>wpAny (model X.prog X.w) X.A (eval b X.env) (fun u s₂=>wpAny (model X.prog X.w) X.A (f v u) Q X.xe s₂) X.xe s₁) X.xe s:=by
 refine thn (ha pins s σ H _ I h) fun v s1 ⟨x,H1,I1,r1,q1⟩=>?_
 refine thn (hb pins s1 σ H1 _ I1 q1) fun u s2 ⟨y,H2,I2,r2,q2⟩=>?_
 exact hf v u s2 x y H2 I2 r1 r2 q2
theorem zD {op:Operator} {r:R2} (ho:OpR X (qk5 op) r) (ha:PE X a ta) (hb:PE X b tb):PE X (.BinOp a op b pos) (tOp r ta tb):=by intro pins s σ H Q I h;exact wpAny_BinOp (xy ha hb I h fun v u s2 x y H2 I2 rx ry q=>ho pins s2 σ H2 x y v u Q I2 rx ry q)
theorem zE {op:UnaryOp} {r:V->Hp->VK->Prop} (ho:UnR X (unaryOp op) r) (ha:PE X a ta):PE X (.UnaryOp op a pos) (tUn r ta):=by intro pins s σ H Q I h;exact UnaryOp_ (thn (ha pins s σ H _ I h) fun v s1 ⟨x,H1,I1,r1,q1⟩=>ho pins s1 σ H1 x v Q I1 r1 q1)
theorem opI {f:Value->Value->Sem Value} {C:Int->Int->Prop} {g:Int->Int->Int}
  (rule:∀ (i j:Int) (t u:Tok) (s:qa4) (Q:Value->qa4->Prop) (E:Value->qa4->Prop),C i j->Q (.int (g i j) s.toks) {s with toks:=s.toks+1}->wpAny (model X.prog X.w) X.A (f (.int i t) (.int j u)) Q E s) :
  OpR X f (rI C fun i j=>.int (g i j)):=by
 intro pins s σ H x y v u Q I rx ry h;obtain ⟨i,j,rfl,rfl,hc,q⟩:=h;obtain ⟨t,rfl⟩:=rx;obtain ⟨t',rfl⟩:=ry;exact rule i j t t' s _ _ hc ⟨.int (g i j),H,I.tok _,⟨_,rfl⟩,q⟩
theorem opI0 {f:Value->Value->Sem Value} {g:Int->Int->Int}
  (rule:∀ (i j:Int) (t u:Tok) (s:qa4) (Q:Value->qa4->Prop) (E:Value->qa4->Prop),Q (.int (g i j) s.toks) {s with toks:=s.toks+1}->wpAny (model X.prog X.w) X.A (f (.int i t) (.int j u)) Q E s) :
  OpR X f (rI0 fun i j=>.int (g i j)):=by
 intro pins s σ H x y v u Q I rx ry h;obtain ⟨i,j,rfl,rfl,q⟩:=h;obtain ⟨t,rfl⟩:=rx;obtain ⟨t',rfl⟩:=ry;exact rule i j t t' s _ _ ⟨.int (g i j),H,I.tok _,⟨_,rfl⟩,q⟩
theorem xz {f:Value->Value->Sem Value} {g:Int->Int->Bool}
  (rule:∀ (i j:Int) (t u:Tok) (s:qa4) (Q:Value->qa4->Prop) (E:Value->qa4->Prop),Q (.bool (g i j)) s->wpAny (model X.prog X.w) X.A (f (.int i t) (.int j u)) Q E s) :
  OpR X f (rI0 fun i j=>.bl (g i j)):=by
 intro pins s σ H x y v u Q I rx ry h;obtain ⟨i,j,rfl,rfl,q⟩:=h;obtain ⟨t,rfl⟩:=rx;obtain ⟨t',rfl⟩:=ry;exact rule i j t t' s _ _ ⟨.bl (g i j),H,I,rfl,q⟩
noncomputable def xA (i j:Int):Prop:=0<=j/\j<=1000000/\i.natAbs<2^64
noncomputable def CMul (i j:Int):Prop:=(-(2^64)<i/\i<2^64)∨(-(2^64)<j/\j<2^64)
theorem CMul.ok {i j:Int} (h:CMul i j):IntMulOk i j:=by
 rcases h with ⟨h1,h2⟩ | ⟨h1,h2⟩
 . exact .of_left (intBits_le_64 h1 h2)
 . exact .of_right (intBits_le_64 h1 h2)
theorem xB:OpR X (qk5 .Add) (rI0 fun i j=>.int (i+j)):=opI0 fun _ _ _ _ _ _ _ q=>add_int q
theorem fJ:OpR X (qk5 .Sub) (rI0 fun i j=>.int (i-j)):=opI0 fun _ _ _ _ _ _ _ q=>sub_int q
theorem d4:OpR X (qk5 .Mult) (rI CMul fun i j=>.int (i*j)):=opI fun _ _ _ _ _ _ _ hc q=>mul_int q hc.ok
theorem bI:OpR X (qk5 .Mod) (rI (fun _ j=>0<j) fun i j=>.int (i%j)):=opI fun i j _ _ _ _ _ hc q=>by have h1:(0:Int)<j:=hc;exact mod_int' (by lia) (by rw [Int.fmod_eq_emod_of_nonneg i (by lia)];exact q)
theorem ra:OpR X (qk5 .Pow) (rI xA fun i j=>.int (i^j.toNat)):=opI fun _ _ _ _ _ _ _ hc q=>pow_int_small hc.1 hc.2.1 hc.2.2 q
theorem unI {f:Value->Sem Value} {g:Int->Int}
  (rule:∀ (i:Int) (t:Tok) (s:qa4) (Q:Value->qa4->Prop) (E:Value->qa4->Prop),Q (.int (g i) s.toks) {s with toks:=s.toks+1}->wpAny (model X.prog X.w) X.A (f (.int i t)) Q E s) :
  UnR X f (rU fun i=>.int (g i)):=by
 intro pins s σ H x v Q I rx h;obtain ⟨i,rfl,q⟩:=h;obtain ⟨t,rfl⟩:=rx;exact rule i t s _ _ ⟨.int (g i),H,I.tok _,⟨_,rfl⟩,q⟩
theorem xC:UnR X (unaryOp .USub) (rU fun i=>.int (-i)):=unI fun _ _ _ _ _ q=>neg_int q
end
noncomputable def xD:V->V->Bool
 | .non,.non=>true | .non,.int _=>true | .int _,.non=>true | .non,.bl _=>true | .bl _,.non=>true | .non,.str _=>true | .str _,.non=>true
 | .int _,.int _=>true | .bl _,.bl _=>true | .str _,.str _=>true | .byt _,.byt _=>true
 | .int _,.str _=>true | .str _,.int _=>true | .bl _,.str _=>true | .str _,.bl _=>true
 | _,_=>false
noncomputable def rEq:R2:=fun x y H Q=>xD x y=true/\Q (.bl (decide (x=y))) H
noncomputable def rNe:R2:=fun x y H Q=>xD x y=true/\Q (.bl (!decide (x=y))) H
theorem oA {i j:Int}:decide (V.int i=V.int j)=(i==j):=by rw [qj6];simp
theorem rb {i j:Bool}:decide (V.bl i=V.bl j)=(i==j):=by rw [qj6];simp
theorem oB {i j:Str}:decide (V.str i=V.str j)=(i==j):=by rw [qj6];simp
theorem oC {i j:Array UInt8}:decide (V.byt i=V.byt j)=(i.toList==j.toList):=by rw [qj6];cases i;cases j;simp
section
variable {X:Cx} {a b c:Expr} {ta tb tc:TE} {pos:Pos}
theorem bd {pins:List (Addr×Obj)} {σ:St} {H:Hp} {s:qa4} {Q:VK} {k k':Bool} (I:Inv X pins σ H s) (q:Q (.bl k) H) (e:k=k'):EP X pins σ Q (.bool k') s:=by subst e;exact ⟨.bl k,H,I,rfl,q⟩
theorem zF:OpR X (qg7 .Eq) rEq:=by
 intro pins s σ H x y v u Q I rx ry h;obtain ⟨hs,q⟩:=h;cases x with
 | non =>
  cases rx;cases y with
  | non=>cases ry;exact PySem.EqNone.eq_none_none (bd I q (by simp))
  | bl j=>cases ry;exact PySem.EqNone.eq_none_bool (bd I q (by simp))
  | int j=>obtain ⟨t',rfl⟩:=ry;exact PySem.EqNone.eq_none_int (bd I q (by simp))
  | str j=>obtain ⟨t',rfl⟩:=ry;exact PySem.EqNone.eq_none_str (bd I q (by simp))
  | _=>exact absurd (show false=true from hs) qb4
 | bl i =>
  cases rx;cases y with
  | non=>cases ry;exact PySem.EqNone.eq_bool_none (bd I q (by simp))
  | bl j=>cases ry;exact eq_bool (bd I q rb)
  | str j=>obtain ⟨t',rfl⟩:=ry;exact PySem.EqMixed.eq_bool_str (bd I q (by simp))
  | _=>exact absurd (show false=true from hs) qb4
 | int i =>
  obtain ⟨t,rfl⟩:=rx;cases y with
  | non=>cases ry;exact PySem.EqNone.eq_int_none (bd I q (by simp))
  | int j=>obtain ⟨t',rfl⟩:=ry;exact eq_int (bd I q oA)
  | str j=>obtain ⟨t',rfl⟩:=ry;exact PySem.EqMixed.eq_int_str (bd I q (by simp))
  | _=>exact absurd (show false=true from hs) qb4
 | str i =>
  obtain ⟨t,rfl⟩:=rx;cases y with
  | non=>cases ry;exact PySem.EqNone.eq_str_none (bd I q (by simp))
  | bl j=>cases ry;exact PySem.EqMixed.eq_str_bool (bd I q (by simp))
  | int j=>obtain ⟨t',rfl⟩:=ry;exact PySem.EqMixed.eq_str_int (bd I q (by simp))
  | str j=>obtain ⟨t',rfl⟩:=ry;exact eq_str (bd I q oB)
  | _=>exact absurd (show false=true from hs) qb4
 | byt i =>
  obtain ⟨t,rfl⟩:=rx;cases y with
  | byt j=>obtain ⟨t',rfl⟩:=ry;exact PySem.W.eq_bytes (bd I q oC)
  | _=>exact absurd (show false=true from hs) qb4
 | _=>cases y<;>exact absurd (show false=true from hs) qb4
theorem zG:OpR X (qg7 .NotEq) rNe:=by
 intro pins s σ H x y v u Q I rx ry h;obtain ⟨hs,q⟩:=h;cases x with
 | non =>
  cases rx;cases y with
  | non=>cases ry;exact PySem.EqNone.ne_none_none (bd I q (by simp))
  | bl j=>cases ry;exact PySem.EqNone.ne_none_bool (bd I q (by simp))
  | int j=>obtain ⟨t',rfl⟩:=ry;exact PySem.EqNone.ne_none_int (bd I q (by simp))
  | str j=>obtain ⟨t',rfl⟩:=ry;exact PySem.EqNone.ne_none_str (bd I q (by simp))
  | _=>exact absurd (show false=true from hs) qb4
 | bl i =>
  cases rx;cases y with
  | non=>cases ry;exact PySem.EqNone.ne_bool_none (bd I q (by simp))
  | bl j=>cases ry;exact ne_bool (bd I q (congrArg not rb))
  | str j=>obtain ⟨t',rfl⟩:=ry;exact PySem.EqMixed.ne_bool_str (bd I q (by simp))
  | _=>exact absurd (show false=true from hs) qb4
 | int i =>
  obtain ⟨t,rfl⟩:=rx;cases y with
  | non=>cases ry;exact PySem.EqNone.ne_int_none (bd I q (by simp))
  | int j=>obtain ⟨t',rfl⟩:=ry;exact ne_int (bd I q (congrArg not oA))
  | str j=>obtain ⟨t',rfl⟩:=ry;exact PySem.EqMixed.ne_int_str (bd I q (by simp))
  | _=>exact absurd (show false=true from hs) qb4
 | str i =>
  obtain ⟨t,rfl⟩:=rx;cases y with
  | non=>cases ry;exact PySem.EqNone.ne_str_none (bd I q (by simp))
  | bl j=>cases ry;exact PySem.EqMixed.ne_str_bool (bd I q (by simp))
  | int j=>obtain ⟨t',rfl⟩:=ry;exact PySem.EqMixed.ne_str_int (bd I q (by simp))
  | str j=>obtain ⟨t',rfl⟩:=ry;exact ne_str (bd I q (congrArg not oB))
  | _=>exact absurd (show false=true from hs) qb4
 | byt i =>
  obtain ⟨t,rfl⟩:=rx;cases y with
  | byt j=>obtain ⟨t',rfl⟩:=ry;exact PySem.W.ne_bytes (bd I q (congrArg not oC))
  | _=>exact absurd (show false=true from hs) qb4
 | _=>cases y<;>exact absurd (show false=true from hs) qb4
theorem rc:OpR X (qg7 .Lt) (rI0 fun i j=>.bl (decide (i<j))):=xz fun _ _ _ _ _ _ _ q=>lt_int q
theorem zH:OpR X (qg7 .LtE) (rI0 fun i j=>.bl (decide (i<=j))):=xz fun _ _ _ _ _ _ _ q=>le_int q
theorem rf:OpR X (qg7 .Gt) (rI0 fun i j=>.bl (decide (j<i))):=xz fun _ _ _ _ _ _ _ q=>gt_int q
theorem p4:OpR X (qg7 .In) (fun x y H Q=>∃ i j,x=.str i/\y=.str j/\Q (.bl (!(qq0 j i 0 j.length 1).isEmpty)) H):=by intro pins s σ H x y v u Q I rx ry h;obtain ⟨i,j,rfl,rfl,q⟩:=h;obtain ⟨t,rfl⟩:=rx;obtain ⟨t',rfl⟩:=ry;exact in_str (bd I q rfl)
theorem OpR.or {f:Value->Value->Sem Value} {r r':R2} (h:OpR X f r) (h':OpR X f r'):OpR X f (fun x y H Q=>r x y H Q∨r' x y H Q):=by
 intro pins s σ H x y v u Q I rx ry q;rcases q with q | q
 . exact h pins s σ H x y v u Q I rx ry q
 . exact h' pins s σ H x y v u Q I rx ry q
theorem bx (b:Expr) {op:CmpOp} (h:op≠.In:=by decide) (h2:op≠.NotIn:=by decide):qj0 op b=false:=by
 have e1:(op==CmpOp.In)=false:=by cases op<;>first | rfl | exact absurd rfl h
 have e2:(op==CmpOp.NotIn)=false:=by cases op<;>first | rfl | exact absurd rfl h2
 cases b<;>simp [qj0,e1,e2]
theorem ux {op:CmpOp} {r:R2} (ho:OpR X (qg7 op) r) (ha:PE X a ta) (hb:PE X b tb) (hm:qj0 op b=false):PE X (.Compare a [op] [b] pos) (tOp r ta tb):=by intro pins s σ H Q I h;exact wpAny_Compare1 (xy ha hb I h fun v u s2 x y H2 I2 rx ry q=>ho pins s2 σ H2 x y v u Q I2 rx ry q) hm
noncomputable def zI (t:TE):TT:=fun σ H Q=>t σ H fun x H'=>∃ k,x=.bl k/\Q k H'
theorem kz {op:CmpOp} {r:R2} (ho:OpR X (qg7 op) r) (ha:PE X a ta) (hb:PE X b tb) (hm:qj0 op b=false):PT X (.Compare a [op] [b] pos) (zI (tOp r ta tb)):=by
 intro pins s σ H Q I h
 refine zb4 (thn (ha pins s σ H _ I h) fun v s1 ⟨x,H1,I1,r1,q1⟩=>thn (hb pins s1 σ H1 _ I1 q1) fun u s2 ⟨y,H2,I2,r2,q2⟩ =>thn (ho pins s2 σ H2 x y v u _ I2 r1 r2 q2) fun c s3 ⟨z,H3,I3,r3,k,e,q3⟩=>?_) hm
 subst e;cases r3;exact qr2 ⟨H3,I3,q3⟩
noncomputable def xE (K:PySem.W.Frag) (x:V) (H:Hp) (k:Bool):Prop:=
 match x with
 | .non=>k=false
 | .bl b=>k=b
 | .int i=>k=(i != 0)
 | .str y=>y.length<=qa7/\k=((y.length:Int) != 0)
 | .byt y=>y.size<=qa7/\k=((y.size:Int) != 0)
 | .ref p=>(∃ xs,SqL K H p xs/\k=!xs.isEmpty)∨(∃ xs,SqT K H p xs/\k=!xs.isEmpty)∨∃ kvs,H p=some (.dK kvs)/\k=!kvs.isEmpty
 | _=>False
theorem nc {κ:Type} {kvs:List (κ×V)} {vs:List (κ×Value)} (r:KV kvs vs):(!vs.isEmpty)=!kvs.isEmpty:=by cases r<;>rfl
theorem iA {xs:List V} {its:List Value} (r:Vals xs its):(!its.toArray.isEmpty)=!xs.isEmpty:=by cases r<;>simp
theorem gz:(qa7:Nat)<2^63:=by rw [qz0];decide
theorem xF:TruR X (fun x H Q=>∃ k,xE X.K x H k/\Q k H):=by
 intro pins s σ H x v Q I rx h;obtain ⟨k,e,q⟩:=h;have hl:=gz;have hs:qa7=16777216:=qz0;cases x with
 | non =>cases rx;have e':k=false:=e;subst e';exact truthy_none ⟨H,I,q⟩
 | bl b =>cases rx;have e':k=b:=e;subst e';exact qr2 ⟨H,I,q⟩
 | int i =>obtain ⟨t,rfl⟩:=rx;have e':k=(i != 0):=e;subst e';exact PySem.P.truthy_int ⟨H,I,q⟩
 | str y =>obtain ⟨t,rfl⟩:=rx;obtain ⟨hy,e'⟩:y.length<=qa7/\k=((y.length:Int) != 0):=e;subst e';exact PySem.P.truthy_str (by lia) ⟨H,I.tok _,q⟩
 | byt y =>obtain ⟨t,rfl⟩:=rx;obtain ⟨hy,e'⟩:y.size<=qa7/\k=((y.size:Int) != 0):=e;subst e';exact PySem.W.truthy_bytes (by lia) ⟨H,I.tok _,q⟩
 | ref p =>
  cases rx;have e':(∃ xs,SqL X.K H p xs/\k=!xs.isEmpty)∨(∃ xs,SqT X.K H p xs/\k=!xs.isEmpty)∨∃ kvs,H p=some (.dK kvs)/\k=!kvs.isEmpty:=e;rcases e' with ⟨xs,hx,e'⟩ | ⟨xs,hx,e'⟩ | ⟨kvs,hx,e'⟩
  . subst e';obtain ⟨its,r,pl,hz⟩:=I.list hx;have hlen:=r.length;exact wpAny_truthy_list pl.isList (by simp only [qb3];lia) ⟨H,I.tok _,by rw [iA r];exact q⟩
  . subst e';obtain ⟨its,r,pl,hz⟩:=I.tuple hx;have hlen:=r.length;exact truthy_tuple pl (by simp only [qb3];lia) ⟨H,I.tok _,by rw [iA r];exact q⟩
  . subst e';obtain ⟨hz,hS,vs,r,m⟩:kvs.length<=qa7/\(p==qi1)=false/\∃ vs,KV kvs vs/\s.heap.DictOf (bn X.prog X.w) p vs:=I.hok p _ hx;have hlen:kvs.length=vs.length:=Paired.length r;exact wpAny_truthy_dict hS m (by lia) ⟨H,I.tok _,by rw [nc r];exact q⟩
 | _=>exact (show False from e).elim
theorem rg (ha:PE X a ta) (he:∀ whole,isTrue a X.env whole=(do let v <- whole;standAt a.pos;qy9 [v] (truthy v))) :
  PT X a (fun σ H Q=>ta σ H fun x H'=>∃ k,xE X.K x H' k/\Q k H'):=by
 intro pins s σ H Q I h;exact isTrue_plain (thn (ha pins s σ H _ I h) fun v s1 ⟨x,H1,I1,r1,q1⟩=>xF pins s1 σ H1 x v Q I1 r1 q1) (he _)
theorem ng:OpR X (qk5 .Add) (fun x y H Q=>∃ i j,x=.str i/\y=.str j/\i.length+j.length<=qa7/\Q (.str (i++j)) H):=by intro pins s σ H x y v u Q I rx ry h;obtain ⟨i,j,rfl,rfl,hz,q⟩:=h;obtain ⟨t,rfl⟩:=rx;obtain ⟨t',rfl⟩:=ry;exact add_str (fun t' tk=>⟨.str (i++j),H,I.tok _,⟨_,rfl⟩,q⟩) hz
theorem fA {x:V} {us:List Value} (r:Vals [x] us):∃ u,us=[u]/\RelV x u:=by
 cases r with
 | cons r1 r2=>cases r2;exact ⟨_,rfl,r1⟩
theorem zJ {x y:V} {us:List Value} (r:Vals [x,y] us):∃ u w',us=[u,w']/\RelV x u/\RelV y w':=by
 cases r with
 | cons r1 r2 =>
  cases r2 with
  | cons r3 r4=>cases r4;exact ⟨_,_,rfl,r1,r3⟩
noncomputable def LenV (K:PySem.W.Frag) (x:V) (H:Hp) (n:Nat):Prop:=
 match x with
 | .str y=>y.length<=qa7/\n=y.length
 | .byt y=>y.size<=qa7/\n=y.size
 | .ref p=>(∃ xs,SqL K H p xs/\n=xs.length)∨∃ xs,SqT K H p xs/\n=xs.length
 | _=>False
theorem aX:da X (.builtin "len") (fun xs H Q=>∃ x n,xs=[x]/\LenV X.K x H n/\Q (.int n) H):=by
 intro pins s σ H xs us Q I r h;obtain ⟨x,n,rfl,e,q⟩:=h;obtain ⟨u,rfl,rx⟩:=fA r;have hl:=gz;have hs:qa7=16777216:=qz0;cases x with
 | str y =>obtain ⟨t,rfl⟩:=rx;obtain ⟨hy,e'⟩:y.length<=qa7/\n=y.length:=e;subst e';exact len_str (by lia) ⟨.int _,H,I.tok _,⟨_,rfl⟩,q⟩
 | byt y =>obtain ⟨t,rfl⟩:=rx;obtain ⟨hy,e'⟩:y.size<=qa7/\n=y.size:=e;subst e';exact PySem.W.len_bytes (by lia) ⟨.int _,H,I.tok _,⟨_,rfl⟩,q⟩
 | ref p =>
  cases rx;have e':(∃ xs,SqL X.K H p xs/\n=xs.length)∨∃ xs,SqT X.K H p xs/\n=xs.length:=e;rcases e' with ⟨xs,hx,e'⟩ | ⟨xs,hx,e'⟩
  . subst e';obtain ⟨its,r',pl,hz⟩:=I.list hx;have hlen:=r'.length;exact Calls.call_len_list pl.isList (by simp only [qb3];lia) ⟨.int xs.length,H,I.tok _,⟨_,by simp only [qb3];rw [hlen]⟩,q⟩
  . subst e';obtain ⟨its,r',pl,hz⟩:=I.tuple hx;have hlen:=r'.length;exact len_tuple pl (by simp only [qb3];lia) ⟨.int xs.length,H,I.tok _,⟨_,by simp only [qb3];rw [hlen]⟩,q⟩
 | _=>exact (show False from e).elim
end
structure ObjM (h:Heap) (x dx C:Addr) (mA:Str->Option Value):Prop where
 obj:h.get? x=some (PySem.W.instObj C dx)
 ns:h.Ns1 dx mA
 ne:dx≠x
theorem p5 {h:Heap} {dx:Addr} {mA:Str->Option Value} (n:h.Ns1 dx mA):∃ od,h.get? dx=some od/\∀ name,PySem.W.lookIn name od=some (mA name):=by
 obtain ⟨o,es,ep,ho,hd,hk,_,hm⟩:=n;refine ⟨o,ho,fun name=>?_⟩;have e:=hm name;unfold nsFind findBy at e;rw [<- Array.find?_toList] at e;unfold PySem.W.lookIn;rw [hd];dsimp only;split
 . rename_i y q;rw [q] at e;exact congrArg some e
 . rename_i q;rw [q] at e
   have a:es.toList.any (·.refKey)=false:=by rw [List.any_eq_false];intro y hy;obtain ⟨z,t,hkey⟩:=hk y (Array.mem_toList_iff.mp hy);simp [zh4.refKey,hkey]
   have a':¬ es.toList.any (·.refKey)=true:=by rw [a];exact qb4
   rw [if_neg a'];exact congrArg some e
theorem ObjM.look {h:Heap} {x dx C:Addr} {mA:Str->Option Value} (I:ObjM h x dx C mA):∃ od,PySem.W.InstAt h x (PySem.W.instObj C dx) C (some od)/\∀ name,PySem.W.lookIn name od=some (mA name):=
 let ⟨od,ho,hl⟩:=p5 I.ns
 ⟨od,⟨I.obj,rfl,rfl,ho⟩,hl⟩
section
variable {prog:qb5} {w:World} {A:qd2} {E:Value->qa4->Prop} {s:qa4} {K:PySem.W.Frag} {x dx C f:Addr} {mA:Str->Option Value} {name:Str} {v:Value}
end
theorem RelO.some_of {v:V} {o:Option Value} (r:RelO (some v) o):∃ u,o=some u/\RelV v u:=by
 cases o with
 | none=>exact (show False from r).elim
 | some u=>exact ⟨u,rfl,r⟩
section
variable {P:qb5} {w:World} {H H':Hp} {h h':Heap} {a C dx:Addr} {fs fs':List (Str×V)}
theorem uy (hok:HOk P w H h) (e:H a=some (.ins C dx fs)):∃ mA,ObjM h a dx C mA/\(∀ f,RelO (fs.lookup f) (mA f))/\PySem.Within mA (fs.map (·.1))/\fs.length<=1000/\H dx=some (.own a):=by obtain ⟨d,z,ne,ob,mA,n,r,q⟩:=(show ObjOk P w H h a (.ins C dx fs) from hok a _ e);exact ⟨mA,⟨ob,n,ne⟩,r,q,z,d⟩
end
structure Cls (K:PySem.W.Frag) (C:Addr):Prop where
 pg:PySem.W.plainGet K C Str.empty=true
 hd:PySem.W.hasDictIn K C=true
 po:PySem.W.plainOver K C=true
 sa:PySem.W.findIn K (.ref C) "__setattr__"=some (some (.builtin "object.__setattr__"))
theorem Cls.get {K:PySem.W.Frag} {C:Addr} (c:Cls K C) (f:Str):PySem.W.plainGet K C f=true:=c.pg
section
variable {X:Cx} {pins:List (Addr×Obj)} {σ:St} {H:Hp} {s:qa4} {a C dx:Addr} {fs:List (Str×V)} {f:Str} {v:V} {A:qd2} {E:Value->qa4->Prop}
end
section
variable {X:Cx} {o e value:Expr} {f:Str} {pos pos' tpos:Pos} {ta tv:TE}
end
section
variable {X:Cx} {pins:List (Addr×Obj)} {σ:St} {H:Hp} {s:qa4} {A:qd2} {E:Value->qa4->Prop} {Q:Value->qa4->Prop} {c:Value} {b:Bool}
inductive TyOf (K:PySem.W.Frag) (H:Hp):V->Value->Prop where
 | non:TyOf K H .non (.type "NoneType")
 | bl (x:Bool):TyOf K H (.bl x) (.type "bool")
 | int (i:Int):TyOf K H (.int i) (.type "int")
 | str (x:Str):TyOf K H (.str x) (.type "str")
 | flt (x:UInt64):TyOf K H (.flt x) (.type "float")
 | lst {a:Addr} {xs:List V} (e:H a=some (.lst xs)):TyOf K H (.ref a) (.type "list")
 | frz {a:Addr} {o:Obj} {xs:List V} (e:H a=some (.frz o (.lst xs))):TyOf K H (.ref a) (.type "list")
 | tup {a:Addr} {xs:List V} (e:H a=some (.tup xs)):TyOf K H (.ref a) (.type "tuple")
 | dK {a:Addr} {kvs:List (Key×V)} (e:H a=some (.dK kvs)):TyOf K H (.ref a) (.type "dict")
 | dT {a:Addr} {kvs:List (List Key×V)} (e:H a=some (.dT kvs)):TyOf K H (.ref a) (.type "dict")
 | ins {a C dx:Addr} {fs:List (Str×V)} (e:H a=some (.ins C dx fs)) (cl:Cls K C) (ha:PySem.W.findIn K (.ref C) "__class__"=some (some (.builtin "object.__class__")))
     (hn:PySem.W.specialIn K (.builtin "object.__class__") "__get__"=some (some (.builtin "getset_descriptor.__get__"))) (htk:PySem.W.takesIn K (.builtin "object.__class__")=some true)
     (hm:PySem.W.mroIn K C (.type "object")=some true):TyOf K H (.ref a) (.ref C)
theorem eY {x:V} {u t:Value} (I:Inv X pins σ H s) (rx:RelV x u) (ty:TyOf X.K H x t) (e:PySem.W.kitOne X.K t c=some b) (h:∀ tk,Q (.bool b) {s with toks:=tk}) :
  wpAny (model X.prog X.w) A (call (.builtin "isinstance") [u,c]) Q E s:=by
 cases ty with
 | non=>cases (show u=qh1 from rx);exact PySem.W.kia_one PySem.W.kitx_none I.kIn qp5 e (fun z=>nomatch z) h
 | bl y=>cases (show u=Value.bool y from rx);exact PySem.W.kia_one PySem.W.kitx_bool I.kIn qp5 e (fun z=>nomatch z) h
 | int i=>obtain ⟨t,q⟩:=(show ∃ t,u=zh2 i t from rx);cases q;exact PySem.W.kia_one PySem.W.kitx_int I.kIn qp5 e (fun z=>nomatch z) h
 | str y=>obtain ⟨t,q⟩:=(show ∃ t,u=zh3 y t from rx);cases q;exact PySem.W.kia_one PySem.W.kitx_str I.kIn qp5 e (fun z=>nomatch z) h
 | flt y=>obtain ⟨t,q⟩:=(show ∃ t,u=Value.float y t from rx);cases q;exact PySem.W.kia_one PySem.W.kitx_float I.kIn qp5 e (fun z=>nomatch z) h
 | @lst a xs ea =>cases (show u=qf3 a from rx);obtain ⟨_,_,n,_,h1⟩:=(show ObjOk X.prog X.w H s.heap a (.lst xs) from I.hok a _ ea);exact PySem.W.kia_one PySem.W.kitx_list I.kIn ⟨_,h1,rfl⟩ e (fun z=>nomatch z) h
 | @frz a ob xs ea =>cases (show u=qf3 a from rx);obtain ⟨_,_,_,n,_,h1⟩:=(show ObjOk X.prog X.w H s.heap a (.frz ob (.lst xs)) from I.hok a _ ea);exact PySem.W.kia_one PySem.W.kitx_list I.kIn ⟨_,h1,rfl⟩ e (fun z=>nomatch z) h
 | @tup a xs ea =>cases (show u=qf3 a from rx);obtain ⟨_,_,_,p⟩:=(show ObjOk X.prog X.w H s.heap a (.tup xs) from I.hok a _ ea);obtain ⟨o,h1,h2,_⟩:=p;exact PySem.W.kia_one PySem.W.kitx_tuple I.kIn ⟨o,h1,h2⟩ e (fun z=>nomatch z) h
 | @dK a kvs ea =>cases (show u=qf3 a from rx);obtain ⟨_,_,vs,_,p⟩:=(show ObjOk X.prog X.w H s.heap a (.dK kvs) from I.hok a _ ea);obtain ⟨o,es,ep,h1,h2,_⟩:=p;exact PySem.W.kia_one PySem.W.kitx_dict I.kIn ⟨o,h1,h2.1⟩ e (fun z=>nomatch z) h
 | @dT a kvs ea =>cases (show u=qf3 a from rx);obtain ⟨_,_,xs,_,o,es,ep,h1,h2,_⟩:=(show ObjOk X.prog X.w H s.heap a (.dT kvs) from I.hok a _ ea);exact PySem.W.kia_one PySem.W.kitx_dict I.kIn ⟨o,h1,h2.1⟩ e (fun z=>nomatch z) h
 | @ins a C dx fs ea cl ha hn htk hm =>cases (show u=qf3 a from rx);obtain ⟨mA,O,_⟩:=uy I.hok ea;obtain ⟨od,J,_⟩:=O.look;exact PySem.W.kia_one (PySem.W.kitx_own (cl.get _) cl.hd ha hn htk hm) I.kIn J e (fun z=>nomatch z) h
end
structure Room (k:Nat) (A:qd2):Prop where
 hd:A.handled=none
 dp:A.depth+3*k+5<recursionLimit
 un:A.units+16*k+200<cLine
theorem Room.mono {j k:Nat} {A:qd2} (r:Room k A) (h:j<=k):Room j A:=⟨r.hd,by have:=r.dp;lia,by have:=r.un;lia⟩
theorem Room.deeper {k:Nat} {A:qd2} (r:Room (k+1) A) (env:Env):Room k (A.deeper env):=⟨r.hd,by have:=r.dp;show A.depth+1+3*k+5<_;lia,by have:=r.un;show A.units+3+16*k+200<_;lia⟩
theorem Room.depth {k:Nat} {A:qd2} (r:Room k A):A.depth<recursionLimit:=by have:=r.dp;lia
theorem Room.units {k:Nat} {A:qd2} (r:Room k A):A.units+64<cLine:=by have:=r.un;lia
noncomputable def tNil:TA:=fun _ H Q=>Q [] H
noncomputable def zK (ta:TE) (tr:TA):TA:=fun σ H Q=>ta σ H fun x H1=>tr σ H1 fun xs H2=>Q (x::xs) H2
section
variable {X:Cx} {e:Expr} {es:List Expr} {te:TE} {t:TA} {pos:Pos}
theorem eC:PA X [] tNil:=fun _ _ _ _ H Q I h=>Calls.spliced_nil ⟨[],H,I,.nil,h⟩
theorem c6 (ha:PE X e te) (hr:PA X es t) (hs:qa6 (e::es) X.env=(false,eval e X.env)::qa6 es X.env:=by rfl):PA X (e::es) (zK te t):=by intro pos pins s σ H Q I h;rw [hs];show wpAny _ _ (spliced ((false,eval e X.env)::qk1 pos (qa6 es X.env))) _ _ s;refine Calls.spliced_cons (thn (ha pins s σ H _ I h) fun u s1 ⟨x,H1,I1,r1,q1⟩=>?_);exact thn (hr pos pins s1 σ H1 _ I1 q1) fun us s2 ⟨xs,H2,I2,r2,q2⟩=>⟨x::xs,H2,I2,.cons r1 r2,q2⟩
noncomputable def tTup (t:TA):TE:=fun σ H Q=>t σ H fun xs H1=>xs.length<=qa7/\∀ p,H1 p=none->Q (.ref p) (upd H1 p (.tup xs))
noncomputable def tLst (t:TA):TE:=fun σ H Q=>t σ H fun xs H1=>xs.length<=qa7/\∀ p,H1 p=none->Q (.ref p) (upd H1 p (.lst xs))
theorem xG {x1} (h:PA X es t):PE X (.Tuple es x1 pos) (tTup t):=by intro pins s σ H Q I hq;refine wpAny_Tuple_spliced (thn (h pos pins s σ H _ I hq) fun us s1 ⟨xs,H1,I1,r,z,q⟩=>⟨by rw [<- r.length];exact z,?_⟩);have hf:H1 s1.heap.objs.size=none:=I1.hok.fresh (nL _);refine ⟨.ref s1.heap.objs.size,upd H1 s1.heap.objs.size (.tup xs),I1.laid (t':=s1.toks) (fun b u e=>gP _ e) (nL _) ?_,rfl,q _ hf⟩;exact ⟨z,us,r,⟨_,qb0 _ rfl,rfl,_,rfl⟩⟩
theorem xH (h:PA X es t):PE X (.List es pos) (tLst t):=by intro pins s σ H Q I hq;refine wpAny_List_spliced (thn (h pos pins s σ H _ I hq) fun us s1 ⟨xs,H1,I1,r,z,q⟩=>⟨by rw [<- r.length];exact z,?_⟩);have hf:H1 s1.heap.objs.size=none:=I1.hok.fresh (nL _);refine ⟨.ref s1.heap.objs.size,upd H1 s1.heap.objs.size (.lst xs),I1.laid (t':=s1.toks) (fun b u e=>gP _ e) (nL _) ?_,rfl,q _ hf⟩;exact ⟨z,us,0,r,qb0 _ rfl⟩
end
abbrev Sp:=List V->Hp->VK->XK->Prop
abbrev CXT:=List Env->Hp->qa4->XK->Value->qa4->Prop
structure Env0 (P:qb5) (w:World) (K:PySem.W.Frag) (mg:Str->Option Value) (base:Heap) (A:qd2) (outer:List Env) (s:qa4) (H:Hp):Prop where
 frames:A.frames=some outer
 mod:Mod K mg base
 bs:∀ b o,base.get? b=some o->s.heap.get? b=some o/\H b=none
 bsz:base.objs.size<=s.heap.objs.size
 funs:s.heap.FunFrames base outer
 frf:∀ b∈frs outer,H b=none
 hok:HOk P w H s.heap
 bare:zb3 s.gens
 tb:∀ p∈lA K,H p.1=some (.ctab p.2)
noncomputable def CE (outer:List Env) (P:qb5) (w:World) (H:Hp) (s:qa4) (Q:VK) (u:Value) (s':qa4):Prop:=∃ v H',s'.os=s.os/\zb3 s'.gens/\Un (frs outer) [] H H' s.heap s'.heap/\HOk P w H' s'.heap/\RelV v u/\Q v H'
noncomputable def CR (CX:CXT) (outer:List Env) (P:qb5) (w:World) (H:Hp) (s:qa4) (Q:VK) (E:XK) (r:Result) (s':qa4):Prop:=
 match r with
 | .ok (.ret u)=>CE outer P w H s Q u s'
 | .ok _=>False
 | .error e=>CX outer H s E e s'
structure FnOk (P:qb5) (w:World) (K:PySem.W.Frag) (mg:Str->Option Value) (base:Heap) (CX:CXT) (k:Nat) (f:Addr) (fd:ql1) (ps:List Str) (sp:Sp):Prop where
 len:∀ vs H Q E,sp vs H Q E->vs.length=ps.length
 run:∀ (A:qd2) (outer:List Env) (s:qa4) (H:Hp) (args:Args) (us:List Value) (vs:List V) (Q:VK) (E:XK),Room k A->Env0 P w K mg base A outer s H->zh5 s fd args (ps.zip us)->Vals vs us->sp vs H Q E→
  qs7 (model P w) A (.call (.ref f) args) (CR CX outer P w H s Q E) s
theorem FnOk.imp {P:qb5} {w:World} {K:PySem.W.Frag} {mg:Str->Option Value} {base:Heap} {CX:CXT} {k:Nat} {f:Addr} {fd:ql1} {ps:List Str} {sp sp':Sp} (F:FnOk P w K mg base CX k f fd ps sp)
  (h:∀ vs H Q E,sp' vs H Q E->sp vs H Q E):FnOk P w K mg base CX k f fd ps sp':=
 ⟨fun vs H Q E q=>F.len vs H Q E (h _ _ _ _ q),fun A outer s H args us vs Q E hr he hb hv hs=>F.run A outer s H args us vs Q E hr he hb hv (h _ _ _ _ hs)⟩
section
variable {X:Cx} {pins:List (Addr×Obj)} {σ:St} {H:Hp} {s s':qa4}
theorem Inv.env0 (I:Inv X pins σ H s):Env0 X.prog X.w X.K X.mg X.base X.A X.stack s H:=⟨I.ok.frames,I.ok.mod,I.bs,qc5 I.ok.bsz I.sz,I.stack,I.stkFree,I.hok,I.bare,fun p hp=>I.base.cts _ _ (I.ok.tb p hp)⟩
theorem Inv.after {Q:VK} {u:Value} (I:Inv X pins σ H s) (h:CE X.stack X.prog X.w H s Q u s'):EP X pins σ Q u s':=by obtain ⟨v,H',os,bare,un,hok,r,q⟩:=h;obtain ⟨hh,g,d,t,os'⟩:=s';obtain rfl:os'=s.os:=os;exact ⟨v,H',I.call (h':=hh) (g':=g) (d':=d) (t':=t) (ch:=[]) un hok bare (fun b z=>absurd z (by simp)),r,q⟩
end
noncomputable def rh (sp:Sp) (dvs:List V) (E:XK) (t:TA):TE:=fun σ H Q=>t σ H fun vs H1=>sp (vs++dvs) H1 Q E
noncomputable def Binds (K:PySem.W.Frag) (fd:ql1) (ps:List Str) (ds:List Value):Prop:=∀ (s:qa4) (us:List Value),K.In s.heap->(us++ds).length=ps.length->zh5 s fd ⟨us,[]⟩ (ps.zip (us++ds))
theorem Binds.all {K:PySem.W.Frag} {fd:ql1} {ps:List Str} (h:∀ us:List Value,us.length=ps.length->bindArgs fd ⟨us,[]⟩=pure (ps.zip us)):Binds K fd ps []:=fun s us _ hl=>by rw [qg0] at hl ⊢;exact .of_eq (h us hl)
noncomputable def ni (CX:CXT) (X:Cx) (E:XK):Prop:=∀ (pins:List (Addr×Obj)) (σ:St) (H:Hp) (s:qa4) (e:Value) (s':qa4),Inv X pins σ H s->CX X.stack H s E e s'->X.xe e s'
section
variable {X:Cx} {CX:CXT} {k:Nat} {f C:Addr} {fd:ql1} {ps:List Str} {sp:Sp} {dvs:List V} {ds:List Value} {E:XK} {x m:Str} {p pos apos:Pos} {e o:Expr} {es:List Expr} {ta:TE} {t:TA}
theorem xI {pins:List (Addr×Obj)} {σ:St} {H:Hp} {s:qa4} {Q:VK} {us:List Value} {vs:List V} (F:FnOk X.prog X.w X.K X.mg X.base CX k f fd ps sp) (hr:Room k X.A) (hb:Binds X.K fd ps ds) (hd:Vals dvs ds) (hx:ni CX X E)
  (I:Inv X pins σ H s) (r:Vals vs us) (h:sp (vs++dvs) H Q E):wpAny (model X.prog X.w) X.A (call (.ref f) us) (EP X pins σ Q) X.xe s:=by
 have r2:Vals (vs++dvs) (us++ds):=r.append hd;have hl:(us++ds).length=ps.length:=by rw [<- r2.length];exact F.len _ _ _ _ h
 refine wpAny_call (qv7 (F.run X.A X.stack s H ⟨us,[]⟩ (us++ds) (vs++dvs) Q E hr I.env0 (hb s us I.kIn hl) r2 h) fun r s' hq=>?_);cases r with
 | error e=>exact hx pins σ H s e s' I hq
 | ok fl =>
  cases fl with
  | ret u=>exact I.after hq
  | next=>exact ql3 hq
  | brk=>exact ql3 hq
  | cont=>exact ql3 hq
theorem uz (F:FnOk X.prog X.w X.K X.mg X.base CX k f fd ps sp) (hr:Room k X.A) (hg:Gl X x) (hm:X.mg x=some (.ref f)) (hk:PySem.W.keepIn X.K (.ref f)=true) (hb:Binds X.K fd ps ds) (hd:Vals dvs ds) (hx:ni CX X E)
  (ha:PA X (e::es) t) (hdb:(x==("__debug__":Str))=false:=by decide) (he:qa6 (e::es) X.env=(false,eval e X.env)::qa6 es X.env:=by rfl) (hpl:(qk1 pos (qa6 es X.env)).any (·.1)=false:=by rfl) :
  PE X (.Call (.Name x p) (e::es) [] pos) (rh sp dvs E t):=by
 intro pins s σ H Q I h;refine qq1 (ou I hg hm ?_ hdb);refine PySem.W.callWith_K (h₀:=X.base) I.ok.mod.kin hk (thn (ha pos pins s σ H _ I h) fun us s1 ⟨vs,H1,I1,r,q⟩=>⟨I1.kIn,?_⟩) he hpl;exact xI F hr hb hd hx I1 r q
end
section
variable {X:Cx} {CX:CXT} {k:Nat} {f C:Addr} {fd:ql1} {ps ks:List Str} {sp:Sp} {E:XK} {x m:Str} {p pos apos kpos:Pos} {e o:Expr} {es:List Expr} {kws:List zb7} {te ta:TE} {t tk:TA} {nm:Option Str}
variable {g:List Value->List Value->List Value} {gV:List V->List V->List V}
end
structure FnScope (N P:List Str) (sc:Scope):Prop where
 kind:sc.kind=.function
 co:sc.isCoroutine=false
 gen:sc.isGenerator=false
 nd:N.Nodup
 pre:N.take P.length=P
 par:∀ x∈P,sc.names.lookup x=some .local∨sc.names.lookup x=some .cell
 nofree:∀ y∈sc.names,y.2≠.free
theorem jA {kindOf:Str->Option qp2} {x:Str}:∀ {binds:List (Str×Value)} {m:Str->Option Value},(∀ v,(x,v)∉binds)->bindL kindOf binds m x=m x
 | [],_,_=>rfl
 | (n,v)::r,m,h=>by
  unfold bindL;rw [jA fun w hw=>h w (qe4 _ hw)];split
  . have:x≠n:=by rintro rfl;exact h v qf0
    simp [this]
  . rfl
theorem jB {kindOf:Str->Option qp2} {x:Str}:∀ {binds:List (Str×Value)} {m:Str->Option Value},(∀ v,(x,v)∉binds)->bindC kindOf binds m x=m x
 | [],_,_=>rfl
 | (n,v)::r,m,h=>by
  unfold bindC;rw [jB fun w hw=>h w (qe4 _ hw)];split
  . rfl
  . have:x≠n:=by rintro rfl;exact h v qf0
    simp [this]
theorem jC {kindOf:Str->Option qp2} {x:Str} {v:Value}:∀ {P:List Str} {vs:List Value} {i:Nat} {m:Str->Option Value},P.Nodup->P[i]?=some x->vs[i]?=some v->kindOf x=some .local→
  bindL kindOf (P.zip vs) m x=some v
 | [],_,_,_,_,h,_,_=>by simp at h
 | _::_,[],_,_,_,_,h,_=>by simp at h
 | p::P,w::vs,0,m,nd,h1,h2,hk=>by
  simp at h1 h2;subst h1;subst h2
  show bindL kindOf ((p,w)::P.zip vs) m p=_;unfold bindL;rw [jA fun v hv=>(ql6.mp nd).1 (zb8 hv).1,if_pos hk];simp
 | p::P,w::vs,i+1,m,nd,h1,h2,hk=>by show bindL kindOf ((p,w)::P.zip vs) m x=_;unfold bindL;exact jC (i:=i) (ql6.mp nd).2 (by simpa using h1) (by simpa using h2) hk
theorem jD {kindOf:Str->Option qp2} {x:Str} {v:Value}:∀ {P:List Str} {vs:List Value} {i:Nat} {m:Str->Option Value},P.Nodup->P[i]?=some x->vs[i]?=some v->kindOf x≠some .local→
  bindC kindOf (P.zip vs) m x=some v
 | [],_,_,_,_,h,_,_=>by simp at h
 | _::_,[],_,_,_,_,h,_=>by simp at h
 | p::P,w::vs,0,m,nd,h1,h2,hk=>by
  simp at h1 h2;subst h1;subst h2
  show bindC kindOf ((p,w)::P.zip vs) m p=_;unfold bindC;rw [jB fun v hv=>(ql6.mp nd).1 (zb8 hv).1,if_neg hk];simp
 | p::P,w::vs,i+1,m,nd,h1,h2,hk=>by show bindC kindOf ((p,w)::P.zip vs) m x=_;unfold bindC;exact jD (i:=i) (ql6.mp nd).2 (by simpa using h1) (by simpa using h2) hk
noncomputable def start (N:List Str) (vs:List V):St:=vs.map some++qd3 (N.length-vs.length) none
noncomputable def iB (CX:CXT) (P:qb5) (w:World) (K:PySem.W.Frag) (mg:Str->Option Value) (base:Heap) (N:List Str) (qual:Str) (scope:Scope) (f:Addr) (cd:Value) (A:qd2) (outer:List Env) (s:qa4) (H:Hp) (E:XK):Cx where
 prog:=P
 w:=w
 K:=K
 mg:=mg
 base:=base
 A:=A.deeper (qx2 qual scope s.heap.objs.size f cd)
 N:=N
 s₀:=s
 H₀:=H
 env:=qx2 qual scope s.heap.objs.size f cd
 outer:=outer
 stack:=qx2 qual scope s.heap.objs.size f cd::outer
 ex:=[]
 calm:=true
 fn:=fun _=>true
 pn:=[]
 xe:=fun e s'=>wpAny (model P w) (A.deeper (qx2 qual scope s.heap.objs.size f cd)) (leaving (qx2 qual scope s.heap.objs.size f cd) e) (fun _ s''=>CX outer H s E e s'') (fun e' s''=>CX outer H s E e' s'') s'
theorem lE {sc:Scope} {n:Nat} {x:Str} (h:sc.names.lookup x=some .cell):∃ c,(cellsFrom n sc.names []).lookup x=some c:=by have q:=PySem.W.cellsFrom_some sc.names n [] (.inl h);exact qx3.mp q
theorem p6 {CX:CXT} {P:qb5} {w:World} {K:PySem.W.Frag} {mg:Str->Option Value} {base:Heap} {N ps:List Str} {qual:Str} {scope:Scope} {f:Addr} {cd:Value} {A:qd2} {outer:List Env} {s s1:qa4} {H:Hp} {E:XK} {us:List Value} {vs:List V}
  (S:FnScope N ps scope) (hd:A.handled=none) (e0:Env0 P w K mg base A outer s H) (hl:vs.length=ps.length) (r:Vals vs us)
  (x:InCallC s s.heap.objs.size (bindL (qx2 qual scope s.heap.objs.size f cd).kindOf (ps.zip us) fun _=>none) (cellsFrom (s.heap.objs.size+1) scope.names []) (bindC (qx2 qual scope s.heap.objs.size f cd).kindOf (ps.zip us) fun _=>none) s1) :
  Inv (iB CX P w K mg base N qual scope f cd A outer s H E) [] (start N vs) H s1:=by
 have hpl:ps.length<=N.length:=by have:=congrArg qj7 S.pre;rw [za3] at this;lia
 obtain ⟨h1,tk,rfl,hk⟩:=x.done;have noA:∀ b:Addr,b∉(iB CX P w K mg base N qual scope f cd A outer s H E).ex:=fun b z=>absurd (show b∈([]:List Addr) from z) (by simp)
 refine ⟨⟨e0.mod,S.kind,rfl,rfl,nL _,fun y z c h1 h2=>?_,fun y hy=>?_,fun y c _ h=>?_,fun _=>hd,qd2.frames_deeper e0.frames,.inr ⟨rfl,rfl⟩,fun b z=>absurd z (noA b),e0.bs,e0.bsz,fun b _ _=>noA b,fun b z=>absurd z (noA b),e0.funs,e0.frf,e0.tb⟩,rfl,e0.bare,Un.kept hk,⟨_,x.toInCall.ns,fun i y v h1 h2 h3=>?_⟩,fun y c h=>⟨_,x.cell y c h⟩,e0.hok.fresh (qy7 _),fun y c h=>?_,fun p hp=>absurd (show p∈([]:List (Addr×Obj)) from hp) (by simp),e0.hok.kept hk,?_⟩
 . exact name_of_addr x.apart (PySem.mem_of_lookup h1) (PySem.mem_of_lookup h2)
 . have hy:scope.names.lookup y=some .cell∨scope.names.lookup y=some .free:=hy;rcases hy with hy | hy
   . exact lE hy
   . exact absurd rfl (S.nofree _ (PySem.mem_of_lookup hy))
 . exact qn3 (x.above y c (PySem.mem_of_lookup h))
 . have hi:i<vs.length:=by
    unfold start at h2;by_cases hi:i<vs.length
    . exact hi
    . rw [qg2 (by simpa using hi)] at h2;rw [qm4] at h2;split at h2<;>cases h2
   have ha:vs[i]?=some v:=by
    unfold start at h2;rw [qc2 (by simpa using hi),qb9] at h2;cases e:vs[i]? with
    | none=>rw [e] at h2;cases h2
    | some a=>rw [e] at h2;cases h2;rfl
   obtain ⟨u,hu,rv⟩:=r.get ha
   have hp:ps[i]?=some y:=by rw [<- S.pre,List.getElem?_take_of_lt (by lia)];exact h1
   have ndP:ps.Nodup:=by rw [<- S.pre];exact S.nd.sublist (List.take_sublist _ _)
   refine ⟨u,rv,?_⟩;rcases S.par y (qf9 hp) with k | k
   . exact .inl ⟨k,jC ndP hp hu k⟩
   . obtain ⟨c,e⟩:=lE (n:=s.heap.objs.size+1) k;refine .inr ⟨.inl k,c,e,?_⟩;have q:=x.cell y c e;rw [jD ndP hp hu (by show scope.names.lookup y≠_;rw [k];decide)] at q;exact q
 . exact e0.hok.fresh (qn3 (x.above y c (PySem.mem_of_lookup h)))
 . unfold start;show _=N.length;rw [qb2,qa3,List.length_replicate];lia
theorem zL {CX:CXT} {P:qb5} {w:World} {K:PySem.W.Frag} {mg:Str->Option Value} {base:Heap} {k:Nat} {f:Addr} {name qual:Str} {params:qq2} {body:List Stmt} {scope:Scope} {dV kV doc pm cdv ct oc:Value} {an od:Option Addr}
  {osl:Array (Option Value)} {N ps:List Str} {sp:Sp} (lk:K.lookup f=some ⟨oc,od,.func (PySem.W.fnOf name qual params body scope dV kV doc pm an cdv ct),osl⟩) (hcd:PySem.W.codeIn K cdv qual=true) (S:FnScope N ps scope)
  (len:∀ vs H Q E,sp vs H Q E->vs.length=ps.length)
  (hbody:∀ (A:qd2) (outer:List Env) (s:qa4) (H:Hp) (vs:List V) (Q:VK) (E:XK),Room k (A.deeper (qx2 qual scope s.heap.objs.size f cdv))->sp vs H Q E→
   ∃ t,PSs (iB CX P w K mg base N qual scope f cdv A outer s H E) body t/\t {nx:=fun _ H'=>Q .non H',rt:=Q} (start N vs) H) :
  FnOk P w K mg base CX (k+1) f (PySem.W.fnOf name qual params body scope dV kV doc pm an cdv ct) ps sp:=by
 refine ⟨len,fun A outer s H args us vs Q E hr e0 hb r hsp=>?_⟩;have hl:=len _ _ _ _ hsp;have KX:K.In s.heap:=e0.mod.kin.keeps fun b o e=>(e0.bs b o e).1
 have lim:s.heap.NoLimit:=e0.mod.nolimit.keeps fun b o e=>(e0.bs b o e).1
 have hkind:∀ y∈ps.zip us,scope.names.lookup y.1=some .local∨(scope.names.lookup y.1=some .cell/\((cellsFrom (s.heap.objs.size+1) scope.names []).lookup y.1).isSome=true):=fun ⟨n,v⟩ hy=>by
  rcases S.par n (zb8 hy).1 with q | q
  . exact .inl q
  . exact .inr ⟨q,PySem.W.cellsFrom_some _ _ _ (.inl q)⟩
 refine codeAny_call_function hr.depth (KX _ _ lk) rfl S.co S.gen rfl (PySem.W.codeRec_of KX hcd) (hb _ _ _ _ ?_);refine wpAny_newFunctionEnv_cells S.kind hkind fun env he s1 x=>?_
 subst he;refine ⟨lim.keeps x.toInCall.keep,codeAny_func ?_⟩;obtain ⟨t,ht,hq⟩:=hbody A outer s H vs Q E (hr.deeper _) hsp;have I:Inv (iB CX P w K mg base N qual scope f cdv A outer s H E) [] (start N vs) H s1:=p6 S hr.hd e0 hl r x;refine qk3 (ht [] s1 (start N vs) H _ I hq) (fun fl s' hs=>?_) fun e s' hs=>hs
 have fin:∀ {σ':St} {H':Hp} {v:V} {u:Value},Inv (iB CX P w K mg base N qual scope f cdv A outer s H E) [] σ' H' s'->RelV v u->Q v H'->CE outer P w H s Q u s':=fun {σ' H' v u} J rv q=>⟨v,H',J.os,J.bare,J.base,J.hok,rv,q⟩
 cases fl with
 | ret u =>obtain ⟨v,σ',H',J,rv,q⟩:=hs;exact fin J rv q
 | next =>obtain ⟨σ',H',J,q⟩:=hs;exact fin (v:=V.non) (u:=qh1) J rfl q
 | brk =>obtain ⟨_,_,_,q⟩:=hs;exact ql3 q
 | cont =>obtain ⟨_,_,_,q⟩:=hs;exact ql3 q
section
variable {X:Cx} {x:Str} {p pos:Pos} {e:Expr} {es:List Expr} {t:TA} {id T:String} {r:List V->Hp->VK->Prop}
noncomputable def tCB (r:List V->Hp->VK->Prop) (t:TA):TE:=fun σ H Q=>t σ H fun vs H1=>r vs H1 Q
theorem rj (hc:da X (.builtin id) r) (hg:Gl X x) (hm:X.mg x=none) (hv:qd7 x=some (.builtin id)) (ha:PA X (e::es) t) (hn:x≠"__name__":=by decide) (hdb:(x==("__debug__":Str))=false:=by decide)
  (he:qa6 (e::es) X.env=(false,eval e X.env)::qa6 es X.env:=by rfl) (hpl:(qk1 pos (qa6 es X.env)).any (·.1)=false:=by rfl):PE X (.Call (.Name x p) (e::es) [] pos) (tCB r t):=by
 intro pins s σ H Q I h;refine qq1 (fH I hg hm hv ?_ hn hdb);exact PyProof.Rows.callWith_builtin1 (thn (ha pos pins s σ H _ I h) fun us s1 ⟨vs,H1,I1,r1,q1⟩=>hc pins s1 σ H1 vs us Q I1 r1 q1) he hpl
theorem p7 (hc:da X (.type T) r) (hg:Gl X x) (hm:X.mg x=none) (hv:qd7 x=some (.type T)) (ha:PA X (e::es) t) (hn:x≠"__name__":=by decide) (hdb:(x==("__debug__":Str))=false:=by decide)
  (he:qa6 (e::es) X.env=(false,eval e X.env)::qa6 es X.env:=by rfl) (hpl:(qk1 pos (qa6 es X.env)).any (·.1)=false:=by rfl):PE X (.Call (.Name x p) (e::es) [] pos) (tCB r t):=by
 intro pins s σ H Q I h;refine qq1 (fH I hg hm hv ?_ hn hdb);exact qj5 (thn (ha pos pins s σ H _ I h) fun us s1 ⟨vs,H1,I1,r1,q1⟩=>hc pins s1 σ H1 vs us Q I1 r1 q1) he hpl
end
end L2
namespace HT
open PySem PyProof.Rows
section
open PySem.SeqAt
open PySem.AutoSeq1 (wpAny_loadPart')
open PySem.MeetsSeq PySem.MeetsSeq2 PySem.MeetsSeq3
end
section
variable {prog:qb5} {w:World} {A:qd2} {E:Value->qa4->Prop} {s:qa4}
theorem AF {t b:Addr} {vs ws:List Value} {Q:Value->qa4->Prop} (ht:IsTup s.heap t vs.toArray) (hb:IsTup s.heap b ws.toArray) (hv:vs≠[])
  (h1:ws=[]->Q (.ref t) s) (h2:ws≠[]->Q (.ref s.heap.objs.size) {s with heap:=s.heap.push {cls:=.type "tuple",data:=.seq (vs++ws).toArray}})
  (hsz:vs.length+ws.length<=qa7):wpAny (model prog w) A (qk5 .Add (.ref t) (.ref b)) Q E s:=by
 obtain ⟨⟨cls,dd,data,sl⟩,ho,hc,n,hd⟩:=id ht;obtain ⟨⟨cls2,dd2,data2,sl2⟩,ho2,hc2,n2,hd2⟩:=id hb;simp only at hc hd hc2 hd2;subst hc hd hc2 hd2;have e:vs.toArray++ws.toArray=(vs++ws).toArray:=by simp
 by_cases hw:ws=[]
 . exact qv8 ⟨_,ho,rfl⟩ ⟨_,ho2,rfl⟩ qs8 qz1 PySem.F.slot_tuple_add PySem.F.entry_tuple_add (PySem.F.args_tuple_add_2 _ _)
    (tuple_addW1 t b vs.toArray ws.toArray n n2 dd dd2 sl sl2 (by simpa using hv) (by simp [hw])) ⟨ho,ho2,h1 hw⟩
 . refine qv8 ⟨_,ho,rfl⟩ ⟨_,ho2,rfl⟩ qs8 qz1 PySem.F.slot_tuple_add PySem.F.entry_tuple_add (PySem.F.args_tuple_add_2 _ _)
    (tuple_addW2 t b vs.toArray ws.toArray n n2 dd dd2 sl sl2 (by simpa using hv) (by simpa using hw) (by rw [qb3,qb3];exact hsz)) ⟨ho,ho2,?_⟩
   rw [e];exact h2 hw
noncomputable def sIx (n d:Nat):Option Int->Nat
 | none=>d
 | some v=>if v<0 then (v+(n:Int)).toNat else min v.toNat n
theorem zM (n d:Nat):sIx n d none=d:=rfl
theorem AG (n d k:Nat):sIx n d (some (k:Int))=min k n:=by show (if (k:Int)<0 then ((k:Int)+(n:Int)).toNat else min (k:Int).toNat n)=min k n;rw [if_neg (by lia),qd5]
theorem xJ (n d:Nat) (hd:d<=n) (o:Option Int):sIx n d o<=n:=by
 cases o with
 | none=>exact hd
 | some v =>
  show (if v<0 then (v+(n:Int)).toNat else min v.toNat n)<=n;by_cases hv:v<0
  . rw [if_pos hv];lia
  . rw [if_neg hv];exact Nat.min_le_right _ _
theorem oD (v:Int) (n d:Nat):(if v<0 then max (v+(n:Int)) 0 else min v (n:Int))=((sIx n d (some v):Nat):Int):=by
 show (if v<0 then max (v+(n:Int)) 0 else min v (n:Int))=(((if v<0 then (v+(n:Int)).toNat else min v.toNat n):Nat):Int);by_cases hv:v<0
 . simp only [if_pos hv];lia
 . simp only [if_neg hv];lia
theorem nj (lo hi:Option Int) (n:Nat):qo9 lo hi 1 (n:Int)=(((sIx n 0 lo:Nat):Int),((sIx n n hi:Nat):Int)):=by
 have h1:¬ ((1:Int)<0):=by lia
 unfold qo9;simp only [h1,if_false];refine Prod.ext ?_ ?_
 . cases lo with
   | none=>rfl
   | some v=>exact oD v n 0
 . cases hi with
   | none=>rfl
   | some v=>exact oD v n n
theorem nn (i j:Nat):qk7 (i:Int) (j:Int) 1=j-i:=by
 unfold qk7;have h1:(1:Int) > 0:=by lia
 simp only [h1,if_true,Int.ediv_one];split<;>lia
theorem iC {v:Value} {o:Option Int} {Q:Option Int->qa4->Prop} (p:ze0 v o) (h:Q o s):wpAny (model prog w) A (qj8.Slice.slicePartIndex v) Q E s:=by
 cases p with
 | none=>exact slicePart_none h
 | int i t=>exact slicePart_int h
theorem dB {sl:Addr} {vl vu:Value} {lo hi:Option Int} {n:Nat} {Q:Int×Int×Nat->qa4->Prop} (hs:s.heap.IsSliceOf sl vl vu .none) (pl:ze0 vl lo) (pu:ze0 vu hi)
  (h:Q (((sIx n 0 lo:Nat):Int),1,sIx n n hi-sIx n 0 lo) s):wpAny (model prog w) A (qv3 (.ref sl) (pure (n:Int))) Q E s:=by
 obtain ⟨os,hos,hcs,hds⟩:=id hs;unfold qv3 qj8.Slice.sliceFields;refine wB (wB (qr3 hos hds (x:=vl) rfl (wB (qr3 hos hds (x:=vu) rfl (wB (qr3 hos hds (x:=.none) rfl (qa2 ?_)))))));refine wB (slicePart_none ?_);show wpAny _ _ (if ((1:Int)==0)=true then _ else _) _ _ s;rw [if_neg (by decide)];refine wB (iC pl (wB (iC pu (wB (qa2 ?_)))));show wpAny _ _ (match qo9 lo hi 1 (n:Int) with | (lo,hi)=>pure (lo,(1:Int),qk7 lo hi 1)) _ _ s;rw [nj lo hi n];show wpAny _ _ (pure (((sIx n 0 lo:Nat):Int),(1:Int),qk7 ((sIx n 0 lo:Nat):Int) ((sIx n n hi:Nat):Int) 1)) _ _ s;rw [nn];exact qa2 h
theorem rk (xs:Array Value) (i k:Nat):((qb8 k).filterMap fun (m:Nat)=>xs[((i:Int)+(m:Int)*1).toNat]?).toArray=((xs.toList.drop i).take k).toArray:=by
 have e:(fun (m:Nat)=>xs[((i:Int)+(m:Int)*1).toNat]?)=fun m=>xs[i+m]?:=by
  funext m;have:((i:Int)+(m:Int)*1).toNat=i+m:=by lia
  rw [this]
 rw [e];have:=pick_run xs i k;rw [List.filterMap_map] at this;have e2:((fun x=>xs[x]?) ∘ fun x=>i+x)=fun m=>xs[i+m]?:=rfl
 rw [e2] at this;rw [this]
theorem oE {t sl:Addr} {items:Array Value} {vl vu:Value} {lo hi:Option Int} {Q:Value->qa4->Prop} (ht:IsTup s.heap t items) (hs:s.heap.IsSliceOf sl vl vu .none) (pl:ze0 vl lo) (pu:ze0 vu hi)
  (hw:¬ (sIx items.size 0 lo=0/\sIx items.size items.size hi=items.size))
  (h:Q (.ref s.heap.objs.size) {s with heap:=s.heap.push {cls:=.type "tuple",data:=.seq ((items.toList.drop (sIx items.size 0 lo)).take (sIx items.size items.size hi-sIx items.size 0 lo)).toArray}})
  (hsz:items.size<=qa7):wpAny (model prog w) A (qz2 (.ref t) (.ref sl)) Q E s:=by
 have htake:sizeOk (.seq ((items.toList.drop (sIx items.size 0 lo)).take (sIx items.size items.size hi-sIx items.size 0 lo)).toArray):=by show ((items.toList.drop (sIx items.size 0 lo)).take (sIx items.size items.size hi-sIx items.size 0 lo)).toArray.size<=qa7;rw [qb3,za3,List.length_drop,qe2];lia
 have hj:sIx items.size items.size hi<=items.size:=xJ _ _ (nL _) hi;obtain ⟨os,hos,hcs,hds⟩:=id hs;have hTs:s.TypeIs (.ref sl) "slice":=⟨os,hos,hcs⟩;unfold qz2
 try with_reducible refine qg9 ?_
 first | refine wB (qa2 ?_) | skip
 refine wB (wpAny_sequenceKey ht.typeIs (by decide) ?_)
 refine wB (qd9 (name:=qa0 "__getitem__") ht.typeIs qe8
  (qe5 qe8 ht.typeIs entry_tuple_getitem ?_ (args_tuple_getitem _ _)))
 show wpAny _ _ (qv4 (.ref t) >>= _) _ _ s;refine wB (tupleItemsOf_ ht ?_);refine wB (qv9 hTs ?_);rw [if_pos (by decide)];refine wB (dB hs pl pu ?_)
 have hno:¬ ((((sIx items.size 0 lo:Nat):Int)==0&&(1:Int)==1&&(sIx items.size items.size hi-sIx items.size 0 lo)==items.size)=true):=by intro q;rw [qb1,qb1] at q;have q1:((sIx items.size 0 lo:Nat):Int)=0:=eq_of_beq q.1.1;have q2:sIx items.size items.size hi-sIx items.size 0 lo=items.size:=eq_of_beq q.2;exact hw ⟨by lia,by lia⟩
 show wpAny _ _ (if (((sIx items.size 0 lo:Nat):Int)==0&&(1:Int)==1&&(sIx items.size items.size hi-sIx items.size 0 lo)==items.size)=true then _ else _) _ _ s;rw [if_neg hno,rk]
 first
  | exact wB (m:=ql7 _) (qc8 (qa2 ⟨_,rfl,qa2 h⟩) htake)
  | exact wB (m:=ql7 _) (qc8 (wB (qa2 (qa2 ⟨_,rfl,qa2 h⟩))) htake)
  | exact wB (wB (m:=ql7 _) (qc8 (qa2 (qa2 ⟨_,rfl,qa2 h⟩)) htake))
  | exact wB (wB (m:=ql7 _) (qc8 (qa2 ⟨_,rfl,qa2 h⟩) htake))
end
end HT
namespace L2
open PySem PySem.Spec PyProof.Rows
abbrev TO:=St->Hp->(Option Int->Hp->Prop)->Prop
noncomputable def PO (X:Cx) (e:Option Expr) (t:TO):Prop:=
 ∀ (pins:List (Addr×Obj)) (s:qa4) (σ:St) (H:Hp) (Q:Option Int->Hp->Prop),Inv X pins σ H s->t σ H Q→
  wpAny (model X.prog X.w) X.A (evalPart e X.env) (fun u s'=>∃ o H',Inv X pins σ H' s'/\ze0 u o/\Q o H') X.xe s
noncomputable def uA:TO:=fun _ H Q=>Q none H
noncomputable def zN (t:TE):TO:=fun σ H Q=>t σ H fun x H1=>∃ i,x=.int i/\Q (some i) H1
theorem fK {ns:List Int}:∀ {us:List Value},Vals (ns.map V.int) us->zb9 us ns:=by
 induction ns with
 | nil=>intro us r;rw [qh2] at r;cases r;exact .nil
 | cons n ns ih =>
  intro us r;rw [qa5] at r;cases r with
  | cons r1 r2 =>obtain ⟨t,e⟩:=r1;subst e;exact .cons n t (ih r2)
section
variable {X:Cx} {e:Expr} {te:TE} {lo hi:Option Expr} {tl th:TO} {pos p2:Pos}
theorem uB:PO X none uA:=by intro pins s σ H Q I h;rw [evalPart_none];exact qa2 ⟨none,H,I,.none,h⟩
theorem uC (h:PE X e te):PO X (some e) (zN te):=by
 intro pins s σ H Q I hw;rw [evalPart_some];refine thn (h pins s σ H _ I hw) fun u s1 ⟨x,H1,I1,r1,q1⟩=>?_
 obtain ⟨i,rfl,q⟩:=q1;obtain ⟨t,rfl⟩:=r1;exact ⟨some i,H1,I1,.int i t,q⟩
noncomputable def SlR (X:Cx) (r:V->Option Int->Option Int->Hp->VK->Prop):Prop:=
 ∀ (pins:List (Addr×Obj)) (s:qa4) (σ:St) (H:Hp) (x:V) (v vl vu:Value) (lo hi:Option Int) (sl:Addr) (Q:VK),Inv X pins σ H s->RelV x v->s.heap.IsSliceOf sl vl vu .none->ze0 vl lo->ze0 vu hi->r x lo hi H Q→
  ∃ T id,typeLookup (.type T) "__getitem__"=pure (some (.builtin id))/\s.TypeIs v T/\wpAny (model X.prog X.w) X.A (qz2 v (.ref sl)) (EP X pins σ Q) X.xe s
theorem SlR.or {r r':V->Option Int->Option Int->Hp->VK->Prop} (h:SlR X r) (h':SlR X r'):SlR X (fun x lo hi H Q=>r x lo hi H Q∨r' x lo hi H Q):=by
 intro pins s σ H x v vl vu lo hi sl Q I rx hs pl pu q;rcases q with q | q
 . exact h pins s σ H x v vl vu lo hi sl Q I rx hs pl pu q
 . exact h' pins s σ H x v vl vu lo hi sl Q I rx hs pl pu q
noncomputable def tSl (r:V->Option Int->Option Int->Hp->VK->Prop) (te:TE) (tl th:TO):TE:=fun σ H Q=>te σ H fun x H1=>tl σ H1 fun l H2=>th σ H2 fun u H3=>r x l u H3 Q
theorem lF {r:V->Option Int->Option Int->Hp->VK->Prop} (hr:SlR X r) (he:PE X e te) (hl:PO X lo tl) (hu:PO X hi th):PE X (.Subscript e (.Slice lo hi none p2) pos) (tSl r te tl th):=by
 intro pins s σ H Q I h;refine Subscript_ (thn (he pins s σ H _ I h) fun v s1 ⟨x,H1,I1,r1,q1⟩=>?_);refine wpAny_Slice (thn (hl pins s1 σ H1 _ I1 q1) fun vl s2 ⟨l,H2,I2,pl,q2⟩=>thn (hu pins s2 σ H2 _ I2 q2) fun vu s3 ⟨u,H3,I3,pu,q3⟩=>?_);rw [evalPart_none];refine qa2 ?_;have I4:Inv X pins σ H3 {s3 with heap:=s3.heap.push {cls:=.type "slice",data:=.fields #[vl,vu,.none]}}:=I3.kept (t':=s3.toks) fun b ob q=>gP _ q
 obtain ⟨T,id,hT,ht,hg⟩:=hr pins {s3 with heap:=s3.heap.push {cls:=.type "slice",data:=.fields #[vl,vu,.none]}} σ H3 x v vl vu l u s3.heap.objs.size Q I4 r1 (Heap.IsSliceOf.new ..) pl pu q3;show wpAny (model X.prog X.w) X.A (zf4 e (.Slice lo hi none p2) v (.ref s3.heap.objs.size)) (EP X pins σ Q) X.xe {s3 with heap:=s3.heap.push {cls:=.type "slice",data:=.fields #[vl,vu,.none]}};exact tail_any (ops:=[.ref s3.heap.objs.size,v]) ht hT hg (by with_unfolding_all rfl)
noncomputable def lG (xs:List V) (lo hi:Option Int):List V:=(xs.drop (HT.sIx xs.length 0 lo)).take (HT.sIx xs.length xs.length hi-HT.sIx xs.length 0 lo)
theorem g9 (xs:List V) (lo hi:Option Int):(lG xs lo hi).length<=xs.length:=by unfold lG;rw [za3,List.length_drop];lia
noncomputable def rSlT (K:PySem.W.Frag):V->Option Int->Option Int->Hp->VK->Prop:=fun x lo hi H Q=>∃ a xs,x=.ref a/\SqT K H a xs∧¬ (HT.sIx xs.length 0 lo=0/\HT.sIx xs.length xs.length hi=xs.length)/\∀ p,H p=none->Q (.ref p) (upd H p (.tup (lG xs lo hi)))
theorem xK:SlR X (rSlT X.K):=by
 intro pins s σ H x v vl vu lo hi sl Q I rx hs pl pu h;obtain ⟨a,xs,rfl,hx,hw,q⟩:=h;cases rx;obtain ⟨its,r,ht,hz⟩:=I.tuple hx;have hlen:its.toArray.size=xs.length:=by rw [qb3];exact r.length.symm
 refine ⟨"tuple",_,qe8.lookup,ht.typeIs,?_⟩;refine HT.oE ht hs pl pu (by rw [hlen];exact hw) ?_ (by rw [hlen];exact hz);rw [hlen];refine ⟨.ref s.heap.objs.size,_,I.laid (t':=s.toks) (o:=.tup (lG xs lo hi)) (fun b ob q=>gP _ q) (nL _) ?_,rfl,q _ (I.hok.fresh (nL _))⟩;exact ⟨qc5 (g9 xs lo hi) hz,_,(r.drop (HT.sIx xs.length 0 lo)).take (HT.sIx xs.length xs.length hi-HT.sIx xs.length 0 lo),IsTup.new _ _⟩
noncomputable def wg (K:PySem.W.Frag):R2:=fun x y H Q=>∃ a b xs ys,x=.ref a/\y=.ref b/\SqT K H a xs/\SqT K H b ys/\xs≠[]/\xs.length+ys.length<=qa7∧(ys=[]->Q (.ref a) H)/\(ys≠[]->∀ p,H p=none->Q (.ref p) (upd H p (.tup (xs++ys))))
theorem Vals.nil_iff {xs:List V} {us:List Value} (r:Vals xs us):us=[]↔xs=[]:=by
 cases r with
 | nil=>simp
 | cons _ _=>simp
theorem uD:OpR X (qk5 .Add) (wg X.K):=by intro pins s σ H x y v u Q I rx ry h;obtain ⟨a,b,xs,ys,rfl,rfl,ha,hb,hx,hz,q1,q2⟩:=h;cases rx;cases ry;obtain ⟨its,r1,p1,_⟩:=I.tuple ha;obtain ⟨its2,r2,p2,_⟩:=I.tuple hb;refine HT.AF p1 p2 (fun z=>hx (r1.nil_iff.mp z)) (fun z=>⟨.ref a,H,I,rfl,q1 (r2.nil_iff.mp z)⟩) (fun z=>?_) (by rw [<- r1.length,<- r2.length];exact hz);refine ⟨.ref s.heap.objs.size,_,I.laid (t':=s.toks) (o:=.tup (xs++ys)) (fun b ob q=>gP _ q) (nL _) ?_,rfl,q2 (fun w=>z (r2.nil_iff.mpr w)) _ (I.hok.fresh (nL _))⟩;exact ⟨by rw [qb2];exact hz,_,r1.append r2,IsTup.new _ _⟩
end
noncomputable def ixN (n:Nat) (i:Int):Option Nat:=if 0<=i then (if i<n then some i.toNat else none) else if -(n:Int)<=i then some (i+n).toNat else none
noncomputable def atI {α:Type} (xs:List α) (i:Int):Option α:=(ixN xs.length i).bind fun j=>xs[j]?
theorem oF {n:Nat} {i:Int} {j:Nat} (h:ixN n i=some j):seqIndex? i n=some j/\j<n/\-(n:Int)<=i/\i<n:=by
 unfold ixN at h;by_cases h0:0<=i
 . rw [if_pos h0] at h;by_cases h1:i<n
   . rw [if_pos h1] at h;have e:i.toNat=j:=qe1 h;exact ⟨by rw [seqIndex_of h0 h1,e],by lia,by lia,h1⟩
   . rw [if_neg h1] at h;cases h
 . rw [if_neg h0] at h;by_cases h1:-(n:Int)<=i
   . rw [if_pos h1] at h;have e:(i+n).toNat=j:=qe1 h;exact ⟨by rw [seqIndex_neg (by lia) h1,e],by lia,h1,by lia⟩
   . rw [if_neg h1] at h;cases h
theorem kA {α:Type} {xs:List α} {i:Int} {v:α} (h:atI xs i=some v):∃ j,seqIndex? i xs.length=some j/\xs[j]?=some v/\j<xs.length/\-(xs.length:Int)<=i/\i<xs.length:=by
 unfold atI at h;cases e:ixN xs.length i with
 | none=>rw [e] at h;cases h
 | some j =>rw [e] at h;obtain ⟨h1,h2,h3,h4⟩:=oF e;exact ⟨j,h1,h,h2,h3,h4⟩
theorem uE {α:Type} {xs:List α} {j:Nat} {v:α} (h:xs[j]?=some v):atI xs (j:Int)=some v:=by
 have hj:j<xs.length:=(gX h).1
 have e:ixN xs.length (j:Int)=some j:=by unfold ixN;rw [if_pos (by lia),if_pos (by lia)];simp
 unfold atI;rw [e];exact h
noncomputable def oG (b:Expr):Prop:=∀ o i,ze3 b false o i=operate [o,i] (qz2 o i)
noncomputable def IxR (X:Cx) (r:R2):Prop:=
 ∀ (value slice:Expr) (pins:List (Addr×Obj)) (s:qa4) (σ:St) (H:Hp) (x y:V) (v u:Value) (Q:VK),Inv X pins σ H s->RelV x v->RelV y u->r x y H Q→
  ze3 slice false v u=operate [v,u] (qz2 v u)->wpAny (model X.prog X.w) X.A (zf4 value slice v u) (EP X pins σ Q) X.xe s
noncomputable def MtR (X:Cx) (id:String) (r:V->List V->Hp->VK->Prop):Prop:=
 ∀ (pins:List (Addr×Obj)) (s:qa4) (σ:St) (H:Hp) (x:V) (xs:List V) (v:Value) (us:List Value) (Q:VK),Inv X pins σ H s->RelV x v->Vals xs us->r x xs H Q→
  wpAny (model X.prog X.w) X.A (call (.builtin id) (v::us)) (EP X pins σ Q) X.xe s
section
variable {X:Cx} {a b:Expr} {ta tb:TE} {pos:Pos}
theorem IxR.or {r r':R2} (h:IxR X r) (h':IxR X r'):IxR X (fun x y H Q=>r x y H Q∨r' x y H Q):=by
 intro value slice pins s σ H x y v u Q I rx ry q hs;rcases q with q | q
 . exact h value slice pins s σ H x y v u Q I rx ry q hs
 . exact h' value slice pins s σ H x y v u Q I rx ry q hs
theorem zO {r:R2} (hr:IxR X r) (ha:PE X a ta) (hb:PE X b tb) (hs:oG b):PE X (.Subscript a b pos) (tOp r ta tb):=by intro pins s σ H Q I h;exact Subscript_ (xy ha hb I h fun v u s2 x y H2 I2 rx ry q=>hr a b pins s2 σ H2 x y v u Q I2 rx ry q (hs _ _))
noncomputable def rIxL (K:PySem.W.Frag):R2:=fun x y H Q=>∃ p xs i v,x=.ref p/\y=.int i/\SqL K H p xs/\atI xs i=some v/\Q v H
noncomputable def rIxT (K:PySem.W.Frag):R2:=fun x y H Q=>∃ p xs i v,x=.ref p/\y=.int i/\SqT K H p xs/\atI xs i=some v/\Q v H
noncomputable def rIxS:R2:=fun x y H Q=>∃ z i c,x=.str z/\y=.int i/\z.length<=qa7/\atI z.cps.toList i=some c/\Q (.str ⟨#[c]⟩) H
theorem ix_list:IxR X (rIxL X.K):=by
 intro value slice pins s σ H x y v u Q I rx ry h hs;obtain ⟨p,xs,i,z,rfl,rfl,hq,he,q⟩:=h;cases rx;obtain ⟨t,rfl⟩:=ry;obtain ⟨its,r,pl,hz⟩:=I.list hq;obtain ⟨j,h1,h2,h3,h4,h5⟩:=kA he;obtain ⟨w,ew,rw'⟩:=r.get h2;have hl:=r.length;have hn:=gz;have fin:EP X pins σ Q w s:=⟨z,H,I,rw',q⟩;by_cases h0:0<=i
 . have hj:i.toNat=j:=by rw [seqIndex_of h0 h5] at h1;exact qe1 h1
   exact item_listR pl.isList h0 (by lia) (by rw [hj];simpa using ew) fin hs
 . have hj:(i+(its.toArray.size:Int)).toNat=j:=by rw [seqIndex_neg (by lia) h4] at h1;rw [qb3,<- hl];exact qe1 h1
   exact za8 (x:=w) pl.isList.typeIs slot_list_getitem.lookup
    (wpAny_getItem_list_neg (Q:=fun r s'=>r=w/\EP X pins σ Q r s') pl.isList (by lia) (by rw [qb3]<;>lia) (by lia) (by rw [hj];simpa using ew) ⟨rfl,fin⟩) hs
theorem ix_tup:IxR X (rIxT X.K):=by
 intro value slice pins s σ H x y v u Q I rx ry h hs;obtain ⟨p,xs,i,z,rfl,rfl,hq,he,q⟩:=h;cases rx;obtain ⟨t,rfl⟩:=ry;obtain ⟨its,r,pl,hz⟩:=I.tuple hq;obtain ⟨j,h1,h2,h3,h4,h5⟩:=kA he;obtain ⟨w,ew,rw'⟩:=r.get h2;have hl:=r.length;have hn:=gz;have fin:EP X pins σ Q w s:=⟨z,H,I,rw',q⟩
 exact za8 (x:=w) pl.typeIs slot_tuple_getitem.lookup
  (getItem_tuple (j:=j) (Q:=fun r s'=>r=w/\EP X pins σ Q r s') pl (by lia) (by lia) (by rw [qb3,<- hl];exact h1) (by simpa using ew) ⟨rfl,fin⟩) hs
theorem xL:IxR X rIxS:=by
 intro value slice pins s σ H x y v u Q I rx ry h hs;obtain ⟨z,i,c,rfl,rfl,hz,he,q⟩:=h;obtain ⟨t,rfl⟩:=rx;obtain ⟨t',rfl⟩:=ry;obtain ⟨j,h1,h2,h3,h4,h5⟩:=kA he;have hl:z.cps.toList.length=z.length:=by simp [zd5]
 rw [hl] at h1 h4 h5;have hn:=gz
 exact tail_any (typeIs_str s z t) slot_str_getitem.lookup (getItem_str (c:=c) (by have e1:decide (i < -(2^63:Int))=false:=decide_eq_false (by lia);have e2:decide (i ≥ 2^63)=false:=decide_eq_false (by lia);rw [e1,e2,qz3]) (by rw [h1];simpa using h2) ⟨.str ⟨#[c]⟩,H,I.tok _,⟨_,rfl⟩,q⟩) hs
noncomputable def rIx (K:PySem.W.Frag):R2:=fun x y H Q=>rIxL K x y H Q∨rIxT K x y H Q∨rIxS x y H Q
theorem xM:IxR X (rIx X.K):=ix_list.or (ix_tup.or xL)
theorem np (its:List Value) (n j:Nat) (u:Value):qp6 (·.setIfInBounds j u) {cls:=.type "list",data:=.seq its.toArray n}={cls:=.type "list",data:=.seq (its.set j u).toArray n}:=by simp [qp6]
theorem Inv.lst {pins:List (Addr×Obj)} {σ:St} {H:Hp} {s:qa4} {p:Addr} {xs:List V} (I:Inv X pins σ H s) (h:H p=some (.lst xs)) :
  ∃ (its:List Value) (n:Nat),Vals xs its/\s.heap.get? p=some {cls:=.type "list",data:=.seq its.toArray n}/\xs.length<=qa7:=by
 obtain ⟨z,its,n,r,e⟩:=I.hok p _ h;exact ⟨its,n,r,e,z⟩
theorem Inv.lstUpd {pins:List (Addr×Obj)} {σ:St} {H:Hp} {s:qa4} {p:Addr} {xs ys:List V} {its its':List Value} {n n':Nat} {f:Obj->Obj} (I:Inv X pins σ H s) (h:H p=some (.lst xs))
  (ho:s.heap.get? p=some {cls:=.type "list",data:=.seq its.toArray n}) (hf:f {cls:=.type "list",data:=.seq its.toArray n}={cls:=.type "list",data:=.seq its'.toArray n'}) (r:Vals ys its') (hz:ys.length<=qa7) (t:Nat) :
  Inv X pins σ (upd H p (.lst ys)) {s with heap:=s.heap.update p f,toks:=t}:=by
 have e:(s.heap.update p f).get? p=some {cls:=.type "list",data:=.seq its'.toArray n'}:=by rw [qd4 f ho (by rw [hf]<;>rfl),hf]
 refine I.write (x:=p) (e:=p) (by rw [h];trivial) (.inl rfl) (fun b u hb q=>(qe7 _ _ (qk6 hb)).trans q) ⟨_,e⟩ ?_;exact ⟨hz,its',n',r,e⟩
noncomputable def zP:V->V->V->Hp->(Hp->Prop)->Prop:=fun o i v H Q=>∃ p xs k j,o=.ref p/\i=.int k/\H p=some (.lst xs)/\ixN xs.length k=some j/\Q (upd H p (.lst (xs.set j v)))
theorem rl:PSet X zP:=by
 intro pins s σ H o i v ov iv u Q I ro ri rv h;obtain ⟨p,xs,k,j,rfl,rfl,hp,hj,q⟩:=h;cases ro;obtain ⟨t,rfl⟩:=ri;obtain ⟨its,n,r,ho,hz⟩:=I.lst hp;obtain ⟨h1,h2,h3,h4⟩:=oF hj;have hl:=r.length;have hn:=gz
 have I':Inv X pins σ (upd H p (.lst (xs.set j v))) {s with heap:=s.heap.update p (qp6 (·.setIfInBounds j u))}:=I.lstUpd hp ho (np its n j u) (r.set rv j) (by rw [zc0];exact hz) s.toks
 by_cases h0:0<=k
 . have hk:k.toNat=j:=by rw [seqIndex_of h0 h4] at h1;exact qe1 h1
   exact PySem.W.ki_setAt ho h0 (by lia) (by rw [qb3,<- hl];exact h4) (by rw [hk];exact ⟨_,I',q⟩)
 . have hk:(k+(its.toArray.size:Int)).toNat=j:=by rw [seqIndex_neg (by lia) h3] at h1;rw [qb3,<- hl];exact qe1 h1
   exact PySem.W.ki_setBack ho (by lia) (by rw [qb3,<- hl];exact h3) (by lia) (by rw [hk];exact ⟨_,I',q⟩)
theorem kE (lo hi:Option Int) (n:Nat):(qr4 lo hi none n).1=((HT.sIx n 0 lo:Nat):Int)/\(qr4 lo hi none n).2.1=((HT.sIx n n hi:Nat):Int)/\(qr4 lo hi none n).2.2=1:=by
 refine ⟨?_,?_,rfl⟩
 . cases lo with
   | none=>simp [qr4,HT.sIx]
   | some i =>
    simp only [qr4,HT.sIx,Option.getD_none,show (1:Int) > 0 by decide,if_true];by_cases h:i<0
    . simp only [h,if_true]<;>lia
    . simp only [h,if_false]<;>lia
 . cases hi with
   | none=>simp [qr4,HT.sIx]
   | some i =>
    simp only [qr4,HT.sIx,Option.getD_none,show (1:Int) > 0 by decide,if_true];by_cases h:i<0
    . simp only [h,if_true]<;>lia
    . simp only [h,if_false]<;>lia
theorem jo (its:List Value) (lo hi:Option Int):slicePick its.toArray lo hi none=((its.drop (HT.sIx its.length 0 lo)).take (HT.sIx its.length its.length hi-HT.sIx its.length 0 lo)).toArray:=by obtain ⟨h1,h2,h3⟩:=kE lo hi its.toArray.size;unfold slicePick;rw [h1,h2,h3];simp only [sliceRange_one,pick_run,qb3]<;>rfl
noncomputable def rSlL (K:PySem.W.Frag):V->Option Int->Option Int->Hp->VK->Prop:=fun x lo hi H Q=>∃ a xs,x=.ref a/\SqL K H a xs/\∀ p,H p=none->Q (.ref p) (upd H p (.lst (lG xs lo hi)))
theorem uF:SlR X (rSlL X.K):=by intro pins s σ H x v vl vu lo hi sl Q I rx hs pl pu h;obtain ⟨a,xs,rfl,hx,q⟩:=h;cases rx;obtain ⟨its,r,ht,hz⟩:=I.list hx;have hlen:=r.length;refine ⟨"list",_,slot_list_getitem.lookup,ht.isList.typeIs,?_⟩;refine wpAny_getItem_list_slice ht.isList hs pl pu .none (by simp) ?_ (by rw [qb3]<;>lia);rw [jo,<- hlen];refine ⟨.ref s.heap.objs.size,_,I.laid (t':=s.toks) (o:=.lst (lG xs lo hi)) (fun b ob q=>gP _ q) (nL _) ?_,rfl,q _ (I.hok.fresh (nL _))⟩;exact ⟨qc5 (g9 xs lo hi) hz,_,0,(r.drop (HT.sIx xs.length 0 lo)).take (HT.sIx xs.length xs.length hi-HT.sIx xs.length 0 lo),qb0 _ rfl⟩
noncomputable def fB:V->Bool
 | .non=>true
 | .bl _=>true
 | .int _=>true
 | .str _=>true
 | _=>false
noncomputable def eqV:V->V->Bool
 | .non,.non=>true
 | .bl a,.bl b=>a==b
 | .bl a,.int b=>(if a then 1 else 0)==b
 | .int a,.bl b=>a==(if b then 1 else 0)
 | .int a,.int b=>a==b
 | .str a,.str b=>a==b
 | _,_=>false
theorem gA {A:qd2} {s:qa4} {y x:V} {u v:Value} (ry:RelV y u) (rx:RelV x v) (fy:fB y=true) (fx:fB x=true):qf6 A s u v (eqV y x):=by
 cases y with
 | non =>
  cases ry;cases x with
  | non=>cases rx;exact zc1 _
  | bl b=>cases rx;exact qf6.none_bool b
  | int b=>obtain ⟨t,rfl⟩:=rx;exact qf6.none_int b t
  | str b=>obtain ⟨t,rfl⟩:=rx;exact qf6.none_str b t
  | _=>exact absurd (show false=true from fx) qb4
 | bl a =>
  cases ry;cases x with
  | non=>cases rx;exact qf6.bool_none a
  | bl b=>cases rx;exact qf6.bool_bool a b
  | int b=>obtain ⟨t,rfl⟩:=rx;exact qf6.bool_int a b t
  | str b=>obtain ⟨t,rfl⟩:=rx;exact qf6.bool_str a b t
  | _=>exact absurd (show false=true from fx) qb4
 | int a =>
  obtain ⟨t',rfl⟩:=ry;cases x with
  | non=>cases rx;exact qf6.int_none a t'
  | bl b=>cases rx;exact qf6.int_bool a t' b
  | int b=>obtain ⟨t,rfl⟩:=rx;exact qf6.int_int a t' b t
  | str b=>obtain ⟨t,rfl⟩:=rx;exact qf6.int_str a t' b t
  | _=>exact absurd (show false=true from fx) qb4
 | str a =>
  obtain ⟨t',rfl⟩:=ry;cases x with
  | non=>cases rx;exact qf6.str_none a t'
  | bl b=>cases rx;exact qf6.str_bool a t' b
  | int b=>obtain ⟨t,rfl⟩:=rx;exact qf6.str_int a t' b t
  | str b=>obtain ⟨t,rfl⟩:=rx;exact qf6.str_str a t' b t
  | _=>exact absurd (show false=true from fx) qb4
 | _=>exact absurd (show false=true from fy) qb4
noncomputable def eqU (x:V) (u:Value):Bool:=match u with
 | .none=>eqV .non x
 | .bool b=>eqV (.bl b) x
 | .int i _=>eqV (.int i) x
 | .str z _=>eqV (.str z) x
 | _=>false
theorem rm {x y:V} {u:Value} (r:RelV y u) (f:fB y=true):eqU x u=eqV y x:=by
 cases y with
 | non=>cases r;rfl
 | bl b=>cases r;rfl
 | int i=>obtain ⟨t,rfl⟩:=r;rfl
 | str z=>obtain ⟨t,rfl⟩:=r;rfl
 | _=>exact absurd (show false=true from f) qb4
theorem fV {x:V}:∀ {xs:List V} {us:List Value},Vals xs us->xs.all fB=true->us.any (eqU x)=xs.any fun y=>eqV y x
 | _,_,.nil,_=>rfl
 | y::xs,u::us,.cons r t,f=>by rw [qj1,qb1] at f;rw [qh6,qh6,rm r f.1,fV t f.2]
theorem eF {A:qd2} {s:qa4} {x:V} {v:Value} (rx:RelV x v) (fx:fB x=true):∀ {xs:List V} {us:List Value},Vals xs us->xs.all fB=true->∀ u∈us,qf6 A s u v (eqU x u)
 | _,_,.nil,_=>fun u hu=>by cases hu
 | y::xs,u::us,.cons r t,f=>fun u' hu=>by
  rw [qj1,qb1] at f;rcases qa9.mp hu with rfl | hu
  . rw [rm r f.1];exact gA r rx f.1 fx
  . exact eF rx fx t f.2 u' hu
noncomputable def inV (x:V) (xs:List V):Bool:=xs.any fun y=>eqV y x
noncomputable def rIn (K:PySem.W.Frag) (neg:Bool):R2:=fun x y H Q=>∃ p xs,y=.ref p/\(SqL K H p xs∨SqT K H p xs)/\fB x=true/\xs.all fB=true/\Q (.bl (if neg then !inV x xs else inV x xs)) H
theorem p8:OpR X (qg7 .In) (rIn X.K false):=by
 intro pins s σ H x y v u Q I rx ry h;obtain ⟨p,xs,rfl,hq,fx,fs,q⟩:=h;cases ry;rcases hq with hq | hq
 . obtain ⟨its,r,pl,hz⟩:=I.list hq;refine SeqAt.in_listAt (eqU x) pl.isList (fun w hw=>eF rx fx r fs w (by simpa using hw)) ⟨.bl _,H,I,rfl,?_⟩;rw [show its.toArray.any (eqU x)=its.any (eqU x) by simp,fV r fs];exact q
 . obtain ⟨its,r,pl,hz⟩:=I.tuple hq;refine SeqAt.in_tupleAt (eqU x) pl (fun w hw=>eF rx fx r fs w (by simpa using hw)) ⟨.bl _,H,I,rfl,?_⟩;rw [show its.toArray.any (eqU x)=its.any (eqU x) by simp,fV r fs];exact q
theorem kF:OpR X (qg7 .NotIn) (rIn X.K true):=by
 intro pins s σ H x y v u Q I rx ry h;obtain ⟨p,xs,rfl,hq,fx,fs,q⟩:=h;cases ry;rcases hq with hq | hq
 . obtain ⟨its,r,pl,hz⟩:=I.list hq;refine SeqAt.notIn_listAt (eqU x) pl.isList (fun w hw=>eF rx fx r fs w (by simpa using hw)) ⟨.bl _,H,I,rfl,?_⟩;rw [show its.toArray.any (eqU x)=its.any (eqU x) by simp,fV r fs];exact q
 . obtain ⟨its,r,pl,hz⟩:=I.tuple hq;refine SeqAt.notIn_tupleAt (eqU x) pl (fun w hw=>eF rx fx r fs w (by simpa using hw)) ⟨.bl _,H,I,rfl,?_⟩;rw [show its.toArray.any (eqU x)=its.any (eqU x) by simp,fV r fs];exact q
theorem kG:OpR X (qg7 .NotIn) (fun x y H Q=>∃ i j,x=.str i/\y=.str j/\Q (.bl (!(!(qq0 j i 0 j.length 1).isEmpty))) H):=by intro pins s σ H x y v u Q I rx ry h;obtain ⟨i,j,rfl,rfl,q⟩:=h;obtain ⟨t,rfl⟩:=rx;obtain ⟨t',rfl⟩:=ry;exact notIn_str ⟨.bl _,H,I,rfl,q⟩
theorem kH:da X (.type "list") (fun xs H Q=>∃ p ys,xs=[.ref p]/\(SqL X.K H p ys∨SqT X.K H p ys)/\∀ l,H l=none->Q (.ref l) (upd H l (.lst ys))):=by
 intro pins s σ H xs us Q I r h;obtain ⟨p,ys,rfl,hq,q⟩:=h;obtain ⟨u,rfl,rx⟩:=fA r;cases rx
 have fin:∀ (its:List Value),Vals ys its->ys.length<=qa7->∀ (h':Heap) (c':Nat),(∀ b o',s.heap.get? b=some o'->h'.get? b=some o')→
     h'.get? s.heap.objs.size=some {cls:=.type "list",dict:=none,data:=.seq its.toArray c',slots:=#[]}->EP X pins σ Q (.ref s.heap.objs.size) {s with heap:=h'}:=fun its r' hz h' c' kp e =>
  ⟨.ref s.heap.objs.size,_,I.laid (t':=s.toks) kp (nL _) (show ObjOk X.prog X.w _ h' _ (.lst ys) from ⟨hz,its,c',r',e⟩),rfl,q _ (I.hok.fresh (nL _))⟩
 rcases hq with hq | hq
 . obtain ⟨its,r',pl,hz⟩:=I.list hq;have hlen:=r'.length;obtain ⟨o,ho,hc,n,hd⟩:=pl.isList;exact call_list_seq p (.inl rfl) ho hc hd (fun h' c' kp e=>fin its r' hz h' c' kp e) (by simp only [qb3]<;>lia)
 . obtain ⟨its,r',pl,hz⟩:=I.tuple hq;have hlen:=r'.length;obtain ⟨o,ho,hc,n,hd⟩:=pl;exact call_list_seq p (.inr rfl) ho hc hd (fun h' c' kp e=>fin its r' hz h' c' kp e) (by simp only [qb3]<;>lia)
theorem bu:da X (.type "tuple") (fun xs H Q=>∃ p ys,xs=[.ref p]/\((SqL X.K H p ys/\∀ l,H l=none->Q (.ref l) (upd H l (.tup ys)))∨(SqT X.K H p ys/\Q (.ref p) H))):=by
 intro pins s σ H xs us Q I r h;obtain ⟨p,ys,rfl,h⟩:=h;obtain ⟨u,rfl,rx⟩:=fA r;cases rx;rcases h with ⟨hq,q⟩ | ⟨hq,q⟩
 . obtain ⟨its,r',pl,hz⟩:=I.list hq;have hlen:=r'.length;refine call_tuple_list pl.isList (fun h' kp=>?_) (by simp only [qb3]<;>lia);have I1:Inv X pins σ H {s with heap:=h'}:=I.kept (t':=s.toks) kp
   have I2:Inv X pins σ (upd H h'.objs.size (.tup ys)) {s with heap:=h'.push {cls:=.type "tuple",data:=.seq its.toArray}}:=I1.laid (t':=s.toks) (fun b o e=>gP _ e) (nL _) (show ObjOk X.prog X.w _ _ _ (.tup ys) from ⟨hz,its,r',IsTup.new _ _⟩)
   exact ⟨.ref h'.objs.size,_,I2,rfl,q _ (I1.hok.fresh (nL _))⟩
 . obtain ⟨its,r',pl,hz⟩:=I.tuple hq;exact call_tuple_same pl ⟨.ref p,H,I,rfl,q⟩
noncomputable def tyV (K:PySem.W.Frag) (T:String) (x:V) (H:Hp):Prop:=match x with
 | .str _=>T="str"
 | .int _=>T="int"
 | .ref p=>(T="list"/\∃ xs,SqL K H p xs)∨(T="tuple"/\∃ o,K.lookup p=some o/\o.cls=.type "tuple"/\o.dict=none)∨(T="dict"/\((∃ kvs,H p=some (.dK kvs))∨∃ kvs,H p=some (.dT kvs)))∨(T="set"/\∃ S n,H p=some (.set S n))
 | _=>False
theorem xN {pins:List (Addr×Obj)} {σ:St} {H:Hp} {s:qa4} {T:String} {x:V} {v:Value} (I:Inv X pins σ H s) (r:RelV x v) (ty:tyV X.K T x H) :
  s.TypeIs v T/\∀ a,v=.ref a->∃ ob,s.heap.get? a=some ob/\ob.dict=none:=by
 cases x with
 | str z =>obtain ⟨t,rfl⟩:=r;cases (show T="str" from ty);exact ⟨typeIs_str s z t,fun _ e=>nomatch e⟩
 | int i =>obtain ⟨t,rfl⟩:=r;cases (show T="int" from ty);exact ⟨typeIs_int s i t,fun _ e=>nomatch e⟩
 | ref p =>
  cases r;rcases ty with ⟨rfl,xs,hq⟩ | ⟨rfl,o,hk,hc,hd⟩ | ⟨rfl,hk⟩ | ⟨rfl,S,n,hk⟩
  . obtain ⟨its,_,pl,_⟩:=I.list hq;refine ⟨pl.isList.typeIs,fun a e=>?_⟩;cases e;obtain ⟨o,n,e,c,hd,_⟩:=pl;exact ⟨o,e,hd⟩
  . refine ⟨⟨o,I.kIn p o hk,hc⟩,fun a e=>?_⟩;cases e;exact ⟨o,I.kIn _ o hk,hd⟩
  . have z:∃ o,s.heap.get? p=some o/\o.ExactDict:=by
     rcases hk with ⟨kvs,hk⟩ | ⟨kvs,hk⟩
     . obtain ⟨_,_,_,_,o,_,_,e,ex,_⟩:=I.hok p _ hk;exact ⟨o,e,ex⟩
     . obtain ⟨_,_,_,_,o,_,_,e,ex,_⟩:=I.hok p _ hk;exact ⟨o,e,ex⟩
    obtain ⟨o,e,ex⟩:=z;refine ⟨⟨o,e,ex.1⟩,fun a e2=>?_⟩;cases e2;exact ⟨o,e,ex.2.1⟩
  . obtain ⟨o,_,_,_,e,ex,_⟩:=I.hok p _ hk;refine ⟨⟨o,e,ex.1⟩,fun a e2=>?_⟩;cases e2;exact ⟨o,e,ex.2.1⟩
 | _=>exact ql3 ty
noncomputable def tBM (K:PySem.W.Frag) (T:String) (r:V->List V->Hp->VK->Prop) (to:TE) (t:TA):TE:=fun σ H Q=>to σ H fun x H1=>tyV K T x H1/\t σ H1 fun xs H2=>r x xs H2 Q
variable {o e:Expr} {es:List Expr} {to:TE} {t:TA} {name:Str} {apos cpos:Pos} {T id:String} {r:V->List V->Hp->VK->Prop}
theorem rn (pa:PlainAttrs T) (slot:Slot T name id) (hty:typeOf (.builtin id)=pure (.type "method_descriptor")) (hm:MtR X id r) (ho:PE X o to) (ha:PA X (e::es) t)
  (hbase:qz4 o name X.env (eval o X.env)=eval o X.env:=by rfl)
  (hfew:((qk1 cpos (qa6 (e::es) X.env)).all (fun x=>!x.1)&&(backToKw cpos (ze4 [] X.env)).all (fun x=>x.1.isSome)
   && decide ((e::es).length+([]:List zb7).length+(if ([]:List zb7).isEmpty then 0 else 1)<30))=true:=by rfl)
  (hline:(apos.endLine==cpos.line)=true:=by rfl) (hs:qa6 (e::es) X.env=(false,eval e X.env)::qa6 es X.env:=by rfl) (hplain:(qk1 cpos (qa6 es X.env)).any (·.1)=false:=by rfl) :
  PE X (.Call (.Attribute o name apos) (e::es) [] cpos) (tBM X.K T r to t):=by
 intro pins s σ H Q I h;refine wpAny_Call_method_late hbase hfew hline rfl (thn (ho pins s σ H _ I h) fun v s1 ⟨x,H1,I1,r1,ty,q1⟩=>?_);obtain ⟨h1,h2⟩:=xN I1 r1 ty;refine ⟨T,id,pa,slot,hty,h1,h2,?_⟩;have hA:=ha cpos pins s1 σ H1 _ I1 q1;rw [hs] at hA ⊢;refine Calls.callWith_builtin (by show (false||(qk1 cpos (qa6 es X.env)).any (·.1))=false;rw [hplain]<;>rfl) (Calls.evalArgs_plain ?_);exact thn hA fun us s2 ⟨vs,H2,I2,r2,q2⟩=>hm pins s2 σ H2 x vs v us Q I2 r1 r2 q2
/- xs.append(e),list.index on a module's tuple .. are MtR facts of 06m -/
end
noncomputable def MtM (X:Cx) (id:String) (r:V->List V->Hp->VK->Prop):Prop:=
 ∀ (pins:List (Addr×Obj)) (s:qa4) (σ:St) (H:Hp) (x:V) (xs:List V) (v:Value) (us:List Value) (Q:VK),Inv X pins σ H s->RelV x v->Vals xs us->r x xs H Q→
  wpAny (model X.prog X.w) X.A (call (.builtin id) (v::us)) (EP X pins σ Q) X.xe s
theorem Vals.one:∀ {x:V} {us:List Value},Vals [x] us->∃ u,us=[u]/\RelV x u
 | _,_,.cons r .nil=>⟨_,rfl,r⟩
section
variable {X:Cx} {pins:List (Addr×Obj)} {σ:St} {H:Hp} {s:qa4} {l b:Addr} {xs ys zs:List V}
theorem Inv.lset {its its':List Value} {n:Nat} {f:Array Value->Array Value} {t':Nat} (I:Inv X pins σ H s) (hH:H l=some (.lst xs))
  (e:s.heap.get? l=some {cls:=.type "list",data:=.seq its.toArray n}) (hf:f its.toArray=its'.toArray) (hv:Vals ys its') (hz:ys.length<=qa7) :
  Inv X pins σ (upd H l (.lst ys)) {s with heap:=s.heap.update l (qp6 f),toks:=t'}:=by
 have q:=PySem.IsL.update e f;rw [hf] at q;refine I.write (x:=l) (e:=l) (by rw [hH];exact trivial) (.inl rfl) (fun b' u hb hu=>(qe7 s.heap (qp6 f) (qk6 hb)).trans hu) ⟨_,q⟩ ?_;exact ⟨hz,its',_,hv,q⟩
theorem Inv.lnew {its:List Value} {t':Nat} (I:Inv X pins σ H s) (hv:Vals ys its) (hz:ys.length<=qa7) :
  Inv X pins σ (upd H s.heap.objs.size (.lst ys)) {s with heap:=s.heap.push {cls:=.type "list",data:=.seq its.toArray},toks:=t'}:=
 I.laid (fun _ _ q=>gP _ q) (nL _) ⟨hz,its,0,hv,qb0 _ rfl⟩
theorem Inv.fresh (I:Inv X pins σ H s):H s.heap.objs.size=none:=I.hok.fresh (nL _)
theorem Inv.lstM (I:Inv X pins σ H s) (hH:H l=some (.lst xs)):xs.length<=qa7/\∃ (its:List Value) (n:Nat),Vals xs its/\xs.length=its.length/\s.heap.get? l=some {cls:=.type "list",data:=.seq its.toArray n}:=by obtain ⟨z,its,n,r,e⟩:=I.hok l _ hH;exact ⟨z,its,n,r,r.length,e⟩
theorem rp {n:Nat} (h:n<=qa7):qp7 n=false:=by unfold qp7;exact decide_eq_false (by lia)
end
section
variable {X:Cx}
noncomputable def uG:V->List V->Hp->VK->Prop:=fun x vs H Q=>∃ l xs y,x=.ref l/\vs=[y]/\H l=some (.lst xs)/\xs.length<qa7/\Q .non (upd H l (.lst (xs++[y])))
theorem eZ:MtM X "list.append" uG:=by intro pins s σ H x vs v us Q I rx rv h;obtain ⟨l,xs,y,rfl,rfl,hH,hz,q⟩:=h;cases rx;obtain ⟨u,rfl,ru⟩:=rv.one;obtain ⟨z,its,n,r,hl,e⟩:=I.lstM hH;refine call_meets F.slot_list_append ⟨_,e,rfl⟩ F.entry_list_append (F.args_list_append_2 _ _) (PySem.list_append l its.toArray n u (by rw [qb3];lia)) ⟨e,?_⟩;refine ⟨.non,_,I.lset (its':=its++[u]) hH e (by simp) (r.append (.cons ru .nil)) ?_,rfl,q⟩;rw [qb2,qn5];lia
noncomputable def uH:V->List V->Hp->VK->Prop:=fun x vs H Q=>∃ l b xs zs,x=.ref l/\vs=[.ref b]/\H l=some (.lst xs)/\H b=some (.lst zs)/\xs.length+zs.length<=qa7/\Q .non (upd H l (.lst (xs++zs)))
theorem p9:MtM X "list.extend" uH:=by
 intro pins s σ H x vs v us Q I rx rv h;obtain ⟨l,b,xs,zs,rfl,rfl,hH,hB,hz,q⟩:=h;cases rx;obtain ⟨u,rfl,ru⟩:=rv.one;cases ru;obtain ⟨z,its,n,r,hl,e⟩:=I.lstM hH;obtain ⟨z2,its2,n2,r2,hl2,e2⟩:=I.lstM hB;have hsz:its.toArray.size+its2.toArray.size<=qa7:=by rw [qb3,qb3];lia
 have hlong:¬ (!its.toArray.isEmpty&&qp7 (its.toArray.size+its2.toArray.size))=true:=by rw [rp hsz,qr9];exact qb4
 refine call_meets F.slot_list_extend ⟨_,e,rfl⟩ F.entry_list_extend (F.args_list_extend_2 _ _)
  (AutoSeq1.list_extend_list_list_0 l its.toArray n b its2.toArray n2 hlong (by rw [qb3];lia) (by lia)) ⟨e,e2,?_⟩
 refine ⟨.non,_,I.lset (its':=its++its2) hH e (by simp) (r.append r2) ?_,rfl,q⟩;rw [qb2];lia
end
section
variable {prog:qb5} {w:World} {A:qd2} {E:Value->qa4->Prop} {s:qa4}
end
section
variable {X:Cx}
end
section
variable {κ:Type} [DecidableEq κ]
noncomputable def d5 (kvs:List (κ×V)) (k:κ):Option V:=(kvs.find? fun kv=>decide (kv.1=k)).map (·.2)
noncomputable def dD (kvs:List (κ×V)) (k:κ) (v:V):List (κ×V):=if (kvs.any fun kv=>decide (kv.1=k))=true then kvs.map (fun kv=>if kv.1=k then (kv.1,v) else kv) else kvs++[(k,v)]
theorem fW {p:κ×V} {r:List (κ×V)} {k:κ} (e:p.1=k):d5 (p::r) k=some p.2:=by simp [d5,qn6,e]
theorem eG {p:κ×V} {r:List (κ×V)} {k:κ} (e:¬ p.1=k):d5 (p::r) k=d5 r k:=by simp [d5,qn6,e]
theorem lH (k:κ):∀ kvs:List (κ×V),(kvs.any fun kv=>decide (kv.1=k))=(d5 kvs k).isSome
 | []=>rfl
 | p::r=>by
  rw [qh6];by_cases e:p.1=k
  . simp only [fW e,decide_eq_true e,zg5,Option.isSome_some]
  . rw [eG e,decide_eq_false e,qz5];exact lH k r
theorem hJ (kvs:List (κ×V)) (k:κ) (v:V):(dD kvs k v).length<=kvs.length+1:=by
 unfold dD;split
 . rw [qa3];lia
 . rw [qb2,qc0,qe9];lia
theorem RelO.isSome_eq {o:Option V} {u:Option Value} (r:RelO o u):o.isSome=u.isSome:=by
 cases o with
 | none=>cases u with
  | none=>rfl
  | some _=>exact (show False from r).elim
 | some _=>cases u with
  | none=>exact (show False from r).elim
  | some _=>rfl
theorem RelO.getD {o:Option V} {u:Option Value} {d:V} {d':Value} (r:RelO o u) (rd:RelV d d'):RelV (o.getD d) (u.getD d'):=by
 cases o with
 | none=>cases u with
  | none=>exact rd
  | some _=>exact (show False from r).elim
 | some _=>cases u with
  | none=>exact (show False from r).elim
  | some _=>exact r
theorem KV.val {kvs:List (κ×V)} {vs:List (κ×Value)} (r:KV kvs vs) (k:κ):RelO (d5 kvs k) (ze5 vs k):=by
 unfold KV at r;induction r with
 | nil=>exact qp5
 | @cons p q ps qs h t ih =>
  obtain ⟨h1,h2⟩:=h;by_cases e:p.1=k
  . have e':q.1=k:=h1.symm.trans e;have b:ze5 (q::qs) k=some q.2:=by simp [ze5,qn6,e']
    rw [fW e,b];exact h2
  . have e':¬ q.1=k:=fun z=>e (h1.trans z)
    have b:ze5 (q::qs) k=ze5 qs k:=by simp [ze5,qn6,e']
    rw [eG e,b];exact ih
theorem KV.any {kvs:List (κ×V)} {vs:List (κ×Value)} (r:KV kvs vs) (k:κ):(kvs.any fun kv=>decide (kv.1=k))=vs.any fun kv=>decide (kv.1=k):=by
 unfold KV at r;induction r with
 | nil=>rfl
 | cons h t ih=>rw [qh6,qh6,ih,h.1]
theorem KV.repl {kvs:List (κ×V)} {vs:List (κ×Value)} (r:KV kvs vs) (k:κ) {y:V} {u:Value} (ry:RelV y u) :
  KV (kvs.map fun kv=>if kv.1=k then (kv.1,y) else kv) (vs.map fun kv=>if kv.1=k then (kv.1,u) else kv):=by
 unfold KV at r ⊢;induction r with
 | nil=>exact .nil
 | @cons p q ps qs h t ih =>
  rw [qa5,qa5];refine .cons ?_ ih;obtain ⟨h1,h2⟩:=h;by_cases e:p.1=k
  . rw [if_pos e,if_pos (h1.symm.trans e)];exact ⟨h1,ry⟩
  . rw [if_neg e,if_neg (fun z=>e (h1.trans z))];exact ⟨h1,h2⟩
theorem KV.put {kvs:List (κ×V)} {vs:List (κ×Value)} (r:KV kvs vs) (k:κ) {y:V} {u:Value} (ry:RelV y u):KV (dD kvs k y) (stored vs k u):=by
 unfold dD stored;rw [r.any k];by_cases e:(vs.any fun kv=>decide (kv.1=k))=true
 . rw [if_pos e,if_pos e];exact r.repl k ry
 . rw [if_neg e,if_neg e];exact Paired.snoc r ⟨rfl,ry⟩
theorem KV.length {kvs:List (κ×V)} {vs:List (κ×Value)} (r:KV kvs vs):kvs.length=vs.length:=Paired.length r
end
theorem iD {P:qb5} {w:World} {k:Key} {u:Value} (r:RelV (kV k) u):(bn P w).is k u=true:=by
 cases k with
 | inl i=>obtain ⟨t,e⟩:=(show ∃ t,u=zh2 i t from r);subst e;exact lz P w i t
 | inr x=>obtain ⟨t,e⟩:=(show ∃ t,u=zh3 x t from r);subst e;exact ev P w x t
theorem jE {P:qb5} {w:World}:∀ {ks:List Key} {us:List Value},Vals (ks.map kV) us->ItemsAre (bn P w) ks us
 | [],_,r=>by rw [qh2] at r;cases r;exact .nil
 | k::ks,_,r=>by
  rw [qa5] at r;cases r with
  | cons h t=>exact .cons (iD h) (jE t)
abbrev KT (H:Hp):List (List Key×V)->List (List Key×Addr×Value)->Prop:=Paired fun p q=>p.1=q.1/\H q.2.1=some (.tup (p.1.map kV))/\RelV p.2 q.2.2
theorem KT.val {H:Hp} {kvs:List (List Key×V)} {xs:List (List Key×Addr×Value)} (r:KT H kvs xs) (k:List Key):RelO (d5 kvs k) ((atKey xs k).map (·.2)):=by
 induction r with
 | nil=>exact qp5
 | @cons p q ps qs h t ih =>
  obtain ⟨h1,_,h2⟩:=h;by_cases e:p.1=k
  . have e':q.1=k:=h1.symm.trans e;have b:atKey (q::qs) k=some q.2:=by simp [atKey,qn6,e']
    rw [fW e,b];exact h2
  . have e':¬ q.1=k:=fun z=>e (h1.trans z)
    have b:atKey (q::qs) k=atKey qs k:=by simp [atKey,qn6,e']
    rw [eG e,b];exact ih
theorem KT.repl {H:Hp} {kvs:List (List Key×V)} {xs:List (List Key×Addr×Value)} (r:KT H kvs xs) (k:List Key) {y:V} {u:Value} (ry:RelV y u) :
  KT H (kvs.map fun kv=>if kv.1=k then (kv.1,y) else kv) (xs.map (putAt k u)):=by
 induction r with
 | nil=>exact .nil
 | @cons p q ps qs h t ih =>
  rw [qa5,qa5];refine .cons ?_ ih;obtain ⟨h1,h2,h3⟩:=h;unfold putAt;by_cases e:p.1=k
  . rw [if_pos e,if_pos (h1.symm.trans e)];exact ⟨h1,h2,ry⟩
  . rw [if_neg e,if_neg (fun z=>e (h1.trans z))];exact ⟨h1,h2,h3⟩
theorem KT.put {H:Hp} {kvs:List (List Key×V)} {xs:List (List Key×Addr×Value)} (r:KT H kvs xs) (k:List Key) {b:Addr} {y:V} {u:Value} (hb:H b=some (.tup (k.map kV))) (ry:RelV y u) :
  KT H (dD kvs k y) (storedH xs k b u):=by
 have e:(kvs.any fun kv=>decide (kv.1=k))=(atKey xs k).isSome:=by rw [lH,(r.val k).isSome_eq,qx4]
 unfold dD storedH;rw [e];by_cases q:(atKey xs k).isSome=true
 . rw [if_pos q,if_pos q];exact r.repl k ry
 . rw [if_neg q,if_neg q];exact Paired.snoc r ⟨rfl,hb,ry⟩
theorem KT.keeps {H H':Hp} {kvs:List (List Key×V)} {xs:List (List Key×Addr×Value)} (r:KT H kvs xs) (ht:∀ b ys,H b=some (.tup ys)->H' b=some (.tup ys)):KT H' kvs xs:=Paired.mapP r fun _ _ z=>⟨z.1,ht _ _ z.2.1,z.2.2⟩
section
variable {P:qb5} {w:World} {H:Hp} {h:Heap} {a:Addr}
theorem wj {u:HO} (ok:HOk P w H h) (e:Rd H a u):ObjOk P w H h a u:=e.ok ok
theorem jF {kvs:List (Key×V)} (ok:HOk P w H h) (e:Rd H a (.dK kvs)):kvs.length<=qa7/\(a==qi1)=false/\∃ vs,KV kvs vs/\h.DictOf (bn P w) a vs:=show ObjOk P w H h a (.dK kvs) from wj ok e
theorem zQ {kvs:List (Key×V)} (ok:HOk P w H h) (e:H a=some (.dK kvs)):kvs.length<=qa7/\(a==qi1)=false/\∃ vs,KV kvs vs/\h.DictOf (bn P w) a vs:=jF ok (.inl e)
theorem iE {ks:List Key} (ok:HOk P w H h) (e:H a=some (.tup (ks.map kV))):(zf0 (bn P w)).is h ks a:=by obtain ⟨_,its,r,o,h1,h2,n,h3⟩:=(show ObjOk P w H h a (.tup (ks.map kV)) from ok a _ e);exact ⟨o,its.toArray,n,h1,h2,h3,by simpa using jE r⟩
theorem lI {kvs:List (List Key×V)} (ok:HOk P w H h) (e:Rd H a (.dT kvs)):kvs.length<=qa7/\(a==qi1)=false∧
  ∃ xs,KT H kvs xs/\h.DictOfH (zf0 (bn P w)) a xs:=by
 obtain ⟨z,y,xs,r,o,es,ep,h1,h2,h3,h4,h5⟩:=(show ObjOk P w H h a (.dT kvs) from wj ok e);refine ⟨z,y,xs,r,o,es,ep,h1,h2,h3,h4,fun x hx=>?_,h5⟩
 have all:∀ {l:List (List Key×V)} {m:List (List Key×Addr×Value)},KT H l m->∀ x∈m,(zf0 (bn P w)).is h x.1 x.2.1:=by
  intro l m q;induction q with
  | nil=>intro x hx;exact nomatch hx
  | @cons p q ps qs hq t ih =>
   intro x hx;rcases qa9.mp hx with e | hx
   . subst e;exact iE ok (by rw [<- hq.1];exact hq.2.1)
   . exact ih x hx
 exact all r x hx
theorem zR {kvs:List (List Key×V)} (ok:HOk P w H h) (e:H a=some (.dT kvs)):kvs.length<=qa7/\(a==qi1)=false∧∃ xs,KT H kvs xs/\h.DictOfH (zf0 (bn P w)) a xs:=lI ok (.inl e)
end
noncomputable def DGet (H:Hp) (a:Addr) (y:V) (r:Option V):Prop:=(∃ kvs k,Rd H a (.dK kvs)/\y=kV k/\r=d5 kvs k)∨∃ kvs k b,Rd H a (.dT kvs)/\y=.ref b/\H b=some (.tup (k.map kV))/\r=d5 kvs k
noncomputable def DPut (H:Hp) (a:Addr) (y v:V) (H':Hp):Prop:=
 (∃ kvs k,H a=some (.dK kvs)/\y=kV k/\kvs.length<qa7/\H'=upd H a (.dK (dD kvs k v)))∨
 ∃ kvs k b,H a=some (.dT kvs)/\y=.ref b/\H b=some (.tup (k.map kV))/\kvs.length<qa7/\H'=upd H a (.dT (dD kvs k v))
theorem DGet.k {H:Hp} {a:Addr} {kvs:List (Key×V)} {k:Key} (e:H a=some (.dK kvs)):DGet H a (kV k) (d5 kvs k):=.inl ⟨kvs,k,.inl e,rfl,rfl⟩
theorem DPut.k {H:Hp} {a:Addr} {kvs:List (Key×V)} {k:Key} {v:V} (e:H a=some (.dK kvs)) (hl:kvs.length<qa7):DPut H a (kV k) v (upd H a (.dK (dD kvs k v))):=.inl ⟨kvs,k,e,rfl,hl,rfl⟩
section
variable {X:Cx} {pins:List (Addr×Obj)} {σ:St} {H:Hp} {s:qa4} {a:Addr} {y v:V} {u r:Value} {o:Option V} {A:qd2} {E:Value->qa4->Prop}
theorem Inv.big (I:Inv X pins σ H s):qi1<s.heap.objs.size:=by have h:qc9<s.heap.objs.size:=(I.mod.glob.keeps I.bk).lt;exact zc2 (by decide) h
theorem qa {Q:Value->qa4->Prop} (hu:A.units+1<cLine) (I:Inv X pins σ H s) (g:DGet H a y (some v)) (ry:RelV y u) (h:∀ w' s',Inv X pins σ H s'->RelV v w'->Q w' s') :
  wpAny (model X.prog X.w) A (qz2 (.ref a) u) Q E s:=by
 rcases g with ⟨kvs,k,e,ey,l⟩ | ⟨kvs,k,b,e,ey,eb,l⟩
 . subst ey;obtain ⟨z,hd,vs,rel,dd⟩:=jF I.hok e;obtain ⟨w',hw,rw'⟩:=RelO.some_of (v:=v) (o:=ze5 vs k) (by rw [l];exact rel.val k);exact wpAny_getItem_of (iD ry) dd.mapOf hw (h w' _ (I.tok _) rw')
 . subst ey;cases (show u=qf3 b from ry);obtain ⟨z,hd,xs,rel,dd⟩:=lI I.hok e;obtain ⟨w',hw,rw'⟩:=RelO.some_of (v:=v) (o:=(atKey xs k).map (·.2)) (by rw [l];exact rel.val k);obtain ⟨p,hp,hp2⟩:=mS hw;refine wpAny_getItem_heap (qq3 hu) (iE I.hok eb) dd hp ?_;rw [hp2];exact h w' _ (I.tok _) rw'
theorem d_in {Q:Value->qa4->Prop} (hu:A.units+1<cLine) (I:Inv X pins σ H s) (g:DGet H a y o) (ry:RelV y u) (h:∀ s',Inv X pins σ H s'->Q (.bool o.isSome) s') :
  wpAny (model X.prog X.w) A (qg7 .In u (.ref a)) Q E s:=by
 rcases g with ⟨kvs,k,e,ey,l⟩ | ⟨kvs,k,b,e,ey,eb,l⟩
 . subst ey;obtain ⟨z,hd,vs,rel,dd⟩:=jF I.hok e;refine wpAny_in_of (iD ry) hd dd.mapOf ?_;rw [<- (rel.val k).isSome_eq,<- l];exact h _ (I.tok _)
 . subst ey;cases (show u=qf3 b from ry);obtain ⟨z,hd,xs,rel,dd⟩:=lI I.hok e;refine wpAny_in_heap (qq3 hu) (iE I.hok eb) hd dd ?_;have q:=(rel.val k).isSome_eq;rw [qx4] at q;rw [<- q,<- l];exact h _ (I.tok _)
theorem uI {Q:Value->qa4->Prop} (hu:A.units+1<cLine) (I:Inv X pins σ H s) (g:DGet H a y o) (ry:RelV y u) (h:∀ s',Inv X pins σ H s'->Q (.bool (!o.isSome)) s') :
  wpAny (model X.prog X.w) A (qg7 .NotIn u (.ref a)) Q E s:=by
 rcases g with ⟨kvs,k,e,ey,l⟩ | ⟨kvs,k,b,e,ey,eb,l⟩
 . subst ey;obtain ⟨z,hd,vs,rel,dd⟩:=jF I.hok e;refine wpAny_notIn_of (iD ry) hd dd.mapOf ?_;rw [<- (rel.val k).isSome_eq,<- l];exact h _ (I.tok _)
 . subst ey;cases (show u=qf3 b from ry);obtain ⟨z,hd,xs,rel,dd⟩:=lI I.hok e;refine wpAny_notIn_heap (qq3 hu) (iE I.hok eb) hd dd ?_;have q:=(rel.val k).isSome_eq;rw [qx4] at q;rw [<- q,<- l];exact h _ (I.tok _)
theorem oH {h':Heap} {t':Nat} {ob:HO} (I:Inv X pins σ H s) (mu:Mut (H a)) (hs:qm2 a s.heap h') (he:∃ q,h'.get? a=some q) (new:ObjOk X.prog X.w (upd H a ob) h' a ob) :
  Inv X pins σ (upd H a ob) {s with heap:=h',toks:=t'}:=
 I.write (x:=a) (e:=a) mu (.inl rfl) (fun b q hb z=>(hs.2 b hb).trans z) he new
theorem xO {P:qb5} {w:World} {H':Hp} {h':Heap} {kvs:List (Key×V)} {vs:List (Key×Value)} (z:kvs.length<=qa7) (hd:(a==qi1)=false) (rel:KV kvs vs) (dd:h'.DictOf (bn P w) a vs) :
  ObjOk P w H' h' a (.dK kvs):=⟨z,hd,vs,rel,dd⟩
theorem qb {H':Hp} {Q:Unit->qa4->Prop} (hu:A.units+1<cLine) (I:Inv X pins σ H s) (g:DPut H a y v H') (ry:RelV y u) (rv:RelV v r) (h:∀ s',Inv X pins σ H' s'->Q () s') :
  wpAny (model X.prog X.w) A (setItem (.ref a) u r) Q E s:=by
 rcases g with ⟨kvs,k,e,ey,l,eH⟩ | ⟨kvs,k,b,e,ey,eb,l,eH⟩
 . subst ey eH;obtain ⟨z,hd,vs,rel,dd⟩:=zQ I.hok e;have hz:vs.length<=qa7:=by rw [<- rel.length];exact z
   have hl:(dD kvs k v).length<=qa7:=by have:=hJ kvs k v;lia
   refine wpAny_setItem_pairs (hsz:=hz) (iD ry) dd fun h' dd' hs=>h _ ?_
   have he:∃ q,h'.get? a=some q:=let ⟨q,_,_,hq,_⟩:=dd';⟨q,hq⟩;exact oH I (by rw [e];exact qp5) hs he (xO hl hd (rel.put k rv) dd')
 . subst ey eH;cases (show u=qf3 b from ry);obtain ⟨z,hd,xs,rel,dd⟩:=zR I.hok e;have hz:xs.length<=qa7:=by rw [<- Paired.length rel];exact z
   have hl:(dD kvs k v).length<=qa7:=by have:=hJ kvs k v;lia
   refine wpAny_setItem_heap (hsz:=hz) (qq3 hu) (iE I.hok eb) dd fun h' dd' hs=>h _ ?_
   obtain ⟨q,es,ep,hq,h2,h3,h4,_,h5⟩:=dd';refine oH I (by rw [e];exact qp5) hs ⟨q,hq⟩ ⟨hl,hd,_,(rel.put k eb rv).keeps fun c ys ec=>?_,q,es,ep,hq,h2,h3,h4,h5⟩;rw [aK (zv ec e (fun z=>nomatch z))];exact ec
end
section
variable {X:Cx} {pins:List (Addr×Obj)} {σ:St} {H:Hp} {s:qa4} {a:Addr} {kvs:List (Key×V)} {k:Key} {u:Value} {A:qd2} {E:Value->qa4->Prop}
end
noncomputable def rq (i:Expr):Prop:=∀ ov iv,ze3 i false ov iv=operate [ov,iv] (qz2 ov iv)
theorem oI {prog:qb5} {w:World} {A:qd2} {E:Value->qa4->Prop} {s:qa4} {env:Env} {value slice:Expr} {pos:Pos} {T id:String} {Q:Value->qa4->Prop}
  (hl:typeLookup (.type T) "__getitem__"=pure (some (.builtin id))) (hs:rq slice)
  (h:wpAny (model prog w) A (eval value env) (fun o s₁=>wpAny (model prog w) A (eval slice env) (fun i s₂=>s₂.TypeIs o T/\wpAny (model prog w) A (qz2 o i) Q E s₂) E s₁) E s) :
  wpAny (model prog w) A (eval (.Subscript value slice pos) env) Q E s:=by
 refine Subscript_ (qk3 h (fun o s₁ h₁=>qk3 h₁ (fun i s₂ h₂=>?_) fun _ _ x=>x) fun _ _ x=>x);obtain ⟨hT,h₂⟩:=h₂;unfold zf4;refine wB ?_;rw [getitemInPython_of_ne hT.not_modules];refine wB (wpAny_specialOf hT hl ?_)
 have fin:wpAny (model prog w) A (ze3 slice false o i) (fun r s₃=>wpAny (model prog w) A (letTemporaryGo value o r >>= fun _=>pure r) Q E s₃) E s₂:=by rw [hs o i];exact wpAny_operating (qk3 h₂ (fun r s₃ h₃=>wB (wpAny_letTemporaryGo (qa2 h₃))) fun _ _ x=>x)
 first
  | exact qa2 (wB fin)
  | exact wB (qa2 (wB fin))
  | exact wB fin
theorem lJ {X:Cx} {pins:List (Addr×Obj)} {σ:St} {H:Hp} {s:qa4} {a:Addr} {y:V} {o:Option V} (I:Inv X pins σ H s) (g:DGet H a y o):s.TypeIs (.ref a) "dict":=by
 rcases g with ⟨kvs,k,e,_,_⟩ | ⟨kvs,k,b,e,_,_,_⟩
 . obtain ⟨_,_,vs,_,dd⟩:=jF I.hok e;exact dd.typeIs
 . obtain ⟨_,_,xs,_,dd⟩:=lI I.hok e;exact dd.typeIs
noncomputable def zS (td ty:TE):TE:=fun σ H Q=>td σ H fun x H1=>ty σ H1 fun y H2=>∃ a v,x=.ref a/\DGet H2 a y (some v)/\Q v H2
noncomputable def tDIn (ty td:TE):TE:=fun σ H Q=>ty σ H fun y H1=>td σ H1 fun x H2=>∃ a o,x=.ref a/\DGet H2 a y o/\Q (.bl o.isSome) H2
noncomputable def oJ (ty td:TE):TE:=fun σ H Q=>ty σ H fun y H1=>td σ H1 fun x H2=>∃ a o,x=.ref a/\DGet H2 a y o/\Q (.bl (!o.isSome)) H2
noncomputable def zT (td ty tv:TE):TS:=fun D σ H=>tv σ H fun v H1=>td σ H1 fun x H2=>ty σ H2 fun y H3=>∃ a H4,x=.ref a/\DPut H3 a y v H4/\D.nx σ H4
section
variable {X:Cx} {o i e value:Expr} {pos pos' tpos:Pos} {td ty tv:TE}
theorem uJ (hu:X.A.units+1<cLine) (ho:PE X o td) (hi:PE X i ty) (hs:rq i):PE X (.Subscript o i pos) (zS td ty):=by intro pins s σ H Q I h;refine oI PySem.F.slot_dict_getitem.lookup hs (thn (ho pins s σ H _ I h) fun u s1 ⟨x,H1,I1,rx,q1⟩=>thn (hi pins s1 σ H1 _ I1 q1) fun iv s2 ⟨y,H2,I2,ry,a,v,ex,g,q2⟩=>?_);subst ex;obtain rfl:u=qf3 a:=rx;exact ⟨lJ I2 g,qa hu I2 g ry fun w' s3 I3 rw'=>⟨v,H2,I3,rw',q2⟩⟩
theorem xP (hu:X.A.units+1<cLine) (hi:PE X i ty) (ho:PE X o td):PC X .In i o (tDIn ty td):=by
 intro pins s σ H Q I h;refine thn (hi pins s σ H _ I h) fun iv s1 ⟨y,H1,I1,ry,q1⟩=>thn (ho pins s1 σ H1 _ I1 q1) fun u s2 ⟨x,H2,I2,rx,a,ov,ex,g,q2⟩=>?_
 subst ex;obtain rfl:u=qf3 a:=rx;exact d_in hu I2 g ry fun s3 I3=>⟨.bl ov.isSome,H2,I3,rfl,q2⟩
theorem qc (hu:X.A.units+1<cLine) (hi:PE X i ty) (ho:PE X o td):PC X .NotIn i o (oJ ty td):=by
 intro pins s σ H Q I h;refine thn (hi pins s σ H _ I h) fun iv s1 ⟨y,H1,I1,ry,q1⟩=>thn (ho pins s1 σ H1 _ I1 q1) fun u s2 ⟨x,H2,I2,rx,a,ov,ex,g,q2⟩=>?_
 subst ex;obtain rfl:u=qf3 a:=rx;exact uI hu I2 g ry fun s3 I3=>⟨.bl (!ov.isSome),H2,I3,rfl,q2⟩
theorem uK (hu:X.A.units+1<cLine) (ho:PE X o td) (hi:PE X i ty) (hv:PE X value tv) (hs:qm6 value (some (.Subscript o i pos')) pos.line X.env=pure false) :
  PS X (.Assign [.Subscript o i pos'] value pos) (zT td ty tv):=by
 intro pins s σ H D I h;refine wpAny_Assign_Subscript (thn (hv pins s σ H _ I h) fun r s1 ⟨v,H1,I1,rv,q1⟩=>thn (ho pins s1 σ H1 _ I1 q1) fun u s2 ⟨x,H2,I2,rx,q2⟩=>thn (hi pins s2 σ H2 _ I2 q2) fun iv s3 ⟨y,H3,I3,ry,a,H4,ex,g,q3⟩=>?_) hs;subst ex;obtain rfl:u=qf3 a:=rx;exact qb hu I3 g ry rv fun s4 I4=>⟨σ,H4,I4,q3⟩
end
theorem rz {P:qb5} {w:World} {H:Hp} (h:Heap) (hb:qi1<h.objs.size):ObjOk P w H (h.push {cls:=.type "dict",data:=.dict #[]}) h.objs.size (.dK []):=⟨qi8 _,beq_eq_false_iff_ne.mpr (qk6 (qc4 hb)),[],.nil,Heap.DictOf.new h⟩
noncomputable def xQ:TE:=fun _ H Q=>∀ p,H p=none->Q (.ref p) (upd H p (.dK []))
section
variable {X:Cx} {pos:Pos}
theorem rA:PE X (.Dict [] [] pos) xQ:=fun pins s σ H Q I h =>wpAny_Dict_empty ⟨.ref s.heap.objs.size,_,I.laid (a:=s.heap.objs.size) (o:=.dK []) (t':=s.toks) (fun _ _ q=>gP _ q) (nL _) (rz s.heap I.big),rfl,h _ (I.hok.fresh (nL _))⟩
end
section
variable {X:Cx} {pins:List (Addr×Obj)} {σ:St} {H:Hp} {s:qa4} {a:Addr} {y d:V} {u r:Value} {o:Option V} {A:qd2} {E:Value->qa4->Prop}
end
section
variable {X:Cx} {o e f:Expr} {apos cpos:Pos} {td ty tx:TE}
end
section
variable {X:Cx} {pins:List (Addr×Obj)} {σ:St} {H:Hp} {s:qa4} {a:Addr} {kvs:List (Key×V)} {A:qd2} {E:Value->qa4->Prop}
end
section
variable {X:Cx} {pins:List (Addr×Obj)} {σ:St} {H:Hp} {s:qa4} {a:Addr} {y:V} {u:Value} {A:qd2} {E:Value->qa4->Prop}
end
end L2
namespace Att
open PySem PySem.W PySem.Calls PyProof.Rows
theorem il {P:Params} {h:Heap}:∀ (ns:List Int) (vs:List Value),WellAll P h vs (ns.map WData.int)->zb9 vs ns:=by
 intro ns;induction ns with
 | nil =>intro vs w;rw [qh2] at w;cases w;exact .nil
 | cons n ns ih =>
  intro vs w;rw [qa5] at w;cases w with
  | cons a b =>cases a;exact .cons _ _ (ih _ b)
theorem qd {l:OpenLaw} {n:Nat} (hn:l.most=some n) {P:Params} {h:Heap} {args:List WData} {vals:List Value}
  (hpre:l.row.toRowW.claim.pre args=true) (hwl:WellAll P h vals args) :
  ∃ a vs ns,vals=[qf3 a]/\args=[WData.list (ns.map WData.int)]/\h.get? a=some {cls:=.type "list",data:=.seq vs.toArray}/\zb9 vs ns/\ns.length<=n:=by
 have hsh:WShape.hasAll [] args [.list .int]=true:=(pre_splitW hpre).1;have hc:l.pre.holds [] {args:=args}=true:=(pre_splitW hpre).2;obtain ⟨d,r,rfl,h1,h2⟩:=hasAllW_cons hsh;obtain rfl:=hasAllW_nil h2;obtain ⟨xs,rfl,h3⟩:=hasW_list h1;obtain ⟨ns,rfl⟩:=items_int h3
 have hlen:ns.length<=n:=by
  unfold OpenLaw.pre at hc
  have h4:(WTm.not (.lt (.lit (.int (n:Int))) (.len (.arg 0)))).holds [] {args:=[.list (ns.map .int)]}=true:=by have h4:=(holds_andW hc).1;rw [hn] at h4;exact h4
  have h5:=condW_of h4 (w_not (w_lt w_lit (w_len_list (w_arg rfl))));rw [qa3] at h5;refine Nat.le_of_not_lt fun q=>?_
  have q':(n:Int)<((ns.length:Nat):Int):=by lia
  first
   | (rw [decide_eq_true q'] at h5;exact absurd h5 (by decide))
   | (simp at h5;lia)
 cases hwl with
 | cons w1 w2 =>
  cases w2;cases w1 with
  | list ho hall=>exact ⟨_,_,ns,rfl,rfl,ho,il ns _ hall,hlen⟩
theorem qe (l:OpenLaw) (args:List WData):l.row.toRowW.claim.post args (.bool true) args=true:=
 postW_of (r:=l.row.toRowW) (X:=(true==true))
  (show WShape.has [] (.bool true) .bool=true by first | rfl | decide | simp [WShape.has,WShape.arms,WShape.armsAll])
  (show (WTm.eq .res (.lit (.bool true))).value [] {args:=args,res:=some (.bool true),after:=args}=some (.bool (true==true)) from w_eq_bool (w_res rfl) w_lit) rfl
theorem wm {l:OpenLaw} {n:Nat} {q:qb5} {loose:List Str} {XP:(Str->Option Value)->Heap->Prop} {YP:World->Heap->Prop} {d:DefRec}
  (hn:l.most=some n) (hdf:d.params.defaults=[])
  (call:∀ (w:World) (s₀ s₁:qa4) (mg mb:Str->Option Value) (fa:Addr) (o:Obj) (pm cd doc:Value) (a:Addr) (vs:List Value) (ns:List Int),
   Ground q loose [] XP w s₀ mg mb s₁.heap->YP w s₁.heap→
   s₁.heap.get? fa=some o->o.data=.func (docDef d.name d.params d.body d.scope pm cd doc)->s₁.heap.CodeRec cd d.name->mg d.name=some (.ref fa)→
   s₁.heap.get? a=some {cls:=.type "list",data:=.seq vs.toArray}->zb9 vs ns->ns.length<=n->s₁.gens=#[]→
   qs7 (model l.prog w) zg0 (.call (.ref fa) ⟨[.ref a],[]⟩) (fun r s'=>r=.ok (.ret (.bool true))/\OldK s₁.heap s'.heap/\s'.os=s₁.os/\zb3 s'.gens) s₁) :
  WalkO q loose XP YP l.row.toRowW d [] (fun f vs=>PySem.call f vs):=by
 intro w s₀ s₁ mg mb G Y fa o pm cd doc dV kV ho hd hcd hD hmg hg args vals as hpre hlay hrd hwl hlo;obtain rfl:dV=.none:=Dflts.none hD hdf;obtain rfl:kV=.none:=Dflts.noKw hD;obtain ⟨a,vs,ns,rfl,rfl,hobj,hints,hlen⟩:=qd hn hpre hwl;refine enter_call (qv7 (call w s₀ s₁ mg mb fa o pm cd doc a vs ns G Y ho (fd_plain hd) hcd hmg hobj hints hlen hg) fun r s' hq=>?_);obtain ⟨rfl,h2,h3,h4⟩:=hq;exact ⟨.inl ⟨.bool true,.bool true,[],rfl,fun _=>rfl,.bool true,qe l _,fun _=>⟨qr5,fun _ hm=>(nomatch hm)⟩⟩,h2,h3,h4⟩
section
variable {prog:qb5} {w:World} {A:qd2} {E:Value->qa4->Prop} {s:qa4} {K:Frag}
end
end Att
namespace L2
open PySem PySem.Spec PyProof.Rows
theorem jG:∀ {vs:List Value} {ns:List Int},zb9 vs ns->Vals (ns.map V.int) vs
 | _,_,.nil=>.nil
 | _,_,.cons n t h=>.cons ⟨t,rfl⟩ (jG h)
noncomputable def uL (H:Hp):Prop:=∀ b,H b=none∨∃ o xs,H b=some (.frz o (.lst xs))
theorem rB {P:qb5} {w:World} {K:PySem.W.Frag} {mg mb:Str->Option Value} {CX:CXT} {k:Nat} {fa a:Addr} {fd:ql1} {x:Str} {sp:Sp} {s₁:qa4} {vs:List Value} {ns:List Int}
  (KX:K.In s₁.heap) (hns:s₁.heap.Ns qc9 mg) (hb:s₁.heap.Ns builtinsNs mb) (hbb:∀ x:Str,x≠"__name__"->mb x=qd7 x) (hlim:s₁.heap.NoLimit) (hg:s₁.gens=#[]) (hT0:lA K=[])
  (ha:s₁.heap.get? a=some {cls:=.type "list",data:=.seq vs.toArray}) (hi:zb9 vs ns) (hl:ns.length<=qa7) (hr:Room k zg0)
  (F:∀ base:Heap,K.In base->base.Ns qc9 mg->FnOk P w K mg base CX k fa fd [x] sp) (hbind:∀ (s:qa4) (u:Value),zh5 s fd ⟨[u],[]⟩ [(x,u)])
  (hsp:∀ H:Hp,uL H->SqL K H a (ns.map V.int)->sp [.ref a] H (fun v _=>v=.bl true) fun _ _ _=>False)
  (hCX:∀ H e s',CX [] H s₁ (fun _ _ _=>False) e s'->False) :
  qs7 (model P w) zg0 (.call (.ref fa) ⟨[.ref a],[]⟩) (fun r s'=>r=.ok (.ret (.bool true))/\OldK s₁.heap s'.heap/\s'.os=s₁.os/\zb3 s'.gens) s₁:=by
 have rv:=jG hi;have lenV:=hi.length
 -- from an abstract heap in which nothing but the script may be tracked
 have core:∀ H:Hp,uL H->SqL K H a (ns.map V.int)->HOk P w H s₁.heap->(∀ b,H b≠none->b=a)->(H a≠none->K.lookup a=none)→
     qs7 (model P w) zg0 (.call (.ref fa) ⟨[.ref a],[]⟩) (fun r s'=>r=.ok (.ret (.bool true))/\OldK s₁.heap s'.heap/\s'.os=s₁.os/\zb3 s'.gens) s₁:=by
  intro H hO hS hok hA hK;have base_of:∀ {b:Addr} {o:Obj},s₁.heap.get? b=some o->H b=none->(ku s₁.heap H).get? b=some o:=fun e n=>qT e n
  have noA:∀ {b:Addr} {o:Obj} {es:Array zh4} {ep:Nat},s₁.heap.get? b=some o->o.data=.dict es ep->H b=none:=fun {b o es ep} e d=>by
   cases q:H b with
   | none=>rfl
   | some u =>
    have e':b=a:=hA b (by rw [q];simp);subst e';rw [ha] at e;cases e
    have d':Data.seq vs.toArray _=Data.dict es ep:=d;cases d'
  have nsK:∀ {b:Addr} {m:Str->Option Value},s₁.heap.Ns b m->(ku s₁.heap H).Ns b m:=fun {b m} ⟨o,es,ep,e,d,r⟩=>⟨o,es,ep,base_of e (noA e d),d,r⟩
  have hKb:K.In (ku s₁.heap H):=fun b o e=>base_of (KX b o e) (by
   cases q:H b with
   | none=>rfl
   | some u =>have e':b=a:=hA b (by rw [q];simp);subst e';rw [hK (by rw [q];simp)] at e;cases e)
  have hM:Mod K mg (ku s₁.heap H):=⟨hKb,nsK hns,⟨mb,nsK hb,hbb⟩,let ⟨mc,h1,h2⟩:=hlim;⟨mc,nsK h1,h2⟩⟩;have e0:Env0 P w K mg (ku s₁.heap H) zg0 [] s₁ H:=⟨rfl,hM,fun b o e=>up e,Nat.le_of_eq (pX _ _),trivial,fun b hb=>absurd (show b∈([]:List Addr) from hb) (by simp),hok,.of_eq hg,fun p hp=>by rw [hT0] at hp;cases hp⟩;refine qv7 ((F _ hKb (nsK hns)).run zg0 [] s₁ H ⟨[.ref a],[]⟩ [.ref a] [.ref a] _ _ hr e0 (hbind s₁ (.ref a)) (.cons rfl .nil) (hsp H hO hS)) fun r s' h=>?_
  cases r with
  | error e=>exact (hCX H e s' h).elim
  | ok fl =>
   cases fl with
   | next=>exact ql3 h
   | brk=>exact ql3 h
   | cont=>exact ql3 h
   | ret u =>
    obtain ⟨v,H',os,bare,un,hok',r',q⟩:=h;have q':v=.bl true:=q;subst q';obtain rfl:u=Value.bool true:=r';refine ⟨rfl,OldK.of_keep fun b o e=>?_,os,bare⟩;cases q:H b with
    | none=>exact un.keep b o e q (by intro z;exact absurd (show b∈([]:List Addr) from z) (by simp)) (by simp)
    | some u =>
     rcases hO b with z | ⟨ob,xs,z⟩
     . rw [q] at z;cases z
     . have z2:=un.frzs b ob _ z;obtain ⟨e1,_⟩:=hok b _ z;obtain ⟨e2,_⟩:=hok' b _ z2;rw [e] at e1;cases e1
       exact e2
 cases hk:K.lookup a with
 | some o =>
  -- the script is one of the module's own objects
  have e:=KX a o hk;rw [ha] at e;cases e;refine core (fun _=>none) (fun _=>.inl rfl) (.inr ⟨_,vs.toArray,_,hk,rfl,rfl,rfl,by rw [qb3,lenV];exact hl,by simpa using rv⟩) (fun b u z=>by have z':(none:Option HO)=some u:=z;cases z') (fun b z=>absurd rfl z) fun z=>absurd rfl z
 | none =>
  refine core (fun b=>if b=a then some (.frz {cls:=.type "list",data:=.seq vs.toArray} (.lst (ns.map V.int))) else none) (fun b=>?_) (.inl (.inr ⟨{cls:=.type "list",data:=.seq vs.toArray},if_pos rfl⟩)) (fun b u z=>?_) (fun b z=>?_) fun _=>hk
  . by_cases hb:b=a
    . exact .inr ⟨_,_,if_pos hb⟩
    . exact .inl (if_neg hb)
  . by_cases hb:b=a
    . have z':=(if_pos hb).symm.trans z;cases z';subst hb;exact ⟨ha,by rw [qa3];exact hl,vs,_,rv,ha⟩
    . have z':=(if_neg hb).symm.trans z;cases z'
  . by_cases hb:b=a
    . exact hb
    . exact absurd (if_neg hb) z
theorem AH {l:PySem.W.OpenLaw} {n k:Nat} {q:qb5} {loose:List Str} {XP:(Str->Option Value)->Heap->Prop} {YP:World->Heap->Prop} {d:DefRec} {K:Params->PySem.W.Frag} {CX:World->CXT} {sp:World->Sp} {x:Str}
  (hn:l.most=some n) (hn2:n<=qa7) (hdf:d.params.defaults=[]) (hr:Room k zg0)
  (hY:∀ (w:World) (h:Heap),YP w h->(K w.params).In h) (hT0:∀ w:World,lA (K w.params)=[])
  (F:∀ (w:World) (mg:Str->Option Value) (fa:Addr) (h:Heap),(K w.params).In h->h.Ns qc9 mg->mg d.name=some (.ref fa)→
   ∃ fd:ql1,(∀ (s:qa4) (u:Value),zh5 s fd ⟨[u],[]⟩ [(x,u)])∧∀ base:Heap,(K w.params).In base->base.Ns qc9 mg->FnOk l.prog w (K w.params) mg base (CX w) k fa fd [x] (sp w))
  (hsp:∀ (w:World) (H:Hp) (a:Addr) (ns:List Int),ns.length<=n->uL H->SqL (K w.params) H a (ns.map V.int)->sp w [.ref a] H (fun v _=>v=.bl true) fun _ _ _=>False)
  (hCX:∀ (w:World) (H:Hp) (s:qa4) (e:Value) (s':qa4),CX w [] H s (fun _ _ _=>False) e s'->False) :
  PySem.W.WalkO q loose XP YP l.row.toRowW d [] (fun f vs=>PySem.call f vs):=by
 refine Att.wm hn hdf fun w s₀ s₁ mg mb fa o pm cd doc a vs ns G Y ho hd hcd hmg hobj hints hlen hg=>?_
 have KX:=hY w _ Y;obtain ⟨fd,hb,hF⟩:=F w mg fa _ KX G.T.g hmg;exact rB KX G.T.g G.T.b G.T.builtins G.T.nolimit hg (hT0 w) hobj hints (qc5 hlen hn2) hr hF hb (fun H hO hS=>hsp w H a ns hlen hO hS) fun H e s'=>hCX w H s₁ e s'
end L2
/- THE LAST THEOREM (shape;LID,My.* are yours):
   My.Adr: a structure of the addresses that your layer names (classes,functions);My.Txt K t: a structure (Prop) of the equations over K;
   My.txt_mk:{K} {implicit addresses ..} (e1:nsIn K qc9 "law"=some (some (.ref f))) (e2:K.lookup f=some ⟨oc,od,.func (fnOf "law" "law" params body scope dV kV doc pm an cdv ct),sl⟩) (e3:codeIn K cdv "law"=true) ..:∃ t,My.Txt K t
(the tactic k_is has no namespace: write k_is) -/
namespace L2
open PySem PySem.Spec PyProof.Rows
noncomputable def cQ (s:Stmt):qq2:=match s with
 | .FunctionDef _ a _ _ _ _ _ _ _ _=>a
 | _=>{posonlyargs:=[],args:=[],vararg:=none,kwonlyargs:=[],kw_defaults:=[],kwarg:=none,defaults:=[]}
noncomputable def bP (s:Stmt):List Stmt:=match s with
 | .FunctionDef _ _ b _ _ _ _ _ _ _=>b
 | _=>[]
noncomputable def ac (s:Stmt):Scope:=match s with
 | .FunctionDef _ _ _ _ _ _ sc _ _ _=>sc
 | _=>{kind:=.function,names:=[],isGenerator:=false,isCoroutine:=false}
abbrev CX0:CXT:=fun _ _ _ _ _ _=>False
abbrev E0:XK:=fun _ _ _=>False
theorem zU {X:Cx}:ni CX0 X E0:=fun _ _ _ _ _ _ _ h=>h.elim
structure Fun (K:PySem.W.Frag) (x qual:Str) (st:Stmt) (f:Addr) (fd:ql1):Prop where
 ex:∃ (oc:Value) (od:Option Addr) (kV doc pm:Value) (an:Option Addr) (cdv ct:Value) (osl:Array (Option Value)),fd=PySem.W.fnOf x qual (cQ st) (bP st) (ac st) .none kV doc pm an cdv ct/\K.lookup f=some ⟨oc,od,.func fd,osl⟩/\PySem.W.codeIn K cdv qual=true
 kp:PySem.W.keepIn K (.ref f)=true
section
variable {P:qb5} {w:World} {K:PySem.W.Frag} {mg:Str->Option Value} {base:Heap}
theorem Fun.ok {x qual:Str} {st:Stmt} {f:Addr} {fd:ql1} {N ps:List Str} {k:Nat} {sp:Sp} (F:Fun K x qual st f fd) (S:FnScope N ps (ac st)) (len:∀ vs H Q E,sp vs H Q E->vs.length=ps.length)
  (hbody:∀ (cdv:Value) (A:qd2) (outer:List Env) (s:qa4) (H:Hp) (vs:List V) (Q:VK) (E:XK),Room k (A.deeper (qx2 qual (ac st) s.heap.objs.size f cdv))->sp vs H Q E→
   ∃ t,PSs (iB CX0 P w K mg base N qual (ac st) f cdv A outer s H E).nox (bP st) t/\t {nx:=fun _ H'=>Q .non H',rt:=Q} (start N vs) H):FnOk P w K mg base CX0 (k+1) f fd ps sp:=by
 obtain ⟨oc,od,kV,doc,pm,an,cdv,ct,osl,rfl,lk,hcd⟩:=F.ex;refine zL lk hcd S len fun A outer s H vs Q E hr hsp=>?_
 obtain ⟨t,h,q⟩:=hbody cdv A outer s H vs Q E hr hsp;exact ⟨t,h.nox,q⟩
theorem Fun.binds {x qual:Str} {st:Stmt} {f:Addr} {fd:ql1} {ps:List Str} (F:Fun K x qual st f fd)
  (h:∀ (kV doc pm:Value) (an:Option Addr) (cdv ct:Value) (us:List Value),us.length=ps.length->bindArgs (PySem.W.fnOf x qual (cQ st) (bP st) (ac st) .none kV doc pm an cdv ct) ⟨us,[]⟩=pure (ps.zip us)):Binds K fd ps []:=by
 obtain ⟨oc,od,kV,doc,pm,an,cdv,ct,osl,rfl,lk,hcd⟩:=F.ex;exact .all (h kV doc pm an cdv ct)
theorem nq {x qual:Str} {st:Stmt} {f:Addr} {oc:Value} {od an:Option Addr} {osl:Array (Option Value)} {kV doc pm cdv ct:Value} (l:K.lookup f=some ⟨oc,od,.func (PySem.W.fnOf x qual (cQ st) (bP st) (ac st) .none kV doc pm an cdv ct),osl⟩) (c:PySem.W.codeIn K cdv qual=true) (k:PySem.W.keepIn K (.ref f)=true):Fun K x qual st f (PySem.W.fnOf x qual (cQ st) (bP st) (ac st) .none kV doc pm an cdv ct):=⟨⟨oc,od,kV,doc,pm,an,cdv,ct,osl,rfl,l,c⟩,k⟩
end
theorem oK {A:qd2} {k:Nat} (hr:Room k A):A.units+1<cLine:=qw0 (Nat.add_le_add_left (by decide:1<=64) _) hr.units
section
variable {X:Cx}
end
noncomputable def Same (H H':Hp):Prop:=∀ b o,H b=some o->H' b=some o
theorem Same.refl (H:Hp):Same H H:=fun _ _ h=>h
theorem Same.trans {H H1 H2:Hp} (a:Same H H1) (b:Same H1 H2):Same H H2:=fun c o h=>b c o (a c o h)
theorem Same.free {H H':Hp} (e:Same H H') {l:Addr} (h:H' l=Option.none):H l=Option.none:=by
 cases q:H l with
 | none=>rfl
 | some o =>rw [e l o q] at h;cases h
theorem Same.seq {K:PySem.W.Frag} {H H':Hp} {a:Addr} {xs:List V} (e:Same H H') (h:SqL K H a xs):SqL K H' a xs:=by
 rcases h with (h | ⟨o,h⟩) | h
 . exact .inl (.inl (e _ _ h))
 . exact .inl (.inr ⟨o,e _ _ h⟩)
 . exact .inr h
section
variable {κ:Type} [DecidableEq κ]
end
set_option maxRecDepth 100000
set_option maxHeartbeats 4000000
section
variable {M:Model} {A:qd2} {E:Value->qa4->Prop} {s₀ s:qa4} {m cm:Str->Option Value} {env:Env} {cs:List (Str×Addr)}
end
noncomputable def lK (names:List (Str×qp2)) (cells:List (Str×Addr)):List (Str×Addr):=names.foldl (fun cs nk=>if nk.2==qh0 then (nk.1,(cells.lookup nk.1).getD 0)::cs else cs) []
theorem oM {cells:List (Str×Addr)} {env:Env} (hc:env.cells=cells):∀ (names:List (Str×qp2)) (acc:List (Str×Addr)),(∀ x∈names,x.2=.free->∃ c,cells.lookup x.1=some c)→
  (forIn names acc (fun (x:Str×qp2) (r:List (Str×Addr))=>if (x.2==qh0)=true then (do let c <- cellOf env x.1;pure (qn7 ((x.1,c)::r))) else (pure (qn7 r):Sem _)))
   = (pure (names.foldl (fun cs nk=>if nk.2==qh0 then (nk.1,(cells.lookup nk.1).getD 0)::cs else cs) acc):Sem (List (Str×Addr)))
 | [],acc,_=>rfl
 | x::r,acc,h=>by
  have ih:=fun acc=>oM hc r acc fun y hy=>h y (qe4 _ hy)
  simp only [List.forIn_cons,qi6];cases e:(x.2==qh0) with
  | false =>simp only [qh7,if_false];exact ih acc
  | true =>
   obtain ⟨c,hcx⟩:=h x qf0 (by simpa using e);have hcell:cellOf env x.1=pure c:=by unfold cellOf;rw [hc,hcx]
   simp only [if_true,hcell,hcx,Option.getD_some];exact ih _
theorem iF {scope:Scope} {env:Env} (h:∀ x∈scope.names,x.2=.free->∃ c,env.cells.lookup x.1=some c):closureFor scope env=pure (lK scope.names env.cells):=by have:=oM (env:=env) rfl scope.names [] h;unfold closureFor lK;rw [<- this];simp only [bind_pure]
theorem jH {cells:List (Str×Addr)}:∀ {names:List (Str×qp2)} {acc:List (Str×Addr)} {x:Str} {c:Addr},(∀ y∈names,y.2=.free->∃ c,cells.lookup y.1=some c)→
  (names.foldl (fun cs nk=>if nk.2==qh0 then (nk.1,(cells.lookup nk.1).getD 0)::cs else cs) acc).lookup x=some c->(∀ c,acc.lookup x=some c->cells.lookup x=some c)->cells.lookup x=some c
 | [],acc,x,c,_,h,ha=>ha c h
 | y::r,acc,x,c,hy,h,ha=>by
  simp only [qi6] at h;refine jH (fun z hz=>hy z (qe4 _ hz)) h ?_;intro c' h';split at h'
  . rename_i hf;obtain ⟨c0,e0⟩:=hy y qf0 (by simpa using hf);rw [qk4] at h';split at h'
    . rename_i hx;have hx':x=y.1:=by simpa using hx
      rw [e0] at h';subst hx';rw [e0];simpa using h'
    . exact ha c' h'
  . exact ha c' h'
theorem eI {names:List (Str×qp2)} {cells:List (Str×Addr)} {x:Str} {c:Addr} (hy:∀ y∈names,y.2=.free->∃ c,cells.lookup y.1=some c) (h:(lK names cells).lookup x=some c):cells.lookup x=some c:=jH hy h fun c h=>by simp at h
theorem jI {cells:List (Str×Addr)}:∀ {names:List (Str×qp2)} {acc:List (Str×Addr)} {x:Str},((x,qh0)∈names∨(acc.lookup x).isSome)→
  ((names.foldl (fun cs nk=>if nk.2==qh0 then (nk.1,(cells.lookup nk.1).getD 0)::cs else cs) acc).lookup x).isSome
 | [],acc,x,h=>by simpa using h
 | y::r,acc,x,h=>by
  simp only [qi6];refine jI ?_;rcases h with h | h
  . rcases qa9.mp h with e | h
    . subst e;right;simp [qk4]
    . exact .inl h
  . right;split
    . rw [qk4];split
      . rfl
      . exact h
    . exact h
theorem lL {names:List (Str×qp2)} {cells:List (Str×Addr)} {x:Str} (h:(x,qh0)∈names):∃ c,(lK names cells).lookup x=some c:=qx3.mp (jI (.inl h))
structure CmpScope (N:List Str) (outer scope:Scope) (M:List Str) (src:List (Option Nat)):Prop where
 kind:scope.kind=.function
 nocell:∀ y∈scope.names,y.2≠.cell
 free:∀ y∈scope.names,y.2=.free->outer.names.lookup y.1=some .cell∨outer.names.lookup y.1=some .free
 names:∀ y∈scope.names,y.2=.local->scope.names.lookup y.1=some .local
 lf:∀ y∈scope.names,y.2=.free->scope.names.lookup y.1=some .free
 len:M.length=src.length
 nd:M.Nodup
 src:∀ p∈M.zip src,∀ j∈p.2,N[j]?=some p.1/\(p.1,qh0)∈scope.names
noncomputable def stC (src:List (Option Nat)) (σ:St):St:=src.map fun o=>o.bind fun j=>(σ[j]?).join
noncomputable def cxC (X:Cx) (M:List Str) (scope:Scope) (C:Addr) (s:qa4) (H:Hp) (ex:List Addr):Cx:={X with N:=M,s₀:=s,H₀:=H,env:=compEnvC scope (lK scope.names X.env.cells) C X.env,outer:=X.stack,ex:=ex,fn:=fun _=>false,pn:=[],xe:=fun _ _=>False}
noncomputable def PTs (X:Cx) (ifs:List Expr) (t:TT):Prop:=
 ∀ (pins:List (Addr×Obj)) (s:qa4) (σ:St) (H:Hp) (Q:Bool->Hp->Prop),Inv X pins σ H s->t σ H Q→
  wpAny (model X.prog X.w) X.A (forIn ifs true fun c r=>if r=true then do let ok <- isTrue c X.env (eval c X.env);pure (qn7 ok) else pure (qn7 r)) (TP X pins σ Q) X.xe s
noncomputable def tYes:TT:=fun _ H Q=>Q true H
theorem uM {X:Cx}:PTs X [] tYes:=fun pins s σ H Q I h=>wpAny_tests_nil ⟨H,I,h⟩
theorem uN {X:Cx} {c:Expr} {t:TT} (h:PT X c t):PTs X [c] t:=fun pins s σ H Q I hq=>wpAny_tests_one (h pins s σ H Q I hq)
noncomputable def Wk (a b:St):Prop:=a.length=b.length/\∀ (i:Nat) v,a[i]?=some (some v)->b[i]?=some (some v)
noncomputable def jJ (src:List (Option Nat)) (wi:TI) (g:TG) (tt:TT) (te:TE):TE:=fun σ H Q=>wi σ H fun J H1=>∀ D,H1 D=none->∃ W:Nat->Nat->Hp->Prop,(∃ m,W 0 m (upd H1 D (.lst [])))/\∀ i m H,W i m H→
 (J.stop i H/\Q (.ref D) H)∨(J.go i H/\∃ N:Hp->Prop,(∀ H',N H'->∃ m',m'<m/\W (i+1) m' H')/\∀ x H',J.yld i H x H'→
  g x (stC src σ) H' fun σ2 H2=>Wk (stC src σ) σ2/\tt σ2 H2 fun b H3=>if b=true then te σ2 H3 fun v H4=>∃ ys,H4 D=some (.lst ys)/\ys.length<qa7/\N (upd H4 D (.lst (ys++[v]))) else N H3)
theorem fX {prog:qb5} {w:World} {A:qd2} {R:Result->qa4->Prop} {s:qa4} {elt target iter:Expr} {ifs:List Expr} {scope:Scope} {pos:Pos} {it acc:Value} {env:Env} (I:Nat->qa4->Prop)
  (turn:∀ n s,I n s->wpAny (model prog w) A (qs1 it) (fun r s₁=>match r with
   | none=>R (.ok .next) s₁
   | some v=>wpAny (model prog w) A (qu2 target it v) (fun _ s₁'=>wpAny (model prog w) A (zb5 target env v) (fun _ s₂ =>
       wpAny (model prog w) A (forIn ifs true fun c r=>if r=true then do let ok <- isTrue c env (eval c env);pure (qn7 ok) else pure (qn7 r)) (fun ok s₃ =>
        if ok=true then wpAny (model prog w) A (eval elt env) (fun x s₄ =>wpAny (model prog w) A (call (.builtin "list.append") [acc,x]) (fun _ s₅=>∃ m,m<n/\I m s₅) (fun _ _=>False) s₄) (fun _ _=>False) s₃
        else ∃ m,m<n/\I m s₃) (fun _ _=>False) s₂) (fun _ _=>False) s₁') (fun _ _=>False) s₁) (fun _ _=>False) s)
  (n:Nat) (h:I n s) :
  qs7 (model prog w) A (.compLoop (.ListComp elt [⟨target,iter,ifs,0⟩] scope pos) 0 it acc env) R s:=by
 refine codeAny_loop rfl I (fun n s hI=>?_) n h;show wpAny _ A ((compTurn (.ListComp elt [⟨target,iter,ifs,0⟩] scope pos) 0 it acc env).onRaise (fun x=>do noteFrame x env;theTreesLotGoes x)) _ _ s;refine wpAny_noted ?_;rw [compTurn_list];refine wB (zf1 (wB (qk3 (turn n s hI) (fun r s₁ h₁=>?_) fun _ _ h'=>h'.elim)));cases r with
 | none=>exact qa2 h₁
 | some v =>
  refine wB (qk3 h₁ (fun _ s₁' h₁'=>?_) fun _ _ h'=>h'.elim);refine wB (qk3 h₁' (fun _ s₂ h₂=>wB (qk3 h₂ (fun ok s₃ h₃=>?_) fun _ _ h'=>h'.elim)) fun _ _ h'=>h'.elim);cases ok with
  | false=>exact qa2 ⟨rfl,h₃⟩
  | true =>exact wB (wB (qk3 h₃ (fun x s₄ h₄=>wB (qk3 h₄ (fun _ s₅ h₅=>qa2 (qa2 ⟨rfl,h₅⟩)) fun _ _ h'=>h'.elim)) fun _ _ h'=>h'.elim))
section
variable {X:Cx} {elt tg iter:Expr} {ifs:List Expr} {scope:Scope} {pos:Pos} {M:List Str} {src:List (Option Nat)} {wi:TI} {g:TG} {tt:TT} {te:TE}
theorem kJ {env:Env} {scope:Scope} {x:Str} (hn:∀ y∈scope.names,y.2≠.cell) (h:(relabel scope env).names.lookup x=some .cell∨(relabel scope env).names.lookup x=some .free):(x,qh0)∈scope.names:=by
 have key:∀ k,(relabel scope env).names.lookup x=some k->(k=.cell∨k=.free)->(x,qh0)∈scope.names:=by
  intro k hk hkk;have hm:=PySem.mem_of_lookup hk;unfold relabel at hm;obtain ⟨⟨n,k0⟩,hy,e⟩:=qc1.mp hm;dsimp only at e;split at e
  . rename_i hc;simp only [qb1] at hc;have:k0=.free:=by simpa using hc.1.1
    subst this;cases e;exact hy
  . cases e;rcases hkk with z | z
    . subst z;exact absurd rfl (hn _ hy)
    . subst z;exact hy
 rcases h with h | h
 . exact key _ h (.inl rfl)
 . exact key _ h (.inr rfl)
theorem lM {pins:List (Addr×Obj)} {σ:St} {H:Hp} {s s1:qa4} {fp:List Addr} {m1:Str->Option Value} (S:CmpScope X.N X.env.scope scope M src) (I:Inv X pins σ H s) (hf:∀ b∈fp,fI X pins H b)
  (hfl:∀ b∈fp,b<s.heap.objs.size) (hn:s1.heap.Ns s.heap.objs.size m1) (hk:∀ b o,s.heap.get? b=some o->s1.heap.get? b=some o) (hos:s1.os=s.os) (hg:s1.gens=s.gens) :
  Inv (cxC X M scope s.heap.objs.size s H fp) [] (stC src σ) H s1:=by
 have hcells:∀ x∈scope.names,x.2=.free->∃ c,X.env.cells.lookup x.1=some c:=fun x hx hfr=>I.ok.has x.1 (S.free x hx hfr)
 have sub:∀ x c,(lK scope.names X.env.cells).lookup x=some c->X.env.cells.lookup x=some c:=fun x c h=>eI hcells h
 have cellK:∀ c v,s.heap.IsCell c v->s1.heap.IsCell c v:=fun c v ⟨o,ho,hd⟩=>⟨o,hk c o ho,hd⟩
 refine ⟨⟨I.ok.mod,S.kind,I.ok.glob,I.ok.blt,nL _,fun y z c h1 h2=>I.ok.inj y z c (sub _ _ h1) (sub _ _ h2),fun x hx=>lL (kJ S.nocell hx),fun x c h=>(nomatch h),I.ok.hd,I.ok.frames,.inl rfl,
  fun b hb=>⟨qc4 (hfl b hb),fun x c h=>(hf b hb).2.2.2.2.1 x c (sub _ _ h)⟩,I.bs,qc5 I.ok.bsz I.sz,fun b o e hb=>?_,fun b hb z=>?_,I.stack,I.stkFree,fun p hp=>I.base.cts _ _ (I.ok.tb p hp)⟩,
  hos,(by rw [hg];exact I.bare),Un.kept hk,⟨m1,hn,fun i x v h1 h2 h3=>?_⟩,fun x c h=>?_,I.hok.fresh (qy7 _),fun x c h=>I.freeC x c (sub _ _ h),fun p hp=>absurd hp (by simp [cxC]),I.hok.kept hk,?_⟩
 . rcases (hf b hb).2.2.2.1 with z | z
   . exact I.ok.noex b o e z
   . exact absurd (qb6 (qa8 e) (qc5 I.ok.bsz z)) (qm3 _)
 . rcases qa9.mp (I.stkSub b z) with q | q
   . exact (hf b hb).2.1 q
   . exact (hf b hb).2.2.1 q
 . -- a name taken over
   have h1:M[i]?=some x:=h1;unfold stC at h2;rw [qb9] at h2;cases hs:src[i]? with
   | none=>rw [hs] at h2;cases h2
   | some o =>
    rw [hs] at h2;simp only [qf5,qi0] at h2;cases o with
    | none=>cases h2
    | some j =>
     simp only [qa1] at h2
     have hmem:(x,some j)∈M.zip src:=by
      have:(M.zip src)[i]?=some (x,some j):=by rw [qw6];exact ⟨h1,hs⟩
      exact qf9 this
     obtain ⟨hN,hfr⟩:=S.src _ hmem j rfl
     have hσ:σ[j]?=some (some v):=by
      cases e:σ[j]? with
      | none=>rw [e] at h2;cases h2
      | some o=>rw [e] at h2;simp only [qm7] at h2;rw [h2]
     have hkind:=S.free _ hfr rfl;obtain ⟨m,hm,hl⟩:=I.loc;obtain ⟨u,r,l⟩:=hl j x v hN hσ (.inr hkind);refine ⟨u,r,?_⟩
     have hloc:X.env.kindOf x≠some .local:=by show X.env.scope.names.lookup x≠_;rcases hkind with q | q<;>rw [q]<;>decide
     rcases l with l | ⟨_,c,e,z⟩
     . exact absurd l.1 hloc
     . obtain ⟨c',e'⟩:=lL (cells:=X.env.cells) hfr;have:=sub _ _ e';rw [e] at this;cases this;refine .inr ⟨?_,c,e',cellK _ _ z⟩;rcases h3 with q | q
       . exact absurd q (by
          -- a name that is free in the block is not local there
          exact (by
           intro q
           have:scope.names.lookup x=some .local:=by
            have hb:∀ (names:List (Str×qp2)),(names.map fun (n,k)=>if (k==qh0&&X.env.scope.kind==.function&&X.env.kindOf n==some .cell) then (n,qp2.cell) else (n,k)).lookup x=some .local->names.lookup x=some .local:=by
             intro names;induction names with
             | nil=>intro h;simp at h
             | cons y r ih =>
              obtain ⟨n,k⟩:=y;intro h;simp only [qa5] at h;by_cases hx:x=n
              . subst hx;split at h
                . simp [qk4] at h
                . simpa [qk4] using h
              . have hx':(x==n)=false:=by simpa using hx
                split at h
                . simp only [qk4,hx'] at h ⊢;exact ih h
                . simp only [qk4,hx'] at h ⊢;exact ih h
            exact hb _ q
           rw [S.lf _ hfr rfl] at this;cases this))
       . exact q
 . obtain ⟨v,z⟩:=I.cell x c (sub _ _ h);exact ⟨v,cellK _ _ z⟩
 . show (stC src σ).length=M.length;unfold stC;rw [qa3,S.len]
theorem lN (S:CmpScope X.N X.env.scope scope M src) (hc:X.calm=true) (hi:PI X tg iter wi) (hg:M.Nodup->∀ C s H ex,PG (cxC X M scope C s H ex) tg g) (ht:∀ C s H ex,PTs (cxC X M scope C s H ex) ifs tt)
  (he:∀ C s H ex,PE (cxC X M scope C s H ex) elt te) (hs:∀ x,qf7 iter X.env x=pure x:=by intro _;rfl) :
  PE X (.ListComp elt [⟨tg,iter,ifs,0⟩] scope pos) (jJ src wi g tt te):=by
 intro pins s σ H Q I h;rw [eval_ListComp];have hcells:∀ x∈scope.names,x.2=.free->∃ c,X.env.cells.lookup x.1=some c:=fun x hx hfr=>I.ok.has x.1 (S.free x hx hfr)
 refine qx5 (use:=none) rfl hs (iF hcells) S.kind S.names (thn (hi pins s σ H _ I h) fun v s1 h1=>thn h1 fun itv s2 h2=>?_);obtain ⟨it,fp,tn,J,H2,rfl,I2,T,st2,f2,hq⟩:=h2;refine qc8 ?_;have I3:Inv X pins σ (upd H2 s2.heap.objs.size (.lst [])) {s2 with heap:=s2.heap.push {cls:=.type "list",dict:=none,data:=.seq ([]:List Value).toArray},toks:=s2.toks}:=I2.lnew (its:=[]) (ys:=[]) (t':=s2.toks) .nil (by simp);have hD:H2 s2.heap.objs.size=none:=I2.fresh;obtain ⟨W,⟨m0,w0⟩,turn⟩:=hq _ hD;generalize hDn:s2.heap.objs.size=D at*
 generalize hs3:({s2 with heap:=s2.heap.push {cls:=.type "list",dict:=none,data:=.seq ([]:List Value).toArray},toks:=s2.toks}:qa4)=s3 at*
 have f3:∀ b∈fp,fI X pins (upd H2 D (.lst [])) b:=fun b hb=>⟨by obtain ⟨o,e,_⟩:=T.obj _ _ st2 b hb;rw [aK (by rw [<- hDn];exact qc4 (qa8 e))];exact (f2 b hb).1,(f2 b hb).2⟩
 have k23:∀ b o,s2.heap.get? b=some o->s3.heap.get? b=some o:=fun b o e=>by rw [<- hs3];exact gP _ e
 have st3:tn 0 s3.heap:=T.keep _ _ _ st2 fun b _ o e=>k23 b o e
 have fl3:∀ b∈fp,b<s3.heap.objs.size:=fun b hb=>by obtain ⟨o,e,_⟩:=T.obj _ _ st3 b hb;exact qa8 e
 refine wpAny_newFunctionEnv S.nocell (by intro y hy;simp at hy) (fun h₁ hns₁ hsb₁=>?_) S.kind;have k34:∀ b o,s3.heap.get? b=some o->h₁.get? b=some o:=fun b o e=>hsb₁.extBut b o (qc4 (qa8 e)) (gP _ e)
 generalize hs4:({s3 with heap:=h₁,toks:=s3.toks+([]:List (Str×Value)).length}:qa4)=s4
 have I4:Inv (cxC X M scope s3.heap.objs.size s3 (upd H2 D (.lst [])) fp) [] (stC src σ) (upd H2 D (.lst [])) s4:=by rw [<- hs4];exact lM S I3 f3 fl3 hns₁ k34 rfl rfl
 have st4:tn 0 s4.heap:=T.keep _ _ _ st3 fun b _ o e=>by rw [<- hs4];exact k34 b o e
 generalize hX':cxC X M scope s3.heap.objs.size s3 (upd H2 D (.lst [])) fp=X' at*
 have hg':PG X' tg g:=by rw [<- hX'];exact hg S.nd _ _ _ _
 have ht':PTs X' ifs tt:=by rw [<- hX'];exact ht _ _ _ _
 have he':PE X' elt te:=by rw [<- hX'];exact he _ _ _ _
 have eP:X'.prog=X.prog:=by rw [<- hX'];rfl
 have eW:X'.w=X.w:=by rw [<- hX'];rfl
 have eK:X'.K=X.K:=by rw [<- hX'];rfl
 have eA:X'.A=X.A:=by rw [<- hX'];rfl
 have ex':X'.xe=fun _ _=>False:=by rw [<- hX'];rfl
 have ec:X'.calm=true:=by rw [<- hX'];exact hc
 have eE:X'.env=compEnvC scope (lK scope.names X.env.cells) s3.heap.objs.size X.env:=by rw [<- hX'];rfl
 have stat:∀ {H':Hp},(∀ b∈fp,H' b=none)->∀ b∈fp,fI X' [] H' b:=fun hn b hb=>by
  rw [<- hX'];refine ⟨hn b hb,qc4 (fl3 b hb),fun z=>?_,.inl hb,fun x c h=>(f3 b hb).2.2.2.2.1 x c (eI hcells h),fun p hp=>absurd hp (by simp [cxC])⟩;rcases qa9.mp (I3.stkSub b z) with q | q
  . exact (f3 b hb).2.1 q
  . exact (f3 b hb).2.2.1 q
 -- behind the block
 have fin:∀ (H':Hp) (s':qa4),Inv X' [] (stC src σ) H' s'->Q (.ref D) H'->zd6 (model X.prog X.w) X.A X.xe none (EP X pins σ Q) (.ref D) s3.heap.objs.size (.ok .next) s':=by
  intro H' s' J' q;rw [<- hX'] at J';obtain ⟨m,hn,_⟩:=id J'.loc;refine ⟨m,hn,fun h' sb=>⟨.ref D,H',?_,rfl,q⟩⟩;have hC:H' s3.heap.objs.size=none:=J'.free;have un:Un (frs X.stack) fp (upd H2 D (.lst [])) H' s3.heap s'.heap:=J'.base;have kC:∀ b o,b≠s3.heap.objs.size->s'.heap.get? b=some o->h'.get? b=some o:=fun b o hb e=>sb.extBut b o hb e
  have un':Un (frs X.stack) fp (upd H2 D (.lst [])) H' s3.heap h':=
   ⟨fun b o e n hb hx=>kC b o (qc4 (qa8 e)) (un.keep b o e n hb hx),
    fun b o e n hb hx=>by obtain ⟨sl,e'⟩:=un.slot b o e n hb hx;exact ⟨sl,kC b _ (qc4 (qa8 e)) e'⟩,
    un.free,
    fun b o e hx=>by obtain ⟨o',e'⟩:=un.there b o e hx;exact ⟨o',kC b _ (qc4 (qa8 e)) e'⟩,un.tups,un.frzs,un.tbls,un.cts⟩
  have hok':HOk X.prog X.w H' h':=fun b u e=>by
   have nb:b≠s3.heap.objs.size:=fun z=>by rw [z,hC] at e;cases e
   refine (J'.hok b u e).stay (fun c v hc' q=>kC c v ?_ q) (fun _ q=>q) (fun _ _ q=>q) fun _ _ _ q=>q
   rcases hc' with z | z
   . rw [z];exact nb
   . intro w;rw [w,hC] at z;cases z
  exact I3.call' (s':={s' with heap:=h'}) (show s'.os=s3.os from J'.os) un' hok' J'.bare fun b hb=>⟨(f3 b hb).2.2.2.1,(f3 b hb).2.1,(f3 b hb).2.2.2.2.1,(f3 b hb).2.2.2.2.2⟩
 have loop:∀ s4':qa4,s4'=s4->qs7 (model X.prog X.w) X.A (.compLoop (.ListComp elt [⟨tg,iter,ifs,0⟩] scope pos) 0 (.ref it) (.ref D) X'.env) (zd6 (model X.prog X.w) X.A X.xe none (EP X pins σ Q) (.ref D) s3.heap.objs.size) s4':=by
  rintro _ rfl;refine fX (fun n s'=>∃ i H',Inv X' [] (stC src σ) H' s'/\tn i s'.heap/\(∀ b∈fp,H' b=none)/\W i n H') ?_ m0 ⟨0,_,I4,st4,fun b hb=>(f3 b hb).1,w0⟩;rintro n s5 ⟨i,H5,I5,st5,fr5,w5⟩;rcases turn i n H5 w5 with ⟨stop,qn⟩ | ⟨go,N,hN,step⟩
  . have:=T.done X' eP eW eK ec i [] s5 (stC src σ) H5 (fun _ _=>False) I5 (stat fr5) st5 stop;rw [eA] at this;refine thn this fun r s6 ⟨hr,I6⟩=>?_
    subst hr;exact fin H5 s6 I6 qn
  . have:=T.item X' eP eW eK ec i [] s5 (stC src σ) H5 (fun _ _=>False) I5 (stat fr5) st5 go;rw [eA] at this;refine thn this fun r s6 ⟨u,hr,h6⟩=>?_
    subst hr;refine thn h6 fun _ s7 ⟨x,H7,I7,r7,y7,st7,fr7⟩=>?_
    have I7':=I7.pinned (stat fr7) (T.obj _ _ st7);have a1:=hg' _ s7 (stC src σ) H7 x u _ I7' r7 (step x H7 y7);rw [ex',eP,eW,eA] at a1;refine thn a1 fun _ s8 ⟨σ8,H8,I8,wk8,q8⟩=>?_
    have a2:=ht' _ s8 σ8 H8 _ I8 q8;rw [ex',eP,eW,eA] at a2;refine thn a2 fun ok s9 ⟨H9,I9,q9⟩=>?_
    have again:∀ {H7':Hp} {s':qa4},Inv X' ([]++gy fp s7.heap) σ8 H7' s'->N H7'->∃ m,m<n/\∃ i H',Inv X' [] (stC src σ) H' s'/\tn i s'.heap/\(∀ b∈fp,H' b=none)/\W i m H':=fun {H7' s'} J7 n7=>by obtain ⟨m',hm,w7⟩:=hN H7' n7;refine ⟨m',hm,i+1,H7',J7.unpinned.weak wk8.1 wk8.2,T.keep _ _ _ st7 fun b hb o e=>(J7.pin (b,o) (qc7 _ (qc7 _ (cG hb e)))).1,fun b hb=>?_,w7⟩;obtain ⟨o,e,d⟩:=T.obj _ _ st7 b hb;exact (J7.pin (b,o) (qc7 _ (qc7 _ (cG hb e)))).2.1
    cases ok with
    | false=>exact again I9 q9
    | true =>
     have a3:=he' _ s9 σ8 H9 _ I9 q9;rw [ex',eP,eW,eA] at a3;refine thn a3 fun v s10 ⟨y,H10,I10,r10,ys,hl,hz,q10⟩=>?_
     have a4:=eZ (X:=X') _ s10 σ8 H10 (.ref D) [y] (.ref D) [v] (fun _ H'=>N H') I10 rfl (.cons r10 .nil) ⟨D,ys,y,rfl,rfl,hl,hz,q10⟩;rw [ex',eP,eW,eA] at a4;refine thn a4 fun _ s11 ⟨_,H11,I11,_,q11⟩=>?_
     exact again I11 q11
 have e4:∀ c:Env,c=X'.env->qs7 (model X.prog X.w) X.A (.compStart (.ListComp elt [⟨tg,iter,ifs,0⟩] scope pos) 0 (.ref it) (.ref D) c) (zd6 (model X.prog X.w) X.A X.xe none (EP X pins σ Q) (.ref D) s3.heap.objs.size) s4:=by rintro _ rfl;exact za9 (loop _ rfl) (T.self _ _ _ _ _ st4 (loop _ rfl))
 exact e4 _ (by rw [eE];rfl)
end
noncomputable def Its (x:Str):It:=⟨fun i _=>i<x.cps.size,fun i H v H'=>H'=H/\∃ c,x.cps[i]?=some c/\v=.str ⟨#[c]⟩,fun i _=>i=x.cps.size⟩
theorem qf {P:qb5} {w:World} {K:PySem.W.Frag} {tg:Expr} (x:Str) (t:Tok) (it:Addr):Turn P w K tg (Its x) [it] it (fun i h=>h.IsStrIter it "str_ascii_iterator" x t i) where
 mem:=by simp
 obj:=fun i h st b hb=>by
  have e:b=it:=by simpa using hb
  subst e;obtain ⟨o,e,c,d⟩:=st;exact ⟨o,e,fun v z=>by rw [d] at z;cases z⟩
 keep:=fun i h h' st k=>let ⟨o,ho,r⟩:=st;⟨o,k it (by simp) o ho,r⟩
 item:=by
  intro X hP hw hK hc i pins s σ H E I hf st hg;subst hP hw hK;obtain ⟨f0,f1,f2,f3,f4,f5⟩:=hf it (by simp);have hg:i<x.cps.size:=hg;refine wpAny_pyNext_ascii_item st (c:=x.cps[i]) (by simp [hg]) fun h' st' sb=>?_
  have I1:Inv X pins σ H {s with heap:=h',toks:=s.toks+1}:=I.turned (t':=s.toks+1) (fun b o hb e=>(sb.2 b hb).trans e) f0 f1 f3 f4 f5;obtain ⟨o,e,c,d⟩:=id st';exact ⟨_,rfl,jz (s:={s with heap:=h',toks:=s.toks+1}) e c d (by decide) ⟨.str ⟨#[x.cps[i]]⟩,H,I1,⟨_,rfl⟩,⟨rfl,x.cps[i],by simp [hg],rfl⟩,st',fun b hb=>(hf b hb).1⟩⟩
 done:=by intro X hP hw hK hc i pins s σ H E I hf st hg;subst hP hw hK;have hg:i=x.cps.size:=hg;obtain ⟨f0,f1,f2,f3,f4,f5⟩:=hf it (by simp);exact wpAny_pyNext_ascii_end (I.ok.hd hc) st (by simp [hg]) fun h' eb=>⟨rfl,I.turned (t':=s.toks) (fun b o hb e=>eb b o hb e) f0 f1 f3 f4 f5⟩
 self:=fun _ _ _ _ _ st h=>wpAny_pyIter_striter_ascii st h
theorem qg {P:qb5} {w:World} {K:PySem.W.Frag} {tg:Expr} (x:Str) (t:Tok) (it:Addr):Turn P w K tg (Its x) [it] it (fun i h=>h.IsStrIter it "str_iterator" x t i) where
 mem:=by simp
 obj:=fun i h st b hb=>by
  have e:b=it:=by simpa using hb
  subst e;obtain ⟨o,e,c,d⟩:=st;exact ⟨o,e,fun v z=>by rw [d] at z;cases z⟩
 keep:=fun i h h' st k=>let ⟨o,ho,r⟩:=st;⟨o,k it (by simp) o ho,r⟩
 item:=by
  intro X hP hw hK hc i pins s σ H E I hf st hg;subst hP hw hK;obtain ⟨f0,f1,f2,f3,f4,f5⟩:=hf it (by simp);have hg:i<x.cps.size:=hg;refine wpAny_pyNext_wide_item st (c:=x.cps[i]) (by simp [hg]) fun h' st' sb=>?_
  have I1:Inv X pins σ H {s with heap:=h',toks:=s.toks+1}:=I.turned (t':=s.toks+1) (fun b o hb e=>(sb.2 b hb).trans e) f0 f1 f3 f4 f5;obtain ⟨o,e,c,d⟩:=id st';exact ⟨_,rfl,jz (s:={s with heap:=h',toks:=s.toks+1}) e c d (by decide) ⟨.str ⟨#[x.cps[i]]⟩,H,I1,⟨_,rfl⟩,⟨rfl,x.cps[i],by simp [hg],rfl⟩,st',fun b hb=>(hf b hb).1⟩⟩
 done:=by intro X hP hw hK hc i pins s σ H E I hf st hg;subst hP hw hK;have hg:i=x.cps.size:=hg;obtain ⟨f0,f1,f2,f3,f4,f5⟩:=hf it (by simp);exact wpAny_pyNext_wide_end (I.ok.hd hc) st (by simp [hg]) fun h' eb=>⟨rfl,I.turned (t':=s.toks) (fun b o hb e=>eb b o hb e) f0 f1 f3 f4 f5⟩
 self:=fun _ _ _ _ _ st h=>wpAny_pyIter_striter_wide st h
section
variable {X:Cx} {tg:Expr}
noncomputable def iStr (tl:TE):TI:=fun σ H R=>tl σ H fun v H1=>∃ x,v=.str x/\R (Its x) H1
theorem rC {l:Expr} {tl:TE} (hl:PE X l tl):PI X tg l (iStr tl):=by
 intro pins s σ H R I h;refine thn (hl pins s σ H _ I h) fun v s1 ⟨y,H1,I1,r1,q1⟩=>?_
 obtain ⟨x,e,q⟩:=q1;subst e;obtain ⟨t,rfl⟩:=r1
 have fin:∀ b∈[s1.heap.objs.size],fI X pins H1 b:=fun b hb=>by
  have e:b=s1.heap.objs.size:=by simpa using hb
  subst e;exact I1.fpOk (nL _) (I1.hok.fresh (nL _))
 cases ha:x.cps.all (· < 128)
 . refine wpAny_pyIter_wide ha ?_;exact ⟨s1.heap.objs.size,[s1.heap.objs.size],_,_,H1,rfl,I1.kept (t':=s1.toks) fun b o e=>gP _ e,qg x t _,⟨_,qb0 _ rfl,rfl,rfl⟩,fin,q⟩
 . refine wpAny_pyIter_ascii ha ?_;exact ⟨s1.heap.objs.size,[s1.heap.objs.size],_,_,H1,rfl,I1.kept (t':=s1.toks) fun b o e=>gP _ e,qf x t _,⟨_,qb0 _ rfl,rfl,rfl⟩,fin,q⟩
theorem oN {v:Value} {o:Option Int} (h:ze0 v o):∃ p:Option (Int×Tok),v=partValue p/\o=p.map (·.1):=by
 cases o with
 | none=>exact ⟨none,by cases h<;>rfl,rfl⟩
 | some i =>cases h;exact ⟨some (i,_),rfl,rfl⟩
noncomputable def rSlS:V->Option Int->Option Int->Hp->VK->Prop:=fun x lo hi H Q=>∃ z,x=.str z/\z.length<=qa7/\Q (.str (Txt.slice z lo hi)) H
theorem xR:SlR X rSlS:=by intro pins s σ H x v vl vu lo hi sl Q I rx hs pl pu h;obtain ⟨z,rfl,hz,q⟩:=h;obtain ⟨t,rfl⟩:=rx;obtain ⟨l,rfl,rfl⟩:=oN pl;obtain ⟨u,rfl,rfl⟩:=oN pu;refine ⟨"str",_,F.slot_str_getitem.lookup,typeIs_str _ _ _,?_⟩;exact wpAny_getItem_str_slice (l:=l) (u:=u) (st:=none) hs rfl (post_val_or_str ⟨qc5 (Txt.slice_le z _ _) hz,fun t' k=>⟨.str _,H,I.tok _,⟨_,rfl⟩,q⟩⟩)
end
theorem bJ:qd7 "len"=some (.builtin "len"):=by first | exact PySem.boot_len | exact PyProof.Rows.boot_len | decide +kernel
theorem jp:qd7 "isinstance"=some (.builtin "isinstance"):=by first | exact PySem.boot_isinstance | exact PyProof.Rows.boot_isinstance | decide +kernel
theorem kK:qd7 "max"=some (.builtin "max"):=by first | exact PySem.boot_max | exact PyProof.Rows.boot_max | decide +kernel
theorem rD:qd7 "sum"=some (.builtin "sum"):=by first | exact PySem.boot_sum | exact PyProof.Rows.boot_sum | decide +kernel
theorem xS:qd7 "int"=some (.type "int"):=by first | exact PySem.boot_int | exact PyProof.Rows.boot_int | decide +kernel
theorem xT:qd7 "str"=some (.type "str"):=by first | exact PySem.boot_str | exact PyProof.Rows.boot_str | decide +kernel
theorem uO:qd7 "bool"=some (.type "bool"):=by first | exact PySem.boot_bool | exact PyProof.Rows.boot_bool | decide +kernel
theorem cT:qd7 "tuple"=some (.type "tuple"):=by first | exact PySem.boot_tuple | exact PyProof.Rows.boot_tuple | decide +kernel
theorem oO:qd7 "list"=some (.type "list"):=by first | exact PySem.boot_list | exact PyProof.Rows.boot_list | decide +kernel
theorem kL:qd7 "enumerate"=some (.type "enumerate"):=by first | exact PySem.boot_enumerate | exact PyProof.Rows.boot_enumerate | decide +kernel
structure OkF (P:qb5) (w:World) (K:PySem.W.Frag) (mg:Str->Option Value) (base:Heap) (x:Str) (k:Nat) (ps:List Str) (sp:Sp):Prop where
 ex:∃ f fd,mg x=some (.ref f)/\PySem.W.keepIn K (.ref f)=true/\Binds K fd ps []/\FnOk P w K mg base CX0 k f fd ps sp
structure DefF (K:PySem.W.Frag) (mg:Str->Option Value) (x:Str) (st:Stmt) (ps:List Str):Prop where
 ex:∃ f fd,mg x=some (.ref f)/\PySem.W.keepIn K (.ref f)=true/\Binds K fd ps []/\Fun K x x st f fd
section
variable {P:qb5} {w:World} {K:PySem.W.Frag} {mg:Str->Option Value} {base:Heap}
theorem DefF.ok {x:Str} {st:Stmt} {N ps:List Str} {k:Nat} {sp:Sp} (F:DefF K mg x st ps) (S:FnScope N ps (ac st)) (len:∀ vs H Q E,sp vs H Q E->vs.length=ps.length)
  (hbody:∀ (f:Addr) (cdv:Value) (A:qd2) (outer:List Env) (s:qa4) (H:Hp) (vs:List V) (Q:VK) (E:XK),Room k (A.deeper (qx2 x (ac st) s.heap.objs.size f cdv))->sp vs H Q E→
   ∃ t,PSs (iB CX0 P w K mg base N x (ac st) f cdv A outer s H E).nox (bP st) t/\t {nx:=fun _ H'=>Q .non H',rt:=Q} (start N vs) H):OkF P w K mg base x (k+1) ps sp:=by
 obtain ⟨f,fd,h1,h2,h3,h4⟩:=F.ex;exact ⟨f,fd,h1,h2,h3,h4.ok S len (hbody f)⟩
theorem DefF.mk' {x:Str} {st:Stmt} {ps:List Str} {f:Addr} {oc:Value} {od an:Option Addr} {osl:Array (Option Value)} {kV doc pm cdv ct:Value} {h:Heap} (X:K.In h) (G:h.Ns qc9 mg)
  (a:PySem.W.nsIn K qc9 x=some (some (.ref f)))
  (l:K.lookup f=some ⟨oc,od,.func (PySem.W.fnOf x x (cQ st) (bP st) (ac st) .none kV doc pm an cdv ct),osl⟩) (c:PySem.W.codeIn K cdv x=true) (k:PySem.W.keepIn K (.ref f)=true)
  (hb:∀ (kV doc pm:Value) (an:Option Addr) (cdv ct:Value) (us:List Value),us.length=ps.length->bindArgs (PySem.W.fnOf x x (cQ st) (bP st) (ac st) .none kV doc pm an cdv ct) ⟨us,[]⟩=pure (ps.zip us)):DefF K mg x st ps:=
 ⟨f,_,PySem.W.mg_of X G a,k,(nq l c k).binds hb,nq l c k⟩
end
section
variable {X:Cx} {k:Nat} {ps:List Str} {sp:Sp} {x:Str} {p pos:Pos} {e:Expr} {es:List Expr} {t:TA}
theorem rE (F:OkF X.prog X.w X.K X.mg X.base x k ps sp) (hr:Room k X.A) (hg:Gl X x) (ha:PA X (e::es) t) (hdb:(x==("__debug__":Str))=false:=by decide)
  (he:qa6 (e::es) X.env=(false,eval e X.env)::qa6 es X.env:=by rfl) (hpl:(qk1 pos (qa6 es X.env)).any (·.1)=false:=by rfl):PE X (.Call (.Name x p) (e::es) [] pos) (rh sp [] E0 t):=by
 obtain ⟨f,fd,h1,h2,h3,h4⟩:=F.ex;exact uz h4 hr hg h1 h2 h3 .nil zU ha hdb he hpl
end
noncomputable def wn (N:List Str) (outer scope:Scope) (M:List Str) (src:List (Option Nat)):Bool:=
 (match scope.kind with | .function=>true | _=>false)&&
 scope.names.all (fun y=>decide (y.2≠.cell))&&
 scope.names.all (fun y=>!decide (y.2=.free)||(decide (outer.names.lookup y.1=some .cell)||decide (outer.names.lookup y.1=some .free)))&&
 scope.names.all (fun y=>!decide (y.2=.local)||decide (scope.names.lookup y.1=some .local))&&
 scope.names.all (fun y=>!decide (y.2=.free)||decide (scope.names.lookup y.1=some .free))&&
 decide (M.length=src.length)&&decide M.Nodup&&
 (M.zip src).all (fun p=>match p.2 with | none=>true | some j=>decide (N[j]?=some p.1)&&decide ((p.1,qh0)∈scope.names))
theorem CmpScope.of {N:List Str} {outer scope:Scope} {M:List Str} {src:List (Option Nat)} (h:wn N outer scope M src=true):CmpScope N outer scope M src:=by
 unfold wn at h;simp only [qb1,qm8,qj9,ql8,decide_eq_true_eq,decide_eq_false_iff_not] at h;obtain ⟨⟨⟨⟨⟨⟨⟨h1,h2⟩,h3⟩,h4⟩,h5⟩,h6⟩,h7⟩,h8⟩:=h;refine ⟨?_,h2,fun y hy e=>(h3 y hy).resolve_left fun z=>z e,fun y hy e=>(h4 y hy).resolve_left fun z=>z e,fun y hy e=>(h5 y hy).resolve_left fun z=>z e,h6,h7,fun p hp j hj=>?_⟩
 . revert h1;cases scope.kind<;>simp
 . have:=h8 p hp;cases e:p.2 with
   | none=>rw [e] at hj;cases hj
   | some j' =>rw [e] at hj this;cases hj;simpa using this
noncomputable def Plain (J:It) (xs:List V) (ok:Hp->Prop):Prop:=∀ i H,ok H->(i<xs.length->J.go i H)/\(i=xs.length->J.stop i H)/\∀ x H',i<xs.length->J.yld i H x H'->H'=H/\xs[i]?=some x
theorem plain_list {K:PySem.W.Frag} {a:Addr} {xs:List V}:Plain (Itl K a) xs (fun H=>SqL K H a xs):=fun i H h =>⟨fun hi=>⟨xs,xs[i],h,by simp [hi]⟩,fun e=>⟨xs,h,by lia⟩,fun x H' _ y=>⟨y.1,y.2 xs h⟩⟩
theorem plain_tup {K:PySem.W.Frag} {a:Addr} {xs:List V}:Plain (Itt K a) xs (fun H=>SqT K H a xs):=fun i H h =>⟨fun hi=>⟨xs,xs[i],h,by simp [hi]⟩,fun e=>⟨xs,h,by lia⟩,fun x H' _ y=>⟨y.1,y.2 xs h⟩⟩
noncomputable def iG (lo:Int) (n:Nat):List V:=(qb8 n).map fun (i:Nat)=>V.int (lo+i)
theorem plain_range {lo:Int} {n:Nat}:Plain (Itr lo n) (iG lo n) (fun _=>True):=fun i H h=>by
 refine ⟨fun hi=>?_,fun e=>?_,fun x H' hi y=>?_⟩
 . show i<n;simpa [iG] using hi
 . show n<=i;simp [iG] at e;lia
 . obtain ⟨e,rfl⟩:=y;refine ⟨e,?_⟩;unfold iG at hi ⊢;rw [qa3,qi2] at hi;rw [qb9,qu3 hi];rfl
noncomputable def oP (x:Str):List V:=x.cps.toList.map fun c=>V.str ⟨#[c]⟩
theorem plain_str {x:Str}:Plain (Its x) (oP x) (fun _=>True):=fun i H h=>by
 refine ⟨fun hi=>?_,fun e=>?_,fun v H' hi y=>?_⟩
 . show i<x.cps.size;simpa [oP] using hi
 . show i=x.cps.size;simpa [oP] using e
 . obtain ⟨e,c,hc,rfl⟩:=y;refine ⟨e,?_⟩;unfold oP;rw [qb9,qs2,hc];rfl
noncomputable def wo (src:List (Option Nat)) (g:TG) (tt:TT) (te:TE) (σ:St) (J:It) (H1:Hp) (Q:VK) (D:Addr):Prop:=∃ W:Nat->Nat->Hp->Prop,(∃ m,W 0 m (upd H1 D (.lst [])))/\∀ i m H,W i m H→
 (J.stop i H/\Q (.ref D) H)∨(J.go i H/\∃ N:Hp->Prop,(∀ H',N H'->∃ m',m'<m/\W (i+1) m' H')/\∀ x H',J.yld i H x H'→
  g x (stC src σ) H' fun σ2 H2=>Wk (stC src σ) σ2/\tt σ2 H2 fun b H3=>if b=true then te σ2 H3 fun v H4=>∃ ys,H4 D=some (.lst ys)/\ys.length<qa7/\N (upd H4 D (.lst (ys++[v]))) else N H3)
theorem lO {src:List (Option Nat)} {wi:TI} {g:TG} {tt:TT} {te:TE} {σ:St} {H:Hp} {Q:VK}:jJ src wi g tt te σ H Q=wi σ H fun J H1=>∀ D,H1 D=none->wo src g tt te σ J H1 Q D:=rfl
noncomputable def ForW (g:TG) (tb:TS) (D:Ends) (J:It) (σ:St) (H1:Hp):Prop:=∃ W:Nat->Nat->St->Hp->Prop,(∃ m,W 0 m σ H1)/\∀ i m σ H,W i m σ H→ (J.stop i H/\D.nx σ H)∨(J.go i H/\∃ N:St->Hp->Prop,(∀ σ' H',N σ' H'->∃ m',m'<m/\W (i+1) m' σ' H')/\∀ x H',J.yld i H x H'->g x σ H' fun σ2 H2=>tb {D with nx:=N,ct:=N,bk:=D.nx} σ2 H2)
theorem kM {wi:TI} {g:TG} {tb:TS} {D:Ends} {σ:St} {H:Hp}:tFor wi g tb D σ H=wi σ H fun J H1=>ForW g tb D J σ H1:=rfl
theorem rF {X:Cx} {x:Str} {v:V} {pos:Pos} (hg:Gl X x) (hm:∃ u,X.mg x=some u/\RelV v u) (hd:(x==("__debug__":Str))=false:=by decide):PE X (.Name x pos) (tC v):=by obtain ⟨u,h1,h2⟩:=hm;exact ur hg h1 h2 hd
section
variable {P:qb5} {w:World} {H:Hp} {h:Heap} {cl:List (Str×Addr)}
end
section
variable {CX:CXT} {P:qb5} {w:World} {K:PySem.W.Frag} {mg:Str->Option Value} {base:Heap} {N ps fr:List Str} {name qual:Str} {params:qq2} {body:List Stmt} {scope:Scope} {f c':Addr} {cl:List (Str×Addr)} {A:qd2} {outer:List Env} {s s1:qa4} {H:Hp} {E:XK} {us:List Value} {vs fs:List V} {doc pm ctv:Value} {fo:Obj} {uf:HO} {xe:Value->qa4->Prop}
end
section
variable {X:Cx} {pins:List (Addr×Obj)} {σ:St} {H:Hp} {s:qa4} {c P:Addr} {qs:List ((Nat×Nat)×Str)} {name:Str} {params:qq2} {body:List Stmt} {scope:Scope} {clos:List (Str×Addr)} {pos:Pos}
end
section
variable {X:Cx} {K:PySem.W.Frag} {tg:Expr}
end
noncomputable def rG (scope outer:Scope):Scope:={scope with names:=scope.names.map fun (n,k)=>if (k==.free&&outer.kind==.function&&outer.names.lookup n==some .cell) then (n,.cell) else (n,k)}
noncomputable def dE (sc:Scope) (N:List Str) (i:Nat) (x:Str):Bool:=decide (N[i]?=some x)&&(decide (sc.names.lookup x=some .local)||(decide (sc.names.lookup x=some .cell)||decide (sc.names.lookup x=some .free)))&&!(x==("__debug__":Str))&&!(x==("__classdict__":Str))
noncomputable def iH (sc:Scope) (x:Str):Bool:=decide (sc.names.lookup x=some .local)||decide (sc.names.lookup x=some .cell)
noncomputable def aF (sc:Scope) (x:Str):Bool:=decide (sc.names.lookup x=some .globalImplicit)&&!(x==("__debug__":Str))&&!decide (x=("__name__":Str))
section
variable {sc:Scope} {N:List Str} {i:Nat} {x:Str}
theorem gB (h:dE sc N i x=true):N[i]?=some x:=by unfold dE at h;simp only [qb1,decide_eq_true_eq] at h;exact h.1.1.1
theorem xU (h:dE sc N i x=true):Vis sc x:=by unfold dE at h;simp only [qb1,qj9,decide_eq_true_eq] at h;exact h.1.1.2
theorem xV (h:dE sc N i x=true):(x==("__debug__":Str))=false:=by unfold dE at h;simp only [qb1,ql8] at h;exact h.1.2
theorem zV (h:dE sc N i x=true):(x==("__classdict__":Str))=false:=by unfold dE at h;simp only [qb1,ql8] at h;exact h.2
theorem kN (h:iH sc x=true):Loc sc x:=by unfold iH at h;simp only [qj9,decide_eq_true_eq] at h;exact h
theorem y88 (h:aF sc x=true):sc.names.lookup x=some .globalImplicit:=by unfold aF at h;simp only [qb1,decide_eq_true_eq] at h;exact h.1.1
theorem gE (h:aF sc x=true):(x==("__debug__":Str))=false:=by unfold aF at h;simp only [qb1,ql8] at h;exact h.1.2
theorem q67 (h:aF sc x=true):x≠("__name__":Str):=by unfold aF at h;simp only [qb1,ql8,decide_eq_false_iff_not] at h;exact h.2
end
noncomputable def bZ (X:Cx) (sc:Scope):Prop:=X.env.scope=sc
section
variable {X:Cx} {sc:Scope} {N:List Str} {x:Str} {pos p:Pos}
theorem pvD (i:Nat) (h:dE sc N i x=true) (e1:bZ X sc:=by rfl) (e2:X.N=N:=by rfl):PE X (.Name x pos) (jn i):=by have e1:X.env.scope=sc:=e1;subst e1 e2;exact xk (gB h) (xU h) (xV h) (zV h)
theorem glD (h:aF sc x=true) (e1:bZ X sc:=by rfl):Gl X x:=by have e1:X.env.scope=sc:=e1;subst e1;exact y88 h
theorem oQ {i:Nat} {e:Expr} {te:TE} {pos':Pos} (h:dE sc N i x=true) (hl:iH sc x=true) (nd:N.Nodup) (he:PE X e te) (e1:bZ X sc:=by rfl) (e2:X.N=N:=by rfl) (hf:X.fn x=true∨X.env.scope.names.lookup x=some .local:=by exact .inl rfl)
  (hs:qm6 e (some (.Name x pos')) pos.line X.env=pure false:=by rfl):PS X (.Assign [.Name x pos'] e pos) (uw te (g8 i)):=by
 have e1:X.env.scope=sc:=e1;subst e1 e2;exact xw nd (gB h) (kN hl) he hs hf
theorem aY {i:Nat} (h:dE sc N i x=true) (hl:iH sc x=true) (nd:N.Nodup) (e1:bZ X sc:=by rfl) (e2:X.N=N:=by rfl) (hf:X.fn x=true∨X.env.scope.names.lookup x=some .local:=by exact .inl rfl):PG X (.Name x pos) (g8 i):=by have e1:X.env.scope=sc:=e1;subst e1 e2;exact oz nd (gB h) (kN hl) hf
noncomputable def loOk (sc:Scope) (x:Str):Bool:=decide (sc.names.lookup x=some .local)
theorem aS {i:Nat} (h:dE sc N i x=true) (hl:loOk sc x=true) (nd:X.N.Nodup) (e1:bZ X sc) (e2:X.N=N:=by rfl):PG X (.Name x pos) (g8 i):=by have e1:X.env.scope=sc:=e1;subst e1 e2;have hl:X.env.scope.names.lookup x=some .local:=of_decide_eq_true hl;exact oz nd (gB h) (.inl hl) (.inr hl)
theorem iI {v:V} (h:aF sc x=true) (hm:∃ u,X.mg x=some u/\RelV v u) (e1:bZ X sc:=by rfl):PE X (.Name x pos) (tC v):=rF (glD h e1) hm (gE h)
theorem rH {v:V} {u:Value} (h:aF sc x=true) (hm:X.mg x=none) (hv:qd7 x=some u) (r:RelV v u) (e1:bZ X sc:=by rfl):PE X (.Name x pos) (tC v):=ut (glD h e1) hm hv r (q67 h) (gE h)
variable {e:Expr} {es:List Expr} {t:TA} {id T:String} {r:List V->Hp->VK->Prop} {k:Nat} {ps:List Str} {sp:Sp}
theorem gF (h:aF sc x=true) (hc:da X (.builtin id) r) (hm:X.mg x=none) (hv:qd7 x=some (.builtin id)) (ha:PA X (e::es) t) (e1:bZ X sc:=by rfl)
  (he:qa6 (e::es) X.env=(false,eval e X.env)::qa6 es X.env:=by rfl) (hpl:(qk1 pos (qa6 es X.env)).any (·.1)=false:=by rfl):PE X (.Call (.Name x p) (e::es) [] pos) (tCB r t):=
 rj hc (glD h e1) hm hv ha (q67 h) (gE h) he hpl
theorem fL (h:aF sc x=true) (hc:da X (.type T) r) (hm:X.mg x=none) (hv:qd7 x=some (.type T)) (ha:PA X (e::es) t) (e1:bZ X sc:=by rfl)
  (he:qa6 (e::es) X.env=(false,eval e X.env)::qa6 es X.env:=by rfl) (hpl:(qk1 pos (qa6 es X.env)).any (·.1)=false:=by rfl):PE X (.Call (.Name x p) (e::es) [] pos) (tCB r t):=
 p7 hc (glD h e1) hm hv ha (q67 h) (gE h) he hpl
theorem qh (h:aF sc x=true) (F:OkF X.prog X.w X.K X.mg X.base x k ps sp) (hr:Room k X.A) (ha:PA X (e::es) t) (e1:bZ X sc:=by rfl)
  (he:qa6 (e::es) X.env=(false,eval e X.env)::qa6 es X.env:=by rfl) (hpl:(qk1 pos (qa6 es X.env)).any (·.1)=false:=by rfl):PE X (.Call (.Name x p) (e::es) [] pos) (rh sp [] E0 t):=
 rE F hr (glD h e1) ha (gE h) he hpl
variable {tg a b:Expr} {ta:TA}
theorem nr (h:aF sc "range"=true) (hm:X.mg "range"=none) (ha:PA X [a] ta) (e1:bZ X sc:=by rfl) (hs:qa6 [a] X.env=[(false,eval a X.env)]:=by rfl):PI X tg (.Call (.Name "range" p) [a] [] pos) (wf ta):=pZ (glD h e1) hm ha hs
end
section
variable {X:Cx} {M:List Str} {scope outer:Scope} {C:Addr} {s:qa4} {H:Hp} {ex:List Addr} {x:Str} {pos p:Pos}
theorem scC (ho:bZ X outer):bZ (cxC X M scope C s H ex) (rG scope outer):=by have ho:X.env.scope=outer:=ho;subst ho;rfl
end
inductive Dt where
 | non | bl (b:Bool) | int (i:Int) | str (x:Str) | tup (l:List Dt) | lst (l:List Dt) | dct (ks:List Key) (l:List Dt) | dcT (ks:List (List Key)) (l:List Dt)
 | ins (c:Str) (ns:List Str) (l:List Dt)
mutual
noncomputable def peq:Dt->Dt->Bool
 | .non,.non=>true
 | .bl a,.bl b=>a==b
 | .bl a,.int j=>(if a then (1:Int) else 0)==j
 | .int i,.bl b=>i==(if b then (1:Int) else 0)
 | .int i,.int j=>i==j
 | .str x,.str y=>x==y
 | .tup l,.tup m=>peqs l m
 | .lst l,.lst m=>peqs l m
 | .dct ks l,.dct js m=>decide (ks=js)&&peqs l m
 | .dcT ks l,.dcT js m=>decide (ks=js)&&peqs l m
 | .ins _ _ _,.ins _ _ _=>true
 | _,_=>false
noncomputable def peqs:List Dt->List Dt->Bool
 | [],[]=>true
 | d::l,e::m=>peq d e&&peqs l m
 | _,_=>false
end
mutual
theorem fY:∀ d:Dt,peq d d=true
 | .non=>by simp [peq]
 | .bl b=>by simp [peq]
 | .int i=>by simp [peq]
 | .str x=>by simp [peq]
 | .tup l=>by simp only [peq];exact peqs_self l
 | .lst l=>by simp only [peq];exact peqs_self l
 | .dct ks l=>by simp only [peq,decide_true,qo3];exact peqs_self l
 | .dcT ks l=>by simp only [peq,decide_true,qo3];exact peqs_self l
 | .ins c ns l=>by simp only [peq]
theorem peqs_self:∀ l:List Dt,peqs l l=true
 | []=>by simp [peqs]
 | d::l=>by simp only [peqs,fY d,peqs_self l,zf5]
end
mutual
noncomputable def gG:Dt->Nat
 | .tup l=>deeps l+1
 | .lst l=>deeps l+1
 | _=>0
noncomputable def deeps:List Dt->Nat
 | []=>0
 | d::l=>max (gG d) (deeps l)
end
noncomputable def rJ (K:PySem.W.Frag) (c:Str) (C:Addr):Prop:=PySem.W.nsIn K qc9 c=some (some (.ref C))
mutual
noncomputable def Rep (K:PySem.W.Frag) (H:Hp):Dt->V->Prop
 | .non,v=>v=.non
 | .bl b,v=>v=.bl b
 | .int i,v=>v=.int i
 | .str x,v=>v=.str x
 | .tup l,v=>∃ a vs,v=.ref a/\SqT K H a vs/\Reps K H l vs
 | .lst l,v=>∃ a vs,v=.ref a/\SqL K H a vs/\Reps K H l vs
 | .dct ks l,v=>∃ a kvs,v=.ref a/\Rd H a (.dK kvs)/\kvs.map (·.1)=ks/\Reps K H l (kvs.map (·.2))
 | .dcT ks l,v=>∃ a kvs,v=.ref a/\Rd H a (.dT kvs)/\kvs.map (·.1)=ks/\Reps K H l (kvs.map (·.2))
 | .ins c ns l,v=>∃ a C dx fs,v=.ref a/\rJ K c C/\H a=some (.ins C dx fs)/\fs.map (·.1)=ns/\Reps K H l (fs.map (·.2))
noncomputable def Reps (K:PySem.W.Frag) (H:Hp):List Dt->List V->Prop
 | [],vs=>vs=[]
 | d::l,vs=>∃ v ws,vs=v::ws/\Rep K H d v/\Reps K H l ws
end
theorem Same.tup {K:PySem.W.Frag} {H H':Hp} {a:Addr} {xs:List V} (e:Same H H') (h:SqT K H a xs):SqT K H' a xs:=by
 rcases h with h | h
 . exact .inl (e _ _ h)
 . exact .inr h
theorem Same.rd {H H':Hp} {a:Addr} {u:HO} (e:Same H H') (h:Rd H a u):Rd H' a u:=by
 rcases h with h | ⟨o,h⟩
 . exact .inl (e _ _ h)
 . exact .inr ⟨o,e _ _ h⟩
mutual
theorem Rep.same {K:PySem.W.Frag} {H H':Hp} (e:Same H H'):∀ {d:Dt} {v:V},Rep K H d v->Rep K H' d v
 | .non,v,h=>h
 | .bl _,v,h=>h
 | .int _,v,h=>h
 | .str _,v,h=>h
 | .tup l,v,h=>by unfold Rep at h ⊢;obtain ⟨a,vs,h1,h2,h3⟩:=h;exact ⟨a,vs,h1,e.tup h2,Reps.same e h3⟩
 | .lst l,v,h=>by unfold Rep at h ⊢;obtain ⟨a,vs,h1,h2,h3⟩:=h;exact ⟨a,vs,h1,e.seq h2,Reps.same e h3⟩
 | .dct ks l,v,h=>by unfold Rep at h ⊢;obtain ⟨a,vs,h1,h2,h3,h4⟩:=h;exact ⟨a,vs,h1,e.rd h2,h3,Reps.same e h4⟩
 | .dcT ks l,v,h=>by unfold Rep at h ⊢;obtain ⟨a,vs,h1,h2,h3,h4⟩:=h;exact ⟨a,vs,h1,e.rd h2,h3,Reps.same e h4⟩
 | .ins c ns l,v,h=>by unfold Rep at h ⊢;obtain ⟨a,C,dx,fs,h1,h2,h3,h4,h5⟩:=h;exact ⟨a,C,dx,fs,h1,h2,e _ _ h3,h4,Reps.same e h5⟩
theorem Reps.same {K:PySem.W.Frag} {H H':Hp} (e:Same H H'):∀ {l:List Dt} {vs:List V},Reps K H l vs->Reps K H' l vs
 | [],vs,h=>h
 | d::l,vs,h=>by unfold Reps at h ⊢;obtain ⟨v,ws,h1,h2,h3⟩:=h;exact ⟨v,ws,h1,Rep.same e h2,Reps.same e h3⟩
end
theorem Reps.length {K:PySem.W.Frag} {H:Hp}:∀ {l:List Dt} {vs:List V},Reps K H l vs->vs.length=l.length
 | [],vs,h=>by unfold Reps at h;rw [h];rfl
 | d::l,vs,h=>by unfold Reps at h;obtain ⟨v,ws,rfl,_,h3⟩:=h;simp [Reps.length h3]
theorem Reps.get {K:PySem.W.Frag} {H:Hp}:∀ {l:List Dt} {vs:List V} {i:Nat} {d:Dt},Reps K H l vs->l[i]?=some d->∃ v,vs[i]?=some v/\Rep K H d v
 | [],vs,i,d,h,e=>by simp at e
 | d0::l,vs,0,d,h,e=>by unfold Reps at h;obtain ⟨v,ws,rfl,h2,_⟩:=h;simp at e;subst e;exact ⟨v,rfl,h2⟩
 | d0::l,vs,i+1,d,h,e=>by unfold Reps at h;obtain ⟨v,ws,rfl,_,h3⟩:=h;obtain ⟨u,e1,e2⟩:=Reps.get (i:=i) h3 (by simpa using e);exact ⟨u,by simpa using e1,e2⟩
theorem Reps.append {K:PySem.W.Frag} {H:Hp}:∀ {l m:List Dt} {vs ws:List V},Reps K H l vs->Reps K H m ws->Reps K H (l++m) (vs++ws)
 | [],m,vs,ws,h,h'=>by unfold Reps at h;rw [h];exact h'
 | d::l,m,vs,ws,h,h'=>by unfold Reps at h;obtain ⟨v,us,rfl,h2,h3⟩:=h;show Reps K H (d::(l++m)) (v::(us++ws));unfold Reps;exact ⟨v,_,rfl,h2,Reps.append h3 h'⟩
theorem Reps.one {K:PySem.W.Frag} {H:Hp} {d:Dt} {v:V} (h:Rep K H d v):Reps K H [d] [v]:=by unfold Reps;exact ⟨v,[],rfl,h,by unfold Reps;rfl⟩
theorem Reps.take {K:PySem.W.Frag} {H:Hp}:∀ {l:List Dt} {vs:List V} (n:Nat),Reps K H l vs->Reps K H (l.take n) (vs.take n)
 | _,_,0,_=>by simp [Reps]
 | [],vs,n+1,h=>by unfold Reps at h;rw [h];simp [Reps]
 | d::l,vs,n+1,h=>by unfold Reps at h;obtain ⟨v,us,rfl,h2,h3⟩:=h;show Reps K H (d::l.take n) (v::us.take n);unfold Reps;exact ⟨v,_,rfl,h2,Reps.take n h3⟩
theorem Reps.drop {K:PySem.W.Frag} {H:Hp}:∀ {l:List Dt} {vs:List V} (n:Nat),Reps K H l vs->Reps K H (l.drop n) (vs.drop n)
 | _,_,0,h=>h
 | [],vs,n+1,h=>by unfold Reps at h;rw [h];simp [Reps]
 | d::l,vs,n+1,h=>by unfold Reps at h;obtain ⟨v,us,rfl,h2,h3⟩:=h;exact Reps.drop n h3
section
variable {X:Cx} {pins:List (Addr×Obj)} {σ:St} {H:Hp} {s:qa4} {K:PySem.W.Frag}
theorem Inv.notBoth {a:Addr} {xs ys:List V} (I:Inv X pins σ H s) (h:SqL X.K H a xs) (h':SqT X.K H a ys):False:=by obtain ⟨its,r,pl,_⟩:=I.list h;obtain ⟨its',r',pt,_⟩:=I.tuple h';obtain ⟨o,n,e,hc,_⟩:=pl;obtain ⟨o',e',hc',_⟩:=pt;rw [e] at e';cases e';rw [hc] at hc';injection hc' with z;exact absurd z (by decide)
theorem zW {a:Addr} {u w:List (Key×V)} (h:Rd H a (.dK u)) (h':Rd H a (.dK w)):u=w:=by rcases h with h | ⟨o,h⟩<;>rcases h' with h' | ⟨o',h'⟩<;>rw [h] at h'<;>cases h'<;>rfl
theorem zX {a:Addr} {u w:List (List Key×V)} (h:Rd H a (.dT u)) (h':Rd H a (.dT w)):u=w:=by rcases h with h | ⟨o,h⟩<;>rcases h' with h' | ⟨o',h'⟩<;>rw [h] at h'<;>cases h'<;>rfl
theorem ip {a:Addr} {u:HO} (h:Rd H a u):∃ o,H a=some o:=by
 rcases h with h | ⟨o,h⟩
 . exact ⟨_,h⟩
 . exact ⟨_,h⟩
theorem Inv.kNone (I:Inv X pins σ H s) {a:Addr} {o:Obj} (h:X.K.lookup a=some o):H a=none:=(I.bs a o (I.ok.mod.kin a o h)).2
theorem Inv.sqT_dK (I:Inv X pins σ H s) {a:Addr} {xs:List V} {u:List (Key×V)} (h:SqT X.K H a xs) (h':Rd H a (.dK u)):False:=by
 rcases h with h | ⟨o,_,_,h,_⟩
 . rcases h' with h' | ⟨o',h'⟩<;>rw [h] at h'<;>cases h'
 . obtain ⟨o',e⟩:=ip h';rw [I.kNone h] at e;cases e
theorem Inv.sqT_dT (I:Inv X pins σ H s) {a:Addr} {xs:List V} {u:List (List Key×V)} (h:SqT X.K H a xs) (h':Rd H a (.dT u)):False:=by
 rcases h with h | ⟨o,_,_,h,_⟩
 . rcases h' with h' | ⟨o',h'⟩<;>rw [h] at h'<;>cases h'
 . obtain ⟨o',e⟩:=ip h';rw [I.kNone h] at e;cases e
theorem Inv.sqL_dK (I:Inv X pins σ H s) {a:Addr} {xs:List V} {u:List (Key×V)} (h:SqL X.K H a xs) (h':Rd H a (.dK u)):False:=by
 rcases h with h | ⟨o,_,_,h,_⟩
 . rcases h with h | ⟨o,h⟩<;>rcases h' with h' | ⟨o',h'⟩<;>rw [h] at h'<;>cases h'
 . obtain ⟨o',e⟩:=ip h';rw [I.kNone h] at e;cases e
theorem Inv.sqL_dT (I:Inv X pins σ H s) {a:Addr} {xs:List V} {u:List (List Key×V)} (h:SqL X.K H a xs) (h':Rd H a (.dT u)):False:=by
 rcases h with h | ⟨o,_,_,h,_⟩
 . rcases h with h | ⟨o,h⟩<;>rcases h' with h' | ⟨o',h'⟩<;>rw [h] at h'<;>cases h'
 . obtain ⟨o',e⟩:=ip h';rw [I.kNone h] at e;cases e
theorem rK {a:Addr} {u:List (Key×V)} {w:List (List Key×V)} (h:Rd H a (.dK u)) (h':Rd H a (.dT w)):False:=by rcases h with h | ⟨o,h⟩<;>rcases h' with h' | ⟨o',h'⟩<;>rw [h] at h'<;>cases h'
noncomputable def b7:Dt->Nat
 | .non=>0
 | .bl _=>1
 | .int _=>2
 | .str _=>3
 | .tup _=>4
 | .lst _=>5
 | .dct _ _=>6
 | .dcT _ _=>7
 | .ins _ _ _=>8
theorem oR (I:Inv X pins σ H s) {a C dx:Addr} {fs:List (Str×V)} {vs:List V} (h:SqT X.K H a vs) (h':H a=some (.ins C dx fs)):False:=by
 rcases h with h | ⟨o,its,n,h,_⟩
 . rw [h'] at h;cases h
 . rw [I.kNone h] at h';cases h'
theorem oS (I:Inv X pins σ H s) {a C dx:Addr} {fs:List (Str×V)} {vs:List V} (h:SqL X.K H a vs) (h':H a=some (.ins C dx fs)):False:=by
 rcases h with (h | ⟨o,h⟩) | ⟨o,its,n,h,_⟩
 . rw [h'] at h;cases h
 . rw [h'] at h;cases h
 . rw [I.kNone h] at h';cases h'
theorem oT {a C dx:Addr} {fs:List (Str×V)} {u:List (Key×V)} (h:Rd H a (.dK u)) (h':H a=some (.ins C dx fs)):False:=by rcases h with h | ⟨o,h⟩<;>rw [h] at h'<;>cases h'
theorem oU {a C dx:Addr} {fs:List (Str×V)} {u:List (List Key×V)} (h:Rd H a (.dT u)) (h':H a=some (.ins C dx fs)):False:=by rcases h with h | ⟨o,h⟩<;>rw [h] at h'<;>cases h'
theorem cw (I:Inv X pins σ H s) {d e:Dt} {v:V} (h:Rep X.K H d v) (h':Rep X.K H e v):b7 d=b7 e:=by
 cases d<;>cases e<;>first
  | rfl
  | (simp only [Rep] at h h';subst h;cases h';done)
  | (simp only [Rep] at h h';obtain ⟨_,_,e,_⟩:=h';rw [h] at e;cases e;done)
  | (simp only [Rep] at h h';obtain ⟨_,_,e,_⟩:=h;rw [h'] at e;cases e;done)
  | (simp only [Rep] at h h';obtain ⟨_,_,rfl,h2,_⟩:=h;obtain ⟨_,_,e,h2',_⟩:=h';cases e
     first
      | exact (I.sqT_dK h2 h2').elim
      | exact (I.sqT_dK h2' h2).elim
      | exact (I.sqT_dT h2 h2').elim
      | exact (I.sqT_dT h2' h2).elim
      | exact (I.notBoth h2 h2').elim
      | exact (I.notBoth h2' h2).elim
      | exact (I.sqL_dK h2 h2').elim
      | exact (I.sqL_dK h2' h2).elim
      | exact (I.sqL_dT h2 h2').elim
      | exact (I.sqL_dT h2' h2).elim
      | exact (rK h2 h2').elim
      | exact (rK h2' h2).elim)
  | (simp only [Rep] at h h';obtain ⟨_,_,_,_,e,_⟩:=h';rw [h] at e;cases e;done)
  | (simp only [Rep] at h h';obtain ⟨_,_,_,_,e,_⟩:=h;rw [h'] at e;cases e;done)
  | (simp only [Rep] at h h';obtain ⟨_,_,_,_,rfl,_,h2,_⟩:=h;obtain ⟨_,_,e,h2',_⟩:=h';cases e
     first
      | exact (oR I h2' h2).elim
      | exact (oS I h2' h2).elim
      | exact (oT h2' h2).elim
      | exact (oU h2' h2).elim)
  | (simp only [Rep] at h h';obtain ⟨_,_,_,_,rfl,_,h2,_⟩:=h';obtain ⟨_,_,e,h2',_⟩:=h;cases e
     first
      | exact (oR I h2' h2).elim
      | exact (oS I h2' h2).elim
      | exact (oT h2' h2).elim
      | exact (oU h2' h2).elim)
mutual
theorem kO (I:Inv X pins σ H s):∀ (d e:Dt) (v:V),Rep X.K H d v->Rep X.K H e v->peq d e=true:=fun d=>by
 match d with
 | .tup l =>
  intro e v h h';have hk:=cw I h h';cases e<;>first | (simp [b7] at hk;done) | skip
  simp only [Rep] at h h';obtain ⟨a,vs,rfl,h2,h3⟩:=h;obtain ⟨b,ws,e,h2',h3'⟩:=h';cases e;have:=I.tuple_inj h2 h2';subst this;simp only [peq];exact reps_inj I l _ _ h3 h3'
 | .lst l =>
  intro e v h h';have hk:=cw I h h';cases e<;>first | (simp [b7] at hk;done) | skip
  simp only [Rep] at h h';obtain ⟨a,vs,rfl,h2,h3⟩:=h;obtain ⟨b,ws,e,h2',h3'⟩:=h';cases e;have:=I.list_inj h2 h2';subst this;simp only [peq];exact reps_inj I l _ _ h3 h3'
 | .dct ks l =>
  intro e v h h';have hk:=cw I h h';cases e<;>first | (simp [b7] at hk;done) | skip
  simp only [Rep] at h h';obtain ⟨a,vs,rfl,h2,h3,h4⟩:=h;obtain ⟨b,ws,e,h2',h3',h4'⟩:=h';cases e;have:=zW h2 h2';subst this;subst h3 h3';simp only [peq,decide_true,qo3];exact reps_inj I l _ _ h4 h4'
 | .dcT ks l =>
  intro e v h h';have hk:=cw I h h';cases e<;>first | (simp [b7] at hk;done) | skip
  simp only [Rep] at h h';obtain ⟨a,vs,rfl,h2,h3,h4⟩:=h;obtain ⟨b,ws,e,h2',h3',h4'⟩:=h';cases e;have:=zX h2 h2';subst this;subst h3 h3';simp only [peq,decide_true,qo3];exact reps_inj I l _ _ h4 h4'
 | .ins c ns l =>
  intro e v h h';have hk:=cw I h h';cases e<;>first | (simp [b7] at hk;done) | skip
  simp only [peq]
 | .non =>intro e v h h';have hk:=cw I h h';cases e<;>first | (simp [b7] at hk;done) | simp only [peq]
 | .bl b =>intro e v h h';have hk:=cw I h h';cases e<;>first | (simp [b7] at hk;done) | (simp only [Rep] at h h';rw [h] at h';cases h';exact fY _)
 | .int b =>intro e v h h';have hk:=cw I h h';cases e<;>first | (simp [b7] at hk;done) | (simp only [Rep] at h h';rw [h] at h';cases h';exact fY _)
 | .str b =>intro e v h h';have hk:=cw I h h';cases e<;>first | (simp [b7] at hk;done) | (simp only [Rep] at h h';rw [h] at h';cases h';exact fY _)
theorem reps_inj (I:Inv X pins σ H s):∀ (l m:List Dt) (vs:List V),Reps X.K H l vs->Reps X.K H m vs->peqs l m=true:=fun l=>by
 match l with
 | [] =>
  intro m vs h h';cases m with
  | nil=>simp only [peqs]
  | cons e m=>unfold Reps at h h';obtain ⟨v,ws,e,_⟩:=h';rw [h] at e;cases e
 | d::l =>
  intro m vs h h';cases m with
  | nil=>unfold Reps at h h';obtain ⟨v,ws,e,_⟩:=h;rw [h'] at e;cases e
  | cons e m =>unfold Reps at h h';obtain ⟨v,ws,rfl,h2,h3⟩:=h;obtain ⟨v',ws',e',h2',h3'⟩:=h';cases e';simp only [peqs,kO I d _ _ h2 h2',reps_inj I l _ _ h3 h3',zf5]
end
end
end L2
namespace L2
open PySem PySem.Spec PyProof.Rows
mutual
noncomputable def dm:Dt->Dt->Bool
 | .tup l,.tup m=>cmpbs l m
 | .lst l,.lst m=>cmpbs l m
 | d,e=>decide (b7 d<4)&&decide (b7 e<4)
noncomputable def cmpbs:List Dt->List Dt->Bool
 | d::l,e::m=>dm d e&&cmpbs l m
 | _,_=>true
end
theorem dG:∀ {l m:List Dt} {j:Nat} {d e:Dt},cmpbs l m=true->l[j]?=some d->m[j]?=some e->dm d e=true
 | [],_,j,d,e,_,h,_=>by simp at h
 | _::_,[],j,d,e,_,_,h=>by simp at h
 | d0::l,e0::m,0,d,e,h,h1,h2=>by simp only [cmpbs,qb1] at h;simp at h1 h2;subst h1 h2;exact h.1
 | d0::l,e0::m,j+1,d,e,h,h1,h2=>by simp only [cmpbs,qb1] at h;exact dG (j:=j) h.2 (by simpa using h1) (by simpa using h2)
theorem eJ:∀ {l:List Dt} {j:Nat} {d:Dt},l[j]?=some d->gG d<=deeps l
 | [],j,d,h=>by simp at h
 | d0::l,0,d,h=>by simp at h;subst h;simp only [deeps];exact Nat.le_max_left ..
 | d0::l,j+1,d,h=>by simp only [deeps];exact qc5 (eJ (j:=j) (by simpa using h)) (Nat.le_max_right ..)
noncomputable def b9 (l m:List Dt) (j:Nat):Bool:=peq (l.getD j .non) (m.getD j .non)
theorem db:∀ (l m:List Dt),peqs l m=((qb8 (min l.length m.length)).all (b9 l m)&&l.length==m.length)
 | [],[]=>by simp [peqs]
 | [],_::_=>by simp [peqs]
 | _::_,[]=>by simp [peqs]
 | d::l,e::m=>by
  have ih:=db l m;simp only [peqs,ih,qc0];rw [show min (l.length+1) (m.length+1)=min l.length m.length+1 by lia,qr1,qj1,List.all_map];have e1:b9 (d::l) (e::m) 0=peq d e:=rfl
  have e2:(b9 (d::l) (e::m) ∘ Nat.succ)=b9 l m:=by funext j;rfl
  have e3:(l.length+1==m.length+1)=(l.length==m.length):=by rw [qj6];simp
  rw [e1,e2,e3,Bool.and_assoc]
section
variable {X:Cx} {pins:List (Addr×Obj)} {σ:St} {H:Hp} {s:qa4}
theorem cq {l:List Dt} {vs:List V} {its:List Value} (h:Reps X.K H l vs) (r:Vals vs its) {j:Nat} (hj:j<its.length):∃ d v,l[j]?=some d/\Rep X.K H d v/\RelV v its[j]:=by
 have hl:j<l.length:=by rw [<- h.length,r.length];exact hj
 obtain ⟨v,e1,e2⟩:=h.get (i:=j) (d:=l[j]) (by simp [hl]);obtain ⟨u,e3,e4⟩:=r.get e1
 have:its[j]=u:=by have:=gQ hj;rw [this] at e3;exact qe1 e3
 exact ⟨l[j],v,by simp [hl],e2,by rw [this];exact e4⟩
theorem wq (I:Inv X pins σ H s):∀ (n:Nat) {A:qd2} {d e:Dt} {v w:V} {u u':Value},gG d<=n->A.units+n<cLine->dm d e=true->Rep X.K H d v->Rep X.K H e w->RelV v u->RelV w u'->qf6 A s u u' (peq d e):=by
 intro n;induction n with
 | zero =>
  intro A d e v w u u' hd hu hc h h' r r'
  cases d<;>cases e<;>first
   | (simp only [Rep] at h h';subst h h';exact gA r r' rfl rfl)
   | (simp only [gG] at hd;lia)
   | (simp [dm,b7] at hc)
 | succ n ih =>
  intro A d e v w u u' hd hu hc h h' r r';cases d with
  | tup l =>
   cases e with
   | tup m =>
    have h0:=h;have h0':=h';simp only [Rep] at h h';obtain ⟨a,vs,rfl,h2,h3⟩:=h;obtain ⟨b,ws,rfl,h2',h3'⟩:=h';cases r;cases r';by_cases hab:a=b
    . subst hab;have:=kO I _ _ _ h0 h0';rw [this];exact zc1 _
    obtain ⟨its,rv,pt,_⟩:=I.tuple h2;obtain ⟨its',rv',pt',_⟩:=I.tuple h2';have n1:its.length=l.length:=by rw [<- h3.length,rv.length]
    have n2:its'.length=m.length:=by rw [<- h3'.length,rv'.length]
    simp only [peq];rw [db,<- n1,<- n2];simp only [gG] at hd;simp only [dm] at hc
    have key:=qx6.tuples (A:=A) (e:=b9 l m) pt pt' (by lia) (fun j h1 h2=>by
     have h1':j<its.length:=by simpa using h1
     have h2':j<its'.length:=by simpa using h2
     obtain ⟨d,v,g1,g2,g3⟩:=cq h3 rv h1';obtain ⟨e,w,g1',g2',g3'⟩:=cq h3' rv' h2';have:b9 l m j=peq d e:=by unfold b9;rw [qc3,qc3,g1,g1'];rfl
     rw [this];have:=ih (A:=A.in1) (qc5 (eJ g1) (by lia)) (show A.units+1+n<cLine by lia) (dG hc g1 g1') g2 g2' g3 g3';simpa using this)
    have key':qx6 A s (.ref a) (.ref b) ((qb8 (min its.length its'.length)).all (b9 l m)&&its.length==its'.length):=by simpa using key
    exact qw1 hab key'
   | _=>exact absurd hc (by simp [dm,b7])
  | lst l =>
   cases e with
   | lst m =>
    have h0:=h;have h0':=h';simp only [Rep] at h h';obtain ⟨a,vs,rfl,h2,h3⟩:=h;obtain ⟨b,ws,rfl,h2',h3'⟩:=h';cases r;cases r';by_cases hab:a=b
    . subst hab;have:=kO I _ _ _ h0 h0';rw [this];exact zc1 _
    obtain ⟨its,rv,pt,_⟩:=I.list h2;obtain ⟨its',rv',pt',_⟩:=I.list h2';have n1:its.length=l.length:=by rw [<- h3.length,rv.length]
    have n2:its'.length=m.length:=by rw [<- h3'.length,rv'.length]
    simp only [peq];rw [db,<- n1,<- n2];simp only [gG] at hd;simp only [dm] at hc;by_cases hlen:its.length=its'.length
    . have key:=qx6.lists (A:=A) (e:=b9 l m) pt.isList pt'.isList (by simpa using hlen) (by lia) (fun j h1 h2=>by
       have h1':j<its.length:=by simpa using h1
       have h2':j<its'.length:=by simpa using h2
       obtain ⟨d,v,g1,g2,g3⟩:=cq h3 rv h1';obtain ⟨e,w,g1',g2',g3'⟩:=cq h3' rv' h2';have:b9 l m j=peq d e:=by unfold b9;rw [qc3,qc3,g1,g1'];rfl
       rw [this];have:=ih (A:=A.in1) (qc5 (eJ g1) (by lia)) (show A.units+1+n<cLine by lia) (dG hc g1 g1') g2 g2' g3 g3';simpa using this)
      have e1:(its.length==its'.length)=true:=by simpa using hlen
      rw [e1,qt7,show min its.length its'.length=its.length by lia];exact qw1 hab (by simpa using key)
    . have e1:(its.length==its'.length)=false:=by simpa using hlen
      rw [e1,qr9];exact qw1 hab (qx7 pt.isList pt'.isList (by simpa using hlen) (by lia))
   | _=>exact absurd hc (by simp [dm,b7])
  | non=>cases e<;>first | (simp only [Rep] at h h';subst h h';exact gA r r' rfl rfl) | (simp [dm,b7] at hc)
  | bl b=>cases e<;>first | (simp only [Rep] at h h';subst h h';exact gA r r' rfl rfl) | (simp [dm,b7] at hc)
  | int b=>cases e<;>first | (simp only [Rep] at h h';subst h h';exact gA r r' rfl rfl) | (simp [dm,b7] at hc)
  | str b=>cases e<;>first | (simp only [Rep] at h h';subst h h';exact gA r r' rfl rfl) | (simp [dm,b7] at hc)
  | dct ks l=>cases e<;>(simp [dm,b7] at hc)
  | dcT ks l=>cases e<;>(simp [dm,b7] at hc)
  | ins c ns l=>cases e<;>(simp [dm,b7] at hc)
theorem wu (I:Inv X pins σ H s) {A:qd2} {d e:Dt} {v w:V} {u u':Value} (hq:(∃ l m,d=.tup l/\e=.tup m)∨∃ l m,d=.lst l/\e=.lst m) (hu:A.units+gG d<cLine) (hc:dm d e=true) (h:Rep X.K H d v) (h':Rep X.K H e w) (r:RelV v u) (r':RelV w u') :
  qx6 A s u u' (peq d e)/\zc3 A s u u' (!peq d e):=by
 rcases hq with ⟨l,m,rfl,rfl⟩ | ⟨l,m,rfl,rfl⟩
 . simp only [Rep] at h h';obtain ⟨a,vs,rfl,h2,h3⟩:=h;obtain ⟨b,ws,rfl,h2',h3'⟩:=h';cases r;cases r';obtain ⟨its,rv,pt,_⟩:=I.tuple h2;obtain ⟨its',rv',pt',_⟩:=I.tuple h2';have n1:its.length=l.length:=by rw [<- h3.length,rv.length]
   have n2:its'.length=m.length:=by rw [<- h3'.length,rv'.length]
   simp only [peq];rw [db,<- n1,<- n2];simp only [gG] at hu;simp only [dm] at hc
   have he:∀ j (h1:j<its.toArray.size) (h2:j<its'.toArray.size),qf6 A.in1 s its.toArray[j] its'.toArray[j] (b9 l m j):=fun j h1 h2=>by
    have h1':j<its.length:=by simpa using h1
    have h2':j<its'.length:=by simpa using h2
    obtain ⟨d,v,g1,g2,g3⟩:=cq h3 rv h1';obtain ⟨e,w,g1',g2',g3'⟩:=cq h3' rv' h2';have:b9 l m j=peq d e:=by unfold b9;rw [qc3,qc3,g1,g1'];rfl
    rw [this];have:=wq I (deeps l) (A:=A.in1) (eJ g1) (show A.units+1+deeps l<cLine by lia) (dG hc g1 g1') g2 g2' g3 g3';simpa using this
   exact ⟨by simpa using qx6.tuples (A:=A) (e:=b9 l m) pt pt' (by lia) he,by simpa using zc3.tuples (A:=A) (e:=b9 l m) pt pt' (by lia) he⟩
 . simp only [Rep] at h h';obtain ⟨a,vs,rfl,h2,h3⟩:=h;obtain ⟨b,ws,rfl,h2',h3'⟩:=h';cases r;cases r';obtain ⟨its,rv,pt,_⟩:=I.list h2;obtain ⟨its',rv',pt',_⟩:=I.list h2';have n1:its.length=l.length:=by rw [<- h3.length,rv.length]
   have n2:its'.length=m.length:=by rw [<- h3'.length,rv'.length]
   simp only [peq];rw [db,<- n1,<- n2];simp only [gG] at hu;simp only [dm] at hc;by_cases hlen:its.length=its'.length
   . have he:∀ j (h1:j<its.toArray.size) (h2:j<its'.toArray.size),qf6 A.in1 s its.toArray[j] its'.toArray[j] (b9 l m j):=fun j h1 h2=>by
      have h1':j<its.length:=by simpa using h1
      have h2':j<its'.length:=by simpa using h2
      obtain ⟨d,v,g1,g2,g3⟩:=cq h3 rv h1';obtain ⟨e,w,g1',g2',g3'⟩:=cq h3' rv' h2';have:b9 l m j=peq d e:=by unfold b9;rw [qc3,qc3,g1,g1'];rfl
      rw [this];have:=wq I (deeps l) (A:=A.in1) (eJ g1) (show A.units+1+deeps l<cLine by lia) (dG hc g1 g1') g2 g2' g3 g3';simpa using this
     have e1:(its.length==its'.length)=true:=by simpa using hlen
     rw [e1,qt7,show min its.length its'.length=its.length by lia];exact ⟨by simpa using qx6.lists (A:=A) (e:=b9 l m) pt.isList pt'.isList (by simpa using hlen) (by lia) he,by simpa using zc3.lists (A:=A) (e:=b9 l m) pt.isList pt'.isList (by simpa using hlen) (by lia) he⟩
   . have e1:(its.length==its'.length)=false:=by simpa using hlen
     rw [e1,qr9];exact ⟨qx7 pt.isList pt'.isList (by simpa using hlen) (by lia),zc3.lists_lengths pt.isList pt'.isList (by simpa using hlen) (by lia)⟩
noncomputable def uP (K:PySem.W.Frag) (neg:Bool):R2:=fun x y H Q=>∃ d e,((∃ l m,d=.tup l/\e=.tup m)∨∃ l m,d=.lst l/\e=.lst m)/\Rep K H d x/\Rep K H e y/\dm d e=true/\gG d<=60/\Q (.bl (if neg then !peq d e else peq d e)) H
theorem xW {K:PySem.W.Frag} {k:Nat} (hr:Room k X.A) (hK:X.K=K):OpR X (qg7 .Eq) (uP K false):=by subst hK;intro pins s σ H x y v u Q I rx ry h;obtain ⟨d,e,hq,hd,he,hc,hdp,q⟩:=h;have hu:=hr.units;exact (wu I hq (by lia) hc hd he rx ry).1 _ _ _ _ ⟨.bl (peq d e),H,I,rfl,q⟩
theorem xX {K:PySem.W.Frag} {k:Nat} (hr:Room k X.A) (hK:X.K=K):OpR X (qg7 .NotEq) (uP K true):=by subst hK;intro pins s σ H x y v u Q I rx ry h;obtain ⟨d,e,hq,hd,he,hc,hdp,q⟩:=h;have hu:=hr.units;exact (wu I hq (by lia) hc hd he rx ry).2 _ _ _ _ ⟨.bl (!peq d e),H,I,rfl,q⟩
end
end L2
namespace L2
open PySem PySem.Spec PyProof.Rows
structure Step (F H F' H':Hp):Prop where
 hh:Same H H'
 ff:Same F F'
 fh:Same F' H'
 nw:∀ b o,F' b=some o->F b=some o∨H b=none
section
variable {F H F' H' F1 H1:Hp} {p:Addr} {o:HO}
theorem Step.refl (h:Same F H):Step F H F H:=⟨Same.refl _,Same.refl _,h,fun _ _ e=>.inl e⟩
theorem Step.trans (a:Step F H F1 H1) (b:Step F1 H1 F' H'):Step F H F' H':=⟨a.hh.trans b.hh,a.ff.trans b.ff,b.fh,fun c o e=>(b.nw c o e).elim (a.nw c o) fun z=>.inr (a.hh.free z)⟩
theorem Same.upd (hp:H p=none):Same H (upd H p o):=fun b u e=>by rw [aK (bw e hp)];exact e
theorem Step.new (h:Same F H) (hp:H p=none):Step F H (upd F p o) (upd H p o) where
 hh:=Same.upd hp
 ff:=Same.upd (h.free hp)
 fh:=fun b u e=>by
  by_cases hb:b=p
  . subst hb;rw [aT] at e ⊢;exact e
  . rw [aK hb] at e ⊢;exact h _ _ e
 nw:=fun b u e=>by
  by_cases hb:b=p
  . subst hb;exact .inr hp
  . rw [aK hb] at e;exact .inl e
theorem Step.made (h:Same F H) (hp:H p=none):Step F H F (upd H p o) where
 hh:=Same.upd hp
 ff:=Same.refl _
 fh:=h.trans (Same.upd hp)
 nw:=fun b u e=>.inl e
end
inductive Fl where
 | leaf (d:Dt) | lst (l:List Dt) | dct (l:List (Key×Dt)) | dcT (l:List (List Key×Dt))
noncomputable def Fl.d:Fl->Dt
 | .leaf d=>d
 | .lst l=>.lst l
 | .dct l=>.dct (l.map (·.1)) (l.map (·.2))
 | .dcT l=>.dcT (l.map (·.1)) (l.map (·.2))
inductive T where
 | leaf (d:Dt) | lst (l:List Dt) | dct (l:List (Key×Dt)) | dcT (l:List (List Key×Dt)) | obj (c:Str) (ns:List Str) (l:List Fl) | pin (a:Addr) (t:T)
noncomputable def T.d:T->Dt
 | .leaf d=>d
 | .lst l=>.lst l
 | .dct l=>.dct (l.map (·.1)) (l.map (·.2))
 | .dcT l=>.dcT (l.map (·.1)) (l.map (·.2))
 | .obj c ns l=>.ins c ns (l.map Fl.d)
 | .pin _ t=>t.d
noncomputable def OwnF (K:PySem.W.Frag) (F H:Hp):Fl->V->(Addr->Prop)->Prop
 | .leaf d,v,_=>Rep K F d v
 | .lst l,v,S=>∃ a vs,v=.ref a/\S a/\H a=some (.lst vs)/\Reps K F l vs
 | .dct l,v,S=>∃ a kvs,v=.ref a/\S a/\H a=some (.dK kvs)/\kvs.map (·.1)=l.map (·.1)/\Reps K F (l.map (·.2)) (kvs.map (·.2))
 | .dcT l,v,S=>∃ a kvs,v=.ref a/\S a/\H a=some (.dT kvs)/\kvs.map (·.1)=l.map (·.1)/\Reps K F (l.map (·.2)) (kvs.map (·.2))
structure OwnFs (K:PySem.W.Frag) (F H:Hp) (l:List Fl) (vs:List V) (a:Addr) (S:Addr->Prop) (Z:Nat->Addr->Prop):Prop where
 len:l.length=vs.length
 own:∀ i f v,l[i]?=some f->vs[i]?=some v->OwnF K F H f v (Z i)
 sub:∀ i b,Z i b->S b/\b≠a
 dis:∀ i j b,Z i b->Z j b->i=j
noncomputable def Own (K:PySem.W.Frag) (F H:Hp):T->V->(Addr->Prop)->Prop
 | .leaf d,v,_=>Rep K F d v
 | .lst l,v,S=>∃ a vs,v=.ref a/\S a/\H a=some (.lst vs)/\Reps K F l vs
 | .dct l,v,S=>∃ a kvs,v=.ref a/\S a/\H a=some (.dK kvs)/\kvs.map (·.1)=l.map (·.1)/\Reps K F (l.map (·.2)) (kvs.map (·.2))
 | .dcT l,v,S=>∃ a kvs,v=.ref a/\S a/\H a=some (.dT kvs)/\kvs.map (·.1)=l.map (·.1)/\Reps K F (l.map (·.2)) (kvs.map (·.2))
 | .obj c ns l,v,S=>∃ a C dx fs Z,v=.ref a/\S a/\rJ K c C/\H a=some (.ins C dx fs)/\fs.map (·.1)=ns/\OwnFs K F H l (fs.map (·.2)) a S Z
 | .pin a t,v,S=>v=.ref a/\(∀ d,t≠.leaf d)/\Own K F H t v S
noncomputable def RepB (K:PySem.W.Frag) (F H:Hp):Dt->V->Prop
 | .lst l,v=>∃ a vs,v=.ref a/\SqL K H a vs/\Reps K F l vs
 | .dct ks l,v=>∃ a kvs,v=.ref a/\Rd H a (.dK kvs)/\kvs.map (·.1)=ks/\Reps K F l (kvs.map (·.2))
 | .dcT ks l,v=>∃ a kvs,v=.ref a/\Rd H a (.dT kvs)/\kvs.map (·.1)=ks/\Reps K F l (kvs.map (·.2))
 | .ins c ns l,v=>Rep K H (.ins c ns l) v
 | .non,v=>v=.non
 | .bl b,v=>v=.bl b
 | .int i,v=>v=.int i
 | .str x,v=>v=.str x
 | .tup l,v=>∃ a vs,v=.ref a/\SqT K F a vs/\Reps K F l vs
theorem OwnF.step {K:PySem.W.Frag} {F H F' H':Hp} {t:Fl} {v:V} {S:Addr->Prop} (ff:Same F F') (hh:∀ b o,S b->H b=some o->H' b=some o) (h:OwnF K F H t v S):OwnF K F' H' t v S:=by
 cases t with
 | leaf d=>exact Rep.same ff h
 | lst l =>obtain ⟨a,vs,e,hs,h1,h2⟩:=h;exact ⟨a,vs,e,hs,hh _ _ hs h1,h2.same ff⟩
 | dct l =>obtain ⟨a,vs,e,hs,h1,h2,h3⟩:=h;exact ⟨a,vs,e,hs,hh _ _ hs h1,h2,h3.same ff⟩
 | dcT l =>obtain ⟨a,vs,e,hs,h1,h2,h3⟩:=h;exact ⟨a,vs,e,hs,hh _ _ hs h1,h2,h3.same ff⟩
theorem OwnF.rep {K:PySem.W.Frag} {F H G:Hp} {t:Fl} {v:V} {S:Addr->Prop} (ff:Same F G) (hg:∀ b o,S b->H b=some o->G b=some o) (h:OwnF K F H t v S):Rep K G t.d v:=by
 cases t with
 | leaf d=>exact Rep.same ff h
 | lst l =>obtain ⟨a,vs,e,q,h1,h2⟩:=h;simp only [Fl.d,Rep];exact ⟨a,vs,e,SqL.of (hg _ _ q h1),h2.same ff⟩
 | dct l =>obtain ⟨a,vs,e,q,h1,h2,h3⟩:=h;simp only [Fl.d,Rep];exact ⟨a,vs,e,.inl (hg _ _ q h1),h2,h3.same ff⟩
 | dcT l =>obtain ⟨a,vs,e,q,h1,h2,h3⟩:=h;simp only [Fl.d,Rep];exact ⟨a,vs,e,.inl (hg _ _ q h1),h2,h3.same ff⟩
theorem lP {K:PySem.W.Frag} {G:Hp}:∀ {l:List Fl} {vs:List V},l.length=vs.length->(∀ (i:Nat) (f:Fl) (v:V),l[i]?=some f->vs[i]?=some v->Rep K G f.d v)->Reps K G (l.map Fl.d) vs
 | [],[],_,_=>by simp [Reps]
 | [],_::_,h,_=>by cases h
 | _::_,[],h,_=>by cases h
 | f::l,v::vs,h,k=>by simp only [qa5,Reps];exact ⟨v,vs,rfl,k 0 f v rfl rfl,lP (by simpa using h) fun i f v h1 h2=>k (i+1) f v (by simpa using h1) (by simpa using h2)⟩
theorem oV {K:PySem.W.Frag} {F H G:Hp} {c:Str} {ns:List Str} {l:List Fl} {v:V} {S:Addr->Prop} (ff:Same F G) (hg:∀ b o,S b->H b=some o->G b=some o) (h:Own K F H (.obj c ns l) v S):Rep K G (.ins c ns (l.map Fl.d)) v:=by obtain ⟨a,C,dx,fs,Z,e,hs,hc,h1,h2,h3⟩:=h;simp only [Rep];exact ⟨a,C,dx,fs,e,hc,hg _ _ hs h1,h2,lP h3.len fun i f v e1 e2=>(h3.own i f v e1 e2).rep ff fun b o z=>hg b o (h3.sub i b z).1⟩
section
variable {K:PySem.W.Frag} {F H F' H':Hp} {t:T} {v:V} {d:Dt} {S:Addr->Prop}
theorem Own.step (ff:Same F F') (hh:∀ b o,S b->H b=some o->H' b=some o) (h:Own K F H t v S):Own K F' H' t v S:=by
 induction t with
 | leaf d=>exact Rep.same ff h
 | lst l =>obtain ⟨a,vs,e,hs,h1,h2⟩:=h;exact ⟨a,vs,e,hs,hh _ _ hs h1,h2.same ff⟩
 | dct l =>obtain ⟨a,vs,e,hs,h1,h2,h3⟩:=h;exact ⟨a,vs,e,hs,hh _ _ hs h1,h2,h3.same ff⟩
 | dcT l =>obtain ⟨a,vs,e,hs,h1,h2,h3⟩:=h;exact ⟨a,vs,e,hs,hh _ _ hs h1,h2,h3.same ff⟩
 | obj c ns l =>obtain ⟨a,C,dx,fs,Z,e,hs,hc,h1,h2,h3⟩:=h;exact ⟨a,C,dx,fs,Z,e,hs,hc,hh _ _ hs h1,h2,h3.len,fun i f v e1 e2=>(h3.own i f v e1 e2).step ff fun b o z=>hh b o (h3.sub i b z).1,h3.sub,h3.dis⟩
 | pin a t ih=>exact ⟨h.1,h.2.1,ih h.2.2⟩
theorem Own.grow {S':Addr->Prop} (hs:∀ b,S b->S' b) (h:Own K F H t v S):Own K F H t v S':=by
 induction t with
 | leaf d=>exact h
 | lst l =>obtain ⟨a,vs,e,q,h1⟩:=h;exact ⟨a,vs,e,hs _ q,h1⟩
 | dct l =>obtain ⟨a,vs,e,q,h1⟩:=h;exact ⟨a,vs,e,hs _ q,h1⟩
 | dcT l =>obtain ⟨a,vs,e,q,h1⟩:=h;exact ⟨a,vs,e,hs _ q,h1⟩
 | obj c ns l =>obtain ⟨a,C,dx,fs,Z,e,q,hc,h1,h2,h3⟩:=h;exact ⟨a,C,dx,fs,Z,e,hs _ q,hc,h1,h2,h3.len,h3.own,fun i b z=>⟨hs _ (h3.sub i b z).1,(h3.sub i b z).2⟩,h3.dis⟩
 | pin a t ih=>exact ⟨h.1,h.2.1,ih h.2.2⟩
theorem RepB.of (fh:Same F H) (h:Rep K F d v):RepB K F H d v:=by
 cases d with
 | lst l =>simp only [Rep] at h;obtain ⟨a,vs,e,h1,h2⟩:=h;exact ⟨a,vs,e,fh.seq h1,h2⟩
 | dct ks l =>simp only [Rep] at h;obtain ⟨a,vs,e,h1,h2⟩:=h;exact ⟨a,vs,e,fh.rd h1,h2⟩
 | dcT ks l =>simp only [Rep] at h;obtain ⟨a,vs,e,h1,h2⟩:=h;exact ⟨a,vs,e,fh.rd h1,h2⟩
 | tup l =>simp only [Rep] at h;exact h
 | ins c ns l=>exact Rep.same fh h
 | _ =>simp only [Rep] at h;exact h
theorem RepB.rep (fh:Same F H) (h:RepB K F H d v):Rep K H d v:=by
 cases d with
 | lst l =>obtain ⟨a,vs,e,h1,h2⟩:=h;simp only [Rep];exact ⟨a,vs,e,h1,h2.same fh⟩
 | dct ks l =>obtain ⟨a,vs,e,h1,h2,h3⟩:=h;simp only [Rep];exact ⟨a,vs,e,h1,h2,h3.same fh⟩
 | dcT ks l =>obtain ⟨a,vs,e,h1,h2,h3⟩:=h;simp only [Rep];exact ⟨a,vs,e,h1,h2,h3.same fh⟩
 | tup l =>obtain ⟨a,vs,e,h1,h2⟩:=h;simp only [Rep];exact ⟨a,vs,e,fh.tup h1,h2.same fh⟩
 | ins c ns l=>exact h
 | _ =>simp only [Rep];exact h
theorem RepB.step (ff:Same F F') (hh:Same H H') (h:RepB K F H d v):RepB K F' H' d v:=by
 cases d with
 | lst l =>obtain ⟨a,vs,e,h1,h2⟩:=h;exact ⟨a,vs,e,hh.seq h1,h2.same ff⟩
 | dct ks l =>obtain ⟨a,vs,e,h1,h2,h3⟩:=h;exact ⟨a,vs,e,hh.rd h1,h2,h3.same ff⟩
 | dcT ks l =>obtain ⟨a,vs,e,h1,h2,h3⟩:=h;exact ⟨a,vs,e,hh.rd h1,h2,h3.same ff⟩
 | tup l =>obtain ⟨a,vs,e,h1,h2⟩:=h;exact ⟨a,vs,e,ff.tup h1,h2.same ff⟩
 | ins c ns l=>exact Rep.same hh h
 | _=>exact h
theorem Own.repB (fh:Same F H) (h:Own K F H t v S):RepB K F H t.d v:=by
 induction t with
 | leaf d=>exact RepB.of fh h
 | lst l =>obtain ⟨a,vs,e,_,h1,h2⟩:=h;exact ⟨a,vs,e,SqL.of h1,h2⟩
 | dct l =>obtain ⟨a,vs,e,_,h1,h2⟩:=h;exact ⟨a,vs,e,.inl h1,h2⟩
 | dcT l =>obtain ⟨a,vs,e,_,h1,h2⟩:=h;exact ⟨a,vs,e,.inl h1,h2⟩
 | obj c ns l=>exact oV fh (fun _ _ _ e=>e) h
 | pin a t ih=>exact ih h.2.2
open Classical in
noncomputable def qi (F H:Hp) (S:Addr->Prop):Hp:=fun b=>if S b then H b else F b
theorem fZ {b:Addr} (h:S b):qi F H S b=H b:=if_pos h
theorem iJ {b:Addr} (h:¬ S b):qi F H S b=F b:=if_neg h
theorem oW (hs:∀ b,S b->F b=none):Same F (qi F H S):=fun b o e=>by
 have:¬ S b:=fun z=>by rw [hs b z] at e;cases e
 rw [iJ this];exact e
theorem uQ (fh:Same F H):Same (qi F H S) H:=fun b o e=>by
 by_cases h:S b
 . rw [fZ h] at e;exact e
 . rw [iJ h] at e;exact fh _ _ e
theorem Own.freeze (hs:∀ b,S b->F b=none) (h:Own K F H t v S):Rep K (qi F H S) t.d v:=by
 have ff:=oW (H:=H) hs;induction t with
 | leaf d=>exact Rep.same ff h
 | lst l =>obtain ⟨a,vs,e,q,h1,h2⟩:=h;simp only [T.d,Rep];exact ⟨a,vs,e,SqL.of (by rw [fZ q];exact h1),h2.same ff⟩
 | dct l =>obtain ⟨a,vs,e,q,h1,h2,h3⟩:=h;simp only [T.d,Rep];exact ⟨a,vs,e,.inl (by rw [fZ q];exact h1),h2,h3.same ff⟩
 | dcT l =>obtain ⟨a,vs,e,q,h1,h2,h3⟩:=h;simp only [T.d,Rep];exact ⟨a,vs,e,.inl (by rw [fZ q];exact h1),h2,h3.same ff⟩
 | obj c ns l=>exact oV ff (fun b o z e=>by rw [fZ z];exact e) h
 | pin a t ih=>exact ih h.2.2
end
abbrev Ix:=Nat
abbrev De:=List (Option T)
structure Sep (K:PySem.W.Frag) (F H:Hp) (B:Addr->Prop) (L:Ix->Option (T×V)) (S:Ix->Addr->Prop):Prop where
 own:∀ i t v,L i=some (t,v)->Own K F H t v (S i)
 out:∀ i b,S i b->F b=none/\(∃ o,H b=some o)/\B b
 dis:∀ i j b,S i b->S j b->i=j
noncomputable def jK (δ:De) (σ:St) (i:Nat):Option (T×V):=match δ[i]?,σ[i]? with
 | some (some t),some (some v)=>some (t,v)
 | _,_=>none
structure Fm where
 K:PySem.W.Frag
 F0:Hp
 H0:Hp
 S0:Addr->Prop
noncomputable def Fm.B (Φ:Fm) (b:Addr):Prop:=Φ.H0 b=none∨Φ.S0 b
structure En (Φ:Fm) (δ:De) (σ:St) (F H:Hp):Prop where
 fh:Same F H
 prot:∀ b o,Φ.H0 b=some o->¬ Φ.S0 b->H b=some o
 old:Same Φ.F0 F
 nw:∀ b o,F b=some o->Φ.F0 b=some o∨Φ.B b
 len:δ.length=σ.length
 has:∀ (i:Nat) (t:T),δ[i]?=some (some t)->∃ v,σ[i]?=some (some v)
 sep:∃ S,Sep Φ.K F H Φ.B (jK δ σ) S
section
variable {Φ:Fm} {δ:De} {σ:St} {F H F' H':Hp}
theorem cU {i:Nat} {t:T} {v:V} (h1:δ[i]?=some (some t)) (h2:σ[i]?=some (some v)):jK δ σ i=some (t,v):=by unfold jK;rw [h1,h2]
theorem dH {i:Nat} {t:T} {v:V} (h:jK δ σ i=some (t,v)):δ[i]?=some (some t)/\σ[i]?=some (some v):=by
 unfold jK at h;split at h
 . rename_i e1 e2;cases h;exact ⟨e1,e2⟩
 . cases h
theorem En.fresh (e:En Φ δ σ F H) {p:Addr} (hp:H p=none):Φ.B p:=by
 by_cases h:Φ.S0 p
 . exact .inr h
 . left;cases q:Φ.H0 p with
   | none=>rfl
   | some o=>rw [e.prot p o q h] at hp;cases hp
theorem Sep.step {K:PySem.W.Frag} {B:Addr->Prop} {L:Ix->Option (T×V)} {S:Ix->Addr->Prop} (s:Sep K F H B L S) (st:Step F H F' H'):Sep K F' H' B L S where
 own:=fun i t v h=>(s.own i t v h).step st.ff fun b o _ e=>st.hh b o e
 out:=fun i b h=>by
  obtain ⟨h1,⟨o,h2⟩,h3⟩:=s.out i b h;refine ⟨?_,⟨o,st.hh _ _ h2⟩,h3⟩;cases q:F' b with
  | none=>rfl
  | some o' =>
   rcases st.nw b o' q with z | z
   . rw [h1] at z;cases z
   . rw [h2] at z;cases z
 dis:=s.dis
theorem En.step (e:En Φ δ σ F H) (st:Step F H F' H'):En Φ δ σ F' H' where
 fh:=st.fh
 prot:=fun b o h1 h2=>st.hh _ _ (e.prot b o h1 h2)
 old:=e.old.trans st.ff
 nw:=fun b o h=>by
  rcases st.nw b o h with z | z
  . exact e.nw b o z
  . exact .inr (e.fresh z)
 len:=e.len
 has:=e.has
 sep:=let ⟨S,s⟩:=e.sep;⟨S,s.step st⟩
theorem En.slot (e:En Φ δ σ F H) {i:Nat} {t:T} (h:δ[i]?=some (some t)):∃ v,σ[i]?=some (some v)/\RepB Φ.K F H t.d v:=by obtain ⟨v,hv⟩:=e.has i t h;obtain ⟨S,s⟩:=e.sep;exact ⟨v,hv,(s.own i t v (cU h hv)).repB e.fh⟩
theorem En.leaf (e:En Φ δ σ F H) {i:Nat} {d:Dt} (h:δ[i]?=some (some (.leaf d))):∃ v,σ[i]?=some (some v)/\Rep Φ.K F d v:=by obtain ⟨v,hv⟩:=e.has i _ h;obtain ⟨S,s⟩:=e.sep;exact ⟨v,hv,s.own i _ v (cU h hv)⟩
theorem d6 {α:Type} {l:List (Option α)} {i j:Nat} {x y:Option α} (h:(l.set i x)[j]?=some y):(i=j/\y=x)∨(i≠j/\l[j]?=some y):=by
 by_cases hij:i=j
 . subst hij;left;rw [qx8] at h;simp only [if_true] at h;split at h
   . cases h;exact ⟨rfl,rfl⟩
   . cases h
 . right;rw [gN hij] at h;exact ⟨hij,h⟩
theorem En.put (e:En Φ δ σ F H) {t:T} {v:V} {S':Addr->Prop} (st:Step F H F' H') (ho:Own Φ.K F' H' t v S') (hs:∀ b,S' b->F' b=none/\H b=none/\∃ o,H' b=some o) (i:Nat):En Φ (δ.set i (some t)) (σ.set i (some v)) F' H':=by
 have e':=e.step st;obtain ⟨S,s⟩:=e.sep;have s':=s.step st;refine ⟨e'.fh,e'.prot,e'.old,e'.nw,by simp [e.len],fun j u h=>?_,fun j b=>if j=i then S' b else S j b,?_,?_,?_⟩
 . rcases d6 h with ⟨rfl,z⟩ | ⟨hn,z⟩
   . have hi:i<σ.length:=by rw [<- e.len];have:=(gX h).1;simpa using this
     exact ⟨v,by simp [hi]⟩
   . obtain ⟨w,hw⟩:=e.has j u z;exact ⟨w,by rw [gN hn];exact hw⟩
 . intro j u w h;obtain ⟨h1,h2⟩:=dH h;rcases d6 h1 with ⟨rfl,z⟩ | ⟨hn,z⟩
   . rcases d6 h2 with ⟨_,z2⟩ | ⟨hn2,_⟩
     . cases z;cases z2;show Own _ _ _ _ _ (fun b=>if i=i then S' b else S i b);simp only [if_true];exact ho
     . exact absurd rfl hn2
   . rcases d6 h2 with ⟨z2,_⟩ | ⟨_,z2⟩
     . exact absurd z2 hn
     . have:¬ j=i:=fun q=>hn q.symm
       show Own _ _ _ _ _ (fun b=>if j=i then S' b else S j b);simp only [if_neg this];exact s'.own j u w (cU z z2)
 . intro j b h;split at h
   . obtain ⟨h1,h2,h3⟩:=hs b h;exact ⟨h1,h3,e.fresh h2⟩
   . exact s'.out _ b h
 . have old:∀ j b,S j b->¬ S' b:=fun j b h z=>by obtain ⟨_,⟨o,h2⟩,_⟩:=s.out j b h;rw [(hs b z).2.1] at h2;cases h2
   intro j k b hj hk;split at hj<;>split at hk
   . rename_i q1 q2;rw [q1,q2]
   . exact absurd hj (old _ b hk)
   . exact absurd hk (old _ b hj)
   . exact s.dis _ _ b hj hk
theorem qj {K:PySem.W.Frag} {t:T} {a:Addr} {S:Addr->Prop} (ht:∀ d,t≠.leaf d) (h:Own K F H t (.ref a) S):S a:=by
 induction t with
 | leaf d=>exact absurd rfl (ht d)
 | lst l=>obtain ⟨b,_,e,q,_⟩:=h;cases e;exact q
 | dct l=>obtain ⟨b,_,e,q,_⟩:=h;cases e;exact q
 | dcT l=>obtain ⟨b,_,e,q,_⟩:=h;cases e;exact q
 | obj c ns l=>obtain ⟨b,_,_,_,_,e,q,_⟩:=h;cases e;exact q
 | pin b t ih=>exact ih h.2.1 h.2.2
theorem En.poke (e:En Φ δ σ F H) {i:Nat} {t t':T} {a:Addr} {o:HO} (h:δ[i]?=some (some t)) (hv:σ[i]?=some (some (.ref a))) (ht:∀ d,t≠.leaf d) (ho:∀ S:Addr->Prop,S a->Own Φ.K F (upd H a o) t' (.ref a) S) :
  En Φ (δ.set i (some t')) σ F (upd H a o):=by
 obtain ⟨S,s⟩:=e.sep;have sa:S i a:=qj ht (s.own i t _ (cU h hv));obtain ⟨fa,⟨oa,ha⟩,ba⟩:=s.out _ a sa;have hi:i<δ.length:=(gX h).1;refine ⟨fun b u z=>?_,fun b u h1 h2=>?_,e.old,e.nw,by simp [e.len],fun j u z=>?_,S,fun j u w z=>?_,fun j b z=>?_,s.dis⟩
 . have:b≠a:=fun q=>by rw [q,fa] at z;cases z
   rw [aK this];exact e.fh _ _ z
 . have:b≠a:=fun q=>by
    subst q;rcases ba with z | z
    . rw [z] at h1;cases h1
    . exact h2 z
   rw [aK this];exact e.prot b u h1 h2
 . rcases d6 z with ⟨rfl,_⟩ | ⟨hn,z⟩
   . exact ⟨_,hv⟩
   . exact e.has j u z
 . obtain ⟨h1,h2⟩:=dH z;rcases d6 h1 with ⟨rfl,z1⟩ | ⟨hn,z1⟩
   . cases z1;rw [hv] at h2;cases h2;exact ho _ sa
   . refine (s.own j u w (cU z1 h2)).step (Same.refl _) fun b q hb hq=>?_
     have:b≠a:=fun y=>by subst y;exact hn (s.dis _ _ _ hb sa).symm
     rw [aK this];exact hq
 . obtain ⟨h1,⟨q,h2⟩,h3⟩:=s.out j b z;refine ⟨h1,?_,h3⟩;by_cases y:b=a
   . subst y;exact ⟨o,aT⟩
   . exact ⟨q,by rw [aK y];exact h2⟩
end
noncomputable def KO (K:PySem.W.Frag) (F H:Hp) (t:T) (Q:VK):Prop:=∀ v H' F' S,Step F H F' H'->Own K F' H' t v S->(∀ b,S b->F' b=none/\H b=none/\∃ o,H' b=some o)->Q v H'
noncomputable def KL (K:PySem.W.Frag) (F H:Hp) (d:Dt) (Q:VK):Prop:=∀ v H' F',Step F H F' H'->Rep K F' d v->Q v H'
noncomputable def KB (K:PySem.W.Frag) (F H:Hp) (d:Dt) (Q:VK):Prop:=∀ v H' F',Step F H F' H'->RepB K F' H' d v->Q v H'
section
variable {K:PySem.W.Frag} {F H F1 H1:Hp} {t:T} {d:Dt} {Q:VK}
theorem KO.step (k:KO K F H t Q) (st:Step F H F1 H1):KO K F1 H1 t Q:=fun v H' F' S s o hs=>k v H' F' S (st.trans s) o fun b z=>⟨(hs b z).1,st.hh.free (hs b z).2.1,(hs b z).2.2⟩
theorem KO.leaf (k:KO K F H (.leaf d) Q):KL K F H d Q:=fun v H' F' st r=>k v H' F' (fun _=>False) st r fun _ z=>z.elim
theorem KL.here (k:KL K F H d Q) (fh:Same F H) {v:V} (r:Rep K F d v):Q v H:=k v H F (Step.refl fh) r
theorem KB.to (k:KB K F H d Q):KL K F H d Q:=fun v H' F' st r=>k v H' F' st (RepB.of st.fh r)
theorem KL.to (k:KL K F H t.d Q):KO K F H t Q:=fun v H' F' S st o hs=>by
 refine k v H' (qi F' H' S) ⟨st.hh,st.ff.trans (oW fun b z=>(hs b z).1),uQ st.fh,fun b u z=>?_⟩ (o.freeze fun b z=>(hs b z).1);by_cases hb:S b
 . exact .inr (hs b hb).2.1
 . rw [iJ hb] at z;exact st.nw b u z
theorem KB.toO (k:KB K F H t.d Q):KO K F H t Q:=fun v H' F' S st o hs=>k v H' F' st (o.repB st.fh)
end
noncomputable def tO (K:PySem.W.Frag) (f:De->Option T):TE:=fun σ H Q=>∃ Φ δ F t,Fm.K Φ=K/\En Φ δ σ F H/\f δ=some t/\KO K F H t Q
noncomputable def tL (K:PySem.W.Frag) (f:De->Option Dt):TE:=fun σ H Q=>∃ Φ δ F d,Fm.K Φ=K/\En Φ δ σ F H/\f δ=some d/\KL K F H d Q
noncomputable def tBd (K:PySem.W.Frag) (f:De->Option Dt):TE:=fun σ H Q=>∃ Φ δ F d,Fm.K Φ=K/\En Φ δ σ F H/\f δ=some d/\KB K F H d Q
noncomputable def tTr (K:PySem.W.Frag) (f:De->Option Bool):TT:=fun σ H Q=>∃ Φ δ F b,Fm.K Φ=K/\En Φ δ σ F H/\f δ=some b/\∀ H' F',Step F H F' H'->Q b H'
noncomputable def DO (X:Cx) (e:Expr) (f:De->Option T):Prop:=PE X e (tO X.K f)
noncomputable def DL (X:Cx) (e:Expr) (f:De->Option Dt):Prop:=PE X e (tL X.K f)
noncomputable def DB (X:Cx) (e:Expr) (f:De->Option Dt):Prop:=PE X e (tBd X.K f)
noncomputable def DT (X:Cx) (e:Expr) (f:De->Option Bool):Prop:=PT X e (tTr X.K f)
noncomputable def DW (X:Cx) (e:Expr) (f:De->Option Bool):Prop:=PW X e (tTr X.K f)
theorem PE.mono {X:Cx} {e:Expr} {t t':TE} (h:PE X e t) (m:∀ σ H Q,t' σ H Q->t σ H Q):PE X e t':=fun pins s σ H Q I q=>h pins s σ H Q I (m _ _ _ q)
theorem PT.mono {X:Cx} {e:Expr} {t t':TT} (h:PT X e t) (m:∀ σ H Q,t' σ H Q->t σ H Q):PT X e t':=fun pins s σ H Q I q=>h pins s σ H Q I (m _ _ _ q)
theorem PW.mono {X:Cx} {e:Expr} {t t':TT} (h:PW X e t) (m:∀ σ H Q,t' σ H Q->t σ H Q):PW X e t':=fun whole pins s σ H Q I q=>h whole pins s σ H Q I (m _ _ _ q)
theorem PA.mono {X:Cx} {e:List Expr} {t t':TA} (h:PA X e t) (m:∀ σ H Q,t' σ H Q->t σ H Q):PA X e t':=fun pos pins s σ H Q I q=>h pos pins s σ H Q I (m _ _ _ q)
theorem PI.mono {X:Cx} {tg e:Expr} {t t':TI} (h:PI X tg e t) (m:∀ σ H Q,t' σ H Q->t σ H Q):PI X tg e t':=fun pins s σ H Q I q=>h pins s σ H Q I (m _ _ _ q)
theorem PG.mono {X:Cx} {e:Expr} {t t':TG} (h:PG X e t) (m:∀ v σ H Q,t' v σ H Q->t v σ H Q):PG X e t':=fun pins s σ H v u Q I r q=>h pins s σ H v u Q I r (m _ _ _ _ q)
theorem PS.mono {X:Cx} {e:Stmt} {t t':TS} (h:PS X e t) (m:∀ D σ H,t' D σ H->t D σ H):PS X e t':=fun pins s σ H Q I q=>h pins s σ H Q I (m _ _ _ q)
theorem PSs.mono {X:Cx} {e:List Stmt} {t t':TS} (h:PSs X e t) (m:∀ D σ H,t' D σ H->t D σ H):PSs X e t':=fun pins s σ H Q I q=>h pins s σ H Q I (m _ _ _ q)
theorem PE.or {X:Cx} {e:Expr} {t t':TE} (h:PE X e t) (h':PE X e t'):PE X e (fun σ H Q=>t σ H Q∨t' σ H Q):=fun pins s σ H Q I q=>q.elim (h pins s σ H Q I) (h' pins s σ H Q I)
theorem PI.or {X:Cx} {tg e:Expr} {t t':TI} (h:PI X tg e t) (h':PI X tg e t'):PI X tg e (fun σ H Q=>t σ H Q∨t' σ H Q):=fun pins s σ H Q I q=>q.elim (h pins s σ H Q I) (h' pins s σ H Q I)
section
variable {X:Cx} {e a b c:Expr} {f:De->Option T} {g fa fb fc:De->Option Dt} {pos:Pos}
noncomputable def toD (f:De->Option T):De->Option Dt:=fun δ=>(f δ).map T.d
noncomputable def toT (f:De->Option Dt):De->Option T:=fun δ=>(f δ).map T.leaf
theorem DO.toL (h:DO X e f):DL X e (toD f):=PE.mono h fun σ H Q ⟨Φ,δ,F,d,hK,en,hf,k⟩=>by
 unfold toD at hf;cases ht:f δ with
 | none=>rw [ht] at hf;cases hf
 | some t =>rw [ht] at hf;cases hf;exact ⟨Φ,δ,F,t,hK,en,ht,k.to⟩
theorem DO.toB (h:DO X e f):DB X e (toD f):=PE.mono h fun σ H Q ⟨Φ,δ,F,d,hK,en,hf,k⟩=>by
 unfold toD at hf;cases ht:f δ with
 | none=>rw [ht] at hf;cases hf
 | some t =>rw [ht] at hf;cases hf;exact ⟨Φ,δ,F,t,hK,en,ht,k.toO⟩
theorem DL.toB (h:DL X e g):DB X e g:=PE.mono h fun σ H Q ⟨Φ,δ,F,d,hK,en,hf,k⟩=>⟨Φ,δ,F,d,hK,en,hf,k.to⟩
theorem DL.toO (h:DL X e g):DO X e (toT g):=PE.mono h fun σ H Q ⟨Φ,δ,F,t,hK,en,hf,k⟩=>by
 unfold toT at hf;cases hd:g δ with
 | none=>rw [hd] at hf;cases hf
 | some d =>rw [hd] at hf;cases hf;exact ⟨Φ,δ,F,d,hK,en,hd,k.leaf⟩
noncomputable def vL (i:Nat):De->Option Dt:=fun δ=>match δ[i]? with
 | some (some (.leaf d))=>some d
 | _=>none
noncomputable def vB (i:Nat):De->Option Dt:=fun δ=>match δ[i]? with
 | some (some t)=>some t.d
 | _=>none
theorem av {i:Nat} (h:PE X e (jn i)):DL X e (vL i):=PE.mono h fun σ H Q ⟨Φ,δ,F,d,hK,en,hf,k⟩=>by
 unfold vL at hf;split at hf
 . rename_i q;cases hf;obtain ⟨v,h1,h2⟩:=en.leaf q;exact ⟨v,h1,k.here en.fh (hK▸h2)⟩
 . cases hf
theorem af {i:Nat} (h:PE X e (jn i)):DB X e (vB i):=PE.mono h fun σ H Q ⟨Φ,δ,F,d,hK,en,hf,k⟩=>by
 unfold vB at hf;split at hf
 . rename_i q;cases hf;obtain ⟨v,h1,h2⟩:=en.slot q;exact ⟨v,h1,k v H F (Step.refl en.fh) (hK▸h2)⟩
 . cases hf
noncomputable def kD (d:Dt):De->Option Dt:=fun _=>some d
theorem rL {v:V} {d:Dt} (h:PE X e (tC v)) (r:∀ F,Rep X.K F d v):DL X e (kD d):=PE.mono h fun σ H Q ⟨Φ,δ,F,d',hK,en,hf,k⟩=>by cases hf;exact k.here en.fh (r F)
theorem ag {i:Int} {j}:DL X (.Constant (.int i) j pos) (kD (.int i)):=rL xl fun F=>by simp only [Rep]
theorem hU {i:Bool} {j}:DL X (.Constant (.bool i) j pos) (kD (.bl i)):=rL zx fun F=>by simp only [Rep]
theorem xY {j}:DL X (.Constant .none j pos) (kD .non):=rL xm fun F=>by simp only [Rep]
theorem bf {x:Str} {j}:DL X (.Constant (.str x) j pos) (kD (.str x)):=rL xo fun F=>by simp only [Rep]
noncomputable def R2D (K:PySem.W.Frag) (r:R2) (g:Dt->Dt->Option T):Prop:=∀ F H x y vx vy (Q:VK) t,Same F H->RepB K F H x vx->RepB K F H y vy->g x y=some t->KO K F H t Q->r vx vy H Q
noncomputable def d2 (g:Dt->Dt->Option T) (fa fb:De->Option Dt):De->Option T:=fun δ=>(fa δ).bind fun x=>(fb δ).bind fun y=>g x y
theorem jL {K:PySem.W.Frag} {r:R2} {g:Dt->Dt->Option T} (hr:R2D K r g) {σ:St} {H:Hp} {Q:VK} (h:tO K (d2 g fa fb) σ H Q):tOp r (tBd K fa) (tBd K fb) σ H Q:=by obtain ⟨Φ,δ,F,t,hK,en,hf,k⟩:=h;unfold d2 at hf;obtain ⟨x,hx,hf⟩:=bS hf;obtain ⟨y,hy,hf⟩:=bS hf;exact ⟨Φ,δ,F,x,hK,en,hx,fun v H1 F1 st rv=>⟨Φ,δ,F1,y,hK,en.step st,hy,fun v2 H2 F2 st2 rv2=>hr F2 H2 x y v v2 Q t st2.fh (rv.step st2.ff st2.hh) rv2 hf (k.step (st.trans st2))⟩⟩
theorem au {op:Operator} {r:R2} {g:Dt->Dt->Option T} (ho:OpR X (qk5 op) r) (hr:R2D X.K r g) (ha:DB X a fa) (hb:DB X b fb):DO X (.BinOp a op b pos) (d2 g fa fb):=PE.mono (zD ho ha hb) fun σ H Q h=>jL hr h
theorem rM {op:CmpOp} {r:R2} {g:Dt->Dt->Option T} (ho:OpR X (qg7 op) r) (hr:R2D X.K r g) (ha:DB X a fa) (hb:DB X b fb) (hm:qj0 op b=false):DO X (.Compare a [op] [b] pos) (d2 g fa fb):=PE.mono (ux ho ha hb hm) fun σ H Q h=>jL hr h
noncomputable def asB:T->Option Bool
 | .leaf (.bl b)=>some b
 | _=>none
noncomputable def tB2 (g:Dt->Dt->Option T) (fa fb:De->Option Dt):De->Option Bool:=fun δ=>(d2 g fa fb δ).bind asB
theorem oX {K:PySem.W.Frag} {F H:Hp} {t:T} {v:V} {S:Addr->Prop} {b:Bool} (h:asB t=some b) (o:Own K F H t v S):v=.bl b:=by
 unfold asB at h;split at h
 . cases h;have o:Rep K F (.bl b) v:=o;simp only [Rep] at o;exact o
 . cases h
theorem bK {op:CmpOp} {r:R2} {g:Dt->Dt->Option T} (ho:OpR X (qg7 op) r) (hr:R2D X.K r g) (ha:DB X a fa) (hb:DB X b fb) (hm:qj0 op b=false):DT X (.Compare a [op] [b] pos) (tB2 g fa fb):=PT.mono (kz ho ha hb hm) fun σ H Q ⟨Φ,δ,F,t,hK,en,hf,k⟩=>by unfold tB2 at hf;obtain ⟨z,hz,hf⟩:=bS hf;refine jL hr ⟨Φ,δ,F,z,hK,en,hz,fun v H' F' S st o hs=>?_⟩;exact ⟨t,oX hf o,k H' F' st⟩
noncomputable def uR:Dt->Option Bool
 | .non=>some false
 | .bl b=>some b
 | .int i=>some (i != 0)
 | .str x=>if x.length<=qa7 then some ((x.length:Int) != 0) else none
 | .tup l=>some (!l.isEmpty)
 | .lst l=>some (!l.isEmpty)
 | _=>none
noncomputable def gH (f:De->Option Dt):De->Option Bool:=fun δ=>(f δ).bind uR
theorem f6 {K:PySem.W.Frag} {F:Hp} {l:List Dt} {vs:List V} (h:Reps K F l vs):l.isEmpty=vs.isEmpty:=by
 cases l with
 | nil=>unfold Reps at h;rw [h];rfl
 | cons d l=>unfold Reps at h;obtain ⟨v,ws,rfl,_⟩:=h;rfl
theorem uS {K:PySem.W.Frag} {F H:Hp} {d:Dt} {v:V} {b:Bool} (fh:Same F H) (h:RepB K F H d v) (hb:uR d=some b):xE K v H b:=by
 cases d with
 | non=>cases h;cases hb;rfl
 | bl x=>cases h;cases hb;rfl
 | int x=>cases h;cases hb;rfl
 | str x =>
  cases h;simp only [uR] at hb;split at hb
  . cases hb;exact ⟨by assumption,rfl⟩
  . cases hb
 | tup l =>obtain ⟨a,vs,rfl,h1,h2⟩:=h;cases hb;exact .inr (.inl ⟨vs,fh.tup h1,by rw [f6 h2]⟩)
 | lst l =>obtain ⟨a,vs,rfl,h1,h2⟩:=h;cases hb;exact .inl ⟨vs,h1,by rw [f6 h2]⟩
 | dct ks l=>cases hb
 | dcT ks l=>cases hb
 | ins c ns l=>cases hb
theorem ca (ha:DB X a fa) (he:∀ whole,isTrue a X.env whole=(do let v <- whole;standAt a.pos;qy9 [v] (truthy v))):DT X a (gH fa):=PT.mono (rg ha he) fun σ H Q ⟨Φ,δ,F,b,hK,en,hf,k⟩=>by unfold gH at hf;obtain ⟨d,hd,hf⟩:=bS hf;exact ⟨Φ,δ,F,d,hK,en,hd,fun v H' F' st r=>⟨b,uS st.fh r hf,k H' F' st⟩⟩
noncomputable def uT (f:De->Option Bool):De->Option Bool:=fun δ=>(f δ).map (!·)
noncomputable def jq (f g:De->Option Bool):De->Option Bool:=fun δ=>(f δ).bind fun b=>if b then g δ else some false
noncomputable def fOr (f g:De->Option Bool):De->Option Bool:=fun δ=>(f δ).bind fun b=>if b then some true else g δ
variable {ta tb tc:De->Option Bool} {rest:List Expr}
theorem rN (h:DT X a ta):DT X (.UnaryOp .Not a pos) (uT ta):=PT.mono (xr h) fun σ H Q ⟨Φ,δ,F,b,hK,en,hf,k⟩=>by
 unfold uT at hf;cases q:ta δ with
 | none=>rw [q] at hf;cases hf
 | some c =>rw [q] at hf;cases hf;exact ⟨Φ,δ,F,c,hK,en,q,fun H' F' st=>k H' F' st⟩
theorem f7 (h:DT X a ta):DW X (.BoolOp .And [a] pos) ta:=uu h
theorem rO (h:DT X a ta):DW X (.BoolOp .Or [a] pos) ta:=xp h
theorem iK (h:DT X a ta) (h':DW X (.BoolOp .And (b::rest) pos) tb):DW X (.BoolOp .And (a::b::rest) pos) (jq ta tb):=PW.mono (xq h h') fun σ H Q ⟨Φ,δ,F,t,hK,en,hf,k⟩=>by
 unfold jq at hf;obtain ⟨c,hc,hf⟩:=bS hf;refine ⟨Φ,δ,F,c,hK,en,hc,fun H' F' st=>?_⟩;split at hf
 . rename_i q;rw [if_pos q];exact ⟨Φ,δ,F',t,hK,en.step st,hf,fun H2 F2 s2=>k H2 F2 (st.trans s2)⟩
 . rename_i q;rw [if_neg q];cases hf;exact k H' F' st
theorem wv (h:DT X a ta) (h':DW X (.BoolOp .Or (b::rest) pos) tb):DW X (.BoolOp .Or (a::b::rest) pos) (fOr ta tb):=PW.mono (zy h h') fun σ H Q ⟨Φ,δ,F,t,hK,en,hf,k⟩=>by
 unfold fOr at hf;obtain ⟨c,hc,hf⟩:=bS hf;refine ⟨Φ,δ,F,c,hK,en,hc,fun H' F' st=>?_⟩;split at hf
 . rename_i q;rw [if_pos q];cases hf;exact k H' F' st
 . rename_i q;rw [if_neg q];exact ⟨Φ,δ,F',t,hK,en.step st,hf,fun H2 F2 s2=>k H2 F2 (st.trans s2)⟩
theorem DW.t (h:DW X a ta):DT X a ta:=h.pt
noncomputable def vIf (c:De->Option Bool) (f g:De->Option T):De->Option T:=fun δ=>(c δ).bind fun b=>if b then f δ else g δ
theorem xZ {K:PySem.W.Frag} {F:Hp} {b:Bool}:Rep K F (.bl b) (.bl b):=by simp only [Rep]
theorem f8 {K:PySem.W.Frag} {F:Hp} {b:Int}:Rep K F (.int b) (.int b):=by simp only [Rep]
theorem kP {K:PySem.W.Frag} {F:Hp} {b:Str}:Rep K F (.str b) (.str b):=by simp only [Rep]
theorem kQ {K:PySem.W.Frag} {F:Hp}:Rep K F .non .non:=by simp only [Rep]
variable {oa ob:De->Option T}
theorem zY (hc:DT X c tc) (h:DO X a oa) (h':DO X b ob):DO X (.IfExp c a b pos) (vIf tc oa ob):=PE.mono (qU hc h h') fun σ H Q ⟨Φ,δ,F,t,hK,en,hf,k⟩=>by
 unfold vIf at hf;obtain ⟨x,hx,hf⟩:=bS hf;refine ⟨Φ,δ,F,x,hK,en,hx,fun H' F' st=>?_⟩;split at hf
 . rename_i q;rw [if_pos q];exact ⟨Φ,δ,F',t,hK,en.step st,hf,k.step st⟩
 . rename_i q;rw [if_neg q];exact ⟨Φ,δ,F',t,hK,en.step st,hf,k.step st⟩
noncomputable def lQ (K:PySem.W.Frag) (F H:Hp):List Dt->List V->Prop
 | [],vs=>vs=[]
 | d::l,vs=>∃ v ws,vs=v::ws/\RepB K F H d v/\lQ K F H l ws
noncomputable def tAL (K:PySem.W.Frag) (f:De->Option (List Dt)):TA:=fun σ H Q=>∃ Φ δ F ds,Fm.K Φ=K/\En Φ δ σ F H/\f δ=some ds/\∀ vs H' F',Step F H F' H'->Reps K F' ds vs->Q vs H'
noncomputable def tAB (K:PySem.W.Frag) (f:De->Option (List Dt)):TA:=fun σ H Q=>∃ Φ δ F ds,Fm.K Φ=K/\En Φ δ σ F H/\f δ=some ds/\∀ vs H' F',Step F H F' H'->lQ K F' H' ds vs->Q vs H'
structure DA (X:Cx) (es:List Expr) (f:De->Option (List Dt)):Prop where
 len:∀ δ ds,f δ=some ds->ds.length=es.length
 pa:PA X es (tAL X.K f)
structure DAB (X:Cx) (es:List Expr) (f:De->Option (List Dt)):Prop where
 len:∀ δ ds,f δ=some ds->ds.length=es.length
 pa:PA X es (tAB X.K f)
noncomputable def ai:De->Option (List Dt):=fun _=>some []
noncomputable def aa (f:De->Option Dt) (g:De->Option (List Dt)):De->Option (List Dt):=fun δ=>(f δ).bind fun d=>(g δ).bind fun ds=>some (d::ds)
variable {es:List Expr} {fs:De->Option (List Dt)}
theorem jM {n:Nat} {f:De->Option Dt} (h:∀ δ ds,fs δ=some ds->ds.length=n):∀ δ ds,aa f fs δ=some ds->ds.length=n+1:=fun δ ds hf=>by unfold aa at hf;obtain ⟨x,hx,hf⟩:=bS hf;obtain ⟨y,hy,hf⟩:=bS hf;cases hf;simp [h δ y hy]
theorem am:DA X [] ai:=⟨fun _ _ h=>by cases h;rfl,PA.mono eC fun σ H Q ⟨Φ,δ,F,ds,hK,en,hf,k⟩=>by cases hf;exact k [] H F (Step.refl en.fh) (by simp only [Reps])⟩
theorem aH:DAB X [] ai:=⟨fun _ _ h=>by cases h;rfl,PA.mono eC fun σ H Q ⟨Φ,δ,F,ds,hK,en,hf,k⟩=>by cases hf;exact k [] H F (Step.refl en.fh) rfl⟩
theorem ab (h:DL X e g) (h':DA X es fs) (hs:qa6 (e::es) X.env=(false,eval e X.env)::qa6 es X.env:=by rfl):DA X (e::es) (aa g fs):=⟨jM h'.len,PA.mono (c6 h h'.pa hs) fun σ H Q ⟨Φ,δ,F,ds,hK,en,hf,k⟩=>by unfold aa at hf;obtain ⟨x,hx,hf⟩:=bS hf;obtain ⟨y,hy,hf⟩:=bS hf;cases hf;exact ⟨Φ,δ,F,x,hK,en,hx,fun v H1 F1 st r=>⟨Φ,δ,F1,y,hK,en.step st,hy,fun vs H2 F2 s2 r2=>k (v::vs) H2 F2 (st.trans s2) (by simp only [Reps];exact ⟨v,vs,rfl,r.same s2.ff,r2⟩)⟩⟩⟩
theorem az (h:DB X e g) (h':DAB X es fs) (hs:qa6 (e::es) X.env=(false,eval e X.env)::qa6 es X.env:=by rfl):DAB X (e::es) (aa g fs):=⟨jM h'.len,PA.mono (c6 h h'.pa hs) fun σ H Q ⟨Φ,δ,F,ds,hK,en,hf,k⟩=>by unfold aa at hf;obtain ⟨x,hx,hf⟩:=bS hf;obtain ⟨y,hy,hf⟩:=bS hf;cases hf;exact ⟨Φ,δ,F,x,hK,en,hx,fun v H1 F1 st r=>⟨Φ,δ,F1,y,hK,en.step st,hy,fun vs H2 F2 s2 r2=>k (v::vs) H2 F2 (st.trans s2) ⟨v,vs,rfl,r.step s2.ff s2.hh,r2⟩⟩⟩⟩
noncomputable def aZ (f:De->Option (List Dt)):De->Option T:=fun δ=>(f δ).bind fun ds=>if ds.length<=qa7 then some (.leaf (.tup ds)) else none
noncomputable def bU (f:De->Option (List Dt)):De->Option T:=fun δ=>(f δ).bind fun ds=>if ds.length<=qa7 then some (.lst ds) else none
theorem aO {x1} (h:DA X es fs):DO X (.Tuple es x1 pos) (aZ fs):=PE.mono (xG h.pa) fun σ H Q ⟨Φ,δ,F,t,hK,en,hf,k⟩=>by
 unfold aZ at hf;obtain ⟨ds,hd,hf⟩:=bS hf;split at hf
 . rename_i hl;cases hf;refine ⟨Φ,δ,F,ds,hK,en,hd,fun vs H1 F1 st r=>⟨by rw [r.length];exact hl,fun p hp=>?_⟩⟩;refine (k.step st).leaf _ _ _ (Step.new st.fh hp) ?_;simp only [Rep];exact ⟨p,vs,rfl,SqT.of aT,r.same (Same.upd (st.fh.free hp))⟩
 . cases hf
theorem e7 {K:PySem.W.Frag} {F H:Hp} {ds:List Dt} {vs:List V} {p:Addr} {Q:VK} (k:KO K F H (.lst ds) Q) (fh:Same F H) (r:Reps K F ds vs) (hp:H p=none):Q (.ref p) (upd H p (.lst vs)):=by
 refine k _ _ F (fun b=>b=p) (Step.made fh hp) ⟨p,vs,rfl,rfl,aT,r⟩ fun b z=>?_
 subst z;exact ⟨fh.free hp,hp,_,aT⟩
theorem bD (h:DA X es fs):DO X (.List es pos) (bU fs):=PE.mono (xH h.pa) fun σ H Q ⟨Φ,δ,F,t,hK,en,hf,k⟩=>by
 unfold bU at hf;obtain ⟨ds,hd,hf⟩:=bS hf;split at hf
 . rename_i hl;cases hf;exact ⟨Φ,δ,F,ds,hK,en,hd,fun vs H1 F1 st r=>⟨by rw [r.length];exact hl,fun p hp=>e7 (k.step st) st.fh r hp⟩⟩
 . cases hf
noncomputable def CRD (K:PySem.W.Frag) (r:List V->Hp->VK->Prop) (g:List Dt->Option T):Prop:=∀ F H ds vs (Q:VK) t,Same F H->lQ K F H ds vs->g ds=some t->KO K F H t Q->r vs H Q
noncomputable def aj (g:List Dt->Option T) (f:De->Option (List Dt)):De->Option T:=fun δ=>(f δ).bind g
theorem nu {K:PySem.W.Frag} {r:List V->Hp->VK->Prop} {g:List Dt->Option T} (hr:CRD K r g) {σ:St} {H:Hp} {Q:VK} (h:tO K (aj g fs) σ H Q):tCB r (tAB K fs) σ H Q:=by obtain ⟨Φ,δ,F,t,hK,en,hf,k⟩:=h;unfold aj at hf;obtain ⟨ds,hd,hf⟩:=bS hf;exact ⟨Φ,δ,F,ds,hK,en,hd,fun vs H1 F1 st r=>hr F1 H1 ds vs Q t st.fh r hf (k.step st)⟩
variable {x:Str} {p:Pos} {id Ty:String} {sc:Scope} {r:List V->Hp->VK->Prop} {gg:List Dt->Option T}
theorem aQ (h:aF sc x=true) (hc:da X (.builtin id) r) (hr:CRD X.K r gg) (hm:X.mg x=none) (hv:qd7 x=some (.builtin id)) (ha:DAB X (e::es) fs) (e1:bZ X sc:=by rfl)
  (he:qa6 (e::es) X.env=(false,eval e X.env)::qa6 es X.env:=by rfl) (hpl:(qk1 pos (qa6 es X.env)).any (·.1)=false:=by rfl):DO X (.Call (.Name x p) (e::es) [] pos) (aj gg fs):=
 PE.mono (gF h hc hm hv ha.pa e1 he hpl) fun σ H Q q=>nu hr q
theorem cx (h:aF sc x=true) (hc:da X (.type Ty) r) (hr:CRD X.K r gg) (hm:X.mg x=none) (hv:qd7 x=some (.type Ty)) (ha:DAB X (e::es) fs) (e1:bZ X sc:=by rfl)
  (he:qa6 (e::es) X.env=(false,eval e X.env)::qa6 es X.env:=by rfl) (hpl:(qk1 pos (qa6 es X.env)).any (·.1)=false:=by rfl):DO X (.Call (.Name x p) (e::es) [] pos) (aj gg fs):=
 PE.mono (fL h hc hm hv ha.pa e1 he hpl) fun σ H Q q=>nu hr q
noncomputable def spD (K:PySem.W.Frag) (n:Nat) (f:List Dt->Option T):Sp:=fun vs H Q _=>∃ F ds t,Same F H/\ds.length=n/\Reps K F ds vs/\f ds=some t/\KO K F H t Q
theorem aA {k n:Nat} {ps:List Str} {ff:List Dt->Option T} (h:aF sc x=true) (F:OkF X.prog X.w X.K X.mg X.base x k ps (spD X.K n ff)) (hr:Room k X.A) (ha:DA X (e::es) fs) (hn:(e::es).length=n:=by rfl) (e1:bZ X sc:=by rfl)
  (he:qa6 (e::es) X.env=(false,eval e X.env)::qa6 es X.env:=by rfl) (hpl:(qk1 pos (qa6 es X.env)).any (·.1)=false:=by rfl):DO X (.Call (.Name x p) (e::es) [] pos) (aj ff fs):=
 PE.mono (qh h F hr ha.pa e1 he hpl) fun σ H Q ⟨Φ,δ,Fz,t,hK,en,hf,k⟩=>by unfold aj at hf;obtain ⟨ds,hd,hf⟩:=bS hf;refine ⟨Φ,δ,Fz,ds,hK,en,hd,fun vs H1 F1 st r=>?_⟩;show spD X.K n ff (vs++[]) H1 Q E0;rw [qg0];exact ⟨F1,ds,t,st.fh,(ha.len δ ds hd).trans hn,r,hf,k.step st⟩
end
inductive Out where
 | nx (δ:De) | rt (t:T) | bk (δ:De) | ct (δ:De) | re (t:T) (δ:De)
structure Rt (Φ:Fm) (t:T) (v:V) (F H:Hp):Prop where
 fh:Same F H
 prot:∀ b o,Φ.H0 b=some o->¬ Φ.S0 b->H b=some o
 old:Same Φ.F0 F
 nw:∀ b o,F b=some o->Φ.F0 b=some o∨Φ.B b
 own:∃ S,Own Φ.K F H t v S/\∀ b,S b->F b=none/\(∃ o,H b=some o)/\Φ.B b
structure Re (Φ:Fm) (t:T) (v:V) (δ:De) (σ:St) (F H:Hp):Prop where
 en:En Φ δ σ F H
 own:∃ S R,Sep Φ.K F H Φ.B (jK δ σ) S/\Own Φ.K F H t v R/\∀ b,R b->F b=none/\(∃ o,H b=some o)/\Φ.B b/\∀ i,¬ S i b
noncomputable def Post (Φ:Fm) (D:Ends):Out->Prop
 | .nx δ=>∀ σ F H,En Φ δ σ F H->D.nx σ H
 | .rt t=>∀ v F H,Rt Φ t v F H->D.rt v H
 | .bk δ=>∀ σ F H,En Φ δ σ F H->D.bk σ H
 | .ct δ=>∀ σ F H,En Φ δ σ F H->D.ct σ H
 | .re t δ=>∀ v σ F H,Re Φ t v δ σ F H->D.rt v H
noncomputable def tS (K:PySem.W.Frag) (g:De->Option Out):TS:=fun D σ H=>∃ Φ δ F o,Fm.K Φ=K/\En Φ δ σ F H/\g δ=some o/\Post Φ D o
noncomputable def DS1 (X:Cx) (st:Stmt) (g:De->Option Out):Prop:=PS X st (tS X.K g)
noncomputable def DS (X:Cx) (ss:List Stmt) (g:De->Option Out):Prop:=PSs X ss (tS X.K g)
section
variable {X:Cx} {st:Stmt} {rest a b body:List Stmt} {g g1 g2:De->Option Out} {e c tg iter:Expr} {pos:Pos} {f:De->Option T} {fd:De->Option Dt} {tc:De->Option Bool} {i:Nat}
noncomputable def c7:De->Option Out:=fun δ=>some (.nx δ)
noncomputable def aD (g1 g2:De->Option Out):De->Option Out:=fun δ=>(g1 δ).bind fun o=>match o with
 | .nx δ'=>g2 δ'
 | o=>some o
theorem bL:DS X [] c7:=PSs.mono ox fun D σ H ⟨Φ,δ,F,o,hK,en,hg,k⟩=>by cases hg;exact k σ F H en
theorem aG (h:DS1 X st g):DS X [st] g:=oy h
theorem ap (h1:DS1 X st g1) (h2:DS X rest g2):DS X (st::rest) (aD g1 g2):=PSs.mono (lD h1 h2) fun D σ H ⟨Φ,δ,F,o,hK,en,hg,k⟩=>by
 unfold aD at hg;obtain ⟨o1,h1,hg⟩:=bS hg;refine ⟨Φ,δ,F,o1,hK,en,h1,?_⟩;cases o1 with
 | nx δ'=>exact fun σ' F' H' en'=>⟨Φ,δ',F',o,hK,en',hg,k⟩
 | rt t=>cases hg;exact k
 | bk δ'=>cases hg;exact k
 | ct δ'=>cases hg;exact k
 | re t δ'=>cases hg;exact k
noncomputable def bV (f:De->Option T):De->Option Out:=fun δ=>(f δ).map .rt
theorem En.rt {Φ:Fm} {δ:De} {σ:St} {F H F' H':Hp} {t:T} {v:V} {S:Addr->Prop} (en:En Φ δ σ F H) (st:Step F H F' H') (o:Own Φ.K F' H' t v S) (hs:∀ b,S b->F' b=none/\H b=none/\∃ o,H' b=some o):Rt Φ t v F' H':=by have e':=en.step st;exact ⟨e'.fh,e'.prot,e'.old,e'.nw,S,o,fun b z=>⟨(hs b z).1,(hs b z).2.2,en.fresh (hs b z).2.1⟩⟩
theorem aV (h:DO X e f):DS1 X (.Return (some e) pos) (bV f):=PS.mono (m7 h) fun D σ H ⟨Φ,δ,F,o,hK,en,hg,k⟩=>by unfold bV at hg;obtain ⟨t,ht,hg⟩:=mS hg;cases hg;exact ⟨Φ,δ,F,t,hK,en,ht,fun v H' F' S st o hs=>k v F' H' (en.rt st (hK▸o) hs)⟩
noncomputable def iL (i:Nat):De->Option Out:=fun δ=>match δ[i]? with
 | some (some t)=>some (.rt t)
 | _=>none
theorem f9 (h:PE X e (jn i)):DS1 X (.Return (some e) pos) (iL i):=PS.mono (m7 h) fun D σ H ⟨Φ,δ,F,o,hK,en,hg,k⟩=>by
 unfold iL at hg;split at hg
 . rename_i t q;cases hg;obtain ⟨v,hv⟩:=en.has i t q;obtain ⟨S,s⟩:=en.sep;exact ⟨v,hv,k v F H ⟨en.fh,en.prot,en.old,en.nw,S i,s.own i t v (cU q hv),fun b z=>s.out i b z⟩⟩
 . cases hg
noncomputable def sIf (c:De->Option Bool) (g1 g2:De->Option Out):De->Option Out:=fun δ=>(c δ).bind fun b=>if b then g1 δ else g2 δ
theorem cb (hc:DT X c tc) (h1:DS X a g1) (h2:DS X b g2):DS1 X (.If c a b pos) (sIf tc g1 g2):=PS.mono (we hc h1 h2) fun D σ H ⟨Φ,δ,F,o,hK,en,hg,k⟩=>by
 unfold sIf at hg;obtain ⟨x,hx,hg⟩:=bS hg;refine ⟨Φ,δ,F,x,hK,en,hx,fun H' F' st=>?_⟩;split at hg
 . rename_i q;rw [if_pos q];exact ⟨Φ,δ,F',o,hK,en.step st,hg,k⟩
 . rename_i q;rw [if_neg q];exact ⟨Φ,δ,F',o,hK,en.step st,hg,k⟩
noncomputable def aM (i:Nat) (f:De->Option T):De->Option Out:=fun δ=>(f δ).map fun t=>.nx (δ.set i (some t))
theorem aI {sc:Scope} {N:List Str} {x:Str} {pos':Pos} (h:dE sc N i x=true) (hl:iH sc x=true) (nd:N.Nodup) (he:DO X e f) (e1:bZ X sc:=by rfl) (e2:X.N=N:=by rfl) (hf:X.fn x=true∨X.env.scope.names.lookup x=some .local:=by exact .inl rfl)
  (hs:qm6 e (some (.Name x pos')) pos.line X.env=pure false:=by rfl):DS1 X (.Assign [.Name x pos'] e pos) (aM i f):=PS.mono (oQ h hl nd he e1 e2 hf hs) fun D σ H ⟨Φ,δ,F,o,hK,en,hg,k⟩=>by
 unfold aM at hg;obtain ⟨t,ht,hg⟩:=mS hg;cases hg;exact ⟨Φ,δ,F,t,hK,en,ht,fun v H' F' S st o hs=>k _ F' H' (en.put st (hK▸o) hs i)⟩
noncomputable def gD (K:PySem.W.Frag) (ts:List Nat) (st:Dt->De->Option De):TG:=fun v σ H Q=>∃ Φ δ F d δ',Fm.K Φ=K/\En Φ δ σ F H/\Rep K F d v/\st d δ=some δ'/\∀ σ',σ'.length=σ.length->(∀ j,j∉ts->σ'[j]?=σ[j]?)->En Φ δ' σ' F H->Q σ' H
noncomputable def gsD (K:PySem.W.Frag) (ts:List Nat) (st:List Dt->De->Option De):TGs:=fun vs σ H Q=>∃ Φ δ F ds δ',Fm.K Φ=K/\En Φ δ σ F H/\Reps K F ds vs/\st ds δ=some δ'/\∀ σ',σ'.length=σ.length->(∀ j,j∉ts->σ'[j]?=σ[j]?)->En Φ δ' σ' F H->Q σ' H
noncomputable def DG (X:Cx) (tg:Expr) (ts:List Nat) (bb:Dt->De->Option De):Prop:=PG X tg (gD X.K ts bb)
noncomputable def DGs (X:Cx) (tg:List Expr) (ts:List Nat) (bb:List Dt->De->Option De):Prop:=PGs X tg (gsD X.K ts bb)
noncomputable def ao (i:Nat):Dt->De->Option De:=fun d δ=>some (δ.set i (some (.leaf d)))
theorem En.name {Φ:Fm} {δ:De} {σ:St} {F H:Hp} (en:En Φ δ σ F H) {d:Dt} {v:V} (r:Rep Φ.K F d v) (i:Nat):En Φ (δ.set i (some (.leaf d))) (σ.set i (some v)) F H:=en.put (Step.refl en.fh) (S':=fun _=>False) (t:=.leaf d) r (fun _ z=>z.elim) i
theorem aE (h:PG X tg (g8 i)):DG X tg [i] (ao i):=PG.mono h fun v σ H Q ⟨Φ,δ,F,d,δ',hK,en,r,hd,k⟩=>by cases hd;refine k _ (by simp) (fun j hj=>?_) (en.name (hK▸r) i);rw [List.getElem?_set_ne fun z=>hj (by simp [z])]
noncomputable def de:List Dt->De->Option De:=fun ds δ=>if ds.isEmpty then some δ else none
noncomputable def aW (b:Dt->De->Option De) (bs:List Dt->De->Option De):List Dt->De->Option De:=fun ds δ=>match ds with
 | d::r=>(b d δ).bind fun δ1=>bs r δ1
 | []=>none
noncomputable def dg (n:Nat) (bs:List Dt->De->Option De):Dt->De->Option De:=fun d δ=>match d with
 | .tup ds=>if ds.length=n then bs ds δ else none
 | _=>none
theorem e8:DGs X [] [] de:=fun pins s σ H vs us Q I r q=>uv pins s σ H vs us Q I r (by
 obtain ⟨Φ,δ,F,ds,δ',hK,en,rs,hd,k⟩:=q;unfold de at hd;cases ds with
 | nil=>cases hd;simp only [Reps] at rs;exact ⟨rs,k σ rfl (fun _ _=>rfl) en⟩
 | cons d l=>cases hd)
theorem bW {es:List Expr} {ts ts':List Nat} {bb:Dt->De->Option De} {bs:List Dt->De->Option De} (h1:DG X e ts bb) (h2:DGs X es ts' bs)
  (hs:(ql4 (e::es) X.env).map (·.2)=zb5 e X.env::(ql4 es X.env).map (·.2):=by rfl):DGs X (e::es) (ts++ts') (aW bb bs):=fun pins s σ H vs us Q I r q=>qV h1 h2 hs pins s σ H vs us Q I r (by
 obtain ⟨Φ,δ,F,ds,δ',hK,en,rs,hd,k⟩:=q;unfold aW at hd;cases ds with
 | nil=>cases hd
 | cons d l =>simp only [Reps] at rs;obtain ⟨v,ws,e,r1,r2⟩:=rs;dsimp only at hd;obtain ⟨δ1,hb,hd⟩:=bS hd;refine ⟨v,ws,e,Φ,δ,F,d,δ1,hK,en,r1,hb,fun σ1 l1 k1 en1=>⟨Φ,δ1,F,l,δ',hK,en1,r2,hd,fun σ2 l2 k2 en2=>k σ2 (l2.trans l1) (fun j hj=>?_) en2⟩⟩;rw [k2 j fun z=>hj (qc7 _ z),k1 j fun z=>hj (qt4 _ z)])
theorem gI {es:List Expr} {k:Nat} {n:Nat} {ts:List Nat} {bs:List Dt->De->Option De} (hc:X.calm=true) (h:DGs X es ts bs)
  (hn:(ql4 es X.env).length=n:=by rfl) (hst:(ql4 es X.env).findIdx? (·.1)=none:=by rfl):DG X (.Tuple es k pos) ts (dg n bs):=PG.mono (xu hc h hn hst) fun v σ H Q ⟨Φ,δ,F,d,δ',hK,en,r,hd,q⟩=>by
 unfold dg at hd;split at hd
 . rename_i ds;split at hd
   . rename_i hl;simp only [Rep] at r;obtain ⟨a,vs,e,h1,h2⟩:=r;exact ⟨a,vs,e,en.fh.tup h1,by rw [h2.length];exact hl,Φ,δ,F,ds,δ',hK,en,h2,hd,q⟩
   . cases hd
 . cases hd
noncomputable def lR (fd:De->Option Dt) (bb:Dt->De->Option De):De->Option Out:=fun δ=>(fd δ).bind fun d=>(bb d δ).map .nx
theorem rP {ts:List Nat} {bb:Dt->De->Option De} (he:DL X e fd) (hg:DG X tg ts bb) (hs:zf2 [tg] e pos.line X.env=pure false:=by rfl) (hw:zf3 [tg] e X.env=pure none:=by rfl)
  (h1:(ql4 [tg] X.env).map (·.2)=[zb5 tg X.env]:=by rfl):DS1 X (.Assign [tg] e pos) (lR fd bb):=PS.mono (qW he hg hs hw h1) fun D σ H ⟨Φ,δ,F,o,hK,en,hg,k⟩=>by
 unfold lR at hg;obtain ⟨d,hd,hg⟩:=bS hg;obtain ⟨δ',hb,hg⟩:=mS hg;cases hg;exact ⟨Φ,δ,F,d,hK,en,hd,fun v H' F' st r=>⟨Φ,δ,F',d,δ',hK,en.step st,r,hb,fun σ' _ _ en'=>k σ' F' H' en'⟩⟩
noncomputable def oY (K:PySem.W.Frag) (F':Hp) (J:It) (ds:List Dt) (ok:Hp->Prop):Prop:=∀ (i:Nat) (H F:Hp),ok H->Same F H->Same F' F->(i<ds.length->J.go i H)/\(i=ds.length->J.stop i H)/\∀ x H',i<ds.length->J.yld i H x H'->∃ d F2,ds[i]?=some d/\Step F H F2 H'/\Rep K F2 d x
theorem Plain.walk {K:PySem.W.Frag} {F':Hp} {J:It} {xs:List V} {ds:List Dt} {ok:Hp->Prop} (pl:Plain J xs ok) (r:Reps K F' ds xs):oY K F' J ds ok:=fun i H F hok fh ff=>by
 obtain ⟨p1,p2,p3⟩:=pl i H hok;have hl:=r.length;refine ⟨fun h=>p1 (by lia),fun h=>p2 (by lia),fun x H' hi hy=>?_⟩;obtain ⟨rfl,hx⟩:=p3 x H' (by lia) hy;have hd:ds[i]?=some ds[i]:=by simp [hi]
 obtain ⟨v,e,rv⟩:=r.get hd;rw [hx] at e;cases e;exact ⟨_,F,hd,Step.refl fh,rv.same ff⟩
noncomputable def tIF (K:PySem.W.Frag) (f:De->Option (List Dt)):TI:=fun σ H R=>∃ Φ δ F ds,Fm.K Φ=K/\En Φ δ σ F H/\f δ=some ds/\∀ J ok H' F',Step F H F' H'->oY K F' J ds ok->(∀ H2,Same F' H2->ok H2)->R J H'
noncomputable def tIB (K:PySem.W.Frag) (f:De->Option (List Dt)):TI:=fun σ H R=>∃ Φ δ F ds,Fm.K Φ=K/\En Φ δ σ F H/\f δ=some ds/\∀ J ok H' F',Step F H F' H'->oY K F' J ds ok->(∀ H2,Same H' H2->ok H2)->R J H'
noncomputable def DIF (X:Cx) (tg iter:Expr) (f:De->Option (List Dt)):Prop:=PI X tg iter (tIF X.K f)
noncomputable def DIB (X:Cx) (tg iter:Expr) (f:De->Option (List Dt)):Prop:=PI X tg iter (tIB X.K f)
theorem DIF.toB {fi:De->Option (List Dt)} (h:DIF X tg iter fi):DIB X tg iter fi:=PI.mono h fun σ H R ⟨Φ,δ,F,ds,hK,en,hf,k⟩=>⟨Φ,δ,F,ds,hK,en,hf,fun J ok H' F' st wd ho=>k J ok H' F' st wd fun H2 s=>ho H2 (st.fh.trans s)⟩
end
section
variable {X:Cx} {st:Stmt} {rest a b body:List Stmt} {g g1 g2:De->Option Out} {e c tg iter l:Expr} {pos:Pos} {f:De->Option T} {fd:De->Option Dt} {tc:De->Option Bool} {i:Nat} {fi:De->Option (List Dt)}
noncomputable def c8 (bb:Dt->De->Option De) (g:De->Option Out):List Dt->De->Option Out
 | [],δ=>some (.nx δ)
 | d::r,δ=>(bb d δ).bind fun δ1=>(g δ1).bind fun o=>match o with
  | .nx δ2=>c8 bb g r δ2
  | .ct δ2=>c8 bb g r δ2
  | .bk δ2=>some (.nx δ2)
  | .rt t=>some (.rt t)
  | .re t δ2=>some (.re t δ2)
noncomputable def dJ (fi:De->Option (List Dt)) (bb:Dt->De->Option De) (g:De->Option Out):De->Option Out:=fun δ=>(fi δ).bind fun ds=>c8 bb g ds δ
theorem Reps.same_get {K:PySem.W.Frag} {F:Hp} {ds:List Dt} {xs:List V} (r:Reps K F ds xs) {i:Nat} {x:V} (h:xs[i]?=some x):∃ d,ds[i]?=some d/\Rep K F d x:=by
 have hl:=r.length;have hi:i<xs.length:=(gX h).1;have hd:ds[i]?=some ds[i]:=by simp [show i<ds.length by lia]
 obtain ⟨v,e,rv⟩:=r.get hd;rw [h] at e;cases e;exact ⟨_,hd,rv⟩
theorem iq {α:Type} {l:List α} {i:Nat} {d:α} (h:l[i]?=some d):l.drop i=d::l.drop (i+1):=by have hi:i<l.length:=(gX h).1;rw [qw7 hi];congr 1;have:=(gX h).2;exact this
noncomputable def Fm.at (Φ:Fm) (F1:Hp):Fm:={Φ with F0:=F1}
theorem En.back {Φ:Fm} {δ δ':De} {σ σ':St} {F1 H1 F H:Hp} (en:En Φ δ σ F1 H1) (e:En (Φ.at F1) δ' σ' F H):En Φ δ' σ' F H:=⟨e.fh,e.prot,en.old.trans e.old,fun b o h=>(e.nw b o h).elim (fun z=>en.nw b o z) .inr,e.len,e.has,e.sep⟩
theorem Rt.back {Φ:Fm} {δ:De} {σ:St} {F1 H1 F H:Hp} {t:T} {v:V} (en:En Φ δ σ F1 H1) (e:Rt (Φ.at F1) t v F H):Rt Φ t v F H:=⟨e.fh,e.prot,en.old.trans e.old,fun b o h=>(e.nw b o h).elim (fun z=>en.nw b o z) .inr,e.own⟩
theorem Re.back {Φ:Fm} {δ δ':De} {σ σ':St} {F1 H1 F H:Hp} {t:T} {v:V} (en:En Φ δ σ F1 H1) (e:Re (Φ.at F1) t v δ' σ' F H):Re Φ t v δ' σ' F H:=⟨en.back e.en,e.own⟩
theorem En.at {Φ:Fm} {δ:De} {σ:St} {F1 H1:Hp} (en:En Φ δ σ F1 H1):En (Φ.at F1) δ σ F1 H1:=⟨en.fh,en.prot,Same.refl _,fun b o h=>.inl h,en.len,en.has,en.sep⟩
theorem Post.at {Φ:Fm} {D:Ends} {o:Out} {δ:De} {σ:St} {F1 H1:Hp} (en:En Φ δ σ F1 H1) (k:Post Φ D o):Post (Φ.at F1) D o:=by
 cases o with
 | nx δ'=>exact fun σ' F H e=>k σ' F H (en.back e)
 | bk δ'=>exact fun σ' F H e=>k σ' F H (en.back e)
 | ct δ'=>exact fun σ' F H e=>k σ' F H (en.back e)
 | rt t=>exact fun v F H e=>k v F H (Rt.back en e)
 | re t δ'=>exact fun v σ' F H e=>k v σ' F H (Re.back en e)
theorem lS {n:Nat} {g:TG} {tb:TS} {D:Ends} {J:It} {σ:St} {H1:Hp} (Pv:Nat->St->Hp->Prop) (h0:Pv 0 σ H1) (hgo:∀ i σ H,Pv i σ H->(i<n->J.go i H)/\(i=n->J.stop i H))
  (hs:∀ i x σ H H',i<n->Pv i σ H->J.yld i H x H'->g x σ H' fun σ2 H2=>tb {D with nx:=Pv (i+1),ct:=Pv (i+1),bk:=D.nx} σ2 H2) (hd:∀ σ H,Pv n σ H->D.nx σ H):ForW g tb D J σ H1:=by
 refine ⟨fun i m σ H=>m=n-i/\i<=n/\Pv i σ H,⟨n,by simp,qi8 _,h0⟩,?_⟩;rintro i m σ H ⟨rfl,hi,p⟩;obtain ⟨p1,p2⟩:=hgo i σ H p;by_cases hlt:i<n
 . exact .inr ⟨p1 hlt,Pv (i+1),fun σ' H' p'=>⟨n-(i+1),by lia,rfl,hlt,p'⟩,fun x H' y=>hs i x σ H H' hlt p y⟩
 . have e:i=n:=by lia
   subst e;exact .inl ⟨p2 rfl,hd σ H p⟩
theorem dy {ts:List Nat} {bb:Dt->De->Option De} (hp:zb6 (model X.prog X.w) X.A X.env X.xe) (hc:X.calm=true) (hi:DIF X tg iter fi) (hg:DG X tg ts bb) (hb:DS X body g)
  (hs:∀ x,qf7 iter X.env x=pure x:=by intro _;rfl):DS1 X (.For tg iter body [] pos) (dJ fi bb g):=PS.mono (na hp hc hi hg hb hs) fun D σ H ⟨Φ,δ,F,o,hK,en,hg,k⟩=>by
 unfold dJ at hg;obtain ⟨ds,hd,hg⟩:=bS hg;rw [kM];refine ⟨Φ,δ,F,ds,hK,en,hd,fun J ok H1 F1 st1 wd ho=>?_⟩;have en1:=en.step st1;have k1:=Post.at en1 k;refine lS (n:=ds.length) (fun i σ' H'=>∃ δ' F',En (Φ.at F1) δ' σ' F' H'/\c8 bb g (ds.drop i) δ'=some o) ⟨δ,F1,en1.at,by simpa using hg⟩ (fun i σ' H' ⟨δ',F',en',_⟩=>?_) ?_ ?_
 . obtain ⟨p1,p2,_⟩:=wd i H' F' (ho H' (en'.old.trans en'.fh)) en'.fh en'.old;exact ⟨p1,p2⟩
 . rintro i x σ' H' H'' hi ⟨δ',F',en',hgo⟩ hy;obtain ⟨_,_,p3⟩:=wd i H' F' (ho H' (en'.old.trans en'.fh)) en'.fh en'.old;obtain ⟨d,F2,hd',st2,rd⟩:=p3 x H'' hi hy;rw [iq hd'] at hgo;unfold c8 at hgo;obtain ⟨δ1,h1,hgo⟩:=bS hgo;obtain ⟨o1,h2,hgo⟩:=bS hgo;refine ⟨Φ.at F1,δ',F2,d,δ1,hK,en'.step st2,rd,h1,fun σ1 _ _ en1=>⟨Φ.at F1,δ1,F2,o1,hK,en1,h2,?_⟩⟩;cases o1 with
   | nx δ2=>exact fun σ2 F2 H2 en2=>⟨δ2,F2,en2,hgo⟩
   | ct δ2=>exact fun σ2 F2 H2 en2=>⟨δ2,F2,en2,hgo⟩
   | bk δ2=>cases hgo;exact fun σ2 F2 H2 en2=>k1 σ2 F2 H2 en2
   | rt t=>cases hgo;exact fun v F2 H2 q=>k1 v F2 H2 q
   | re t δ2=>cases hgo;exact fun v σ2 F2 H2 q=>k1 v σ2 F2 H2 q
 . rintro σ' H' ⟨δ',F',en',hgo⟩;rw [qs9] at hgo;cases hgo;exact k1 σ' F' H' en'
noncomputable def zZ (x:Str):List Dt:=x.cps.toList.map fun c=>.str ⟨#[c]⟩
noncomputable def eL (lo:Int) (n:Nat):List Dt:=(qb8 n).map fun (i:Nat)=>.int (lo+i)
theorem Reps.map {K:PySem.W.Frag} {F:Hp} {α:Type} {f:α->Dt} {g:α->V} (h:∀ x,Rep K F (f x) (g x)):∀ l:List α,Reps K F (l.map f) (l.map g)
 | []=>by simp [Reps]
 | x::l=>by simp only [qa5,Reps];exact ⟨_,_,rfl,h x,Reps.map h l⟩
noncomputable def itD:Dt->Option (List Dt)
 | .lst l=>some l
 | .tup l=>some l
 | .str x=>some (zZ x)
 | _=>none
noncomputable def fIt (f:De->Option Dt):De->Option (List Dt):=fun δ=>(f δ).bind itD
theorem fM (h:DL X l fd):DIF X tg l (fIt fd):=PI.mono (PI.or (ky h) (PI.or (qY h) (rC h))) fun σ H R ⟨Φ,δ,F,ds,hK,en,hf,k⟩=>by
 unfold fIt at hf;obtain ⟨d,hd,hf⟩:=bS hf;cases d with
 | lst l =>cases hf;refine .inl ⟨Φ,δ,F,_,hK,en,hd,fun v H' F' st r=>?_⟩;simp only [Rep] at r;obtain ⟨a,vs,rfl,h1,h2⟩:=r;exact ⟨a,rfl,⟨vs,st.fh.seq h1⟩,k _ _ H' F' st (plain_list.walk h2) fun H2 s=>s.seq h1⟩
 | tup l =>cases hf;refine .inr (.inl ⟨Φ,δ,F,_,hK,en,hd,fun v H' F' st r=>?_⟩);simp only [Rep] at r;obtain ⟨a,vs,rfl,h1,h2⟩:=r;exact ⟨a,rfl,⟨vs,st.fh.tup h1⟩,k _ _ H' F' st (plain_tup.walk h2) fun H2 s=>s.tup h1⟩
 | str x =>cases hf;refine .inr (.inr ⟨Φ,δ,F,_,hK,en,hd,fun v H' F' st r=>?_⟩);simp only [Rep] at r;exact ⟨x,r,k _ _ H' F' st (plain_str.walk (Reps.map (fun c=>kP) _)) fun _ _=>trivial⟩
 | _=>cases hf
theorem bp (h:DB X l fd):DIB X tg l (fIt fd):=PI.mono (PI.or (ky h) (PI.or (qY h) (rC h))) fun σ H R ⟨Φ,δ,F,ds,hK,en,hf,k⟩=>by
 unfold fIt at hf;obtain ⟨d,hd,hf⟩:=bS hf;cases d with
 | lst l =>cases hf;refine .inl ⟨Φ,δ,F,_,hK,en,hd,fun v H' F' st r=>?_⟩;obtain ⟨a,vs,rfl,h1,h2⟩:=r;exact ⟨a,rfl,⟨vs,h1⟩,k _ _ H' F' st (plain_list.walk h2) fun H2 s=>s.seq h1⟩
 | tup l =>cases hf;refine .inr (.inl ⟨Φ,δ,F,_,hK,en,hd,fun v H' F' st r=>?_⟩);obtain ⟨a,vs,rfl,h1,h2⟩:=r;exact ⟨a,rfl,⟨vs,st.fh.tup h1⟩,k _ _ H' F' st (plain_tup.walk h2) fun H2 s=>s.tup (st.fh.tup h1)⟩
 | str x =>cases hf;refine .inr (.inr ⟨Φ,δ,F,_,hK,en,hd,fun v H' F' st r=>?_⟩);exact ⟨x,r,k _ _ H' F' st (plain_str.walk (Reps.map (fun c=>kP) _)) fun _ _=>trivial⟩
 | _=>cases hf
noncomputable def jN (j:Int):Bool:=decide (-(2^62)<=j)&&decide (j<2^62)
noncomputable def fN:List Dt->Option (List Dt)
 | [.int j]=>if jN j then some (eL 0 j.toNat) else none
 | _=>none
noncomputable def dh (r:List Dt->Option (List Dt)) (f:De->Option (List Dt)):De->Option (List Dt):=fun δ=>(f δ).bind r
variable {p:Pos} {sc:Scope} {x y:Expr} {fs:De->Option (List Dt)}
theorem jO {j:Int} (h:jN j=true):-(2^62)<=j/\j<2^62:=by unfold jN at h;simpa using h
theorem nv {K:PySem.W.Frag} {F:Hp} (lo:Int) (n:Nat):Reps K F (eL lo n) (iG lo n):=Reps.map (fun _=>f8) _
theorem dM (h:aF sc "range"=true) (hm:X.mg "range"=none) (ha:DA X [x] fs) (e1:bZ X sc:=by rfl) (hs:qa6 [x] X.env=[(false,eval x X.env)]:=by rfl):DIF X tg (.Call (.Name "range" p) [x] [] pos) (dh fN fs):=
 PI.mono (nr h hm ha.pa e1 hs) fun σ H R ⟨Φ,δ,F,ds,hK,en,hf,k⟩=>by
  unfold dh at hf;obtain ⟨as,hd,hf⟩:=bS hf;refine ⟨Φ,δ,F,as,hK,en,hd,fun vs H' F' st r=>?_⟩;unfold fN at hf;split at hf
  . rename_i j;split at hf
    . rename_i hj;cases hf;simp only [Reps,Rep] at r;obtain ⟨v,ws,rfl,rfl,rfl⟩:=r;exact ⟨j,rfl,(jO hj).1,(jO hj).2,k _ _ H' F' st (plain_range.walk (nv _ _)) fun _ _=>trivial⟩
    . cases hf
  . cases hf
end
noncomputable def dC (src:List (Option Nat)) (δ:De):De:=src.map fun o=>o.bind fun j=>(δ[j]?).join
noncomputable def bm (bb:Dt->De->Option De) (ft:De->Option Bool) (fe:De->Option Dt) (δ:De):List Dt->Option (List Dt)
 | []=>some []
 | d::r=>(bb d δ).bind fun δ1=>(ft δ1).bind fun b=>if b then (fe δ1).bind fun y=>(bm bb ft fe δ r).bind fun ys=>some (y::ys) else bm bb ft fe δ r
noncomputable def aU (src:List (Option Nat)) (fi:De->Option (List Dt)) (bb:Dt->De->Option De) (ft:De->Option Bool) (fe:De->Option Dt):De->Option T:=fun δ =>(fi δ).bind fun ds=>(bm bb ft fe (dC src δ) ds).bind fun ys=>if ys.length<=qa7 then some (.lst ys) else none
noncomputable def aR:De->Option Bool:=fun _=>some true
noncomputable def DTs (X:Cx) (ifs:List Expr) (f:De->Option Bool):Prop:=PTs X ifs (tTr X.K f)
theorem bQ {X:Cx}:DTs X [] aR:=fun pins s σ H Q I h=>uM pins s σ H Q I (by obtain ⟨Φ,δ,F,b,hK,en,hf,k⟩:=h;cases hf;exact k H F (Step.refl en.fh))
theorem dn {X:Cx} {c:Expr} {f:De->Option Bool} (h:DT X c f):DTs X [c] f:=uN h
section
variable {X:Cx} {elt tg iter:Expr} {ifs:List Expr} {scope:Scope} {pos:Pos} {M:List Str} {src:List (Option Nat)} {fi:De->Option (List Dt)} {ft:De->Option Bool} {fe:De->Option Dt}
theorem uU (S:CmpScope X.N X.env.scope scope M src) {k l j:Nat} (hk:src[k]?=some (some j)) (hl:src[l]?=some (some j)):k=l:=by
 have nm:∀ k,src[k]?=some (some j)->∃ x,M[k]?=some x/\X.N[j]?=some x:=fun k h=>by
  have hlt:k<M.length:=by rw [S.len];exact (gX h).1
  have hm:M[k]?=some M[k]:=by simp [hlt]
  have hz:(M.zip src)[k]?=some (M[k],some j):=by rw [qw6];exact ⟨hm,h⟩
  exact ⟨_,hm,(S.src _ (qf9 hz) j rfl).1⟩
 obtain ⟨x,h1,h2⟩:=nm k hk;obtain ⟨y,h3,h4⟩:=nm l hl;rw [h2] at h4;cases h4;exact (List.getElem?_inj (gX h1).1 S.nd).mp (h1.trans h3.symm)
theorem rQ {δ:De} {k:Nat} {t:T} (h:(dC src δ)[k]?=some (some t)):∃ j,src[k]?=some (some j)/\δ[j]?=some (some t):=by
 unfold dC at h;rw [qb9] at h;cases e:src[k]? with
 | none=>rw [e] at h;cases h
 | some o =>
  rw [e] at h;cases o with
  | none=>cases h
  | some j =>
   simp only [qf5,qa1,qi0] at h;refine ⟨j,rfl,?_⟩;cases q:δ[j]? with
   | none=>rw [q] at h;cases h
   | some u=>rw [q] at h;simp only [qm7] at h;rw [h]
theorem oZ {σ:St} {k j:Nat} {v:V} (h1:src[k]?=some (some j)) (h2:σ[j]?=some (some v)):(stC src σ)[k]?=some (some v):=by unfold stC;rw [qb9,h1];simp [h2]
theorem ny {σ:St} {k:Nat} {v:V} (h:(stC src σ)[k]?=some (some v)):∃ j,src[k]?=some (some j)/\σ[j]?=some (some v):=by
 unfold stC at h;rw [qb9] at h;cases e:src[k]? with
 | none=>rw [e] at h;cases h
 | some o =>
  rw [e] at h;cases o with
  | none=>cases h
  | some j =>
   simp only [qf5,qa1,qi0] at h;refine ⟨j,rfl,?_⟩;cases q:σ[j]? with
   | none=>rw [q] at h;cases h
   | some u=>rw [q] at h;simp only [qm7] at h;rw [h]
theorem En.comp {Φ:Fm} {δ:De} {σ:St} {F H:Hp} (S:CmpScope X.N X.env.scope scope M src) (en:En Φ δ σ F H):En Φ (dC src δ) (stC src σ) F H:=by
 refine ⟨en.fh,en.prot,en.old,en.nw,by simp [dC,stC],fun k t h=>?_,?_⟩
 . obtain ⟨j,h1,h2⟩:=rQ h;obtain ⟨v,hv⟩:=en.has j t h2;exact ⟨v,oZ h1 hv⟩
 . obtain ⟨Z,s⟩:=en.sep;refine ⟨fun k b=>∃ j,src[k]?=some (some j)/\Z j b,fun k t v h=>?_,fun k b ⟨j,_,z⟩=>s.out j b z,fun k l b ⟨j,h1,z⟩ ⟨j',h2,z'⟩=>?_⟩
   . obtain ⟨h1,h2⟩:=dH h;obtain ⟨j,e1,e2⟩:=rQ h1;obtain ⟨j',e3,e4⟩:=ny h2;rw [e1] at e3;cases e3;exact (s.own j t v (cU e2 e4)).grow fun b z=>⟨j,e1,z⟩
   . have:=s.dis _ _ b z z';subst this;exact uU S h1 h2
theorem jP {n:Nat} {g:TG} {tt:TT} {te:TE} {σ:St} {J:It} {H1:Hp} {Q:VK} {D:Addr} (Pv:Nat->Hp->Prop) (h0:Pv 0 (upd H1 D (.lst []))) (hgo:∀ i H,Pv i H->(i<n->J.go i H)/\(i=n->J.stop i H))
  (hs:∀ i x H H',i<n->Pv i H->J.yld i H x H'->g x (stC src σ) H' fun σ2 H2=>Wk (stC src σ) σ2/\tt σ2 H2 fun b H3=>if b=true then te σ2 H3 fun v H4=>∃ ys,H4 D=some (.lst ys)/\ys.length<qa7/\Pv (i+1) (upd H4 D (.lst (ys++[v]))) else Pv (i+1) H3)
  (hd:∀ H,Pv n H->Q (.ref D) H):wo src g tt te σ J H1 Q D:=by
 refine ⟨fun i m H=>m=n-i/\i<=n/\Pv i H,⟨n,by simp,qi8 _,h0⟩,?_⟩;rintro i m H ⟨rfl,hi,p⟩;obtain ⟨p1,p2⟩:=hgo i H p;by_cases hlt:i<n
 . exact .inr ⟨p1 hlt,Pv (i+1),fun H' p'=>⟨n-(i+1),by lia,rfl,hlt,p'⟩,fun x H' y=>hs i x H H' hlt p y⟩
 . have e:i=n:=by lia
   subst e;exact .inl ⟨p2 rfl,hd H p⟩
theorem kR {ts:List Nat} {bb:Dt->De->Option De} (S:CmpScope X.N X.env.scope scope M src) (hts:(ts.all fun k=>decide (src[k]?=some none))=true):∀ (σ:St) (H:Hp) (Q:VK),tO X.K (aU src fi bb ft fe) σ H Q->jJ src (tIB X.K fi) (gD X.K ts bb) (tTr X.K ft) (tL X.K fe) σ H Q:=fun σ H Q ⟨Φ,δ,F,t,hK,en,hf,k⟩=>by
 unfold aU at hf;obtain ⟨ds,hd,hf⟩:=bS hf;obtain ⟨all,ha,hf⟩:=bS hf;split at hf
 case isFalse=>cases hf
 rename_i hz;cases hf;rw [lO];refine ⟨Φ,δ,F,ds,hK,en,hd,fun J ok H1 F1 st1 wd ho D hD=>?_⟩;have en1:=en.step st1;have k1:=k.step st1
 have wk:∀ {σ2:St},σ2.length=(stC src σ).length->(∀ j,j∉ts->σ2[j]?=(stC src σ)[j]?)->Wk (stC src σ) σ2:=fun {σ2} h1 h2=>by
  refine ⟨h1.symm,fun j v hj=>?_⟩;by_cases hm:j∈ts
  . have:=qm8.mp hts j hm;have hn:src[j]?=some none:=of_decide_eq_true this;obtain ⟨i,e,_⟩:=ny hj;rw [hn] at e;cases e
  . rw [h2 j hm];exact hj
 have ok':∀ {F H:Hp},Step F1 H1 F H->ok H:=fun st=>ho _ st.hh
 refine jP (n:=ds.length) (fun i H=>∃ F ys done rest',Step F1 H1 F H/\H D=some (.lst ys)/\F D=none/\Reps X.K F done ys/\bm bb ft fe (dC src δ) (ds.drop i)=some rest'/\done++rest'=all) ?_ ?_ ?_ ?_
 . exact ⟨F1,[],[],all,Step.made st1.fh hD,aT,st1.fh.free hD,by simp [Reps],by simpa using ha,rfl⟩
 . rintro i H' ⟨F',ys,done,rest',st,_⟩;obtain ⟨p1,p2,_⟩:=wd i H' F' (ok' st) st.fh st.ff;exact ⟨p1,p2⟩
 . rintro i x H0' H' hi ⟨F0',ys,done,rest',st0,hD0,hFD0,rys0,hgo,hall⟩ hy0;obtain ⟨_,_,p3⟩:=wd i H0' F0' (ok' st0) st0.fh st0.ff;obtain ⟨d,F',hd',stw,rd⟩:=p3 x H' hi hy0;have st:=st0.trans stw;have hD':H' D=some (.lst ys):=stw.hh _ _ hD0
   have hFD:F' D=none:=by
    cases q:F' D with
    | none=>rfl
    | some o =>
     rcases stw.nw D o q with z | z
     . rw [hFD0] at z;cases z
     . rw [hD0] at z;cases z
   have rys:=rys0.same stw.ff;rw [iq hd'] at hgo;unfold bm at hgo;obtain ⟨δ1,h1,hgo⟩:=bS hgo;obtain ⟨b,h2,hgo⟩:=bS hgo;refine ⟨Φ,dC src δ,F',d,δ1,hK,(en1.step st).comp S,rd,h1,fun σ2 l2 k2 en2=>⟨wk l2 k2,Φ,δ1,F',b,hK,en2,h2,fun H3 F3 st3=>?_⟩⟩;have hD3:H3 D=some (.lst ys):=st3.hh _ _ hD'
   have hF3:F3 D=none:=by
    cases q:F3 D with
    | none=>rfl
    | some o =>
     rcases st3.nw D o q with z | z
     . rw [hFD] at z;cases z
     . rw [hD'] at z;cases z
   dsimp only;split at hgo
   . rename_i q;rw [if_pos q];obtain ⟨y,hy,hgo⟩:=bS hgo;obtain ⟨zs,hzs,hgo⟩:=bS hgo;cases hgo;refine ⟨Φ,δ1,F3,y,hK,en2.step st3,hy,fun v H4 F4 st4 rv=>?_⟩;have hD4:H4 D=some (.lst ys):=st4.hh _ _ hD3
     have hF4:F4 D=none:=by
      cases q:F4 D with
      | none=>rfl
      | some o =>
       rcases st4.nw D o q with z | z
       . rw [hF3] at z;cases z
       . rw [hD3] at z;cases z
     have s14:=(st.trans st3).trans st4;refine ⟨ys,hD4,?_,F4,ys++[v],done++[y],zs,?_,aT,hF4,(rys.same (st3.ff.trans st4.ff)).append (Reps.one rv),hzs,by rw [<- hall];simp⟩
     . have e1:=rys.length;have e2:all.length=done.length+(zs.length+1):=by rw [<- hall];simp
       lia
     . refine ⟨fun c o e=>?_,s14.ff,fun c o e=>?_,s14.nw⟩
       . rw [aK (bw e hD)];exact s14.hh _ _ e
       . rw [aK (bw e hF4)];exact s14.fh _ _ e
   . rename_i q;rw [if_neg q];exact ⟨F3,ys,done,rest',st.trans st3,hD3,hF3,rys.same st3.ff,hgo,hall⟩
 . rintro H' ⟨F',ys,done,rest',st,hD',hFD,rys,hgo,hall⟩;rw [qs9] at hgo;cases hgo;rw [qg0] at hall;subst hall
   exact k1 (.ref D) H' F' (fun b=>b=D) st ⟨D,ys,rfl,rfl,hD',rys⟩ fun b z=>by subst z;exact ⟨hFD,hD,_,hD'⟩
theorem bq {ts:List Nat} {bb:Dt->De->Option De} (S:CmpScope X.N X.env.scope scope M src) (hc:X.calm=true) (hi:DIB X tg iter fi) (hg:M.Nodup->∀ C s H ex,DG (cxC X M scope C s H ex) tg ts bb)
  (ht:∀ C s H ex,DTs (cxC X M scope C s H ex) ifs ft) (he:∀ C s H ex,DL (cxC X M scope C s H ex) elt fe) (hts:(ts.all fun k=>decide (src[k]?=some none))=true) (hs:∀ x,qf7 iter X.env x=pure x:=by intro _;rfl) :
  DO X (.ListComp elt [⟨tg,iter,ifs,0⟩] scope pos) (aU src fi bb ft fe):=PE.mono (lN (g:=gD X.K ts bb) (tt:=tTr X.K ft) (te:=tL X.K fe) S hc hi (fun nd C s H ex=>hg nd C s H ex) (fun C s H ex=>ht C s H ex) (fun C s H ex=>he C s H ex) hs) (kR S hts)
end
noncomputable def cy (m:Nat) (g:De->Option Out):List Dt->Option T:=fun ds=>match g (ds.map (fun d=>some (T.leaf d))++qd3 (m-ds.length) none) with
 | some (.rt t)=>some t
 | some (.nx _)=>some (.leaf .non)
 | _=>none
theorem ga {K:PySem.W.Frag} {F H:Hp} {ds:List Dt} {vs:List V} {N:List Str} (fh:Same F H) (r:Reps K F ds vs) :
  En ⟨K,F,H,fun _=>False⟩ (ds.map (fun d=>some (T.leaf d))++qd3 (N.length-ds.length) none) (start N vs) F H:=by
 have hl:=r.length
 have key:∀ (i:Nat) (t:T),(ds.map (fun d=>some (T.leaf d))++qd3 (N.length-ds.length) none)[i]?=some (some t)->∃ d v,t=T.leaf d/\vs[i]?=some v/\Rep K F d v/\(start N vs)[i]?=some (some v):=fun i t h=>by
  by_cases hi:i<ds.length
  . rw [qc2 (by simpa using hi),qb9] at h;have hd:ds[i]?=some ds[i]:=by simp [hi]
    rw [hd] at h;cases h;obtain ⟨v,hv,rv⟩:=r.get hd;refine ⟨_,v,rfl,hv,rv,?_⟩;unfold start;rw [qc2 (by simp;lia),qb9,hv];rfl
  . rw [qg2 (by simpa using hi)] at h;rw [qm4] at h;split at h<;>cases h
 refine ⟨fh,fun b o h _=>h,Same.refl _,fun b o h=>.inl h,by simp [start,hl],fun i t h=>?_,fun _ _=>False,fun i t v h=>?_,fun _ _ z=>z.elim,fun _ _ _ z=>z.elim⟩
 . obtain ⟨d,v,_,_,_,e⟩:=key i t h;exact ⟨v,e⟩
 . obtain ⟨h1,h2⟩:=dH h;obtain ⟨d,w,rfl,_,rv,e⟩:=key i t h1;rw [h2] at e;cases e;exact rv
section
variable {P:qb5} {w:World} {K:PySem.W.Frag} {mg:Str->Option Value} {base:Heap}
theorem Rt.step {F H:Hp} {t:T} {v:V} {F' H':Hp} (h:Rt ⟨K,F,H,fun _=>False⟩ t v F' H') {Q:VK} (k:KO K F H t Q):Q v H':=by
 obtain ⟨fh,prot,old,nw,S,o,hs⟩:=h;refine k v H' F' S ⟨fun b u e=>prot b u e id,old,fh,fun b u e=>(nw b u e).elim .inl fun z=>z.elim .inr ql3⟩ o fun b z=>?_
 obtain ⟨h1,h2,h3⟩:=hs b z;exact ⟨h1,h3.elim id ql3,h2⟩
theorem ce {x:Str} {st:Stmt} {N ps:List Str} {k n:Nat} {g:De->Option Out} (D:DefF K mg x st ps) (S:FnScope N ps (ac st)) (hn:ps.length=n)
  (hbody:∀ (f:Addr) (cdv:Value) (A:qd2) (outer:List Env) (s:qa4) (H:Hp) (E:XK),Room k (A.deeper (qx2 x (ac st) s.heap.objs.size f cdv))->DS (iB CX0 P w K mg base N x (ac st) f cdv A outer s H E).nox (bP st) g) :
  OkF P w K mg base x (k+1) ps (spD K n (cy N.length g)):=by
 refine D.ok S (fun vs H Q E h=>?_) (fun f cdv A outer s H vs Q E hr h=>?_)
 . obtain ⟨F,ds,t,_,hl,r,_⟩:=h;rw [r.length,hl,hn]
 . obtain ⟨F,ds,t,fh,hl,r,hf,kq⟩:=h;refine ⟨_,hbody f cdv A outer s H E hr,?_⟩;unfold cy at hf;split at hf
   . rename_i t' q;cases hf;exact ⟨⟨K,F,H,fun _=>False⟩,_,F,_,rfl,ga fh r,q,fun v F' H' z=>z.step kq⟩
   . rename_i δ' q;cases hf;exact ⟨⟨K,F,H,fun _=>False⟩,_,F,_,rfl,ga fh r,q,fun σ' F' H' z=>(z.rt (Step.refl z.fh) (t:=.leaf .non) (S:=fun _=>False) (kQ (K:=K) (F:=F')) fun _ y=>y.elim).step kq⟩
   . cases hf
theorem z0 {x:Str} {st:Stmt} {N ps:List Str} {k n:Nat} {g:De->Option Out} {f:Addr} {fd:ql1} (D:Fun K x x st f fd) (S:FnScope N ps (ac st)) (hn:ps.length=n)
  (hbody:∀ (cdv:Value) (A:qd2) (outer:List Env) (s:qa4) (H:Hp) (E:XK),Room k (A.deeper (qx2 x (ac st) s.heap.objs.size f cdv))->DS (iB CX0 P w K mg base N x (ac st) f cdv A outer s H E).nox (bP st) g) :
  FnOk P w K mg base CX0 (k+1) f fd ps (spD K n (cy N.length g)):=by
 refine D.ok S (fun vs H Q E h=>?_) (fun cdv A outer s H vs Q E hr h=>?_)
 . obtain ⟨F,ds,t,_,hl,r,_⟩:=h;rw [r.length,hl,hn]
 . obtain ⟨F,ds,t,fh,hl,r,hf,kq⟩:=h;refine ⟨_,hbody cdv A outer s H E hr,?_⟩;unfold cy at hf;split at hf
   . rename_i t' q;cases hf;exact ⟨⟨K,F,H,fun _=>False⟩,_,F,_,rfl,ga fh r,q,fun v F' H' z=>z.step kq⟩
   . rename_i δ' q;cases hf;exact ⟨⟨K,F,H,fun _=>False⟩,_,F,_,rfl,ga fh r,q,fun σ' F' H' z=>(z.rt (Step.refl z.fh) (t:=.leaf .non) (S:=fun _=>False) (kQ (K:=K) (F:=F')) fun _ y=>y.elim).step kq⟩
   . cases hf
end
section
variable {K:PySem.W.Frag} {F H:Hp} {Q:VK}
theorem KO.int {i:Int} (k:KO K F H (.leaf (.int i)) Q) (fh:Same F H):Q (.int i) H:=k.leaf.here fh f8
theorem KO.bl {i:Bool} (k:KO K F H (.leaf (.bl i)) Q) (fh:Same F H):Q (.bl i) H:=k.leaf.here fh xZ
theorem KO.str {i:Str} (k:KO K F H (.leaf (.str i)) Q) (fh:Same F H):Q (.str i) H:=k.leaf.here fh kP
theorem KO.tup {l:List Dt} {vs:List V} {p:Addr} (k:KO K F H (.leaf (.tup l)) Q) (fh:Same F H) (r:Reps K F l vs) (hp:H p=none):Q (.ref p) (upd H p (.tup vs)):=by refine k.leaf _ _ _ (Step.new fh hp) ?_;simp only [Rep];exact ⟨p,vs,rfl,SqT.of aT,r.same (Same.upd (fh.free hp))⟩
end
noncomputable def hV (i j:Int):Bool:=(decide (-(2^64)<i)&&decide (i<2^64))||(decide (-(2^64)<j)&&decide (j<2^64))
theorem uV {i j:Int} (h:hV i j=true):CMul i j:=by unfold hV at h;simp only [qj9,qb1,decide_eq_true_eq] at h;exact h
theorem uW {i j:Int} (h1:-1000000000000000000<i) (h2:i<1000000000000000000):hV i j=true:=by unfold hV;simp only [qj9,qb1,decide_eq_true_eq];left;lia
theorem uX {i j:Int} (h1:-1000000000000000000<j) (h2:j<1000000000000000000):hV i j=true:=by unfold hV;simp only [qj9,qb1,decide_eq_true_eq];right;lia
noncomputable def lT (i j:Int):Bool:=decide (0<=j)&&decide (j<=1000000)&&decide (i.natAbs<2^64)
theorem uY {i j:Int} (h:lT i j=true):xA i j:=by unfold lT at h;simp only [qb1,decide_eq_true_eq] at h;exact ⟨h.1.1,h.1.2,h.2⟩
noncomputable def aN:Dt->Dt->Option T
 | .int i,.int j=>some (.leaf (.int (i+j)))
 | .str a,.str b=>if a.length+b.length<=qa7 then some (.leaf (.str (a++b))) else none
 | .lst l,.lst m=>if l.length+m.length<=qa7 then some (.lst (l++m)) else none
 | .tup l,.tup m=>if l.length+m.length<=qa7/\l≠[]/\m≠[] then some (.leaf (.tup (l++m))) else none
 | _,_=>none
noncomputable def dN:Dt->Dt->Option T
 | .int i,.int j=>some (.leaf (.int (i-j)))
 | _,_=>none
noncomputable def eu:Dt->Dt->Option T
 | .int i,.int j=>if hV i j then some (.leaf (.int (i*j))) else none
 | _,_=>none
noncomputable def b5:Dt->Dt->Option T
 | .int i,.int j=>if 0<j then some (.leaf (.int (i%j))) else none
 | _,_=>none
noncomputable def nz:Dt->Dt->Option T
 | .int i,.int j=>if lT i j then some (.leaf (.int (i^j.toNat))) else none
 | _,_=>none
noncomputable def jr (f:Int->Int->Bool):Dt->Dt->Option T
 | .int i,.int j=>some (.leaf (.bl (f i j)))
 | _,_=>none
section
variable {X:Cx}
theorem uZ:OpR X (qk5 .Add) (fun x y H Q=>∃ l b xs zs,x=.ref l/\y=.ref b/\SqL X.K H l xs/\SqL X.K H b zs/\xs.length+zs.length<=qa7/\∀ p,H p=none->Q (.ref p) (upd H p (.lst (xs++zs)))):=by
 intro pins s σ H x y v u Q I rx ry h;obtain ⟨l,b,xs,zs,rfl,rfl,hH,hB,hz,q⟩:=h;cases rx;cases ry;obtain ⟨its,r,pl,_⟩:=I.list hH;obtain ⟨its2,r2,pl2,_⟩:=I.list hB;obtain ⟨⟨cls,dd,data,sl⟩,n,ho,hc,hd0,hd⟩:=pl;obtain ⟨⟨cls2,dd2,data2,sl2⟩,n2,ho2,hc2,hd02,hd2⟩:=pl2;simp only at hc hd hc2 hd2;subst hc hd hc2 hd2;have e:its.toArray++its2.toArray=(its++its2).toArray:=by simp
 refine qv8 ⟨_,ho,rfl⟩ ⟨_,ho2,rfl⟩ noFill_list_add seq_list_add PySem.F.slot_list_add PySem.F.entry_list_add (PySem.F.args_list_add_2 _ _) (list_addW l b its.toArray its2.toArray n n2 dd dd2 sl sl2 (by rw [qb3,qb3,<- r.length,<- r2.length];exact hz)) ⟨ho,ho2,?_⟩;rw [e];exact ⟨.ref _,_,I.lnew (t':=s.toks) (r.append r2) (by rw [qb2];exact hz),rfl,q _ I.fresh⟩
noncomputable abbrev jQ (K:PySem.W.Frag):R2:=fun x y H Q=>(rI0 (fun i j=>.int (i+j)) x y H Q)∨(∃ i j,x=.str i/\y=.str j/\i.length+j.length<=qa7/\Q (.str (i++j)) H)∨(∃ l b xs zs,x=.ref l/\y=.ref b/\SqL K H l xs/\SqL K H b zs/\xs.length+zs.length<=qa7/\∀ p,H p=none->Q (.ref p) (upd H p (.lst (xs++zs))))∨wg K x y H Q
theorem aJ:OpR X (qk5 .Add) (jQ X.K):=OpR.or xB (OpR.or ng (OpR.or uZ uD))
theorem bh {K:PySem.W.Frag}:R2D K (jQ K) aN:=by
 intro F H x y vx vy Q t fh rx ry hg k;unfold aN at hg;split at hg<;>first | (cases hg;done) | skip
 . cases hg;cases rx;cases ry;exact .inl ⟨_,_,rfl,rfl,k.int fh⟩
 . split at hg
   . cases hg;cases rx;cases ry;exact .inr (.inl ⟨_,_,rfl,rfl,by assumption,k.str fh⟩)
   . cases hg
 . split at hg
   . rename_i hl;cases hg;obtain ⟨a,vs,rfl,h1,h2⟩:=rx;obtain ⟨b,ws,rfl,h3,h4⟩:=ry;exact .inr (.inr (.inl ⟨a,b,vs,ws,rfl,rfl,h1,h3,by rw [h2.length,h4.length];exact hl,fun p hp=>e7 k fh (h2.append h4) hp⟩))
   . cases hg
 . split at hg
   . rename_i hl;cases hg;obtain ⟨a,vs,rfl,h1,h2⟩:=rx;obtain ⟨b,ws,rfl,h3,h4⟩:=ry;obtain ⟨hl,n1,n2⟩:=hl;refine .inr (.inr (.inr ⟨a,b,vs,ws,rfl,rfl,fh.tup h1,fh.tup h3,fun z=>?_,by rw [h2.length,h4.length];exact hl,fun z=>?_,fun _ p hp=>k.tup fh (h2.append h4) hp⟩))
     . subst z;have:=h2.length;exact n1 (qt0 this.symm)
     . subst z;have:=h4.length;exact absurd (qt0 this.symm) n2
   . cases hg
theorem iM {K:PySem.W.Frag}:R2D K (rI0 fun i j=>.int (i-j)) dN:=by
 intro F H x y vx vy Q t fh rx ry hg k;unfold dN at hg;split at hg<;>first | (cases hg;done) | skip
 cases hg;cases rx;cases ry;exact ⟨_,_,rfl,rfl,k.int fh⟩
theorem gb {K:PySem.W.Frag}:R2D K (rI CMul fun i j=>.int (i*j)) eu:=by
 intro F H x y vx vy Q t fh rx ry hg k;unfold eu at hg;split at hg<;>first | (cases hg;done) | skip
 split at hg
 . cases hg;cases rx;cases ry;exact ⟨_,_,rfl,rfl,uV (by assumption),k.int fh⟩
 . cases hg
theorem cf {K:PySem.W.Frag}:R2D K (rI (fun _ j=>0<j) fun i j=>.int (i%j)) b5:=by
 intro F H x y vx vy Q t fh rx ry hg k;unfold b5 at hg;split at hg<;>first | (cases hg;done) | skip
 split at hg
 . cases hg;cases rx;cases ry;exact ⟨_,_,rfl,rfl,by assumption,k.int fh⟩
 . cases hg
theorem ww {K:PySem.W.Frag}:R2D K (rI xA fun i j=>.int (i^j.toNat)) nz:=by
 intro F H x y vx vy Q t fh rx ry hg k;unfold nz at hg;split at hg<;>first | (cases hg;done) | skip
 split at hg
 . cases hg;cases rx;cases ry;exact ⟨_,_,rfl,rfl,uY (by assumption),k.int fh⟩
 . cases hg
theorem iN {K:PySem.W.Frag} {f:Int->Int->Bool}:R2D K (rI0 fun i j=>.bl (f i j)) (jr f):=by
 intro F H x y vx vy Q t fh rx ry hg k;unfold jr at hg;split at hg<;>first | (cases hg;done) | skip
 cases hg;cases rx;cases ry;exact ⟨_,_,rfl,rfl,k.bl fh⟩
noncomputable def eqD:Dt->Dt->Option Bool
 | .non,.non=>some true
 | .non,.int _=>some false
 | .non,.bl _=>some false
 | .non,.str _=>some false
 | .int _,.non=>some false
 | .bl _,.non=>some false
 | .str _,.non=>some false
 | .int i,.int j=>some (decide (i=j))
 | .bl i,.bl j=>some (decide (i=j))
 | .str i,.str j=>some (decide (i=j))
 | .int _,.str _=>some false
 | .str _,.int _=>some false
 | .bl _,.str _=>some false
 | .str _,.bl _=>some false
 | .tup l,.tup m=>if cmpbs l m&&decide (deeps l<=59) then some (peqs l m) else none
 | .lst l,.lst m=>if cmpbs l m&&decide (deeps l<=59) then some (peqs l m) else none
 | _,_=>none
noncomputable def gEq (neg:Bool) (x y:Dt):Option T:=(eqD x y).map fun b=>.leaf (.bl (if neg then !b else b))
abbrev rEqA (K:PySem.W.Frag):R2:=fun x y H Q=>rEq x y H Q∨uP K false x y H Q
abbrev rNeA (K:PySem.W.Frag):R2:=fun x y H Q=>rNe x y H Q∨uP K true x y H Q
theorem cH {k:Nat} (hr:Room k X.A):OpR X (qg7 .Eq) (rEqA X.K):=OpR.or zF (xW hr rfl)
theorem nA {k:Nat} (hr:Room k X.A):OpR X (qg7 .NotEq) (rNeA X.K):=OpR.or zG (xX hr rfl)
theorem rR {K:PySem.W.Frag} {F H:Hp} {x y:Dt} {vx vy:V} {b:Bool} (fh:Same F H) (rx:RepB K F H x vx) (ry:RepB K F H y vy) (h:eqD x y=some b) :
  (xD vx vy=true/\b=decide (vx=vy))∨(((∃ l m,x=.tup l/\y=.tup m)∨∃ l m,x=.lst l/\y=.lst m)/\dm x y=true/\gG x<=60/\b=peq x y):=by
 unfold eqD at h
 split at h<;>first
  | (cases h;done)
  | (cases h;cases rx;cases ry;left;refine ⟨rfl,?_⟩;simp;done)
  | skip
 . right;split at h
   . rename_i q;simp only [qb1,decide_eq_true_eq] at q;cases h;exact ⟨.inl ⟨_,_,rfl,rfl⟩,by simp only [dm];exact q.1,by simp only [gG];lia,by simp only [peq]⟩
   . cases h
 . right;split at h
   . rename_i q;simp only [qb1,decide_eq_true_eq] at q;cases h;exact ⟨.inr ⟨_,_,rfl,rfl⟩,by simp only [dm];exact q.1,by simp only [gG];lia,by simp only [peq]⟩
   . cases h
theorem gJ {K:PySem.W.Frag}:R2D K (rEqA K) (gEq false):=by
 intro F H x y vx vy Q t fh rx ry hg k;unfold gEq at hg;obtain ⟨b,hb,hg⟩:=mS hg;cases hg;have kk:Q (.bl b) H:=k.bl fh;rcases rR fh rx ry hb with ⟨h1,rfl⟩ | ⟨h1,h2,h3,rfl⟩
 . exact .inl ⟨h1,kk⟩
 . exact .inr ⟨x,y,h1,rx.rep fh,ry.rep fh,h2,h3,kk⟩
theorem ya {K:PySem.W.Frag}:R2D K (rNeA K) (gEq true):=by
 intro F H x y vx vy Q t fh rx ry hg k;unfold gEq at hg;obtain ⟨b,hb,hg⟩:=mS hg;cases hg;have kk:Q (.bl (!b)) H:=k.bl fh;rcases rR fh rx ry hb with ⟨h1,rfl⟩ | ⟨h1,h2,h3,rfl⟩
 . exact .inl ⟨h1,kk⟩
 . exact .inr ⟨x,y,h1,rx.rep fh,ry.rep fh,h2,h3,kk⟩
noncomputable def isNon:Dt->Bool
 | .non=>true
 | _=>false
noncomputable def bG:Dt->Bool
 | .non=>true
 | .bl _=>true
 | .int _=>true
 | .str _=>true
 | _=>false
noncomputable def eqF:Dt->Dt->Bool
 | .non,.non=>true
 | .bl a,.bl b=>a==b
 | .bl a,.int b=>(if a then 1 else 0)==b
 | .int a,.bl b=>a==(if b then 1 else 0)
 | .int a,.int b=>a==b
 | .str a,.str b=>a==b
 | _,_=>false
noncomputable def inS (j i:Str):Bool:=!(qq0 j i 0 j.length 1).isEmpty
noncomputable def inD:Dt->Dt->Option Bool
 | .str i,.str j=>some (inS j i)
 | x,.lst l=>if bG x&&l.all bG then some (l.any fun y=>eqF y x) else none
 | x,.tup l=>if bG x&&l.all bG then some (l.any fun y=>eqF y x) else none
 | _,_=>none
noncomputable def gIn (neg:Bool) (x y:Dt):Option T:=(inD x y).map fun b=>.leaf (.bl (if neg then !b else b))
theorem kS {K:PySem.W.Frag} {F:Hp} {d:Dt} {v:V} (r:Rep K F d v) (h:bG d=true):fB v=true:=by
 cases d<;>simp only [Rep] at r<;>first
  | (subst r;rfl)
  | cases h
theorem yb {K:PySem.W.Frag} {F F':Hp} {d e:Dt} {v w:V} (r:Rep K F d v) (r':Rep K F' e w) (h:bG d=true) (h':bG e=true):eqF d e=eqV v w:=by
 cases d<;>first | cases h;done | skip
 all_goals cases e<;>first | cases h';done | skip
 all_goals simp only [Rep] at r r';subst r r';rfl
theorem iO {K:PySem.W.Frag} {F:Hp}:∀ {l:List Dt} {vs:List V},Reps K F l vs->l.all bG=true->vs.all fB=true
 | [],vs,r,_=>by simp only [Reps] at r;subst r;rfl
 | d::l,vs,r,h=>by simp only [Reps] at r;obtain ⟨v,ws,rfl,h1,h2⟩:=r;rw [qj1,qb1] at h ⊢;exact ⟨kS h1 h.1,iO h2 h.2⟩
theorem nB {K:PySem.W.Frag} {F F':Hp} {x:Dt} {w:V} (r':Rep K F' x w) (hx:bG x=true):∀ {l:List Dt} {vs:List V},Reps K F l vs->l.all bG=true->(l.any fun y=>eqF y x)=inV w vs
 | [],vs,r,_=>by simp only [Reps] at r;subst r;rfl
 | d::l,vs,r,h=>by simp only [Reps] at r;obtain ⟨v,ws,rfl,h1,h2⟩:=r;rw [qj1,qb1] at h;unfold inV;rw [qh6,qh6,yb h1 r' h.1 hx,nB r' hx h2 h.2];rfl
abbrev rS (K:PySem.W.Frag) (neg:Bool):R2:=fun x y H Q=>(∃ i j,x=.str i/\y=.str j/\Q (.bl (if neg then !inS j i else inS j i)) H)∨rIn K neg x y H Q
theorem yc:OpR X (qg7 .In) (rS X.K false):=OpR.or p4 p8
theorem qk:OpR X (qg7 .NotIn) (rS X.K true):=OpR.or kG kF
theorem r_in {K:PySem.W.Frag} (neg:Bool):R2D K (rS K neg) (gIn neg):=by
 intro F H x y vx vy Q t fh rx ry hg k;unfold gIn at hg;obtain ⟨b,hb,hg⟩:=mS hg;cases hg;have kk:=k.bl fh;unfold inD at hb;split at hb<;>first | (cases hb;done) | skip
 . cases hb;cases rx;cases ry;exact .inl ⟨_,_,rfl,rfl,kk⟩
 . split at hb
   . rename_i q;rw [qb1] at q;cases hb;obtain ⟨a,vs,rfl,h1,h2⟩:=ry;have rx':=rx.rep fh;rw [nB rx' q.1 h2 q.2] at kk;exact .inr ⟨a,vs,rfl,.inl h1,kS rx' q.1,iO h2 q.2,kk⟩
   . cases hb
 . split at hb
   . rename_i q;rw [qb1] at q;cases hb;obtain ⟨a,vs,rfl,h1,h2⟩:=ry;have rx':=rx.rep fh;rw [nB rx' q.1 h2 q.2] at kk;exact .inr ⟨a,vs,rfl,.inr (fh.tup h1),kS rx' q.1,iO h2 q.2,kk⟩
   . cases hb
theorem lU {K:PySem.W.Frag} {F:Hp} {l:List Dt} {vs:List V} {i:Int} {d:Dt} (r:Reps K F l vs) (h:atI l i=some d):∃ v,atI vs i=some v/\Rep K F d v:=by unfold atI at h ⊢;rw [r.length];obtain ⟨j,hj,h⟩:=bS h;obtain ⟨v,e,rv⟩:=r.get h;exact ⟨v,by rw [hj];exact e,rv⟩
noncomputable def gIx:Dt->Dt->Option T
 | .lst l,.int i=>(atI l i).map .leaf
 | .tup l,.int i=>(atI l i).map .leaf
 | .str x,.int i=>if x.length<=qa7 then (atI x.cps.toList i).map fun c=>.leaf (.str ⟨#[c]⟩) else none
 | _,_=>none
theorem r_ix {K:PySem.W.Frag}:R2D K (rIx K) gIx:=by
 intro F H x y vx vy Q t fh rx ry hg k;unfold gIx at hg;split at hg<;>first | (cases hg;done) | skip
 . obtain ⟨d,hd,hg⟩:=mS hg;cases hg;cases ry;obtain ⟨a,vs,rfl,h1,h2⟩:=rx;obtain ⟨v,e,rv⟩:=lU h2 hd;exact .inl ⟨a,vs,_,v,rfl,rfl,h1,e,k.leaf.here fh rv⟩
 . obtain ⟨d,hd,hg⟩:=mS hg;cases hg;cases ry;obtain ⟨a,vs,rfl,h1,h2⟩:=rx;obtain ⟨v,e,rv⟩:=lU h2 hd;exact .inr (.inl ⟨a,vs,_,v,rfl,rfl,fh.tup h1,e,k.leaf.here fh rv⟩)
 . split at hg
   . rename_i hl;obtain ⟨c,hc,hg⟩:=mS hg;cases hg;cases rx;cases ry;exact .inr (.inr ⟨_,_,c,rfl,rfl,hl,hc,k.str fh⟩)
   . cases hg
variable {a b c:Expr} {fa fb fc:De->Option Dt} {pos:Pos}
noncomputable def iP (l:List Dt) (lo hi:Option Int):List Dt:=(l.drop (HT.sIx l.length 0 lo)).take (HT.sIx l.length l.length hi-HT.sIx l.length 0 lo)
noncomputable def gSl:Dt->Option Int->Option Int->Option T
 | .str x,lo,hi=>if x.length<=qa7 then some (.leaf (.str (Txt.slice x lo hi))) else none
 | .lst l,lo,hi=>some (.lst (iP l lo hi))
 | .tup l,lo,hi=>if HT.sIx l.length 0 lo=0/\HT.sIx l.length l.length hi=l.length then none else some (.leaf (.tup (iP l lo hi)))
 | _,_,_=>none
abbrev yd (K:PySem.W.Frag):V->Option Int->Option Int->Hp->VK->Prop:=fun x lo hi H Q=>rSlS x lo hi H Q∨rSlL K x lo hi H Q∨rSlT K x lo hi H Q
theorem rT:SlR X (yd X.K):=SlR.or xR (SlR.or uF xK)
theorem lV {K:PySem.W.Frag} {F:Hp} {l:List Dt} {vs:List V} (r:Reps K F l vs) (lo hi:Option Int):Reps K F (iP l lo hi) (lG vs lo hi):=by unfold iP lG;rw [r.length];exact (r.drop _).take _
theorem ye {K:PySem.W.Frag} {F H:Hp} {x:Dt} {v:V} {lo hi:Option Int} {Q:VK} {t:T} (fh:Same F H) (rx:RepB K F H x v) (hg:gSl x lo hi=some t) (k:KO K F H t Q):yd K v lo hi H Q:=by
 unfold gSl at hg;split at hg<;>first | (cases hg;done) | skip
 . split at hg
   . cases hg;cases rx;exact .inl ⟨_,rfl,by assumption,k.str fh⟩
   . cases hg
 . obtain ⟨a,vs,rfl,h1,h2⟩:=rx;cases hg;exact .inr (.inl ⟨a,vs,rfl,h1,fun p hp=>e7 k fh (lV h2 _ _) hp⟩)
 . obtain ⟨a,vs,rfl,h1,h2⟩:=rx;split at hg
   . cases hg
   . rename_i hn;cases hg;rw [<- h2.length] at hn;exact .inr (.inr ⟨a,vs,rfl,fh.tup h1,hn,fun p hp=>k.tup fh (lV h2 _ _) hp⟩)
noncomputable def tOD (K:PySem.W.Frag) (f:De->Option (Option Int)):TO:=fun σ H Q=>∃ Φ δ F d,Fm.K Φ=K/\En Φ δ σ F H/\f δ=some d/\∀ H' F',Step F H F' H'->Q d H'
noncomputable def gd:De->Option (Option Int):=fun _=>some none
noncomputable def asI:Dt->Option Int
 | .int i=>some i
 | _=>none
noncomputable def cZ (f:De->Option Dt):De->Option (Option Int):=fun δ=>(f δ).bind fun d=>(asI d).map some
theorem lW {K:PySem.W.Frag} {F H:Hp} {x:Dt} {v:V} {b:Int} (h:asI x=some b) (r:RepB K F H x v):v=.int b:=by
 cases x<;>first | cases h;done | skip
 cases h;exact r
noncomputable def DP (X:Cx) (e:Option Expr) (f:De->Option (Option Int)):Prop:=PO X e (tOD X.K f)
theorem o4:DP X none gd:=fun pins s σ H Q I h=>uB pins s σ H Q I (by obtain ⟨Φ,δ,F,d,hK,en,hf,k⟩:=h;cases hf;exact k H F (Step.refl en.fh))
theorem e9 {e:Expr} {f:De->Option Dt} (h:DB X e f):DP X (some e) (cZ f):=fun pins s σ H Q I q=>uC h pins s σ H Q I (by obtain ⟨Φ,δ,F,d,hK,en,hf,k⟩:=q;unfold cZ at hf;obtain ⟨x,hx,hf⟩:=bS hf;obtain ⟨i,hi,hf⟩:=mS hf;cases hf;exact ⟨Φ,δ,F,x,hK,en,hx,fun v H' F' st r=>⟨i,lW hi r,k H' F' st⟩⟩)
noncomputable def vSl (fa:De->Option Dt) (fl fh:De->Option (Option Int)):De->Option T:=fun δ=>(fa δ).bind fun x=>(fl δ).bind fun l=>(fh δ).bind fun h=>gSl x l h
theorem lX {e:Expr} {lo hi:Option Expr} {p2:Pos} {f:De->Option Dt} {fl fh:De->Option (Option Int)} (he:DB X e f) (hl:DP X lo fl) (hh:DP X hi fh):DO X (.Subscript e (.Slice lo hi none p2) pos) (vSl f fl fh):=PE.mono (lF rT he hl hh) fun σ H Q ⟨Φ,δ,F,t,hK,en,hf,k⟩=>by unfold vSl at hf;obtain ⟨x,hx,hf⟩:=bS hf;obtain ⟨l,hl,hf⟩:=bS hf;obtain ⟨h,hh,hf⟩:=bS hf;exact ⟨Φ,δ,F,x,hK,en,hx,fun v H1 F1 s1 r1=>⟨Φ,δ,F1,l,hK,en.step s1,hl,fun H2 F2 s2=>⟨Φ,δ,F2,h,hK,en.step (s1.trans s2),hh,fun H3 F3 s3=>ye s3.fh (r1.step (s2.ff.trans s3.ff) (s2.hh.trans s3.hh)) hf (k.step ((s1.trans s2).trans s3))⟩⟩⟩
noncomputable def ql (f:De->Option Dt):De->Option T:=fun δ=>(f δ).bind fun d=>(asI d).map fun i=>.leaf (.int (-i))
theorem kT (h:DB X a fa):DO X (.UnaryOp .USub a pos) (ql fa):=PE.mono (zE xC h) fun σ H Q ⟨Φ,δ,F,t,hK,en,hf,k⟩=>by unfold ql at hf;obtain ⟨x,hx,hf⟩:=bS hf;obtain ⟨i,hi,hf⟩:=mS hf;cases hf;exact ⟨Φ,δ,F,x,hK,en,hx,fun v H' F' st r=>⟨i,lW hi r,(k.step st).int st.fh⟩⟩
noncomputable def bR:List Dt->Option T
 | [.str x]=>if x.length<=qa7 then some (.leaf (.int x.length)) else none
 | [.tup l]=>some (.leaf (.int l.length))
 | [.lst l]=>some (.leaf (.int l.length))
 | _=>none
theorem dj {K:PySem.W.Frag} {F H:Hp} {d:Dt} {vs:List V} (r:lQ K F H [d] vs):∃ v,vs=[v]/\RepB K F H d v:=by obtain ⟨v,ws,rfl,h1,h2⟩:=r;cases h2;exact ⟨v,rfl,h1⟩
theorem cg {K:PySem.W.Frag}:CRD K (fun xs H Q=>∃ x n,xs=[x]/\LenV K x H n/\Q (.int n) H) bR:=by
 intro F H ds vs Q t fh r hg k;unfold bR at hg;split at hg<;>first | (cases hg;done) | skip
 . split at hg
   . rename_i hl;cases hg;obtain ⟨v,rfl,rv⟩:=dj r;cases rv;exact ⟨_,_,rfl,⟨hl,rfl⟩,k.int fh⟩
   . cases hg
 . cases hg;obtain ⟨v,rfl,rv⟩:=dj r;obtain ⟨a,vs,rfl,h1,h2⟩:=rv;rw [<- h2.length] at k;exact ⟨_,_,rfl,.inr ⟨vs,fh.tup h1,rfl⟩,k.int fh⟩
 . cases hg;obtain ⟨v,rfl,rv⟩:=dj r;obtain ⟨a,vs,rfl,h1,h2⟩:=rv;rw [<- h2.length] at k;exact ⟨_,_,rfl,.inl ⟨vs,h1,rfl⟩,k.int fh⟩
noncomputable def b6:List Dt->Option T
 | [.lst l]=>some (.leaf (.tup l))
 | [.tup l]=>some (.leaf (.tup l))
 | _=>none
theorem dq {K:PySem.W.Frag}:CRD K (fun xs H Q=>∃ p ys,xs=[.ref p]/\((SqL K H p ys/\∀ l,H l=none->Q (.ref l) (upd H l (.tup ys)))∨(SqT K H p ys/\Q (.ref p) H))) b6:=by
 intro F H ds vs Q t fh r hg k;unfold b6 at hg;split at hg<;>first | (cases hg;done) | skip
 . cases hg;obtain ⟨v,rfl,rv⟩:=dj r;obtain ⟨a,vs,rfl,h1,h2⟩:=rv;exact ⟨a,vs,rfl,.inl ⟨h1,fun p hp=>k.tup fh h2 hp⟩⟩
 . cases hg;obtain ⟨v,rfl,rv⟩:=dj r;rename_i l;have rv':Rep K F (.tup l) v:=by simp only [Rep];exact rv
   obtain ⟨a,vs,rfl,h1,h2⟩:=rv;exact ⟨a,vs,rfl,.inr ⟨fh.tup h1,k.leaf.here fh rv'⟩⟩
noncomputable def iQ:List Dt->Option T
 | [.lst l]=>some (.lst l)
 | [.tup l]=>some (.lst l)
 | _=>none
theorem yf {K:PySem.W.Frag}:CRD K (fun xs H Q=>∃ p ys,xs=[.ref p]/\(SqL K H p ys∨SqT K H p ys)/\∀ l,H l=none->Q (.ref l) (upd H l (.lst ys))) iQ:=by
 intro F H ds vs Q t fh r hg k;unfold iQ at hg;split at hg<;>first | (cases hg;done) | skip
 . cases hg;obtain ⟨v,rfl,rv⟩:=dj r;obtain ⟨a,vs,rfl,h1,h2⟩:=rv;exact ⟨a,vs,rfl,.inl h1,fun p hp=>e7 k fh h2 hp⟩
 . cases hg;obtain ⟨v,rfl,rv⟩:=dj r;obtain ⟨a,vs,rfl,h1,h2⟩:=rv;exact ⟨a,vs,rfl,.inr (fh.tup h1),fun p hp=>e7 k fh h2 hp⟩
end
section
variable {X:Cx} {o a b e c:Expr} {es:List Expr} {fa fb fo fe:De->Option Dt} {fs:De->Option (List Dt)} {pos apos cpos p:Pos} {x:Str} {sc:Scope} {i:Nat}
noncomputable def rV (K:PySem.W.Frag) (mg:Str->Option Value) (x:Str) (d:Dt):Prop:=∃ v,(∃ u,mg x=some u/\RelV v u)/\∀ F,Rep K F d v
theorem u0 {d:Dt} (h:aF sc x=true) (hm:rV X.K X.mg x d) (e1:bZ X sc:=by rfl):DL X (.Name x pos) (kD d):=by obtain ⟨v,h1,h2⟩:=hm;exact rL (iI h h1 e1) h2
noncomputable def lY:Dt->Bool
 | .ins _ _ _=>true
 | _=>false
noncomputable def tyD:Dt->String
 | .ins _ _ _=>"object"
 | .non=>"NoneType"
 | .bl _=>"bool"
 | .int _=>"int"
 | .str _=>"str"
 | .tup _=>"tuple"
 | .lst _=>"list"
 | .dct _ _=>"dict"
 | .dcT _ _=>"dict"
noncomputable def wx (c:String):Dt->Bool
 | .ins _ _ _=>false
 | .non=>c=="NoneType"
 | .bl _=>c=="bool"||c=="int"
 | .int _=>c=="int"
 | .str _=>c=="str"
 | .tup _=>c=="tuple"
 | .lst _=>c=="list"
 | .dct _ _=>c=="dict"
 | .dcT _ _=>c=="dict"
theorem nC {pins:List (Addr×Obj)} {σ:St} {H:Hp} {s:qa4} {A:qd2} {E:Value->qa4->Prop} {Q:Value->qa4->Prop} {c:Value} {b:Bool} {v:V} {u:Value} {d:Dt} (I:Inv X pins σ H s) (rx:RelV v u) (r:Rep X.K H d v) (hi:lY d=false) (e:PySem.W.kitOne X.K (.type (tyD d)) c=some b) (h:∀ tk,Q (.bool b) {s with toks:=tk}) :
  wpAny (model X.prog X.w) A (call (.builtin "isinstance") [u,c]) Q E s:=by
 cases d with
 | non=>simp only [Rep] at r;subst r;exact eY I rx .non e h
 | bl y=>simp only [Rep] at r;subst r;exact eY I rx (.bl y) e h
 | int y=>simp only [Rep] at r;subst r;exact eY I rx (.int y) e h
 | str y=>simp only [Rep] at r;subst r;exact eY I rx (.str y) e h
 | tup l =>simp only [Rep] at r;obtain ⟨a,vs,rfl,h1,h2⟩:=r;cases rx;obtain ⟨its,_,pl,_⟩:=I.tuple h1;obtain ⟨o,e1,e2,_⟩:=pl;exact PySem.W.kia_one PySem.W.kitx_tuple I.kIn ⟨o,e1,e2⟩ e (fun z=>nomatch z) h
 | lst l =>simp only [Rep] at r;obtain ⟨a,vs,rfl,h1,h2⟩:=r;cases rx;obtain ⟨its,_,pl,_⟩:=I.list h1;obtain ⟨o,n,e1,e2,_⟩:=pl;exact PySem.W.kia_one PySem.W.kitx_list I.kIn ⟨o,e1,e2⟩ e (fun z=>nomatch z) h
 | dct ks l =>simp only [Rep] at r;obtain ⟨a,kvs,rfl,h1,_⟩:=r;cases rx;obtain ⟨_,_,vs,_,p⟩:=jF I.hok h1;obtain ⟨o,es,ep,e1,e2,_⟩:=p;exact PySem.W.kia_one PySem.W.kitx_dict I.kIn ⟨o,e1,e2.1⟩ e (fun z=>nomatch z) h
 | dcT ks l =>simp only [Rep] at r;obtain ⟨a,kvs,rfl,h1,_⟩:=r;cases rx;obtain ⟨_,_,xs,_,o,es,ep,e1,e2,_⟩:=(show ObjOk X.prog X.w H s.heap a (.dT kvs) from h1.ok I.hok);exact PySem.W.kia_one PySem.W.kitx_dict I.kIn ⟨o,e1,e2.1⟩ e (fun z=>nomatch z) h
 | ins c ns l=>cases hi
noncomputable def fO (K:PySem.W.Frag) (c:String):Prop:=∀ d:Dt,lY d=false->PySem.W.kitOne K (.type (tyD d)) (.type c)=some (wx c d)
theorem nE:da X (.builtin "isinstance") (fun xs H Q=>∃ v c d b,xs=[v,.ty c]/\Rep X.K H d v/\lY d=false/\PySem.W.kitOne X.K (.type (tyD d)) (.type c)=some b/\Q (.bl b) H):=by intro pins s σ H xs us Q I r h;obtain ⟨v,c,d,b,rfl,rd,hi,e,q⟩:=h;obtain ⟨u,w',rfl,ru,rw'⟩:=zJ r;cases rw';exact nC I ru rd hi e fun tk=>⟨.bl b,H,I.tok _,rfl,q⟩
noncomputable def lZ (c:String) (f:De->Option Dt):De->Option T:=fun δ=>(f δ).bind fun d=>if lY d then none else some (.leaf (.bl (wx c d)))
theorem gK {cn:Str} {cs:String} {p1 p2:Pos} (h:aF sc "isinstance"=true) (hcn:aF sc cn=true) (hm:X.mg "isinstance"=none) (hmc:X.mg cn=none) (hv:qd7 cn=some (.type cs)) (hk:fO X.K cs) (ha:DB X a fa) (e1:bZ X sc:=by rfl)
  (he:qa6 [a,.Name cn p2] X.env=(false,eval a X.env)::qa6 [.Name cn p2] X.env:=by rfl) (he2:qa6 [.Name cn p2] X.env=(false,eval (.Name cn p2) X.env)::qa6 [] X.env:=by rfl) (hpl:(qk1 pos (qa6 [.Name cn p2] X.env)).any (·.1)=false:=by rfl) :
  DO X (.Call (.Name "isinstance" p1) [a,.Name cn p2] [] pos) (lZ cs fa):=
 PE.mono (gF h nE hm jp (c6 ha (c6 (rH (v:=.ty cs) hcn hmc hv rfl e1) eC he2) he) e1 he hpl) fun σ H Q ⟨Φ,δ,F,t,hK,en,hf,k⟩=>by
  unfold lZ at hf;obtain ⟨d,hd,hf⟩:=bS hf;cases hi:lY d with
  | true=>rw [hi] at hf;cases hf
  | false =>rw [hi] at hf;cases hf;exact ⟨Φ,δ,F,d,hK,en,hd,fun v H' F' st r=>⟨v,cs,d,_,rfl,r.rep st.fh,hi,hk d hi,(k.step st).bl st.fh⟩⟩
noncomputable def MRD (K:PySem.W.Frag) (r:V->List V->Hp->VK->Prop) (g:Dt->List Dt->Option T):Prop:=∀ F H d v ds vs (Q:VK) t,Same F H->RepB K F H d v->lQ K F H ds vs->g d ds=some t->KO K F H t Q->r v vs H Q
noncomputable def gM:List Dt->Option (List Str)
 | []=>some []
 | .str b::r=>(gM r).map (b::·)
 | _=>none
theorem jR {K:PySem.W.Frag} {F:Hp}:∀ {l:List Dt} {vs:List V} {bs:List Str},Reps K F l vs->gM l=some bs->vs=bs.map V.str
 | [],vs,bs,r,h=>by cases h;simp only [Reps] at r;exact r
 | d::l,vs,bs,r,h=>by
  cases d<;>first | cases h;done | skip
  simp only [gM] at h;obtain ⟨cs,hc,h⟩:=mS h;cases h;simp only [Reps,Rep] at r;obtain ⟨v,ws,rfl,rfl,r2⟩:=r;rw [jR r2 hc];rfl
noncomputable def q20 (i:Nat) (f:De->Option Dt):De->Option Out:=fun δ=>match δ[i]? with
 | some (some (.lst l))=>(f δ).bind fun d=>if l.length<qa7 then some (.nx (δ.set i (some (.lst (l++[d]))))) else none
 | _=>none
theorem En.ownL {Φ:Fm} {δ:De} {σ:St} {F H:Hp} (en:En Φ δ σ F H) {l:List Dt} (h:δ[i]?=some (some (.lst l))):∃ a vs,σ[i]?=some (some (.ref a))/\H a=some (.lst vs)/\Reps Φ.K F l vs:=by obtain ⟨v,hv⟩:=en.has i _ h;obtain ⟨S,s⟩:=en.sep;obtain ⟨a,vs,rfl,_,h1,h2⟩:=s.own i _ v (cU h hv);exact ⟨a,vs,hv,h1,h2⟩
theorem cr (hx:PE X o (jn i)) (he:DL X e fe)
  (hbase:qz4 o "append" X.env (eval o X.env)=eval o X.env:=by rfl)
  (hfew:((qk1 cpos (qa6 [e] X.env)).all (fun x=>!x.1)&&(backToKw cpos (ze4 [] X.env)).all (fun x=>x.1.isSome)
   && decide ([e].length+([]:List zb7).length+(if ([]:List zb7).isEmpty then 0 else 1)<30))=true:=by rfl)
  (hline:(apos.endLine==cpos.line)=true:=by rfl) (hs:qa6 [e] X.env=(false,eval e X.env)::qa6 [] X.env:=by rfl) (hplain:(qk1 cpos (qa6 [] X.env)).any (·.1)=false:=by rfl)
  (hsw:qm6 (.Call (.Attribute o "append" apos) [e] [] cpos) none pos.line X.env=pure false:=by rfl) :
  DS1 X (.Expr (.Call (.Attribute o "append" apos) [e] [] cpos) pos) (q20 i fe):=
 PS.mono (kx (rn PySem.F.plainAttrs_list PySem.F.slot_list_append PySem.F.type_list_append eZ hx (c6 he eC hs) hbase hfew hline hs hplain) hsw) fun D σ H ⟨Φ,δ,F,ot,hK,en,hg,k⟩=>by
  unfold q20 at hg;split at hg<;>first | cases hg;done | skip
  rename_i l hl;obtain ⟨d,hd,hg⟩:=bS hg;split at hg<;>first | cases hg;done | skip
  rename_i hz;cases hg;obtain ⟨a,vs,hv,h1,h2⟩:=en.ownL hl;refine ⟨.ref a,hv,.inl ⟨rfl,vs,.inl (.inl h1)⟩,Φ,δ,F,d,hK,en,hd,fun v H1 F1 st rv=>?_⟩;have en1:=en.step st;have h1':=st.hh _ _ h1;refine ⟨a,vs,v,rfl,rfl,h1',by rw [h2.length];exact hz,?_⟩;refine k σ F1 _ (en1.poke hl hv (fun d z=>nomatch z) fun S sa=>⟨a,vs++[v],rfl,sa,aT,(h2.same st.ff).append (Reps.one (hK▸rv))⟩)
end
noncomputable def dO {κ:Type} [DecidableEq κ]:List κ->List Dt->κ->Option Dt
 | k'::ks,d::l,k=>if k'=k then some d else dO ks l k
 | _,_,_=>none
theorem fj {κ:Type} [DecidableEq κ] {K:PySem.W.Frag} {F:Hp} {k:κ}:∀ {kvs:List (κ×V)} {l:List Dt} {d:Dt},Reps K F l (kvs.map (·.2))->dO (kvs.map (·.1)) l k=some d->∃ v,d5 kvs k=some v/\Rep K F d v
 | [],l,d,r,h=>by cases l<;>cases h
 | p::kvs,[],d,r,h=>by cases h
 | p::kvs,e::l,d,r,h=>by
  simp only [qa5,Reps] at r;obtain ⟨v,ws,hv,r1,r2⟩:=r;cases hv;simp only [qa5,dO] at h;by_cases hk:p.1=k
  . rw [if_pos hk] at h;cases h;exact ⟨p.2,fW hk,r1⟩
  . rw [if_neg hk] at h;rw [eG hk];exact fj r2 h
theorem jS {κ:Type} [DecidableEq κ] {K:PySem.W.Frag} {F:Hp} {k:κ}:∀ {kvs:List (κ×V)} {l:List Dt},Reps K F l (kvs.map (·.2))->dO (kvs.map (·.1)) l k=none->d5 kvs k=none
 | [],l,r,h=>rfl
 | p::kvs,[],r,h=>by simp only [qa5,Reps] at r;cases r
 | p::kvs,e::l,r,h=>by
  simp only [qa5,Reps] at r;obtain ⟨v,ws,hv,r1,r2⟩:=r;cases hv;simp only [qa5,dO] at h;by_cases hk:p.1=k
  . rw [if_pos hk] at h;cases h
  . rw [if_neg hk] at h;rw [eG hk];exact jS r2 h
noncomputable def kU:Dt->Option Key
 | .int i=>some (.inl i)
 | .str x=>some (.inr x)
 | _=>none
theorem gf {K:PySem.W.Frag} {F H:Hp} {d:Dt} {v:V} {k:Key} (r:RepB K F H d v) (h:kU d=some k):v=kV k:=by
 unfold kU at h;split at h<;>first | (cases h;done) | skip
 . cases h;exact r
 . cases h;exact r
noncomputable def aw:Dt->Dt->Option T
 | .dct ks l,k=>(kU k).bind fun k=>(dO ks l k).map .leaf
 | x,y=>gIx x y
section
variable {X:Cx} {o a b e c:Expr} {es:List Expr} {fa fb fo fe fk:De->Option Dt} {fs:De->Option (List Dt)} {pos apos cpos p:Pos} {x:Str} {sc:Scope} {i:Nat}
theorem aq {k:Nat} (hr:Room k X.A) (ha:DB X a fa) (hb:DB X b fb) (hs:oG b:=by exact fun _ _=>rfl) (hn:rq b:=by exact fun _ _=>rfl):DO X (.Subscript a b pos) (d2 aw fa fb):=
 PE.mono (PE.or (zO xM ha hb hs) (uJ (oK hr) ha hb hn)) fun σ H Q ⟨Φ,δ,F,t,hK,en,hf,k⟩=>by
  unfold d2 at hf;obtain ⟨x,hx,hf⟩:=bS hf;obtain ⟨y,hy,hf⟩:=bS hf;unfold aw at hf;split at hf
  . rename_i ks l _;obtain ⟨kk,hk,hf⟩:=bS hf;obtain ⟨d,hd,hf⟩:=mS hf;cases hf;refine .inr ⟨Φ,δ,F,_,hK,en,hx,fun v H1 F1 st rv=>⟨Φ,δ,F1,y,hK,en.step st,hy,fun v2 H2 F2 st2 rv2=>?_⟩⟩;obtain ⟨ad,kvs,rfl,h1,h2,h3⟩:=rv;subst h2;obtain ⟨w,hw,rw'⟩:=fj h3 hd;have:=gf rv2 hk;subst this;exact ⟨ad,w,rfl,.inl ⟨kvs,kk,st2.hh.rd h1,rfl,hw.symm⟩,(k.step (st.trans st2)).leaf.here st2.fh (rw'.same st2.ff)⟩
  . exact .inl (jL r_ix ⟨Φ,δ,F,t,hK,en,by unfold d2;rw [hx,hy];exact hf,k⟩)
noncomputable def cW (neg:Bool):Dt->Dt->Option T
 | k,.dct ks l=>(kU k).map fun k=>.leaf (.bl (if neg then !(dO ks l k).isSome else (dO ks l k).isSome))
 | x,y=>gIn neg x y
theorem kW {κ:Type} [DecidableEq κ] {K:PySem.W.Frag} {F:Hp} {k:κ} {kvs:List (κ×V)} {l:List Dt} (r:Reps K F l (kvs.map (·.2))):(dO (kvs.map (·.1)) l k).isSome=(d5 kvs k).isSome:=by
 cases h:dO (kvs.map (·.1)) l k with
 | none=>rw [jS r h];rfl
 | some d =>obtain ⟨v,e,_⟩:=fj r h;rw [e];rfl
theorem Aa {K:PySem.W.Frag} {σ:St} {H:Hp} {Q:VK} (h:tO K (d2 (cW false) fa fb) σ H Q):tOp (rS K false) (tBd K fa) (tBd K fb) σ H Q∨tDIn (tBd K fa) (tBd K fb) σ H Q:=by
 obtain ⟨Φ,δ,F,t,hK,en,hf,k⟩:=h;unfold d2 at hf;obtain ⟨x,hx,hf⟩:=bS hf;obtain ⟨y,hy,hf⟩:=bS hf;unfold cW at hf;split at hf
 . rename_i ks l;obtain ⟨kk,hk,hf⟩:=mS hf;cases hf;refine .inr ⟨Φ,δ,F,x,hK,en,hx,fun v H1 F1 st rv=>⟨Φ,δ,F1,_,hK,en.step st,hy,fun v2 H2 F2 st2 rv2=>?_⟩⟩;obtain ⟨ad,kvs,rfl,h1,h2,h3⟩:=rv2;subst h2;have:=gf rv hk;subst this;refine ⟨ad,_,rfl,.inl ⟨kvs,kk,h1,rfl,rfl⟩,?_⟩;rw [<- kW h3];exact (k.step (st.trans st2)).bl st2.fh
 . exact .inl (jL (r_in false) ⟨Φ,δ,F,t,hK,en,by unfold d2;rw [hx,hy];exact hf,k⟩)
theorem rW {K:PySem.W.Frag} {σ:St} {H:Hp} {Q:VK} (h:tO K (d2 (cW true) fa fb) σ H Q):tOp (rS K true) (tBd K fa) (tBd K fb) σ H Q∨oJ (tBd K fa) (tBd K fb) σ H Q:=by
 obtain ⟨Φ,δ,F,t,hK,en,hf,k⟩:=h;unfold d2 at hf;obtain ⟨x,hx,hf⟩:=bS hf;obtain ⟨y,hy,hf⟩:=bS hf;unfold cW at hf;split at hf
 . rename_i ks l;obtain ⟨kk,hk,hf⟩:=mS hf;cases hf;refine .inr ⟨Φ,δ,F,x,hK,en,hx,fun v H1 F1 st rv=>⟨Φ,δ,F1,_,hK,en.step st,hy,fun v2 H2 F2 st2 rv2=>?_⟩⟩;obtain ⟨ad,kvs,rfl,h1,h2,h3⟩:=rv2;subst h2;have:=gf rv hk;subst this;refine ⟨ad,_,rfl,.inl ⟨kvs,kk,h1,rfl,rfl⟩,?_⟩;rw [<- kW h3];exact (k.step (st.trans st2)).bl st2.fh
 . exact .inl (jL (r_in true) ⟨Φ,δ,F,t,hK,en,by unfold d2;rw [hx,hy];exact hf,k⟩)
theorem PT.or {X:Cx} {e:Expr} {t t':TT} (h:PT X e t) (h':PT X e t'):PT X e (fun σ H Q=>t σ H Q∨t' σ H Q):=fun pins s σ H Q I q=>q.elim (h pins s σ H Q I) (h' pins s σ H Q I)
theorem wy {K:PySem.W.Frag} {g:Dt->Dt->Option T} {σ:St} {H:Hp} {Q:Bool->Hp->Prop} (h:tTr K (tB2 g fa fb) σ H Q):tO K (d2 g fa fb) σ H (fun v H'=>∃ c,v=.bl c/\Q c H'):=by obtain ⟨Φ,δ,F,t,hK,en,hf,k⟩:=h;unfold tB2 at hf;obtain ⟨z,hz,hf⟩:=bS hf;exact ⟨Φ,δ,F,z,hK,en,hz,fun v H' F' S st o hs=>⟨t,oX hf o,k H' F' st⟩⟩
theorem jT {k:Nat} (hr:Room k X.A) (ha:DB X a fa) (hb:DB X b fb) (hm:qj0 .In b=false:=by with_unfolding_all rfl):DT X (.Compare a [.In] [b] pos) (tB2 (cW false) fa fb):=PT.mono (PT.or (kz yc ha hb hm) (m6 (xP (oK hr) ha hb) hm)) fun σ H Q h=>Aa (wy h)
theorem iR {k:Nat} (hr:Room k X.A) (ha:DB X a fa) (hb:DB X b fb) (hm:qj0 .NotIn b=false:=by with_unfolding_all rfl):DT X (.Compare a [.NotIn] [b] pos) (tB2 (cW true) fa fb):=PT.mono (PT.or (kz qk ha hb hm) (m6 (qc (oK hr) ha hb) hm)) fun σ H Q h=>rW (wy h)
noncomputable def o5:De->Option T:=fun _=>some (.dct [])
theorem u1:DO X (.Dict [] [] pos) o5:=PE.mono rA fun σ H Q ⟨Φ,δ,F,t,hK,en,hf,k⟩=>by
 cases hf;intro p hp;refine k _ _ F (fun b=>b=p) (Step.made en.fh hp) ⟨p,[],rfl,rfl,aT,rfl,by simp [Reps]⟩ fun b z=>?_
 subst z;exact ⟨en.fh.free hp,hp,_,aT⟩
theorem PS.or {X:Cx} {e:Stmt} {t t':TS} (h:PS X e t) (h':PS X e t'):PS X e (fun σ H Q=>t σ H Q∨t' σ H Q):=fun pins s σ H Q I q=>q.elim (h pins s σ H Q I) (h' pins s σ H Q I)
end
section
variable {prog:qb5} {w:World} {A:qd2} {E:Value->qa4->Prop} {s:qa4} {I t:Addr} {j:Nat} {vs:Array Value}
theorem nF {y:Value} {Q:Value->qa4->Prop} (hI:s.heap.IsTupleIter I t j) (hv:s.heap.IsTuple t vs) (hy:vs[j]?=some y)
  (q:∀ h',h'.IsTupleIter I t (j+1)->qm2 I s.heap h'->Q y {s with heap:=h'}):wpAny (model prog w) A (qk8 (.ref I)) Q E s:=by
 obtain ⟨oi,hoi,hci,hdi⟩:=id hI;obtain ⟨ot,hot,_,nt,hdt⟩:=hv;unfold qk8;refine wB (qd9 (name:=qa0 "__next__") hI.typeIs qk2 (qe5 qk2 hI.typeIs qu4 ?_ (qt8 _)));show wpAny _ _ (field (.ref I) 0 >>= _) _ _ s;refine wB (qr3 hoi hdi (x:=.ref t) rfl ?_);show wpAny _ _ (if (qf3 t==qh1)=true then _ else _) _ _ s;rw [if_neg (show ¬ (qf3 t==qh1)=true by exact qb4)];show wpAny _ _ (field (.ref I) 1 >>= _) _ _ s;refine wB (qr3 hoi hdi (x:=.int j 0) rfl ?_);show wpAny _ _ (zf6 (.ref t) >>= _) _ _ s;refine wB (qn1 hot hdt ?_);simp only [qd5,hy];refine qg5 (qi5 hoi hdi (by simp) (qa2 ⟨y,rfl,qa2 (q _ ?_ (qe3 ..))⟩));exact ⟨_,qd4 _ hoi (qh3 (qd6 hdi _)),(qo4 ..).trans hci,by rw [qd6 hdi];simp [qf4]⟩
theorem qm {Q:Value->qa4->Prop} (hh:A.handled=none) (hI:s.heap.IsTupleIter I t j) (hv:s.heap.IsTuple t vs) (hy:vs[j]?=none)
  (q:∀ h' e,ze6 I s.heap h'->(∃ o,h'.get? e=some o/\o.cls=.type "StopIteration")->E (.ref e) {s with heap:=h'}):wpAny (model prog w) A (qk8 (.ref I)) Q E s:=by
 obtain ⟨oi,hoi,hci,hdi⟩:=id hI;obtain ⟨ot,hot,_,nt,hdt⟩:=hv;unfold qk8;refine wB (qd9 (name:=qa0 "__next__") hI.typeIs qk2 (qe5 qk2 hI.typeIs qu4 ?_ (qt8 _)));show wpAny _ _ (field (.ref I) 0 >>= _) _ _ s;refine wB (qr3 hoi hdi (x:=.ref t) rfl ?_);show wpAny _ _ (if (qf3 t==qh1)=true then _ else _) _ _ s;rw [if_neg (show ¬ (qf3 t==qh1)=true by exact qb4)];show wpAny _ _ (field (.ref I) 1 >>= _) _ _ s;refine wB (qr3 hoi hdi (x:=.int j 0) rfl ?_);show wpAny _ _ (zf6 (.ref t) >>= _) _ _ s;refine wB (qn1 hot hdt ?_);simp only [qd5,hy];refine qg5 (qr6 (qg5 (qi5 hoi hdi (by simp) ?_)));show wpAny _ _ (zf7 (.type "StopIteration") [] >>= _) _ _ _;refine wB ?_;simp only [zf7,zh0];refine wB (qc8 ?_ (by first | size_fits | decide));refine qg5 (m:=qk9 _ _) (qu5 (a:=qh1) (by first | rfl | (simp only [qk9]<;>rfl)) ?_);refine qc8 ?_ (by first | size_fits | decide);simp only [zf8];refine wB (qz6 ?_)
 first | rw [hh] | rw [show A.in1.handled=none by exact hh]
 refine wB (qa2 (ze7 ?_));exact q _ _ (((qe3 ..).extBut.push _).push _) ⟨_,qb0 _ rfl,rfl⟩
end
theorem l4 {prog:qb5} {w:World} {A:qd2} (hh:A.handled=none) (I t:Addr) (hne:t≠I) (vs:Array Value):Draws prog w A I [I,t] vs.size (fun i v=>vs[i]?=some v) (fun i h=>h.IsTupleIter I t i/\h.IsTuple t vs) where
 live:=fun _ _ st=>let ⟨o,ho,_⟩:=st.1;⟨o,ho⟩
 frame:=fun _ _ _ st hk=>⟨let ⟨o,ho,r⟩:=st.1;⟨o,hk I (by simp) o ho,r⟩,let ⟨o,ho,r⟩:=st.2;⟨o,hk t (by simp) o ho,r⟩⟩
 item:=fun i s Q E hi st hQ=>nF st.1 st.2 (y:=vs[i]) (by simp [hi]) fun h' a b=>hQ _ h' s.toks (by simp [hi]) ⟨a,let ⟨o,ho,r⟩:=st.2;⟨o,b.extBut _ _ hne ho,r⟩⟩ b
 done:=fun s Q E st hE=>qm hh st.1 st.2 (by simp) hE
noncomputable def SqB (b:Bool) (K:PySem.W.Frag) (H:Hp) (a:Addr) (xs:List V):Prop:=match b with
 | true=>SqL K H a xs
 | false=>SqT K H a xs
noncomputable def ItB (b:Bool) (h:Heap) (I a:Addr) (i:Nat):Prop:=match b with
 | true=>h.IsListIter I a i
 | false=>h.IsTupleIter I a i
noncomputable def CoB (b:Bool) (h:Heap) (a:Addr) (vs:Array Value):Prop:=match b with
 | true=>h.IsList a vs
 | false=>h.IsTuple a vs
theorem ItB.obj {b:Bool} {h:Heap} {I a:Addr} {i:Nat} (x:ItB b h I a i):∃ o,h.get? I=some o/\(o.cls=.type "list_iterator"∨o.cls=.type "tuple_iterator")/\∀ v,o.data≠.cell v:=by
 cases b with
 | true=>obtain ⟨o,e,c,d⟩:=x;exact ⟨o,e,.inl c,fun v z=>by rw [d] at z;cases z⟩
 | false=>obtain ⟨o,e,c,d⟩:=x;exact ⟨o,e,.inr c,fun v z=>by rw [d] at z;cases z⟩
theorem ItB.at {b:Bool} {h h':Heap} {I a:Addr} {i:Nat} (x:ItB b h I a i) (k:∀ o,h.get? I=some o->h'.get? I=some o):ItB b h' I a i:=by
 cases b with
 | true=>obtain ⟨o,e,r⟩:=x;exact ⟨o,k o e,r⟩
 | false=>obtain ⟨o,e,r⟩:=x;exact ⟨o,k o e,r⟩
theorem CoB.obj {b:Bool} {h:Heap} {a:Addr} {vs:Array Value} (x:CoB b h a vs):∃ o,h.get? a=some o/\(o.cls=.type "list"∨o.cls=.type "tuple"):=by
 cases b with
 | true=>obtain ⟨o,e,c,_⟩:=x;exact ⟨o,e,.inl c⟩
 | false=>obtain ⟨o,e,c,_⟩:=x;exact ⟨o,e,.inr c⟩
theorem wz {x y:String} (h:x≠y):qo2 x≠qo2 y:=fun z=>h (by cases z;rfl)
theorem rX {b c:Bool} {h:Heap} {I a l:Addr} {i:Nat} {vs:Array Value} (x:ItB b h I a i) (y:CoB c h l vs):l≠I:=by obtain ⟨o,e1,c1,_⟩:=x.obj;obtain ⟨o',e2,c2⟩:=y.obj;rintro rfl;rw [e1] at e2;cases e2;rcases c1 with c1 | c1<;>rcases c2 with c2 | c2<;>rw [c1] at c2<;>exact absurd c2 (wz (by decide))
section
variable {X:Cx} {pins:List (Addr×Obj)} {σ:St} {H:Hp} {s:qa4} {a I:Addr} {xs:List V} {b:Bool}
theorem Inv.seqB (J:Inv X pins σ H s) (h:SqB b X.K H a xs):∃ its:List Value,Vals xs its/\CoB b s.heap a its.toArray:=by
 cases b with
 | true=>obtain ⟨its,r,p,_⟩:=J.list h;exact ⟨its,r,p.isList⟩
 | false=>obtain ⟨its,r,p,_⟩:=J.tuple h;exact ⟨its,r,p⟩
theorem Inv.seqB_inj {ys:List V} (J:Inv X pins σ H s) (h:SqB b X.K H a xs) (h':SqB b X.K H a ys):xs=ys:=by
 cases b with
 | true=>exact J.list_inj h h'
 | false=>exact J.tuple_inj h h'
theorem rY {prog:qb5} {w:World} {A:qd2} (hh:A.handled=none) (hne:a≠I) (vs:Array Value):Draws prog w A I [I,a] vs.size (fun i v=>vs[i]?=some v) (fun i h=>ItB b h I a i/\CoB b h a vs):=by
 cases b with
 | true=>exact Draws.list hh I a hne vs
 | false=>exact l4 hh I a hne vs
theorem Inv.turnedL {h':Heap} {t':Nat} {fp:List Addr} (J:Inv X pins σ H s) (k:∀ b o,b∉fp->s.heap.get? b=some o->h'.get? b=some o) (hf:∀ b∈fp,fI X pins H b):Inv X pins σ H {s with heap:=h',toks:=t'}:=by
 have nit:∀ b u,H b=some u->b∉fp:=fun b u e z=>by rw [(hf b z).1] at e;cases e
 refine J.step (g':=s.gens) (d':=s.drawn) (ch:=fp) (fun b hb=>?_) (fun b o _ _ hc e _=>k b o hc e) (fun b o _ _ hc e _=>⟨o.slots,k b o hc e⟩) (fun _ _ _ _ n=>n)
  (fun b o hc e=>⟨o,k b o hc e⟩) (fun _ _ e=>e) (fun _ _ _ e=>e) (fun b ps e=>⟨#[],by rw [e];simp⟩) (fun _ _ e=>e) (fun m hm=>?_) (fun b u e=>?_) J.bare
 . exact ⟨(hf b hb).2.2.2.1,(hf b hb).2.1,(hf b hb).2.2.2.2.1,(hf b hb).2.2.2.2.2⟩
 . obtain ⟨o,es,ep,ho,r⟩:=hm;exact ⟨o,es,ep,k _ o (fun z=>(hf _ z).2.1 rfl) ho,r⟩
 . refine (J.hok b u e).stay (fun c v hc q=>k c v ?_ q) (fun _ q=>q) (fun _ _ q=>q) fun _ _ _ q=>q
   rcases hc with z | z
   . rw [z];exact nit b u e
   . exact nit c _ z
end
section
variable {X:Cx} {pins:List (Addr×Obj)} {σ:St} {H:Hp} {s:qa4}
theorem Inv.turnedT {h':Heap} {t':Nat} {fp:List Addr} {t:Addr} {u:HO} (J:Inv X pins σ H s) (k:∀ b o,b∉fp->s.heap.get? b=some o->h'.get? b=some o) (hf:∀ b∈fp,fI X pins H b) (ht:s.heap.objs.size<=t) (new:ObjOk X.prog X.w (upd H t u) h' t u) :
  Inv X pins σ (upd H t u) {s with heap:=h',toks:=t'}:=by
 have nit:∀ b u,H b=some u->b∉fp:=fun b u e z=>by rw [(hf b z).1] at e;cases e
 have hn:H t=none:=J.hok.fresh ht;have net:∀ b v,H b=some v->b≠t:=fun b v e=>bw e hn
 have nlt:∀ b o,s.heap.get? b=some o->b≠t:=fun b o e z=>by subst z;exact absurd (qa8 e) (ql9.mpr ht)
 refine J.step (g':=s.gens) (d':=s.drawn) (ch:=fp) (fun b hb=>?_) (fun b o _ _ hc e _=>k b o hc e) (fun b o _ _ hc e _=>⟨o.slots,k b o hc e⟩) (fun b o _ e n=>by rw [aK (nlt b o e)];exact n)
  (fun b o hc e=>⟨o,k b o hc e⟩) (fun b xs e=>by rw [aK (net b _ e)];exact e) (fun b o v e=>by rw [aK (net b _ e)];exact e) (fun b ps e=>⟨#[],by rw [aK (net b _ e),e];simp⟩) (fun b xs e=>by rw [aK (net b _ e)];exact e) (fun m hm=>?_) (fun b v e=>?_) J.bare
 . exact ⟨(hf b hb).2.2.2.1,(hf b hb).2.1,(hf b hb).2.2.2.2.1,(hf b hb).2.2.2.2.2⟩
 . obtain ⟨o,es,ep,ho,r⟩:=hm;exact ⟨o,es,ep,k _ o (fun z=>(hf _ z).2.1 rfl) ho,r⟩
 . by_cases hb:b=t
   . subst hb;rw [aT] at e;cases e;exact new
   . rw [aK hb] at e;refine (J.hok b v e).stay (fun c ob hc q=>k c ob ?_ q) (fun c q=>by rw [aK (net c _ q)];exact q) (fun c ys q=>by rw [aK (net c _ q)];exact q) fun c ob ys q=>by rw [aK (net c _ q)];exact q
     rcases hc with z | z
     . rw [z];exact nit b v e
     . exact nit c _ z
end
noncomputable def Ite (b:Bool) (K:PySem.W.Frag) (a:Addr):It:=⟨fun i H=>∃ xs x,SqB b K H a xs/\xs[i]?=some x,fun i H x H'=>∃ t v,H t=none/\x=.ref t/\H'=upd H t (.tup [.int i,v])/\∀ xs,SqB b K H a xs->xs[i]?=some v,fun i H=>∃ xs,SqB b K H a xs/\xs.length=i⟩
theorem qo {P:qb5} {w:World} {K:PySem.W.Frag} {elts:List Expr} {n:Nat} {pos:Pos} (b:Bool) (a e I:Addr) (hne:e≠I) :
  Turn P w K (.Tuple elts n pos) (Ite b K a) [e,I] e (fun i h=>(∃ old,IsEnum h e I i old)/\ItB b h I a i) where
 mem:=by simp
 obj:=fun i h st c hc=>by
  obtain ⟨⟨old,st1⟩,st2⟩:=st;simp only [qa9,qh8,or_false] at hc;rcases hc with rfl | rfl
  . exact ⟨_,st1,fun v z=>nomatch z⟩
  . obtain ⟨o,q,_,d⟩:=st2.obj;exact ⟨o,q,d⟩
 keep:=fun i h h' st k=>by obtain ⟨⟨old,st1⟩,st2⟩:=st;exact ⟨⟨old,k e (by simp) _ st1⟩,st2.at fun o q=>k I (by simp) o q⟩
 item:=by
  intro X hP hw hK hc i pins s σ H E J hf st hg;subst hP hw hK;obtain ⟨⟨old,st1⟩,st2⟩:=st;obtain ⟨xs,x,hq,hx⟩:=hg;obtain ⟨its,rv,co⟩:=J.seqB hq;obtain ⟨u,hu,ru⟩:=rv.get hx;have hi:i<its.toArray.size:=by simpa using (gX hu).1
  have hae:e∉[I,a]:=by simp only [qa9,qh8,or_false,not_or];refine ⟨hne,fun z=>?_⟩;obtain ⟨o,q,c⟩:=co.obj;rw [<- z,st1] at q;cases q;rcases c with c | c<;>exact absurd c (wz (by decide))
  refine wpAny_pyNext_enum_itemD (rY (A:=X.A.in1) (b:=b) (I:=I) (a:=a) (show X.A.in1.handled=none from J.ok.hd hc) (rX st2 co) its.toArray) st1 ⟨st2,co⟩ hi hne hae fun y h1 tk hy ho hs1 hT hsz hk=>⟨_,rfl,?_⟩
  have ey:y=u:=by rw [show its.toArray[i]?=its[i]? by simp,hu] at hy;exact (qe1 hy).symm
  subst ey;refine wpAny_letOwnedTupleGo_enum ho fun h2 he2 sb2=>?_
  have kk:∀ c o,c∉[e,I]->s.heap.get? c=some o->h2.get? c=some o:=fun c o hc' q=>by simp only [qa9,qh8,or_false,not_or] at hc';exact (sb2.2 c hc'.1).trans (hk c o hc'.1 hc'.2 q)
  have lt:∀ c∈[e,I],c<s.heap.objs.size:=fun c hc'=>by
   simp only [qa9,qh8,or_false] at hc';rcases hc' with rfl | rfl
   . exact qa8 st1
   . obtain ⟨o,q,_⟩:=st2.obj;exact qa8 q
  -- first the records,then the pair
  have hT2:h2.get? s.heap.objs.size=some {cls:=.type "tuple",data:=.seq #[.int i tk,y]}:=(sb2.2 _ (fun z=>qm3 _ (z▸lt e (by simp)))).trans hT
  have J2:Inv X pins σ (upd H s.heap.objs.size (.tup [.int i,x])) {s with heap:=h2,toks:=tk+1}:=by refine J.turnedT kk hf (nL _) ⟨by show 2<=qa7;decide,[.int i tk,y],.cons ⟨_,rfl⟩ (.cons ru .nil),?_⟩;exact ⟨_,hT2,rfl,_,rfl⟩
  refine ⟨.ref s.heap.objs.size,_,J2,rfl,⟨_,x,J.hok.fresh (qy7 _),rfl,rfl,fun ys hy=>by rw [J.seqB_inj hy hq];exact hx⟩,⟨⟨_,by simpa using he2⟩,hs1.1.at fun o q=>(sb2.2 I (qk6 hne)).trans q⟩,fun c hc'=>?_⟩;rw [aK (qc4 (lt c hc'))];exact (hf c hc').1
 done:=by
  intro X hP hw hK hc i pins s σ H E J hf st hg;subst hP hw hK;obtain ⟨⟨old,st1⟩,st2⟩:=st;obtain ⟨xs,hq,hx⟩:=hg;obtain ⟨its,rv,co⟩:=J.seqB hq;have hi:i=its.toArray.size:=by rw [<- hx];simpa using rv.length
  refine wpAny_pyNext_enum_endD (rY (A:=X.A.in1) (b:=b) (I:=I) (a:=a) (show X.A.in1.handled=none from J.ok.hd hc) (rX st2 co) its.toArray) st1 (show ItB b s.heap I a its.toArray.size/\CoB b s.heap a its.toArray from ⟨hi▸st2,co⟩) fun h' eb=>⟨rfl,?_⟩
  exact J.turnedL (t':=s.toks) (fun c o hc' q=>eb c o (fun z=>hc' (by simp [z])) q) hf
 self:=fun A i s Q E st h=>by obtain ⟨⟨old,st1⟩,st2⟩:=st;exact wpAny_pyIter_enum st1 h
theorem l5 (t:Addr) (vs:Array Value) (n:Nat) (dd:Option Addr) (sl:Array (Option Value)) :
  Meets (qj8.«enumerate.__new__» ⟨[.type "enumerate",.ref t],[]⟩) (fun _ R s=>s.heap.get? t=some {cls:=.type "tuple",dict:=dd,data:=.seq vs n,slots:=sl}∧
   R (.ok (.ret (.ref (s.heap.push {cls:=.type "tuple_iterator",data:=.fields #[.ref t,.int 0 0]}).objs.size)))
    {s with heap:=(s.heap.push {cls:=.type "tuple_iterator",data:=.fields #[.ref t,.int 0 0]}).push {cls:=.type "enumerate",data:=.fields #[.none,.bool false,.ref s.heap.objs.size,qf4 0,.none,.none]}}):=
 .of_wp fun prog w A R s h=>by
  obtain ⟨hp,g,d,tk,os⟩:=s;obtain ⟨ht,h⟩:=h;have hsub:=sub_enumerate;have hT:Heap.IsTuple (qa4.heap ⟨hp,g,d,tk,os⟩) t vs:=⟨_,ht,rfl,n,rfl⟩;wp_walk using qp8 ht;refine wpAny_stack_any fun st=>qa2 ?_
  split
  . rename_i c _ _ _ _ _;cases (c==qo2 "enumerate")<;>(wp_walk using qp8 ht,qv6 hT)<;>exact ⟨_,rfl,h⟩
  . (wp_walk using qp8 ht,qv6 hT)<;>exact ⟨_,rfl,h⟩
section
variable {prog:qb5} {w:World} {A:qd2} {E:Value->qa4->Prop} {s:qa4}
theorem nG {t:Addr} {vs:Array Value} {Q:Value->qa4->Prop} (hT:s.heap.IsTuple t vs)
  (h:∀ h',IsEnum h' (s.heap.objs.size+1) s.heap.objs.size 0 .none->h'.IsTupleIter s.heap.objs.size t 0->h'.objs.size=s.heap.objs.size+2→
   (∀ c u,s.heap.get? c=some u->h'.get? c=some u)->Q (.ref (s.heap.objs.size+1)) {s with heap:=h'}) :
  wpAny (model prog w) A (call (.type "enumerate") [.ref t]) Q E s:=by
 obtain ⟨⟨c,dct,dt,sl⟩,hl,hc,n,hd⟩:=hT;have hc:c=.type "tuple":=hc;have hd:dt=.seq vs n:=hd;subst hc hd;refine callType_new F.called_enumerate (by decide) (F.typeCall_enumerate_1 _) (F.newCall_enumerate_1 _) (fun obj=>F.args_object_init_2 obj _) F.entry_enumerate_new (l5 t vs n dct sl) ⟨hl,?_⟩;have hz:(s.heap.push {cls:=.type "tuple_iterator",data:=.fields #[.ref t,.int 0 0]}).objs.size=s.heap.objs.size+1:=qg8 ..;have hz2:((s.heap.push {cls:=.type "tuple_iterator",data:=.fields #[.ref t,.int 0 0]}).push {cls:=.type "enumerate",data:=.fields #[.none,.bool false,.ref s.heap.objs.size,qf4 0,.none,.none]}).objs.size=s.heap.objs.size+2:=by rw [qg8,hz]
 rw [hz];have hen:=qb0 (s.heap.push {cls:=.type "tuple_iterator",data:=.fields #[.ref t,.int 0 0]}) (o:={cls:=.type "enumerate",data:=.fields #[.none,.bool false,.ref s.heap.objs.size,qf4 0,.none,.none]}) rfl;rw [hz] at hen;exact ⟨⟨_,hen,rfl⟩,h _ hen ⟨_,gP _ (qb0 _ rfl),rfl,rfl⟩ hz2 fun c u z=>gP _ (gP _ z)⟩
theorem nH {b:Bool} {t:Addr} {vs:Array Value} {Q:Value->qa4->Prop} (hT:CoB b s.heap t vs)
  (h:∀ h',IsEnum h' (s.heap.objs.size+1) s.heap.objs.size 0 .none->ItB b h' s.heap.objs.size t 0->h'.objs.size=s.heap.objs.size+2→
   (∀ c u,s.heap.get? c=some u->h'.get? c=some u)->Q (.ref (s.heap.objs.size+1)) {s with heap:=h'}) :
  wpAny (model prog w) A (call (.type "enumerate") [.ref t]) Q E s:=by
 cases b with
 | true=>exact call_enumerate_list hT h
 | false=>exact nG hT h
end
section
variable {X:Cx} {x:Expr} {p pos tpos:Pos} {sc:Scope} {fs:De->Option (List Dt)} {elts:List Expr} {n:Nat}
noncomputable def Ab (K:PySem.W.Frag) (ta:TA):TI:=fun σ H R=>ta σ H fun vs H1=>∃ b a xs,vs=[.ref a]/\SqB b K H1 a xs/\R (Ite b K a) H1
theorem u2 {ta:TA} (h:aF sc "enumerate"=true) (hm:X.mg "enumerate"=none) (ha:PA X [x] ta) (e1:bZ X sc:=by rfl) (hs:qa6 [x] X.env=[(false,eval x X.env)]:=by rfl) :
  PI X (.Tuple elts n tpos) (.Call (.Name "enumerate" p) [x] [] pos) (Ab X.K ta):=by
 intro pins s σ H R I h';refine Call_ (fH I (glD h e1) hm kL (qj5 (thn (ha pos pins s σ H _ I h') fun us s1 ⟨vs,H1,I1,r1,q1⟩=>?_) hs rfl));obtain ⟨b,a,xs,rfl,hq,q⟩:=q1;obtain ⟨u,rfl,ru⟩:=fA r1;cases ru;obtain ⟨its,rv,co⟩:=I1.seqB hq;refine nH co fun h2 he hi hz hk=>wpAny_pyIter_enum he ?_
 have I2:Inv X pins σ H1 {s1 with heap:=h2}:=I1.kept (t':=s1.toks) hk;refine ⟨s1.heap.objs.size+1,[s1.heap.objs.size+1,s1.heap.objs.size],_,_,H1,rfl,I2,qo b a _ _ (qn4 (qm9 _)),⟨⟨_,he⟩,hi⟩,fun c hc=>?_,q⟩
 have hge:s1.heap.objs.size<=c:=by
  simp only [qa9,qh8,or_false] at hc;rcases hc with rfl | rfl
  . exact qn8 _
  . exact nL _
 exact I1.fpOk hge (I1.hok.fresh hge)
noncomputable def cu (i:Nat):List Dt->List Dt
 | []=>[]
 | d::r=>.tup [.int i,d]::cu (i+1) r
theorem jU:∀ (l:List Dt) (i:Nat),(cu i l).length=l.length
 | [],_=>rfl
 | _::r,i=>by simp [cu,jU r]
theorem jV:∀ (l:List Dt) (i k:Nat),(cu i l)[k]?=l[k]?.map fun d=>.tup [.int ((i+k:Nat):Int),d]
 | [],i,k=>by simp [cu]
 | d::r,i,0=>by simp [cu]
 | d::r,i,k+1=>by simp [cu,jV r,Nat.add_assoc,Nat.add_comm 1]
noncomputable def hW:List Dt->Option (List Dt)
 | [.lst l]=>some (cu 0 l)
 | [.tup l]=>some (cu 0 l)
 | _=>none
theorem rZ {K:PySem.W.Frag} {F:Hp} {d e:Dt} {v w:V} {t:Addr} (h:F t=some (.tup [v,w])) (r:Rep K F d v) (r':Rep K F e w):Rep K F (.tup [d,e]) (.ref t):=by simp only [Rep,Reps];exact ⟨t,_,rfl,SqT.of h,v,[w],rfl,r,w,[],rfl,r',rfl⟩
theorem jW {K:PySem.W.Frag} {F:Hp} {b:Bool} {a:Addr} {xs:List V} {l:List Dt} (r:Reps K F l xs):oY K F (Ite b K a) (cu 0 l) (fun H=>SqB b K H a xs):=fun i H F2 hok fh ff=>by have hl:=r.length;rw [jU];refine ⟨fun h=>⟨xs,xs[i],hok,by simp [show i<xs.length by lia]⟩,fun h=>⟨xs,hok,by lia⟩,fun x H' hi hy=>?_⟩;obtain ⟨t,v,ht,rfl,rfl,hv⟩:=hy;have hx:=hv xs hok;obtain ⟨d,hd,rd⟩:=r.same_get hx;refine ⟨_,upd F2 t (.tup [.int i,v]),?_,Step.new fh ht,rZ aT f8 ((rd.same ff).same (Same.upd (fh.free ht)))⟩;rw [jV,hd];simp
theorem d7 (h:aF sc "enumerate"=true) (hm:X.mg "enumerate"=none) (ha:DA X [x] fs) (e1:bZ X sc:=by rfl) (hs:qa6 [x] X.env=[(false,eval x X.env)]:=by rfl) :
  DIF X (.Tuple elts n tpos) (.Call (.Name "enumerate" p) [x] [] pos) (dh hW fs):=PI.mono (u2 h hm ha.pa e1 hs) fun σ H R ⟨Φ,δ,F,ds,hK,en,hf,k⟩=>by
 unfold dh at hf;obtain ⟨as,hd,hf⟩:=bS hf;refine ⟨Φ,δ,F,as,hK,en,hd,fun vs H' F' st r=>?_⟩;unfold hW at hf;split at hf<;>first | (cases hf;done) | skip
 . cases hf;simp only [Reps,Rep] at r;obtain ⟨v,ws,rfl,⟨a,xs,rfl,h1,h2⟩,rfl⟩:=r;exact ⟨true,a,xs,rfl,st.fh.seq h1,k _ _ H' F' st (jW (b:=true) h2) fun H2 s=>s.seq h1⟩
 . cases hf;simp only [Reps,Rep] at r;obtain ⟨v,ws,rfl,⟨a,xs,rfl,h1,h2⟩,rfl⟩:=r;exact ⟨false,a,xs,rfl,st.fh.tup h1,k _ _ H' F' st (jW (b:=false) h2) fun H2 s=>s.tup h1⟩
end
section
variable {prog:qb5} {w:World} {A:qd2} {E:Value->qa4->Prop} {s:qa4} {z ti tO i1 i2:Addr} {fp1 fp2:List Addr} {n1 n2 k:Nat} {P1 P2:Nat->Value->Prop} {S1 S2:Nat->Heap->Prop} {va vb:Value}
end
section
variable {prog:qb5} {w:World} {A:qd2} {E:Value->qa4->Prop} {s:qa4}
end
section
variable {X:Cx} {pins:List (Addr×Obj)} {σ:St} {H:Hp} {s:qa4} {a:Addr} {xs ys:List V} {b c:Bool}
end
section
variable {X:Cx} {x y:Expr} {p pos tpos:Pos} {sc:Scope} {fs:De->Option (List Dt)} {elts:List Expr} {n:Nat}
end
section
variable {X:Cx} {o a b e c:Expr} {es:List Expr} {fa fb fo fe:De->Option Dt} {fs:De->Option (List Dt)} {pos apos cpos p:Pos} {i:Nat}
end
theorem l6 {K:PySem.W.Frag} {F F':Hp} {d:Dt} {v:V} (r:Rep K F d v) (h:bG d=true):Rep K F' d v:=by cases d<;>first | (cases h;done) | (simp only [Rep] at r ⊢;exact r)
section
variable {X:Cx} {e:Expr} {es:List Expr} {fs:De->Option (List Dt)} {pos p:Pos} {x:Str} {sc:Scope}
end
noncomputable def u3 (P:qb5) (w:World) (K:PySem.W.Frag) (mg:Str->Option Value) (x:Str) (ks:List Key) (l:List Dt):Prop:=∃ (a:Addr) (kvs:List (Key×V)) (vs:List (Key×Value)),mg x=some (.ref a)/\(a==qi1)=false/\kvs.map (·.1)=ks/\(∀ F,Reps K F l (kvs.map (·.2)))/\KV kvs vs/\∀ h:Heap,K.In h->h.DictOf (bn P w) a vs
noncomputable def gSg (ks:List Key) (l:List Dt):Dt->Option T:=fun k=>(kU k).bind fun k=>(dO ks l k).map .leaf
noncomputable def vSg (ks:List Key) (l:List Dt) (f:De->Option Dt):De->Option T:=fun δ=>(f δ).bind (gSg ks l)
noncomputable def gSi (neg:Bool) (ks:List Key) (l:List Dt):Dt->Option Bool:=fun k=>(kU k).map fun k=>if neg then !(dO ks l k).isSome else (dO ks l k).isSome
noncomputable def fSi (neg:Bool) (ks:List Key) (l:List Dt) (f:De->Option Dt):De->Option Bool:=fun δ=>(f δ).bind (gSi neg ks l)
section
variable {X:Cx} {b:Expr} {fb:De->Option Dt} {pos p:Pos} {x:Str} {sc:Scope} {ks:List Key} {l:List Dt}
noncomputable def tSg (kvs:List (Key×V)) (ty:TE):TE:=fun σ H Q=>ty σ H fun y H1=>∃ k v,y=kV k/\d5 kvs k=some v/\Q v H1
noncomputable def tSi (neg:Bool) (kvs:List (Key×V)) (ty:TE):TE:=fun σ H Q=>ty σ H fun y H1=>∃ k,y=kV k/\Q (.bl (if neg then !(d5 kvs k).isSome else (d5 kvs k).isSome)) H1
theorem Ac {a:Addr} {kvs:List (Key×V)} {vs:List (Key×Value)} {ty:TE} (h:aF sc x=true) (hg:X.mg x=some (.ref a)) (rel:KV kvs vs) (hD:∀ h:Heap,X.K.In h->h.DictOf (bn X.prog X.w) a vs) (hb:PE X b ty) (hn:rq b) (e1:bZ X sc:=by rfl) :
  PE X (.Subscript (.Name x p) b pos) (tSg kvs ty):=by
 intro pins s σ H Q I q;have hx:PE X (.Name x p) (tC (.ref a)):=iI h ⟨_,hg,rfl⟩ e1;refine oI PySem.F.slot_dict_getitem.lookup hn (thn (hx pins s σ H (fun y H1=>y=.ref a/\tSg kvs ty σ H1 Q) I ⟨rfl,q⟩) fun u s1 ⟨y0,H1,I1,rx,e0,q1⟩=>thn (hb pins s1 σ H1 _ I1 q1) fun iv s2 ⟨y,H2,I2,ry,k,v,ey,hv,q2⟩=>?_);subst e0 ey;obtain rfl:u=qf3 a:=rx;have dd:=hD _ I2.kIn;obtain ⟨w',hw,rw'⟩:=RelO.some_of (v:=v) (o:=ze5 vs k) (by rw [<- hv];exact rel.val k);exact ⟨dd.typeIs,wpAny_getItem_of (iD ry) dd.mapOf hw ⟨v,H2,I2.tok _,rw',q2⟩⟩
theorem yg {a:Addr} {kvs:List (Key×V)} {vs:List (Key×Value)} {ty:TE} (h:aF sc x=true) (hg:X.mg x=some (.ref a)) (hs:(a==qi1)=false) (rel:KV kvs vs) (hD:∀ h:Heap,X.K.In h->h.DictOf (bn X.prog X.w) a vs) (hb:PE X b ty) (e1:bZ X sc:=by rfl) :
  PC X .NotIn b (.Name x p) (tSi true kvs ty):=by
 intro pins s σ H Q I q;have hx:PE X (.Name x p) (tC (.ref a)):=iI h ⟨_,hg,rfl⟩ e1;refine thn (hb pins s σ H _ I q) fun iv s1 ⟨y,H1,I1,ry,k,ey,q1⟩=>thn (hx pins s1 σ H1 (fun y H2=>y=.ref a/\Q (.bl (!(d5 kvs k).isSome)) H2) I1 ⟨rfl,q1⟩) fun u s2 ⟨y0,H2,I2,rx,e0,q2⟩=>?_
 subst e0 ey;obtain rfl:u=qf3 a:=rx;have dd:=hD _ I2.kIn;refine wpAny_notIn_of (iD ry) hs dd.mapOf ?_;rw [<- (rel.val k).isSome_eq];exact ⟨.bl (!(d5 kvs k).isSome),H2,I2.tok _,rfl,q2⟩
theorem Ad (h:aF sc x=true) (hm:u3 X.prog X.w X.K X.mg x ks l) (hb:DB X b fb) (e1:bZ X sc:=by rfl) (hn:rq b:=by exact fun _ _=>rfl):DO X (.Subscript (.Name x p) b pos) (vSg ks l fb):=by
 obtain ⟨a,kvs,vs,hg,hs,rfl,hR,rel,hD⟩:=hm;refine PE.mono (Ac h hg rel hD hb hn e1) fun σ H Q ⟨Φ,δ,F,t,hK,en,hf,k⟩=>?_
 unfold vSg at hf;obtain ⟨y,hy,hf⟩:=bS hf;obtain ⟨kk,hk,hf⟩:=bS hf;obtain ⟨d,hd,hf⟩:=mS hf;cases hf;refine ⟨Φ,δ,F,y,hK,en,hy,fun v H1 F1 st rv=>?_⟩;obtain ⟨w,hw,rw'⟩:=fj (hR F1) hd;exact ⟨kk,w,gf rv hk,hw,(k.step st).leaf.here st.fh rw'⟩
theorem Ae {neg:Bool} {K:PySem.W.Frag} {kvs:List (Key×V)} (hR:∀ F,Reps K F l (kvs.map (·.2))) {σ:St} {H:Hp} {Q:Bool->Hp->Prop} (h:tTr K (fSi neg (kvs.map (·.1)) l fb) σ H Q):tSi neg kvs (tBd K fb) σ H (fun v H'=>∃ c,v=.bl c/\Q c H'):=by obtain ⟨Φ,δ,F,t,hK,en,hf,k⟩:=h;unfold fSi at hf;obtain ⟨y,hy,hf⟩:=bS hf;obtain ⟨kk,hk,hf⟩:=mS hf;subst hf;refine ⟨Φ,δ,F,y,hK,en,hy,fun v H1 F1 st rv=>⟨kk,gf rv hk,_,rfl,?_⟩⟩;rw [<- kW (hR F1)];exact k H1 F1 st
theorem yh (h:aF sc x=true) (hm:u3 X.prog X.w X.K X.mg x ks l) (hb:DB X b fb) (e1:bZ X sc:=by rfl) (hk:qj0 .NotIn (.Name x p)=false:=by with_unfolding_all rfl):DT X (.Compare b [.NotIn] [.Name x p] pos) (fSi true ks l fb):=by obtain ⟨a,kvs,vs,hg,hs,rfl,hR,rel,hD⟩:=hm;exact PT.mono (m6 (yg h hg hs rel hD hb e1) hk) fun σ H Q q=>Ae hR q
end
noncomputable def sEnt (p:Params) (q:Str×Tok×V×Value):zh4:=⟨qj3 p q.1,.str q.1 q.2.1,q.2.2.2⟩
theorem u4 {P:qb5} {w:World} {K:PySem.W.Frag} {mg:Str->Option Value} {x:Str} {a:Addr} {o:Obj} {ep:Nat} {l:List Dt} (rs:List (Str×Tok×V×Value)) (hm:mg x=some (.ref a)) (hl:K.lookup a=some o) (hc:o.ExactDict) (hd:o.data=.dict (rs.map (sEnt w.params)).toArray ep)
  (hs:(a==qi1)=false) (hn:(rs.map (·.1)).Nodup) (hv:∀ r∈rs,RelV r.2.2.1 r.2.2.2) (hR:∀ F,Reps K F l (rs.map (·.2.2.1))):u3 P w K mg x (rs.map fun r=>.inr r.1) l:=by
 refine ⟨a,rs.map fun r=>(.inr r.1,r.2.2.1),rs.map fun r=>(.inr r.1,r.2.2.2),hm,hs,by rw [qd0];rfl,fun F=>by rw [qd0];exact hR F,?_,fun h X=>⟨o,_,ep,X a o hl,hc,hd,?_,?_,?_⟩⟩
 . clear hd hn hR;induction rs with
   | nil=>exact .nil
   | cons r rs ih=>exact .cons ⟨rfl,hv r qf0⟩ (ih fun r hr=>hv r (qe4 _ hr))
 . intro e he;obtain ⟨r,_,rfl⟩:=qc1.mp (List.mem_toArray.mp he);exact ⟨.inr r.1,ev P w r.1 r.2.1,rfl⟩
 . show Pairs (bn P w) (rs.map (sEnt w.params)) _;clear hd hn hR hv;induction rs with
   | nil=>exact .nil
   | cons r rs ih=>exact .cons (ev P w r.1 r.2.1) rfl ih
 . rw [qd0];have:(rs.map ((fun x:Key×Value=>x.1) ∘ fun r=>((qw5 r.1:Key),r.2.2.2)))=(rs.map (·.1)).map qw5:=by rw [qd0];rfl
   rw [this];exact List.Pairwise.map _ (fun a b h q=>h (qw5.inj q)) hn
theorem cz {K:PySem.W.Frag} {a:Addr} {o:Obj} {its:Array Value} {n:Nat} {xs:List V} {ds:List Dt} (hl:K.lookup a=some o) (hc:o.cls=.type "tuple") (hd:o.data=.seq its n) (hr:Vals xs its.toList) (hz:xs.length<=qa7) {F:Hp} (hx:Reps K F ds xs):Rep K F (.tup ds) (.ref a):=by simp only [Rep];exact ⟨a,xs,rfl,.inr ⟨o,its,n,hl,hc,hd,by rw [<- qe2,<- hr.length];exact hz,hr⟩,hx⟩
theorem r0 {K:PySem.W.Frag} {mg:Str->Option Value} {x:Str} {a:Addr} {o:Obj} {its:Array Value} {n:Nat} {xs:List V} {ds:List Dt} (hm:mg x=some (.ref a)) (hl:K.lookup a=some o) (hc:o.cls=.type "tuple") (hd:o.data=.seq its n) (hr:Vals xs its.toList) (hz:xs.length<=qa7) (hx:∀ F,Reps K F ds xs):rV K mg x (.tup ds):=⟨.ref a,⟨_,hm,rfl⟩,fun F=>cz hl hc hd hr hz (hx F)⟩
inductive RepsI (K:PySem.W.Frag) (F:Hp):List Dt->List V->Prop
 | nil:RepsI K F [] []
 | cons {d:Dt} {v:V} {l:List Dt} {vs:List V}:Rep K F d v->RepsI K F l vs->RepsI K F (d::l) (v::vs)
theorem u5 {K:PySem.W.Frag} {F:Hp} {l:List Dt} {vs:List V} (h:RepsI K F l vs):Reps K F l vs:=by
 induction h with
 | nil=>simp [Reps]
 | cons h _ ih=>simp only [Reps];exact ⟨_,_,rfl,h,ih⟩
section
variable {X:Cx} {elt tg iter:Expr} {ifs:List Expr} {scope:Scope} {pos:Pos} {M:List Str} {src:List (Option Nat)} {wi:TI} {g:TG} {tt:TT} {te:TE}
theorem qp {pins:List (Addr×Obj)} {s:qa4} {σ:St} {H:Hp} {Q:VK} {cpos:Pos} {use:Option (Value->Sem Unit)} {QQ:Value->qa4->Prop} (S:CmpScope X.N X.env.scope scope M src) (hc:X.calm=true) (hi:PI X tg iter wi) (hg:M.Nodup->∀ C s H ex,PG (cxC X M scope C s H ex) tg g) (ht:∀ C s H ex,PTs (cxC X M scope C s H ex) ifs tt)
  (he:∀ C s H ex,PE (cxC X M scope C s H ex) elt te) (hs:∀ x,qf7 iter X.env x=pure x) (I:Inv X pins σ H s) (h:jJ src wi g tt te σ H Q)
  (hfin:∀ (D C:Addr) (H':Hp) (s':qa4) (m:Str->Option Value),Inv X pins σ H' s'->fI X pins H' C->s'.heap.Ns C m->Q (.ref D) H'->zd6 (model X.prog X.w) X.A X.xe use QQ (.ref D) C (.ok .next) s') :
  wpAny (model X.prog X.w) X.A (comprehension (.ListComp elt [⟨tg,iter,ifs,0⟩] scope pos) scope X.env cpos (newList []) false (eval iter X.env) use) QQ X.xe s:=by
 have hcells:∀ x∈scope.names,x.2=.free->∃ c,X.env.cells.lookup x.1=some c:=fun x hx hfr=>I.ok.has x.1 (S.free x hx hfr)
 refine qx5 (use:=use) rfl hs (iF hcells) S.kind S.names (thn (hi pins s σ H _ I h) fun v s1 h1=>thn h1 fun itv s2 h2=>?_);obtain ⟨it,fp,tn,J,H2,rfl,I2,T,st2,f2,hq⟩:=h2;refine qc8 ?_;have I3:Inv X pins σ (upd H2 s2.heap.objs.size (.lst [])) {s2 with heap:=s2.heap.push {cls:=.type "list",dict:=none,data:=.seq ([]:List Value).toArray},toks:=s2.toks}:=I2.lnew (its:=[]) (ys:=[]) (t':=s2.toks) .nil (by simp);have hD:H2 s2.heap.objs.size=none:=I2.fresh;obtain ⟨W,⟨m0,w0⟩,turn⟩:=hq _ hD;generalize hDn:s2.heap.objs.size=D at*
 generalize hs3:({s2 with heap:=s2.heap.push {cls:=.type "list",dict:=none,data:=.seq ([]:List Value).toArray},toks:=s2.toks}:qa4)=s3 at*
 have f3:∀ b∈fp,fI X pins (upd H2 D (.lst [])) b:=fun b hb=>⟨by obtain ⟨o,e,_⟩:=T.obj _ _ st2 b hb;rw [aK (by rw [<- hDn];exact qc4 (qa8 e))];exact (f2 b hb).1,(f2 b hb).2⟩
 have k23:∀ b o,s2.heap.get? b=some o->s3.heap.get? b=some o:=fun b o e=>by rw [<- hs3];exact gP _ e
 have st3:tn 0 s3.heap:=T.keep _ _ _ st2 fun b _ o e=>k23 b o e
 have fl3:∀ b∈fp,b<s3.heap.objs.size:=fun b hb=>by obtain ⟨o,e,_⟩:=T.obj _ _ st3 b hb;exact qa8 e
 refine wpAny_newFunctionEnv S.nocell (by intro y hy;simp at hy) (fun h₁ hns₁ hsb₁=>?_) S.kind;have k34:∀ b o,s3.heap.get? b=some o->h₁.get? b=some o:=fun b o e=>hsb₁.extBut b o (qc4 (qa8 e)) (gP _ e)
 generalize hs4:({s3 with heap:=h₁,toks:=s3.toks+([]:List (Str×Value)).length}:qa4)=s4
 have I4:Inv (cxC X M scope s3.heap.objs.size s3 (upd H2 D (.lst [])) fp) [] (stC src σ) (upd H2 D (.lst [])) s4:=by rw [<- hs4];exact lM S I3 f3 fl3 hns₁ k34 rfl rfl
 have st4:tn 0 s4.heap:=T.keep _ _ _ st3 fun b _ o e=>by rw [<- hs4];exact k34 b o e
 generalize hX':cxC X M scope s3.heap.objs.size s3 (upd H2 D (.lst [])) fp=X' at*
 have hg':PG X' tg g:=by rw [<- hX'];exact hg S.nd _ _ _ _
 have ht':PTs X' ifs tt:=by rw [<- hX'];exact ht _ _ _ _
 have he':PE X' elt te:=by rw [<- hX'];exact he _ _ _ _
 have eP:X'.prog=X.prog:=by rw [<- hX'];rfl
 have eW:X'.w=X.w:=by rw [<- hX'];rfl
 have eK:X'.K=X.K:=by rw [<- hX'];rfl
 have eA:X'.A=X.A:=by rw [<- hX'];rfl
 have ex':X'.xe=fun _ _=>False:=by rw [<- hX'];rfl
 have ec:X'.calm=true:=by rw [<- hX'];exact hc
 have eE:X'.env=compEnvC scope (lK scope.names X.env.cells) s3.heap.objs.size X.env:=by rw [<- hX'];rfl
 have stat:∀ {H':Hp},(∀ b∈fp,H' b=none)->∀ b∈fp,fI X' [] H' b:=fun hn b hb=>by
  rw [<- hX'];refine ⟨hn b hb,qc4 (fl3 b hb),fun z=>?_,.inl hb,fun x c h=>(f3 b hb).2.2.2.2.1 x c (eI hcells h),fun p hp=>absurd hp (by simp [cxC])⟩;rcases qa9.mp (I3.stkSub b z) with q | q
  . exact (f3 b hb).2.1 q
  . exact (f3 b hb).2.2.1 q
 -- behind the block
 have fin:∀ (H':Hp) (s':qa4),Inv X' [] (stC src σ) H' s'->Q (.ref D) H'->zd6 (model X.prog X.w) X.A X.xe use QQ (.ref D) s3.heap.objs.size (.ok .next) s':=by
  intro H' s' J' q;rw [<- hX'] at J';obtain ⟨m,hn,_⟩:=id J'.loc;have hC:H' s3.heap.objs.size=none:=J'.free;have un:Un (frs X.stack) fp (upd H2 D (.lst [])) H' s3.heap s'.heap:=J'.base;have IA:Inv X pins σ H' s':=I3.call' (s':=s') (show s'.os=s3.os from J'.os) un J'.hok J'.bare fun b hb=>⟨(f3 b hb).2.2.2.1,(f3 b hb).2.1,(f3 b hb).2.2.2.2.1,(f3 b hb).2.2.2.2.2⟩
  exact hfin D _ H' s' m IA (I3.fpOk (nL _) hC) hn q
 have loop:∀ s4':qa4,s4'=s4->qs7 (model X.prog X.w) X.A (.compLoop (.ListComp elt [⟨tg,iter,ifs,0⟩] scope pos) 0 (.ref it) (.ref D) X'.env) (zd6 (model X.prog X.w) X.A X.xe use QQ (.ref D) s3.heap.objs.size) s4':=by
  rintro _ rfl;refine fX (fun n s'=>∃ i H',Inv X' [] (stC src σ) H' s'/\tn i s'.heap/\(∀ b∈fp,H' b=none)/\W i n H') ?_ m0 ⟨0,_,I4,st4,fun b hb=>(f3 b hb).1,w0⟩;rintro n s5 ⟨i,H5,I5,st5,fr5,w5⟩;rcases turn i n H5 w5 with ⟨stop,qn⟩ | ⟨go,N,hN,step⟩
  . have:=T.done X' eP eW eK ec i [] s5 (stC src σ) H5 (fun _ _=>False) I5 (stat fr5) st5 stop;rw [eA] at this;refine thn this fun r s6 ⟨hr,I6⟩=>?_
    subst hr;exact fin H5 s6 I6 qn
  . have:=T.item X' eP eW eK ec i [] s5 (stC src σ) H5 (fun _ _=>False) I5 (stat fr5) st5 go;rw [eA] at this;refine thn this fun r s6 ⟨u,hr,h6⟩=>?_
    subst hr;refine thn h6 fun _ s7 ⟨x,H7,I7,r7,y7,st7,fr7⟩=>?_
    have I7':=I7.pinned (stat fr7) (T.obj _ _ st7);have a1:=hg' _ s7 (stC src σ) H7 x u _ I7' r7 (step x H7 y7);rw [ex',eP,eW,eA] at a1;refine thn a1 fun _ s8 ⟨σ8,H8,I8,wk8,q8⟩=>?_
    have a2:=ht' _ s8 σ8 H8 _ I8 q8;rw [ex',eP,eW,eA] at a2;refine thn a2 fun ok s9 ⟨H9,I9,q9⟩=>?_
    have again:∀ {H7':Hp} {s':qa4},Inv X' ([]++gy fp s7.heap) σ8 H7' s'->N H7'->∃ m,m<n/\∃ i H',Inv X' [] (stC src σ) H' s'/\tn i s'.heap/\(∀ b∈fp,H' b=none)/\W i m H':=fun {H7' s'} J7 n7=>by obtain ⟨m',hm,w7⟩:=hN H7' n7;refine ⟨m',hm,i+1,H7',J7.unpinned.weak wk8.1 wk8.2,T.keep _ _ _ st7 fun b hb o e=>(J7.pin (b,o) (qc7 _ (qc7 _ (cG hb e)))).1,fun b hb=>?_,w7⟩;obtain ⟨o,e,d⟩:=T.obj _ _ st7 b hb;exact (J7.pin (b,o) (qc7 _ (qc7 _ (cG hb e)))).2.1
    cases ok with
    | false=>exact again I9 q9
    | true =>
     have a3:=he' _ s9 σ8 H9 _ I9 q9;rw [ex',eP,eW,eA] at a3;refine thn a3 fun v s10 ⟨y,H10,I10,r10,ys,hl,hz,q10⟩=>?_
     have a4:=eZ (X:=X') _ s10 σ8 H10 (.ref D) [y] (.ref D) [v] (fun _ H'=>N H') I10 rfl (.cons r10 .nil) ⟨D,ys,y,rfl,rfl,hl,hz,q10⟩;rw [ex',eP,eW,eA] at a4;refine thn a4 fun _ s11 ⟨_,H11,I11,_,q11⟩=>?_
     exact again I11 q11
 have e4:∀ c:Env,c=X'.env->qs7 (model X.prog X.w) X.A (.compStart (.ListComp elt [⟨tg,iter,ifs,0⟩] scope pos) 0 (.ref it) (.ref D) c) (zd6 (model X.prog X.w) X.A X.xe use QQ (.ref D) s3.heap.objs.size) s4:=by rintro _ rfl;exact za9 (loop _ rfl) (T.self _ _ _ _ _ st4 (loop _ rfl))
 exact e4 _ (by rw [eE];rfl)
theorem o6 {i:Nat} {y:Str} {py spos:Pos} (hN:X.N.Nodup) (hi':X.N[i]?=some y) (hx:Loc X.env.scope y) (hf:X.fn y=true∨X.env.scope.names.lookup y=some .local)
  (S:CmpScope X.N X.env.scope scope M src) (hc:X.calm=true) (hi:PI X tg iter wi) (hg:M.Nodup->∀ C s H ex,PG (cxC X M scope C s H ex) tg g) (ht:∀ C s H ex,PTs (cxC X M scope C s H ex) ifs tt)
  (he:∀ C s H ex,PE (cxC X M scope C s H ex) elt te) (hs:∀ x,qf7 iter X.env x=pure x)
  (hsw:qm6 (.ListComp elt [⟨tg,iter,ifs,0⟩] scope pos) (some (.Name y py)) spos.line X.env=pure true) :
  PS X (.Assign [.Name y py] (.ListComp elt [⟨tg,iter,ifs,0⟩] scope pos) spos) (uw (jJ src wi g tt te) (g8 i)):=by
 intro pins s σ H D I h;rw [exec_Assign_Name_used _ _ _ _ hsw];refine wB (zf1 (wB ?_));show wpAny _ X.A (do let _ <- comprehension (.ListComp elt [⟨tg,iter,ifs,0⟩] scope pos) scope X.env _ (newList []) false (eval iter X.env) (some (zb5 (.Name y py) X.env))) _ _ s;refine wB (qk3 (qp (use:=some (zb5 (.Name y py) X.env)) (QQ:=fun _ s'=>∃ σ' H',Inv X pins σ' H' s'/\D.nx σ' H') S hc hi hg ht he hs I h ?_) (fun _ s' hq=>qa2 (qa2 hq)) fun _ _ e=>e);intro Dd C H' s' m IA hC hn q;show wpAny _ X.A (zb5 (.Name y py) X.env (.ref Dd)) _ _ s';refine wpAny_assign_Name (jy IA hN hi' hx (v:=.ref Dd) rfl (fun s2 I2 hsb=>?_) hf);obtain ⟨a,sb,ha⟩:=hsb
 have ne:C≠a:=by
  rcases ha with rfl | ha
  . exact hC.2.1
  . exact qk6 (hC.2.2.2.2.1 y a ha)
 refine ⟨m,hn.sameBut sb ne,fun h3 sb3=>⟨_,H',?_,q⟩⟩;have kC:∀ b o,b≠C->s2.heap.get? b=some o->h3.get? b=some o:=fun b o hb e=>sb3.extBut b o hb e
 have nm:∀ {b:Addr},b∉[C]->b≠C:=fun hb z=>hb (by rw [z];exact qf0)
 refine I2.call' (s':={s2 with heap:=h3}) (ch:=[C]) rfl ⟨fun b o e n hb hx=>kC b o (nm hx) e,fun b o e n hb hx=>⟨o.slots,kC b o (nm hx) e⟩,fun b o e n hx=>n,fun b o e hx=>⟨o,kC b o (nm hx) e⟩,fun b xs e=>e,fun b o u e=>e,fun b ps e=>⟨#[],by rw [Array.append_empty];exact e⟩,fun b qs e=>e⟩ ?_ I2.bare fun b hb=>?_
 . intro b u e;have nb:b≠C:=fun z=>by rw [z,hC.1] at e;cases e
   refine (I2.hok b u e).stay (fun c v hc' q=>kC c v ?_ q) (fun _ q=>q) (fun _ _ q=>q) fun _ _ _ q=>q
   rcases hc' with z | z
   . rw [z];exact nb
   . intro w;rw [w,hC.1] at z;cases z
 . cases qb7.mp hb;exact ⟨hC.2.2.2.1,hC.2.1,hC.2.2.2.2.1,hC.2.2.2.2.2⟩
end
section
variable {X:Cx} {elt tg iter:Expr} {ifs:List Expr} {scope:Scope} {pos:Pos} {M:List Str} {src:List (Option Nat)} {fi:De->Option (List Dt)} {ft:De->Option Bool} {fe:De->Option Dt} {i:Nat}
theorem r6 {K:PySem.W.Frag} {f:De->Option T} {σ:St} {H:Hp} {Q:VK} (h:tO K (toT (toD f)) σ H Q):tO K f σ H Q:=by
 obtain ⟨Φ,δ,F,t,hK,en,hf,k⟩:=h;unfold toT toD at hf;cases ht:f δ with
 | none=>rw [ht] at hf;cases hf
 | some u =>rw [ht] at hf;cases hf;exact ⟨Φ,δ,F,u,hK,en,ht,k.leaf.to⟩
theorem r8 {sc:Scope} {N:List Str} {y:Str} {py spos:Pos} {ts:List Nat} {bb:Dt->De->Option De} (h:dE sc N i y=true) (hl:iH sc y=true) (nd:N.Nodup) (S:CmpScope X.N X.env.scope scope M src) (hc:X.calm=true) (hi:DIB X tg iter fi) (hg:M.Nodup->∀ C s H ex,DG (cxC X M scope C s H ex) tg ts bb)
  (ht:∀ C s H ex,DTs (cxC X M scope C s H ex) ifs ft) (he:∀ C s H ex,DL (cxC X M scope C s H ex) elt fe) (hts:(ts.all fun k=>decide (src[k]?=some none))=true) (hs:∀ x,qf7 iter X.env x=pure x:=by intro _;rfl)
  (e1:bZ X sc:=by rfl) (e2:X.N=N:=by rfl) (hf:X.fn y=true∨X.env.scope.names.lookup y=some .local:=by exact .inl rfl) (hsw:qm6 (.ListComp elt [⟨tg,iter,ifs,0⟩] scope pos) (some (.Name y py)) spos.line X.env=pure true:=by rfl) :
  DS1 X (.Assign [.Name y py] (.ListComp elt [⟨tg,iter,ifs,0⟩] scope pos) spos) (aM i (toT (toD (aU src fi bb ft fe)))):=by
 have e1:X.env.scope=sc:=e1;subst e1 e2;refine PS.mono (o6 (g:=gD X.K ts bb) (tt:=tTr X.K ft) (te:=tL X.K fe) nd (gB h) (kN hl) hf S hc hi (fun nd C s H ex=>hg nd C s H ex) (fun C s H ex=>ht C s H ex) (fun C s H ex=>he C s H ex) hs hsw) fun D σ H ⟨Φ,δ,F,o,hK,en,hf',k⟩=>?_
 unfold aM at hf';obtain ⟨t,ht',hf'⟩:=mS hf';cases hf';exact kR S hts σ H _ (r6 ⟨Φ,δ,F,t,hK,en,ht',fun v H' F' S st o hs=>k _ F' H' (en.put st (hK▸o) hs i)⟩)
end
noncomputable def fP (x:Str) (n:Int):Str:=if n<1 then Str.empty else if (n==1||x.length==0)=true then x else ⟨(qd3 n.toNat x.cps).foldl (· ++ ·) #[]⟩
section
variable {X:Cx} {e o:Expr} {f:Str} {pos pos' apos cpos:Pos} {i j:Nat} {c:Str} {NS:List Str} {fe:De->Option T} {fd:De->Option Dt}
end
section
variable {X:Cx} {e o ik:Expr} {f:Str} {pos pos' apos cpos spos:Pos} {i j:Nat} {c:Str} {NS:List Str} {fe:De->Option T} {fd fk:De->Option Dt}
end
noncomputable def o7:T->Option T
 | .leaf d=>if bG d then some (.leaf d) else none
 | .lst l=>if l.all bG then some (.lst l) else none
 | _=>none
theorem jX {K:PySem.W.Frag} {F F':Hp}:∀ {l:List Dt} {vs:List V},Reps K F l vs->l.all bG=true->Reps K F' l vs
 | [],vs,h,_=>by simp only [Reps] at h ⊢;exact h
 | d::l,vs,h,hf=>by simp only [qj1,qb1] at hf;simp only [Reps] at h ⊢;obtain ⟨v,ws,e,h1,h2⟩:=h;exact ⟨v,ws,e,l6 h1 hf.1,jX h2 hf.2⟩
theorem r9 {K:PySem.W.Frag} {F1 H1:Hp} {u t:T} {Q:VK} (fh:Same F1 H1) (hf:o7 u=some t) (k:KO K F1 H1 t Q):KO K H1 H1 u Q:=fun v H' F' S st o hs=>by
 unfold o7 at hf;split at hf<;>first | (cases hf;done) | skip
 . split at hf<;>first | (cases hf;done) | skip
   rename_i d hd;cases hf;exact k.leaf v H' F1 ⟨st.hh,Same.refl _,fh.trans st.hh,fun b o e=>.inl e⟩ (l6 o hd)
 . split at hf<;>first | (cases hf;done) | skip
   rename_i l hl;cases hf;obtain ⟨a,vs,e,sa,h1,h2⟩:=o;refine k v H' F1 S ⟨st.hh,Same.refl _,fh.trans st.hh,fun b o e=>.inl e⟩ ⟨a,vs,e,sa,h1,jX h2 hl⟩ fun b z=>⟨?_,(hs b z).2.1,(hs b z).2.2⟩
   cases q:F1 b with
   | none=>rfl
   | some o=>have y:=(hs b z).2.1;rw [fh _ _ q] at y;cases y
section
variable {X:Cx} {e o:Expr} {es:List Expr} {m c:Str} {pos apos cpos p:Pos} {i j:Nat} {NS ps:List Str} {fo:De->Option Dt} {fs:De->Option (List Dt)} {ff:List Dt->Option T} {k n:Nat}
end
section
variable {K:PySem.W.Frag} {F H:Hp} {ts:List T} {vs:List V} {S:Nat->Addr->Prop} {N:List Str}
end
section
variable {P:qb5} {w:World} {K:PySem.W.Frag} {mg:Str->Option Value} {base:Heap}
end
section
variable {X:Cx} {e:Expr} {pos:Pos} {fd:De->Option Dt}
end
section
variable {X:Cx} {e:Expr} {es:List Expr} {i:Nat} {ags:List Ag} {f:De->Option Dt}
end
section
variable {X:Cx} {e o:Expr} {es:List Expr} {x m c:Str} {pos apos cpos p:Pos} {i j:Nat} {NS ps:List Str} {sc:Scope} {k n:Nat} {f:List T->Option (T×List T)} {ags:List Ag} {fs:De->Option (List Dt)} {fe fk:De->Option Dt}
end
section
variable {X:Cx}
noncomputable def l7 (K:PySem.W.Frag):R2:=fun x y H Q=>∃ a b ys,x=.ref a/\y=.ref b/\SqT K H a []/\SqT K H b ys/\Q (.ref b) H
theorem u6:OpR X (qk5 .Add) (l7 X.K):=by
 intro pins s σ H x y v u Q I rx ry h;obtain ⟨a,b,ys,rfl,rfl,ha,hb,q⟩:=h;cases rx;cases ry;obtain ⟨its,r1,p1,_⟩:=I.tuple ha;obtain ⟨its2,r2,p2,_⟩:=I.tuple hb;cases r1;obtain ⟨⟨cls,dd,data,sl⟩,ho,hc,n,hd⟩:=id p1;obtain ⟨⟨cls2,dd2,data2,sl2⟩,ho2,hc2,n2,hd2⟩:=id p2;simp only at hc hd hc2 hd2;subst hc hd hc2 hd2
 exact qv8 ⟨_,ho,rfl⟩ ⟨_,ho2,rfl⟩ qs8 qz1 PySem.F.slot_tuple_add PySem.F.entry_tuple_add (PySem.F.args_tuple_add_2 _ _)
  (tuple_addW0 a b #[] its2.toArray n n2 dd dd2 sl sl2 rfl) ⟨ho,ho2,⟨.ref b,H,I,rfl,q⟩⟩
noncomputable def se:Dt->Dt->Option T
 | .tup [],.tup m=>some (.leaf (.tup m))
 | .tup (d::l),.tup (e::m)=>aN (.tup (d::l)) (.tup (e::m))
 | _,_=>none
theorem u7:OpR X (qk5 .Add) (fun x y H Q=>l7 X.K x y H Q∨jQ X.K x y H Q):=OpR.or u6 aJ
theorem yi {K:PySem.W.Frag}:R2D K (fun x y H Q=>l7 K x y H Q∨jQ K x y H Q) se:=by
 intro F H x y vx vy Q t fh rx ry hg k;unfold se at hg;split at hg<;>first | (cases hg;done) | skip
 . rename_i m;cases hg;obtain ⟨a,vs,rfl,h1,h2⟩:=rx;obtain ⟨b,ws,rfl,h3,h4⟩:=ry;simp only [Reps] at h2;subst h2;refine .inl ⟨a,b,ws,rfl,rfl,fh.tup h1,fh.tup h3,k.leaf.here fh ?_⟩;simp only [Rep];exact ⟨b,ws,rfl,h3,h4⟩
 . exact .inr (bh F H _ _ vx vy Q t fh rx ry hg k)
end
section
variable {X:Cx} {pos:Pos} {k v:Expr} {ks:List (Option Expr)} {vs:List Expr} {fk fv:De->Option Dt} {g:De->Option (List (Key×Dt))}
end
section
variable {X:Cx} {pins:List (Addr×Obj)} {σ:St} {H:Hp} {s:qa4} {a:Addr} {u:HO} {ob:Obj}
end
theorem u8 {P:qb5} {w:World} {k:Key} {u:Value} (h:(bn P w).is k u=true):RelV (kV k) u:=by
 rcases br (show iz k u=true from h) with ⟨i,t,rfl,rfl⟩ | ⟨x,t,rfl,rfl⟩
 . exact ⟨t,rfl⟩
 . exact ⟨t,rfl⟩
section
variable {X:Cx} {tg:Expr}
end
inductive CV where
 | dat (d:Dt) | ref (i:Nat)
 | fn (a:Addr) (F0:Hp)
inductive CO where
 | lst (l:List CV) | tup (l:List CV) | dK (l:List (Key×CV)) | ins (c:Str) (ns:List Str) (l:List CV) | wk (l:List (Key×CV)) | dT (l:List (List Key×CV)) | wt (l:List (List Key×CV))
abbrev CH:=List CO
abbrev Sl:=List (Option CV)
section
variable (K:PySem.W.Frag) (F H:Hp) (ρ:Nat->Addr) (n:Nat)
noncomputable def RelC:CV->V->Prop
 | .dat d,v=>Rep K F d v
 | .ref i,v=>i<n/\v=.ref (ρ i)
 | .fn a F0,v=>v=.ref a/\Same F0 F
noncomputable def RelCs:List CV->List V->Prop
 | [],vs=>vs=[]
 | c::l,vs=>∃ v ws,vs=v::ws/\RelC K F ρ n c v/\RelCs l ws
noncomputable def CoOk (a:Addr):CO->Prop
 | .lst l=>∃ vs,H a=some (.lst vs)/\RelCs K F ρ n l vs
 | .tup l=>∃ vs,H a=some (.tup vs)/\RelCs K F ρ n l vs
 | .dK l=>∃ kvs,H a=some (.dK kvs)/\kvs.map (·.1)=l.map (·.1)/\RelCs K F ρ n (l.map (·.2)) (kvs.map (·.2))
 | .ins c ns l=>∃ C dx fs,rJ K c C/\H a=some (.ins C dx fs)/\fs.map (·.1)=ns/\RelCs K F ρ n l (fs.map (·.2))
 | .wk l=>∃ o kvs,H a=some (.frz o (.dK kvs))/\kvs.map (·.1)=l.map (·.1)/\RelCs K F ρ n (l.map (·.2)) (kvs.map (·.2))
 | .dT l=>∃ kvs,H a=some (.dT kvs)/\kvs.map (·.1)=l.map (·.1)/\RelCs K F ρ n (l.map (·.2)) (kvs.map (·.2))
 | .wt l=>∃ o kvs,H a=some (.frz o (.dT kvs))/\kvs.map (·.1)=l.map (·.1)/\RelCs K F ρ n (l.map (·.2)) (kvs.map (·.2))
end
section
variable {K:PySem.W.Frag} {F H F' H' F1 H1:Hp} {ρ ρ' ρ1:Nat->Addr} {n n':Nat} {c:CV} {v:V}
theorem RelC.mono (ff:Same F F') (he:∀ i,i<n->ρ' i=ρ i) (hn:n<=n') (h:RelC K F ρ n c v):RelC K F' ρ' n' c v:=by
 cases c with
 | dat d=>exact Rep.same ff h
 | ref i=>exact ⟨qb6 h.1 hn,by rw [he i h.1];exact h.2⟩
 | fn a F0=>exact ⟨h.1,h.2.trans ff⟩
theorem RelCs.mono (ff:Same F F') (he:∀ i,i<n->ρ' i=ρ i) (hn:n<=n'):∀ {l:List CV} {vs:List V},RelCs K F ρ n l vs->RelCs K F' ρ' n' l vs
 | [],_,h=>h
 | c::l,vs,h=>by obtain ⟨v,ws,e,h1,h2⟩:=h;exact ⟨v,ws,e,h1.mono ff he hn,RelCs.mono ff he hn h2⟩
theorem RelCs.length:∀ {l:List CV} {vs:List V},RelCs K F ρ n l vs->vs.length=l.length
 | [],_,h=>by rw [show _=[] from h];rfl
 | c::l,vs,h=>by obtain ⟨v,ws,rfl,h1,h2⟩:=h;simp [RelCs.length h2]
theorem RelCs.get:∀ {l:List CV} {vs:List V} {i:Nat} {c:CV},RelCs K F ρ n l vs->l[i]?=some c->∃ v,vs[i]?=some v/\RelC K F ρ n c v
 | [],_,_,_,_,e=>by simp at e
 | c::l,vs,0,c',h,e=>by obtain ⟨v,ws,rfl,h1,h2⟩:=h;simp at e;subst e;exact ⟨v,rfl,h1⟩
 | c::l,vs,i+1,c',h,e=>by obtain ⟨v,ws,rfl,h1,h2⟩:=h;obtain ⟨u,q1,q2⟩:=RelCs.get (i:=i) h2 (by simpa using e);exact ⟨u,by simpa using q1,q2⟩
theorem RelCs.set {c:CV} {v:V} (r:RelC K F ρ n c v):∀ {l:List CV} {vs:List V} (i:Nat),RelCs K F ρ n l vs->RelCs K F ρ n (l.set i c) (vs.set i v)
 | [],vs,i,h=>by rw [show vs=[] from h];rfl
 | x::l,vs,0,h=>by obtain ⟨u,ws,rfl,h1,h2⟩:=h;exact ⟨v,ws,rfl,r,h2⟩
 | x::l,vs,i+1,h=>by obtain ⟨u,ws,rfl,h1,h2⟩:=h;exact ⟨u,ws.set i v,rfl,h1,RelCs.set r i h2⟩
theorem RelCs.append:∀ {l m:List CV} {vs ws:List V},RelCs K F ρ n l vs->RelCs K F ρ n m ws->RelCs K F ρ n (l++m) (vs++ws)
 | [],m,vs,ws,h,h'=>by rw [show vs=[] from h];exact h'
 | x::l,m,vs,ws,h,h'=>by obtain ⟨u,us,rfl,h1,h2⟩:=h;exact ⟨u,us++ws,rfl,h1,RelCs.append h2 h'⟩
theorem RelCs.one {c:CV} {v:V} (r:RelC K F ρ n c v):RelCs K F ρ n [c] [v]:=⟨v,[],rfl,r,rfl⟩
theorem RelCs.dats:∀ {l:List Dt} {vs:List V},Reps K F l vs->RelCs K F ρ n (l.map .dat) vs
 | [],vs,h=>by simp only [Reps] at h;exact h
 | d::l,vs,h=>by simp only [Reps] at h;obtain ⟨v,ws,e,h1,h2⟩:=h;exact ⟨v,ws,e,h1,RelCs.dats h2⟩
theorem CoOk.mono {a:Addr} {o:CO} (ff:Same F F') (he:∀ i,i<n->ρ' i=ρ i) (hn:n<=n') (ha:∀ u,H a=some u->H' a=some u) (h:CoOk K F H ρ n a o):CoOk K F' H' ρ' n' a o:=by
 cases o with
 | lst l=>obtain ⟨vs,h1,h2⟩:=h;exact ⟨vs,ha _ h1,h2.mono ff he hn⟩
 | tup l=>obtain ⟨vs,h1,h2⟩:=h;exact ⟨vs,ha _ h1,h2.mono ff he hn⟩
 | dK l=>obtain ⟨vs,h1,h2,h3⟩:=h;exact ⟨vs,ha _ h1,h2,h3.mono ff he hn⟩
 | ins c ns l=>obtain ⟨C,dx,fs,h0,h1,h2,h3⟩:=h;exact ⟨C,dx,fs,h0,ha _ h1,h2,h3.mono ff he hn⟩
 | wk l=>obtain ⟨o,vs,h1,h2,h3⟩:=h;exact ⟨o,vs,ha _ h1,h2,h3.mono ff he hn⟩
 | dT l=>obtain ⟨vs,h1,h2,h3⟩:=h;exact ⟨vs,ha _ h1,h2,h3.mono ff he hn⟩
 | wt l=>obtain ⟨o,vs,h1,h2,h3⟩:=h;exact ⟨o,vs,ha _ h1,h2,h3.mono ff he hn⟩
theorem CoOk.there {a:Addr} {o:CO} (h:CoOk K F H ρ n a o):∃ u,H a=some u:=by
 cases o with
 | lst l=>obtain ⟨vs,h1,h2⟩:=h;exact ⟨_,h1⟩
 | tup l=>obtain ⟨vs,h1,h2⟩:=h;exact ⟨_,h1⟩
 | dK l=>obtain ⟨vs,h1,h2⟩:=h;exact ⟨_,h1⟩
 | ins c ns l=>obtain ⟨C,dx,fs,h0,h1,h2⟩:=h;exact ⟨_,h1⟩
 | wk l=>obtain ⟨o,vs,h1,h2⟩:=h;exact ⟨_,h1⟩
 | dT l=>obtain ⟨vs,h1,h2⟩:=h;exact ⟨_,h1⟩
 | wt l=>obtain ⟨o,vs,h1,h2⟩:=h;exact ⟨_,h1⟩
end
structure Gh (K:PySem.W.Frag) (F H:Hp) (ρ:Nat->Addr) (ch:CH):Prop where
 fh:Same F H
 inj:∀ i j,i<ch.length->j<ch.length->ρ i=ρ j->i=j
 out:∀ i,i<ch.length->F (ρ i)=none∨∃ xs,F (ρ i)=some (.tup xs)
 ok:∀ i o,ch[i]?=some o->CoOk K F H ρ ch.length (ρ i) o
structure Adv (K:PySem.W.Frag) (F H:Hp) (ρ:Nat->Addr) (ch:CH) (F' H':Hp) (ρ':Nat->Addr) (ch':CH):Prop where
 gh:Gh K F' H' ρ' ch'
 len:ch.length<=ch'.length
 ext:∀ i,i<ch.length->ρ' i=ρ i
 fr:∀ i,ch.length<=i->i<ch'.length->H (ρ' i)=none
 prot:∀ b o,H b=some o->(∀ i,i<ch.length->ρ i≠b)->H' b=some o
 old:Same F F'
 nw:∀ b o,F' b=some o->F b=some o∨H b=none∨∃ xs,o=.tup xs
 fz:∀ b o u,H b=some (.frz o u)->H' b=some (.frz o u)
section
variable {K:PySem.W.Frag} {F H F' H' F1 H1:Hp} {ρ ρ' ρ1:Nat->Addr} {ch ch' ch1:CH} {c:CV} {v:V}
theorem Gh.at (g:Gh K F H ρ ch) {i:Nat} (hi:i<ch.length):∃ u,H (ρ i)=some u:=(g.ok i ch[i] (by simp [hi])).there
theorem Adv.refl (g:Gh K F H ρ ch):Adv K F H ρ ch F H ρ ch:=⟨g,nL _,fun _ _=>rfl,fun i h1 h2=>absurd h2 (ql9.mpr h1),fun _ _ h _=>h,Same.refl _,fun _ _ h=>.inl h,fun _ _ _ h=>h⟩
theorem Adv.back (g:Gh K F H ρ ch) (a:Adv K F H ρ ch F1 H1 ρ1 ch1) {b:Addr} (h:H1 b=none):H b=none:=by
 cases q:H b with
 | none=>rfl
 | some o =>
  by_cases z:∃ i,i<ch.length/\ρ i=b
  . obtain ⟨i,hi,rfl⟩:=z;obtain ⟨u,hu⟩:=a.gh.at (qb6 hi a.len)
    rw [a.ext i hi,h] at hu;cases hu
  . rw [a.prot b o q fun i hi e=>z ⟨i,hi,e⟩] at h;cases h
theorem Adv.trans (g:Gh K F H ρ ch) (a:Adv K F H ρ ch F1 H1 ρ1 ch1) (b:Adv K F1 H1 ρ1 ch1 F' H' ρ' ch'):Adv K F H ρ ch F' H' ρ' ch' where
 gh:=b.gh
 len:=qc5 a.len b.len
 ext:=fun i hi=>(b.ext i (qb6 hi a.len)).trans (a.ext i hi)
 fr:=fun i h1 h2=>by
  by_cases hi:i<ch1.length
  . rw [b.ext i hi];exact a.fr i h1 hi
  . exact a.back g (b.fr i (ql9.mp hi) h2)
 prot:=fun x o h1 h2=>b.prot x o (a.prot x o h1 h2) fun i hi e=>by
  by_cases hj:i<ch.length
  . rw [a.ext i hj] at e;exact h2 i hj e
  . have:=a.fr i (ql9.mp hj) hi;rw [e,h1] at this;cases this
 old:=a.old.trans b.old
 nw:=fun x o h=>(b.nw x o h).elim (a.nw x o) fun z=>.inr (z.imp_left fun z=>a.back g z)
 fz:=fun x o u h=>b.fz x o u (a.fz x o u h)
theorem Gh.of (g:Gh K F H ρ ch) (st:Step F H F' H'):Gh K F' H' ρ ch:=by
 refine ⟨st.fh,g.inj,fun i hi=>?_,fun i o h=>(g.ok i o h).mono st.ff (fun _ _=>rfl) (nL _) fun u hu=>st.hh _ _ hu⟩;cases q:F' (ρ i) with
 | none=>exact .inl rfl
 | some o =>
  rcases st.nw _ _ q with z | z
  . rcases g.out i hi with y | ⟨xs,y⟩
    . rw [y] at z;cases z
    . rw [y] at z;cases z;exact .inr ⟨xs,rfl⟩
  . obtain ⟨u,hu⟩:=g.at hi;rw [hu] at z;cases z
theorem Adv.of (g:Gh K F H ρ ch) (st:Step F H F' H'):Adv K F H ρ ch F' H' ρ ch:=⟨g.of st,nL _,fun _ _=>rfl,fun i h1 h2=>absurd h2 (ql9.mpr h1),fun b o h _=>st.hh b o h,st.ff,fun b o h=>(st.nw b o h).imp_right .inl,fun b o u h=>st.hh b _ h⟩
theorem Adv.upd (g:Gh K F H ρ ch) {i:Nat} {o:CO} {u w:HO} (hi:i<ch.length) (hw:H (ρ i)=some w) (hz:∀ x y,w≠.frz x y) (ho:CoOk K F (upd H (ρ i) u) ρ ch.length (ρ i) o) (ht:∀ xs,w≠.tup xs:=by intro _ z;cases z):Adv K F H ρ ch F (upd H (ρ i) u) ρ (ch.set i o) where
 gh:=⟨fun b x e=>by
     have:b≠ρ i:=fun q=>by
      rw [q] at e;rcases g.out i hi with y | ⟨xs,y⟩
      . rw [y] at e;cases e
      . have:=g.fh _ _ y;rw [hw] at this;exact ht xs (qe1 this)
     rw [aK this];exact g.fh b x e,fun j k hj hk=>g.inj j k (by simpa using hj) (by simpa using hk),fun j hj=>g.out j (by simpa using hj),fun j x hx=>by
     rw [zc0];rw [qx8] at hx;split at hx
     . rename_i q;subst q
       first
        | (split at hx<;>first | (cases hx;exact ho) | cases hx)
        | (cases hx;exact ho)
     . rename_i q;refine (g.ok j x hx).mono (Same.refl _) (fun _ _=>rfl) (nL _) fun y hy=>?_
       have hj:j<ch.length:=(gX hx).1;rw [aK fun e=>q (g.inj j i hj hi e).symm];exact hy⟩
 len:=by simp
 ext:=fun _ _=>rfl
 fr:=fun j h1 h2=>absurd h2 (by simpa using h1)
 prot:=fun b x h1 h2=>by rw [aK fun e=>h2 i hi e.symm];exact h1
 old:=Same.refl _
 nw:=fun b x h=>.inl h
 fz:=fun b x y h=>by rw [aK fun e=>by rw [e,hw] at h;exact hz x y (qe1 h)];exact h
theorem Adv.new (g:Gh K F H ρ ch) (st:Step F H F' H') {a:Addr} {o:CO} (ha:H a=none) (hf:F' a=none) (ho:CoOk K F' H' (fun i=>if i=ch.length then a else ρ i) (ch.length+1) a o) :
  Adv K F H ρ ch F' H' (fun i=>if i=ch.length then a else ρ i) (ch++[o]):=by
 have g':=(Adv.of g st).gh;have lt:∀ {i:Nat},i<ch.length->(if i=ch.length then a else ρ i)=ρ i:=fun {i} hi=>if_neg (qc4 hi)
 have ne:∀ {i:Nat},i<ch.length->ρ i≠a:=fun {i} hi e=>by obtain ⟨u,hu⟩:=g.at hi;rw [e,ha] at hu;cases hu
 refine ⟨⟨st.fh,fun i j hi hj e=>?_,fun i hi=>?_,fun i x hx=>?_⟩,by simp,fun i hi=>lt hi,fun i h1 h2=>?_,fun b x h1 _=>st.hh b x h1,st.ff,fun b o h=>(st.nw b o h).imp_right .inl,fun b o u h=>st.hh b _ h⟩
 . simp only [qb2,qc0,qe9] at hi hj;by_cases h1:i=ch.length<;>by_cases h2:j=ch.length
   . rw [h1,h2]
   . rw [if_pos h1,if_neg h2] at e;exact absurd e.symm (ne (by lia))
   . rw [if_neg h1,if_pos h2] at e;exact absurd e (ne (by lia))
   . rw [if_neg h1,if_neg h2] at e;exact g.inj i j (by lia) (by lia) e
 . simp only [qb2,qc0,qe9] at hi
   (try dsimp only)
   by_cases h1:i=ch.length
   . rw [if_pos h1];exact .inl hf
   . rw [if_neg h1];exact g'.out i (by lia)
 . simp only [qb2,qc0,qe9];by_cases h1:i<ch.length
   . rw [qc2 h1] at hx
     (try dsimp only)
     rw [lt h1];exact (g'.ok i x hx).mono (Same.refl _) (fun j hj=>lt hj) (qn8 _) fun u hu=>hu
   . rw [gR (ql9.mp h1)] at hx
     have h2:i=ch.length:=by have:=(gX hx).1;simp at this;lia
     subst h2;simp at hx;subst hx
     (try dsimp only)
     rw [if_pos rfl];exact ho
 . simp only [qb2,qc0,qe9] at h2;have h3:i=ch.length:=by lia
   (try dsimp only)
   rw [if_pos h3];exact ha
end
structure Ge (K:PySem.W.Frag) (δ:Sl) (ch:CH) (σ:St) (F H:Hp) (ρ:Nat->Addr):Prop where
 gh:Gh K F H ρ ch
 len:δ.length=σ.length
 has:∀ (i:Nat) (c:CV),δ[i]?=some (some c)->∃ v,σ[i]?=some (some v)/\RelC K F ρ ch.length c v
noncomputable def KG (K:PySem.W.Frag) (F H:Hp) (ρ:Nat->Addr) (ch:CH) (c:CV) (ch':CH) (Q:VK):Prop:=∀ v F' H' ρ',Adv K F H ρ ch F' H' ρ' ch'->RelC K F' ρ' ch'.length c v->Q v H'
abbrev Fg:=Sl->CH->Option (CV×CH)
noncomputable def tG (K:PySem.W.Frag) (f:Fg):TE:=fun σ H Q=>∃ δ ch F ρ c ch',Ge K δ ch σ F H ρ/\f δ ch=some (c,ch')/\KG K F H ρ ch c ch' Q
noncomputable def GE (X:Cx) (e:Expr) (f:Fg):Prop:=PE X e (tG X.K f)
noncomputable def dats:List CV->Option (List Dt)
 | []=>some []
 | .dat d::l=>(dats l).map (d::·)
 | _=>none
theorem gO {K:PySem.W.Frag} {F:Hp} {ρ:Nat->Addr} {n:Nat}:∀ {l:List CV} {ds:List Dt} {vs:List V},dats l=some ds->RelCs K F ρ n l vs->Reps K F ds vs
 | [],ds,vs,h,r=>by cases h;simp only [Reps];exact r
 | .dat d::l,ds,vs,h,r=>by simp only [dats] at h;obtain ⟨es,he,rfl⟩:=mS h;obtain ⟨v,ws,e,h1,h2⟩:=r;simp only [Reps];exact ⟨v,ws,e,h1,gO he h2⟩
 | .ref i::l,ds,vs,h,r=>by cases h
 | .fn a F0::l,ds,vs,h,r=>by cases h
noncomputable def tvO:CO->Option T
 | .lst l=>(dats l).map .lst
 | .dK l=>(dats (l.map (·.2))).map fun ds=>.dct ((l.map (·.1)).zip ds)
 | _=>none
noncomputable def loA (ch:CH):List Nat->Sl->De
 | _,[]=>[]
 | u,none::r=>none::loA ch u r
 | u,some (.dat d)::r=>some (.leaf d)::loA ch u r
 | u,some (.ref i)::r=>(if i∈u then none else (ch[i]?).bind tvO)::loA ch (i::u) r
 | u,some (.fn _ _)::r=>none::loA ch u r
noncomputable def lo (δ:Sl) (ch:CH):De:=loA ch [] δ
section
variable {K:PySem.W.Frag} {F H F' H' F1 H1:Hp} {ρ ρ' ρ1:Nat->Addr} {δ:Sl} {σ:St} {ch ch' ch1 ch2:CH} {c:CV} {v:V} {Q:VK}
theorem Ge.adv (e:Ge K δ ch σ F H ρ) (a:Adv K F H ρ ch F' H' ρ' ch'):Ge K δ ch' σ F' H' ρ':=⟨a.gh,e.len,fun i c h=>by obtain ⟨v,h1,h2⟩:=e.has i c h;exact ⟨v,h1,h2.mono a.old a.ext a.len⟩⟩
theorem KG.adv (k:KG K F H ρ ch c ch' Q) (g:Gh K F H ρ ch) (a:Adv K F H ρ ch F1 H1 ρ1 ch1):KG K F1 H1 ρ1 ch1 c ch' Q:=fun v F' H' ρ' b r=>k v F' H' ρ' (a.trans g b) r
theorem fm (ch:CH):∀ (u:List Nat) (δ:Sl),(loA ch u δ).length=δ.length
 | _,[]=>rfl
 | u,none::r=>by simp [loA,fm ch u r]
 | u,some (.dat d)::r=>by simp [loA,fm ch u r]
 | u,some (.ref i)::r=>by simp [loA,fm ch (i::u) r]
 | u,some (.fn _ _)::r=>by simp [loA,fm ch u r]
theorem fq {ch:CH}:∀ {u:List Nat} {δ:Sl} {j:Nat} {t:T},(loA ch u δ)[j]?=some (some t)->(∃ d,t=.leaf d/\δ[j]?=some (some (.dat d)))∨∃ i o,δ[j]?=some (some (.ref i))/\ch[i]?=some o/\tvO o=some t/\i∉u/\∀ m,m<j->δ[m]?≠some (some (.ref i))
 | _,[],j,t,h=>by simp [loA] at h
 | u,none::r,0,t,h=>by simp [loA] at h
 | u,none::r,j+1,t,h=>by
  rcases fq (u:=u) (δ:=r) (j:=j) (t:=t) (by simpa [loA] using h) with ⟨d,e,q⟩ | ⟨i,o,q1,q2,q3,q4,q5⟩
  . exact .inl ⟨d,e,by simpa using q⟩
  . refine .inr ⟨i,o,by simpa using q1,q2,q3,q4,fun m hm=>?_⟩;cases m with
    | zero=>simp
    | succ m=>simpa using q5 m (by lia)
 | u,some (.dat d)::r,0,t,h=>by simp [loA] at h;exact .inl ⟨d,h.symm,rfl⟩
 | u,some (.dat d)::r,j+1,t,h=>by
  rcases fq (u:=u) (δ:=r) (j:=j) (t:=t) (by simpa [loA] using h) with ⟨d',e,q⟩ | ⟨i,o,q1,q2,q3,q4,q5⟩
  . exact .inl ⟨d',e,by simpa using q⟩
  . refine .inr ⟨i,o,by simpa using q1,q2,q3,q4,fun m hm=>?_⟩;cases m with
    | zero=>simp
    | succ m=>simpa using q5 m (by lia)
 | u,some (.fn _ _)::r,0,t,h=>by simp [loA] at h
 | u,some (.fn _ _)::r,j+1,t,h=>by
  rcases fq (u:=u) (δ:=r) (j:=j) (t:=t) (by simpa [loA] using h) with ⟨d',e,q⟩ | ⟨i,o,q1,q2,q3,q4,q5⟩
  . exact .inl ⟨d',e,by simpa using q⟩
  . refine .inr ⟨i,o,by simpa using q1,q2,q3,q4,fun m hm=>?_⟩;cases m with
    | zero=>simp
    | succ m=>simpa using q5 m (by lia)
 | u,some (.ref i)::r,0,t,h=>by
  simp only [loA,qj2,qi0] at h;split at h
  . cases h
  . rename_i hi;obtain ⟨o,ho,h⟩:=bS h;exact .inr ⟨i,o,rfl,ho,h,hi,fun m hm=>absurd hm (qn9 _)⟩
 | u,some (.ref i)::r,j+1,t,h=>by
  rcases fq (u:=i::u) (δ:=r) (j:=j) (t:=t) (by simpa [loA] using h) with ⟨d,e,q⟩ | ⟨i',o,q1,q2,q3,q4,q5⟩
  . exact .inl ⟨d,e,by simpa using q⟩
  . simp only [qa9,not_or] at q4;refine .inr ⟨i',o,by simpa using q1,q2,q3,q4.2,fun m hm=>?_⟩;cases m with
    | zero =>simp only [qj2,ne_eq,qi0,CV.ref.injEq];exact fun z=>q4.1 z.symm
    | succ m=>simpa using q5 m (by lia)
theorem o8 {α β:Type}:∀ {l:List α} {m:List β},l.length=m.length->(l.zip m).map (·.1)=l/\(l.zip m).map (·.2)=m
 | [],[],_=>⟨rfl,rfl⟩
 | [],_::_,h=>by cases h
 | _::_,[],h=>by cases h
 | a::l,b::m,h=>by obtain ⟨h1,h2⟩:=o8 (l:=l) (m:=m) (by simpa using h);simp [h1,h2]
theorem u9 {o:CO} {t:T} {n:Nat} {a:Addr} {S:Addr->Prop} (h:tvO o=some t) (ok:CoOk K F H ρ n a o) (hs:S a):Own K F H t (.ref a) S:=by
 cases o with
 | lst l =>obtain ⟨ds,hd,rfl⟩:=mS h;obtain ⟨vs,h1,h2⟩:=ok;exact ⟨a,vs,rfl,hs,h1,gO hd h2⟩
 | dK l =>
  obtain ⟨ds,hd,rfl⟩:=mS h;obtain ⟨vs,h1,h2,h3⟩:=ok;have r:=gO hd h3
  have e:(l.map (·.1)).length=ds.length:=by have e1:=congrArg qj7 h2;have e2:=r.length;simp only [qa3] at e1 e2 ⊢;lia
  obtain ⟨z1,z2⟩:=o8 e;exact ⟨a,vs,rfl,hs,h1,by rw [z1];exact h2,by rw [z2];exact r⟩
 | tup l=>cases h
 | ins c ns l=>cases h
 | wk l=>cases h
 | dT l=>cases h
 | wt l=>cases h
theorem Gh.outO (g:Gh K F H ρ ch) {i:Nat} {o:CO} (h:ch[i]?=some o) (ht:tvO o≠none):F (ρ i)=none:=by
 rcases g.out i (gX h).1 with y | ⟨xs,y⟩
 . exact y
 . have z:=g.fh _ _ y;cases o with
   | lst l=>obtain ⟨vs,h1,_⟩:=g.ok i _ h;rw [h1] at z;cases z
   | dK l=>obtain ⟨vs,h1,_⟩:=g.ok i _ h;rw [h1] at z;cases z
   | tup l=>exact absurd rfl ht
   | ins c ns l=>exact absurd rfl ht
   | wk l=>exact absurd rfl ht
   | dT l=>exact absurd rfl ht
   | wt l=>exact absurd rfl ht
theorem Ge.en (e:Ge K δ ch σ F H ρ):En ⟨K,F,H,fun b=>∃ i,i<ch.length/\ρ i=b⟩ (lo δ ch) σ F H:=by
 refine ⟨e.gh.fh,fun b o h _=>h,Same.refl _,fun b o h=>.inl h,by simp [lo,fm,e.len],fun j t h=>?_,fun j b=>∃ i o,δ[j]?=some (some (.ref i))/\ch[i]?=some o/\ρ i=b/\tvO o≠none/\∀ m,m<j->δ[m]?≠some (some (.ref i)),fun j t v h=>?_,fun j b z=>?_,fun j k b z1 z2=>?_⟩
 . rcases fq h with ⟨d,_,q⟩ | ⟨i,o,q,_⟩
   . obtain ⟨v,hv,_⟩:=e.has j _ q;exact ⟨v,hv⟩
   . obtain ⟨v,hv,_⟩:=e.has j _ q;exact ⟨v,hv⟩
 . obtain ⟨h1,h2⟩:=dH h;rcases fq h1 with ⟨d,rfl,q⟩ | ⟨i,o,q1,q2,q3,q4,q5⟩
   . obtain ⟨w,hw,r⟩:=e.has j _ q;rw [h2] at hw;cases hw;exact r
   . obtain ⟨w,hw,r⟩:=e.has j _ q1;rw [h2] at hw;cases hw;obtain ⟨hi,rfl⟩:=r;exact u9 q3 (e.gh.ok i o q2) ⟨i,o,q1,q2,rfl,by rw [q3];simp,q5⟩
 . obtain ⟨i,o,q1,q2,rfl,qt,q3⟩:=z;have hi:i<ch.length:=(gX q2).1;exact ⟨e.gh.outO q2 qt,e.gh.at hi,.inr ⟨i,hi,rfl⟩⟩
 . obtain ⟨i,o,q1,q2,e1,qt,q3⟩:=z1;obtain ⟨i',o',q1',q2',e2,qt',q3'⟩:=z2;have hi:i<ch.length:=(gX q2).1;have hi':i'<ch.length:=(gX q2').1;have:=e.gh.inj i i' hi hi' (e1.trans e2.symm);subst this;by_cases h1:j<k
   . exact absurd q1 (q3' j h1)
   . by_cases h2:k<j
     . exact absurd q1' (q3 k h2)
     . exact Nat.le_antisymm (ql9.mp h2) (ql9.mp h1)
end
section
variable {X:Cx} {e a b o:Expr} {f fa fb:Fg} {fd:De->Option Dt} {ft:De->Option T} {pos:Pos} {i:Nat}
noncomputable def eD (fd:De->Option Dt):Fg:=fun δ ch=>(fd (lo δ ch)).map fun d=>(.dat d,ch)
theorem ck (h:DL X e fd):GE X e (eD fd):=PE.mono h fun σ H Q ⟨δ,ch,F,ρ,c,ch',en,hf,k⟩=>by unfold eD at hf;obtain ⟨d,hd,hf⟩:=mS hf;cases hf;exact ⟨_,_,F,d,rfl,en.en,hd,fun v H' F' st r=>k v F' H' ρ (Adv.of en.gh st) r⟩
noncomputable def al (ch:CH):T->Option (CV×CH)
 | .leaf d=>some (.dat d,ch)
 | .lst l=>some (.ref ch.length,ch++[.lst (l.map .dat)])
 | .dct l=>some (.ref ch.length,ch++[.dK (l.map fun p=>(p.1,.dat p.2))])
 | _=>none
theorem wA {K:PySem.W.Frag} {F H:Hp} {ρ:Nat->Addr} {ch ch':CH} {c:CV} {t:T} {Q:VK} (g:Gh K F H ρ ch) (h:al ch t=some (c,ch')) (k:KG K F H ρ ch c ch' Q):KO K F H t Q:=fun v H' F' S st o hs=>by
 cases t with
 | leaf d =>cases h;exact k v F' H' ρ (Adv.of g st) o
 | lst l =>cases h;obtain ⟨x,vs,rfl,sa,h1,h2⟩:=o;obtain ⟨q1,q2,_⟩:=hs x sa;refine k _ F' H' _ (Adv.new g st q2 q1 ⟨vs,h1,RelCs.dats h2⟩) ⟨by simp,?_⟩;dsimp only;rw [if_pos rfl]
 | dct l =>
  cases h;obtain ⟨x,vs,rfl,sa,h1,h2,h3⟩:=o;obtain ⟨q1,q2,_⟩:=hs x sa;refine k _ F' H' _ (Adv.new g st q2 q1 ⟨vs,h1,by rw [h2];simp,?_⟩) ⟨by simp,?_⟩
  . have:=RelCs.dats (ρ:=fun i=>if i=ch.length then x else ρ i) (n:=ch.length+1) h3;rw [qd0] at this;rw [qd0];exact this
  . dsimp only;rw [if_pos rfl]
 | dcT l=>cases h
 | obj c ns l=>cases h
 | pin a t=>cases h
noncomputable def eN (ft:De->Option T):Fg:=fun δ ch=>(ft (lo δ ch)).bind (al ch)
theorem kX (h:DO X e ft):GE X e (eN ft):=PE.mono h fun σ H Q ⟨δ,ch,F,ρ,c,ch',en,hf,k⟩=>by unfold eN at hf;obtain ⟨t,ht,hf⟩:=bS hf;exact ⟨_,_,F,t,rfl,en.en,ht,wA en.gh hf k⟩
noncomputable def eV (i:Nat):Fg:=fun δ ch=>match δ[i]? with
 | some (some c)=>some (c,ch)
 | _=>none
theorem fQ (h:PE X e (jn i)):GE X e (eV i):=PE.mono h fun σ H Q ⟨δ,ch,F,ρ,c,ch',en,hf,k⟩=>by
 unfold eV at hf;split at hf<;>cases hf
 rename_i c q;obtain ⟨v,h1,h2⟩:=en.has i _ q;exact ⟨v,h1,k v F H ρ (Adv.refl en.gh) h2⟩
end
noncomputable def vwO:CO->Option Dt
 | .lst l=>(dats l).map .lst
 | .dK l=>(dats (l.map (·.2))).map (.dct (l.map (·.1)))
 | .wk l=>(dats (l.map (·.2))).map (.dct (l.map (·.1)))
 | _=>none
noncomputable def vw (ch:CH):CV->Option Dt
 | .dat d=>some d
 | .ref i=>(ch[i]?).bind vwO
 | .fn _ _=>none
section
variable {K:PySem.W.Frag} {F H F' H' F1 H1:Hp} {ρ ρ' ρ1:Nat->Addr} {n:Nat} {δ:Sl} {σ:St} {ch ch' ch1 ch2:CH} {c:CV} {v:V} {Q:VK} {d:Dt}
end
section
variable {X:Cx} {e a b o:Expr} {es:List Expr} {f fa fb fc:Fg} {fd:De->Option Dt} {ft:De->Option T} {pos apos cpos p:Pos} {i:Nat} {σ:St} {H:Hp} {Q:VK} {K:PySem.W.Frag}
noncomputable def e2 (g:Dt->Dt->Option T) (fa fb:Fg):Fg:=fun δ ch=>(fa δ ch).bind fun p=>(fb δ p.2).bind fun q=>(vw q.2 p.1).bind fun x=>(vw q.2 q.1).bind fun y=>(g x y).bind (al q.2)
abbrev Ft:=Sl->CH->Option (Bool×CH)
noncomputable def tGT (K:PySem.W.Frag) (f:Ft):TT:=fun σ H Q=>∃ δ ch F ρ b ch',Ge K δ ch σ F H ρ/\f δ ch=some (b,ch')/\∀ F' H' ρ',Adv K F H ρ ch F' H' ρ' ch'->Q b H'
noncomputable def GT (X:Cx) (e:Expr) (f:Ft):Prop:=PT X e (tGT X.K f)
noncomputable def tD (ft:De->Option Bool):Ft:=fun δ ch=>(ft (lo δ ch)).map fun b=>(b,ch)
theorem nI {ft:De->Option Bool} (h:DT X e ft):GT X e (tD ft):=PT.mono h fun σ H Q ⟨δ,ch,F,ρ,b,ch',en,hf,k⟩=>by unfold tD at hf;obtain ⟨x,hx,hf⟩:=mS hf;cases hf;exact ⟨_,_,F,_,rfl,en.en,hx,fun H' F' st=>k F' H' ρ (Adv.of en.gh st)⟩
theorem vc {F:Hp} {d:Dt} {v:V} {j:Int} (h:asI d=some j) (r:Rep K F d v):v=.int j:=by
 unfold asI at h;split at h<;>cases h
 simp only [Rep] at r;exact r
theorem sf {F:Hp} {d:Dt} {v:V} {j:Key} (h:kU d=some j) (r:Rep K F d v):v=kV j:=by unfold kU at h;split at h<;>cases h<;>(simp only [Rep] at r;exact r)
abbrev Fgs:=Sl->CH->Option (List CV×CH)
noncomputable def tGs (K:PySem.W.Frag) (f:Fgs):TA:=fun σ H Q=>∃ δ ch F ρ cs ch',Ge K δ ch σ F H ρ/\f δ ch=some (cs,ch')/\∀ vs F' H' ρ',Adv K F H ρ ch F' H' ρ' ch'->RelCs K F' ρ' ch'.length cs vs->Q vs H'
noncomputable def GA (X:Cx) (es:List Expr) (f:Fgs):Prop:=PA X es (tGs X.K f)
theorem yj {F H:Hp} {ρ:Nat->Addr} {ch:CH} {o:CO} {u:HO} {a:Addr} (g:Gh K F H ρ ch) (ha:H a=none) (ho:CoOk K F (upd H a u) ρ ch.length a o):Adv K F H ρ ch F (upd H a u) (fun i=>if i=ch.length then a else ρ i) (ch++[o]):=Adv.new g (Step.made g.fh ha) ha (g.fh.free ha) (ho.mono (Same.refl _) (fun i hi=>if_neg (qc4 hi)) (qn8 _) fun _ h=>h)
abbrev Fd:=List CV->CH->Option (CV×CH)
noncomputable def spG (K:PySem.W.Frag) (n:Nat) (f:Fd):Sp:=fun vs H Q _=>∃ F ρ cs ch c ch',Gh K F H ρ ch/\cs.length=n/\RelCs K F ρ ch.length cs vs/\f cs ch=some (c,ch')/\KG K F H ρ ch c ch' Q
end
inductive Og where
 | nx (δ:Sl) (ch:CH) | rt (c:CV) (ch:CH) | bk (δ:Sl) (ch:CH) | ct (δ:Sl) (ch:CH)
noncomputable def PostG (K:PySem.W.Frag) (F H:Hp) (ρ:Nat->Addr) (ch:CH) (D:Ends):Og->Prop
 | .nx δ' ch'=>∀ σ' F' H' ρ',Adv K F H ρ ch F' H' ρ' ch'->Ge K δ' ch' σ' F' H' ρ'->D.nx σ' H'
 | .rt c ch'=>∀ v F' H' ρ',Adv K F H ρ ch F' H' ρ' ch'->RelC K F' ρ' ch'.length c v->D.rt v H'
 | .bk δ' ch'=>∀ σ' F' H' ρ',Adv K F H ρ ch F' H' ρ' ch'->Ge K δ' ch' σ' F' H' ρ'->D.bk σ' H'
 | .ct δ' ch'=>∀ σ' F' H' ρ',Adv K F H ρ ch F' H' ρ' ch'->Ge K δ' ch' σ' F' H' ρ'->D.ct σ' H'
abbrev Fs:=Sl->CH->Option Og
noncomputable def tGS (K:PySem.W.Frag) (g:Fs):TS:=fun D σ H=>∃ δ ch F ρ o,Ge K δ ch σ F H ρ/\g δ ch=some o/\PostG K F H ρ ch D o
noncomputable def GS1 (X:Cx) (st:Stmt) (g:Fs):Prop:=PS X st (tGS X.K g)
noncomputable def GS (X:Cx) (ss:List Stmt) (g:Fs):Prop:=PSs X ss (tGS X.K g)
section
variable {K:PySem.W.Frag} {F H F' H' F1 H1:Hp} {ρ ρ' ρ1:Nat->Addr} {ch ch' ch1:CH} {D:Ends} {o:Og}
theorem PostG.adv (k:PostG K F H ρ ch D o) (g:Gh K F H ρ ch) (a:Adv K F H ρ ch F1 H1 ρ1 ch1):PostG K F1 H1 ρ1 ch1 D o:=by
 cases o with
 | nx δ' c'=>exact fun σ' F' H' ρ' b e=>k σ' F' H' ρ' (a.trans g b) e
 | rt c c'=>exact fun v F' H' ρ' b e=>k v F' H' ρ' (a.trans g b) e
 | bk δ' c'=>exact fun σ' F' H' ρ' b e=>k σ' F' H' ρ' (a.trans g b) e
 | ct δ' c'=>exact fun σ' F' H' ρ' b e=>k σ' F' H' ρ' (a.trans g b) e
end
section
variable {X:Cx} {st:Stmt} {rest a b body:List Stmt} {g g1 g2:Fs} {e c o tg iter:Expr} {es:List Expr} {pos apos cpos:Pos} {f fa fe fk:Fg} {tc:Ft} {i:Nat} {K:PySem.W.Frag}
noncomputable def sh:Fs:=fun δ ch=>some (.nx δ ch)
noncomputable def bX (g1 g2:Fs):Fs:=fun δ ch=>(g1 δ ch).bind fun o=>match o with
 | .nx δ' ch'=>g2 δ' ch'
 | o=>some o
theorem si:GS X [] sh:=PSs.mono ox fun D σ H ⟨δ,ch,F,ρ,o,en,hg,k⟩=>by cases hg;exact k σ F H ρ (Adv.refl en.gh) en
theorem cX (h:GS1 X st g):GS X [st] g:=oy h
theorem bB (h1:GS1 X st g1) (h2:GS X rest g2):GS X (st::rest) (bX g1 g2):=PSs.mono (lD h1 h2) fun D σ H ⟨δ,ch,F,ρ,o,en,hg,k⟩=>by
 unfold bX at hg;obtain ⟨o1,h1,hg⟩:=bS hg;refine ⟨δ,ch,F,ρ,o1,en,h1,?_⟩;cases o1 with
 | nx δ' ch'=>exact fun σ' F' H' ρ' a en'=>⟨δ',ch',F',ρ',o,en',hg,k.adv en.gh a⟩
 | rt c ch'=>cases hg;exact k
 | bk δ' ch'=>cases hg;exact k
 | ct δ' ch'=>cases hg;exact k
noncomputable def iS (f:Fg):Fs:=fun δ ch=>(f δ ch).map fun p=>.rt p.1 p.2
theorem nJ (h:GE X e f):GS1 X (.Return (some e) pos) (iS f):=PS.mono (m7 h) fun D σ H ⟨δ,ch,F,ρ,o,en,hg,k⟩=>by unfold iS at hg;obtain ⟨p,hp,hg⟩:=mS hg;cases hg;exact ⟨δ,ch,F,ρ,p.1,p.2,en,hp,k⟩
noncomputable def l8 (c:Ft) (g1 g2:Fs):Fs:=fun δ ch=>(c δ ch).bind fun p=>if p.1 then g1 δ p.2 else g2 δ p.2
theorem wC (hc:GT X c tc) (h1:GS X a g1) (h2:GS X b g2):GS1 X (.If c a b pos) (l8 tc g1 g2):=PS.mono (we hc h1 h2) fun D σ H ⟨δ,ch,F,ρ,o,en,hg,k⟩=>by
 unfold l8 at hg;obtain ⟨p,hp,hg⟩:=bS hg;refine ⟨δ,ch,F,ρ,p.1,p.2,en,hp,fun F' H' ρ' a=>?_⟩;split at hg
 . rename_i q;rw [if_pos q];exact ⟨δ,p.2,F',ρ',o,en.adv a,hg,k.adv en.gh a⟩
 . rename_i q;rw [if_neg q];exact ⟨δ,p.2,F',ρ',o,en.adv a,hg,k.adv en.gh a⟩
theorem Ge.put {δ:Sl} {σ:St} {F H:Hp} {ρ:Nat->Addr} {ch:CH} {x:CV} {v:V} (en:Ge K δ ch σ F H ρ) (r:RelC K F ρ ch.length x v) (i:Nat):Ge K (δ.set i (some x)) ch (σ.set i (some v)) F H ρ:=⟨en.gh,by simp [en.len],fun j y h=>by
 rcases d6 h with ⟨rfl,z⟩ | ⟨hn,z⟩
 . cases z
   have hi:i<σ.length:=by rw [<- en.len];have:=(gX h).1;simpa using this
   exact ⟨v,by simp [hi],r⟩
 . obtain ⟨w,h1,h2⟩:=en.has j y z;exact ⟨w,by rw [gN hn];exact h1,h2⟩⟩
noncomputable def bv (i:Nat) (f:Fg):Fs:=fun δ ch=>(f δ ch).map fun p=>.nx (δ.set i (some p.1)) p.2
theorem cA {sc:Scope} {N:List Str} {x:Str} {pos':Pos} (h:dE sc N i x=true) (hl:iH sc x=true) (nd:N.Nodup) (he:GE X e f) (e1:bZ X sc:=by rfl) (e2:X.N=N:=by rfl) (hf:X.fn x=true∨X.env.scope.names.lookup x=some .local:=by exact .inl rfl)
  (hs:qm6 e (some (.Name x pos')) pos.line X.env=pure false:=by rfl):GS1 X (.Assign [.Name x pos'] e pos) (bv i f):=PS.mono (oQ h hl nd he e1 e2 hf hs) fun D σ H ⟨δ,ch,F,ρ,o,en,hg,k⟩=>by
 unfold bv at hg;obtain ⟨p,hp,hg⟩:=mS hg;cases hg;exact ⟨δ,ch,F,ρ,p.1,p.2,en,hp,fun v F' H' ρ' a r=>k _ F' H' ρ' a ((en.adv a).put r i)⟩
noncomputable def mgS (ts:List Nat) (δ:Sl) (δ1:De):Sl:=δ.mapIdx fun j x=>if j∈ts then (match δ1[j]? with | some (some (.leaf d))=>some (.dat d) | _=>none) else x
theorem Ge.mg {δ:Sl} {σ σ':St} {F H:Hp} {ρ:Nat->Addr} {ch:CH} {ts:List Nat} {δ1:De} {Φ:Fm} (en:Ge K δ ch σ F H ρ) (hK:Φ.K=K) (hl:σ'.length=σ.length) (hs:∀ j,j∉ts->σ'[j]?=σ[j]?) (e:En Φ δ1 σ' F H):Ge K (mgS ts δ δ1) ch σ' F H ρ:=⟨en.gh,by simp [mgS,en.len,hl],fun j x h=>by
 unfold mgS at h;rw [qo6] at h;obtain ⟨y,hy,h⟩:=mS h;by_cases hj:j∈ts
 . rw [if_pos hj] at h;split at h<;>cases h
   rename_i d q;obtain ⟨v,h1,h2⟩:=e.leaf q;exact ⟨v,h1,(hK▸h2:Rep K F d v)⟩
 . rw [if_neg hj] at h;subst h;obtain ⟨v,h1,h2⟩:=en.has j x hy;exact ⟨v,by rw [hs j hj];exact h1,h2⟩⟩
noncomputable def iT (ts:List Nat) (bb:Dt->De->Option De) (g:Fs):List Dt->Sl->CH->Option Og
 | [],δ,ch=>some (.nx δ ch)
 | d::r,δ,ch=>(bb d (lo δ ch)).bind fun δ1=>(g (mgS ts δ δ1) ch).bind fun o=>match o with
  | .nx δ2 ch2=>iT ts bb g r δ2 ch2
  | .ct δ2 ch2=>iT ts bb g r δ2 ch2
  | .bk δ2 ch2=>some (.nx δ2 ch2)
  | .rt c ch2=>some (.rt c ch2)
noncomputable def fC (fi:De->Option (List Dt)) (ts:List Nat) (bb:Dt->De->Option De) (g:Fs):Fs:=fun δ ch=>(fi (lo δ ch)).bind fun ds=>iT ts bb g ds δ ch
theorem kY {fi:De->Option (List Dt)} {ts:List Nat} {bb:Dt->De->Option De} (hp:zb6 (model X.prog X.w) X.A X.env X.xe) (hc:X.calm=true) (hi:DIF X tg iter fi) (hg:DG X tg ts bb) (hb:GS X body g)
  (hs:∀ x,qf7 iter X.env x=pure x:=by intro _;rfl):GS1 X (.For tg iter body [] pos) (fC fi ts bb g):=PS.mono (na hp hc hi hg hb hs) fun D σ H ⟨δ,ch,F,ρ,o,en,hg,k⟩=>by
 unfold fC at hg;obtain ⟨ds,hd,hg⟩:=bS hg;rw [kM];refine ⟨_,_,F,ds,rfl,en.en,hd,fun J ok H1 F1 st1 wd ho=>?_⟩;have a1:=Adv.of en.gh st1;have en1:=en.adv a1;have k1:=k.adv en.gh a1;refine lS (n:=ds.length) (fun i σ' H'=>∃ δ' ch' F' ρ',Adv X.K F1 H1 ρ ch F' H' ρ' ch'/\Ge X.K δ' ch' σ' F' H' ρ'/\iT ts bb g (ds.drop i) δ' ch'=some o) ⟨δ,ch,F1,ρ,Adv.refl en1.gh,en1,by simpa using hg⟩ (fun i σ' H' ⟨δ',ch',F',ρ',a',en',_⟩=>?_) ?_ ?_
 . obtain ⟨p1,p2,_⟩:=wd i H' F' (ho H' (a'.old.trans en'.gh.fh)) en'.gh.fh a'.old;exact ⟨p1,p2⟩
 . rintro i x σ' H' H'' hi ⟨δ',ch',F',ρ',a',en',hgo⟩ hy;obtain ⟨_,_,p3⟩:=wd i H' F' (ho H' (a'.old.trans en'.gh.fh)) en'.gh.fh a'.old;obtain ⟨d,F2,hd',st2,rd⟩:=p3 x H'' hi hy;rw [iq hd'] at hgo;unfold iT at hgo;obtain ⟨δ1,h1,hgo⟩:=bS hgo;obtain ⟨o1,h2,hgo⟩:=bS hgo;have a2:=Adv.of en'.gh st2;have a3:=a'.trans en1.gh a2;have en2:=en'.adv a2;refine ⟨_,_,F2,d,δ1,rfl,en2.en,rd,h1,fun σ1 l1 q1 e1=>⟨_,ch',F2,ρ',o1,en2.mg rfl l1 q1 e1,h2,?_⟩⟩;cases o1 with
   | nx δ2 c2=>exact fun σ2 F3 H3 ρ3 a4 en4=>⟨δ2,c2,F3,ρ3,a3.trans en1.gh a4,en4,hgo⟩
   | ct δ2 c2=>exact fun σ2 F3 H3 ρ3 a4 en4=>⟨δ2,c2,F3,ρ3,a3.trans en1.gh a4,en4,hgo⟩
   | bk δ2 c2=>cases hgo;exact fun σ2 F3 H3 ρ3 a4 en4=>k1 σ2 F3 H3 ρ3 (a3.trans en1.gh a4) en4
   | rt c c2=>cases hgo;exact fun v F3 H3 ρ3 a4 r=>k1 v F3 H3 ρ3 (a3.trans en1.gh a4) r
 . rintro σ' H' ⟨δ',ch',F',ρ',a',en',hgo⟩;rw [qs9] at hgo;cases hgo;exact k1 σ' F' H' ρ' a' en'
noncomputable def cJ (c:Ft) (g:Fs):Nat->Fs
 | 0,_,_=>none
 | n+1,δ,ch=>(c δ ch).bind fun p=>if p.1 then (g δ p.2).bind fun o=>match o with
  | .nx δ2 ch2=>cJ c g n δ2 ch2
  | .ct δ2 ch2=>cJ c g n δ2 ch2
  | .bk δ2 ch2=>some (.nx δ2 ch2)
  | .rt c ch2=>some (.rt c ch2) else some (.nx δ p.2)
noncomputable def wD (fa fe:Fg):Fs:=fun δ ch=>(fa δ ch).bind fun p=>(fe δ p.2).bind fun q=>match p.1 with
 | .ref i=>match p.2[i]?,q.2[i]? with
  | some (.lst _),some (.lst l)=>if l.length<qa7 then some (.nx δ (q.2.set i (.lst (l++[q.1])))) else none
  | _,_=>none
 | _=>none
theorem zf (hx:GE X o fa) (he:GE X e fe)
  (hbase:qz4 o "append" X.env (eval o X.env)=eval o X.env:=by rfl)
  (hfew:((qk1 cpos (qa6 [e] X.env)).all (fun x=>!x.1)&&(backToKw cpos (ze4 [] X.env)).all (fun x=>x.1.isSome)
   && decide ([e].length+([]:List zb7).length+(if ([]:List zb7).isEmpty then 0 else 1)<30))=true:=by rfl)
  (hline:(apos.endLine==cpos.line)=true:=by rfl) (hs:qa6 [e] X.env=(false,eval e X.env)::qa6 [] X.env:=by rfl) (hplain:(qk1 cpos (qa6 [] X.env)).any (·.1)=false:=by rfl)
  (hsw:qm6 (.Call (.Attribute o "append" apos) [e] [] cpos) none pos.line X.env=pure false:=by rfl) :
  GS1 X (.Expr (.Call (.Attribute o "append" apos) [e] [] cpos) pos) (wD fa fe):=
 PS.mono (kx (rn PySem.F.plainAttrs_list PySem.F.slot_list_append PySem.F.type_list_append eZ hx (c6 he eC hs) hbase hfew hline hs hplain) hsw) fun D σ H ⟨δ,ch,F,ρ,og,en,hg,k⟩=>by
  unfold wD at hg;obtain ⟨⟨c1,ch1⟩,hp,hg1⟩:=bS hg;clear hg;obtain ⟨⟨c2,ch2⟩,hq,hg⟩:=bS hg1;clear hg1;dsimp only at hq hg;split at hg<;>first | (cases hg;done) | skip
  rename_i i;split at hg<;>first | (cases hg;done) | skip
  rename_i l0 l h0 h1;split at hg<;>cases hg
  rename_i hz;refine ⟨δ,ch,F,ρ,_,ch1,en,hp,fun v F1 H1 ρ1 a1 r1=>?_⟩;obtain ⟨vs0,q0,_⟩:=a1.gh.ok i _ h0;obtain ⟨hi,rfl⟩:=r1;refine ⟨.inl ⟨rfl,vs0,.inl (.inl q0)⟩,δ,ch1,F1,ρ1,c2,ch2,en.adv a1,hq,fun w F2 H2 ρ2 a2 r2=>?_⟩;obtain ⟨vs,q1,q2⟩:=a2.gh.ok i _ h1;rw [a2.ext i hi] at q1;refine ⟨_,vs,w,rfl,rfl,q1,by rw [q2.length];exact hz,?_⟩;have hi2:i<ch2.length:=(gX h1).1;have a3:=Adv.upd (o:=.lst (l++[c2])) (u:=.lst (vs++[w])) (w:=.lst vs) a2.gh hi2 (by rw [a2.ext i hi];exact q1) (fun _ _ z=>nomatch z) ⟨_,aT,q2.append (RelCs.one r2)⟩;rw [a2.ext i hi] at a3;have a:=(a1.trans en.gh a2).trans en.gh a3;exact k σ F2 _ ρ2 a (en.adv a)
noncomputable def fR {κ:Type} [DecidableEq κ]:List (κ×CV)->κ->CV->List (κ×CV)
 | [],k,c=>[(k,c)]
 | p::l,k,c=>if p.1=k then (p.1,c)::l else p::fR l k c
noncomputable def qq (o:CO) (d:Dt) (c:CV):Option CO:=match o with
 | .lst l=>(asI d).bind fun j=>(ixN l.length j).map fun m=>.lst (l.set m c)
 | .dK l=>(kU d).bind fun k=>if l.length<qa7/\(l.map (·.1)).Nodup then some (.dK (fR l k c)) else none
 | _=>none
theorem l9 {κ:Type} [DecidableEq κ] {F:Hp} {ρ:Nat->Addr} {n:Nat} {k:κ} {c:CV} {v:V} (r:RelC K F ρ n c v):∀ {l:List (κ×CV)} {kvs:List (κ×V)},(l.map (·.1)).Nodup->kvs.map (·.1)=l.map (·.1)->RelCs K F ρ n (l.map (·.2)) (kvs.map (·.2))→
  (dD kvs k v).map (·.1)=(fR l k c).map (·.1)/\RelCs K F ρ n ((fR l k c).map (·.2)) ((dD kvs k v).map (·.2))
 | [],[],_,_,_=>⟨rfl,⟨v,[],rfl,r,rfl⟩⟩
 | [],q::kvs,_,h,_=>by cases h
 | p::l,[],_,h,_=>by cases h
 | p::l,q::kvs,nd,h,rs=>by
  simp only [qa5,zc4] at h;obtain ⟨h1,h2⟩:=h;obtain ⟨w,ws,e,r1,r2⟩:=rs;simp only [qa5,zc4] at e;obtain ⟨rfl,rfl⟩:=e;have nd':=ql6.mp nd;by_cases hk:p.1=k
  . have hq:q.1=k:=h1.trans hk
    have hnone:∀ x∈kvs,¬ x.1=k:=fun x hx e=>nd'.1 (by have:x.1∈kvs.map (·.1):=qu6 hx;rw [h2] at this;rw [e,<- hk] at this;exact this)
    have e2:dD (q::kvs) k v=(q.1,v)::kvs:=by
     unfold dD;rw [if_pos (by simp [hq])];simp only [qa5,if_pos hq,zc4,true_and];have:∀ x∈kvs,(if x.1=k then (x.1,v) else x)=id x:=fun x hx=>if_neg (hnone x hx)
     rw [qi3 this,List.map_id]
    have e1:fR (p::l) k c=(p.1,c)::l:=by simp only [fR,if_pos hk]
    rw [e1,e2];exact ⟨by simp [h1,h2],⟨v,_,rfl,r,r2⟩⟩
  . have hq:¬ q.1=k:=fun z=>hk (h1.symm.trans z)
    have e2:dD (q::kvs) k v=q::dD kvs k v:=by
     unfold dD;by_cases ha:(kvs.any fun kv=>decide (kv.1=k))=true
     . rw [if_pos ha,if_pos (by simp only [qh6,ha,zg6])];simp only [qa5,if_neg hq]
     . rw [if_neg ha,if_neg (by simp only [qh6,decide_eq_false hq,qz5];exact ha)];rfl
    have e1:fR (p::l) k c=p::fR l k c:=by simp only [fR,if_neg hk]
    obtain ⟨i1,i2⟩:=l9 (k:=k) r nd'.2 h2 r2;rw [e1,e2];exact ⟨by simp [h1,i1],⟨q.2,_,rfl,r1,i2⟩⟩
noncomputable def hX (fa fk fe:Fg):Fs:=fun δ ch=>(fe δ ch).bind fun p=>(fa δ p.2).bind fun q=>(fk δ q.2).bind fun r=>match q.1,r.1 with
 | .ref i,.dat d=>((r.2[i]?).bind fun o=>qq o d p.1).map fun o'=>.nx δ (r.2.set i o')
 | _,_=>none
theorem nK {k:Nat} {ik:Expr} {pos':Pos} (hr:Room k X.A) (hx:GE X o fa) (hk:GE X ik fk) (he:GE X e fe) (hs:qm6 e (some (.Subscript o ik pos')) pos.line X.env=pure false:=by rfl)
  (hs2:zf2 [.Subscript o ik pos'] e pos.line X.env=pure false:=by rfl) (hw:zf3 [.Subscript o ik pos'] e X.env=pure none:=by rfl)
  (h1:(ql4 [.Subscript o ik pos'] X.env).map (·.2)=[zb5 (.Subscript o ik pos') X.env]:=by rfl)
  (ha:∀ v,zb5 (.Subscript o ik pos') X.env v=(do
   let ov <- qy9 [v] (eval o X.env);let iv <- qy9 [v,ov] (eval ik X.env)
   standAt pos'
   qy9 [v,ov,iv] (setItem ov iv v)
   release [v,ov,iv] []):=by intro _;rfl):GS1 X (.Assign [.Subscript o ik pos'] e pos) (hX fa fk fe):=
 PS.mono (PS.or (qW he (xv hx hk rl ha) hs2 hw h1) (uK (oK hr) hx hk he hs)) fun D σ H ⟨δ,ch,F,ρ,og,en,hg,kk⟩=>by
  unfold hX at hg;obtain ⟨⟨c1,ch1⟩,hp,hg1⟩:=bS hg;clear hg;obtain ⟨⟨c2,ch2⟩,hq,hg2⟩:=bS hg1;clear hg1;obtain ⟨⟨c3,ch3⟩,hw,hg⟩:=bS hg2;clear hg2;dsimp only at hq hw hg;split at hg<;>first | (cases hg;done) | skip
  rename_i i d;obtain ⟨o',hput,hg⟩:=mS hg;cases hg;obtain ⟨o0,ho,hput⟩:=bS hput;cases o0 with
  | lst l =>obtain ⟨j,hj,hput⟩:=bS hput;obtain ⟨m,hm,rfl⟩:=mS hput;left;refine ⟨δ,ch,F,ρ,_,ch1,en,hp,fun v F1 H1 ρ1 a1 r1=>⟨δ,ch1,F1,ρ1,_,ch2,en.adv a1,hq,fun x F2 H2 ρ2 a2 r2=>⟨δ,ch2,F2,ρ2,_,ch3,(en.adv a1).adv a2,hw,fun y F3 H3 ρ3 a3 r3=>?_⟩⟩⟩;obtain ⟨vs,q1,q2⟩:=a3.gh.ok i _ ho;have hi3:i<ch3.length:=(gX ho).1;have a12:=a1.trans en.gh a2;have a13:=a12.trans en.gh a3;have r1':=(r1.mono a2.old a2.ext a2.len).mono a3.old a3.ext a3.len;refine ⟨_,vs,j,m,(r2.mono a3.old a3.ext a3.len).2,vc hj r3,q1,by rw [q2.length];exact hm,?_⟩;have a4:=Adv.upd (o:=.lst (l.set m c1)) (u:=.lst (vs.set m v)) a3.gh hi3 q1 (fun _ _ z=>nomatch z) ⟨_,aT,q2.set r1' m⟩;have a:=a13.trans en.gh a4;exact kk σ F3 _ ρ3 a (en.adv a)
  | dK l =>
   obtain ⟨j,hj,hput⟩:=bS hput;split at hput<;>first | (cases hput;done) | skip
   rename_i hz;cases hput;right;refine ⟨δ,ch,F,ρ,_,ch1,en,hp,fun v F1 H1 ρ1 a1 r1=>⟨δ,ch1,F1,ρ1,_,ch2,en.adv a1,hq,fun x F2 H2 ρ2 a2 r2=>⟨δ,ch2,F2,ρ2,_,ch3,(en.adv a1).adv a2,hw,fun y F3 H3 ρ3 a3 r3=>?_⟩⟩⟩;obtain ⟨kvs,q1,q2,q3⟩:=a3.gh.ok i _ ho;have hi3:i<ch3.length:=(gX ho).1;have a12:=a1.trans en.gh a2;have a13:=a12.trans en.gh a3;have r1':=(r1.mono a2.old a2.ext a2.len).mono a3.old a3.ext a3.len;obtain ⟨z1,z2⟩:=l9 (k:=j) r1' hz.2 q2 q3
   have hlen:kvs.length=l.length:=by have:=congrArg qj7 q2;simpa using this
   refine ⟨_,upd H3 (ρ3 i) (.dK (dD kvs j v)),(r2.mono a3.old a3.ext a3.len).2,?_,?_⟩
   . rw [sf hj r3];exact DPut.k q1 (by rw [hlen];exact hz.1)
   . have a4:=Adv.upd (o:=.dK (fR l j c1)) (u:=.dK (dD kvs j v)) a3.gh hi3 q1 (fun _ _ z=>nomatch z) ⟨_,aT,z1,z2⟩;have a:=a13.trans en.gh a4;exact kk σ F3 _ ρ3 a (en.adv a)
  | tup l=>cases hput
  | ins c ns l=>cases hput
  | wk l=>cases hput
  | dT l=>cases hput
  | wt l=>cases hput
end
noncomputable def ma (m:Nat) (g:Fs):Fd:=fun cs ch=>match g (cs.map some++qd3 (m-cs.length) none) ch with
 | some (.rt c ch')=>some (c,ch')
 | some (.nx _ ch')=>some (.dat .non,ch')
 | _=>none
theorem md {K:PySem.W.Frag} {F H:Hp} {ρ:Nat->Addr} {ch:CH} {cs:List CV} {vs:List V} {N:List Str} (g:Gh K F H ρ ch) (r:RelCs K F ρ ch.length cs vs):Ge K (cs.map some++qd3 (N.length-cs.length) none) ch (start N vs) F H ρ:=by
 have hl:=r.length;refine ⟨g,by simp [start,hl],fun i c h=>?_⟩;by_cases hi:i<cs.length
 . rw [qc2 (by simpa using hi),qb9] at h;have hd:cs[i]?=some cs[i]:=by simp [hi]
   rw [hd] at h;cases h;obtain ⟨v,hv,rv⟩:=r.get hd;refine ⟨v,?_,rv⟩;unfold start;rw [qc2 (by simp;lia),qb9,hv];rfl
 . rw [qg2 (by simpa using hi)] at h;rw [qm4] at h;split at h<;>cases h
section
variable {P:qb5} {w:World} {K:PySem.W.Frag} {mg:Str->Option Value} {base:Heap}
theorem yk {x q:Str} {st:Stmt} {N ps:List Str} {k n:Nat} {g:Fs} {f:Addr} {fd:ql1} (D:Fun K x q st f fd) (S:FnScope N ps (ac st)) (hn:ps.length=n)
  (hbody:∀ (cdv:Value) (A:qd2) (outer:List Env) (s:qa4) (H:Hp) (E:XK),Room k (A.deeper (qx2 q (ac st) s.heap.objs.size f cdv))->GS (iB CX0 P w K mg base N q (ac st) f cdv A outer s H E).nox (bP st) g) :
  FnOk P w K mg base CX0 (k+1) f fd ps (spG K n (ma N.length g)):=by
 refine D.ok S (fun vs H Q E h=>?_) (fun cdv A outer s H vs Q E hr h=>?_)
 . obtain ⟨F,ρ,cs,ch,c,ch',_,hl,r,_⟩:=h;rw [r.length,hl,hn]
 . obtain ⟨F,ρ,cs,ch,c,ch',gh,hl,r,hf,kq⟩:=h;refine ⟨_,hbody cdv A outer s H E hr,?_⟩;unfold ma at hf;split at hf
   . rename_i c1 ch1 q;cases hf;exact ⟨_,ch,F,ρ,_,md gh r,q,fun v F' H' ρ' a z=>kq v F' H' ρ' a z⟩
   . rename_i δ1 ch1 q;cases hf;exact ⟨_,ch,F,ρ,_,md gh r,q,fun σ' F' H' ρ' a z=>kq .non F' H' ρ' a (kQ (K:=K) (F:=F'))⟩
   . cases hf
end
section
variable {X:Cx} {e a b o:Expr} {es rest:List Expr} {f fa fb fe:Fg} {fs:Fgs} {ta tb:Ft} {pos apos cpos p:Pos} {sc:Scope} {x:Str} {K:PySem.W.Frag}
noncomputable def GW (X:Cx) (e:Expr) (f:Ft):Prop:=PW X e (tGT X.K f)
noncomputable def vws (ch:CH):List CV->Option (List Dt)
 | []=>some []
 | c::l=>(vw ch c).bind fun d=>(vws ch l).map (d::·)
noncomputable def eB (g:List Dt->Option T) (fs:Fgs):Fg:=fun δ ch=>(fs δ ch).bind fun p=>(vws p.2 p.1).bind fun ds=>(g ds).bind (al p.2)
end
section
variable {P:qb5} {w:World} {K:PySem.W.Frag} {mg:Str->Option Value} {base:Heap}
theorem kZ {x:Str} {st:Stmt} {N ps:List Str} {k n:Nat} {g:Fs} (D:DefF K mg x st ps) (S:FnScope N ps (ac st)) (hn:ps.length=n)
  (hbody:∀ (f:Addr) (cdv:Value) (A:qd2) (outer:List Env) (s:qa4) (H:Hp) (E:XK),Room k (A.deeper (qx2 x (ac st) s.heap.objs.size f cdv))->GS (iB CX0 P w K mg base N x (ac st) f cdv A outer s H E).nox (bP st) g) :
  OkF P w K mg base x (k+1) ps (spG K n (ma N.length g)):=by
 obtain ⟨f,fd,h1,h2,h3,h4⟩:=D.ex;exact ⟨f,fd,h1,h2,h3,yk h4 S hn (hbody f)⟩
end
section
variable {X:Cx} {e a b c o:Expr} {es rest:List Expr} {f fa fb fe:Fg} {fs:Fgs} {ta tb tc:Ft} {pos apos cpos p:Pos} {sc:Scope} {x:Str} {K:PySem.W.Frag} {g:Fs} {body:List Stmt}
theorem me (n:Nat) (hp:zb6 (model X.prog X.w) X.A X.env X.xe) (hc:GT X c tc) (hb:GS X body g):GS1 X (.While c body [] pos) (cJ tc g n):=PS.mono (qX hp hc hb) fun D σ H ⟨δ,ch,F,ρ,o,en,hg,k⟩=>by
 refine ⟨fun m σ' H'=>∃ δ' ch' F' ρ',Adv X.K F H ρ ch F' H' ρ' ch'/\Ge X.K δ' ch' σ' F' H' ρ'/\cJ tc g m δ' ch'=some o,⟨n,δ,ch,F,ρ,Adv.refl en.gh,en,hg⟩,?_⟩;rintro m σ' H' ⟨δ',ch',F',ρ',a',en',hgo⟩;cases m with
 | zero=>cases hgo
 | succ m =>
  unfold cJ at hgo;obtain ⟨p,hp',hgo1⟩:=bS hgo;clear hgo;refine ⟨δ',ch',F',ρ',p.1,p.2,en',hp',fun F1 H1 ρ1 a1=>?_⟩;have a2:=a'.trans en.gh a1;have en1:=en'.adv a1;dsimp only;split at hgo1
  . rename_i q;rw [if_pos q];obtain ⟨o1,h2,hgo⟩:=bS hgo1;refine ⟨fun σ' H'=>∃ δ' ch' F' ρ',Adv X.K F H ρ ch F' H' ρ' ch'/\Ge X.K δ' ch' σ' F' H' ρ'/\cJ tc g m δ' ch'=some o,fun σ2 H2 z=>⟨m,qm9 m,z⟩,δ',p.2,F1,ρ1,o1,en1,h2,?_⟩;cases o1 with
    | nx δ2 c2=>exact fun σ2 F3 H3 ρ3 a4 en4=>⟨δ2,c2,F3,ρ3,a2.trans en.gh a4,en4,hgo⟩
    | ct δ2 c2=>exact fun σ2 F3 H3 ρ3 a4 en4=>⟨δ2,c2,F3,ρ3,a2.trans en.gh a4,en4,hgo⟩
    | bk δ2 c2=>cases hgo;exact fun σ2 F3 H3 ρ3 a4 en4=>k σ2 F3 H3 ρ3 (a2.trans en.gh a4) en4
    | rt c c2=>cases hgo;exact fun v F3 H3 ρ3 a4 r=>k v F3 H3 ρ3 (a2.trans en.gh a4) r
  . rename_i q;rw [if_neg q];cases hgo1;exact k σ' F1 H1 ρ1 a2 en1
end
section
variable {prog:qb5} {w:World} {A:qd2} {E:Value->qa4->Prop} {s:qa4} {a:Addr} {its:Array Value} {c:Nat} {sl:Array (Option Value)}
end
section
variable {prog:qb5} {w:World} {A:qd2} {E:Value->qa4->Prop} {s:qa4} {a:Addr} {its:Array Value} {c:Nat} {sl:Array (Option Value)}
end
section
variable {X:Cx} {e o:Expr} {sc:Scope} {p pos:Pos} {fs:De->Option (List Dt)}
end
section
variable {prog:qb5} {w:World} {A:qd2}
variable {E:Value->qa4->Prop} {s:qa4} {a:Addr} {its:Array Value} {c:Nat} {sl:Array (Option Value)}
end
section
variable {X:Cx}
end
section
variable {K:PySem.W.Frag} {F H:Hp} {ρ:Nat->Addr} {ch:CH}
end
section
variable {X:Cx} {e a b o:Expr} {es:List Expr} {f fa fb fc fe:Fg} {fs:Fgs} {pos apos cpos p:Pos} {sc:Scope} {x:Str} {K:PySem.W.Frag}
end
section
variable {X:Cx} {e a b o value:Expr} {es:List Expr} {f fa fb fc fe fk:Fg} {fs:Fgs} {pos apos cpos tpos p:Pos} {sc:Scope} {x:Str} {K:PySem.W.Frag}
end
noncomputable def gC (src:List (Option Nat)) (δ:Sl):Sl:=src.map fun o=>o.bind fun j=>(δ[j]?).join
noncomputable def fE (ts:List Nat) (bb:Dt->De->Option De) (ft:De->Option Bool) (fe:Fg) (δ:Sl):List Dt->CH->Option (List CV×CH)
 | [],ch=>some ([],ch)
 | d::r,ch=>(bb d (lo δ ch)).bind fun δ1=>(ft (lo (mgS ts δ δ1) ch)).bind fun b=>if b then (fe (mgS ts δ δ1) ch).bind fun p=>(fE ts bb ft fe δ r p.2).map fun q=>(p.1::q.1,q.2) else fE ts bb ft fe δ r ch
noncomputable def mf (src:List (Option Nat)) (fi:De->Option (List Dt)) (ts:List Nat) (bb:Dt->De->Option De) (ft:De->Option Bool) (fe:Fg):Fg:=fun δ ch =>(fi (lo δ ch)).bind fun ds=>(fE ts bb ft fe (gC src δ) ds ch).bind fun p=>if p.1.length<=qa7 then some (.ref p.2.length,p.2++[.lst p.1]) else none
section
variable {K:PySem.W.Frag} {F H F' H' F1 H1:Hp} {ρ ρ' ρ1:Nat->Addr} {ch ch' ch1:CH} {src:List (Option Nat)} {δ:Sl} {σ:St}
theorem yl {k:Nat} {c:CV} (h:(gC src δ)[k]?=some (some c)):∃ j,src[k]?=some (some j)/\δ[j]?=some (some c):=by
 unfold gC at h;rw [qb9] at h;cases e:src[k]? with
 | none=>rw [e] at h;cases h
 | some o =>
  rw [e] at h;cases o with
  | none=>cases h
  | some j =>
   simp only [qf5,qa1,qi0] at h;refine ⟨j,rfl,?_⟩;cases q:δ[j]? with
   | none=>rw [q] at h;cases h
   | some u=>rw [q] at h;simp only [qm7] at h;rw [h]
theorem Ge.comp (en:Ge K δ ch σ F H ρ):Ge K (gC src δ) ch (stC src σ) F H ρ:=⟨en.gh,by simp [gC,stC],fun k c h=>by obtain ⟨j,h1,h2⟩:=yl h;obtain ⟨v,h3,h4⟩:=en.has j c h2;exact ⟨v,oZ h1 h3,h4⟩⟩
structure Bd (K:PySem.W.Frag) (F1 H1:Hp) (ρ1:Nat->Addr) (ch1:CH) (D:Addr) (F H:Hp) (ρ:Nat->Addr) (ch:CH) (done:List CV) (ys:List V):Prop where
 adv:Adv K F1 H1 ρ1 ch1 F H ρ ch
 hD:H D=some (.lst ys)
 fD:F D=none
 nD:∀ i,i<ch.length->ρ i≠D
 rel:RelCs K F ρ ch.length done ys
variable {D:Addr} {done:List CV} {ys:List V}
theorem Bd.step (g1:Gh K F1 H1 ρ1 ch1) (b:Bd K F1 H1 ρ1 ch1 D F H ρ ch done ys) (a:Adv K F H ρ ch F' H' ρ' ch'):Bd K F1 H1 ρ1 ch1 D F' H' ρ' ch' done ys where
 adv:=b.adv.trans g1 a
 hD:=a.prot D _ b.hD fun i hi=>b.nD i hi
 fD:=by
  cases q:F' D with
  | none=>rfl
  | some o =>
   rcases a.nw D o q with z | z | ⟨xs,z⟩
   . rw [b.fD] at z;cases z
   . rw [b.hD] at z;cases z
   . subst z;have z1:=a.gh.fh _ _ q;rw [a.prot D _ b.hD fun i hi=>b.nD i hi] at z1;cases z1
 nD:=fun i hi e=>by
  by_cases h:i<ch.length
  . rw [a.ext i h] at e;exact b.nD i h e
  . have:=a.fr i (ql9.mp h) hi;rw [e,b.hD] at this;cases this
 rel:=b.rel.mono a.old a.ext a.len
theorem Bd.more (hD1:H1 D=none) (b:Bd K F1 H1 ρ1 ch1 D F H ρ ch done ys) {c:CV} {v:V} (r:RelC K F ρ ch.length c v):Bd K F1 H1 ρ1 ch1 D F (upd H D (.lst (ys++[v]))) ρ ch (done++[c]) (ys++[v]) where
 adv:=⟨⟨fun x o e=>by
     have:x≠D:=fun z=>by rw [z,b.fD] at e;cases e
     rw [aK this];exact b.adv.gh.fh x o e,b.adv.gh.inj,b.adv.gh.out,fun i o h=>(b.adv.gh.ok i o h).mono (Same.refl _) (fun _ _=>rfl) (nL _) fun u hu=>by
     rw [aK (b.nD i (gX h).1)];exact hu⟩,b.adv.len,b.adv.ext,b.adv.fr,fun x o h1 h2=>by
     have:x≠D:=fun z=>by rw [z,hD1] at h1;cases h1
     rw [aK this];exact b.adv.prot x o h1 h2,b.adv.old,b.adv.nw,fun x o u h=>by
     have:x≠D:=fun z=>by rw [z,hD1] at h;cases h
     rw [aK this];exact b.adv.fz x o u h⟩
 hD:=aT
 fD:=b.fD
 nD:=b.nD
 rel:=b.rel.append (RelCs.one r)
theorem Bd.fin (hD1:H1 D=none) (b:Bd K F1 H1 ρ1 ch1 D F H ρ ch done ys):Adv K F1 H1 ρ1 ch1 F H (fun i=>if i=ch.length then D else ρ i) (ch++[.lst done]):=by
 have lt:∀ {i:Nat},i<ch.length->(if i=ch.length then D else ρ i)=ρ i:=fun {i} hi=>if_neg (qc4 hi)
 have g:=b.adv.gh;refine ⟨⟨g.fh,fun i j hi hj e=>?_,fun i hi=>?_,fun i x hx=>?_⟩,by have:=b.adv.len;simp;lia,fun i hi=>?_,fun i h1 h2=>?_,b.adv.prot,b.adv.old,b.adv.nw,b.adv.fz⟩
 . simp only [qb2,qc0,qe9] at hi hj;by_cases h1:i=ch.length<;>by_cases h2:j=ch.length
   . rw [h1,h2]
   . rw [if_pos h1,if_neg h2] at e;exact absurd e.symm (b.nD j (by lia))
   . rw [if_neg h1,if_pos h2] at e;exact absurd e (b.nD i (by lia))
   . rw [if_neg h1,if_neg h2] at e;exact g.inj i j (by lia) (by lia) e
 . simp only [qb2,qc0,qe9] at hi;by_cases h1:i=ch.length
   . rw [if_pos h1];exact .inl b.fD
   . rw [if_neg h1];exact g.out i (by lia)
 . simp only [qb2,qc0,qe9];by_cases h1:i<ch.length
   . rw [qc2 h1] at hx;rw [lt h1];exact (g.ok i x hx).mono (Same.refl _) (fun j hj=>lt hj) (qn8 _) fun u hu=>hu
   . rw [gR (ql9.mp h1)] at hx
     have h2:i=ch.length:=by have:=(gX hx).1;simp at this;lia
     subst h2;simp at hx;subst hx;rw [if_pos rfl];exact ⟨ys,b.hD,b.rel.mono (Same.refl _) (fun j hj=>lt hj) (qn8 _)⟩
 . rw [lt (qb6 hi b.adv.len)];exact b.adv.ext i hi
 . simp only [qb2,qc0,qe9] at h2;by_cases h3:i=ch.length
   . rw [if_pos h3];exact hD1
   . rw [if_neg h3];exact b.adv.fr i h1 (by lia)
end
section
variable {X:Cx} {elt tg iter:Expr} {ifs:List Expr} {scope:Scope} {pos:Pos} {M:List Str} {src:List (Option Nat)} {fi:De->Option (List Dt)} {ft:De->Option Bool} {fe:Fg}
theorem sj {ts:List Nat} {bb:Dt->De->Option De} (hts:(ts.all fun k=>decide (src[k]?=some none))=true):∀ (σ:St) (H:Hp) (Q:VK),tG X.K (mf src fi ts bb ft fe) σ H Q->jJ src (tIF X.K fi) (gD X.K ts bb) (tTr X.K ft) (tG X.K fe) σ H Q:=fun σ H Q ⟨δ,ch,F,ρ,c,ch',en,hf,k⟩=>by
 unfold mf at hf;obtain ⟨ds,hd,hf1⟩:=bS hf;obtain ⟨⟨all,ch2⟩,ha,hf2⟩:=bS hf1;clear hf hf1;split at hf2<;>first | (cases hf2;done) | skip
 rename_i hz;cases hf2;have hz:all.length<=qa7:=hz;rw [lO];refine ⟨_,_,F,ds,rfl,en.en,hd,fun J ok H1 F1 st1 wd ho D hD=>?_⟩;have a1:=Adv.of en.gh st1;have en1:=en.adv a1;have k1:=k.adv en.gh a1
 have wk:∀ {σ2:St},σ2.length=(stC src σ).length->(∀ j,j∉ts->σ2[j]?=(stC src σ)[j]?)->Wk (stC src σ) σ2:=fun {σ2} h1 h2=>by
  refine ⟨h1.symm,fun j v hj=>?_⟩;by_cases hm:j∈ts
  . have:=qm8.mp hts j hm;have hn:src[j]?=some none:=of_decide_eq_true this;obtain ⟨i,e,_⟩:=ny hj;rw [hn] at e;cases e
  . rw [h2 j hm];exact hj
 refine jP (n:=ds.length) (fun i H=>∃ F ρ' c' ys done rest',Bd X.K F1 H1 ρ ch D F H ρ' c' done ys/\fE ts bb ft fe (gC src δ) (ds.drop i) c'=some (rest',ch2)/\done++rest'=all) ?_ ?_ ?_ ?_
 . refine ⟨F1,ρ,ch,[],[],all,⟨Adv.of en1.gh (Step.made en1.gh.fh hD),aT,en1.gh.fh.free hD,fun i hi e=>?_,rfl⟩,by simpa using ha,rfl⟩;obtain ⟨u,hu⟩:=en1.gh.at hi;rw [e,hD] at hu;cases hu
 . rintro i H' ⟨F',ρ',c',ys,done,rest',b,_⟩;obtain ⟨p1,p2,_⟩:=wd i H' F' (ho H' (b.adv.old.trans b.adv.gh.fh)) b.adv.gh.fh b.adv.old;exact ⟨p1,p2⟩
 . rintro i x H0' H' hi ⟨F0',ρ0,c0,ys,done,rest',b0,hgo,hall⟩ hy0;obtain ⟨_,_,p3⟩:=wd i H0' F0' (ho H0' (b0.adv.old.trans b0.adv.gh.fh)) b0.adv.gh.fh b0.adv.old;obtain ⟨d,F',hd',stw,rd⟩:=p3 x H' hi hy0;have b1:=b0.step en1.gh (Adv.of b0.adv.gh stw);have en2:=(en1.adv b1.adv).comp (src:=src);rw [iq hd'] at hgo;unfold fE at hgo;obtain ⟨δ1,h1,hgo1⟩:=bS hgo;obtain ⟨bo,h2,hgo2⟩:=bS hgo1;clear hgo hgo1;refine ⟨_,_,F',d,δ1,rfl,en2.en,rd,h1,fun σ2 l2 k2 e2=>⟨wk l2 k2,?_⟩⟩;have en3:=en2.mg rfl l2 k2 e2;refine ⟨_,_,F',bo,rfl,en3.en,h2,fun H3 F3 st3=>?_⟩;have b3:=b1.step en1.gh (Adv.of b1.adv.gh st3);have en4:=en3.adv (Adv.of b1.adv.gh st3);dsimp only;split at hgo2
   . rename_i q;rw [if_pos q];obtain ⟨⟨y,c4⟩,hy,hgo3⟩:=bS hgo2;obtain ⟨⟨zs,c5⟩,hzs,hgo4⟩:=mS hgo3;cases hgo4;refine ⟨_,_,F3,ρ0,y,c4,en4,hy,fun v F4 H4 ρ4 a4 rv=>?_⟩;have b4:=b3.step en1.gh a4;refine ⟨ys,b4.hD,?_,F4,ρ4,c4,ys++[v],done++[y],zs,b4.more hD rv,hzs,by rw [<- hall];simp⟩;have e1:=b4.rel.length;have e2:all.length=done.length+(zs.length+1):=by rw [<- hall];simp
     lia
   . rename_i q;rw [if_neg q];exact ⟨F3,ρ0,c0,ys,done,rest',b3,hgo2,hall⟩
 . rintro H' ⟨F',ρ',c',ys,done,rest',b,hgo,hall⟩;rw [qs9] at hgo;cases hgo;rw [qg0] at hall;subst hall;refine k1 (.ref D) F' H' _ (b.fin hD) ⟨by simp,?_⟩;dsimp only;rw [if_pos rfl]
theorem vd {ts:List Nat} {bb:Dt->De->Option De} (S:CmpScope X.N X.env.scope scope M src) (hc:X.calm=true) (hi:DIF X tg iter fi) (hg:M.Nodup->∀ C s H ex,DG (cxC X M scope C s H ex) tg ts bb)
  (ht:∀ C s H ex,DTs (cxC X M scope C s H ex) ifs ft) (he:∀ C s H ex,GE (cxC X M scope C s H ex) elt fe) (hts:(ts.all fun k=>decide (src[k]?=some none))=true) (hs:∀ x,qf7 iter X.env x=pure x:=by intro _;rfl) :
  GE X (.ListComp elt [⟨tg,iter,ifs,0⟩] scope pos) (mf src fi ts bb ft fe):=PE.mono (lN (g:=gD X.K ts bb) (tt:=tTr X.K ft) (te:=tG X.K fe) S hc hi (fun nd C s H ex=>hg nd C s H ex) (fun C s H ex=>ht C s H ex) (fun C s H ex=>he C s H ex) hs) (sj hts)
end
noncomputable def mh:Key->Dt
 | .inl i=>.int i
 | .inr x=>.str x
section
variable {K:PySem.W.Frag} {F H F' H' F1 H1:Hp} {ρ ρ' ρ1:Nat->Addr} {ch ch' ch1:CH} {i:Nat} {l:List (Key×CV)} {kvs:List (Key×V)} {ob:Obj}
end
section
variable {X:Cx} {tg d:Expr} {body:List Stmt} {fd:Fg} {g:Fs} {pos:Pos}
end
section
variable {X:Cx} {pos:Pos} {σ:St} {δ:Sl}
end
section
variable {X:Cx} {o:Expr} {fa:Fg} {pos apos cpos:Pos}
end
section
variable {X:Cx} {elt tg iter:Expr} {ifs:List Expr} {scope:Scope} {pos:Pos} {M:List Str} {src:List (Option Nat)} {fi:De->Option (List Dt)} {ft:De->Option Bool} {fe:De->Option Dt} {fg:Fg} {i:Nat}
theorem sk {sc:Scope} {N:List Str} {y:Str} {py spos:Pos} {ts:List Nat} {bb:Dt->De->Option De} (h:dE sc N i y=true) (hl:iH sc y=true) (nd:N.Nodup) (S:CmpScope X.N X.env.scope scope M src) (hc:X.calm=true) (hi:DIB X tg iter fi) (hg:M.Nodup->∀ C s H ex,DG (cxC X M scope C s H ex) tg ts bb)
  (ht:∀ C s H ex,DTs (cxC X M scope C s H ex) ifs ft) (he:∀ C s H ex,DL (cxC X M scope C s H ex) elt fe) (hts:(ts.all fun k=>decide (src[k]?=some none))=true) (hs:∀ x,qf7 iter X.env x=pure x:=by intro _;rfl)
  (e1:bZ X sc:=by rfl) (e2:X.N=N:=by rfl) (hf:X.fn y=true∨X.env.scope.names.lookup y=some .local:=by exact .inl rfl) (hsw:qm6 (.ListComp elt [⟨tg,iter,ifs,0⟩] scope pos) (some (.Name y py)) spos.line X.env=pure true:=by rfl) :
  GS1 X (.Assign [.Name y py] (.ListComp elt [⟨tg,iter,ifs,0⟩] scope pos) spos) (bv i (eD (toD (aU src fi bb ft fe)))):=by
 have e1:X.env.scope=sc:=e1;subst e1 e2;refine PS.mono (o6 (g:=gD X.K ts bb) (tt:=tTr X.K ft) (te:=tL X.K fe) nd (gB h) (kN hl) hf S hc hi (fun nd C s H ex=>hg nd C s H ex) (fun C s H ex=>ht C s H ex) (fun C s H ex=>he C s H ex) hs hsw) fun D σ H ⟨δ,ch,F,ρ,o,en,hf',k⟩=>?_
 unfold bv eD at hf';obtain ⟨p,hp,hf1⟩:=mS hf';cases hf1;obtain ⟨d,hd,hp1⟩:=mS hp;cases hp1;refine kR S hts σ H _ (r6 ⟨_,_,F,.leaf d,rfl,en.en,by unfold toT;rw [hd];rfl,fun v H' F' Z st o hs=>?_⟩);have r:RelC X.K F' ρ ch.length (.dat d) v:=o;exact k _ F' H' ρ (Adv.of en.gh st) ((en.adv (Adv.of en.gh st)).put r i)
end
section
variable {X:Cx}
end
noncomputable def cB (sc:Scope) (N:List Str):Bool:=(qb8 N.length).all fun i=>match N[i]? with
 | some x=>dE sc N i x&&iH sc x
 | none=>false
theorem nsB {sc:Scope} {N:List Str} {i:Nat} {x:Str} (h:cB sc N=true) (e:N[i]?=some x):dE sc N i x=true/\iH sc x=true:=by have h1:=qm8.mp h i (qg6.mpr (gX e).1);rw [e] at h1;exact qt5.mp h1
theorem nsN {sc:Scope} {N:List Str} (h:cB sc N=true) (i:Nat) {x:Str} (e:N[i]?=some x:=by rfl):dE sc N i x=true:=(nsB h e).1
theorem nsL {sc:Scope} {N:List Str} (h:cB sc N=true) (i:Nat) {x:Str} (e:N[i]?=some x:=by rfl):iH sc x=true:=(nsB h e).2
theorem pvN {X:Cx} {sc:Scope} {N:List Str} {x:Str} {pos:Pos} (i:Nat) (h:cB sc N=true) (e:N[i]?=some x:=by rfl) (e1:bZ X sc:=by rfl) (e2:X.N=N:=by rfl):PE X (.Name x pos) (jn i):=pvD i (nsN h i e) e1 e2
theorem o9:∀ a b:List Nat,ltCps a b=false->ltCps b a=false->a=b
 | [],[],_,_=>rfl
 | [],_::_,h,_=>by simp [ltCps] at h
 | _::_,[],_,h=>by simp [ltCps] at h
 | x::r,y::t,h,h'=>by
  simp only [ltCps,qt6,decide_eq_false_iff_not,qs3,beq_iff_eq] at h h';have e:x=y:=by lia
  subst e;rw [o9 r t (h.2 rfl) (h'.2 rfl)]
theorem pb:∀ a b:List Nat,ltCps a b=true->ltCps b a=false
 | [],[],h=>by simp [ltCps] at h
 | [],_::_,_=>rfl
 | _::_,[],h=>by simp [ltCps] at h
 | x::r,y::t,h=>by
  simp only [ltCps,qj9,decide_eq_true_eq,qb1,beq_iff_eq] at h;simp only [ltCps,qt6,decide_eq_false_iff_not,qs3,beq_iff_eq];rcases h with h | ⟨rfl,h⟩
  . exact ⟨by lia,fun e=>by lia⟩
  . exact ⟨by lia,fun _=>pb r t h⟩
theorem jY:∀ a b c:List Nat,ltCps b a=false->ltCps c b=false->ltCps c a=false
 | [],b,c,h1,h2=>by
  cases b with
  | nil=>exact h2
  | cons y t =>
   cases c with
   | nil=>simp [ltCps] at h2
   | cons z u=>rfl
 | x::r,[],c,h1,h2=>by simp [ltCps] at h1
 | x::r,y::t,[],h1,h2=>by simp [ltCps] at h2
 | x::r,y::t,z::u,h1,h2=>by
  simp only [ltCps,qt6,decide_eq_false_iff_not,qs3,beq_iff_eq] at h1 h2 ⊢;refine ⟨by lia,fun e=>?_⟩;subst e;have e:y=z:=by lia
  subst e;exact jY r t u (h1.2 rfl) (h2.2 rfl)
noncomputable def leS (a b:Str):Bool:=!ltCps b.cps.toList a.cps.toList
theorem leS_iff {a b:Str}:leS a b=true↔ltCps b.cps.toList a.cps.toList=false:=by simp [leS]
theorem jZ (a b c:Str) (h:leS a b=true) (h':leS b c=true):leS a c=true:=leS_iff.mpr (jY _ _ _ (leS_iff.mp h) (leS_iff.mp h'))
theorem qr (a b:Str):(leS a b||leS b a)=true:=by
 cases h:leS a b with
 | true=>rfl
 | false =>
  have h1:ltCps b.cps.toList a.cps.toList=true:=by simpa [leS] using h
  simp [leS_iff.mpr (pb _ _ h1)]
theorem mi {a b:Str} (h:leS a b=true) (h':leS b a=true):a=b:=by
 have e:=o9 _ _ (leS_iff.mp h') (leS_iff.mp h);cases a with
 | mk a=>cases b with
  | mk b=>simp only at e;rw [Array.toList_inj.mp e]
noncomputable def dP (ss:List Str):List Str:=ss.mergeSort leS
theorem cM (ss:List Str):(dP ss).Perm ss:=List.mergeSort_perm ss leS
theorem gi (ss:List Str):(dP ss).Pairwise fun a b=>leS a b=true:=qz7 jZ qr ss
theorem j0:∀ (p:Str) (l:List Str),risingS p l=true->(p::l).Pairwise fun a b=>leS a b=true
 | p,[],_=>by simp
 | p,x::r,h=>by
  simp only [risingS,qb1] at h;have ih:=j0 x r h.2;have h1:leS p x=true:=h.1;refine qg4.mpr ⟨fun y hy=>?_,ih⟩;rcases qa9.mp hy with rfl | hy
  . exact h1
  . exact jZ _ _ _ h1 ((qg4.mp ih).1 y hy)
theorem qu:∀ l:List Str,sortedS l=true->l.Pairwise fun a b=>leS a b=true
 | [],_=>qr5
 | x::r,h=>j0 x r h
theorem gT:∀ {a b:List Str},a.Perm b->(a.Pairwise fun a b=>leS a b=true)->(b.Pairwise fun a b=>leS a b=true)->a=b
 | [],_,p,_,_=>p.nil_eq
 | x::r,b,p,ha,hb=>by
  cases b with
  | nil=>exact absurd p.length_eq (by simp)
  | cons y t =>
   have hx:x∈y::t:=p.mem_iff.mp (.head _);have hy:y∈x::r:=p.mem_iff.mpr (.head _)
   have e:x=y:=by
    rcases qa9.mp hx with h | h
    . exact h
    . rcases qa9.mp hy with h' | h'
      . exact h'.symm
      . exact mi ((qg4.mp ha).1 y h') ((qg4.mp hb).1 x h)
   subst e;rw [gT (zh6.cons_inv p) (qg4.mp ha).2 (qg4.mp hb).2]
section
variable {X:Cx}
theorem j1 {K:PySem.W.Frag} {F:Hp}:∀ ss:List Str,Reps K F (ss.map .str) (ss.map V.str)
 | []=>by simp only [qh2,Reps]
 | x::ss=>by simp only [qa5,Reps];exact ⟨_,_,rfl,by simp only [Rep],j1 ss⟩
end
noncomputable def EntA (h:Heap) (d:Addr) (ks:List Value) (ep:Nat):Prop:=∃ o es,h.get? d=some o/\o.ExactDict/\o.data=.dict es ep/\es.toList.map (·.key)=ks
theorem EntA.upTo {h h':Heap} {d:Addr} {ks:List Value} {ep:Nat} (q:EntA h d ks ep) (k:∀ o,h.get? d=some o->h'.get? d=some o):EntA h' d ks ep:=let ⟨o,es,h1,r⟩:=q;⟨o,es,k o h1,r⟩
theorem EntA.ty {s:qa4} {d:Addr} {ks:List Value} {ep:Nat} (q:EntA s.heap d ks ep):s.TypeIs (.ref d) "dict":=let ⟨o,_,h1,h2,_⟩:=q;⟨o,h1,h2.1⟩
theorem EntA.lt {h:Heap} {d:Addr} {ks:List Value} {ep:Nat} (q:EntA h d ks ep):d<h.objs.size:=let ⟨_,_,h1,_⟩:=q;qa8 h1
section
variable {prog:qb5} {w:World} {A:qd2} {E:Value->qa4->Prop} {s:qa4} {d it:Addr} {ks:List Value} {i ep:Nat}
theorem sm {Q:Value->qa4->Prop} (lo:(d==qi1)=false) (q:EntA s.heap d ks ep)
  (k:Q (.ref s.heap.objs.size) {s with heap:=s.heap.push {cls:=.type "dict_keyiterator",data:=.fields #[.ref d,.int 0 0,.int ks.length 0,.int ep 0]}}):wpAny (model prog w) A (zg4 (.ref d)) Q E s:=by
 obtain ⟨o,es,e1,e2,e3,e4⟩:=id q;refine qx9 q.ty F.slot_dict_iter (qe5 F.slot_dict_iter q.ty F.entry_dict_iter ?_ (F.args_dict_iter_1 _));unfold qj8.«dict.__iter__»;refine wB ?_;unfold qj8.Dict.dictSlotNone;refine wB (wpAny_notOrdered_dict q.ty ?_);show wpAny _ _ (pure (qf3 d)) _ _ s;refine qa2 ?_;show wpAny _ _ (zc5 d >>= _) _ _ s;unfold zc5;rw [if_neg (by rw [lo];exact qb4)];refine wB (qa2 ?_);refine wB (qy0 e1 e3 (wB (zc6 e1 e3 ?_)));have ez:es.size=ks.length:=by rw [<- e4];simp
 refine wB (qc8 (qa2 ⟨_,rfl,"dict_keyiterator",_,⟨_,qb0 _ rfl,rfl⟩,qh5.lookup,?_⟩));simpa [qf4,ez] using k
theorem so {key:Value} {Q:Option Value->qa4->Prop} (st:s.heap.IsKeyIter it d i ks.length ep) (q:EntA s.heap d ks ep) (hk:ks[i]?=some key)
  (k:∀ h',h'.IsKeyIter it d (i+1) ks.length ep->qm2 it s.heap h'->Q (some key) {s with heap:=h'}):wpAny (model prog w) A (qs1 (.ref it)) Q E s:=by
 obtain ⟨oi,i1,i2,i3⟩:=id st;obtain ⟨o,es,e1,e2,e3,e4⟩:=id q;unfold qs1;refine wB (qq4 (qd9 (name:=qa0 "__next__") st.typeIs qh5 (qe5 qh5 st.typeIs qt1 ?_ (qs4 _))));refine wB (qa2 (wB (wB ?_)))
 first | refine wB (qi9 st.typeIs (qa2 ?_)) | refine wB (qm0 st.typeIs (qa2 ?_))
 refine wB (qp0 i1 i3 ?_);have ow:qt9 "dict_keyiterator"=false:=by decide
 simp only [ow,qh7,if_false];show wpAny _ _ (if (qf3 d==qh1)=true then _ else _) _ _ s;rw [if_neg (show ¬ ((qf3 d==qh1)=true) from qb4)];refine wB (qa2 (wB (qy0 e1 e3 ?_)));have ez:es.size=ks.length:=by rw [<- e4];simp
 rw [if_neg (by rw [ez];simp)];refine wB (qa2 (wB (zc6 e1 e3 ?_)));rw [if_neg (by simp)];refine qa2 ?_;have li:i<es.size:=by rw [ez];exact (gX hk).1
 have hkey:es[i].key=key:=by rw [<- e4,qb9,qs2,qf8 li] at hk;exact qe1 hk
 simp only [show ¬ ((i:Int)<0) from by lia,if_false,qd5,qf8 li];refine wB ?_
 first | refine wB (qi9 st.typeIs (qa2 ?_)) | refine wB (qm0 st.typeIs (qa2 ?_))
 refine wB (zc7 st.typeIs ?_);show wpAny _ _ (qz8 (.ref it) 1 (qf4 ((i:Int)+1)) >>= _) _ _ s;refine qg5 (qi5 i1 i3 (by simp) ?_)
 have st':(s.heap.update it (qo5 (·.setIfInBounds 1 (qf4 ((i:Int)+1))))).IsKeyIter it d (i+1) ks.length ep:=⟨_,qd4 _ i1 (qh3 (qd6 i3 _)),(qo4 ..).trans i2,by rw [qd6 i3];simp [qf4]⟩
 refine wB (qg9 (wB (zc7 (s:={s with heap:=s.heap.update it (qo5 (·.setIfInBounds 1 (qf4 ((i:Int)+1))))}) st'.typeIs ?_)));show wpAny _ _ (pure es[i].key) _ _ _;rw [hkey];exact qa2 (qa2 ⟨_,rfl,qa2 (k _ st' (qe3 ..))⟩)
theorem ve {Q:Option Value->qa4->Prop} (nh:A.handled=none) (st:s.heap.IsKeyIter it d i ks.length ep) (q:EntA s.heap d ks ep) (hi:i=ks.length)
  (k:∀ h',ze6 it s.heap h'->Q none {s with heap:=h'}):wpAny (model prog w) A (qs1 (.ref it)) Q E s:=by
 obtain ⟨oi,i1,i2,i3⟩:=id st;obtain ⟨o,es,e1,e2,e3,e4⟩:=id q;unfold qs1;refine wB (qq4 (qd9 (name:=qa0 "__next__") st.typeIs qh5 (qe5 qh5 st.typeIs qt1 ?_ (qs4 _))));refine wB (qa2 (wB (wB ?_)))
 first | refine wB (qi9 st.typeIs (qa2 ?_)) | refine wB (qm0 st.typeIs (qa2 ?_))
 refine wB (qp0 i1 i3 ?_);have ow:qt9 "dict_keyiterator"=false:=by decide
 simp only [ow,qh7,if_false];show wpAny _ _ (if (qf3 d==qh1)=true then _ else _) _ _ s;rw [if_neg (show ¬ ((qf3 d==qh1)=true) from qb4)];refine wB (qa2 (wB (qy0 e1 e3 ?_)));have ez:es.size=ks.length:=by rw [<- e4];simp
 rw [if_neg (by rw [ez];simp)];refine wB (qa2 (wB (zc6 e1 e3 ?_)));rw [if_neg (by simp)];refine qa2 ?_;have ge:es.size<=i:=by rw [ez];lia
 simp only [show ¬ ((i:Int)<0) from by lia,if_false,qd5,qn2 ge];refine wB ?_
 first | refine wB (qi9 st.typeIs (qa2 ?_)) | refine wB (qm0 st.typeIs (qa2 ?_))
 show wpAny _ _ (qz8 (.ref it) 0 .none >>= _) _ _ s;refine qg5 (qi5 i1 i3 (by simp) ?_);show wpAny _ _ (zf7 (.type "StopIteration") [] >>= _) _ _ _;refine wB ?_;simp only [zf7,zh0];refine wB (qc8 ?_ (by size_fits));refine qg5 (m:=qk9 _ _) (qu5 (a:=qh1) (by first | rfl | (simp only [qk9];rfl)) (qc8 ?_ (by size_fits)));simp only [zf8];refine wB (qz6 ?_);rw [show A.in1.handled=none from nh];refine wB (qa2 (ze7 ?_));refine wB (qt2 (b:=true) (T:="StopIteration") ⟨_,qb0 _ rfl,rfl⟩ ze1 ?_);exact qa2 (k _ (((qe3 ..).extBut.push _).push _))
theorem qv (nh:A.handled=none) (hne:d≠it):Walks prog w A it [it,d] [it] ks.length (fun i v=>ks[i]?=some v) (fun i h=>h.IsKeyIter it d i ks.length ep/\EntA h d ks ep) where
 sub:=fun b hb=>by simp at hb;simp [hb]
 frame:=fun _ _ _ st hk=>⟨let ⟨o,h1,r⟩:=st.1;⟨o,hk it (by simp) o h1,r⟩,st.2.upTo fun o e=>hk d (by simp) o e⟩
 item:=fun i s Q E hi st hQ=>so st.1 st.2 (key:=ks[i]) (by simp [hi]) fun h' st' sb=>hQ _ h' s.toks (by simp [hi]) ⟨st',st.2.upTo fun o e=>sb.extBut d o hne e⟩ fun b o hb e=>sb.extBut b o (fun z=>hb (by simp [z])) e
 done:=fun s Q E st hQ=>ve nh st.1 st.2 rfl fun h' eb=>hQ h' s.toks fun b o hb e=>eb b o (fun z=>hb (by simp [z])) e
 self:=fun _ _ _ _ st hQ=>wpAny_pyIter_keyiter st.1 hQ
theorem vf (lo:(d==qi1)=false):PySem.W.KdlSrc prog w "dict" d d ks.length (fun i v=>ks[i]?=some v) (fun h=>EntA h d ks ep) where
 type:=fun _ q=>q.ty
 there:=fun _ q=>⟨q.lt,q.lt⟩
 keep:=fun _ _ q hk=>q.upTo fun o e=>hk d (.inl rfl) o e
 notList:=by decide
 notTuple:=by decide
 hint:=fun _ _ _ _ q hq=>PySem.W.kdl_hint_dict q.ty hq
 iter:=fun _ _ nh q=>⟨_,_,(fun _ _ hq=>sm lo q hq),qv nh (qc4 q.lt),⟨⟨_,qb0 _ rfl,rfl,rfl⟩,q.upTo fun o e=>gP _ e⟩⟩
end
section
variable {K:PySem.W.Frag} {F H:Hp} {ρ:Nat->Addr} {ch:CH}
end
section
variable {X:Cx} {tg:Expr}
end
section
variable {K:PySem.W.Frag} {F H F' H' F1 H1:Hp} {ρ ρ' ρ1:Nat->Addr} {ch ch' ch1:CH} {i:Nat} {l:List (List Key×CV)} {kvs:List (List Key×V)} {ob:Obj}
end
section
variable {X:Cx} {tg d:Expr} {body:List Stmt} {fd:Fg} {g:Fs} {pos:Pos}
end
section
variable {X:Cx} {e a b o value:Expr} {es:List Expr} {f fa fb fc fe fk:Fg} {fs:Fgs} {pos apos cpos tpos p:Pos} {sc:Scope} {x:Str} {K:PySem.W.Frag}
end
noncomputable def tupC (ch:CH):CV->Option (List CV)
 | .dat (.tup ds)=>some (ds.map .dat)
 | .ref i=>match ch[i]? with
  | some (.tup l)=>some l
  | _=>none
 | _=>none
section
variable {K:PySem.W.Frag} {F H:Hp} {ρ:Nat->Addr} {ch:CH} {c:CV} {v:V}
end
section
variable {X:Cx} {e a b o iter tg:Expr} {es:List Expr} {body:List Stmt} {g:Fs} {f fa fb fc fe fk:Fg} {fs:Fgs} {pos apos cpos tpos p:Pos} {sc:Scope} {x:Str} {K:PySem.W.Frag}
abbrev Fb:=CV->CH->Sl->Option Sl
noncomputable def tGG (K:PySem.W.Frag) (b:Fb):TG:=fun v σ H Q=>∃ δ ch F ρ c δ',Ge K δ ch σ F H ρ/\RelC K F ρ ch.length c v/\b c ch δ=some δ'/\∀ σ',Ge K δ' ch σ' F H ρ->Q σ' H
noncomputable def GG (X:Cx) (tg:Expr) (b:Fb):Prop:=PG X tg (tGG X.K b)
noncomputable def ggN (i:Nat):Fb:=fun c _ δ=>some (δ.set i (some c))
theorem vg {i:Nat} (h:PG X tg (g8 i)):GG X tg (ggN i):=PG.mono h fun v σ H Q ⟨δ,ch,F,ρ,c,δ',en,r,hb,k⟩=>by cases hb;exact k _ (en.put r i)
noncomputable def lstC (ch:CH):CV->Option (List CV)
 | .dat (.lst ds)=>some (ds.map .dat)
 | .ref i=>match ch[i]? with
  | some (.lst l)=>some l
  | _=>none
 | _=>none
noncomputable def jt (i:Nat) (b:Fb) (g:Fs):Nat->Nat->Sl->CH->Option Og
 | 0,_,_,_=>none
 | n+1,k,δ,ch=>match ch[i]? with
  | some (.lst l)=>match l[k]? with
   | none=>some (.nx δ ch)
   | some c=>(b c ch δ).bind fun δ1=>(g δ1 ch).bind fun o=>match o with
    | .nx δ2 ch2=>jt i b g n (k+1) δ2 ch2
    | .ct δ2 ch2=>jt i b g n (k+1) δ2 ch2
    | .bk δ2 ch2=>some (.nx δ2 ch2)
    | .rt c ch2=>some (.rt c ch2)
  | _=>none
noncomputable def iU (fd:Fg) (b:Fb) (g:Fs) (n:Nat):Fs:=fun δ ch=>(fd δ ch).bind fun p=>match p.1 with
 | .ref i=>jt i b g n 0 δ p.2
 | _=>none
theorem vh {b:Fb} (n:Nat) (hp:zb6 (model X.prog X.w) X.A X.env X.xe) (hc:X.calm=true) (hd:GE X iter fa) (hg:GG X tg b) (hb:GS X body g)
  (hs:∀ x,qf7 iter X.env x=pure x:=by intro _;rfl):GS1 X (.For tg iter body [] pos) (iU fa b g n):=PS.mono (na hp hc (ky hd) hg hb hs) fun D σ H ⟨δ,ch,F,ρ,og,en,hgg,k⟩=>by
 unfold iU at hgg;obtain ⟨⟨c1,ch1⟩,hpp,hg1⟩:=bS hgg;clear hgg;dsimp only at hg1;split at hg1<;>first | (cases hg1;done) | skip
 rename_i i;rw [kM];refine ⟨δ,ch,F,ρ,_,ch1,en,hpp,fun v F1 H1 ρ1 a1 r1=>?_⟩;obtain ⟨hi,rfl⟩:=r1;have en1:=en.adv a1;have k1:=k.adv en.gh a1;refine ⟨ρ1 i,rfl,?_,?_⟩
 . cases n with
   | zero=>cases hg1
   | succ n =>
    unfold jt at hg1;split at hg1<;>first | (cases hg1;done) | skip
    rename_i l hl;obtain ⟨vs,q1,_⟩:=a1.gh.ok i _ hl;exact ⟨vs,SqL.of q1⟩
 refine ⟨fun j m σ' H'=>∃ δ' ch' F' ρ',Adv X.K F1 H1 ρ1 ch1 F' H' ρ' ch'/\Ge X.K δ' ch' σ' F' H' ρ'/\jt i b g m j δ' ch'=some og,⟨n,δ,ch1,F1,ρ1,Adv.refl a1.gh,en1,hg1⟩,?_⟩;rintro j m σ' H' ⟨δ',ch',F',ρ',a',en',hgo⟩;cases m with
 | zero=>cases hgo
 | succ m =>
  unfold jt at hgo;split at hgo<;>first | (cases hgo;done) | skip
  rename_i l hl;obtain ⟨vs,q1,q2⟩:=a'.gh.ok i _ hl;rw [a'.ext i hi] at q1;split at hgo
  . rename_i hj;cases hgo;refine .inl ⟨⟨vs,SqL.of q1,?_⟩,k1 σ' F' H' ρ' a' en'⟩;rw [q2.length];exact qp1.mp hj
  . rename_i c hj;obtain ⟨δ1,z1,hgo1⟩:=bS hgo;obtain ⟨o1,z2,hgo2⟩:=bS hgo1;clear hgo hgo1;obtain ⟨v,hv,rv⟩:=q2.get hj;refine .inr ⟨⟨vs,v,SqL.of q1,hv⟩,fun σ2 H2=>∃ δ' ch' F' ρ',Adv X.K F1 H1 ρ1 ch1 F' H2 ρ' ch'/\Ge X.K δ' ch' σ2 F' H2 ρ'/\jt i b g m (j+1) δ' ch'=some og,fun σ2 H2 z=>⟨m,by lia,z⟩,fun x H'' hy=>?_⟩;obtain ⟨rfl,hy⟩:=hy;have hx:=hy vs (SqL.of q1);rw [hv] at hx;cases hx;refine ⟨δ',ch',F',ρ',c,δ1,en',rv,z1,fun σ1 en2=>⟨δ1,ch',F',ρ',o1,en2,z2,?_⟩⟩;cases o1 with
    | nx δ2 c2=>exact fun σ2 F3 H3 ρ3 a4 en4=>⟨δ2,c2,F3,ρ3,a'.trans a1.gh a4,en4,hgo2⟩
    | ct δ2 c2=>exact fun σ2 F3 H3 ρ3 a4 en4=>⟨δ2,c2,F3,ρ3,a'.trans a1.gh a4,en4,hgo2⟩
    | bk δ2 c2=>cases hgo2;exact fun σ2 F3 H3 ρ3 a4 en4=>k1 σ2 F3 H3 ρ3 (a'.trans a1.gh a4) en4
    | rt c c2=>cases hgo2;exact fun v F3 H3 ρ3 a4 r=>k1 v F3 H3 ρ3 (a'.trans a1.gh a4) r
noncomputable def dz {α β:Type} (f:α->Option β):List α->Option (List β)
 | []=>some []
 | a::l=>(f a).bind fun b=>(dz f l).map (b::·)
noncomputable def vwD (ch:CH):Nat->CV->Option Dt
 | _,.dat d=>some d
 | _,.fn _ _=>none
 | 0,.ref _=>none
 | n+1,.ref i=>match ch[i]? with
  | some (.lst l)=>(dz (vwD ch n) l).map .lst
  | some (.tup l)=>(dz (vwD ch n) l).map .tup
  | some (.dK l)=>(dz (vwD ch n) (l.map (·.2))).map (.dct (l.map (·.1)))
  | some (.dT l)=>(dz (vwD ch n) (l.map (·.2))).map (.dcT (l.map (·.1)))
  | _=>none
theorem cN {F H:Hp} {ρ:Nat->Addr} {m:Nat} {f:CV->Option Dt} (hf:∀ c v d,RelC K F ρ m c v->f c=some d->Rep K H d v):∀ {l:List CV} {ds:List Dt} {vs:List V},RelCs K F ρ m l vs->dz f l=some ds->Reps K H ds vs
 | [],ds,vs,r,h=>by cases h;simp only [Reps];exact r
 | c::l,ds,vs,r,h=>by simp only [dz] at h;obtain ⟨d,hd,h⟩:=bS h;obtain ⟨es,he,rfl⟩:=mS h;obtain ⟨v,ws,rfl,r1,r2⟩:=r;simp only [Reps];exact ⟨v,ws,rfl,hf c v d r1 hd,cN hf r2 he⟩
theorem pc {F H:Hp} {ρ:Nat->Addr} {ch:CH} (gh:Gh K F H ρ ch):∀ (n:Nat) (c:CV) (v:V) (d:Dt),RelC K F ρ ch.length c v->vwD ch n c=some d->Rep K H d v
 | 0,.dat d',v,d,r,h=>by simp only [vwD] at h;cases h;exact Rep.same gh.fh r
 | n+1,.dat d',v,d,r,h=>by simp only [vwD] at h;cases h;exact Rep.same gh.fh r
 | 0,.fn _ _,v,d,r,h=>by simp only [vwD] at h;cases h
 | n+1,.fn _ _,v,d,r,h=>by simp only [vwD] at h;cases h
 | 0,.ref i,v,d,r,h=>by simp only [vwD] at h;cases h
 | n+1,.ref i,v,d,r,h=>by
  obtain ⟨hi,rfl⟩:=r;simp only [vwD] at h;have ih:=pc gh n;split at h
  . rename_i l hl;obtain ⟨ds,hd,rfl⟩:=mS h;obtain ⟨vs,h1,h2⟩:=gh.ok i _ hl;simp only [Rep];exact ⟨_,vs,rfl,SqL.of h1,cN ih h2 hd⟩
  . rename_i l hl;obtain ⟨ds,hd,rfl⟩:=mS h;obtain ⟨vs,h1,h2⟩:=gh.ok i _ hl;simp only [Rep];exact ⟨_,vs,rfl,SqT.of h1,cN ih h2 hd⟩
  . rename_i l hl;obtain ⟨ds,hd,rfl⟩:=mS h;obtain ⟨vs,h1,h2,h3⟩:=gh.ok i _ hl;simp only [Rep];exact ⟨_,vs,rfl,.inl h1,h2,cN ih h3 hd⟩
  . rename_i l hl;obtain ⟨ds,hd,rfl⟩:=mS h;obtain ⟨vs,h1,h2,h3⟩:=gh.ok i _ hl;simp only [Rep];exact ⟨_,vs,rfl,.inl h1,h2,cN ih h3 hd⟩
  . cases h
end
set_option maxRecDepth 20000
noncomputable def wE (i j:Int):Prop:=0<j/\j<18446744073709551616
theorem eM {X:Cx}:OpR X (qk5 .FloorDiv) (rI wE fun i j=>.int (i/j)):=opI fun i j _ _ _ _ _ hc q=>by
 have h1:(0:Int)<j:=hc.1;have h2:j<18446744073709551616:=hc.2;refine floordiv_int (by lia) (by rw [Int.fdiv_eq_ediv_of_nonneg i (by lia)];exact q) (.inl (PyProof.noPylong_of_log2 ?_));have h3:j.natAbs≠0:=by lia
 exact zc2 ((Nat.log2_lt h3).mpr (show j.natAbs<2^64 by lia)) (by decide)
noncomputable def fF:Dt->Dt->Option T
 | .int i,.int j=>if 0<j/\j<18446744073709551616 then some (.leaf (.int (i/j))) else none
 | _,_=>none
theorem iV {K:PySem.W.Frag}:R2D K (rI wE fun i j=>.int (i/j)) fF:=by
 intro F H x y vx vy Q t fh rx ry hg k;unfold fF at hg;split at hg<;>first | (cases hg;done) | skip
 split at hg
 . rename_i hc;cases hg;cases rx;cases ry;exact ⟨_,_,rfl,rfl,hc,k.int fh⟩
 . cases hg
section
variable {K:PySem.W.Frag} {F:Hp} {ρ:Nat->Addr} {n:Nat}
end
section
variable {X:Cx} {e a b o iter tg:Expr} {es:List Expr} {body:List Stmt} {g:Fs} {f fa fb fc fe fk:Fg} {fs:Fgs} {pos apos cpos tpos p:Pos} {sc:Scope} {x:Str} {K:PySem.W.Frag}
end
noncomputable def vi (lo st:Int) (n:Nat):It:=⟨fun i _=>i<n,fun i H x H'=>H'=H/\x=.int (lo+i*st),fun i _=>n<=i⟩
theorem mj {P:qb5} {w:World} {K:PySem.W.Frag} {tg:Expr} (it:Addr) (lo st:Int) (n:Nat):Turn P w K tg (vi lo st n) [it] it (fun i h=>ze2 h it (lo+(i:Nat)*st) ((n:Int)-(i:Nat)) st) where
 mem:=by simp
 obj:=fun i h q b hb=>by
  have e:b=it:=by simpa using hb
  subst e
  exact ⟨_,q,fun v z=>by have z':Data.fields _=Data.cell v:=z;cases z'⟩
 keep:=fun i h h' q k=>k it (by simp) _ q
 item:=by
  intro X hP hw hK hc i pins s σ H E I hf q hg;subst hP hw hK;obtain ⟨f0,f1,f2,f3,f4,f5⟩:=hf it (by simp);have W:=Walks.range (prog:=X.prog) (w:=X.w) (I.ok.hd hc) it lo st n;refine W.item i s _ _ hg q fun v h' tk hv q' kk=>?_
  obtain ⟨t,rfl⟩:=hv;have I1:Inv X pins σ H {s with heap:=h',toks:=tk}:=I.turned (fun b o hb e=>kk b o (by simpa using hb) e) f0 f1 f3 f4 f5;exact ⟨_,rfl,jz (s:={s with heap:=h',toks:=tk}) (n:="range_iterator") q' rfl rfl (by decide) ⟨.int (lo+i*st),H,I1,⟨t,rfl⟩,⟨rfl,rfl⟩,q',fun b hb=>(hf b hb).1⟩⟩
 done:=by intro X hP hw hK hc i pins s σ H E I hf q hg;subst hP hw hK;obtain ⟨f0,f1,f2,f3,f4,f5⟩:=hf it (by simp);exact za6 (I.ok.hd hc) q (by have:n<=i:=hg;lia) fun h' eb=>⟨rfl,I.turned (t':=s.toks) (fun b o hb e=>eb b o hb e) f0 f1 f3 f4 f5⟩
 self:=fun _ _ _ _ _ q h=>za7 q h
noncomputable def sq (a b c:Int):Bool:=decide (-1000000<=a)&&decide (a<=1000000)&&decide (-1000000<=b)&&decide (b<=1000000)&&decide (-1000000<=c)&&decide (c<=1000000)&&decide (c≠0)
structure R3 (a b c:Int):Prop where
 a0:-1000000<=a
 a1:a<=1000000
 b0:-1000000<=b
 b1:b<=1000000
 c0:-1000000<=c
 c1:c<=1000000
 c:c≠0
theorem Af {a b c:Int} (h:sq a b c=true):R3 a b c:=by unfold sq at h;simp only [qb1,decide_eq_true_eq] at h;obtain ⟨⟨⟨⟨⟨⟨h1,h2⟩,h3⟩,h4⟩,h5⟩,h6⟩,h7⟩:=h;exact ⟨h1,h2,h3,h4,h5,h6,h7⟩
theorem R3.size {a b c:Int} (h:R3 a b c):0<=qc6 a b c/\qc6 a b c<=2000001:=by
 obtain ⟨h1,h2,h3,h4,h5,h6,h7⟩:=h;unfold qc6;split
 . rename_i hc;split
   . have e1:0<=(b-a-1)/c:=Int.ediv_nonneg (by lia) (by lia);have e2:(b-a-1)/c<=b-a-1:=Int.ediv_le_self _ (by lia);lia
   . lia
 . split
   . have e1:0<=(a-b-1) / -c:=Int.ediv_nonneg (by lia) (by lia);have e2:(a-b-1) / -c<=a-b-1:=Int.ediv_le_self _ (by lia);lia
   . lia
theorem fits {a:Int} (h0:-9000000<=a) (h1:a<=9000000):qu7 a=true:=by unfold qu7;simp;lia
theorem R3.small {a b c:Int} (h:R3 a b c):qj8.Range.small a b c=true:=by
 have hs:=h.size;obtain ⟨h1,h2,h3,h4,h5,h6,h7⟩:=h;unfold qj8.Range.small;rw [fits (a:=a) (by lia) (by lia),fits (a:=b) (by lia) (by lia),fits (a:=c) (by lia) (by lia),fits (a:=qc6 a b c) (by lia) (by lia)];simp only [zf5,qo3,qj9];right;split
 . exact fits (by lia) (by lia)
 . exact fits (by lia) (by lia)
section
variable {X:Cx} {tg:Expr}
theorem qw {pins:List (Addr×Obj)} {σ:St} {H:Hp} {s:qa4} {R:It->Hp->Prop} {E:Value->qa4->Prop} {a b c:Int} {t u v:Tok} {tk:Nat} (I:Inv X pins σ H s) (h:R3 a b c)
  (q:R (vi a c (qc6 a b c).toNat) H):wpAny (model X.prog X.w) X.A (zg4 (.ref s.heap.objs.size)) (PIE X pins σ tg R) E {s with heap:=s.heap.push {cls:=.type "range",data:=.fields #[.int a t,.int b u,.int c v]},toks:=tk}:=by
 refine wpAny_pyIter_range (IsRange.new ..) h.small ?_;have I1:Inv X pins σ H {s with heap:=s.heap.push {cls:=.type "range",data:=.fields #[.int a t,.int b u,.int c v]},toks:=tk}:=I.kept fun b o e=>gP _ e
 refine ⟨(s.heap.push {cls:=.type "range",data:=.fields #[.int a t,.int b u,.int c v]}).objs.size,[(s.heap.push {cls:=.type "range",data:=.fields #[.int a t,.int b u,.int c v]}).objs.size],_,_,H,rfl,I1.kept (t':=tk) fun b o e=>gP _ e,mj _ a c (qc6 a b c).toNat,?_,fun bb hb=>?_,q⟩
 . have e1:a+((0:Nat):Int)*c=a:=by simp
   have e2:(((qc6 a b c).toNat:Nat):Int)-((0:Nat):Int)=qc6 a b c:=by have:=h.size;lia
   show ze2 _ _ (a+((0:Nat):Int)*c) ((((qc6 a b c).toNat:Nat):Int)-((0:Nat):Int)) c;rw [e1,e2];exact qb0 _ rfl
 . have e:bb=(s.heap.push {cls:=.type "range",data:=.fields #[.int a t,.int b u,.int c v]}).objs.size:=by simpa using hb
   subst e;exact I1.fpOk (nL _) (I1.hok.fresh (nL _))
noncomputable def Ah (ta:TA):TI:=fun σ H R=>ta σ H fun vs H1=>∃ a b c:Int,vs=[.int a,.int b,.int c]/\R3 a b c/\R (vi a c (qc6 a b c).toNat) H1
theorem qx {a b c:Expr} {ta:TA} {p pos:Pos} (hg:Gl X "range") (hm:X.mg "range"=none) (ha:PA X [a,b,c] ta) (hs:qa6 [a,b,c] X.env=[(false,eval a X.env),(false,eval b X.env),(false,eval c X.env)]:=by rfl) (hs2:qa6 [b,c] X.env=[(false,eval b X.env),(false,eval c X.env)]:=by rfl) :
  PI X tg (.Call (.Name "range" p) [a,b,c] [] pos) (Ah ta):=by
 intro pins s σ H R I h;refine Call_ (fH I hg hm boot_range (qj5 (thn (ha pos pins s σ H _ I h) fun us s1 ⟨vs,H1,I1,r1,q1⟩=>?_) (by rw [hs,hs2]) (by rw [hs2];rfl)));obtain ⟨i,j,k,e,q0,q⟩:=q1;subst e;cases r1 with
 | cons r rr =>
  cases rr with
  | cons r' rr =>
   cases rr with
   | cons r'' rr =>cases rr;obtain ⟨t,rfl⟩:=r;obtain ⟨t',rfl⟩:=r';obtain ⟨t'',rfl⟩:=r'';refine call_range_3 q0.c (qw I1 q0 q) (.inl (PyProof.noPylong_small ?_));have:=q0.c0;have:=q0.c1;lia
noncomputable def gj (lo st:Int) (n:Nat):List V:=(qb8 n).map fun (i:Nat)=>V.int (lo+i*st)
theorem plain_rangeS {lo st:Int} {n:Nat}:Plain (vi lo st n) (gj lo st n) (fun _=>True):=fun i H h=>by
 refine ⟨fun hi=>?_,fun e=>?_,fun x H' hi y=>?_⟩
 . show i<n;simpa [gj] using hi
 . show n<=i;simp [gj] at e;lia
 . obtain ⟨e,rfl⟩:=y;refine ⟨e,?_⟩;unfold gj at hi ⊢;rw [qa3,qi2] at hi;rw [qb9,qu3 hi];rfl
noncomputable def nM (lo st:Int) (n:Nat):List Dt:=(qb8 n).map fun (i:Nat)=>.int (lo+i*st)
theorem ml {K:PySem.W.Frag} {F:Hp} (lo st:Int) (n:Nat):Reps K F (nM lo st n) (gj lo st n):=Reps.map (fun _=>f8) _
noncomputable def mm:List Dt->Option (List Dt)
 | [.int a,.int b,.int c]=>if sq a b c then some (nM a c (qc6 a b c).toNat) else none
 | _=>none
variable {p pos:Pos} {sc:Scope} {x y z:Expr} {fs:De->Option (List Dt)}
theorem j2 (h:aF sc "range"=true) (hm:X.mg "range"=none) (ha:DA X [x,y,z] fs) (e1:bZ X sc:=by rfl) (hs:qa6 [x,y,z] X.env=[(false,eval x X.env),(false,eval y X.env),(false,eval z X.env)]:=by rfl) (hs2:qa6 [y,z] X.env=[(false,eval y X.env),(false,eval z X.env)]:=by rfl) :
  DIF X tg (.Call (.Name "range" p) [x,y,z] [] pos) (dh mm fs):=
 PI.mono (qx (glD h e1) hm ha.pa hs hs2) fun σ H R ⟨Φ,δ,F,ds,hK,en,hf,k⟩=>by
  unfold dh at hf;obtain ⟨as,hd,hf⟩:=bS hf;refine ⟨Φ,δ,F,as,hK,en,hd,fun vs H' F' st r=>?_⟩;unfold mm at hf;split at hf
  . rename_i i j l;split at hf
    . rename_i hj;cases hf;simp only [Reps,Rep] at r;obtain ⟨v,ws,rfl,rfl,w,us,rfl,rfl,w',us',rfl,rfl,rfl⟩:=r;exact ⟨i,j,l,rfl,Af hj,k _ _ H' F' st (plain_rangeS.walk (ml _ _ _)) fun _ _=>trivial⟩
    . cases hf
  . cases hf
end
section
variable {X:Cx} {pins:List (Addr×Obj)} {σ:St} {H:Hp} {s:qa4} {a b:Addr} {v:V} {r:Value} {A:qd2} {E:Value->qa4->Prop}
end
section
variable {X:Cx} {o i e value:Expr} {pos pos' tpos:Pos} {td ty tv:TE} {fa fk fe:Fg}
end
section
variable {X:Cx} {es:List Expr} {pos:Pos}
end
section
variable {X:Cx} {e a b o iter tg:Expr} {es:List Expr} {body:List Stmt} {g:Fs} {f fa fb fc fe fk:Fg} {fs:Fgs} {pos apos cpos tpos p:Pos} {sc:Scope} {x:Str} {K:PySem.W.Frag}
end
noncomputable def Rs (xs:Array Nat):Prop:=xs.toList.Pairwise (· < ·)
theorem Rs.lt {xs:Array Nat} (h:Rs xs) {i k:Nat} (hi:i<k) (hk:k<xs.size):xs[i]<xs[k]:=by have:=List.pairwise_iff_getElem.mp h i k (by simp;lia) (by simpa using hk) hi;simpa using this
noncomputable def Cut (xs:Array Nat) (j p:Nat):Prop:=p<=xs.size/\(∀ i (q:i<xs.size),i<p->xs[i]<j)/\∀ i (q:i<xs.size),p<=i->j<=xs[i]
theorem nN {xs:Array Nat} {j:Nat} (h:Rs xs):∀ n lo hi,hi<=xs.size->lo<=hi->hi-lo<=n->(∀ i (q:i<xs.size),i<lo->xs[i]<j)->(∀ i (q:i<xs.size),hi<=i->j<=xs[i])->Cut xs j (qf1.go xs j n lo hi)
 | 0,lo,hi,h1,h2,h3,h4,h5=>by
  have e:lo=hi:=by lia
  subst e;exact ⟨h1,h4,h5⟩
 | n+1,lo,hi,h1,h2,h3,h4,h5=>by
  rw [qf1.go];by_cases c:lo<hi
  . rw [if_pos c];have hm:(lo+hi)/2<xs.size:=by lia
    dsimp only;rw [Array.getD_eq_getD_getElem?,qf8 hm,Option.getD_some];by_cases d:xs[(lo+hi)/2]<j
    . rw [if_pos d];refine nN h n _ hi h1 (by lia) (by lia) (fun i q hi2=>?_) h5;by_cases e:i=(lo+hi)/2
      . subst e;exact d
      . exact zc2 (h.lt (by lia:i<(lo+hi)/2) hm) d
    . rw [if_neg d];refine nN h n lo _ (by lia) (by lia) (by lia) h4 fun i q hi2=>?_
      by_cases e:i=(lo+hi)/2
      . subst e;lia
      . have:=h.lt (by lia:(lo+hi)/2<i) q;lia
  . rw [if_neg c];have e:lo=hi:=by lia
    subst e;exact ⟨h1,h4,h5⟩
theorem gU {xs:Array Nat} (h:Rs xs) (j:Nat):Cut xs j (qf1 xs j):=nN h _ _ _ (nL _) (qi8 _) (nL _) (fun i _ z=>absurd z (qn9 _)) fun i q z=>absurd q (ql9.mpr z)
theorem Cut.uniq {xs:Array Nat} {j p q:Nat} (a:Cut xs j p) (b:Cut xs j q):p=q:=by
 obtain ⟨a1,a2,a3⟩:=a;obtain ⟨b1,b2,b3⟩:=b;rcases Nat.lt_trichotomy p q with h | h | h
 . have x:=b2 p (by lia) h;have y:=a3 p (by lia) (nL _);lia
 . exact h
 . have x:=a2 q (by lia) h;have y:=b3 q (by lia) (nL _);lia
theorem mn {xs:Array Nat} (h:Rs xs):qf1 xs 0=0:=(gU h 0).uniq ⟨qi8 _,fun i _ z=>absurd z (qn9 _),fun _ _ _=>qi8 _⟩
theorem nO {xs:Array Nat} (h:Rs xs) {i:Nat} (hi:i<xs.size):qf1 xs (xs[i]+1)=i+1:=(gU h _).uniq ⟨hi,fun k q hk=>by
 by_cases e:k=i
 . subst e;lia
 . exact qh4 (h.lt (by lia:k<i) hi),fun k q hk=>h.lt hk q⟩
theorem sr {α:Type} (xs:Array α) (p:Nat) (x:α):(qy1 xs p x).toList=xs.toList.take p++x::xs.toList.drop p:=by simp only [qy1,Array.toList_append,qy2,Array.toList_extract,qi4,zc8];simp;rw [qh9 (by simp)]
theorem ym {xs:Array Nat} (h:Rs xs) {j:Nat} (hj:xs[qf1 xs j]?≠some j):Rs (qy1 xs (qf1 xs j) j):=by
 obtain ⟨c1,c2,c3⟩:=gU h j;generalize qf1 xs j=p at*
 have hl:∀ a∈xs.toList.take p,a<j:=fun a ha=>by
  obtain ⟨i,hi,rfl⟩:=qo7.mp ha;have hi2:i<p/\i<xs.size:=by simp at hi;lia
  simpa using c2 i hi2.2 hi2.1
 have hg:∀ a∈xs.toList.drop p,j<a:=fun a ha=>by
  obtain ⟨i,hi,rfl⟩:=qo7.mp ha;have hi2:p+i<xs.size:=by simp at hi;lia
  have:=c3 (p+i) hi2 (by lia)
  have hne:xs[p+i]≠j:=fun e=>by
   by_cases z:i=0
   . subst z;exact hj (by rw [qf8 (by simpa using hi2)];simpa using e)
   . have y:=c3 p (by lia) (nL _);have w:=h.lt (by lia:p<p+i) hi2;lia
  simp;lia
 unfold Rs;rw [sr,List.pairwise_append];refine ⟨h.sublist (List.take_sublist _ _),qg4.mpr ⟨hg,h.sublist (List.drop_sublist _ _)⟩,fun a ha b hb=>?_⟩;rcases qa9.mp hb with rfl | hb
 . exact hl a ha
 . exact zc2 (hl a ha) (hg b hb)
noncomputable def Fre (t:qf2) (j:Nat):Prop:=t.place[qf1 t.place j]?≠some j
theorem mq {t:qf2} {j:Nat} (h:∀ i,t.slot j≠.live i):Fre t j:=fun z=>by refine h (qf1 t.place j) ?_;unfold qf2.slot;dsimp only;rw [if_pos (by rw [z];simp)]
theorem j3 (t:qf2) (p:qf2.Probe):(t.advance p).dummy=p.dummy:=by unfold qf2.advance;split<;>rfl
theorem gW {t:qf2} {g:Nat->Int} {h:Int}:∀ n p,(∀ d,p.dummy=some d->Fre t d)->∀ j d,qf2.probe.go t g h n p=some (.empty j d)->Fre t j/\∀ k,d=some k->Fre t k
 | 0,p,hp,j,d,e=>by cases e
 | n+1,p,hp,j,d,e=>by
  rw [qf2.probe.go] at e;split at e
  . rename_i hs;cases e;exact ⟨mq fun i z=>(by rw [hs] at z;cases z),hp⟩
  . rename_i hs;refine gW n _ (fun k hk=>?_) j d e;rw [j3] at hk;cases hk;exact mq fun i z=>by rw [hs] at z;cases z
  . split at e
    . cases e
    . exact gW n _ (fun k hk=>hp k (by rw [j3] at hk;exact hk)) j d e
theorem su {t:qf2} {h:Int} {j:Nat} {b:Bool} (e:t.freeSlot h=some (j,b)):Fre t j:=by
 unfold qf2.freeSlot at e;split at e
 . rename_i k d hk;obtain ⟨h1,h2⟩:=gW _ _ (fun d z=>by cases z) k d hk;cases e;cases d with
   | none=>exact h1
   | some x=>exact h2 x rfl
 . cases e
theorem gk (n:Nat):Rs (Array.range n):=by unfold Rs;rw [Array.toList_range];exact zb0
theorem nP {t:qf2} (n:Nat) (h:Rs t.place):Rs (t.orStandIn n).place:=by
 unfold qf2.orStandIn;split
 . exact h
 . exact gk n
theorem qy {t:qf2} (h:Rs t.place) (es:Array (Int×Value)) (k:Int) (x:Value):Rs (layNew t es k x).2.1.place:=by
 unfold layNew;split
 . rename_i j b e;exact nP _ (ym h (su e))
 . exact gk _
theorem sv (t:qf2) (es:Array (Int×Value)) (n:Nat):Rs (qz9 t es n).2.1.place:=by
 unfold qz9;split
 . rename_i t' order e;dsimp only;split
   . unfold qf2.relaid qf2.laid at e;simp only [Option.bind_eq_bind,qp9,qq9] at e;obtain ⟨_,_,e⟩:=e;cases e;unfold Rs;dsimp only;rw [List.pairwise_map,List.pairwise_filterMap];refine qy3 (fun {a b} hab x hx y hy=>?_) zb0;obtain ⟨_,_,rfl⟩:=mS hx;obtain ⟨_,_,rfl⟩:=mS hy;exact hab
   . exact gk _
 . exact gk _
theorem nQ (t:qf2) (es:Array (Int×Value)) (h:Int) (x:Value):(layNew t es h x).2.1.led=t.led:=by
 unfold layNew;split
 . dsimp only;unfold qf2.orStandIn;split<;>rfl
 . rfl
theorem qz (t:qf2) (es:Array (Int×Value)) (n:Nat):(qz9 t es n).2.1.led=t.led:=by
 unfold qz9;split
 . rename_i t' order e;dsimp only;split
   . unfold qf2.relaid qf2.laid at e;simp only [Option.bind_eq_bind,qp9,qq9] at e;obtain ⟨_,_,e⟩:=e;cases e;rfl
   . rfl
 . rfl
structure SK (P:qb5) (u:World) (K:Type) [DecidableEq K] where
 knd:PySem.KeyKind P u K
 put:K->Tok->Value
 of:Value->K
 is:∀ k t,knd.is k (put k t)=true
 ofmk:∀ k t,of (put k t)=k
 shape:∀ {k v},knd.is k v=true->∃ t,v=put k t
 scan:∀ k t,(put k t).scannable=true
noncomputable def qA (P:qb5) (u:World):SK P u Str where
 knd:=PySem.strKind P u
 put:=.str
 of v:=match v with | .str k _=>k | _=>""
 is:=strKind_is P u
 ofmk _ _:=rfl
 shape {k v} h:=by
  cases v<;>simp [PySem.strKind,ze9] at h
  subst h;exact ⟨_,rfl⟩
 scan _ _:=rfl
noncomputable def qB (P:qb5) (u:World):SK P u Int where
 knd:=PySem.intKind P u
 put:=.int
 of v:=match v with | .int k _=>k | _=>0
 is k t:=by simp [PySem.intKind,Value.isInt]
 ofmk _ _:=rfl
 shape {k v} h:=Value.isInt_shape h
 scan _ _:=rfl
section
variable {P:qb5} {u:World} {K:Type} [DecidableEq K] {κ:SK P u K}
structure Tx (κ:SK P u K) (l:List (Int×Value)) (ss:List K):Prop where
 all:∀ e∈l,∃ k t,e.2=κ.put k t/\e.1=κ.knd.hash k
 per:(l.map fun e=>κ.of e.2).Perm ss
 nd:ss.Nodup
theorem Tx.elems {l:List (Int×Value)} {ss:List K} (x:Tx κ l ss):ElemsOf κ.knd l:=fun e he=>by obtain ⟨k,t,h1,h2⟩:=x.all e he;rw [h1];exact ⟨⟨k,κ.is k t,h2⟩,κ.scan k t⟩
theorem Tx.perm {l m:List (Int×Value)} {ss:List K} (x:Tx κ l ss) (p:m.Perm l):Tx κ m ss:=⟨fun e he=>x.all e (p.mem_iff.mp he),(p.map _).trans x.per,x.nd⟩
theorem Tx.mem {l:List (Int×Value)} {ss:List K} (x:Tx κ l ss) (k:K):k∈ss↔∃ e∈l,κ.knd.is k e.2=true:=by
 rw [<- x.per.mem_iff];constructor
 . intro h;obtain ⟨e,he,e1⟩:=qc1.mp h;obtain ⟨k',t,h1,_⟩:=x.all e he;rw [h1,κ.ofmk] at e1;refine ⟨e,he,?_⟩;rw [h1,<- e1];exact κ.is k' t
 . rintro ⟨e,he,h⟩;obtain ⟨t,h1⟩:=κ.shape h;exact qc1.mpr ⟨e,he,by rw [h1,κ.ofmk]⟩
theorem Tx.push {l:List (Int×Value)} {ss:List K} (x:Tx κ l ss) {k:K} {t:Tok} (hk:k∉ss):Tx κ (l++[(κ.knd.hash k,κ.put k t)]) (ss++[k]):=⟨fun e he=>by
 rcases qj4.mp he with he | he
 . exact x.all e he
 . rw [qb7.mp he];exact ⟨k,t,rfl,rfl⟩,by
 rw [qk0];have:List.map (fun e=>κ.of e.2) [(κ.knd.hash k,κ.put k t)]=[k]:=by simp [κ.ofmk]
 rw [this];exact x.per.append_right _,by
 refine qy4.mpr ⟨x.nd,by simp,fun a ha b hb e=>?_⟩;rw [qb7.mp hb] at e;exact hk (e▸ha)⟩
structure TxS (κ:SK P u K) (h:Heap) (a:Addr) (ss:List K) (led:Bool):Prop where
 ex:∃ o es ep t,h.get? a=some o/\o.ExactSet/\o.data=.set es ep t/\Tx κ es.toList ss/\es.size<qm1/\t.fits es.size=true/\t.led=led/\Rs t.place
end
section
variable {P:qb5} {u:World} {K:Type} [DecidableEq K] {κ:SK P u K} {A:qd2} {E:Value->qa4->Prop} {s:qa4} {a:Addr} {ss:List K} {led:Bool}
theorem j4 {hp:Heap} {o:Obj} {es fs:Array (Int×Value)} {ep:Nat} {tb tc:qf2} (g1:hp.get? a=some o) (g2:o.ExactSet) (g3:o.data=.set es ep tb) (x:Tx κ fs.toList ss) (hb:fs.size<qm1) (hf:tc.fits fs.size=true) (hl:tc.led=led) (hq:Rs tc.place) :
  (hp.update a (Obj.putSet fs tc)).get? a=some {o with data:=.set fs (ep+1) tc}/\TxS κ (hp.update a (Obj.putSet fs tc)) a ss led:=by
 have e:=(SetOf_store (knd:=κ.knd) (S':=fun k=>decide (k∈ss)) g1 g2 g3 x.elems (fun k=>by rw [decide_eq_true_eq];exact x.mem k) hb hf).1;exact ⟨e,⟨_,fs,ep+1,tc,e,g2,rfl,x,hb,hf,hl,hq⟩⟩
theorem vj {k:K} {t:Tok} {Q:Bool->qa4->Prop} (hS:TxS κ s.heap a ss led) (room:ss.length+1<qm1)
  (q:∀ hp,qm2 a s.heap hp->TxS κ hp a (if k∈ss then ss else ss++[k]) led->∀ b,Q b {s with heap:=hp}):wpAny (model P u) A (setAddHashed a (κ.put k t) (κ.knd.hash k)) Q E s:=by
 obtain ⟨o,es,ep,tb,g1,g2,g3,x,hb,hf,hl,hpl⟩:=hS.ex;have hn:es.size=ss.length:=by rw [<- x.per.length_eq,qa3,qe2]
 have big:es.size+1<qm1:=by rw [hn];exact room
 unfold setAddHashed setAddHashedIn;refine qg9 (wB (qe6 g1 g3 hf ?_));dsimp only;rw [byScan_of (knd:=κ.knd) (κ.scan k t) hb x.elems];simp only [↓reduceIte];unfold setAddByScan;refine wB (wB (qr6 (wB (wpAny_setScan_of (κ.is k t) g1 g3 hf x.elems ?_))));cases hr:List.findIdx? (fun e=>κ.knd.is k e.2) es.toList with
 | some j =>dsimp only;obtain ⟨hj,hpj,_⟩:=List.findIdx?_eq_some_iff_getElem.mp hr;have hm:k∈ss:=(x.mem k).mpr ⟨es.toList[j],qt3 hj,hpj⟩;refine qa2 (qa2 ?_);have:=q s.heap (qm2.refl a s.heap) (by rw [if_pos hm];exact hS) false;rw [show s={s with heap:=s.heap} by cases s;rfl];exact this
 | none =>
  dsimp only
  have hm:k∉ss:=fun z=>by obtain ⟨e,he,hp⟩:=(x.mem k).mp z;have:=List.findIdx?_eq_none_iff.mp hr e he;rw [hp] at this;exact Bool.noConfusion this
  rw [if_neg hm] at q;have perm:=layNew_perm tb es (κ.knd.hash k) (κ.put k t);have fits:=layNew_fits tb es (κ.knd.hash k) (κ.put k t);have ledd:=And.intro (nQ tb es (κ.knd.hash k) (κ.put k t)) (qy hpl es (κ.knd.hash k) (κ.put k t));generalize layNew tb es (κ.knd.hash k) (κ.put k t)=L at perm fits ledd ⊢;obtain ⟨fs,tc,wasD,gave⟩:=L;dsimp only at perm fits ledd ⊢;rw [qy2] at perm;have y:Tx κ fs.toList (ss++[k]):=(x.push hm).perm perm;have hb2:fs.size<qm1:=by rw [<- qe2,perm.length_eq,qb2,qe2];simpa using big
  have gw:∀ (b:Bool) {s1:qa4} {Q1:Unit->qa4->Prop},Q1 () s1->wpAny (model P u) A (match b with | true=>rule "set.scan.the-table-gave-way" | false=>pure ()) Q1 E s1:=fun b s1 Q1 z=>by
   cases b
   . exact qa2 z
   . exact qr6 z
  refine wB (gw _ ?_)
  have tail:∀ tc2:qf2,tc2.fits fs.size=true->tc2.led=led->Rs tc2.place->wpAny (model P u) A (do
      storeSet a fs tc2
      if (!wasD&&tc2.tooFull)=true then do
          (match (qz9 tc2 fs (ql0 fs.size)).2.2 with | true=>rule "set.scan.the-table-gave-way" | false=>pure ())
          storeSet a (qz9 tc2 fs (ql0 fs.size)).1 (qz9 tc2 fs (ql0 fs.size)).2.1
          pure (some true)
       else pure (some true)) (fun r s1=>wpAny (model P u) A (match r with | some added=>pure added | none=>setAddHashedIn a (κ.put k t) (κ.knd.hash k) 99999) Q E s1) E s:=fun tc2 h1 h2 h3=>by
   refine wB (wpAny_storeSet_of g1 g3 ?_ (qr7 hb2));obtain ⟨e1,T1⟩:=j4 g1 g2 g3 y hb2 h1 h2 h3;have sb:=qe3 s.heap a (Obj.putSet fs tc2);split
   . have p2:=relayAll_perm tc2 fs (ql0 fs.size);have f2:=relayAll_fits tc2 fs (ql0 fs.size);have l2:=And.intro (qz tc2 fs (ql0 fs.size)) (sv tc2 fs (ql0 fs.size));generalize qz9 tc2 fs (ql0 fs.size)=M at p2 f2 l2 ⊢;obtain ⟨gs,td,gave2⟩:=M;dsimp only at p2 f2 l2 ⊢;have sz:gs.size=fs.size:=by rw [<- qe2,p2.length_eq,qe2]
     have hb3:gs.size<qm1:=by rw [sz];exact hb2
     refine wB (gw _ (wB (wpAny_storeSet_of e1 rfl ?_ (qr7 hb3))));obtain ⟨_,T2⟩:=j4 e1 g2 rfl (y.perm p2) hb3 f2 (l2.1.trans h2) l2.2;exact qa2 (qa2 (q _ (sb.trans (qe3 _ a _)) T2 true))
   . exact qa2 (qa2 (q _ sb T1 true))
  split
  . refine wB ?_;rw [hashByValue_scannable 8 (κ.scan k t)];refine qa2 ?_;split
    . exact tail tc fits (ledd.1.trans hl) ledd.2
    . exact tail {tc with plain:=false} (qf2.fits_plain_off fits) (ledd.1.trans hl) ledd.2
  . refine wB (qa2 ?_);exact tail tc fits (ledd.1.trans hl) ledd.2
end
noncomputable def once {K:Type} [DecidableEq K] (acc:List K) (k:K):List K:=if k∈acc then acc else acc++[k]
noncomputable def met {K:Type} [DecidableEq K] (val:Nat->K) (i:Nat):List K:=((qb8 i).map val).foldl once []
theorem mr {K:Type} [DecidableEq K] (val:Nat->K) (i:Nat):met val (i+1)=once (met val i) (val i):=by unfold met;rw [List.range_succ,qk0,List.foldl_append];rfl
theorem k4 {K:Type} [DecidableEq K] (val:Nat->K):∀ i,(met val i).length<=i
 | 0=>nL _
 | i+1=>by
  rw [mr];have:=k4 val i;unfold once;split
  . lia
  . rw [qb2,qn5];lia
section
variable {P:qb5} {u:World} {K:Type} [DecidableEq K] {κ:SK P u K} {A:qd2} {R:Result->qa4->Prop} {I:Addr} {fp wr:List Addr} {G:Array GenState->Array GenState->Prop} {n:Nat} {Pv:Nat->Value->Prop} {St:Nat->qa4->Prop} {led:Bool}
theorem TxS.moved {h h':Heap} {a:Addr} {ss:List K} (x:TxS κ h a ss led) (e:∀ o,h.get? a=some o->h'.get? a=some o):TxS κ h' a ss led:=by obtain ⟨o,es,ep,t,g,r⟩:=x.ex;exact ⟨o,es,ep,t,e o g,r⟩
theorem sw (W:WalksS P u A.in1 I fp wr G n Pv St) (S:Addr) (out:S∉fp) (val:Nat->K) (hval:∀ i v,Pv i v->∃ t,v=κ.put (val i) t) (hb:n+1<qm1) :
  ∀ (m i:Nat) (s:qa4),n-i=m->i<=n->St i s->TxS κ s.heap S (met val i) led->(∀ s',Moved (S::wr) G s s'->TxS κ s'.heap S (met val n) led->R (.ok (.ret .none)) s')→
   qs7 (model P u) A (.builtin "set.update.loop" ⟨[.ref S,.ref I],[]⟩) R s:=by
 have nw:S∉wr:=fun h=>out (W.sub _ h)
 have sub:∀ b∈wr,b∈S::wr:=fun b hb=>qe4 _ hb
 intro m;induction m with
 | zero =>
  intro i s hm hi hst hS hR;obtain rfl:i=n:=by lia
  refine qi7 za0 ?_;rw [qg3 qq5 _];refine wB (W.done s _ _ hst fun s1 mv=>?_);exact qa2 (hR s1 (mv.mono sub) (hS.moved fun o e=>mv.heap S _ nw e))
 | succ m ih =>
  intro i s hm hi hst hS hR;have lt:i<n:=by lia
  refine qi7 za0 ?_;rw [qg3 qq5 _];refine wB (W.item i s _ _ lt hst fun v s1 hP hst1 mv=>?_);obtain ⟨t,rfl⟩:=hval i v hP;have hS1:TxS κ s1.heap S (met val i) led:=hS.moved fun o e=>mv.heap S _ nw e
  show wpAny _ A.in1 (qy9 [κ.put (val i) t] (setAdd S (κ.put (val i) t)) >>= _) _ _ s1;refine wB (qg9 ?_);unfold setAdd;refine qg9 (wB (κ.knd.pyHash (k:=val i) (κ.is _ _) ?_));have room:(met val i).length+1<qm1:=by have:=k4 val i;lia
  refine vj (s:={s1 with toks:=s1.toks+1}) hS1 room fun h2 sb hS2 b=>?_
  have hS3:TxS κ h2 S (met val (i+1)) led:=by rw [mr];exact hS2
  refine qa2 ⟨qm5 qq5 _,ih (i+1) _ (by lia) lt (W.frame _ s1 _ _ hst1 (qn8 _) fun b hb o e=>?_) hS3 fun s2 mv2 hS4=>?_⟩
  . rw [sb.2 b (fun h:b=S=>out (by rw [<- h];exact hb))];exact e
  . refine hR s2 (Moved.trans W.gtrans ((mv.mono sub).then_heap (qn8 _) fun b o hb e=>?_) mv2) hS4;rw [sb.2 b (fun h:b=S=>hb (by rw [h];exact qf0))];exact e
end
noncomputable def cC (u:World):Bool:=!(u.params.followText "set-order")
section
variable {P:qb5} {u:World} {K:Type} [DecidableEq K] {κ:SK P u K} {A:qd2} {E:Value->qa4->Prop} {s:qa4}
theorem vk (v:Value) {Q1:Value->qa4->Prop} (q:Q1 (.ref s.heap.objs.size) {s with heap:=s.heap.push {cls:=.type "set",dict:=none,data:=.set #[] 0 (.fresh 0 0 (cC u))}}) :
  qs7 (model P u) A (.call (.builtin "set.__new__") ⟨[.type "set",v],[]⟩) (wants Q1 E) s:=by
 refine codeAny_of_tree ?_;show wpAny _ A.in1 (do checkBuiltinCall "set.__new__" ⟨[.type "set",v],[]⟩;again (.builtin "set.__new__" ⟨[.type "set",v],[]⟩)) _ _ s;refine wB (qu5 (F.newCall_set_1 v) (qa2 ⟨qm5 F.plain_set_new _,qi7 F.entry_set_new ?_⟩));rw [qg3 F.plain_set_new _];unfold qj8.«set.__new__» qj8.Frozenset.newClass;have z:=sub_set_self;obtain ⟨hp,g,d,tk,os⟩:=s;dsimp only;wp_walk;refine qn0 (qa2 ?_);dsimp only;simp only [newObj];refine wB (wpAny_alloc (qa2 ?_));exact qa2 q
end
section
variable {P:qb5} {u:World} {K:Type} [DecidableEq K] {κ:SK P u K} {A:qd2} {E:Value->qa4->Prop} {s:qa4}
theorem qC {hp:Heap} {a:Addr} {led:Bool} (e:hp.get? a=some {cls:=.type "set",dict:=none,data:=.set #[] 0 (.fresh 0 0 led)}):TxS κ hp a [] led:=⟨_,#[],0,.fresh 0 0 led,e,⟨rfl,rfl,rfl⟩,rfl,⟨(fun e he=>by cases he),qw8 _,qw9⟩,(by unfold qm1;decide),(by cases led<;>rfl),rfl,.nil⟩
theorem sx {l:Addr} {vs:Array Value} {val:Nat->K} {Q:Value->qa4->Prop} (calm:A.handled=none) (hl:s.heap.IsList l vs) (hi:∀ (i:Nat) (v:Value),vs[i]?=some v->∃ t,v=κ.put (val i) t) (hb:vs.size+1<qm1)
  (q:∀ (hp:Heap) (tk:Nat),TxS κ hp s.heap.objs.size (met val vs.size) (cC u)->(∀ b o,b<s.heap.objs.size->s.heap.get? b=some o->hp.get? b=some o)->Q (.ref s.heap.objs.size) {s with heap:=hp,toks:=tk}) :
  wpAny (model P u) A (call (.type "set") [.ref l]) Q E s:=by
 obtain ⟨c0,tl0,m0⟩:=qo0.mro;have m1:=qo0.made;have m2:=qo0.sub;refine wpAny_call (codeAny_of_tree ?_);show wpAny _ _ (callAny (.type "set") _) _ _ _;refine qa2 ⟨Code.quiet_builtin _ (by decide +kernel),qi7 F.entry_type_call ?_⟩;rw [qd2.under_plain (weight_type_call_type "set" [.ref l] []) rfl];have m3:=qo0.notType;have m4:=qo0.canCreate;have m5:=F.typeCall_set_1 (.ref l)
 repeat (any_goals (first | assumption | wp_step))
 refine qv7 (vk (.ref l) (E:=E) (Q1:=fun x s1=>x=.ref s.heap.objs.size/\s1={s with heap:=s.heap.push {cls:=.type "set",dict:=none,data:=.set #[] 0 (.fresh 0 0 (cC u))}}) ⟨rfl,rfl⟩) fun r s1 hr=>?_
 cases r with
 | error e=>exact hr
 | ok fl =>
  cases fl with
  | ret x =>
   obtain ⟨rfl,rfl⟩:=hr;have gS:(s.heap.push {cls:=.type "set",dict:=none,data:=.set #[] 0 (.fresh 0 0 (cC u))}).get? s.heap.objs.size=some {cls:=.type "set",dict:=none,data:=.set #[] 0 (.fresh 0 0 (cC u))}:=qb0 _ rfl;have tS:zf9 {s with heap:=s.heap.push {cls:=.type "set",dict:=none,data:=.set #[] 0 (.fresh 0 0 (cC u))}} (.ref s.heap.objs.size) "set":=⟨_,gS,rfl⟩;have n1:=qo0.init.lookup;have n2:=qo0.init.bind (.ref s.heap.objs.size)
   repeat (any_goals (first | assumption | wp_step))
   refine qv7 (codeAny_call_builtin (R:=wants (fun r s2=>r=.none/\∃ hp tk,s2={s with heap:=hp,toks:=tk}/\TxS κ hp s.heap.objs.size (met val vs.size) (cC u)/\(∀ b o,b<s.heap.objs.size->s.heap.get? b=some o->hp.get? b=some o)) E) qo0.init.plain F.entry_set_init (check_set_init_1 tS ?_)) fun r2 s2 hr2=>?_
   . obtain ⟨ol,hol,hcl,nl,hdl⟩:=hl;obtain ⟨oc,od,oda,osl⟩:=ol;simp only at hcl hdl;subst hcl hdl;have hol2:(s.heap.push {cls:=.type "set",dict:=none,data:=.set #[] 0 (.fresh 0 0 (cC u))}).get? l=some {cls:=.type "list",dict:=od,data:=.seq vs nl,slots:=osl}:=gP _ hol;have k1:=F.sub_list_set;have k2:=F.sub_list_frozenset;have k3:(qo2 "list"==qo2 "dict")=false:=by decide
     have hl1:(s.heap.push {cls:=.type "set",dict:=none,data:=.set #[] 0 (.fresh 0 0 (cC u))}).IsList l vs:=⟨_,hol2,rfl,nl,rfl⟩;unfold qj8.«set.__init__» noKeywords qj8.Frozenset.updateFrom;generalize hPI:zg4=PI;wp_walk;subst hPI;refine wpAny_pyIter_list hl1 (wB (wpAny_runValue ?_));have ls:l<s.heap.objs.size:=qa8 hol;have c3:A.in1.in1.in1.handled=none:=by simp [calm]
     have ne1:l≠(s.heap.push {cls:=.type "set",dict:=none,data:=.set #[] 0 (.fresh 0 0 (cC u))}).objs.size:=by rw [qg8];exact qc4 (qh4 ls)
     have ne2:s.heap.objs.size∉[(s.heap.push {cls:=.type "set",dict:=none,data:=.set #[] 0 (.fresh 0 0 (cC u))}).objs.size,l]:=by rw [qg8];simp only [qa9,qb7,qh8,or_false,not_or];exact ⟨qc4 (qm9 _),qn4 ls⟩
     refine sw ((Walks.list c3 _ l ne1 vs).toS) s.heap.objs.size ne2 val hi hb (vs.size-0) 0 _ (by lia) (qi8 _) ⟨⟨_,qb0 _ rfl,rfl,rfl⟩,(hl1.push _)⟩ (qC (gP _ gS)) fun s3 mv hS3=>?_
     obtain ⟨hp,g3,d3,tk3,o3⟩:=s3;have eg:g3=s.gens:=mv.gens;have ed:d3=s.drawn:=mv.drawn;have eo:o3=s.os:=mv.os;subst eg ed eo;show wpAny _ _ _ _ _ _;refine qa2 ?_;show wpAny _ _ (ret qh1) _ _ _;refine qa2 ⟨rfl,hp,tk3,rfl,hS3,fun b o hb e=>?_⟩;have b1:b≠s.heap.objs.size:=qc4 hb
     have b2:b≠(s.heap.push {cls:=.type "set",dict:=none,data:=.set #[] 0 (.fresh 0 0 (cC u))}).objs.size:=by rw [qg8];exact qc4 (qh4 hb)
     exact mv.heap b o (by simp only [qa9,qb7,qh8,or_false,not_or];exact ⟨b1,b2⟩) (qr0 _ (qr0 _ e))
   . cases r2 with
     | error e=>exact hr2
     | ok f2 =>
      cases f2 with
      | ret r =>
       obtain ⟨rfl,hp,tk,rfl,hS3,kept⟩:=hr2
       repeat (any_goals (first | assumption | wp_step))
       exact q _ _ hS3 kept
      | _=>exact hr2.elim
  | _=>exact hr.elim
end
theorem gY {α:Type}:∀ {l:List α} {i:Nat} (h:i<l.length),(l[i]::l.eraseIdx i).Perm l
 | x::l,0,h=>qw8 _
 | x::l,i+1,h=>by have:=gY (l:=l) (i:=i) (by simpa using h);exact (zh6.swap _ _ _).trans (this.cons x)
section
variable {M:Model} {A:qd2} {E:Value->qa4->Prop}
theorem nR {src:Source} {n:Nat} {Q:Nat->qa4->Prop} {s:qa4} (hn:n≠0) (q:∀ i d,i<n->Q i {s with drawn:=d}):wpAny M A (choose src n) Q E s:=fun G p hG=>by show Sem.wp M G (.choose src n .pure) _ _ p s;rw [Sem.wp_choose];refine ⟨hn,?_⟩;rw [Sem.wp_pure];exact q _ _ (qy5 _ (Nat.pos_of_ne_zero hn))
theorem fG {α:Type}:∀ (n:Nat) (xs:List α) {Q:List α->qa4->Prop} {s:qa4},xs.length=n->(∀ ys d,ys.Perm xs->Q ys {s with drawn:=d})->wpAny M A (drawOrder n xs) Q E s
 | 0,xs,Q,s,hl,q=>by have e:xs=[]:=qq6.mp hl;subst e;show wpAny M A (pure []) Q E s;refine qa2 ?_;have:=q [] s.drawn (qw8 _);cases s;exact this
 | n+1,[],Q,s,hl,q=>by cases hl
 | n+1,x::xs,Q,s,hl,q=>by show wpAny M A (choose .order (x::xs).length >>= fun i=>match (x::xs)[i]? with | some y=>(drawOrder n ((x::xs).eraseIdx i)) >>= fun ys=>pure (y::ys) | none=>unsupported "internal:drawOrder") Q E s;refine qg5 (nR (by simp) fun i d hi=>?_);rw [gQ hi];dsimp only;refine wB (fG n ((x::xs).eraseIdx i) (by rw [qv5 hi];lia) fun ys d2 p=>qa2 (q _ d2 ?_));exact (p.cons _).trans (gY hi)
end
theorem k5:entryFor table "set.__iter__"=some qj8.«frozenset.__iter__»:=entryFor_alias (id':="frozenset.__iter__") (by kernel_rfl) rfl (by decide +kernel) (by kernel_rfl)
theorem hZ:typeLookup (.type "set_iterator") "__next__"=pure (some (.builtin "set_iterator.__next__")):=by rw [zc9,qs5];kernel_rfl
section
variable {P:qb5} {u:World} {A:qd2} {E:Value->qa4->Prop} {s:qa4} {a:Addr} {o:Obj} {es:Array (Int×Value)} {ep:Nat} {t:qf2}
noncomputable def iW (first:Value) (i:Int) (a:Addr) (n ep:Nat):Obj:={cls:=.type "set_iterator",data:=.fields #[first,qf4 i,.ref a,qf4 n,qf4 ep]}
theorem ms {Q:Value->qa4->Prop} (g1:s.heap.get? a=some o) (g2:o.ExactSet) (g3:o.data=.set es ep t) (hf:t.fits es.size=true) (hb:es.size<qm1)
  (q1:∀ (ys:List Nat) d,cC u=true->(t.plain=false/\1<es.size)->ys.Perm (qb8 es.size)->Q (.ref (s.heap.objs.size+1)) {s with drawn:=d,heap:=(s.heap.push {cls:=.type "tuple",data:=.seq (ys.map fun (i:Nat)=>qf4 i).toArray}).push (iW (.ref s.heap.objs.size) 0 a es.size ep)})
  (q2:(cC u=false∨¬ (t.plain=false/\1<es.size))->Q (.ref s.heap.objs.size) {s with heap:=s.heap.push (iW (qf4 0) 0 a es.size ep)}):wpAny (model P u) A (zg4 (.ref a)) Q E s:=by
 have hT:s.TypeIs (.ref a) "set":=⟨o,g1,g2.1⟩;refine qx9 hT F.slot_set_iter (qe5 F.slot_set_iter hT k5 ?_ (F.args_set_iter_1 _));unfold qj8.«frozenset.__iter__»;refine wB (wB (qa2 (qa2 ?_)));unfold qj8.Frozenset.sizeOf zd7;refine wB (wB (wB (qe6 g1 g3 hf (qa2 (qa2 ?_)))));unfold setDrawn zg1;refine wB (wB (qe6 g1 g3 hf (wB (wB (qn0 (qa2 (qa2 ?_)))))));have hl:(!(u.params.followText "set-order"))=cC u:=rfl;show wpAny (model P u) A.in1 (if (!(u.params.followText "set-order")&&(!t.plain&&decide (es.size > 1)))=true then (drawOrder es.size (qb8 es.size) >>= fun ys=>zh0 (ys.map fun (i:Nat)=>qf4 i) >>= fun first=>setEpoch a >>= fun e=>newFields "set_iterator" [first,qf4 0,.ref a,qf4 es.size,qf4 e] >>= fun v=>ret v) else (pure (qf4 0) >>= fun first=>setEpoch a >>= fun e=>newFields "set_iterator" [first,qf4 0,.ref a,qf4 es.size,qf4 e] >>= fun v=>ret v)) _ _ s;rw [hl];by_cases hd:(cC u&&(!t.plain&&decide (es.size > 1)))=true
 . rw [if_pos hd];simp only [qb1,ql8,decide_eq_true_eq] at hd;refine qg5 (fG _ _ (by simp) fun ys d p=>?_);have hlen:ys.length=es.size:=by rw [p.length_eq,qi2]
   refine wB ?_;refine wpAny_newTuple ?_ (by rw [qa3,hlen];exact qr7 hb);unfold setEpoch;refine wB (wB (qe6 (s:={s with drawn:=d,heap:=s.heap.push {cls:=.type "tuple",data:=.seq (ys.map fun (i:Nat)=>qf4 i).toArray}}) (gP _ g1) g3 hf (qa2 ?_)));refine wB (qc8 (qa2 ⟨_,rfl,"set_iterator",_,⟨_,qb0 _ rfl,rfl⟩,hZ,?_⟩));have:=q1 ys d hd.1 hd.2 p;rw [qg8];exact this
 . rw [if_neg hd];refine wB (qa2 ?_);unfold setEpoch;refine wB (wB (qe6 g1 g3 hf (qa2 ?_)));refine wB (qc8 (qa2 ⟨_,rfl,"set_iterator",_,⟨_,qb0 _ rfl,rfl⟩,hZ,?_⟩));refine q2 ?_;by_cases h1:cC u=true
   . right;intro z;exact hd (by rw [h1,z.1];simp;exact z.2)
   . left;simpa using h1
end
theorem j5:Manifest.owners.lookup (String.ofList ['r','o','t','a','r','e','t','i','_','t','e','s'].reverse)=some Manifest.sig_set_iterator:=by kernel_rfl
theorem slot_setit:Slot "set_iterator" "__next__" "set_iterator.__next__":=.of (owner:="set_iterator") (n:="__next__") (by rw [zc9,qs5];kernel_rfl) (by decide +kernel) (by decide +kernel) (by decide +kernel) (by first | exact .inl (by decide +kernel) | exact .inr (by decide +kernel)) (by rw [isSubtype_type];kernel_rfl)
theorem fu:entryFor table "set_iterator.__next__"=some qj8.«set_iterator.__next__»:=entryFor_of_tree (by kernel_rfl)
theorem d8 (v:Value):argsOk "set_iterator.__next__" ⟨[v],[]⟩:=by unfold argsOk;rw [signature?_of (id:="set_iterator.__next__") (n:=['_','_','t','x','e','n','_','_']) (o:=['r','o','t','a','r','e','t','i','_','t','e','s']) (by kernel_rfl) j5];kernel_rfl
section
variable {P:qb5} {u:World} {A:qd2} {E:Value->qa4->Prop} {s:qa4} {a I:Addr} {o:Obj} {es:Array (Int×Value)} {ep n:Nat} {t:qf2}
noncomputable def ItAt (h:Heap) (I:Addr) (first:Value) (i:Nat) (a:Addr) (n ep:Nat):Prop:=∃ q,h.get? I=some q/\q.cls=.type "set_iterator"/\q.data=.fields #[first,qf4 i,.ref a,qf4 n,qf4 ep]
theorem ItAt.ty {first:Value} {i:Nat} (x:ItAt s.heap I first i a n ep):s.TypeIs (.ref I) "set_iterator":=let ⟨q,h,c,_⟩:=x;⟨q,h,c⟩
theorem iX {T:Addr} {ot:Obj} {ps:Array Value} {m i p:Nat} {hx:Int} {x:Value} {Q:Option Value->qa4->Prop} (hit:ItAt s.heap I (.ref T) i a es.size ep) (g1:s.heap.get? a=some o) (g3:o.data=.set es ep t) (hf:t.fits es.size=true) (k1:s.heap.get? T=some ot) (k2:ot.data=.seq ps m) (hp:ps[i]?=some (qf4 p)) (hx:es[p]?=some (hx,x))
  (q:∀ h',ItAt h' I (.ref T) (i+1) a es.size ep->qm2 I s.heap h'->Q (some x) {s with heap:=h'}):wpAny (model P u) A (qs1 (.ref I)) Q E s:=by
 obtain ⟨oi,hi,hc,hd⟩:=id hit;unfold qs1;refine wB (qq4 (qd9 (name:=qa0 "__next__") hit.ty slot_setit (qe5 slot_setit hit.ty fu ?_ (d8 _))));unfold qj8.«set_iterator.__next__»;refine wB (qa2 (wB (qp0 hi hd ?_)));unfold zd7;refine wB (wB (qe6 g1 g3 hf (qa2 ?_)));rw [if_neg (by simp)];refine wB (qn1 k1 k2 ?_);dsimp only;rw [qd5,hp];show wpAny _ _ (setNextDrawn a ((p:Int)).toNat ((ep:Int)).toNat >>= fun x=>qz8 (.ref I) 1 (qf4 ((i:Int)+1)) >>= fun _=>ret x) _ _ s;rw [qd5,qd5];unfold setNextDrawn;refine wB (wB (qe6 g1 g3 hf ?_));dsimp only;rw [if_neg (by simp),hx];refine qa2 ?_;refine qg5 (qi5 hi hd (by simp) ?_)
 have hit2:ItAt (s.heap.update I (qo5 (·.setIfInBounds 1 (qf4 ((i:Int)+1))))) I (.ref T) (i+1) a es.size ep:=⟨_,qd4 _ hi (qh3 (qd6 hd _)),(qo4 ..).trans hc,by rw [qd6 hd];simp [qf4]⟩
 exact qa2 ⟨_,rfl,qa2 (q _ hit2 (qe3 ..))⟩
end
set_option maxHeartbeats 400000
section
variable {P:qb5} {u:World} {A:qd2} {E:Value->qa4->Prop} {s:qa4} {a I:Addr} {o:Obj} {es:Array (Int×Value)} {ep n:Nat} {t:qf2}
theorem ju {T:Addr} {ot:Obj} {ps:Array Value} {m:Nat} {Q:Option Value->qa4->Prop} (calm:A.handled=none) (hit:ItAt s.heap I (.ref T) es.size a es.size ep) (g1:s.heap.get? a=some o) (g3:o.data=.set es ep t) (hf:t.fits es.size=true) (k1:s.heap.get? T=some ot) (k2:ot.data=.seq ps m) (hp:ps.size=es.size)
  (q:∀ h',ze6 I s.heap h'->Q none {s with heap:=h'}):wpAny (model P u) A (qs1 (.ref I)) Q E s:=by
 obtain ⟨oi,hi,hc,hd⟩:=id hit;unfold qs1;refine wB (qq4 (qd9 (name:=qa0 "__next__") hit.ty slot_setit (qe5 slot_setit hit.ty fu ?_ (d8 _))));unfold qj8.«set_iterator.__next__»;refine wB (qa2 (wB (qp0 hi hd ?_)));unfold zd7;refine wB (wB (qe6 g1 g3 hf (qa2 ?_)));rw [if_neg (by simp)];refine wB (qn1 k1 k2 ?_);dsimp only;rw [qd5,qn2 (by lia)];show wpAny _ _ (qz8 (.ref I) 0 (qf4 0) >>= fun _=>qz8 (.ref I) 2 .none >>= fun _=>zf7 (.type "StopIteration") [] >>= fun e=>zf8 e) _ _ s;refine qg5 (qi5 hi hd (by simp) ?_);refine qg5 (qi5 (qd4 _ hi (qh3 (qd6 hd _))) (qd6 hd _) (by simp) ?_);show wpAny _ _ (zf7 (.type "StopIteration") [] >>= _) _ _ _;refine wB ?_;simp only [zf7,zh0];refine wB (qc8 ?_ (by size_fits));refine qg5 (m:=qk9 _ _) (qu5 (a:=qh1) (by first | rfl | (simp only [qk9];rfl)) ?_);refine qc8 ?_ (by size_fits);simp only [zf8];refine wB (qz6 ?_);rw [show A.in1.handled=none from calm];refine wB (qa2 (ze7 ?_));refine wB (qt2 (T:="StopIteration") (b:=true) ⟨_,qb0 _ rfl,rfl⟩ ze1 ?_);exact qa2 (q _ (((qe3 ..).trans (qe3 ..)).extBut.push _ |>.push _))
end
theorem pd {α:Type} (f:Nat->Nat):∀ (n k:Nat) (l:List α) (out:Array α),l.length=n->(zg7 f n k l out).toList.Perm (out.toList++l)
 | 0,k,l,out,hl=>by have e:l=[]:=qq6.mp hl;subst e;rw [zg7,qg0]
 | n+1,k,l,out,hl=>by have hlt:f k%l.length<l.length:=qy5 _ (by lia);rw [zg7,gQ hlt];dsimp only;refine (pd f n (k+1) (l.eraseIdx (f k%l.length)) (out.push l[f k%l.length]) (by rw [qv5 hlt];lia)).trans ?_;rw [qy2,qi4];exact zh6.append_left _ (gY hlt)
theorem pe {α:Type} (f:Nat->Nat) (xs:Array α):(zd0 f xs).toList.Perm xs.toList:=by have:=pd f xs.size 0 xs.toList #[] (by simp);simpa [zd0] using this
section
variable {P:qb5} {u:World} {A:qd2} {E:Value->qa4->Prop} {s:qa4} {a I:Addr} {o:Obj} {es:Array (Int×Value)} {ep n:Nat} {t:qf2}
theorem dQ {j i:Nat} {Q:Option (Value×Nat)->qa4->Prop} (byT:cC u=false) (g1:s.heap.get? a=some o) (g3:o.data=.set es ep t) (hf:t.fits es.size=true)
  (q:Q (((zd0 (u.params.setOrder a ep) es)[i]?).map fun e=>(e.2,j)) s):wpAny (model P u) A (za1 a j i ep) Q E s:=by
 have hb:u.params.followText "set-order"=true:=by unfold cC at byT;simpa using byT
 unfold za1 zg1;refine wB (qe6 g1 g3 hf (wB (wB (qn0 (qa2 ?_)))));show wpAny (model P u) A (if u.params.followText "set-order"=true then _ else _) Q E s;rw [if_pos hb,if_neg (by simp)];unfold setWalk zg1;refine wB (wB (qe6 g1 g3 hf (wB (wB (qn0 (qa2 ?_))))));show wpAny (model P u) A (if u.params.followText "set-order"=true then _ else _) _ E s;rw [if_pos hb];refine wB (qn0 (qa2 ?_));exact qa2 q
end
section
variable {P:qb5} {u:World} {A:qd2} {E:Value->qa4->Prop} {s:qa4} {a I:Addr} {o:Obj} {es:Array (Int×Value)} {ep n:Nat} {t:qf2}
theorem ej {j i:Nat} {Q:Option (Value×Nat)->qa4->Prop} (byP:cC u=true) (hld:t.led=true) (one:¬ (t.plain=false/\1<es.size)) (g1:s.heap.get? a=some o) (g3:o.data=.set es ep t) (hf:t.fits es.size=true)
  (q:Q (match es[qf1 t.place j]?,t.place[qf1 t.place j]? with | some (_,x),some k=>some (x,k+1) | _,_=>none) s):wpAny (model P u) A (za1 a j i ep) Q E s:=by
 have hb:u.params.followText "set-order"=false:=by unfold cC at byP;simpa using byP
 unfold za1 zg1;refine wB (qe6 g1 g3 hf (wB (wB (qn0 (qa2 ?_)))));show wpAny (model P u) A (if u.params.followText "set-order"=true then _ else if (!t.plain&&decide (es.size > 1))=true then _ else (if (!t.led&&!es.isEmpty)=true then unsupported "set:maker-not-led" else pure ()) >>= fun _=>pure (match es[qf1 t.place j]?,t.place[qf1 t.place j]? with | some (_,x),some k=>some (x,k+1) | _,_=>none)) Q E s;rw [hb,if_neg (by decide),if_neg (by simpa using one),if_neg (by simp [hld])];exact wB (qa2 (qa2 q))
theorem iY {j i next:Nat} {x:Value} {Q:Option Value->qa4->Prop} (hit:ItAt s.heap I (qf4 j) i a es.size ep) (g1:s.heap.get? a=some o) (g3:o.data=.set es ep t) (hf:t.fits es.size=true) (hn:∀ {A':qd2} {Q':Option (Value×Nat)->qa4->Prop} {E':Value->qa4->Prop},Q' (some (x,next)) s->wpAny (model P u) A' (za1 a j i ep) Q' E' s)
  (q:∀ h',ItAt h' I (qf4 next) (i+1) a es.size ep->qm2 I s.heap h'->Q (some x) {s with heap:=h'}):wpAny (model P u) A (qs1 (.ref I)) Q E s:=by
 obtain ⟨oi,hi,hc,hd⟩:=id hit;unfold qs1;refine wB (qq4 (qd9 (name:=qa0 "__next__") hit.ty slot_setit (qe5 slot_setit hit.ty fu ?_ (d8 _))));unfold qj8.«set_iterator.__next__»;refine wB (qa2 (wB (qp0 hi hd ?_)));unfold zd7;refine wB (wB (qe6 g1 g3 hf (qa2 ?_)));rw [if_neg (by simp)];show wpAny _ _ (za1 a ((j:Int)).toNat ((i:Int)).toNat ((ep:Int)).toNat >>= _) _ _ s;rw [qd5,qd5,qd5];refine wB (hn ?_);show wpAny _ _ (qz8 (.ref I) 0 (qf4 next) >>= fun _=>qz8 (.ref I) 1 (qf4 ((i:Int)+1)) >>= fun _=>ret x) _ _ s;refine qg5 (qi5 hi hd (by simp) ?_);refine qg5 (qi5 (qd4 _ hi (qh3 (qd6 hd _))) (qd6 hd _) (by simp) ?_);have e1:(s.heap.update I (qo5 (·.setIfInBounds 0 (qf4 next)))).get? I=some (qo5 (·.setIfInBounds 0 (qf4 next)) oi):=qd4 _ hi (qh3 (qd6 hd _));have d1:=qd6 hd (·.setIfInBounds 0 (qf4 next))
 have hit2:ItAt ((s.heap.update I (qo5 (·.setIfInBounds 0 (qf4 next)))).update I (qo5 (·.setIfInBounds 1 (qf4 ((i:Int)+1))))) I (qf4 next) (i+1) a es.size ep:=⟨_,qd4 _ e1 (qh3 (qd6 d1 _)),(qo4 ..).trans ((qo4 ..).trans hc),by rw [qd6 d1];simp [qf4]⟩
 exact qa2 ⟨_,rfl,qa2 (q _ hit2 ((qe3 ..).trans (qe3 ..)))⟩
theorem jv {j i:Nat} {Q:Option Value->qa4->Prop} (calm:A.handled=none) (hit:ItAt s.heap I (qf4 j) i a es.size ep) (g1:s.heap.get? a=some o) (g3:o.data=.set es ep t) (hf:t.fits es.size=true) (hn:∀ {A':qd2} {Q':Option (Value×Nat)->qa4->Prop} {E':Value->qa4->Prop},Q' none s->wpAny (model P u) A' (za1 a j i ep) Q' E' s)
  (q:∀ h',ze6 I s.heap h'->Q none {s with heap:=h'}):wpAny (model P u) A (qs1 (.ref I)) Q E s:=by
 obtain ⟨oi,hi,hc,hd⟩:=id hit;unfold qs1;refine wB (qq4 (qd9 (name:=qa0 "__next__") hit.ty slot_setit (qe5 slot_setit hit.ty fu ?_ (d8 _))));unfold qj8.«set_iterator.__next__»;refine wB (qa2 (wB (qp0 hi hd ?_)));unfold zd7;refine wB (wB (qe6 g1 g3 hf (qa2 ?_)));rw [if_neg (by simp)];show wpAny _ _ (za1 a ((j:Int)).toNat ((i:Int)).toNat ((ep:Int)).toNat >>= _) _ _ s;rw [qd5,qd5,qd5];refine wB (hn ?_);show wpAny _ _ (qz8 (.ref I) 2 .none >>= fun _=>zf7 (.type "StopIteration") [] >>= fun e=>zf8 e) _ _ s;refine qg5 (qi5 hi hd (by simp) ?_);show wpAny _ _ (zf7 (.type "StopIteration") [] >>= _) _ _ _;refine wB ?_;simp only [zf7,zh0];refine wB (qc8 ?_ (by size_fits));refine qg5 (m:=qk9 _ _) (qu5 (a:=qh1) (by first | rfl | (simp only [qk9];rfl)) ?_);refine qc8 ?_ (by size_fits);simp only [zf8];refine wB (qz6 ?_);rw [show A.in1.handled=none from calm];refine wB (qa2 (ze7 ?_));refine wB (qt2 (T:="StopIteration") (b:=true) ⟨_,qb0 _ rfl,rfl⟩ ze1 ?_);exact qa2 (q _ ((qe3 ..).extBut.push _ |>.push _))
end
theorem em:Slot "set_iterator" "__iter__" "set_iterator.__iter__":=.of (owner:="set_iterator") (n:="__iter__") (by rw [zc9,qs5];kernel_rfl) (by decide +kernel) (by decide +kernel) (by decide +kernel) (by first | exact .inl (by decide +kernel) | exact .inr (by decide +kernel)) (by rw [isSubtype_type];kernel_rfl)
theorem iZ:entryFor table "set_iterator.__iter__"=some qj8.«dict_keyiterator.__iter__»:=entryFor_alias (id':="dict_keyiterator.__iter__") (by kernel_rfl) rfl (by decide +kernel) (by kernel_rfl)
theorem im (v:Value):argsOk "set_iterator.__iter__" ⟨[v],[]⟩:=by unfold argsOk;rw [signature?_of (id:="set_iterator.__iter__") (n:=['_','_','r','e','t','i','_','_']) (o:=['r','o','t','a','r','e','t','i','_','t','e','s']) (by kernel_rfl) j5];kernel_rfl
section
variable {P:qb5} {u:World} {A:qd2} {E:Value->qa4->Prop} {s:qa4} {a I:Addr} {o:Obj} {es:Array (Int×Value)} {ep n:Nat} {t:qf2}
theorem eO {first:Value} {i:Nat} {Q:Value->qa4->Prop} (hit:ItAt s.heap I first i a n ep) (q:Q (.ref I) s):wpAny (model P u) A (zg4 (.ref I)) Q E s:=by refine qx9 hit.ty em (qe5 em hit.ty iZ ?_ (im _));show wpAny _ _ (ret (.ref I)) _ _ s;exact qa2 ⟨_,rfl,"set_iterator",_,hit.ty,slot_setit.lookup,q⟩
theorem k6 {Q:Bool->qa4->Prop} (hT:s.TypeIs (.ref a) "set") (q:Q false s):wpAny (model P u) A (qu8 (.ref a)) Q E s:=by
 unfold qu8;refine wB (wpAny_specialOf hT PySem.F.slot_set_len.lookup ?_);generalize hid:("set.__len__":String)=id0
 wp_delta
 rw [show splitId id0=some ("set","__len__") from by subst hid;decide +kernel];subst hid;refine wB (qt2 (T:="set") (b:=true) hT sub_set_self ?_);refine wpAny_ite_split (fun z=>absurd z (by decide)) (fun _=>?_);refine wpAny_ite_split (fun _=>wB (qv9 hT (qa2 q))) (fun z=>absurd (by decide +kernel) z)
theorem ItAt.keep {h h':Heap} {first:Value} {i:Nat} (x:ItAt h I first i a n ep) (e:∀ q,h.get? I=some q->h'.get? I=some q):ItAt h' I first i a n ep:=let ⟨q,g,r⟩:=x;⟨q,e q g,r⟩
theorem nS {T:Addr} {ot:Obj} {ps:Array Value} {m:Nat} {ord:Nat->Value} (calm:A.handled=none) (g3:o.data=.set es ep t) (hf:t.fits es.size=true) (k2:ot.data=.seq ps m) (hps:ps.size=es.size) (hI:I≠a) (hIT:I≠T) (hord:∀ i,i<es.size->∃ p hx,ps[i]?=some (qf4 (p:Nat))/\es[p]?=some (hx,ord i)) :
  WalksS P u A I [I,a,T] [I] (fun x y=>y=x) es.size (fun i v=>v=ord i) (fun i s=>ItAt s.heap I (.ref T) i a es.size ep/\s.heap.get? a=some o/\s.heap.get? T=some ot) where
 sub:=fun b hb=>by rw [qb7.mp hb];exact .head _
 grefl:=fun _=>rfl
 gtrans:=fun _ _ _ h1 h2=>h2.trans h1
 frame:=fun i s h' tk ⟨x,y,z⟩ _ e=>⟨x.keep fun q g=>e I (.head _) q g,e a (.tail _ (.head _)) _ y,e T (.tail _ (.tail _ (.head _))) _ z⟩
 item:=fun i s Q E hi ⟨x,y,z⟩ q=>by
  obtain ⟨p,hx,h1,h2⟩:=hord i hi;refine iX x y g3 hf z k2 h1 h2 fun h' it sb=>q _ _ rfl ⟨it,(sb.2 a (qk6 hI)).trans y,(sb.2 T (qk6 hIT)).trans z⟩ ⟨fun b ob hb e=>?_,rfl,rfl,rfl,nL _⟩
  exact (sb.2 b (fun w=>hb (by rw [w];exact .head _))).trans e
 done:=fun s Q E ⟨x,y,z⟩ q=>ju calm x y g3 hf z k2 hps fun h' eb=>q _ ⟨fun b ob hb e=>eb b ob (fun w=>hb (by rw [w];exact .head _)) e,rfl,rfl,rfl,nL _⟩
 self:=fun i s Q E ⟨x,_⟩ q=>eO x q
end
section
variable {P:qb5} {u:World} {K:Type} [DecidableEq K] {κ:SK P u K} {A:qd2} {E:Value->qa4->Prop} {s:qa4} {a I:Addr} {o:Obj} {es:Array (Int×Value)} {ep n:Nat} {t:qf2}
theorem i0 {sl:Nat->Nat} {ord:Nat->Value} (calm:A.handled=none) (g3:o.data=.set es ep t) (hf:t.fits es.size=true) (hI:I≠a)
  (hn:∀ i,i<es.size->∀ (s:qa4),s.heap.get? a=some o->∀ {A':qd2} {Q':Option (Value×Nat)->qa4->Prop} {E':Value->qa4->Prop},Q' (some (ord i,sl (i+1))) s->wpAny (model P u) A' (za1 a (sl i) i ep) Q' E' s)
  (he:∀ (s:qa4),s.heap.get? a=some o->∀ {A':qd2} {Q':Option (Value×Nat)->qa4->Prop} {E':Value->qa4->Prop},Q' none s->wpAny (model P u) A' (za1 a (sl es.size) es.size ep) Q' E' s) :
  WalksS P u A I [I,a] [I] (fun x y=>y=x) es.size (fun i v=>v=ord i) (fun i s=>ItAt s.heap I (qf4 (sl i)) i a es.size ep/\s.heap.get? a=some o) where
 sub:=fun b hb=>by rw [qb7.mp hb];exact .head _
 grefl:=fun _=>rfl
 gtrans:=fun _ _ _ h1 h2=>h2.trans h1
 frame:=fun i s h' tk ⟨x,y⟩ _ e=>⟨x.keep fun q g=>e I (.head _) q g,e a (.tail _ (.head _)) _ y⟩
 item:=fun i s Q E hi ⟨x,y⟩ q=>iY x y g3 hf (hn i hi s y) fun h' it sb=>q _ _ rfl ⟨it,(sb.2 a (qk6 hI)).trans y⟩ ⟨fun b ob hb e=>(sb.2 b (fun w=>hb (by rw [w];exact .head _))).trans e,rfl,rfl,rfl,nL _⟩
 done:=fun s Q E ⟨x,y⟩ q=>jv calm x y g3 hf (he s y) fun h' eb=>q _ ⟨fun b ob hb e=>eb b ob (fun w=>hb (by rw [w];exact .head _)) e,rfl,rfl,rfl,nL _⟩
 self:=fun i s Q E ⟨x,_⟩ q=>eO x q
inductive AreK (κ:SK P u K):List Value->List K->Prop
 | nil:AreK κ [] []
 | cons (k:K) (t:Tok) {vs:List Value} {ks:List K}:AreK κ vs ks->AreK κ (κ.put k t::vs) (k::ks)
theorem AreK.len {vs:List Value} {ks:List K} (h:AreK κ vs ks):vs.length=ks.length:=by
 induction h with
 | nil=>rfl
 | cons y tk _ ih=>simp [ih]
theorem mt {ss:List K} {l m:List (Int×Value)} (x:Tx κ l ss) (p:m.Perm l):∃ ks,AreK κ (m.map (·.2)) ks/\ks.Perm ss:=by
 have y:=x.perm p;refine ⟨m.map fun e=>κ.of e.2,?_,y.per⟩
 have key:∀ m:List (Int×Value),(∀ e∈m,∃ k t,e.2=κ.put k t/\e.1=κ.knd.hash k)->AreK κ (m.map (·.2)) (m.map fun e=>κ.of e.2):=fun m=>by
  induction m with
  | nil=>intro _;exact .nil
  | cons e m ih =>intro h;obtain ⟨k,tk,h1,_⟩:=h e (by simp);rw [qa5,qa5,h1,κ.ofmk];exact .cons k tk (ih fun z hz=>h z (by simp [hz]))
 exact key m y.all
theorem k7 {ss:List K} {Q:Value->qa4->Prop} (hS:TxS κ s.heap a ss (cC u))
  (q:∀ (I:Addr) (fp:List Addr) (vs:List Value) (ks:List K) (St:Nat->qa4->Prop) (d:Drawn) (h':Heap),(∀ A':qd2,A'.handled=none->WalksS P u A' I fp [I] (fun x y=>y=x) vs.length (fun i v=>v=vs.getD i .none) St)->St 0 {s with drawn:=d,heap:=h'}->(∀ b∈fp,b<h'.objs.size/\(b=a∨s.heap.objs.size<=b))->(∀ b ob,s.heap.get? b=some ob->h'.get? b=some ob)->s.heap.objs.size<=I->AreK κ vs ks->ks.Perm ss->Q (.ref I) {s with drawn:=d,heap:=h'}) :
  wpAny (model P u) A (zg4 (.ref a)) Q E s:=by
 obtain ⟨o,es,ep,t,g1,g2,g3,x,hb,hf,hl,hp⟩:=hS.ex;have la:a<s.heap.objs.size:=qa8 g1;refine ms g1 g2 g3 hf hb (fun ys d byP hd p=>?_) (fun hm=>?_)
 . -- drawn
   have hyl:ys.length=es.size:=by rw [p.length_eq,qi2]
   have perm:(ys.map fun i=>es.toList.getD i (0,.none)).Perm es.toList:=by
    refine (p.map _).trans ?_
    have e:(qb8 es.size).map (fun i=>es.toList.getD i (0,.none))=es.toList:=by
     apply qp3
     . simp
     . intro i h1 h2;simp at h1 h2;simp [h2]
    rw [e]
   obtain ⟨ks,k1,k2⟩:=mt x perm;have hlen:((ys.map fun i=>es.toList.getD i (0,.none)).map (·.2)).length=es.size:=by rw [qa3,qa3,hyl]
   refine q (s.heap.objs.size+1) [s.heap.objs.size+1,a,s.heap.objs.size] ((ys.map fun i=>es.toList.getD i (0,.none)).map (·.2)) ks (fun i s'=>ItAt s'.heap (s.heap.objs.size+1) (.ref s.heap.objs.size) i a es.size ep/\s'.heap.get? a=some o/\s'.heap.get? s.heap.objs.size=some {cls:=.type "tuple",data:=.seq (ys.map fun (i:Nat)=>qf4 i).toArray}) d _ (fun A' calm=>?_) ⟨⟨iW (.ref s.heap.objs.size) 0 a es.size ep,?_,rfl,rfl⟩,?_,?_⟩ ?_ ?_ (qn8 _) k1 k2
   . rw [hlen];refine nS calm g3 hf rfl (by simp [hyl]) (qn4 (qh4 la)) (Nat.succ_ne_self _) fun i hi=>?_
     have hi2:i<ys.length:=by lia
     have hy:ys[i]<es.size:=qg6.mp (p.mem_iff.mp (qt3 hi2));refine ⟨ys[i],es[ys[i]].1,by simp [hi2],?_⟩;simp [hi2,hy]
   . have:=qb0 (s.heap.push {cls:=.type "tuple",data:=.seq (ys.map fun (i:Nat)=>qf4 i).toArray}) (o:=iW (.ref s.heap.objs.size) 0 a es.size ep) rfl;rw [qg8] at this;exact this
   . exact gP _ (gP _ g1)
   . exact gP _ (qb0 _ rfl)
   . intro b hb;rw [qg8,qg8];rcases qa9.mp hb with rfl | hb
     . exact ⟨qm9 _,.inr (qn8 _)⟩
     . rcases qa9.mp hb with rfl | hb
       . exact ⟨qh4 (qh4 la),.inl rfl⟩
       . rw [qb7.mp hb];exact ⟨qh4 (qm9 _),.inr (nL _)⟩
   . exact fun b ob e=>gP _ (gP _ e)
 . -- by the world's text,or one at most
   have fin:∀ (m:List (Int×Value)) (sl:Nat->Nat),m.Perm es.toList->sl 0=0->(∀ A':qd2,A'.handled=none->WalksS P u A' s.heap.objs.size [s.heap.objs.size,a] [s.heap.objs.size] (fun x y=>y=x) es.size (fun i v=>v=(m.map (·.2)).getD i .none) (fun i s'=>ItAt s'.heap s.heap.objs.size (qf4 (sl i)) i a es.size ep/\s'.heap.get? a=some o))->Q (.ref s.heap.objs.size) {s with heap:=s.heap.push (iW (qf4 0) 0 a es.size ep)}:=fun m sl p h0 W=>by
    obtain ⟨ks,k1,k2⟩:=mt x p;have hlen:(m.map (·.2)).length=es.size:=by rw [qa3,p.length_eq,qe2]
    have:=q s.heap.objs.size [s.heap.objs.size,a] (m.map (·.2)) ks (fun i s'=>ItAt s'.heap s.heap.objs.size (qf4 (sl i)) i a es.size ep/\s'.heap.get? a=some o) s.drawn (s.heap.push (iW (qf4 0) 0 a es.size ep)) (by rw [hlen];exact W) ⟨⟨iW (qf4 0) 0 a es.size ep,qb0 _ rfl,rfl,by rw [h0];rfl⟩,gP _ g1⟩ (fun b hb=>by
     rw [qg8];rcases qa9.mp hb with rfl | hb
     . exact ⟨qm9 _,.inr (nL _)⟩
     . rw [qb7.mp hb];exact ⟨qh4 la,.inl rfl⟩) (fun b ob e=>gP _ e) (nL _) k1 k2
    exact this
   have ne:s.heap.objs.size≠a:=qn4 la;by_cases byT:cC u=false
   . refine fin (zd0 (u.params.setOrder a ep) es).toList (fun _=>0) (pe _ _) rfl fun A' calm=>?_
     have hsz:(zd0 (u.params.setOrder a ep) es).size=es.size:=by have:=(pe (u.params.setOrder a ep) es).length_eq;simpa using this
     refine i0 calm g3 hf ne (fun i hi s' gs A' Q' E' q'=>dQ byT gs g3 hf ?_) (fun s' gs A' Q' E' q'=>dQ byT gs g3 hf ?_)
     . have hi2:i<(zd0 (u.params.setOrder a ep) es).size:=by lia
       rw [qf8 hi2];simpa [hi2] using q'
     . rw [qn2 (by lia)];exact q'
   . have byP:cC u=true:=by simpa using byT
     have one:¬ (t.plain=false/\1<es.size):=by
      rcases hm with h1 | h1
      . exact absurd h1 byT
      . exact h1
     have hpl:t.place.size=es.size:=by unfold qf2.fits at hf;simp at hf;exact hf.1
     refine fin es.toList (fun i=>if h:0<i/\i<=t.place.size then t.place[i-1]+1 else 0) (qw8 _) (by simp) fun A' calm=>?_
     have low:∀ i,i<=es.size->qf1 t.place (if h:0<i/\i<=t.place.size then t.place[i-1]+1 else 0)=i:=fun i hi=>by
      by_cases h0:i=0
      . subst h0;simp [mn hp]
      . rw [dif_pos ⟨by lia,by lia⟩,nO hp (by lia)];lia
     refine i0 calm g3 hf ne (fun i hi s' gs A' Q' E' q'=>ej byP (hl.trans byP) one gs g3 hf ?_) (fun s' gs A' Q' E' q'=>ej byP (hl.trans byP) one gs g3 hf ?_)
     . rw [low i (qn3 hi),qf8 hi,qf8 (by lia)];rw [dif_pos ⟨by lia,by lia⟩] at q';simpa [hi] using q'
     . rw [low _ (nL _),qn2 (by lia)];exact q'
end
section
variable {P:qb5} {u:World} {K:Type} [DecidableEq K] {κ:SK P u K} {A:qd2} {E:Value->qa4->Prop} {s:qa4} {a:Addr}
theorem TxS.small {h:Heap} {ss:List K} {led:Bool} (x:TxS κ h a ss led):ss.length<qm1/\∃ o,h.get? a=some o/\o.cls=.type "set":=by obtain ⟨o,es,ep,t,g1,g2,g3,y,hb,_⟩:=x.ex;refine ⟨?_,o,g1,g2.1⟩;rw [<- y.per.length_eq,qa3,qe2];exact hb
theorem io {ss:List K} {Q:List Value->qa4->Prop} (calm:A.handled=none) (hS:TxS κ s.heap a ss (cC u))
  (q:∀ (vs:List Value) (ks:List K) (d:Drawn) (h':Heap) (tk:Nat),AreK κ vs ks->ks.Perm ss->s.heap.objs.size<=h'.objs.size->(∀ b ob,s.heap.get? b=some ob->h'.get? b=some ob)->Q vs {s with drawn:=d,heap:=h',toks:=tk}):wpAny (model P u) A (collect (.ref a)) Q E s:=by
 obtain ⟨hsz,o,g1,gc⟩:=hS.small;have la:a<s.heap.objs.size:=qa8 g1;unfold collect;refine wB (wpAny_runValue (qi7 PySem.F.entry_proto_collect ?_));rw [qg3 PySem.F.plain_proto_collect _];show wpAny _ A.in1 (newList [] >>= fun l=>again (.builtin "list.__iadd__" ⟨[l,.ref a],[]⟩)) _ _ s;refine wB (qc8 ?_);refine qa2 ⟨qm5 PySem.F.plain_list_iadd _,qi7 PySem.F.entry_list_iadd ?_⟩;rw [qg3 PySem.F.plain_list_iadd _];show wpAny _ A.in1 (qu9 (.ref s.heap.objs.size) (.ref a) (.ref s.heap.objs.size)) _ _ _;have hS1:TxS κ (s.heap.push {cls:=.type "list",data:=.seq ([]:List Value).toArray}) a ss (cC u):=hS.moved fun ob e=>gP _ e
 have hT1:zf9 {s with heap:=s.heap.push {cls:=.type "list",data:=.seq ([]:List Value).toArray}} (.ref a) "set":=⟨o,gP _ g1,gc⟩;have gL:(s.heap.push {cls:=.type "list",data:=.seq ([]:List Value).toArray}).get? s.heap.objs.size=some {cls:=.type "list",data:=.seq ([]:List Value).toArray}:=qb0 _ rfl;unfold qu9;refine wB (qv9 hT1 ?_);have h1:qy6 (.ref s.heap.objs.size) (.ref a)=false:=by simp [qy6,qn4 la]
 have h2:(qo2 "set"==qo2 "list")=false:=by decide
 have h3:(qo2 "set"==qo2 "tuple")=false:=by decide
 simp only [h1,h2,h3,qz3,qh7,if_false];refine wB (k7 (s:={s with heap:=s.heap.push {cls:=.type "list",data:=.seq ([]:List Value).toArray}}) hS1 fun I fp vs ks St d h' W st hfp keep hI k1 k2=>?_);have hTI:zf9 {s with drawn:=d,heap:=h'} (.ref a) "set":=⟨o,keep a o (gP _ g1),gc⟩;refine wB (qg9 (k6 hTI ?_));show wpAny _ A.in1 (rule "list.extend.makes-room" >>= fun _=>qj8.List.listTouch (.ref s.heap.objs.size) >>= fun _=>again (.builtin "list.extend.loop" ⟨[.ref s.heap.objs.size,.ref I,.ref s.heap.objs.size],[]⟩)) _ _ _;refine wB (qr6 (wB ?_));have gL1:=keep _ _ gL;show wpAny _ A.in1 (zh7 s.heap.objs.size (·.push .none) >>= fun _=>zh7 s.heap.objs.size (·.pop)) _ _ _;refine wB (qq7 gL1 rfl ?_);have gL2:=qd4 (qp6 (·.push qh1)) gL1 rfl;refine qq7 gL2 rfl ?_;have gL3:=qd4 (qp6 (·.pop)) gL2 rfl;have oth:∀ b ob,b≠s.heap.objs.size->h'.get? b=some ob->((h'.update s.heap.objs.size (qp6 (·.push qh1))).update s.heap.objs.size (qp6 (·.pop))).get? b=some ob:=fun b ob hb e=>(qe7 _ _ (qk6 hb)).trans ((qe7 _ _ (qk6 hb)).trans e)
 have out:s.heap.objs.size∉fp:=fun hm=>by
  rcases (hfp _ hm).2 with z | z
  . exact qn4 la z
  . have z:(s.heap.push {cls:=.type "list",data:=.seq ([]:List Value).toArray}).objs.size<=s.heap.objs.size:=z;rw [qg8] at z;exact Nat.not_succ_le_self _ z
 have W1:=W A.in1 (by simp [calm])
 have hvl:vs.length<=qa7:=by
  have e:vs.length=ss.length:=by rw [<- k2.length_eq];exact k1.len
  rw [e];exact qr7 hsz
 refine qa2 ⟨qm5 PySem.F.plain_extend_loop _,codeAny_extend_loopS W1 hvl _ out _ vs.length 0 _ _ _ rfl (qi8 _) (W1.frame 0 ({s with drawn:=d,heap:=h'}:qa4) _ s.toks st (nL _) fun b hb ob e=>oth b ob (fun h=>out (h▸hb)) e) gL3 (ItemsOf.nil _) fun s2 acc c2 mv gS2 hacc=>?_⟩;show wpAny _ A (load s.heap.objs.size >>= _) _ _ s2;refine wB (wpAny_load gS2 ?_)
 have hav:acc.toList=vs:=by
  apply qp3
  . simpa using hacc.1
  . intro i h1 h2;have:=hacc.2 i acc.toList[i] (by simp);rw [this];simp [h2]
 rw [<- hav] at k1;obtain ⟨h2',g2',d2',tk2',o2'⟩:=s2;have eg:g2'=s.gens:=mv.gens;have ed:d2'=d:=mv.drawn;have eo:o2'=s.os:=mv.os;subst eg ed eo;refine qa2 (q acc.toList ks d2' h2' tk2' k1 k2 (qn3 (qa8 gS2)) fun b ob e=>?_);have nb:b≠s.heap.objs.size:=qc4 (qa8 e);refine mv.heap b ob (fun hm=>?_) (oth b ob nb (keep b ob (gP _ e)));rcases qa9.mp hm with z | z
 . exact nb z
 . rw [qb7.mp z] at e;have z2:(s.heap.push {cls:=.type "list",data:=.seq ([]:List Value).toArray}).objs.size<=I:=hI;rw [qg8] at z2;exact absurd (qa8 e) (ql9.mpr (Nat.le_of_succ_le z2))
end
section
variable {P:qb5} {u:World} {K:Type} [DecidableEq K] {κ:SK P u K} {A:qd2} {E:Value->qa4->Prop} {s:qa4} {a:Addr}
noncomputable def gl (κ:SK P u K) (srt:List K->List K):Prop:=∀ {A:qd2} {E:Value->qa4->Prop} {s:qa4} {a:Addr} {vs:List Value} {ks:List K} {n:Nat} {Q:Fin->qa4->Prop},s.heap.get? a=some (seqObj "list" vs.toArray n)->AreK κ vs ks->vs.length<64→ (∀ out:Array Value,AreK κ out.toList (srt ks)->Q (.done (.ret .none)) {s with heap:=sortedHeap s.heap a vs out})->wpAny (model P u) A (qj8.«list.sort» ⟨[.ref a],[]⟩) Q E s
theorem i4 {ss:List K} {srt:List K->List K} {Q:Value->qa4->Prop} (hs:gl κ srt) (pm:∀ {ks},ks.Perm ss->srt ks=srt ss) (calm:A.handled=none) (hS:TxS κ s.heap a ss (cC u)) (few:ss.length<64)
  (q:∀ (l:Addr) (out:Array Value) (d:Drawn) (h':Heap) (tk:Nat),AreK κ out.toList (srt ss)->(∃ e,h'.get? l=some (seqObj "list" out e))->s.heap.objs.size<=l->(∀ b ob,s.heap.get? b=some ob->h'.get? b=some ob)->Q (.ref l) {s with drawn:=d,heap:=h',toks:=tk}):wpAny (model P u) A (call (.builtin "sorted") [.ref a]) Q E s:=by
 refine Calls.call_function_entry kind_sorted plain_sorted entry_sorted (args_sorted1 _) ?_;unfold qj8.«sorted»;refine wB (m:=checkCount "sorted" 1 1 _) (qa2 ?_);refine qg5 (io (by simp [calm]) hS fun vs ks d h' tk k1 k2 le keep=>?_);have hlen:vs.length<64:=by rw [k1.len,k2.length_eq];exact few
 refine wB (wpAny_newList ?_ (qc5 (qn3 hlen) (by decide)));have gL:(h'.push (seqObj "list" vs.toArray 0)).get? h'.objs.size=some (seqObj "list" vs.toArray 0):=qb0 _ rfl;show wpAny _ _ _ _ _ {s with drawn:=d,toks:=tk,heap:=h'.push (seqObj "list" vs.toArray 0)};refine wB (qg9 (qe5 slot_list_sort ⟨_,gL,rfl⟩ entry_list_sort (hs gL k1 hlen fun out a1=>⟨_,rfl,?_⟩) (args_list_sort _)));refine qa2 ⟨_,rfl,?_⟩;refine q _ _ d _ tk (pm k2▸a1) (sortedHeap_at gL) le fun b ob e=>?_
 have lt:b<h'.objs.size:=qa8 (keep b ob e);rw [sortedHeap_old (qc4 lt) (by rw [size_push'];exact qh4 lt)];exact gP _ (keep b ob e)
end
section
variable {P:qb5} {u:World}
theorem sy {vs:List Value} {ks:List Str} (h:AreK (qA P u) vs ks):StrsAre vs ks:=by
 induction h with
 | nil=>exact .nil
 | cons k t _ ih=>exact .cons k t ih
theorem sA {vs:List Value} {ks:List Str} (h:StrsAre vs ks):AreK (qA P u) vs ks:=by
 induction h with
 | nil=>exact .nil
 | cons k t _ ih=>exact AreK.cons (κ:=qA P u) k t ih
theorem sB {vs:List Value} {ks:List Int} (h:AreK (qB P u) vs ks):zb9 vs ks:=by
 induction h with
 | nil=>exact .nil
 | cons k t _ ih=>exact .cons k t ih
theorem sC {vs:List Value} {ks:List Int} (h:zb9 vs ks):AreK (qB P u) vs ks:=by
 induction h with
 | nil=>exact .nil
 | cons k t _ ih=>exact AreK.cons (κ:=qB P u) k t ih
theorem sD:gl (qA P u) dP:=fun {A E s a vs ks n Q} g k hlen q=>by
 have k1:=sy k;refine list_sort_treeK strKind_oneLt g k1.keysOf (fun v1 v2 r e=>keyKind_strs (by rw [<- e];exact k1)) hlen fun st a1 a2=>?_
 obtain ⟨ks2,e1,e2,e3⟩:=sorted_out_str k1 a1 a2;have e:ks2=dP ks:=gT (e2.trans (cM ks).symm) (qu ks2 e3) (gi ks);exact q _ (sA (e▸e1))
theorem sE {ss ks:List Str} (p:ks.Perm ss):dP ks=dP ss:=gT ((cM ks).trans (p.trans (cM ss).symm)) (gi ks) (gi ss)
noncomputable def eQ (ns:List Int):List Int:=ns.mergeSort fun a b=>decide (a<=b)
theorem cO (ns:List Int):(eQ ns).Perm ns:=List.mergeSort_perm ns _
theorem i5 (ns:List Int):(eQ ns).Pairwise (· <= ·):=by have:=qz7 (le:=fun a b:Int=>decide (a<=b)) (fun a b c h1 h2=>by simp at *;lia) (fun a b=>by simp;lia) ns;exact this.imp fun {a b} h=>by simpa using h
theorem i6 {a b:List Int} (p:a.Perm b) (h1:a.Pairwise (· <= ·)) (h2:b.Pairwise (· <= ·)):a=b:=zh6.eq_of_pairwise (fun a b _ _ x y=>zd1 x y) h1 h2 p
theorem sF:gl (qB P u) eQ:=fun {A E s a vs ks n Q} g k hlen q=>by
 refine list_sort_tree g (sB k) hlen fun out ns a1 a2 a3=>?_
 have e:ns=eQ ks:=i6 (a2.trans (cO ks).symm) a3 (i5 ks);exact q _ (sC (e▸a1))
theorem sG {ss ks:List Int} (p:ks.Perm ss):eQ ks=eQ ss:=i6 ((cO ks).trans (p.trans (cO ss).symm)) (i5 ks) (i5 ss)
end
section
variable {K:Type} [DecidableEq K]
noncomputable def bY (ss:List K):List K:=ss.foldl once []
theorem j6 [Inhabited K] (ss:List K):met (fun i=>ss.getD i default) ss.length=bY ss:=by
 unfold met bY;congr 1;apply qp3
 . simp
 . intro i h1 h2;simp at h1;simp [h1]
theorem j7 [Inhabited K] (ss:List K):(bY ss).length<=ss.length:=by rw [<- j6];exact k4 _ _
end
theorem Inv.dr {X:Cx} {pins:List (Addr×Obj)} {σ:St} {H:Hp} {s:qa4} (I:Inv X pins σ H s) (d:Drawn):Inv X pins σ H {s with drawn:=d}:=⟨I.ok,I.os,I.bare,I.base,I.loc,I.cell,I.free,I.freeC,I.pin,I.hok,I.len⟩
section
variable {X:Cx} {K:Type} [DecidableEq K] [Inhabited K] {κ:SK X.prog X.w K} {kv:K->V}
theorem sH:∀ {vs:List Value} {ss:List K},AreK κ vs ss->∀ (i:Nat) (v:Value),vs[i]?=some v->∃ t,v=κ.put (ss.getD i default) t
 | _,_,.nil,i,v,h=>by simp at h
 | _,_,.cons y t r,0,v,h=>by simp at h;exact ⟨t,by rw [<- h];rfl⟩
 | _,_,.cons y t r,i+1,v,h=>sH r i v (by simpa using h)
abbrev sI (κ:SK X.prog X.w K) (l:Addr) (ss:List K):HO:=.ext fun h=>TxS κ h l ss (cC X.w)
noncomputable def nT (κ:SK X.prog X.w K) (kv:K->V):Prop:=∀ k v,RelV (kv k) v↔∃ t,v=κ.put k t
theorem mw (hk:nT κ kv):∀ {ss:List K} {its:List Value},Vals (ss.map kv) its->AreK κ its ss
 | [],_,h=>by cases h;exact .nil
 | x::ss,_,h=>by
  cases h with
  | cons h1 h2 =>obtain ⟨t,rfl⟩:=(hk x _).mp h1;exact .cons x t (mw hk h2)
theorem mx (hk:nT κ kv):∀ {its:List Value} {ss:List K},AreK κ its ss->Vals (ss.map kv) its
 | _,_,.nil=>.nil
 | _,_,.cons x t h=>.cons ((hk x _).mpr ⟨t,rfl⟩) (mx hk h)
theorem qD (hk:nT κ kv) (calm:X.calm=true):da X (.type "set") (fun xs H Q=>∃ p ss,xs=[.ref p]/\SqL X.K H p (ss.map kv)/\ss.length<4000/\∀ l,H l=none->Q (.ref l) (upd H l (sI κ l (bY ss)))):=by
 intro pins s σ H xs us Q I r h;obtain ⟨p,ss,rfl,hq,hz,q⟩:=h;obtain ⟨u,rfl,rx⟩:=fA r;cases rx;obtain ⟨its,r',pl,hz'⟩:=I.list hq;have hS:=mw hk r';have hlen:its.length=ss.length:=by have:=r'.length;simpa using this.symm
 have hi:∀ (i:Nat) (v:Value),its.toArray[i]?=some v->∃ t,v=κ.put (ss.getD i default) t:=fun i v hv=>sH hS i v (by simpa using hv)
 have hb:its.toArray.size+1<qm1:=by
  have:its.toArray.size=ss.length:=by simpa using hlen
  rw [this];unfold qm1;lia
 refine sx (I.ok.hd calm) pl.isList hi hb fun hp tk hT kept=>?_
 have e:met (fun i=>ss.getD i default) its.toArray.size=bY ss:=by rw [show its.toArray.size=ss.length by simpa using hlen];exact j6 ss
 rw [e] at hT;refine ⟨.ref s.heap.objs.size,_,I.laid (t':=tk) (fun b o g=>kept b o (qa8 g) g) (nL _) (show ObjOk X.prog X.w _ _ _ (sI κ s.heap.objs.size (bY ss)) from ⟨hT,?_,fun h1 h2 x g=>x.moved g⟩),rfl,q _ (I.hok.fresh (nL _))⟩;obtain ⟨_,o,g,_⟩:=hT.small;exact ⟨o,g⟩
theorem k8 {srt:List K->List K} (hk:nT κ kv) (hs:gl κ srt) (pm:∀ {ss ks},ks.Perm ss->srt ks=srt ss) (pl:∀ ss,(srt ss).length=ss.length) (calm:X.calm=true):da X (.builtin "sorted") (fun xs H Q=>∃ p ss,xs=[.ref p]/\H p=some (sI κ p ss)/\ss.length<64/\∀ l,H l=none->Q (.ref l) (upd H l (.lst ((srt ss).map kv)))):=by
 intro pins s σ H xs us Q I r h;obtain ⟨p,ss,rfl,hq,hz,q⟩:=h;obtain ⟨u,rfl,rx⟩:=fA r;cases rx;have hT:TxS κ s.heap p ss (cC X.w):=(show ObjOk X.prog X.w H s.heap p (sI κ p ss) from I.hok p _ hq).1;refine i4 hs pm (I.ok.hd calm) hT hz fun l out d h' tk a1 hc le kept=>?_
 obtain ⟨c,hc⟩:=hc;refine ⟨.ref l,_,(I.laid (t':=tk) kept le (show ObjOk X.prog X.w _ _ _ (.lst ((srt ss).map kv)) from ⟨?_,out.toList,c,mx hk a1,hc⟩)).dr d,rfl,q _ (I.hok.fresh le)⟩;rw [qa3,pl];exact qc5 (qn3 hz) (by decide)
end
theorem kvS {X:Cx}:nT (X:=X) (qA X.prog X.w) V.str:=fun _ _=>Iff.rfl
theorem kvI {X:Cx}:nT (X:=X) (qB X.prog X.w) V.int:=fun _ _=>Iff.rfl
noncomputable def qE {K:Type} [DecidableEq K] (rd:List Dt->Option (List K)) (srt:List K->List K) (wr:K->Dt):List Dt->Option T
 | [.lst ds]=>(rd ds).bind fun ss=>if ss.length<4000/\(bY ss).length<64 then some (.lst ((srt (bY ss)).map wr)) else none
 | _=>none
noncomputable def k9:List Dt->Option (List Int)
 | []=>some []
 | .int k::r=>(k9 r).map (k::·)
 | _=>none
theorem gm {K:PySem.W.Frag} {F:Hp}:∀ {l:List Dt} {vs:List V} {bs:List Int},Reps K F l vs->k9 l=some bs->vs=bs.map V.int
 | [],vs,bs,r,h=>by cases h;simp only [Reps] at r;exact r
 | d::l,vs,bs,r,h=>by
  cases d<;>first | cases h;done | skip
  simp only [k9] at h;obtain ⟨cs,hc,h⟩:=mS h;cases h;simp only [Reps,Rep] at r;obtain ⟨v,ws,rfl,rfl,r2⟩:=r;rw [gm r2 hc];rfl
noncomputable def cV:List Dt->Option T:=qE gM dP .str
noncomputable def dU:List Dt->Option T:=qE k9 eQ .int
theorem j8 {K:PySem.W.Frag} {F:Hp}:∀ ns:List Int,Reps K F (ns.map .int) (ns.map V.int)
 | []=>by simp only [qh2,Reps]
 | x::ss=>by simp only [qa5,Reps];exact ⟨_,_,rfl,by simp only [Rep],j8 ss⟩
section
variable {X:Cx} {e:Expr} {pos pos2 p p2:Pos} {sc:Scope} {fs:De->Option (List Dt)}
theorem sJ {K:Type} [DecidableEq K] [Inhabited K] {rd:List Dt->Option (List K)} {srt:List K->List K} {wr:K->Dt} (κ:SK X.prog X.w K) {kv:K->V} (hk:nT κ kv) (hs:gl κ srt) (pm:∀ {ss ks},ks.Perm ss->srt ks=srt ss) (pl:∀ ss,(srt ss).length=ss.length)
  (hr:∀ {F:Hp} {l:List Dt} {vs:List V} {bs:List K},Reps X.K F l vs->rd l=some bs->vs=bs.map kv) (hw:∀ {F:Hp} (ns:List K),Reps X.K F (ns.map wr) (ns.map kv))
  (h1:aF sc "sorted"=true) (h2:aF sc "set"=true) (hc:X.calm=true) (m1:X.mg "sorted"=none) (m2:X.mg "set"=none) (ha:DAB X [e] fs) (e1:bZ X sc)
  (s1:qa6 [.Call (.Name "set" p2) [e] [] pos2] X.env=(false,eval (.Call (.Name "set" p2) [e] [] pos2) X.env)::qa6 [] X.env) (n1:(qk1 pos (qa6 [] X.env)).any (·.1)=false)
  (s2:qa6 [e] X.env=(false,eval e X.env)::qa6 [] X.env) (n2:(qk1 pos2 (qa6 [] X.env)).any (·.1)=false):DO X (.Call (.Name "sorted" p) [.Call (.Name "set" p2) [e] [] pos2] [] pos) (aj (qE rd srt wr) fs):=
 PE.mono (gF h1 (k8 hk hs pm pl hc) m1 (by rfl) (c6 (fL h2 (qD hk hc) m2 (by rfl) ha.pa e1 s2 n2) eC s1) e1 s1 n1) fun σ H Q ⟨Φ,δ,F,t,hK,en,hf,k⟩=>by
  unfold aj at hf;obtain ⟨ds,hd,hg⟩:=bS hf;refine ⟨Φ,δ,F,ds,hK,en,hd,fun vs H1 F1 st r=>?_⟩;unfold qE at hg;split at hg<;>first | (cases hg;done) | skip
  obtain ⟨ss,hs,hg⟩:=bS hg;split at hg<;>cases hg
  rename_i hz;obtain ⟨v,rfl,rv⟩:=dj r;obtain ⟨b,ws,rfl,g1,g2⟩:=rv;have:=hr g2 hs;subst this;refine ⟨b,ss,rfl,g1,hz.1,fun l hl=>?_⟩;have st2:Step F1 H1 F1 (upd H1 l (sI κ l (bY ss))):=Step.made st.fh hl;refine ⟨l,bY ss,rfl,aT,hz.2,fun l2 hl2=>?_⟩;exact e7 (k.step (st.trans st2)) st2.fh (hw _) hl2
theorem i7 (h1:aF sc "sorted"=true) (h2:aF sc "set"=true) (hc:X.calm=true) (m1:X.mg "sorted"=none) (m2:X.mg "set"=none) (ha:DAB X [e] fs) (e1:bZ X sc:=by rfl)
  (s1:qa6 [.Call (.Name "set" p2) [e] [] pos2] X.env=(false,eval (.Call (.Name "set" p2) [e] [] pos2) X.env)::qa6 [] X.env:=by rfl) (n1:(qk1 pos (qa6 [] X.env)).any (·.1)=false:=by rfl)
  (s2:qa6 [e] X.env=(false,eval e X.env)::qa6 [] X.env:=by rfl) (n2:(qk1 pos2 (qa6 [] X.env)).any (·.1)=false:=by rfl):DO X (.Call (.Name "sorted" p) [.Call (.Name "set" p2) [e] [] pos2] [] pos) (aj cV fs):=
 sJ (qA X.prog X.w) kvS sD sE (fun ss=>(cM ss).length_eq) (fun g h=>jR g h) (fun ss=>j1 ss) h1 h2 hc m1 m2 ha e1 s1 n1 s2 n2
theorem my (h1:aF sc "sorted"=true) (h2:aF sc "set"=true) (hc:X.calm=true) (m1:X.mg "sorted"=none) (m2:X.mg "set"=none) (ha:DAB X [e] fs) (e1:bZ X sc:=by rfl)
  (s1:qa6 [.Call (.Name "set" p2) [e] [] pos2] X.env=(false,eval (.Call (.Name "set" p2) [e] [] pos2) X.env)::qa6 [] X.env:=by rfl) (n1:(qk1 pos (qa6 [] X.env)).any (·.1)=false:=by rfl)
  (s2:qa6 [e] X.env=(false,eval e X.env)::qa6 [] X.env:=by rfl) (n2:(qk1 pos2 (qa6 [] X.env)).any (·.1)=false:=by rfl):DO X (.Call (.Name "sorted" p) [.Call (.Name "set" p2) [e] [] pos2] [] pos) (aj dU fs):=
 sJ (qB X.prog X.w) kvI sF sG (fun ss=>(cO ss).length_eq) (fun g h=>gm g h) (fun ss=>j8 ss) h1 h2 hc m1 m2 ha e1 s1 n1 s2 n2
end
section
variable {X:Cx} {e o:Expr} {fa fe:Fg} {pos apos cpos:Pos}
end
section
variable {P:qb5} {u:World} {A:qd2} {E:Value->qa4->Prop} {s:qa4} {Ty:String} {r d:Addr} {n:Nat} {Pr:Nat->Value->Prop} {OK:Heap->Prop}
end
section
variable {X:Cx}
variable {e o:Expr} {es:List Expr} {fo:De->Option Dt} {fs:De->Option (List Dt)} {apos cpos pos:Pos}
noncomputable def q46 (i:Nat) (f:De->Option T):De->Option Out:=fun δ=>match δ[i]? with
 | some (some (.lst l))=>(f δ).bind fun t=>match t with
  | .lst m=>if l.length+m.length<=qa7 then some (.nx (δ.set i (some (.lst (l++m))))) else none
  | _=>none
 | _=>none
theorem j9 {i:Nat} {fe:De->Option T} (hx:PE X o (jn i)) (he:DO X e fe)
  (hbase:qz4 o "extend" X.env (eval o X.env)=eval o X.env:=by rfl)
  (hfew:((qk1 cpos (qa6 [e] X.env)).all (fun x=>!x.1)&&(backToKw cpos (ze4 [] X.env)).all (fun x=>x.1.isSome)
   && decide ([e].length+([]:List zb7).length+(if ([]:List zb7).isEmpty then 0 else 1)<30))=true:=by rfl)
  (hline:(apos.endLine==cpos.line)=true:=by rfl) (hs:qa6 [e] X.env=(false,eval e X.env)::qa6 [] X.env:=by rfl) (hplain:(qk1 cpos (qa6 [] X.env)).any (·.1)=false:=by rfl)
  (hsw:qm6 (.Call (.Attribute o "extend" apos) [e] [] cpos) none pos.line X.env=pure false:=by rfl) :
  DS1 X (.Expr (.Call (.Attribute o "extend" apos) [e] [] cpos) pos) (q46 i fe):=
 PS.mono (kx (rn PySem.F.plainAttrs_list PySem.F.slot_list_extend PySem.F.type_list_extend p9 hx (c6 he eC hs) hbase hfew hline hs hplain) hsw) fun D σ H ⟨Φ,δ,F,ot,hK,en,hg,k⟩=>by
  unfold q46 at hg;split at hg<;>first | cases hg;done | skip
  rename_i l hl;obtain ⟨t,hd,hg⟩:=bS hg;split at hg<;>first | cases hg;done | skip
  rename_i m;split at hg<;>first | cases hg;done | skip
  rename_i hz;cases hg;obtain ⟨a,vs,hv,h1,h2⟩:=en.ownL hl;refine ⟨.ref a,hv,.inl ⟨rfl,vs,.inl (.inl h1)⟩,Φ,δ,F,.lst m,hK,en,hd,fun v H1 F1 S st ov hS=>?_⟩;have en1:=en.step st;have h1':=st.hh _ _ h1;obtain ⟨b,ws,rfl,sb,g1,g2⟩:=ov;refine ⟨a,b,vs,ws,rfl,rfl,h1',g1,by rw [h2.length,g2.length];exact hz,?_⟩;refine k σ F1 _ (en1.poke hl hv (fun d z=>nomatch z) fun S sa=>⟨a,vs++ws,rfl,sa,aT,(h2.same st.ff).append (hK▸g2)⟩)
end
section
variable {X:Cx} {elt tg iter:Expr} {ifs:List Expr} {scope:Scope} {pos:Pos} {M:List Str} {src:List (Option Nat)} {fd fe:Fg} {ft:Ft} {i t:Nat}
end
noncomputable def loD (m:Nat) (δ:Sl) (ch:CH):De:=δ.map fun o=>o.bind fun c=>(vwD ch m c).map T.leaf
section
variable {K:PySem.W.Frag} {F H:Hp} {ρ:Nat->Addr} {δ:Sl} {σ:St} {ch:CH}
theorem pf {m j:Nat} {t:T} (h:(loD m δ ch)[j]?=some (some t)):∃ c d,δ[j]?=some (some c)/\vwD ch m c=some d/\t=.leaf d:=by unfold loD at h;rw [qb9] at h;obtain ⟨o,ho,h1⟩:=mS h;obtain ⟨c,hc,h2⟩:=bS h1;obtain ⟨d,hd,h3⟩:=mS h2;exact ⟨c,d,by rw [ho,hc],hd,h3.symm⟩
theorem Ge.enD (m:Nat) (e:Ge K δ ch σ F H ρ):En ⟨K,H,H,fun _=>False⟩ (loD m δ ch) σ H H:=by
 refine ⟨Same.refl _,fun b o h _=>h,Same.refl _,fun b o h=>.inl h,by simp [loD,e.len],fun j t h=>?_,fun _ _=>False,fun j t v h=>?_,fun j b z=>z.elim,fun j k b z _=>z.elim⟩
 . obtain ⟨c,d,q,_⟩:=pf h;obtain ⟨v,hv,_⟩:=e.has j _ q;exact ⟨v,hv⟩
 . obtain ⟨h1,h2⟩:=dH h;obtain ⟨c,d,q,hd,rfl⟩:=pf h1;obtain ⟨w,hw,r⟩:=e.has j _ q;rw [h2] at hw;cases hw;exact pc e.gh m c v d r hd
end
noncomputable def eDV (m:Nat) (f:De->Option T):Fg:=fun δ ch=>(f (loD m δ ch)).bind fun u=>(o7 u).bind (al ch)
noncomputable def tDV (m:Nat) (f:De->Option Bool):Ft:=fun δ ch=>(f (loD m δ ch)).map fun b=>(b,ch)
section
variable {X:Cx} {e:Expr}
theorem Ai (m:Nat) {f:De->Option T} (h:DO X e f):GE X e (eDV m f):=PE.mono h fun σ H Q ⟨δ,ch,F,ρ,c,ch',en,hf,k⟩=>by unfold eDV at hf;obtain ⟨u,hu,hf⟩:=bS hf;obtain ⟨t,ht,hf⟩:=bS hf;exact ⟨_,loD m δ ch,H,u,rfl,en.enD m,hu,r9 en.gh.fh ht (wA en.gh hf k)⟩
theorem Aj (m:Nat) {f:De->Option Bool} (h:DT X e f):GT X e (tDV m f):=PT.mono h fun σ H Q ⟨δ,ch,F,ρ,b,ch',en,hf,k⟩=>by unfold tDV at hf;obtain ⟨b',hb,hf⟩:=mS hf;cases hf;exact ⟨_,loD m δ ch,H,b,rfl,en.enD m,hb,fun H' F' st=>k F H' ρ (Adv.of en.gh ⟨st.hh,Same.refl _,en.gh.fh.trans st.hh,fun _ _ z=>.inl z⟩)⟩
end
noncomputable def sK:Dt->Bool
 | .non=>true | .bl _=>true | .int _=>true | .str _=>true
 | _=>false
theorem mz {K:PySem.W.Frag} {F F':Hp} {d:Dt} {v:V} (h:sK d=true) (r:Rep K F d v):Rep K F' d v:=by cases d<;>first | (simp [sK] at h;done) | (simp only [Rep] at r ⊢;exact r)
noncomputable def svD (ch:CH):Nat->CV->Option Dt
 | _,.dat d=>if sK d then some d else none
 | _,.fn _ _=>none
 | 0,.ref _=>none
 | n+1,.ref i=>match ch[i]? with
  | some (.lst l)=>(dz (svD ch n) l).map .lst
  | some (.tup l)=>(dz (svD ch n) l).map .tup
  | _=>none
theorem ph {K:PySem.W.Frag} {F H G:Hp} {ρ:Nat->Addr} {ch:CH} (gh:Gh K F H ρ ch) (hG:∀ i u,i<ch.length->H (ρ i)=some u->G (ρ i)=some u):∀ (n:Nat) (c:CV) (v:V) (d:Dt),RelC K F ρ ch.length c v->svD ch n c=some d->Rep K G d v
 | 0,.dat d',v,d,r,h=>by
  simp only [svD] at h;split at h<;>cases h
  rename_i hs;exact mz hs r
 | n+1,.dat d',v,d,r,h=>by
  simp only [svD] at h;split at h<;>cases h
  rename_i hs;exact mz hs r
 | 0,.fn _ _,v,d,r,h=>by simp only [svD] at h;cases h
 | n+1,.fn _ _,v,d,r,h=>by simp only [svD] at h;cases h
 | 0,.ref i,v,d,r,h=>by simp only [svD] at h;cases h
 | n+1,.ref i,v,d,r,h=>by
  obtain ⟨hi,rfl⟩:=r;simp only [svD] at h;have ih:=ph gh hG n;split at h
  . rename_i l hl;obtain ⟨ds,hd,rfl⟩:=mS h;obtain ⟨vs,h1,h2⟩:=gh.ok i _ hl;simp only [Rep];exact ⟨_,vs,rfl,SqL.of (hG i _ hi h1),cN ih h2 hd⟩
  . rename_i l hl;obtain ⟨ds,hd,rfl⟩:=mS h;obtain ⟨vs,h1,h2⟩:=gh.ok i _ hl;simp only [Rep];exact ⟨_,vs,rfl,SqT.of (hG i _ hi h1),cN ih h2 hd⟩
  . cases h
noncomputable def fS (g:Fd):List Dt->Option T:=fun ds=>(g (ds.map .dat) []).bind fun p=>(svD p.2 4 p.1).map .leaf
theorem Ak {K:PySem.W.Frag} {n:Nat} {g:Fd} {vs:List V} {H:Hp} {Q:VK} {E:XK} (h:spD K n (fS g) vs H Q E):spG K n g vs H Q E:=by
 obtain ⟨F,ds,t,fh,hl,r,hf,k⟩:=h;unfold fS at hf;obtain ⟨⟨c,ch'⟩,hp,hf1⟩:=bS hf;obtain ⟨d,hd,rfl⟩:=mS hf1;refine ⟨F,fun _=>0,ds.map .dat,[],c,ch',⟨fh,fun i j hi=>absurd hi (qn9 _),fun i hi=>absurd hi (qn9 _),fun i o h=>by simp at h⟩,by simpa using hl,RelCs.dats r,hp,fun v F' H' ρ' a rv=>?_⟩;have hh:Same H H':=fun b o e=>a.prot b o e fun i hi=>absurd hi (qn9 _)
 have fr:∀ i,i<ch'.length->H (ρ' i)=none:=fun i hi=>a.fr i (qi8 _) hi
 classical
 let G:Hp:=fun b=>if (∃ i,i<ch'.length/\ρ' i=b) then H' b else F b
 have Gin:∀ i,i<ch'.length->G (ρ' i)=H' (ρ' i):=fun i hi=>if_pos ⟨i,hi,rfl⟩
 have Gout:∀ b,(¬ ∃ i,i<ch'.length/\ρ' i=b)->G b=F b:=fun b h=>if_neg h
 have st:Step F H G H':=by
  refine ⟨hh,fun b o e=>?_,fun b o e=>?_,fun b o e=>?_⟩
  . rw [Gout b]
    . exact e
    . rintro ⟨i,hi,rfl⟩;have:=fh _ _ e;rw [fr i hi] at this;cases this
  . by_cases z:∃ i,i<ch'.length/\ρ' i=b
    . obtain ⟨i,hi,rfl⟩:=z;rw [Gin i hi] at e;exact e
    . rw [Gout b z] at e;exact hh _ _ (fh _ _ e)
  . by_cases z:∃ i,i<ch'.length/\ρ' i=b
    . obtain ⟨i,hi,rfl⟩:=z;exact .inr (fr i hi)
    . rw [Gout b z] at e;exact .inl e
 exact k.leaf v H' G st (ph a.gh (fun i u hi hu=>(Gin i hi).trans hu) 4 c v d rv hd)
theorem okD {P:qb5} {w:World} {K:PySem.W.Frag} {mg:Str->Option Value} {base:Heap} {x:Str} {k n:Nat} {ps:List Str} {g:Fd} (h:OkF P w K mg base x k ps (spG K n g)):OkF P w K mg base x k ps (spD K n (fS g)):=by obtain ⟨f,fd,h1,h2,h3,h4⟩:=h.ex;exact ⟨f,fd,h1,h2,h3,h4.imp fun vs H Q E z=>Ak z⟩
abbrev Orc:=Addr->Hp->List Dt->Option T
section
variable {X:Cx} {e:Expr} {es:List Expr} {fs:Fgs} {p pos:Pos} {x:Str} {i kk:Nat} {G:Orc}
end
section
variable {K:PySem.W.Frag} {F F':Hp}
end
section
variable {P:qb5} {w:World} {K:PySem.W.Frag} {mg:Str->Option Value} {base:Heap} {N ps fr:List Str} {name qual:Str} {params:qq2} {body:List Stmt} {scope:Scope} {f c':Addr} {cl:List (Str×Addr)} {H:Hp} {fs:List V} {doc pm ctv:Value} {fo:Obj} {uf:HO} {k:Nat} {g:De->Option Out} {caps ds:List Dt} {F0:Hp} {t:T}
end
section
variable {X:Cx} {c P:Addr} {qs:List ((Nat×Nat)×Str)} {name qual:Str} {params:qq2} {body:List Stmt} {scope:Scope} {clos:List (Str×Addr)} {pos:Pos} {i:Nat}
end
section
variable {X:Cx} {pins:List (Addr×Obj)} {σ:St} {H:Hp} {s:qa4}
end
section
variable {X:Cx} {x:Str} {p pos:Pos} {e:Expr} {es:List Expr} {t:TA} {f:Addr} {fd:ql1} {ps:List Str} {sp:Sp} {k:Nat}
end
section
variable {P:qb5} {w:World} {K:PySem.W.Frag} {mg:Str->Option Value} {base:Heap}
end
section
variable {X:Cx}
end
section
variable {X:Cx} {K:PySem.W.Frag}
end
section
variable {X:Cx} {e0:Expr} {p p1 p2 pos:Pos} {x n1 n2 q1 q2:Str} {par1 par2:qq2} {bod1 bod2:List Stmt} {sc1 sc2:Scope} {N1 ps1 fr1 N2 ps2 fr2:List Str} {js1 js2:List Nat} {g1 g2:De->Option Out} {k kk i1 i2:Nat} {ps:List Str} {FR:Orc->Fd} {f0:Fg}
end
section
variable {X:Cx} {c P:Addr} {qs:List ((Nat×Nat)×Str)} {name qual:Str} {params:qq2} {body:List Stmt} {scope:Scope} {clos:List (Str×Addr)} {pos:Pos} {i:Nat}
end
section
variable {X:Cx} {e0:Expr} {pos:Pos} {n1 n2 q1 q2:Str} {par1 par2:qq2} {bod1 bod2:List Stmt} {sc1 sc2:Scope} {N1 N2:List Str} {js1 js2:List Nat} {g1 g2:De->Option Out} {i1 i2:Nat} {FR:Orc->Fd} {f0:Fg} {K:PySem.W.Frag}
end
section
variable {P:qb5} {u:World} {B:qd2} {Ex:Value->qa4->Prop} {s:qa4} {it l:Addr} {xs:Array Value}
end
section
variable {X:Cx} {e:Expr} {ta:TA} {p1 p2 pos1 pos2:Pos} {sc:Scope}
end
section
variable {X:Cx} {a:Expr} {fa:Fg} {p1 p2 pos1 pos2:Pos} {sc:Scope} {K:PySem.W.Frag}
end
section
variable {X:Cx} {o i e value:Expr} {pos pos' tpos:Pos} {fa fk fe:Fg} {K:PySem.W.Frag}
end
section
variable {X:Cx} {name qual:Str} {params:qq2} {body:List Stmt} {scope outer:Scope} {NX N ps fr:List Str} {js:List Nat} {g:De->Option Out} {kk i:Nat} {pos:Pos}
end
section
variable {P:qb5} {w:World} {K:PySem.W.Frag} {mg:Str->Option Value} {base:Heap} {x:Str} {st:Stmt} {N ps:List Str} {c:Addr}
end
section
variable {X:Cx} {a b:Expr} {ta:TA} {p1 p2 pos1 pos2:Pos} {sc:Scope} {fs:De->Option (List Dt)}
end
section
variable {X:Cx} {pins:List (Addr×Obj)} {s:qa4} {σ:St} {H:Hp}
end
noncomputable def AtF (K:PySem.W.Frag) (x:Str) (st:Stmt):Prop:=∃ (f:Addr) (oc:Value) (od an:Option Addr) (sl:Array (Option Value)) (kV dc pm cd ct:Value),PySem.W.nsIn K qc9 x=some (some (.ref f))/\K.lookup f=some ⟨oc,od,.func (PySem.W.fnOf x x (cQ st) (bP st) (ac st) .none kV dc pm an cd ct),sl⟩/\PySem.W.codeIn K cd x=true/\PySem.W.keepIn K (.ref f)=true
section
variable {K:PySem.W.Frag} {mg:Str->Option Value} {h:Heap} {x:Str} {st:Stmt} {ps:List Str} {c P:Addr}
theorem AtF.mk {f:Addr} {oc:Value} {od an:Option Addr} {sl:Array (Option Value)} {kV dc pm cd ct:Value} (a:PySem.W.nsIn K qc9 x=some (some (.ref f))) (l:K.lookup f=some ⟨oc,od,.func (PySem.W.fnOf x x (cQ st) (bP st) (ac st) .none kV dc pm an cd ct),sl⟩) (c:PySem.W.codeIn K cd x=true) (k:PySem.W.keepIn K (.ref f)=true):AtF K x st:=⟨f,oc,od,an,sl,kV,dc,pm,cd,ct,a,l,c,k⟩
theorem AtF.df (A:AtF K x st) (X:K.In h) (G:h.Ns qc9 mg) (hb:∀ (kV doc pm:Value) (an:Option Addr) (cdv ct:Value) (us:List Value),us.length=ps.length->bindArgs (PySem.W.fnOf x x (cQ st) (bP st) (ac st) .none kV doc pm an cdv ct) ⟨us,[]⟩=pure (ps.zip us)):DefF K mg x st ps:=by obtain ⟨f,oc,od,an,sl,kV,dc,pm,cd,ct,a,l,c,k⟩:=A;exact DefF.mk' X G a l c k hb
end
section
variable {X:Cx} {e:Expr} {es:List Expr} {x:Str} {p pos:Pos} {fs:De->Option (List Dt)} {i:Nat}
theorem pvX (h:dE X.env.scope X.N i x=true):PE X (.Name x pos) (jn i):=pvD i h rfl rfl
end
section
variable {X:Cx} {o e:Expr} {fa fe:Fg} {apos cpos pos:Pos}
end
end L2
namespace HT
open PySem PySem.Spec PyProof.Rows
theorem pi {prog:qb5} {w:World} {A:qd2} {E:Value->qa4->Prop} {s:qa4} {t sl:Addr} {items:Array Value} {vl vu:Value} {lo hi:Option Int} {Q:Value->qa4->Prop} (ht:IsTup s.heap t items) (hs:s.heap.IsSliceOf sl vl vu .none) (pl:ze0 vl lo) (pu:ze0 vu hi)
  (hw:sIx items.size 0 lo=0/\sIx items.size items.size hi=items.size) (h:Q (.ref t) s):wpAny (model prog w) A (qz2 (.ref t) (.ref sl)) Q E s:=by
 obtain ⟨os,hos,hcs,hds⟩:=id hs;have hTs:s.TypeIs (.ref sl) "slice":=⟨os,hos,hcs⟩;unfold qz2
 try with_reducible refine qg9 ?_
 first | refine wB (qa2 ?_) | skip
 refine wB (wpAny_sequenceKey ht.typeIs (by decide) ?_)
 refine wB (qd9 (name:=qa0 "__getitem__") ht.typeIs qe8
  (qe5 qe8 ht.typeIs entry_tuple_getitem ?_ (args_tuple_getitem _ _)))
 show wpAny _ _ (qv4 (.ref t) >>= _) _ _ s;refine wB (tupleItemsOf_ ht ?_);refine wB (qv9 hTs ?_);rw [if_pos (by decide)];refine wB (dB hs pl pu ?_);show wpAny _ _ (if (((sIx items.size 0 lo:Nat):Int)==0&&(1:Int)==1&&(sIx items.size items.size hi-sIx items.size 0 lo)==items.size)=true then _ else _) _ _ s;rw [if_pos (by rw [hw.1,hw.2];simp)];refine wB (m:=qj8.Tuple.tupleIsExact _) (wB (qv9 ht.typeIs (qa2 ?_)));rw [if_pos (by decide)]
 first
  | exact wB (m:=rule _) (qr6 (qa2 ⟨_,rfl,qa2 h⟩))
  | exact wB (qr6 (qa2 ⟨_,rfl,qa2 h⟩))
  | exact qr6 (qa2 ⟨_,rfl,qa2 h⟩)
  | (wp_walk;exact ⟨_,rfl,qa2 h⟩)
end HT
namespace L2
open PySem PySem.Spec PyProof.Rows
section
variable {X:Cx}
noncomputable def rSlW (K:PySem.W.Frag):V->Option Int->Option Int->Hp->VK->Prop:=fun x lo hi H Q=>∃ a xs,x=.ref a/\SqT K H a xs/\(HT.sIx xs.length 0 lo=0/\HT.sIx xs.length xs.length hi=xs.length)/\Q (.ref a) H
theorem vm:SlR X (rSlW X.K):=by
 intro pins s σ H x v vl vu lo hi sl Q I rx hs pl pu h;obtain ⟨a,xs,rfl,hx,hw,q⟩:=h;cases rx;obtain ⟨its,r,ht,hz⟩:=I.tuple hx;have hlen:its.toArray.size=xs.length:=by rw [qb3];exact r.length.symm
 refine ⟨"tuple",_,qe8.lookup,ht.typeIs,?_⟩;exact HT.pi ht hs pl pu (by rw [hlen];exact hw) ⟨.ref a,H,I,rfl,q⟩
noncomputable def nU:Dt->Option Int->Option Int->Option T
 | .tup l,lo,hi=>if HT.sIx l.length 0 lo=0/\HT.sIx l.length l.length hi=l.length then some (.leaf (.tup l)) else some (.leaf (.tup (iP l lo hi)))
 | x,lo,hi=>gSl x lo hi
noncomputable def jw (fa:De->Option Dt) (fl fh:De->Option (Option Int)):De->Option T:=fun δ=>(fa δ).bind fun x=>(fl δ).bind fun l=>(fh δ).bind fun h=>nU x l h
theorem Al {K:PySem.W.Frag} {F H:Hp} {x:Dt} {v:V} {lo hi:Option Int} {Q:VK} {t:T} (fh:Same F H) (rx:RepB K F H x v) (hg:nU x lo hi=some t) (k:KO K F H t Q):yd K v lo hi H Q∨rSlW K v lo hi H Q:=by
 unfold nU at hg;split at hg
 . rename_i l;split at hg
   . rename_i hn;cases hg;obtain ⟨a,vs,rfl,h1,h2⟩:=rx;refine .inr ⟨a,vs,rfl,fh.tup h1,by rw [h2.length];exact hn,k.leaf.here fh ?_⟩;simp only [Rep];exact ⟨a,vs,rfl,h1,h2⟩
   . rename_i hn;exact .inl (ye fh rx (by show (if _ then none else some _)=_;rw [if_neg hn];exact hg) k)
 . exact .inl (ye fh rx hg k)
theorem ka {e:Expr} {lo hi:Option Expr} {p2 pos:Pos} {f:De->Option Dt} {fl fh:De->Option (Option Int)} (he:DB X e f) (hl:DP X lo fl) (hh:DP X hi fh):DO X (.Subscript e (.Slice lo hi none p2) pos) (jw f fl fh):=PE.mono (lF (SlR.or rT vm) he hl hh) fun σ H Q ⟨Φ,δ,F,t,hK,en,hf,k⟩=>by unfold jw at hf;obtain ⟨x,hx,hf⟩:=bS hf;obtain ⟨l,hl,hf⟩:=bS hf;obtain ⟨h,hh,hf⟩:=bS hf;exact ⟨Φ,δ,F,x,hK,en,hx,fun v H1 F1 s1 r1=>⟨Φ,δ,F1,l,hK,en.step s1,hl,fun H2 F2 s2=>⟨Φ,δ,F2,h,hK,en.step (s1.trans s2),hh,fun H3 F3 s3=>Al s3.fh (r1.step (s2.ff.trans s3.ff) (s2.hh.trans s3.hh)) hf (k.step ((s1.trans s2).trans s3))⟩⟩⟩
noncomputable def sN (K:PySem.W.Frag):R2:=fun x y H Q=>∃ a b z xs,x=.ref a/\y=.ref b/\SqT K H a (z::xs)/\SqT K H b []/\Q (.ref a) H
theorem vn:OpR X (qk5 .Add) (sN X.K):=by
 intro pins s σ H x y v u Q I rx ry h;obtain ⟨a,b,z,xs,rfl,rfl,ha,hb,q⟩:=h;cases rx;cases ry;obtain ⟨its,r1,p1,_⟩:=I.tuple ha;obtain ⟨its2,r2,p2,_⟩:=I.tuple hb;cases r2;obtain ⟨⟨cls,dd,data,sl⟩,ho,hc,n,hd⟩:=id p1;obtain ⟨⟨cls2,dd2,data2,sl2⟩,ho2,hc2,n2,hd2⟩:=id p2;simp only at hc hd hc2 hd2;subst hc hd hc2 hd2
 exact qv8 ⟨_,ho,rfl⟩ ⟨_,ho2,rfl⟩ qs8 qz1 PySem.F.slot_tuple_add PySem.F.entry_tuple_add (PySem.F.args_tuple_add_2 _ _)
  (tuple_addW1 a b its.toArray #[] n n2 dd dd2 sl sl2 (by cases r1;simp) rfl) ⟨ho,ho2,⟨.ref a,H,I,rfl,q⟩⟩
noncomputable def cD:Dt->Dt->Option T
 | .tup (d::l),.tup []=>some (.leaf (.tup (d::l)))
 | x,y=>se x y
theorem gn:OpR X (qk5 .Add) (fun x y H Q=>(l7 X.K x y H Q∨jQ X.K x y H Q)∨sN X.K x y H Q):=OpR.or u7 vn
theorem i8 {K:PySem.W.Frag}:R2D K (fun x y H Q=>(l7 K x y H Q∨jQ K x y H Q)∨sN K x y H Q) cD:=by
 intro F H x y vx vy Q t fh rx ry hg k;unfold cD at hg;split at hg
 . rename_i d l;cases hg;obtain ⟨a,vs,rfl,h1,h2⟩:=rx;obtain ⟨b,ws,rfl,h3,h4⟩:=ry;simp only [Reps] at h4;subst h4;have h2':=h2;simp only [Reps] at h2';obtain ⟨v,us,rfl,_,_⟩:=h2';refine .inr ⟨a,b,v,us,rfl,rfl,fh.tup h1,fh.tup h3,k.leaf.here fh ?_⟩;simp only [Rep];exact ⟨a,_,rfl,h1,h2⟩
 . exact .inl (yi F H _ _ vx vy Q t fh rx ry hg k)
end
abbrev Hk3:=Str×Int×Bool
noncomputable def h3 (k:Hk3):Dt:=.tup [.str k.1,.int k.2.1,.bl k.2.2]
section
variable {X:Cx} {pins:List (Addr×Obj)} {s:qa4} {σ:St} {H:Hp}
end
section
variable {X:Cx} {a:Expr} {fa:Fg} {p pos:Pos} {sc:Scope}
theorem kc {P:qb5} {w:World}:∀ {kvs:List (Key×V)} {vs:List (Key×Value)} {es:List zh4},KV kvs vs->Pairs (bn P w) es vs->Vals (kvs.map fun p=>kV p.1) (es.map (·.key))
 | [],_,_,.nil,.nil=>.nil
 | _::_,_,_,.cons r t,.cons h _ m=>.cons (by dsimp only;rw [r.1];exact u8 h) (kc t m)
theorem nV (hc:X.calm=true):da X (.type "list") (fun xs H Q=>∃ a kvs,xs=[.ref a]/\H a=some (.dK kvs)/\∀ l,H l=none->Q (.ref l) (upd H l (.lst (kvs.map fun p=>kV p.1)))):=by
 intro pins s σ H xs us Q I r h;obtain ⟨a,kvs,rfl,hq,q⟩:=h;obtain ⟨u,rfl,rx⟩:=fA r;cases rx;obtain ⟨z,y,vs,rel,ob,es,ep,e1,e2,e3,e4,e5,e6⟩:=I.hok a _ hq;have en:EntA s.heap a (es.toList.map (·.key)) ep:=⟨ob,es,e1,e2,e3,rfl⟩;have kv:=kc rel e5;have hz:(es.toList.map (·.key)).length<=qa7:=by rw [<- kv.length,qa3];exact z
 refine PySem.W.kdl_call (vf y) (I.ok.hd hc) en hz fun h' tk acc c kp hD hacc=>?_
 have eacc:acc.toList=es.toList.map (·.key):=by
  apply qr8;intro j;cases hj:acc.toList[j]? with
  | none =>have h1:=qp1.mp hj;rw [qe2,hacc.1] at h1;rw [qp1.mpr h1]
  | some v=>exact (hacc.2 j v (by rw [<- qs2];exact hj)).symm
 exact ⟨.ref s.heap.objs.size,_,I.laid (t':=tk) kp (nL _) (show ObjOk X.prog X.w _ h' _ (.lst (kvs.map fun p=>kV p.1)) from ⟨by rw [qa3];exact z,acc.toList,c,by rw [eacc];exact kv,by rw [Array.toArray_toList];exact hD⟩),rfl,q _ (I.hok.fresh (nL _))⟩
noncomputable def eLK (fa:Fg):Fg:=fun δ ch=>(fa δ ch).bind fun p=>match p.1 with
 | .ref i=>match p.2[i]? with
  | some (.dK l)=>some (.ref p.2.length,p.2++[.lst (l.map fun q=>.dat (mh q.1))])
  | _=>none
 | _=>none
theorem i9 {K:PySem.W.Frag} {F:Hp} {ρ:Nat->Addr} {n:Nat}:∀ {l:List (Key×CV)} {kvs:List (Key×V)},kvs.map (·.1)=l.map (·.1)->RelCs K F ρ n (l.map fun q=>.dat (mh q.1)) (kvs.map fun p=>kV p.1)
 | [],[],_=>rfl
 | [],_::_,h=>by cases h
 | _::_,[],h=>by cases h
 | q::l,b::bs,h=>by injection h with h1 h2;refine ⟨kV b.1,_,rfl,?_,i9 h2⟩;show Rep K F (mh q.1) (kV b.1);have h1:b.1=q.1:=h1;rw [h1];cases q.1<;>rfl
theorem sO (h:aF sc "list"=true) (hc:X.calm=true) (hm:X.mg "list"=none) (hv:qd7 "list"=some (.type "list")) (ha:GE X a fa) (e1:bZ X sc:=by rfl)
  (he:qa6 [a] X.env=(false,eval a X.env)::qa6 [] X.env:=by rfl) (hpl:(qk1 pos (qa6 [] X.env)).any (·.1)=false:=by rfl):GE X (.Call (.Name "list" p) [a] [] pos) (eLK fa):=
 PE.mono (fL h (nV hc) hm hv (c6 ha eC he) e1 he hpl) fun σ H Q ⟨δ,ch,F,ρ,c,ch',en,hf,k⟩=>by
  unfold eLK at hf;obtain ⟨⟨c1,ch1⟩,hp,hf1⟩:=bS hf;clear hf;dsimp only at hf1;split at hf1<;>first | (cases hf1;done) | skip
  rename_i i;split at hf1<;>first | (cases hf1;done) | skip
  rename_i l hl;cases hf1;refine ⟨δ,ch,F,ρ,_,ch1,en,hp,fun v F1 H1 ρ1 a1 r1=>?_⟩;obtain ⟨kvs,h1,h2,h3⟩:=a1.gh.ok i _ hl;refine ⟨_,kvs,by rw [r1.2],h1,fun q hq=>?_⟩;refine k (.ref q) F1 _ _ (a1.trans en.gh (yj (o:=.lst (l.map fun q=>.dat (mh q.1))) a1.gh hq ⟨_,aT,i9 h2⟩)) ⟨by simp,?_⟩
  first
   | rw [if_pos rfl]
   | (dsimp only;rw [if_pos rfl])
end
noncomputable def eR (m:Int):List Int->Int
 | []=>m
 | x::r=>eR (if m<x then x else m) r
theorem ja:∀ (m:Int) (l:List Int),eR m l∈m::l
 | m,[]=>.head _
 | m,x::r=>by
  have:=ja (if m<x then x else m) r;rw [eR];rcases qa9.mp this with h | h
  . rw [h];split
    . exact .tail _ (.head _)
    . exact .head _
  . exact .tail _ (.tail _ h)
theorem ir:∀ (m:Int) (l:List Int) (a:Int),a∈m::l->a<=eR m l
 | m,[],a,h=>by rw [qb7.mp h];exact Int.le_refl _
 | m,x::r,a,h=>by
  rw [eR];have h1:m<=(if m<x then x else m)/\x<=(if m<x then x else m):=by split<;>lia
  generalize (if m<x then x else m)=w at h1 ⊢;have h0:=ir w r w (.head _);rcases qa9.mp h with rfl | h
  . lia
  . rcases qa9.mp h with rfl | h
    . lia
    . exact ir w r a (.tail _ h)
theorem kd {m M:Int} {l:List Int} (h1:M∈m::l) (h2:∀ a∈m::l,a<=M):M=eR m l:=zd1 (ir m l M h1) (h2 _ (ja m l))
theorem fT {its:List Value} {ns:List Int} (h:zb9 its ns):∃ xs:Array (Int×Tok),its.toArray=qw2 xs/\xs.toList.map (·.1)=ns:=by
 induction h with
 | nil=>exact ⟨#[],by simp [qw2],rfl⟩
 | cons k t _ ih =>obtain ⟨xs,e1,e2⟩:=ih;refine ⟨((k,t)::xs.toList).toArray,?_,by simp [e2]⟩;have e3:=congrArg zg3 e1;simp only [qw2] at e3 ⊢;apply Array.toList_inj.mp;simp at e3 ⊢;exact e3
theorem d9 {xs:Array (Int×Tok)} {i:Nat} (hi:i<xs.size):(xs.toList.map (·.1))[i]?=some (numAt xs i):=by simp [numAt,hi]
section
variable {X:Cx}
theorem gZ (calm:X.calm=true):da X (.builtin "max") (fun xs H Q=>∃ p m ns,xs=[.ref p]/\SqL X.K H p ((m::ns).map V.int)/\Q (.int (eR m ns)) H):=by
 intro pins s σ H xs us Q I r h;obtain ⟨p,m,ns,rfl,hq,q⟩:=h;obtain ⟨u,rfl,rx⟩:=fA r;cases rx;obtain ⟨its,r',pl,hz'⟩:=I.list hq;obtain ⟨xs,e1,e2⟩:=fT (fK r');have hl:=pl.isList;rw [e1] at hl
 have hsz:xs.size=ns.length+1:=by have:=congrArg qj7 e2;simpa using this
 refine max_intList (I.ok.hd calm) hl (by lia) fun v h' tk hv hk=>?_
 obtain ⟨t,rfl⟩:=intItems_at hv;obtain ⟨h1,h2⟩:=argBest_gt (numAt xs) (xs.size-1);refine ⟨.int (eR m ns),H,I.kept hk,⟨t,?_⟩,q⟩;congr 1;refine kd ?_ fun a ha=>?_
 . rw [<- e2];exact qf9 (d9 (by lia))
 . rw [<- e2] at ha;obtain ⟨j,hj,e⟩:=qo7.mp ha;have hj2:j<xs.size:=by simpa using hj
   have:=d9 hj2;rw [gQ hj,e] at this;cases this;exact h2 j (by lia)
theorem ke (calm:X.calm=true):da X (.builtin "sum") (fun xs H Q=>∃ (p:Addr) (ns:List Int),xs=[.ref p]/\SqL X.K H p (ns.map V.int)/\Q (.int ns.sum) H):=by
 intro pins s σ H xs us Q I r h;obtain ⟨p,ns,rfl,hq,q⟩:=h;obtain ⟨u,rfl,rx⟩:=fA r;cases rx;obtain ⟨its,r',pl,hz'⟩:=I.list hq;obtain ⟨xs,e1,e2⟩:=fT (fK r');have hl:=pl.isList;rw [e1] at hl;refine sum_intListG (I.ok.hd calm) hl fun h' tk t' hk=>?_
 refine ⟨.int ns.sum,H,I.kept hk,⟨t',?_⟩,q⟩;rw [preSum_eq,qh9 (by simp),e2]
end
noncomputable def cF:List Dt->Option T
 | [.lst ds]=>match k9 ds with
  | some (m::ns)=>some (.leaf (.int (eR m ns)))
  | _=>none
 | _=>none
theorem nW {K:PySem.W.Frag}:CRD K (fun xs H Q=>∃ p m ns,xs=[.ref p]/\SqL K H p ((m::ns).map V.int)/\Q (.int (eR m ns)) H) cF:=by
 intro F H ds vs Q t fh r hg k;unfold cF at hg;split at hg<;>first | (cases hg;done) | skip
 split at hg<;>first | (cases hg;done) | skip
 rename_i m ns hs;cases hg;obtain ⟨v,rfl,rv⟩:=dj r;obtain ⟨a,vs,rfl,h1,h2⟩:=rv;have:=gm h2 hs;subst this;exact ⟨a,m,ns,rfl,h1,k.int fh⟩
noncomputable def gp:List Dt->Option T
 | [.lst ds]=>(k9 ds).map fun ns=>.leaf (.int ns.sum)
 | _=>none
theorem sP {K:PySem.W.Frag}:CRD K (fun xs H Q=>∃ (p:Addr) (ns:List Int),xs=[.ref p]/\SqL K H p (ns.map V.int)/\Q (.int ns.sum) H) gp:=by
 intro F H ds vs Q t fh r hg k;unfold gp at hg;split at hg<;>first | (cases hg;done) | skip
 obtain ⟨ns,hs,hg⟩:=mS hg;cases hg;obtain ⟨v,rfl,rv⟩:=dj r;obtain ⟨a,vs,rfl,h1,h2⟩:=rv;have:=gm h2 hs;subst this;exact ⟨a,ns,rfl,h1,k.int fh⟩
section
variable {P:qb5} {u:World} {A:qd2} {R:Result->qa4->Prop} {I:Addr} {fp wr:List Addr} {n:Nat} {Pv:Nat->Value->Prop} {St:Nat->Heap->Prop}
theorem gq:(toString "max"++toString ".loop":String)="max.loop":=by decide
theorem sQ {kw:List (Str×Value)} (W:Walks P u A.in1 I fp wr n Pv St) (bt:Nat->Nat->Bool) (cmp:CmpOf P u A.in1 .Gt Pv bt) (S:Addr) (out:S∉fp):∀ (m j:Nat) (s:qa4) (x:Value) (c:Nat),n-(j+1)=m->j+1<=n->St (j+1) s.heap->Pv (zd2 bt j) x→
  s.heap.get? S=some {cls:=.type "list",dict:=none,data:=.seq #[x,x] c,slots:=#[]}→
  (∀ v hp tk,Pv (zd2 bt (n-1)) v->(∀ b o,b∉wr->b≠S->s.heap.get? b=some o->hp.get? b=some o)->R (.ok (.ret v)) {s with heap:=hp,toks:=tk})→
  qs7 (model P u) A (.builtin "max.loop" ⟨[.ref I,.none,.ref S],kw⟩) R s:=by
 have nw:S∉wr:=fun h=>out (W.sub _ h)
 intro m;induction m with
 | zero =>
  intro j s x c hm hj st px gS q;have e:j+1=n:=by lia
  refine qi7 PySem.F.entry_max_loop ?_;rw [qg3 PySem.F.plain_max_loop _];show wpAny _ A.in1 (zf6 (.ref S) >>= _) _ _ s;refine wB (qn1 gS rfl ?_);show wpAny _ A.in1 (tryCatch (qs1 (.ref I)) _ >>= _) _ _ s;refine wB (qs0 (W.done s _ _ (e▸st) fun hp tk kept=>?_));have gS2:=kept S _ nw gS;show wpAny _ A.in1 (zh7 S (fun _=>#[]) >>= _) _ _ _;refine wB (qq7 gS2 rfl (wB (ze8 (qa2 ?_))));exact q x _ tk (by rw [<- e];exact px) fun b o h1 h2 g=>(qe7 _ _ (qk6 h2)).trans (kept b o h1 g)
 | succ m ih =>
  intro j s x c hm hj st px gS q;have lt:j+1<n:=by lia
  refine qi7 PySem.F.entry_max_loop ?_;rw [qg3 PySem.F.plain_max_loop _];show wpAny _ A.in1 (zf6 (.ref S) >>= _) _ _ s;refine wB (qn1 gS rfl ?_);show wpAny _ A.in1 (tryCatch (qs1 (.ref I)) _ >>= _) _ _ s;refine wB (qs0 (W.item (j+1) s _ _ lt st fun y hp tk py st2 kept=>?_));have gS2:=kept S _ nw gS;show wpAny _ A.in1 (tryCatch (qy9 [y,y] (richCompare .Gt y x >>= _)) _ >>= _) _ _ _;refine wB (qs0 (qg9 (wB (cmp (j+1) (zd2 bt j) y x _ _ _ py px ?_))));refine wB (qg9 (qr2 ?_));refine wB (ze8 (qa2 ?_));cases better:bt (j+1) (zd2 bt j) with
  | true =>
   simp only [if_true];refine wB (qq7 gS2 rfl (wB (ze8 ?_)));rw [gq];refine qa2 ⟨qm5 PySem.F.plain_max_loop _,ih (j+1) _ y _ (by lia) lt (W.frame _ _ _ st2 fun b h1 o g=>?_) (by simp only [zd2,better,if_true];exact py) (qd4 _ gS2 rfl) fun v hp2 tk2 pv kept2=>?_⟩
   . exact (qe7 _ _ (fun h:S=b=>out (by rw [h];exact h1))).trans g
   . exact q v hp2 tk2 pv fun b o h1 h2 g=>kept2 b o h1 h2 ((qe7 _ _ (qk6 h2)).trans (kept b o h1 g))
  | false =>simp only [qh7,if_false];refine wB (ze8 ?_);rw [gq];refine qa2 ⟨qm5 PySem.F.plain_max_loop _,ih (j+1) _ x c (by lia) lt st2 (by simp only [zd2,better,qh7,if_false];exact px) gS2 fun v hp2 tk2 pv kept2=>?_⟩;exact q v hp2 tk2 pv fun b o h1 h2 g=>kept2 b o h1 h2 (kept b o h1 g)
theorem vo {k:Str} {d:Value} (W:Walks P u A.in1 I fp wr n Pv St) (bt:Nat->Nat->Bool) (cmp:CmpOf P u A.in1 .Gt Pv bt) (S:Addr) (out:S∉fp) {s:qa4} {c:Nat} (st:St 0 s.heap)
  (gS:s.heap.get? S=some {cls:=.type "list",dict:=none,data:=.seq #[] c,slots:=#[]})
  (q:∀ v hp tk,(if n=0 then v=d else Pv (zd2 bt (n-1)) v)->(∀ b o,b∉wr->b≠S->s.heap.get? b=some o->hp.get? b=some o)->R (.ok (.ret v)) {s with heap:=hp,toks:=tk}) :
  qs7 (model P u) A (.builtin "max.loop" ⟨[.ref I,.none,.ref S],[(k,d)]⟩) R s:=by
 have nw:S∉wr:=fun h=>out (W.sub _ h)
 refine qi7 PySem.F.entry_max_loop ?_;rw [qg3 PySem.F.plain_max_loop _];show wpAny _ A.in1 (zf6 (.ref S) >>= _) _ _ s;refine wB (qn1 gS rfl ?_);show wpAny _ A.in1 (tryCatch (qs1 (.ref I)) _ >>= _) _ _ s;by_cases h0:n=0
 . refine wB (qs0 (W.done s _ _ (h0▸st) fun hp tk kept=>?_));show wpAny _ A.in1 (rule _ >>= _) _ _ _;refine wB (qr6 (qa2 ?_));exact q d hp tk (by rw [if_pos h0]) fun b o h1 _ g=>kept b o h1 g
 . refine wB (qs0 (W.item 0 s _ _ (by lia) st fun y hp tk py st2 kept=>?_));have gS2:=kept S _ nw gS;show wpAny _ A.in1 (zh7 S (fun _=>#[y,y]) >>= _) _ _ _;refine wB (qq7 gS2 rfl ?_);rw [gq];refine qa2 ⟨qm5 PySem.F.plain_max_loop _,sQ W bt cmp S out _ 0 _ y _ rfl (by lia) (W.frame _ _ _ st2 fun b h1 o g=>?_) py (qd4 _ gS2 rfl) fun v hp2 tk2 pv kept2=>?_⟩
   . exact (qe7 _ _ (fun h:S=b=>out (by rw [h];exact h1))).trans g
   . exact q v hp2 tk2 (by rw [if_neg h0];exact pv) fun b o h1 h2 g=>kept2 b o h1 h2 ((qe7 _ _ (qk6 h2)).trans (kept b o h1 g))
end
theorem sR (a v:Value):argsOk "max" ⟨[a],[(qa0 "default",v)]⟩:=by unfold argsOk;kernel_rfl
section
variable {P:qb5} {u:World} {A:qd2} {E:Value->qa4->Prop} {s:qa4} {l:Addr} {xs:Array (Int×Tok)} {d:Value}
theorem sS {Q:Value->qa4->Prop} (calm:A.handled=none) (hl:s.heap.IsList l (qw2 xs))
  (q:∀ v hp tk,(if xs.size=0 then v=d else (qw2 xs)[zd2 (fun i j=>decide (numAt xs i > numAt xs j)) (xs.size-1)]?=some v)->(∀ b o,s.heap.get? b=some o->hp.get? b=some o)->Q v {s with heap:=hp,toks:=tk}) :
  wpAny (model P u) A (call (.builtin "max") [.ref l] [(qa0 "default",d)]) Q E s:=by
 refine kmk_tree PySem.F.kind_max PySem.F.plain_max PySem.F.entry_max (sR _ _) ?_;show wpAny _ A.in1 (qv0 "max" ["key","default"] 0 ⟨[],[(qa0 "default",d)]⟩ >>= _) _ _ s;refine wB (qu5 (show qv0 "max" ["key","default"] 0 ⟨[],[(qa0 "default",d)]⟩=pure [none,some d] from rfl) ?_);refine wB (qa2 ?_);refine wB (iter_intList hl fun s2 e st hfp hlI=>?_);subst e;refine wB (qc8 ?_);rw [gq];have hsz:(qw2 xs).size=xs.size:=by simp [qw2]
 have W:=Walks.list (prog:=P) (w:=u) (A:=A.in1) calm s.heap.objs.size l hlI (qw2 xs);refine qa2 ⟨qm5 PySem.F.plain_max_loop _,vo W _ (CmpOf.ints_gt (numAt xs) (fun _ _=>intItems_at)) _ (fun hm=>qm3 _ (hfp _ hm)) (W.frame _ _ _ st fun b _ o g=>gP _ g) (qb0 _ rfl) fun v hp tk hv kept=>?_⟩;refine q v hp tk (by rw [hsz] at hv;exact hv) (old_kept fun b o hb g=>kept b o hb (qc4 (qa8 g)) (gP _ g))
end
noncomputable def cP (d:Int):List Int->Int
 | []=>d
 | m::r=>eR m r
noncomputable def wF (K:PySem.W.Frag) (d:Int):List V->Hp->VK->Prop:=fun xs H Q=>∃ (p:Addr) (ns:List Int),xs=[.ref p]/\SqL K H p (ns.map V.int)/\Q (.int (cP d ns)) H
section
variable {X:Cx} {e:Expr} {pos p kp kq:Pos} {sc:Scope} {fs:De->Option (List Dt)} {d:Int} {t:TA} {i:Nat}
theorem vp {xs:Array (Int×Tok)} {ns:List Int} {v:Value} {td:Tok} (e2:xs.toList.map (·.1)=ns) (hv:if xs.size=0 then v=.int d td else (qw2 xs)[zd2 (fun i j=>decide (numAt xs i > numAt xs j)) (xs.size-1)]?=some v):∃ t,v=.int (cP d ns) t:=by
 have hsz:xs.size=ns.length:=by have:=congrArg qj7 e2;simpa using this
 cases ns with
 | nil =>rw [if_pos (show xs.size=0 from hsz)] at hv;exact ⟨td,hv⟩
 | cons m ns =>
  rw [if_neg (by rw [hsz];simp)] at hv;rw [qc0] at hsz;obtain ⟨t,rfl⟩:=intItems_at hv;obtain ⟨h1,h2⟩:=argBest_gt (numAt xs) (xs.size-1);refine ⟨t,?_⟩;congr 1;refine kd ?_ fun a ha=>?_
  . rw [<- e2];exact qf9 (d9 (by lia))
  . rw [<- e2] at ha;obtain ⟨j,hj,e⟩:=qo7.mp ha;have hj2:j<xs.size:=by simpa using hj
    have:=d9 hj2;rw [gQ hj,e] at this;cases this;exact h2 j (by lia)
theorem vq (h:aF sc "max"=true) (calm:X.calm=true) (hm:X.mg "max"=none) (ha:PA X [e] t) (e1:bZ X sc)
  (he:qa6 [e] X.env=(false,eval e X.env)::qa6 [] X.env) (hpl:(qk1 pos (qa6 [e] X.env)).any (·.1)=false):PE X (.Call (.Name "max" p) [e] [⟨some "default",.Constant (.int d) i kq,kp⟩] pos) (tCB (wF X.K d) t):=by
 intro pins s σ H Q I hh;refine qq1 (fH I (glD h e1) hm kK ?_ (q67 h) (gE h));refine callWith_kw (thn (ha pos pins s σ H _ I hh) fun us s1 ⟨vs,H1,I1,r1,q1⟩=>kws_cons (wpAny_Constant_int (kws_nil ?_))) (by rw [he];rfl) hpl rfl rfl;obtain ⟨p,ns,rfl,hq,q⟩:=q1;obtain ⟨u,rfl,rx⟩:=fA r1;cases rx;have I2:=I1.tok (s1.toks+1);obtain ⟨its,r',pl,hz'⟩:=I2.list hq;obtain ⟨xs,e1,e2⟩:=fT (fK r');have hl:=pl.isList;rw [e1] at hl;refine sS (I2.ok.hd calm) hl fun v hp tk hv kept=>?_
 obtain ⟨t,rfl⟩:=vp e2 hv;exact ⟨.int (cP d ns),H1,I2.kept kept,⟨t,rfl⟩,q⟩
end
noncomputable def h9 (d:Int):List Dt->Option T
 | [.lst ds]=>(k9 ds).map fun ns=>.leaf (.int (cP d ns))
 | _=>none
theorem yn {K:PySem.W.Frag} {d:Int}:CRD K (wF K d) (h9 d):=by
 intro F H ds vs Q t fh r hg k;unfold h9 at hg;split at hg<;>first | (cases hg;done) | skip
 obtain ⟨ns,hs,hg⟩:=mS hg;cases hg;obtain ⟨v,rfl,rv⟩:=dj r;obtain ⟨a,vs,rfl,h1,h2⟩:=rv;have:=gm h2 hs;subst this;exact ⟨a,ns,rfl,h1,k.int fh⟩
theorem vt {X:Cx} {e:Expr} {pos p kp kq:Pos} {sc:Scope} {fs:De->Option (List Dt)} {d:Int} {i:Nat} (h:aF sc "max"=true) (calm:X.calm=true) (hm:X.mg "max"=none) (ha:DAB X [e] fs) (e1:bZ X sc:=by rfl)
  (he:qa6 [e] X.env=(false,eval e X.env)::qa6 [] X.env:=by rfl) (hpl:(qk1 pos (qa6 [e] X.env)).any (·.1)=false:=by rfl):DO X (.Call (.Name "max" p) [e] [⟨some "default",.Constant (.int d) i kq,kp⟩] pos) (aj (h9 d) fs):=
 PE.mono (vq h calm hm ha.pa e1 he hpl) fun σ H Q hh=>nu yn hh
noncomputable def gr:Dt->Dt->Option T
 | .str x,.int n=>if 0<=n/\n<=1000/\x.length<=1000 then some (.leaf (.str (fP x n))) else none
 | _,_=>none
noncomputable def wG:R2:=fun x y H Q=>∃ z n,x=.str z/\y=.int n/\(0<=n/\n<=1000/\z.length<=1000)/\Q (.str (fP z n)) H
theorem yo {z:Str} {n:Int} (h:0<=n/\n<=1000/\z.length<=1000):MulOk z n:=by
 obtain ⟨h0,h1,h2⟩:=h;refine ⟨?_,fun h _=>?_,fun h _=>?_⟩
 . have e1:decide (n < -(2^63:Int))=false:=decide_eq_false (by lia);have e2:decide (n ≥ 2^63)=false:=decide_eq_false (by lia);rw [e1,e2];rfl
 . have e:(1000:Int)<=(2^63-1)/n:=(Int.le_ediv_iff_mul_le (by lia)).mpr (by lia);lia
 . have e:z.length*n.toNat<=1000*1000:=Nat.mul_le_mul h2 (by lia);have hs:qa7=16777216:=qz0;exact decide_eq_false (by lia)
theorem pj {X:Cx}:OpR X (qk5 .Mult) wG:=by intro pins s σ H x y v u Q I rx ry h;obtain ⟨z,n,rfl,rfl,hb,q⟩:=h;obtain ⟨t,rfl⟩:=rx;obtain ⟨t',rfl⟩:=ry;exact SB.mul (yo hb) fun t2 k=>⟨.str (fP z n),H,I.tok _,⟨_,rfl⟩,q⟩
theorem sT {K:PySem.W.Frag}:R2D K wG gr:=by
 intro F H x y vx vy Q t fh rx ry hg k;unfold gr at hg;split at hg<;>first | (cases hg;done) | skip
 split at hg<;>cases hg
 rename_i h;cases rx;cases ry;exact ⟨_,_,rfl,rfl,h,k.str fh⟩
seal L2.PE L2.PS L2.PSs L2.PT L2.PW L2.PA L2.PI L2.PG L2.PTs L2.PO L2.PGs L2.da L2.OpR L2.IxR L2.SlR L2.MtR L2.UnR L2.DO L2.DL L2.DB L2.DT L2.DW L2.DS L2.DS1 L2.R2D L2.CRD L2.MRD L2.DG L2.DGs L2.DIF L2.DIB L2.DTs L2.DP L2.GE L2.GT L2.GW L2.GA L2.GS L2.GS1
theorem el1 {α:Type} {p:List α->Prop} (h:∀ a,p [a]):∀ us:List α,us.length=1->p us
 | [a],_=>h a
theorem el2 {α:Type} {p:List α->Prop} (h:∀ a b,p [a,b]):∀ us:List α,us.length=2->p us
 | [a,b],_=>h a b
theorem el3 {α:Type} {p:List α->Prop} (h:∀ a b c,p [a,b,c]):∀ us:List α,us.length=3->p us
 | [a,b,c],_=>h a b c
theorem el4 {α:Type} {p:List α->Prop} (h:∀ a b c d,p [a,b,c,d]):∀ us:List α,us.length=4->p us
 | [a,b,c,d],_=>h a b c d
theorem el5 {α:Type} {p:List α->Prop} (h:∀ a b c d e,p [a,b,c,d,e]):∀ us:List α,us.length=5->p us
 | [a,b,c,d,e],_=>h a b c d e
end L2
namespace P54
open PySem L2
noncomputable def top (i:Nat):Stmt:=PySem.Challenge.pw_dimhouse_k54_breath.main.body.getD i (.Pass ⟨0,0,0,0⟩)
noncomputable def k_ATOM_PLACES:List Key:=[.inr "copy",.inr "op",.inr "store",.inr "take",.inr "lay",.inr "say",.inr "if",.inr "end"]
noncomputable def dA:List Dt:=[(.tup [(.int 2),(.int 3)]),(.tup [(.int 3),(.int 5)]),(.tup [(.int 2),(.int 3)]),(.tup [(.int 3),(.int 4)]),(.tup [(.int 2),(.int 4)]),(.tup [(.int 1),(.int 2)]),(.tup [(.int 1),(.int 2)]),(.tup [(.int 1),(.int 2)])]
noncomputable def kf:Dt:=(.tup [(.str "copy"),(.str "op"),(.str "load"),(.str "take"),(.str "hear")])
noncomputable def y1:List Dt->Option T:=cy 2 ((aD (sIf (tB2 (jr fun i j=>decide (i<j)) (vB 1) (toD (aj bR (aa (vB 0) ai)))) (bV (d2 aw (vB 0) (vB 1))) c7) (bV (toT (kD (.int 0))))))
noncomputable def z31:List Dt->Option T:=cy 2 ((aD (sIf (tB2 (gEq false) (toD (d2 aw (vB 0) (kD (.int 0)))) (kD (.str "end"))) (bV (aZ ai)) c7)
  (aD (sIf (tB2 (gEq false) (toD (d2 aw (vB 0) (kD (.int 0)))) (kD (.str "go"))) (bV (aZ (aa (toD (d2 aw (vB 0) (kD (.int 1)))) ai))) c7)
  (aD (sIf (tB2 (gEq false) (toD (d2 aw (vB 0) (kD (.int 0)))) (kD (.str "if"))) (bV (aZ (aa (toD (d2 aw (vB 0) (kD (.int 2)))) (aa (toD (d2 aN (vB 1) (kD (.int 1)))) ai)))) c7)
  (bV (aZ (aa (toD (d2 aN (vB 1) (kD (.int 1)))) ai)))))))
noncomputable def q30:Fs:=(l8 (tD (tB2 (cW true) (vB 7) (vB 2))) (hX (eV 5) (eD (vL 7)) (eD (kD (.bl true)))) sh)
noncomputable def z17:Fs:=(fC (fIt (toD (aj z31 (aa (toD (d2 aw (toD (d2 aw (vB 0) (kD (.int 2)))) (vB 6))) (aa (vL 6) ai))))) [7] (ao 7) q30)
noncomputable def q29:Fs:=(bX (bv 4 (eD (toD (d2 aN (vB 4) (kD (.int 1))))))
  (bX (bv 5 (eN o5))
  (bX (iU (eV 3) (ggN 6) z17 100000)
  (bv 3 (eLK (eV 5))))))
noncomputable def y29:Ft:=(tD (tB2 (jr fun i j=>decide (j<i)) (toD (aj bR (aa (vB 3) ai))) (kD (.int 0))))
noncomputable def q15:Fd:=ma 8 ((bX (bv 2 (eD (toD (aU [none,none] (fIt (toD (d2 aw (vB 1) (kD (.int 1))))) (dg 2 (aW (ao 0) (aW (ao 1) de))) aR (vL 0)))))
  (bX (bv 3 (eN (d2 aN (toD (bU (aa (kD (.int 0)) ai))) (vB 2))))
  (bX (bv 4 (eD (kD (.int 0))))
  (bX (cJ y29 q29 100000)
  (iS (eD (vL 4))))))))
noncomputable def q41:De->Option Out:=(aD (q20 2 (toD (d2 b5 (vB 0) (vB 3)))) (aM 0 (toT (toD (d2 fF (vB 0) (vB 3))))))
noncomputable def q12:List Dt->Option T:=cy 4 ((aD (aM 2 (bU ai))
  (aD (dJ (fIt (vL 1)) (ao 3) q41)
  (iL 2))))
noncomputable def q36:De->Option Out:=(aD (aM 9 (toT (toD (d2 aw (kD (.str "abcdefghijklmnopqrstuvwxyz")) (toD (d2 b5 (toD (d2 aN (toD (d2 aw (vB 3) (kD (.int 2)))) (vB 8))) (kD (.int 26)))))))) (q20 7 (toD (d2 aN (toD (d2 aN (toD (d2 gr (vB 6) (vB 5))) (vB 9))) (toD (d2 gr (vB 6) (toD (d2 dN (toD (d2 dN (vB 4) (kD (.int 1)))) (vB 5)))))))))
noncomputable def q14:List Dt->Option T:=cy 10 ((aD (aM 2 (toT (toD (d2 b5 (toD (d2 eu (vB 0) (kD (.int 48271)))) (kD (.int 1000000007))))))
  (aD (aM 3 (toT (toD (aj q12 (aa (vL 2) (aa (toD (bU (aa (kD (.int 6)) (aa (kD (.int 6)) (aa (kD (.int 26)) (aa (kD (.int 5)) ai)))))) ai))))))
  (aD (aM 4 (toT (toD (d2 aN (kD (.int 1)) (toD (d2 aw (vB 3) (kD (.int 0))))))))
  (aD (aM 5 (toT (toD (d2 b5 (toD (d2 aw (vB 3) (kD (.int 1)))) (vB 4)))))
  (aD (aM 6 (toT (toD (d2 aw (kD (.str "qxzjw")) (toD (d2 aw (vB 3) (kD (.int 3))))))))
  (aD (aM 7 (bU ai))
  (aD (dJ (dh fN (aa (vL 1) ai)) (ao 8) q36)
  (iL 7)))))))))
noncomputable def y20:List Dt->Option T:=cy 3 ((aD (sIf (tB2 (jr fun i j=>decide (i<j)) (vB 0) (toD (aj bR (aa (vB 2) ai)))) (bV (d2 aw (vB 2) (vB 0))) c7)
  (aD (sIf (tB2 (gEq false) (toD (d2 b5 (vB 1) (kD (.int 3)))) (kD (.int 0))) (bV (d2 b5 (toD (d2 fF (vB 1) (kD (.int 3)))) (kD (.int 4)))) c7)
  (bV (d2 b5 (toD (d2 eu (vB 1) (kD (.int 69621)))) (toD (d2 nz (kD (.int 2)) (kD (.int 40)))))))))
noncomputable def z32:List Dt->Option T:=cy 14 ((aD (aM 5 (toT (toD (d2 b5 (toD (d2 eu (vB 0) (kD (.int 48271)))) (kD (.int 1000000007))))))
  (aD (aM 6 (toT (toD (aj q12 (aa (vL 5) (aa (toD (bU (aa (kD (.int 16)) (aa (toD (aj bR (aa (vB 4) ai))) (aa (toD (d2 aN (toD (aj bR (aa (vB 4) ai))) (kD (.int 2)))) (aa (toD (d2 aN (toD (aj bR (aa (vB 4) ai))) (kD (.int 2)))) (aa (kD (.int 9)) (aa (kD (.int 12)) (aa (vL 1) ai))))))))) ai))))))
  (aD (aM 7 (toT (toD (aj y20 (aa (toD (d2 aw (vB 6) (kD (.int 2)))) (aa (vL 0) (aa (vL 4) ai)))))))
  (aD (aM 8 (toT (toD (aj y20 (aa (toD (d2 aw (vB 6) (kD (.int 3)))) (aa (toD (d2 fF (vB 0) (kD (.int 5)))) (aa (vL 4) ai)))))))
  (aD (aM 9 (toT (toD (d2 aw (vB 4) (toD (d2 aw (vB 6) (kD (.int 1))))))))
  (aD (aM 10 (toT (toD (d2 aw (vB 2) (toD (d2 b5 (toD (d2 aw (vB 6) (kD (.int 5)))) (toD (aj bR (aa (vB 2) ai)))))))))
  (aD (aM 11 (toT (toD (d2 aw (vB 6) (kD (.int 0))))))
  (aD (sIf (jq (tB2 (cW false) (vB 11) (toD (aZ (aa (kD (.int 7)) (aa (kD (.int 8)) ai))))) (tB2 (jr fun i j=>decide (j<i)) (toD (aj bR (aa (vB 3) ai))) (kD (.int 0)))) (aD (aM 12 (toT (toD (d2 aw (vB 3) (toD (d2 b5 (toD (d2 aw (vB 6) (kD (.int 5)))) (toD (aj bR (aa (vB 3) ai)))))))))
  (bV (d2 aw (toD (bU (aa (toD (aZ (aa (kD (.str "take")) (aa (vL 9) (aa (vL 12) (aa (vL 7) ai)))))) (aa (toD (aZ (aa (kD (.str "lay")) (aa (vL 12) (aa (vL 7) (aa (vL 8) ai)))))) ai)))) (toD (d2 dN (vB 11) (kD (.int 7))))))) c7)
  (aD (sIf (tB2 (cW false) (vB 11) (toD (aZ (aa (kD (.int 3)) (aa (kD (.int 4)) (aa (kD (.int 7)) ai)))))) (bV (aZ (aa (kD (.str "load")) (aa (vL 9) (aa (vL 10) ai))))) c7)
  (aD (sIf (tB2 (cW false) (vB 11) (toD (aZ (aa (kD (.int 5)) (aa (kD (.int 6)) (aa (kD (.int 8)) ai)))))) (bV (aZ (aa (kD (.str "store")) (aa (vL 10) (aa (vL 7) ai))))) c7)
  (aD (sIf (jq (tB2 (jr fun i j=>decide (j<i)) (vB 11) (kD (.int 8))) (tB2 (jr fun i j=>decide (i<j)) (vB 11) (kD (.int 15)))) (aD (aM 13 (toT (toD (bU (aa (toD (aZ (aa (kD (.str "hear")) (aa (vL 9) ai)))) (aa (toD (aZ (aa (kD (.str "say")) (aa (vL 7) ai)))) (aa (toD (aZ (aa (kD (.str "if")) (aa (vL 7) (aa (toD (d2 aw (vB 6) (kD (.int 6)))) ai))))) (aa (toD (aZ (aa (kD (.str "if")) (aa (vL 7) (aa (toD (d2 aw (vB 6) (kD (.int 6)))) ai))))) (aa (toD (aZ (aa (kD (.str "go")) (aa (toD (d2 aw (vB 6) (kD (.int 6)))) ai)))) ai)))))))))
  (bV (d2 aw (toD (d2 aN (vB 13) (toD (bU (aa (toD (aZ (aa (kD (.str "end")) (aa (vL 7) ai)))) ai))))) (toD (d2 dN (vB 11) (kD (.int 9))))))) c7)
  (aD (sIf (tB2 (gEq false) (vB 11) (kD (.int 0))) (bV (aZ (aa (kD (.str "copy")) (aa (vL 9) (aa (vL 7) ai))))) c7)
  (bV (aZ (aa (kD (.str "op")) (aa (vL 9) (aa (toD (d2 aw (kD (.str "+-*<=&|^+")) (toD (d2 aw (vB 6) (kD (.int 4)))))) (aa (vL 7) (aa (vL 8) ai))))))))))))))))))))
noncomputable def q26:De->Option Out:=(q20 9 (toD (aZ (aa (toD (d2 aw (vB 5) (vB 10))) (aa (toD (d2 b5 (toD (d2 eu (toD (d2 aN (vB 8) (vB 10))) (kD (.int 982451653)))) (toD (d2 nz (kD (.int 2)) (kD (.int 40)))))) (aa (toD (d2 (gEq false) (toD (d2 aw (vB 4) (toD (d2 aN (kD (.int 3)) (toD (d2 b5 (vB 10) (kD (.int 6)))))))) (kD (.int 1)))) ai))))))
noncomputable def y26:De->Option Out:=(q20 11 (toD (aZ (aa (toD (d2 aw (vB 5) (toD (d2 aN (kD (.int 8)) (vB 10))))) (aa (toD (d2 aN (kD (.int 1)) (toD (d2 aw (vB 4) (toD (d2 aN (kD (.int 9)) (toD (d2 b5 (vB 10) (kD (.int 2)))))))))) (aa (toD (d2 (gEq false) (toD (d2 aw (vB 4) (toD (d2 dN (kD (.int 7)) (vB 10))))) (kD (.int 1)))) ai))))))
noncomputable def y37:De->Option Dt:=(toD (d2 aw (vB 0) (kD (.int 0))))
noncomputable def q39:De->Option Dt:=(toD (d2 aw (vB 0) (kD (.int 0))))
noncomputable def y25:De->Option Out:=(q20 12 (toD (aj z32 (aa (vL 14) (aa (toD (d2 aN (toD (aj bR (aa (vB 13) ai))) (kD (.int 1)))) (aa (toD (aU [none] (fIt (vB 9)) (ao 0) aR q39)) (aa (toD (aU [none] (fIt (vB 11)) (ao 0) aR y37)) (aa (vL 7) ai))))))))
noncomputable def z23:List Dt->Option T:=cy 15 ((aD (aM 3 (toT (toD (d2 b5 (toD (d2 eu (toD (aj y1 (aa (vL 0) (aa (kD (.int 0)) ai)))) (kD (.int 69621)))) (kD (.int 1000000007))))))
  (aD (aM 4 (toT (toD (aj q12 (aa (vL 3) (aa (toD (bU (aa (kD (.int 4)) (aa (kD (.int 3)) (aa (kD (.int 4)) (aa (kD (.int 2)) (aa (kD (.int 2)) (aa (kD (.int 2)) (aa (kD (.int 2)) (aa (kD (.int 2)) (aa (kD (.int 2)) (aa (kD (.int 8)) (aa (kD (.int 8)) (aa (kD (.int 4)) ai)))))))))))))) ai))))))
  (aD (aM 5 (toT (toD (aj q14 (aa (toD (aj y1 (aa (vL 0) (aa (kD (.int 1)) ai)))) (aa (kD (.int 12)) ai))))))
  (aD (aM 6 (toT (toD (bU (aa (toD (d2 aN (kD (.int 1)) (toD (d2 aw (vB 4) (kD (.int 0)))))) (aa (toD (d2 aw (vB 4) (kD (.int 1)))) (aa (toD (d2 aN (kD (.int 2)) (toD (d2 aw (vB 4) (kD (.int 2)))))) ai)))))))
  (aD (sIf (jq (gH (vB 2)) (tB2 (gEq false) (toD (d2 aw (vB 4) (kD (.int 11)))) (kD (.int 1)))) (aM 6 (toT (toD (bU (aa (kD (.int 8)) (aa (kD (.int 4)) (aa (kD (.int 12)) ai))))))) c7)
  (aD (aM 7 (toT (toD (aj q14 (aa (toD (aj y1 (aa (vL 0) (aa (kD (.int 2)) ai)))) (aa (toD (d2 aw (vB 6) (kD (.int 2)))) ai))))))
  (aD (aM 8 (toT (toD (aj y1 (aa (vL 0) (aa (kD (.int 3)) ai))))))
  (aD (aM 9 (bU ai))
  (aD (dJ (dh fN (aa (toD (d2 aw (vB 6) (kD (.int 0)))) ai)) (ao 10) q26)
  (aD (aM 11 (bU ai))
  (aD (dJ (dh fN (aa (toD (d2 aw (vB 6) (kD (.int 1)))) ai)) (ao 10) y26)
  (aD (aM 12 (bU ai))
  (aD (aM 13 (toT (toD (vSl (vB 0) (cZ (kD (.int 4))) (cZ (toD (d2 aN (kD (.int 4)) (vB 1))))))))
  (aD (dJ (fIt (vL 13)) (ao 14) y25)
  (aD (q20 12 (toD (aZ (aa (kD (.str "end")) (aa (toD (aj y20 (aa (toD (d2 b5 (vB 3) (toD (d2 aN (toD (aj bR (aa (vB 7) ai))) (kD (.int 1)))))) (aa (vL 8) (aa (vL 7) ai))))) ai)))))
  (bV (aZ (aa (toD (aj b6 (aa (vB 9) ai))) (aa (toD (aj b6 (aa (vB 11) ai))) (aa (toD (aj b6 (aa (vB 12) ai))) ai)))))))))))))))))))))
noncomputable def y56:List Dt->Option T:=cy 2 ((aD (sIf (tB2 (gEq false) (toD (d2 aw (vB 1) (kD (.int 0)))) (kD (.str "go"))) (bV (aZ (aa (toD (d2 aw (vB 1) (kD (.int 1)))) ai))) c7)
  (aD (sIf (tB2 (gEq false) (toD (d2 aw (vB 1) (kD (.int 0)))) (kD (.str "if"))) (bV (aZ (aa (toD (d2 aw (vB 1) (kD (.int 2)))) (aa (toD (d2 aN (vB 0) (kD (.int 1)))) ai)))) c7)
  (aD (sIf (tB2 (gEq false) (toD (d2 aw (vB 1) (kD (.int 0)))) (kD (.str "end"))) (bV (aZ ai)) c7)
  (bV (aZ (aa (toD (d2 aN (vB 0) (kD (.int 1)))) ai)))))))
noncomputable def q83:De->Option Dt:=(toD (aj y56 (aa (vL 0) (aa (vL 1) ai))))
noncomputable def cY:List Dt->Option T:=cy 1 ((bV (aU [none,none] (dh hW (aa (toD (d2 aw (vB 0) (kD (.int 2)))) ai)) (dg 2 (aW (ao 0) (aW (ao 1) de))) aR q83)))
noncomputable def y67:List Dt->Option T:=cy 1 ((bV (vIf (tB2 (cW false) (toD (d2 aw (vB 0) (kD (.int 0)))) (kD kf)) (d2 aw (vB 0) (kD (.int 1))) (toT (kD .non)))))
noncomputable def z67:List Dt->Option T:=cy 2 ((aD (sIf (fSi true k_ATOM_PLACES dA (toD (d2 aw (vB 0) (kD (.int 0))))) (bV (aZ ai)) c7)
  (aD (aM 1 (toT (toD (vSg k_ATOM_PLACES dA (toD (d2 aw (vB 0) (kD (.int 0))))))))
  (bV (vSl (vB 0) (cZ (toD (d2 aw (vB 1) (kD (.int 0))))) (cZ (toD (d2 aw (vB 1) (kD (.int 1))))))))))
noncomputable def z56:De->Option Out:=(sIf (jq (gH (toD (lZ "str" (vB 2)))) (tB2 (cW true) (vB 2) (vB 1))) (q20 1 (vL 2)) c7)
noncomputable def y59:List Dt->Option T:=cy 3 ((aD (aM 1 (bU ai))
  (aD (dJ (fIt (toD (aj z67 (aa (vL 0) ai)))) (ao 2) z56)
  (iL 1))))
noncomputable def y38:De->Option Bool:=(tB2 (gEq true) (vB 0) (toD (aj y67 (aa (vL 1) ai))))
noncomputable def z38:De->Option Out:=(q46 2 (aU [none,some 0] (fIt (vB 3)) (ao 0) y38 (vL 0)))
noncomputable def z20:List Dt->Option T:=cy 4 ((aD (aM 2 (aj y59 (aa (vL 0) ai)))
  (aD (dJ (fIt (vL 1)) (ao 3) z38)
  (bV (aj cV (aa (vB 2) ai))))))
noncomputable def z29:Fg:=(eN (bU ai))
noncomputable def y50:De->Option Dt:=(toD (d2 aw (vB 1) (vB 0)))
noncomputable def q50:Fs:=(bX (bv 6 (eDV 2 (aj z20 (aa (toD (d2 aw (vB 1) (vB 5))) (aa (toD (aU [none,some 3] (fIt (toD (d2 aw (vB 2) (vB 5)))) (ao 0) aR y50)) ai)))))
  (l8 (tDV 2 (tB2 (gEq true) (vB 6) (toD (d2 aw (vB 3) (vB 5))))) (bX (hX (eV 3) (eD (vL 5)) (eV 6))
  (bv 4 (eD (kD (.bl true))))) sh))
noncomputable def y51:Fs:=(bX (bv 4 (eD (kD (.bl false)))) (fC (dh mm (aa (toD (d2 dN (toD (aj bR (aa (vB 1) ai))) (kD (.int 1)))) (aa (toD (ql (kD (.int 1)))) (aa (toD (ql (kD (.int 1)))) ai)))) [5] (ao 5) q50))
noncomputable def z73:Ft:=(tD (gH (vB 4)))
noncomputable def z39:Fd:=ma 7 ((bX (bv 1 (eD (toD (d2 aw (vB 0) (kD (.int 2))))))
  (bX (bv 2 (eD (toD (aj cY (aa (vL 0) ai)))))
  (bX (bv 3 (mf [none] (fIt (vL 1)) [0] (ao 0) aR z29))
  (bX (bv 4 (eD (kD (.bl true))))
  (bX (cJ z73 y51 100000)
  (iS (eV 3))))))))
noncomputable def q57:De->Option Bool:=(uT (gH (toD (d2 aw (vB 0) (kD (.int 2))))))
noncomputable def z57:De->Option Dt:=(toD (d2 aw (vB 0) (kD (.int 0))))
noncomputable def y27:List Dt->Option T:=cy 1 ((bV (aU [none] (fIt (toD (d2 cD (toD (d2 aw (vB 0) (kD (.int 0)))) (toD (d2 aw (vB 0) (kD (.int 1))))))) (ao 0) q57 z57)))
noncomputable def z19:De->Option Out:=(sIf (fOr (tB2 (gEq false) (toD (d2 aw (vB 4) (kD (.int 0)))) (kD (.str "end"))) (jq (tB2 (cW false) (toD (d2 aw (vB 4) (kD (.int 0)))) (toD (aZ (aa (kD (.str "store")) (aa (kD (.str "lay")) ai))))) (tB2 (cW false) (toD (d2 aw (vB 4) (kD (.int 1)))) (vB 1)))) (q20 2 (vL 3)) c7)
noncomputable def q24:List Dt->Option T:=cy 5 ((aD (aM 1 (toT (toD (aj y27 (aa (vL 0) ai)))))
  (aD (aM 2 (bU ai))
  (aD (dJ (dh hW (aa (toD (d2 aw (vB 0) (kD (.int 2)))) ai)) (dg 2 (aW (ao 3) (aW (ao 4) de))) z19)
  (iL 2)))))
noncomputable def z22:De->Option Bool:=(tB2 (jr fun i j=>decide (i<=j)) (vB 0) (vB 1))
noncomputable def z15:De->Option Out:=(q46 1 (aU [none,some 2] (fIt (vB 3)) (ao 0) z22 (vL 0)))
noncomputable def y17:List Dt->Option T:=cy 4 ((aD (aM 1 (bU ai))
  (aD (dJ (dh hW (aa (toD (aj cY (aa (vL 0) ai))) ai)) (dg 2 (aW (ao 2) (aW (ao 3) de))) z15)
  (iL 1))))
noncomputable def y36:De->Option Dt:=(toD (aZ (aa (vL 0) (aa (toD (aj b6 (aa (toD (d2 aw (vB 1) (vB 0))) ai))) ai))))
noncomputable def z18:List Dt->Option T:=cy 3 ((aD (aM 1 (toT (toD (aj (fS z39) (aa (vL 0) ai)))))
  (aD (aM 2 (toT (toD (aj dU (aa (toD (d2 aN (toD (aj q24 (aa (vL 0) ai))) (toD (aj y17 (aa (vL 0) ai))))) ai)))))
  (bV (aZ (aa (toD (aj b6 (aa (toD (d2 aw (vB 1) (kD (.int 0)))) ai))) (aa (toD (aj b6 (aa (toD (aU [none,some 1] (fIt (vB 2)) (ao 0) aR y36)) ai))) ai)))))))
noncomputable def z62:De->Option Dt:=(toD (d2 aw (vB 0) (kD (.int 0))))
noncomputable def y22:List Dt->Option T:=cy 1 ((bV (aU [none] (fIt (toD (d2 aw (vB 0) (kD (.int 1))))) (ao 0) aR z62)))
noncomputable def q60:De->Option Bool:=(tB2 (cW true) (vB 0) (vB 1))
noncomputable def z45:De->Option Dt:=(toD (aU [none,some 1] (fIt (vB 0)) (ao 0) q60 (vL 0)))
noncomputable def q27:List Dt->Option T:=cy 3 ((aD (aM 2 (toT (toD (aj y22 (aa (vL 1) ai))))) (bV (aU [none,some 2] (fIt (toD (aj cY (aa (vL 0) ai)))) (ao 0) aR z45))))
noncomputable def z21:De->Option Dt:=(kD (.int 1))
noncomputable def y21:De->Option Dt:=(toD (d2 aw (vB 1) (vB 0)))
noncomputable def q31:Fs:=(hX (eV 3) (eD (vL 5)) (eD (toD (d2 aN (kD (.int 1)) (toD (aj (h9 0) (aa (toD (aU [none,some 3] (fIt (toD (d2 aw (vB 2) (vB 5)))) (ao 0) aR y21)) ai)))))))
noncomputable def q22:Fs:=(fC (dh mm (aa (toD (d2 dN (toD (aj bR (aa (vB 2) ai))) (kD (.int 1)))) (aa (toD (ql (kD (.int 1)))) (aa (toD (ql (kD (.int 1)))) ai)))) [5] (ao 5) q31)
noncomputable def q19:De->Option Dt:=(toD (d2 aw (vB 1) (vB 0)))
noncomputable def z16:Fd:=ma 6 ((bX (bv 2 (eD (toD (aj q27 (aa (vL 0) (aa (vL 1) ai))))))
  (bX (bv 3 (eN (aU [none] (fIt (vB 2)) (ao 0) aR z21)))
  (bX (fC (dh fN (aa (toD (aj bR (aa (vB 2) ai))) ai)) [4] (ao 4) q22)
  (iS (eD (toD (aj cF (aa (toD (aU [none,some 3] (fIt (toD (d2 aN (toD (bU (aa (kD (.int 0)) ai))) (toD (aj y22 (aa (vL 1) ai)))))) (ao 0) aR q19)) ai)))))))))
noncomputable def z37:De->Option Bool:=(gH (toD (d2 aw (vB 0) (kD (.int 2)))))
noncomputable def q32:De->Option Bool:=(gH (toD (d2 aw (vB 0) (kD (.int 2)))))
noncomputable def y32:De->Option Dt:=(toD (d2 aw (vB 0) (kD (.int 1))))
noncomputable def q23:List Dt->Option T:=cy 1 ((bV (d2 aN (toD (aj bR (aa (toD (aU [none] (fIt (toD (d2 aw (vB 0) (kD (.int 0))))) (ao 0) z37 (vL 0))) ai))) (toD (aj gp (aa (toD (aU [none] (fIt (toD (d2 aw (vB 0) (kD (.int 1))))) (ao 0) q32 y32)) ai))))))
noncomputable def q52:De->Option Dt:=(toD (aj bR (aa (toD (d2 aw (vB 0) (kD (.int 1)))) ai)))
noncomputable def y35:List Dt->Option T:=cy 3 ((aD (aM 2 (toT (toD (aj cF (aa (toD (d2 aN (toD (bU (aa (toD (aj bR (aa (toD (d2 aw (vB 1) (kD (.int 0)))) ai))) ai))) (toD (aU [none] (fIt (toD (d2 aw (vB 1) (kD (.int 1))))) (ao 0) aR q52)))) ai))))) (bV (d2 aN (toD (d2 aN (toD (d2 aN (toD (d2 eu (kD (.int 2)) (toD (aj q23 (aa (vL 0) ai))))) (vB 2))) (toD (aj (fS z16) (aa (vL 0) (aa (vL 1) ai)))))) (kD (.int 3))))))
noncomputable def y60:De->Option Dt:=(toD (aZ (aa (kD (.str "copy")) (aa (kD (.str "q")) (aa (vL 0) ai)))))
noncomputable def z53:De->Option Bool:=(gH (toD (d2 aw (vB 0) (kD (.int 2)))))
noncomputable def q45:De->Option Bool:=(gH (toD (d2 aw (vB 0) (kD (.int 2)))))
noncomputable def y45:De->Option Dt:=(toD (d2 aw (vB 0) (kD (.int 1))))
noncomputable def y66:De->Option Dt:=(toD (aj bR (aa (toD (d2 aw (vB 0) (kD (.int 1)))) ai)))
noncomputable def q53:De->Option Out:=(aD (aM 12 (toT (toD (aj cF (aa (toD (d2 aN (toD (bU (aa (toD (aj bR (aa (vB 4) ai))) ai))) (toD (aU [none] (fIt (toD (d2 aw (vB 3) (kD (.int 1))))) (ao 0) aR y66)))) ai)))))
  (aD (aM 13 (toT (toD (aj y35 (aa (vL 1) (aa (vL 3) ai))))))
  (aD (sIf (fOr (uT (gH (toD (lZ "int" (vB 13))))) (gH (toD (lZ "bool" (vB 13))))) (bV (toT (kD (.bl false)))) c7)
  (sIf (tB2 (gEq true) (vB 13) (toD (d2 aN (toD (d2 aN (toD (d2 aN (toD (d2 eu (kD (.int 2)) (vB 11))) (vB 12))) (toD (aj (fS q15) (aa (vL 1) (aa (vL 3) ai)))))) (kD (.int 3))))) (bV (toT (kD (.bl false)))) c7))))
noncomputable def pk:List Dt->Option T:=cy 14 ((aD (aM 1 (toT (toD (aj z23 (aa (vL 0) (aa (kD (.int 24)) (aa (kD (.bl true)) ai)))))))
  (aD (aM 2 (toT (toD (d2 b5 (toD (d2 eu (toD (aj y1 (aa (vL 0) (aa (kD (.int 3)) ai)))) (kD (.int 48271)))) (kD (.int 1000000007))))))
  (aD (sIf (tB2 (gEq false) (toD (d2 b5 (vB 2) (kD (.int 4)))) (kD (.int 1))) (aD (aM 3 (toT (toD (aU [none] (dh fN (aa (toD (d2 b5 (toD (d2 fF (vB 2) (kD (.int 4)))) (kD (.int 50)))) ai)) (ao 0) aR y60))))
  (aM 1 (toT (toD (aZ (aa (toD (d2 aw (vB 1) (kD (.int 0)))) (aa (toD (d2 aw (vB 1) (kD (.int 1)))) (aa (toD (d2 cD (toD (d2 cD (toD (aZ (aa (toD (aZ (aa (kD (.str "hear")) (aa (kD (.str "q")) ai)))) ai))) (toD (aj b6 (aa (vB 3) ai))))) (toD (aZ (aa (toD (aZ (aa (kD (.str "end")) (aa (kD (.str "q")) ai)))) ai))))) ai)))))))) c7)
  (aD (lR (toD (aj z18 (aa (vL 1) ai))) (dg 2 (aW (ao 4) (aW (ao 5) de))))
  (aD (aM 2 (toT (toD (d2 b5 (toD (d2 eu (toD (aj y1 (aa (vL 0) (aa (kD (.int 2)) ai)))) (kD (.int 48271)))) (kD (.int 1000000007))))))
  (aD (aM 6 (toT (toD (aj q14 (aa (toD (aj y1 (aa (vL 0) (aa (kD (.int 1)) ai)))) (aa (toD (d2 b5 (toD (d2 fF (vB 2) (kD (.int 26)))) (kD (.int 9)))) ai))))))
  (aD (aM 7 (toT (toD (d2 b5 (vB 2) (toD (aj bR (aa (vB 5) ai)))))))
  (aD (lR (toD (d2 aw (vB 5) (vB 7))) (dg 2 (aW (ao 8) (aW (ao 9) de))))
  (aD (aM 10 (toT (toD (aZ (aa (vL 4) (aa (toD (d2 cD (toD (d2 cD (toD (jw (vB 5) gd (cZ (vB 7)))) (toD (aZ (aa (toD (aZ (aa (vL 8) (aa (toD (aj b6 (aa (toD (aj cV (aa (toD (d2 aN (toD (aj iQ (aa (vB 9) ai))) (vB 6))) ai))) ai))) ai)))) ai))))) (toD (jw (vB 5) (cZ (toD (d2 aN (vB 7) (kD (.int 1))))) gd)))) ai))))))
  (aD (aM 11 (toT (toD (d2 aN (toD (aj bR (aa (toD (aU [none] (fIt (toD (d2 aw (vB 1) (kD (.int 0))))) (ao 0) z53 (vL 0))) ai))) (toD (aj gp (aa (toD (aU [none] (fIt (toD (d2 aw (vB 1) (kD (.int 1))))) (ao 0) q45 y45)) ai)))))))
  (aD (dJ (fIt (toD (bU (aa (vL 10) (aa (toD (aZ (aa (vL 4) (aa (vL 5) ai)))) ai))))) (ao 3) q53)
  (bV (toT (kD (.bl true))))))))))))))))
structure Txt (P:qb5) (w:World) (K:PySem.W.Frag) (mg:Str->Option Value):Prop where
 n_bool:mg "bool"=none
 n_enumerate:mg "enumerate"=none
 n_int:mg "int"=none
 n_isinstance:mg "isinstance"=none
 n_len:mg "len"=none
 n_list:mg "list"=none
 n_max:mg "max"=none
 n_range:mg "range"=none
 n_set:mg "set"=none
 n_sorted:mg "sorted"=none
 n_str:mg "str"=none
 n_sum:mg "sum"=none
 n_tuple:mg "tuple"=none
 g_ATOM_PLACES:u3 P w K mg "ATOM_PLACES" k_ATOM_PLACES dA
 g_SETTING:rV K mg "SETTING" kf
 k_str:fO K "str"
 k_bool:fO K "bool"
 k_int:fO K "int"
section
variable {P:qb5} {w:World} {K:PySem.W.Frag} {mg:Str->Option Value} {base:Heap}
abbrev y23:Stmt:=top 23
theorem y73:FnScope ["_law_script","_law_k"] ["_law_script","_law_k"] (ac y23):=⟨rfl,rfl,rfl,by decide +kernel,rfl,by decide +kernel,by decide +kernel⟩
theorem cj:cB (ac y23) ["_law_script","_law_k"]=true:=by decide +kernel
theorem q65:aF (ac y23) "len"=true:=by decide +kernel
theorem z74 (T:Txt P w K mg) (D:DefF K mg "_law_cell_at" y23 ["_law_script","_law_k"]):OkF P w K mg base "_law_cell_at" 1 ["_law_script","_law_k"] (spD K 2 y1):=
 ce D y73 rfl fun f cdv A outer s H E hr=>(ap (cb (bK rc iN (af (pvN 1 cj)) (DO.toB (aQ q65 aX cg T.n_len bJ (az (af (pvN 0 cj)) aH))) (bx _)) (aG (aV (aq hr (af (pvN 0 cj)) (af (pvN 1 cj))))) bL)
     (aG (aV (DL.toO ag))))
abbrev z35:Stmt:=top 29
theorem y77:FnScope ["_law_row_here","_law_at"] ["_law_row_here","_law_at"] (ac z35):=⟨rfl,rfl,rfl,by decide +kernel,rfl,by decide +kernel,by decide +kernel⟩
theorem bM:cB (ac z35) ["_law_row_here","_law_at"]=true:=by decide +kernel
theorem q80 (T:Txt P w K mg) (D:DefF K mg "_law_leads" z35 ["_law_row_here","_law_at"]):OkF P w K mg base "_law_leads" 1 ["_law_row_here","_law_at"] (spD K 2 z31):=
 ce D y77 rfl fun f cdv A outer s H E hr=>(ap (cb (bK (cH hr) gJ (DO.toB (aq hr (af (pvN 0 bM)) (DL.toB ag))) (DL.toB bf) (bx _)) (aG (aV (aO am))) bL)
     (ap (cb (bK (cH hr) gJ (DO.toB (aq hr (af (pvN 0 bM)) (DL.toB ag))) (DL.toB bf) (bx _)) (aG (aV (aO (ab (DO.toL (aq hr (af (pvN 0 bM)) (DL.toB ag))) am)))) bL)
     (ap (cb (bK (cH hr) gJ (DO.toB (aq hr (af (pvN 0 bM)) (DL.toB ag))) (DL.toB bf) (bx _)) (aG (aV (aO (ab (DO.toL (aq hr (af (pvN 0 bM)) (DL.toB ag))) (ab (DO.toL (au aJ bh (af (pvN 1 bM)) (DL.toB ag))) am))))) bL)
     (aG (aV (aO (ab (DO.toL (au aJ bh (af (pvN 1 bM)) (DL.toB ag))) am)))))))
abbrev z11:Stmt:=top 30
theorem y11:FnScope ["_law_program_here","_law_code","_law_stops","_law_here","_law_many","_law_there","_law_at","_law_to"] ["_law_program_here","_law_code"] (ac z11):=⟨rfl,rfl,rfl,by decide +kernel,rfl,by decide +kernel,by decide +kernel⟩
theorem ak:cB (ac z11) ["_law_program_here","_law_code","_law_stops","_law_here","_law_many","_law_there","_law_at","_law_to"]=true:=by decide +kernel
theorem q59:aF (ac z11) "len"=true:=by decide +kernel
theorem q44:aF (ac z11) "_law_leads"=true:=by decide +kernel
theorem z58:aF (ac z11) "list"=true:=by decide +kernel
theorem z69 (T:Txt P w K mg) (D:DefF K mg "_law_most_rows" z11 ["_law_program_here","_law_code"]) (y53:OkF P w K mg base "_law_leads" 1 ["_law_row_here","_law_at"] (spD K 2 (z31))):OkF P w K mg base "_law_most_rows" 2 ["_law_program_here","_law_code"] (spG K 2 (q15)):=
 kZ D y11 rfl fun f cdv A outer s H E hr=>(bB (sk (nsN ak 2) (nsL ak 2) y11.nd (M:=["_law_row_here","_law_boxes"]) (src:=[none,none]) (ts:=[0,1]) (CmpScope.of (by kernel_rfl)) rfl (bp (DO.toB (aq hr (af (pvN 1 ak)) (DL.toB ag)))) (fun nd _ _ _ _=>(gI rfl (bW (aE (aS (N:=["_law_row_here","_law_boxes"]) (i:=0) (by decide +kernel) (by decide +kernel) nd (scC (outer:=ac z11) (by exact rfl)))) (bW (aE (aS (N:=["_law_row_here","_law_boxes"]) (i:=1) (by decide +kernel) (by decide +kernel) nd (scC (outer:=ac z11) (by exact rfl)))) e8)))) (fun _ _ _ _=>bQ) (fun _ _ _ _=>(av (pvX (by kernel_rfl)))) (by decide +kernel))
     (bB (cA (nsN ak 3) (nsL ak 3) y11.nd (kX (au aJ bh (DO.toB (bD (ab ag am))) (af (pvN 2 ak)))))
     (bB (cA (nsN ak 4) (nsL ak 4) y11.nd (ck ag))
     (bB (me 100000 qd8 (nI (bK rf iN (DO.toB (aQ q59 aX cg T.n_len bJ (az (af (pvN 3 ak)) aH))) (DL.toB ag) (bx _))) (bB (cA (nsN ak 4) (nsL ak 4) y11.nd (ck (DO.toL (au aJ bh (af (pvN 4 ak)) (DL.toB ag)))))
     (bB (cA (nsN ak 5) (nsL ak 5) y11.nd (kX u1))
     (bB (vh 100000 qd8 rfl (fQ (pvN 3 ak)) (vg (aY (nsN ak 6) (nsL ak 6) y11.nd)) (cX (kY qd8 rfl (fM (DO.toL (aA q44 y53 (hr.mono (by decide)) (ab (DO.toL (aq hr (DO.toB (aq hr (af (pvN 0 ak)) (DL.toB ag))) (af (pvN 6 ak)))) (ab (av (pvN 6 ak)) am))))) (aE (aY (nsN ak 7) (nsL ak 7) y11.nd)) (cX (wC (nI (iR hr (af (pvN 7 ak)) (af (pvN 2 ak)))) (cX (nK hr (fQ (pvN 5 ak)) (ck (av (pvN 7 ak))) (ck hU))) si)))))
     (cX (cA (nsN ak 3) (nsL ak 3) y11.nd (sO z58 rfl T.n_list oO (fQ (pvN 5 ak)))))))))
     (cX (nJ (ck (av (pvN 4 ak)))))))))
abbrev z33:Stmt:=top 24
theorem z36:FnScope ["_law_number","_law_sizes","_law_digits_here","_law_size"] ["_law_number","_law_sizes"] (ac z33):=⟨rfl,rfl,rfl,by decide +kernel,rfl,by decide +kernel,by decide +kernel⟩
theorem aP:cB (ac z33) ["_law_number","_law_sizes","_law_digits_here","_law_size"]=true:=by decide +kernel
theorem y75 (T:Txt P w K mg) (D:DefF K mg "_law_digits" z33 ["_law_number","_law_sizes"]):OkF P w K mg base "_law_digits" 1 ["_law_number","_law_sizes"] (spD K 2 q12):=
 ce D z36 rfl fun f cdv A outer s H E hr=>(ap (aI (nsN aP 2) (nsL aP 2) z36.nd (bD am))
     (ap (dy qd8 rfl (fM (av (pvN 1 aP))) (aE (aY (nsN aP 3) (nsL aP 3) z36.nd)) (ap (cr (pvN 2 aP) (DO.toL (au bI cf (af (pvN 0 aP)) (af (pvN 3 aP)))))
     (aG (aI (nsN aP 0) (nsL aP 0) z36.nd (DL.toO (DO.toL (au eM iV (af (pvN 0 aP)) (af (pvN 3 aP)))))))))
     (aG (f9 (pvN 2 aP)))))
abbrev z26:Stmt:=top 25
theorem q17:FnScope ["_law_cell","_law_many","_law_number","_law_digits_here","_law_size","_law_at","_law_fill","_law_found","_law_k","_law_letter"] ["_law_cell","_law_many"] (ac z26):=⟨rfl,rfl,rfl,by decide +kernel,rfl,by decide +kernel,by decide +kernel⟩
theorem ar:cB (ac z26) ["_law_cell","_law_many","_law_number","_law_digits_here","_law_size","_law_at","_law_fill","_law_found","_law_k","_law_letter"]=true:=by decide +kernel
theorem z50:aF (ac z26) "_law_digits"=true:=by decide +kernel
theorem z64:aF (ac z26) "range"=true:=by decide +kernel
theorem q78 (T:Txt P w K mg) (D:DefF K mg "_law_names" z26 ["_law_cell","_law_many"]) (y16:OkF P w K mg base "_law_digits" 1 ["_law_number","_law_sizes"] (spD K 2 (q12))):OkF P w K mg base "_law_names" 2 ["_law_cell","_law_many"] (spD K 2 q14):=
 ce D q17 rfl fun f cdv A outer s H E hr=>(ap (aI (nsN ar 2) (nsL ar 2) q17.nd (DL.toO (DO.toL (au bI cf (DO.toB (au d4 gb (af (pvN 0 ar)) (DL.toB ag))) (DL.toB ag)))))
     (ap (aI (nsN ar 3) (nsL ar 3) q17.nd (DL.toO (DO.toL (aA z50 y16 (hr.mono (by decide)) (ab (av (pvN 2 ar)) (ab (DO.toL (bD (ab ag (ab ag (ab ag (ab ag am)))))) am))))))
     (ap (aI (nsN ar 4) (nsL ar 4) q17.nd (DL.toO (DO.toL (au aJ bh (DL.toB ag) (DO.toB (aq hr (af (pvN 3 ar)) (DL.toB ag)))))))
     (ap (aI (nsN ar 5) (nsL ar 5) q17.nd (DL.toO (DO.toL (au bI cf (DO.toB (aq hr (af (pvN 3 ar)) (DL.toB ag))) (af (pvN 4 ar))))))
     (ap (aI (nsN ar 6) (nsL ar 6) q17.nd (DL.toO (DO.toL (aq hr (DL.toB bf) (DO.toB (aq hr (af (pvN 3 ar)) (DL.toB ag)))))))
     (ap (aI (nsN ar 7) (nsL ar 7) q17.nd (bD am))
     (ap (dy qd8 rfl (dM z64 T.n_range (ab (av (pvN 1 ar)) am)) (aE (aY (nsN ar 8) (nsL ar 8) q17.nd)) (ap (aI (nsN ar 9) (nsL ar 9) q17.nd (DL.toO (DO.toL (aq hr (DL.toB bf) (DO.toB (au bI cf (DO.toB (au aJ bh (DO.toB (aq hr (af (pvN 3 ar)) (DL.toB ag))) (af (pvN 8 ar)))) (DL.toB ag)))))))
     (aG (cr (pvN 7 ar) (DO.toL (au aJ bh (DO.toB (au aJ bh (DO.toB (au pj sT (af (pvN 6 ar)) (af (pvN 5 ar)))) (af (pvN 9 ar)))) (DO.toB (au pj sT (af (pvN 6 ar)) (DO.toB (au fJ iM (DO.toB (au fJ iM (af (pvN 4 ar)) (DL.toB ag))) (af (pvN 5 ar))))))))))))
     (aG (f9 (pvN 7 ar))))))))))
abbrev y33:Stmt:=top 26
theorem q82:FnScope ["_law_digit","_law_cell","_law_boxes"] ["_law_digit","_law_cell","_law_boxes"] (ac y33):=⟨rfl,rfl,rfl,by decide +kernel,rfl,by decide +kernel,by decide +kernel⟩
theorem bT:cB (ac y33) ["_law_digit","_law_cell","_law_boxes"]=true:=by decide +kernel
theorem q70:aF (ac y33) "len"=true:=by decide +kernel
theorem z83 (T:Txt P w K mg) (D:DefF K mg "_law_atom" y33 ["_law_digit","_law_cell","_law_boxes"]):OkF P w K mg base "_law_atom" 1 ["_law_digit","_law_cell","_law_boxes"] (spD K 3 y20):=
 ce D q82 rfl fun f cdv A outer s H E hr=>(ap (cb (bK rc iN (af (pvN 0 bT)) (DO.toB (aQ q70 aX cg T.n_len bJ (az (af (pvN 2 bT)) aH))) (bx _)) (aG (aV (aq hr (af (pvN 2 bT)) (af (pvN 0 bT))))) bL)
     (ap (cb (bK (cH hr) gJ (DO.toB (au bI cf (af (pvN 1 bT)) (DL.toB ag))) (DL.toB ag) (bx _)) (aG (aV (au bI cf (DO.toB (au eM iV (af (pvN 1 bT)) (DL.toB ag))) (DL.toB ag)))) bL)
     (aG (aV (au bI cf (DO.toB (au d4 gb (af (pvN 1 bT)) (DL.toB ag))) (DO.toB (au ra ww (DL.toB ag) (DL.toB ag))))))))
abbrev z30:Stmt:=top 27
theorem q18:FnScope ["_law_cell","_law_many","_law_cells","_law_shelves","_law_boxes","_law_number","_law_digits_here","_law_one","_law_other","_law_x","_law_c","_law_kind","_law_f","_law_some"] ["_law_cell","_law_many","_law_cells","_law_shelves","_law_boxes"] (ac z30):=⟨rfl,rfl,rfl,by decide +kernel,rfl,by decide +kernel,by decide +kernel⟩
theorem ah:cB (ac z30) ["_law_cell","_law_many","_law_cells","_law_shelves","_law_boxes","_law_number","_law_digits_here","_law_one","_law_other","_law_x","_law_c","_law_kind","_law_f","_law_some"]=true:=by decide +kernel
theorem q21:aF (ac z30) "len"=true:=by decide +kernel
theorem z55:aF (ac z30) "_law_digits"=true:=by decide +kernel
theorem y39:aF (ac z30) "_law_atom"=true:=by decide +kernel
theorem q84 (T:Txt P w K mg) (D:DefF K mg "_law_row" z30 ["_law_cell","_law_many","_law_cells","_law_shelves","_law_boxes"]) (y30:OkF P w K mg base "_law_atom" 1 ["_law_digit","_law_cell","_law_boxes"] (spD K 3 (y20))) (y16:OkF P w K mg base "_law_digits" 1 ["_law_number","_law_sizes"] (spD K 2 (q12))):OkF P w K mg base "_law_row" 2 ["_law_cell","_law_many","_law_cells","_law_shelves","_law_boxes"] (spD K 5 z32):=
 ce D q18 rfl fun f cdv A outer s H E hr=>(ap (aI (nsN ah 5) (nsL ah 5) q18.nd (DL.toO (DO.toL (au bI cf (DO.toB (au d4 gb (af (pvN 0 ah)) (DL.toB ag))) (DL.toB ag)))))
     (ap (aI (nsN ah 6) (nsL ah 6) q18.nd (DL.toO (DO.toL (aA z55 y16 (hr.mono (by decide)) (ab (av (pvN 5 ah)) (ab (DO.toL (bD (ab ag (ab (DO.toL (aQ q21 aX cg T.n_len bJ (az (af (pvN 4 ah)) aH))) (ab (DO.toL (au aJ bh (DO.toB (aQ q21 aX cg T.n_len bJ (az (af (pvN 4 ah)) aH))) (DL.toB ag))) (ab (DO.toL (au aJ bh (DO.toB (aQ q21 aX cg T.n_len bJ (az (af (pvN 4 ah)) aH))) (DL.toB ag))) (ab ag (ab ag (ab (av (pvN 1 ah)) am))))))))) am))))))
     (ap (aI (nsN ah 7) (nsL ah 7) q18.nd (DL.toO (DO.toL (aA y39 y30 (hr.mono (by decide)) (ab (DO.toL (aq hr (af (pvN 6 ah)) (DL.toB ag))) (ab (av (pvN 0 ah)) (ab (av (pvN 4 ah)) am)))))))
     (ap (aI (nsN ah 8) (nsL ah 8) q18.nd (DL.toO (DO.toL (aA y39 y30 (hr.mono (by decide)) (ab (DO.toL (aq hr (af (pvN 6 ah)) (DL.toB ag))) (ab (DO.toL (au eM iV (af (pvN 0 ah)) (DL.toB ag))) (ab (av (pvN 4 ah)) am)))))))
     (ap (aI (nsN ah 9) (nsL ah 9) q18.nd (DL.toO (DO.toL (aq hr (af (pvN 4 ah)) (DO.toB (aq hr (af (pvN 6 ah)) (DL.toB ag)))))))
     (ap (aI (nsN ah 10) (nsL ah 10) q18.nd (DL.toO (DO.toL (aq hr (af (pvN 2 ah)) (DO.toB (au bI cf (DO.toB (aq hr (af (pvN 6 ah)) (DL.toB ag))) (DO.toB (aQ q21 aX cg T.n_len bJ (az (af (pvN 2 ah)) aH)))))))))
     (ap (aI (nsN ah 11) (nsL ah 11) q18.nd (DL.toO (DO.toL (aq hr (af (pvN 6 ah)) (DL.toB ag)))))
     (ap (cb (DW.t (iK (jT hr (af (pvN 11 ah)) (DO.toB (aO (ab ag (ab ag am))))) (f7 (bK rf iN (DO.toB (aQ q21 aX cg T.n_len bJ (az (af (pvN 3 ah)) aH))) (DL.toB ag) (bx _))))) (ap (aI (nsN ah 12) (nsL ah 12) q18.nd (DL.toO (DO.toL (aq hr (af (pvN 3 ah)) (DO.toB (au bI cf (DO.toB (aq hr (af (pvN 6 ah)) (DL.toB ag))) (DO.toB (aQ q21 aX cg T.n_len bJ (az (af (pvN 3 ah)) aH)))))))))
     (aG (aV (aq hr (DO.toB (bD (ab (DO.toL (aO (ab bf (ab (av (pvN 9 ah)) (ab (av (pvN 12 ah)) (ab (av (pvN 7 ah)) am)))))) (ab (DO.toL (aO (ab bf (ab (av (pvN 12 ah)) (ab (av (pvN 7 ah)) (ab (av (pvN 8 ah)) am)))))) am)))) (DO.toB (au fJ iM (af (pvN 11 ah)) (DL.toB ag))))))) bL)
     (ap (cb (jT hr (af (pvN 11 ah)) (DO.toB (aO (ab ag (ab ag (ab ag am)))))) (aG (aV (aO (ab bf (ab (av (pvN 9 ah)) (ab (av (pvN 10 ah)) am)))))) bL)
     (ap (cb (jT hr (af (pvN 11 ah)) (DO.toB (aO (ab ag (ab ag (ab ag am)))))) (aG (aV (aO (ab bf (ab (av (pvN 10 ah)) (ab (av (pvN 7 ah)) am)))))) bL)
     (ap (cb (DW.t (iK (bK rf iN (af (pvN 11 ah)) (DL.toB ag) (bx _)) (f7 (bK rc iN (af (pvN 11 ah)) (DL.toB ag) (bx _))))) (ap (aI (nsN ah 13) (nsL ah 13) q18.nd (DL.toO (DO.toL (bD (ab (DO.toL (aO (ab bf (ab (av (pvN 9 ah)) am)))) (ab (DO.toL (aO (ab bf (ab (av (pvN 7 ah)) am)))) (ab (DO.toL (aO (ab bf (ab (av (pvN 7 ah)) (ab (DO.toL (aq hr (af (pvN 6 ah)) (DL.toB ag))) am))))) (ab (DO.toL (aO (ab bf (ab (av (pvN 7 ah)) (ab (DO.toL (aq hr (af (pvN 6 ah)) (DL.toB ag))) am))))) (ab (DO.toL (aO (ab bf (ab (DO.toL (aq hr (af (pvN 6 ah)) (DL.toB ag))) am)))) am)))))))))
     (aG (aV (aq hr (DO.toB (au aJ bh (af (pvN 13 ah)) (DO.toB (bD (ab (DO.toL (aO (ab bf (ab (av (pvN 7 ah)) am)))) am))))) (DO.toB (au fJ iM (af (pvN 11 ah)) (DL.toB ag))))))) bL)
     (ap (cb (bK (cH hr) gJ (af (pvN 11 ah)) (DL.toB ag) (bx _)) (aG (aV (aO (ab bf (ab (av (pvN 9 ah)) (ab (av (pvN 7 ah)) am)))))) bL)
     (aG (aV (aO (ab bf (ab (av (pvN 9 ah)) (ab (DO.toL (aq hr (DL.toB bf) (DO.toB (aq hr (af (pvN 6 ah)) (DL.toB ag))))) (ab (av (pvN 7 ah)) (ab (av (pvN 8 ah)) am))))))))))))))))))))
abbrev z4:Stmt:=top 28
theorem z3:FnScope ["_law_script","_law_most","_law_wide","_law_head","_law_digits_here","_law_names_here","_law_sizes","_law_boxes","_law_start","_law_cells","_law_k","_law_shelves","_law_rows","_law_some","_law_cell"] ["_law_script","_law_most","_law_wide"] (ac z4):=⟨rfl,rfl,rfl,by decide +kernel,rfl,by decide +kernel,by decide +kernel⟩
theorem ae:cB (ac z4) ["_law_script","_law_most","_law_wide","_law_head","_law_digits_here","_law_names_here","_law_sizes","_law_boxes","_law_start","_law_cells","_law_k","_law_shelves","_law_rows","_law_some","_law_cell"]=true:=by decide +kernel
theorem y15:aF (ac z4) "_law_cell_at"=true:=by decide +kernel
theorem y47:aF (ac z4) "_law_digits"=true:=by decide +kernel
theorem q33:aF (ac z4) "_law_names"=true:=by decide +kernel
theorem q40:aF (ac z4) "range"=true:=by decide +kernel
theorem z43:aF (ac z4) "len"=true:=by decide +kernel
theorem y54:aF (ac z4) "_law_row"=true:=by decide +kernel
theorem q51:aF (ac z4) "_law_atom"=true:=by decide +kernel
theorem y31:aF (ac z4) "tuple"=true:=by decide +kernel
theorem y72 (T:Txt P w K mg) (D:DefF K mg "_law_program" z4 ["_law_script","_law_most","_law_wide"]) (y30:OkF P w K mg base "_law_atom" 1 ["_law_digit","_law_cell","_law_boxes"] (spD K 3 (y20))) (z12:OkF P w K mg base "_law_cell_at" 1 ["_law_script","_law_k"] (spD K 2 (y1))) (y16:OkF P w K mg base "_law_digits" 1 ["_law_number","_law_sizes"] (spD K 2 (q12))) (q25:OkF P w K mg base "_law_names" 2 ["_law_cell","_law_many"] (spD K 2 (q14))) (q62:OkF P w K mg base "_law_row" 2 ["_law_cell","_law_many","_law_cells","_law_shelves","_law_boxes"] (spD K 5 (z32))):OkF P w K mg base "_law_program" 3 ["_law_script","_law_most","_law_wide"] (spD K 3 z23):=
 ce D z3 rfl fun f cdv A outer s H E hr=>(ap (aI (nsN ae 3) (nsL ae 3) z3.nd (DL.toO (DO.toL (au bI cf (DO.toB (au d4 gb (DO.toB (aA y15 z12 (hr.mono (by decide)) (ab (av (pvN 0 ae)) (ab ag am)))) (DL.toB ag))) (DL.toB ag)))))
     (ap (aI (nsN ae 4) (nsL ae 4) z3.nd (DL.toO (DO.toL (aA y47 y16 (hr.mono (by decide)) (ab (av (pvN 3 ae)) (ab (DO.toL (bD (ab ag (ab ag (ab ag (ab ag (ab ag (ab ag (ab ag (ab ag (ab ag (ab ag (ab ag (ab ag am)))))))))))))) am))))))
     (ap (aI (nsN ae 5) (nsL ae 5) z3.nd (DL.toO (DO.toL (aA q33 q25 (hr.mono (by decide)) (ab (DO.toL (aA y15 z12 (hr.mono (by decide)) (ab (av (pvN 0 ae)) (ab ag am)))) (ab ag am))))))
     (ap (aI (nsN ae 6) (nsL ae 6) z3.nd (DL.toO (DO.toL (bD (ab (DO.toL (au aJ bh (DL.toB ag) (DO.toB (aq hr (af (pvN 4 ae)) (DL.toB ag))))) (ab (DO.toL (aq hr (af (pvN 4 ae)) (DL.toB ag))) (ab (DO.toL (au aJ bh (DL.toB ag) (DO.toB (aq hr (af (pvN 4 ae)) (DL.toB ag))))) am)))))))
     (ap (cb (DW.t (iK (ca (af (pvN 2 ae)) (fun _=>rfl)) (f7 (bK (cH hr) gJ (DO.toB (aq hr (af (pvN 4 ae)) (DL.toB ag))) (DL.toB ag) (bx _))))) (aG (aI (nsN ae 6) (nsL ae 6) z3.nd (DL.toO (DO.toL (bD (ab ag (ab ag (ab ag am)))))))) bL)
     (ap (aI (nsN ae 7) (nsL ae 7) z3.nd (DL.toO (DO.toL (aA q33 q25 (hr.mono (by decide)) (ab (DO.toL (aA y15 z12 (hr.mono (by decide)) (ab (av (pvN 0 ae)) (ab ag am)))) (ab (DO.toL (aq hr (af (pvN 6 ae)) (DL.toB ag))) am))))))
     (ap (aI (nsN ae 8) (nsL ae 8) z3.nd (DL.toO (DO.toL (aA y15 z12 (hr.mono (by decide)) (ab (av (pvN 0 ae)) (ab ag am))))))
     (ap (aI (nsN ae 9) (nsL ae 9) z3.nd (bD am))
     (ap (dy qd8 rfl (dM q40 T.n_range (ab (DO.toL (aq hr (af (pvN 6 ae)) (DL.toB ag))) am)) (aE (aY (nsN ae 10) (nsL ae 10) z3.nd)) (aG (cr (pvN 9 ae) (DO.toL (aO (ab (DO.toL (aq hr (af (pvN 5 ae)) (af (pvN 10 ae)))) (ab (DO.toL (au bI cf (DO.toB (au d4 gb (DO.toB (au aJ bh (af (pvN 8 ae)) (af (pvN 10 ae)))) (DL.toB ag))) (DO.toB (au ra ww (DL.toB ag) (DL.toB ag))))) (ab (DO.toL (rM (cH hr) gJ (DO.toB (aq hr (af (pvN 4 ae)) (DO.toB (au aJ bh (DL.toB ag) (DO.toB (au bI cf (af (pvN 10 ae)) (DL.toB ag))))))) (DL.toB ag) (bx _))) am))))))))
     (ap (aI (nsN ae 11) (nsL ae 11) z3.nd (bD am))
     (ap (dy qd8 rfl (dM q40 T.n_range (ab (DO.toL (aq hr (af (pvN 6 ae)) (DL.toB ag))) am)) (aE (aY (nsN ae 10) (nsL ae 10) z3.nd)) (aG (cr (pvN 11 ae) (DO.toL (aO (ab (DO.toL (aq hr (af (pvN 5 ae)) (DO.toB (au aJ bh (DL.toB ag) (af (pvN 10 ae)))))) (ab (DO.toL (au aJ bh (DL.toB ag) (DO.toB (aq hr (af (pvN 4 ae)) (DO.toB (au aJ bh (DL.toB ag) (DO.toB (au bI cf (af (pvN 10 ae)) (DL.toB ag))))))))) (ab (DO.toL (rM (cH hr) gJ (DO.toB (aq hr (af (pvN 4 ae)) (DO.toB (au fJ iM (DL.toB ag) (af (pvN 10 ae)))))) (DL.toB ag) (bx _))) am))))))))
     (ap (aI (nsN ae 12) (nsL ae 12) z3.nd (bD am))
     (ap (aI (nsN ae 13) (nsL ae 13) z3.nd (DL.toO (DO.toL (lX (af (pvN 0 ae)) (e9 (DL.toB ag)) (e9 (DO.toB (au aJ bh (DL.toB ag) (af (pvN 1 ae)))))))))
     (ap (dy qd8 rfl (fM (av (pvN 13 ae))) (aE (aY (nsN ae 14) (nsL ae 14) z3.nd)) (aG (cr (pvN 12 ae) (DO.toL (aA y54 q62 (hr.mono (by decide)) (ab (av (pvN 14 ae)) (ab (DO.toL (au aJ bh (DO.toB (aQ z43 aX cg T.n_len bJ (az (af (pvN 13 ae)) aH))) (DL.toB ag))) (ab (DO.toL (bq (M:=["_law_one"]) (src:=[none]) (ts:=[0]) (CmpScope.of (by kernel_rfl)) rfl (bp (af (pvN 9 ae))) (fun nd _ _ _ _=>(aE (aS (N:=["_law_one"]) (i:=0) (by decide +kernel) (by decide +kernel) nd (scC (outer:=ac z4) (by exact rfl))))) (fun _ _ _ _=>bQ) (fun _ _ _ _=>(DO.toL (aq hr (af (pvX (by kernel_rfl))) (DL.toB ag)))) (by decide +kernel))) (ab (DO.toL (bq (M:=["_law_one"]) (src:=[none]) (ts:=[0]) (CmpScope.of (by kernel_rfl)) rfl (bp (af (pvN 11 ae))) (fun nd _ _ _ _=>(aE (aS (N:=["_law_one"]) (i:=0) (by decide +kernel) (by decide +kernel) nd (scC (outer:=ac z4) (by exact rfl))))) (fun _ _ _ _=>bQ) (fun _ _ _ _=>(DO.toL (aq hr (af (pvX (by kernel_rfl))) (DL.toB ag)))) (by decide +kernel))) (ab (av (pvN 7 ae)) am))))))))))
     (ap (cr (pvN 12 ae) (DO.toL (aO (ab bf (ab (DO.toL (aA q51 y30 (hr.mono (by decide)) (ab (DO.toL (au bI cf (af (pvN 3 ae)) (DO.toB (au aJ bh (DO.toB (aQ z43 aX cg T.n_len bJ (az (af (pvN 7 ae)) aH))) (DL.toB ag))))) (ab (av (pvN 8 ae)) (ab (av (pvN 7 ae)) am))))) am)))))
     (aG (aV (aO (ab (DO.toL (cx y31 bu dq T.n_tuple cT (az (af (pvN 9 ae)) aH))) (ab (DO.toL (cx y31 bu dq T.n_tuple cT (az (af (pvN 11 ae)) aH))) (ab (DO.toL (cx y31 bu dq T.n_tuple cT (az (af (pvN 12 ae)) aH))) am)))))))))))))))))))))
abbrev q48:Stmt:=top 1
theorem z85:FnScope ["number","row"] ["number","row"] (ac q48):=⟨rfl,rfl,rfl,by decide +kernel,rfl,by decide +kernel,by decide +kernel⟩
theorem cp:cB (ac q48) ["number","row"]=true:=by decide +kernel
theorem z86 (T:Txt P w K mg) (D:DefF K mg "ways_of" q48 ["number","row"]):OkF P w K mg base "ways_of" 1 ["number","row"] (spD K 2 y56):=
 ce D z85 rfl fun f cdv A outer s H E hr=>(ap (cb (bK (cH hr) gJ (DO.toB (aq hr (af (pvN 1 cp)) (DL.toB ag))) (DL.toB bf) (bx _)) (aG (aV (aO (ab (DO.toL (aq hr (af (pvN 1 cp)) (DL.toB ag))) am)))) bL)
     (ap (cb (bK (cH hr) gJ (DO.toB (aq hr (af (pvN 1 cp)) (DL.toB ag))) (DL.toB bf) (bx _)) (aG (aV (aO (ab (DO.toL (aq hr (af (pvN 1 cp)) (DL.toB ag))) (ab (DO.toL (au aJ bh (af (pvN 0 cp)) (DL.toB ag))) am))))) bL)
     (ap (cb (bK (cH hr) gJ (DO.toB (aq hr (af (pvN 1 cp)) (DL.toB ag))) (DL.toB bf) (bx _)) (aG (aV (aO am))) bL)
     (aG (aV (aO (ab (DO.toL (au aJ bh (af (pvN 0 cp)) (DL.toB ag))) am)))))))
abbrev ee:Stmt:=top 2
theorem y89:FnScope ["program"] ["program"] (ac ee):=⟨rfl,rfl,rfl,by decide +kernel,rfl,by decide +kernel,by decide +kernel⟩
theorem vv:cB (ac ee) ["program"]=true:=by decide +kernel
theorem q69:aF (ac ee) "enumerate"=true:=by decide +kernel
theorem z89 (T:Txt P w K mg) (D:DefF K mg "ways" ee ["program"]) (z66:OkF P w K mg base "ways_of" 1 ["number","row"] (spD K 2 (y56))):OkF P w K mg base "ways" 2 ["program"] (spD K 1 cY):=ce D y89 rfl fun f cdv A outer s H E hr=>(aG (aV (bq (M:=["number","row"]) (src:=[none,none]) (ts:=[0,1]) (CmpScope.of (by kernel_rfl)) rfl (DIF.toB (d7 q69 T.n_enumerate (ab (DO.toL (aq hr (af (pvN 0 vv)) (DL.toB ag))) am))) (fun nd _ _ _ _=>(gI rfl (bW (aE (aS (N:=["number","row"]) (i:=0) (by decide +kernel) (by decide +kernel) nd (scC (outer:=ac ee) (by exact rfl)))) (bW (aE (aS (N:=["number","row"]) (i:=1) (by decide +kernel) (by decide +kernel) nd (scC (outer:=ac ee) (by exact rfl)))) e8)))) (fun _ _ _ _=>bQ) (fun _ _ _ _=>(DO.toL (aA (by decide +kernel) z66 (hr.mono (by decide)) (ab (av (pvX (by kernel_rfl))) (ab (av (pvX (by kernel_rfl))) am)) (e1:=(scC (outer:=ac ee) rfl))))) (by decide +kernel))))
abbrev z52:Stmt:=top 8
theorem z88:FnScope ["row"] ["row"] (ac z52):=⟨rfl,rfl,rfl,by decide +kernel,rfl,by decide +kernel,by decide +kernel⟩
theorem mB:cB (ac z52) ["row"]=true:=by decide +kernel
theorem z70:aF (ac z52) "SETTING"=true:=by decide +kernel
theorem q88 (T:Txt P w K mg) (D:DefF K mg "gives" z52 ["row"]):OkF P w K mg base "gives" 1 ["row"] (spD K 1 y67):=ce D z88 rfl fun f cdv A outer s H E hr=>(aG (aV (zY (jT hr (DO.toB (aq hr (af (pvN 0 mB)) (DL.toB ag))) (DL.toB (u0 z70 T.g_SETTING))) (aq hr (af (pvN 0 mB)) (DL.toB ag)) (DL.toO xY))))
abbrev y52:Stmt:=top 6
theorem z82:FnScope ["row","bounds"] ["row"] (ac y52):=⟨rfl,rfl,rfl,by decide +kernel,rfl,by decide +kernel,by decide +kernel⟩
theorem dk:cB (ac y52) ["row","bounds"]=true:=by decide +kernel
theorem y42:aF (ac y52) "ATOM_PLACES"=true:=by decide +kernel
theorem y87 (T:Txt P w K mg) (D:DefF K mg "atoms" y52 ["row"]):OkF P w K mg base "atoms" 1 ["row"] (spD K 1 z67):=
 ce D z82 rfl fun f cdv A outer s H E hr=>(ap (cb (yh y42 T.g_ATOM_PLACES (DO.toB (aq hr (af (pvN 0 dk)) (DL.toB ag)))) (aG (aV (aO am))) bL)
     (ap (aI (nsN dk 1) (nsL dk 1) z82.nd (DL.toO (DO.toL (Ad y42 T.g_ATOM_PLACES (DO.toB (aq hr (af (pvN 0 dk)) (DL.toB ag)))))))
     (aG (aV (lX (af (pvN 0 dk)) (e9 (DO.toB (aq hr (af (pvN 1 dk)) (DL.toB ag)))) (e9 (DO.toB (aq hr (af (pvN 1 dk)) (DL.toB ag)))))))))
abbrev z40:Stmt:=top 7
theorem z71:FnScope ["row","boxes","atom"] ["row"] (ac z40):=⟨rfl,rfl,rfl,by decide +kernel,rfl,by decide +kernel,by decide +kernel⟩
theorem b8:cB (ac z40) ["row","boxes","atom"]=true:=by decide +kernel
theorem z76:aF (ac z40) "atoms"=true:=by decide +kernel
theorem q64:aF (ac z40) "isinstance"=true:=by decide +kernel
theorem y81:aF (ac z40) "str"=true:=by decide +kernel
theorem z87 (T:Txt P w K mg) (D:DefF K mg "reads" z40 ["row"]) (q75:OkF P w K mg base "atoms" 1 ["row"] (spD K 1 (z67))):OkF P w K mg base "reads" 2 ["row"] (spD K 1 y59):=
 ce D z71 rfl fun f cdv A outer s H E hr=>(ap (aI (nsN b8 1) (nsL b8 1) z71.nd (bD am))
     (ap (dy qd8 rfl (fM (DO.toL (aA z76 q75 (hr.mono (by decide)) (ab (av (pvN 0 b8)) am)))) (aE (aY (nsN b8 2) (nsL b8 2) z71.nd)) (aG (cb (DW.t (iK (ca (DO.toB (gK q64 y81 T.n_isinstance T.n_str xT T.k_str (af (pvN 2 b8)))) (fun _=>rfl)) (f7 (iR hr (af (pvN 2 b8)) (af (pvN 1 b8)))))) (aG (cr (pvN 1 b8) (av (pvN 2 b8)))) bL)))
     (aG (f9 (pvN 1 b8)))))
abbrev z14:Stmt:=top 9
theorem y41:FnScope ["row","behind","boxes","later"] ["row","behind"] (ac z14):=⟨rfl,rfl,rfl,by decide +kernel,rfl,by decide +kernel,by decide +kernel⟩
theorem bc:cB (ac z14) ["row","behind","boxes","later"]=true:=by decide +kernel
theorem z60:aF (ac z14) "reads"=true:=by decide +kernel
theorem y58:aF (ac z14) "sorted"=true:=by decide +kernel
theorem q63:aF (ac z14) "set"=true:=by decide +kernel
theorem q74 (T:Txt P w K mg) (D:DefF K mg "needed_ahead" z14 ["row","behind"]) (z75:OkF P w K mg base "gives" 1 ["row"] (spD K 1 (y67))) (q76:OkF P w K mg base "reads" 2 ["row"] (spD K 1 (y59))):OkF P w K mg base "needed_ahead" 3 ["row","behind"] (spD K 2 z20):=
 ce D y41 rfl fun f cdv A outer s H E hr=>(ap (aI (nsN bc 2) (nsL bc 2) y41.nd (aA z60 q76 (hr.mono (by decide)) (ab (av (pvN 0 bc)) am)))
     (ap (dy qd8 rfl (fM (av (pvN 1 bc))) (aE (aY (nsN bc 3) (nsL bc 3) y41.nd)) (aG (j9 (pvN 2 bc) (bq (M:=["box","row"]) (src:=[none,some 0]) (ts:=[0]) (CmpScope.of (by kernel_rfl)) rfl (bp (af (pvN 3 bc))) (fun nd _ _ _ _=>(aE (aS (N:=["box","row"]) (i:=0) (by decide +kernel) (by decide +kernel) nd (scC (outer:=ac z14) (by exact rfl))))) (fun _ _ _ _=>dn (bK (nA hr) ya (af (pvX (by kernel_rfl))) (DO.toB (aA (by decide +kernel) z75 (hr.mono (by decide)) (ab (av (pvX (by kernel_rfl))) am) (e1:=(scC (outer:=ac z14) rfl)))) (bx _))) (fun _ _ _ _=>(av (pvX (by kernel_rfl)))) (by decide +kernel)))))
     (aG (aV (i7 y58 q63 rfl T.n_sorted T.n_set (az (af (pvN 2 bc)) aH))))))
abbrev y24:Stmt:=top 10
theorem z28:FnScope ["program","rows","onward","found","changed","number","boxes"] ["program"] (ac y24):=⟨rfl,rfl,rfl,by decide +kernel,rfl,by decide +kernel,by decide +kernel⟩
theorem aC:cB (ac y24) ["program","rows","onward","found","changed","number","boxes"]=true:=by decide +kernel
theorem y76:aF (ac y24) "ways"=true:=by decide +kernel
theorem y78:aF (ac y24) "len"=true:=by decide +kernel
theorem y71:aF (ac y24) "range"=true:=by decide +kernel
theorem y57:aF (ac y24) "needed_ahead"=true:=by decide +kernel
theorem y86 (T:Txt P w K mg) (D:DefF K mg "needed" y24 ["program"]) (h_ways:OkF P w K mg base "ways" 2 ["program"] (spD K 1 (cY))) (z44:OkF P w K mg base "needed_ahead" 3 ["row","behind"] (spD K 2 (z20))):OkF P w K mg base "needed" 4 ["program"] (spG K 1 (z39)):=
 kZ D z28 rfl fun f cdv A outer s H E hr=>(bB (cA (nsN aC 1) (nsL aC 1) z28.nd (ck (DO.toL (aq hr (af (pvN 0 aC)) (DL.toB ag)))))
     (bB (cA (nsN aC 2) (nsL aC 2) z28.nd (ck (DO.toL (aA y76 h_ways (hr.mono (by decide)) (ab (av (pvN 0 aC)) am)))))
     (bB (cA (nsN aC 3) (nsL aC 3) z28.nd (vd (M:=["row"]) (src:=[none]) (ts:=[0]) (CmpScope.of (by kernel_rfl)) rfl (fM (av (pvN 1 aC))) (fun nd _ _ _ _=>(aE (aS (N:=["row"]) (i:=0) (by decide +kernel) (by decide +kernel) nd (scC (outer:=ac y24) (by exact rfl))))) (fun _ _ _ _=>bQ) (fun _ _ _ _=>(kX (bD am))) (by decide +kernel)))
     (bB (cA (nsN aC 4) (nsL aC 4) z28.nd (ck hU))
     (bB (me 100000 qd8 (nI (ca (af (pvN 4 aC)) (fun _=>rfl))) (bB (cA (nsN aC 4) (nsL aC 4) z28.nd (ck hU))
     (cX (kY qd8 rfl (j2 y71 T.n_range (ab (DO.toL (au fJ iM (DO.toB (aQ y78 aX cg T.n_len bJ (az (af (pvN 1 aC)) aH))) (DL.toB ag))) (ab (DO.toL (kT (DL.toB ag))) (ab (DO.toL (kT (DL.toB ag))) am)))) (aE (aY (nsN aC 5) (nsL aC 5) z28.nd)) (bB (cA (nsN aC 6) (nsL aC 6) z28.nd (Ai 2 (aA y57 z44 (hr.mono (by decide)) (ab (DO.toL (aq hr (af (pvN 1 aC)) (af (pvN 5 aC)))) (ab (DO.toL (bq (M:=["way","found"]) (src:=[none,some 3]) (ts:=[0]) (CmpScope.of (by kernel_rfl)) rfl (bp (DO.toB (aq hr (af (pvN 2 aC)) (af (pvN 5 aC))))) (fun nd _ _ _ _=>(aE (aS (N:=["way","found"]) (i:=0) (by decide +kernel) (by decide +kernel) nd (scC (outer:=ac y24) (by exact rfl))))) (fun _ _ _ _=>bQ) (fun _ _ _ _=>(DO.toL (aq hr (af (pvX (by kernel_rfl))) (af (pvX (by kernel_rfl)))))) (by decide +kernel))) am)))))
     (cX (wC (Aj 2 (bK (nA hr) ya (af (pvN 6 aC)) (DO.toB (aq hr (af (pvN 3 aC)) (af (pvN 5 aC)))) (bx _))) (bB (nK hr (fQ (pvN 3 aC)) (ck (av (pvN 5 aC))) (fQ (pvN 6 aC)))
     (cX (cA (nsN aC 4) (nsL aC 4) z28.nd (ck hU)))) si)))))))
     (cX (nJ (fQ (pvN 3 aC)))))))))
abbrev q28:Stmt:=top 12
theorem y74:FnScope ["program"] ["program"] (ac q28):=⟨rfl,rfl,rfl,by decide +kernel,rfl,by decide +kernel,by decide +kernel⟩
theorem eS:cB (ac q28) ["program"]=true:=by decide +kernel
theorem q77 (T:Txt P w K mg) (D:DefF K mg "plain_names" q28 ["program"]):OkF P w K mg base "plain_names" 1 ["program"] (spD K 1 y27):=ce D y74 rfl fun f cdv A outer s H E hr=>(aG (aV (bq (M:=["head"]) (src:=[none]) (ts:=[0]) (CmpScope.of (by kernel_rfl)) rfl (bp (DO.toB (au gn i8 (DO.toB (aq hr (af (pvN 0 eS)) (DL.toB ag))) (DO.toB (aq hr (af (pvN 0 eS)) (DL.toB ag)))))) (fun nd _ _ _ _=>(aE (aS (N:=["head"]) (i:=0) (by decide +kernel) (by decide +kernel) nd (scC (outer:=ac q28) (by exact rfl))))) (fun _ _ _ _=>dn (rN (ca (DO.toB (aq hr (af (pvX (by kernel_rfl))) (DL.toB ag))) (fun _=>rfl)))) (fun _ _ _ _=>(DO.toL (aq hr (af (pvX (by kernel_rfl))) (DL.toB ag)))) (by decide +kernel))))
abbrev y19:Stmt:=top 17
theorem y28:FnScope ["program","names","found","number","row"] ["program"] (ac y19):=⟨rfl,rfl,rfl,by decide +kernel,rfl,by decide +kernel,by decide +kernel⟩
theorem aB:cB (ac y19) ["program","names","found","number","row"]=true:=by decide +kernel
theorem z47:aF (ac y19) "plain_names"=true:=by decide +kernel
theorem z51:aF (ac y19) "enumerate"=true:=by decide +kernel
theorem q73 (T:Txt P w K mg) (D:DefF K mg "rows_by_kind" y19 ["program"]) (y48:OkF P w K mg base "plain_names" 1 ["program"] (spD K 1 (y27))):OkF P w K mg base "rows_by_kind" 2 ["program"] (spD K 1 q24):=
 ce D y28 rfl fun f cdv A outer s H E hr=>(ap (aI (nsN aB 1) (nsL aB 1) y28.nd (DL.toO (DO.toL (aA z47 y48 (hr.mono (by decide)) (ab (av (pvN 0 aB)) am)))))
     (ap (aI (nsN aB 2) (nsL aB 2) y28.nd (bD am))
     (ap (dy qd8 rfl (d7 z51 T.n_enumerate (ab (DO.toL (aq hr (af (pvN 0 aB)) (DL.toB ag))) am)) (gI rfl (bW (aE (aY (nsN aB 3) (nsL aB 3) y28.nd)) (bW (aE (aY (nsN aB 4) (nsL aB 4) y28.nd)) e8))) (aG (cb (DW.t (wv (bK (cH hr) gJ (DO.toB (aq hr (af (pvN 4 aB)) (DL.toB ag))) (DL.toB bf) (bx _)) (rO (DW.t (iK (jT hr (DO.toB (aq hr (af (pvN 4 aB)) (DL.toB ag))) (DO.toB (aO (ab bf (ab bf am))))) (f7 (jT hr (DO.toB (aq hr (af (pvN 4 aB)) (DL.toB ag))) (af (pvN 1 aB))))))))) (aG (cr (pvN 2 aB) (av (pvN 3 aB)))) bL)))
     (aG (f9 (pvN 2 aB))))))
abbrev z13:Stmt:=top 16
theorem z27:FnScope ["program","found","number","onward"] ["program"] (ac z13):=⟨rfl,rfl,rfl,by decide +kernel,rfl,by decide +kernel,by decide +kernel⟩
theorem aL:cB (ac z13) ["program","found","number","onward"]=true:=by decide +kernel
theorem q55:aF (ac z13) "ways"=true:=by decide +kernel
theorem q43:aF (ac z13) "enumerate"=true:=by decide +kernel
theorem y63 (T:Txt P w K mg) (D:DefF K mg "rows_led_back_to" z13 ["program"]) (h_ways:OkF P w K mg base "ways" 2 ["program"] (spD K 1 (cY))):OkF P w K mg base "rows_led_back_to" 3 ["program"] (spD K 1 y17):=
 ce D z27 rfl fun f cdv A outer s H E hr=>(ap (aI (nsN aL 1) (nsL aL 1) z27.nd (bD am))
     (ap (dy qd8 rfl (d7 q43 T.n_enumerate (ab (DO.toL (aA q55 h_ways (hr.mono (by decide)) (ab (av (pvN 0 aL)) am))) am)) (gI rfl (bW (aE (aY (nsN aL 2) (nsL aL 2) z27.nd)) (bW (aE (aY (nsN aL 3) (nsL aL 3) z27.nd)) e8))) (aG (j9 (pvN 1 aL) (bq (M:=["way","number"]) (src:=[none,some 2]) (ts:=[0]) (CmpScope.of (by kernel_rfl)) rfl (bp (af (pvN 3 aL))) (fun nd _ _ _ _=>(aE (aS (N:=["way","number"]) (i:=0) (by decide +kernel) (by decide +kernel) nd (scC (outer:=ac z13) (by exact rfl))))) (fun _ _ _ _=>dn (bK zH iN (af (pvX (by kernel_rfl))) (af (pvX (by kernel_rfl))) (bx _))) (fun _ _ _ _=>(av (pvX (by kernel_rfl)))) (by decide +kernel)))))
     (aG (f9 (pvN 1 aL)))))
abbrev q13:Stmt:=top 18
theorem z49:FnScope ["program","wanted","places"] ["program"] (ac q13):=⟨rfl,rfl,rfl,by decide +kernel,rfl,by decide +kernel,by decide +kernel⟩
theorem bj:cB (ac q13) ["program","wanted","places"]=true:=by decide +kernel
theorem y61:aF (ac q13) "needed"=true:=by decide +kernel
theorem q49:aF (ac q13) "rows_by_kind"=true:=by decide +kernel
theorem z41:aF (ac q13) "rows_led_back_to"=true:=by decide +kernel
theorem z61:aF (ac q13) "sorted"=true:=by decide +kernel
theorem y68:aF (ac q13) "set"=true:=by decide +kernel
theorem y43:aF (ac q13) "tuple"=true:=by decide +kernel
theorem z80 (T:Txt P w K mg) (D:DefF K mg "all_places" q13 ["program"]) (q71:OkF P w K mg base "needed" 4 ["program"] (spG K 1 (z39))) (y44:OkF P w K mg base "rows_by_kind" 2 ["program"] (spD K 1 (q24))) (q35:OkF P w K mg base "rows_led_back_to" 3 ["program"] (spD K 1 (y17))):OkF P w K mg base "all_places" 5 ["program"] (spD K 1 z18):=
 ce D z49 rfl fun f cdv A outer s H E hr=>(ap (aI (nsN bj 1) (nsL bj 1) z49.nd (DL.toO (DO.toL (aA y61 (okD q71) (hr.mono (by decide)) (ab (av (pvN 0 bj)) am)))))
     (ap (aI (nsN bj 2) (nsL bj 2) z49.nd (DL.toO (DO.toL (my z61 y68 rfl T.n_sorted T.n_set (az (DO.toB (au aJ bh (DO.toB (aA q49 y44 (hr.mono (by decide)) (ab (av (pvN 0 bj)) am))) (DO.toB (aA z41 q35 (hr.mono (by decide)) (ab (av (pvN 0 bj)) am))))) aH)))))
     (aG (aV (aO (ab (DO.toL (cx y43 bu dq T.n_tuple cT (az (DO.toB (aq hr (af (pvN 1 bj)) (DL.toB ag))) aH))) (ab (DO.toL (cx y43 bu dq T.n_tuple cT (az (DO.toB (bq (M:=["row","wanted"]) (src:=[none,some 1]) (ts:=[0]) (CmpScope.of (by kernel_rfl)) rfl (bp (af (pvN 2 bj))) (fun nd _ _ _ _=>(aE (aS (N:=["row","wanted"]) (i:=0) (by decide +kernel) (by decide +kernel) nd (scC (outer:=ac q13) (by exact rfl))))) (fun _ _ _ _=>bQ) (fun _ _ _ _=>(DO.toL (aO (ab (av (pvX (by kernel_rfl))) (ab (DO.toL (cx (by decide +kernel) bu dq T.n_tuple cT (az (DO.toB (aq hr (af (pvX (by kernel_rfl))) (af (pvX (by kernel_rfl))))) aH) (e1:=(scC (outer:=ac q13) rfl)))) am))))) (by decide +kernel))) aH))) am)))))))
abbrev z34:Stmt:=top 13
theorem z81:FnScope ["code"] ["code"] (ac z34):=⟨rfl,rfl,rfl,by decide +kernel,rfl,by decide +kernel,by decide +kernel⟩
theorem lb:cB (ac z34) ["code"]=true:=by decide +kernel
theorem q81 (T:Txt P w K mg) (D:DefF K mg "kept_rows" z34 ["code"]):OkF P w K mg base "kept_rows" 1 ["code"] (spD K 1 y22):=ce D z81 rfl fun f cdv A outer s H E hr=>(aG (aV (bq (M:=["keep"]) (src:=[none]) (ts:=[0]) (CmpScope.of (by kernel_rfl)) rfl (bp (DO.toB (aq hr (af (pvN 0 lb)) (DL.toB ag)))) (fun nd _ _ _ _=>(aE (aS (N:=["keep"]) (i:=0) (by decide +kernel) (by decide +kernel) nd (scC (outer:=ac z34) (by exact rfl))))) (fun _ _ _ _=>bQ) (fun _ _ _ _=>(DO.toL (aq hr (af (pvX (by kernel_rfl))) (DL.toB ag)))) (by decide +kernel))))
abbrev y18:Stmt:=top 14
theorem y62:FnScope ["program","code","kept"] ["program","code"] (ac y18):=⟨rfl,rfl,rfl,by decide +kernel,rfl,by decide +kernel,by decide +kernel⟩
theorem cR:cB (ac y18) ["program","code","kept"]=true:=by decide +kernel
theorem q56:aF (ac y18) "kept_rows"=true:=by decide +kernel
theorem y65:aF (ac y18) "ways"=true:=by decide +kernel
theorem z79 (T:Txt P w K mg) (D:DefF K mg "inner_ways" y18 ["program","code"]) (q34:OkF P w K mg base "kept_rows" 1 ["code"] (spD K 1 (y22))) (h_ways:OkF P w K mg base "ways" 2 ["program"] (spD K 1 (cY))):OkF P w K mg base "inner_ways" 3 ["program","code"] (spD K 2 q27):=
 ce D y62 rfl fun f cdv A outer s H E hr=>(ap (aI (nsN cR 2) (nsL cR 2) y62.nd (DL.toO (DO.toL (aA q56 q34 (hr.mono (by decide)) (ab (av (pvN 1 cR)) am)))))
     (aG (aV (bq (M:=["onward","kept"]) (src:=[none,some 2]) (ts:=[0]) (CmpScope.of (by kernel_rfl)) rfl (bp (DO.toB (aA y65 h_ways (hr.mono (by decide)) (ab (av (pvN 0 cR)) am)))) (fun nd _ _ _ _=>(aE (aS (N:=["onward","kept"]) (i:=0) (by decide +kernel) (by decide +kernel) nd (scC (outer:=ac y18) (by exact rfl))))) (fun _ _ _ _=>bQ) (fun _ _ _ _=>(DO.toL (bq (M:=["way","kept"]) (src:=[none,some 1]) (ts:=[0]) (CmpScope.of (by kernel_rfl)) rfl (bp (af (pvX (by kernel_rfl)))) (fun nd _ _ _ _=>(aE (aS (N:=["way","kept"]) (i:=0) (by decide +kernel) (by decide +kernel) nd (scC (scC (outer:=ac y18) (by exact rfl)))))) (fun _ _ _ _=>dn (iR hr (af (pvX (by kernel_rfl))) (af (pvX (by kernel_rfl))))) (fun _ _ _ _=>(av (pvX (by kernel_rfl)))) (by decide +kernel)))) (by decide +kernel)))))
abbrev z8:Stmt:=top 20
theorem z25:FnScope ["program","code","inner","longest","turn","row"] ["program","code"] (ac z8):=⟨rfl,rfl,rfl,by decide +kernel,rfl,by decide +kernel,by decide +kernel⟩
theorem ay:cB (ac z8) ["program","code","inner","longest","turn","row"]=true:=by decide +kernel
theorem q47:aF (ac z8) "inner_ways"=true:=by decide +kernel
theorem z42:aF (ac z8) "len"=true:=by decide +kernel
theorem q37:aF (ac z8) "range"=true:=by decide +kernel
theorem q42:aF (ac z8) "max"=true:=by decide +kernel
theorem z48:aF (ac z8) "kept_rows"=true:=by decide +kernel
theorem y70 (T:Txt P w K mg) (D:DefF K mg "longest_piece" z8 ["program","code"]) (q54:OkF P w K mg base "inner_ways" 3 ["program","code"] (spD K 2 (q27))) (q34:OkF P w K mg base "kept_rows" 1 ["code"] (spD K 1 (y22))):OkF P w K mg base "longest_piece" 4 ["program","code"] (spG K 2 (z16)):=
 kZ D z25 rfl fun f cdv A outer s H E hr=>(bB (cA (nsN ay 2) (nsL ay 2) z25.nd (ck (DO.toL (aA q47 q54 (hr.mono (by decide)) (ab (av (pvN 0 ay)) (ab (av (pvN 1 ay)) am))))))
     (bB (cA (nsN ay 3) (nsL ay 3) z25.nd (kX (bq (M:=["row"]) (src:=[none]) (ts:=[0]) (CmpScope.of (by kernel_rfl)) rfl (bp (af (pvN 2 ay))) (fun nd _ _ _ _=>(aE (aS (N:=["row"]) (i:=0) (by decide +kernel) (by decide +kernel) nd (scC (outer:=ac z8) (by exact rfl))))) (fun _ _ _ _=>bQ) (fun _ _ _ _=>ag) (by decide +kernel))))
     (bB (kY qd8 rfl (dM q37 T.n_range (ab (DO.toL (aQ z42 aX cg T.n_len bJ (az (af (pvN 2 ay)) aH))) am)) (aE (aY (nsN ay 4) (nsL ay 4) z25.nd)) (cX (kY qd8 rfl (j2 q37 T.n_range (ab (DO.toL (au fJ iM (DO.toB (aQ z42 aX cg T.n_len bJ (az (af (pvN 2 ay)) aH))) (DL.toB ag))) (ab (DO.toL (kT (DL.toB ag))) (ab (DO.toL (kT (DL.toB ag))) am)))) (aE (aY (nsN ay 5) (nsL ay 5) z25.nd)) (cX (nK hr (fQ (pvN 3 ay)) (ck (av (pvN 5 ay))) (ck (DO.toL (au aJ bh (DL.toB ag) (DO.toB (vt q42 rfl T.n_max (az (DO.toB (bq (M:=["way","longest"]) (src:=[none,some 3]) (ts:=[0]) (CmpScope.of (by kernel_rfl)) rfl (bp (DO.toB (aq hr (af (pvN 2 ay)) (af (pvN 5 ay))))) (fun nd _ _ _ _=>(aE (aS (N:=["way","longest"]) (i:=0) (by decide +kernel) (by decide +kernel) nd (scC (outer:=ac z8) (by exact rfl))))) (fun _ _ _ _=>bQ) (fun _ _ _ _=>(DO.toL (aq hr (af (pvX (by kernel_rfl))) (af (pvX (by kernel_rfl)))))) (by decide +kernel))) aH)))))))))))
     (cX (nJ (ck (DO.toL (aQ q42 (gZ rfl) nW T.n_max kK (az (DO.toB (bq (M:=["row","longest"]) (src:=[none,some 3]) (ts:=[0]) (CmpScope.of (by kernel_rfl)) rfl (bp (DO.toB (au aJ bh (DO.toB (bD (ab ag am))) (DO.toB (aA z48 q34 (hr.mono (by decide)) (ab (av (pvN 1 ay)) am)))))) (fun nd _ _ _ _=>(aE (aS (N:=["row","longest"]) (i:=0) (by decide +kernel) (by decide +kernel) nd (scC (outer:=ac z8) (by exact rfl))))) (fun _ _ _ _=>bQ) (fun _ _ _ _=>(DO.toL (aq hr (af (pvX (by kernel_rfl))) (af (pvX (by kernel_rfl)))))) (by decide +kernel))) aH)))))))))
abbrev q16:Stmt:=top 19
theorem z72:FnScope ["program"] ["program"] (ac q16):=⟨rfl,rfl,rfl,by decide +kernel,rfl,by decide +kernel,by decide +kernel⟩
theorem et:cB (ac q16) ["program"]=true:=by decide +kernel
theorem z63:aF (ac q16) "len"=true:=by decide +kernel
theorem z65:aF (ac q16) "sum"=true:=by decide +kernel
theorem q72 (T:Txt P w K mg) (D:DefF K mg "twins_places" q16 ["program"]):OkF P w K mg base "twins_places" 1 ["program"] (spD K 1 q23):=ce D z72 rfl fun f cdv A outer s H E hr=>(aG (aV (au aJ bh (DO.toB (aQ z63 aX cg T.n_len bJ (az (DO.toB (bq (M:=["head"]) (src:=[none]) (ts:=[0]) (CmpScope.of (by kernel_rfl)) rfl (bp (DO.toB (aq hr (af (pvN 0 et)) (DL.toB ag)))) (fun nd _ _ _ _=>(aE (aS (N:=["head"]) (i:=0) (by decide +kernel) (by decide +kernel) nd (scC (outer:=ac q16) (by exact rfl))))) (fun _ _ _ _=>dn (ca (DO.toB (aq hr (af (pvX (by kernel_rfl))) (DL.toB ag))) (fun _=>rfl))) (fun _ _ _ _=>(av (pvX (by kernel_rfl)))) (by decide +kernel))) aH))) (DO.toB (aQ z65 (ke rfl) sP T.n_sum rD (az (DO.toB (bq (M:=["head"]) (src:=[none]) (ts:=[0]) (CmpScope.of (by kernel_rfl)) rfl (bp (DO.toB (aq hr (af (pvN 0 et)) (DL.toB ag)))) (fun nd _ _ _ _=>(aE (aS (N:=["head"]) (i:=0) (by decide +kernel) (by decide +kernel) nd (scC (outer:=ac q16) (by exact rfl))))) (fun _ _ _ _=>dn (ca (DO.toB (aq hr (af (pvX (by kernel_rfl))) (DL.toB ag))) (fun _=>rfl))) (fun _ _ _ _=>(DO.toL (aq hr (af (pvX (by kernel_rfl))) (DL.toB ag)))) (by decide +kernel))) aH))))))
abbrev z24:Stmt:=top 21
theorem z77:FnScope ["program","code","most_boxes"] ["program","code"] (ac z24):=⟨rfl,rfl,rfl,by decide +kernel,rfl,by decide +kernel,by decide +kernel⟩
theorem cv:cB (ac z24) ["program","code","most_boxes"]=true:=by decide +kernel
theorem q79:aF (ac z24) "len"=true:=by decide +kernel
theorem y79:aF (ac z24) "max"=true:=by decide +kernel
theorem q58:aF (ac z24) "twins_places"=true:=by decide +kernel
theorem y55:aF (ac z24) "longest_piece"=true:=by decide +kernel
theorem q87 (T:Txt P w K mg) (D:DefF K mg "breath" z24 ["program","code"]) (y40:OkF P w K mg base "longest_piece" 4 ["program","code"] (spG K 2 (z16))) (z46:OkF P w K mg base "twins_places" 1 ["program"] (spD K 1 (q23))):OkF P w K mg base "breath" 5 ["program","code"] (spD K 2 y35):=
 ce D z77 rfl fun f cdv A outer s H E hr=>(ap (aI (nsN cv 2) (nsL cv 2) z77.nd (DL.toO (DO.toL (aQ y79 (gZ rfl) nW T.n_max kK (az (DO.toB (au aJ bh (DO.toB (bD (ab (DO.toL (aQ q79 aX cg T.n_len bJ (az (DO.toB (aq hr (af (pvN 1 cv)) (DL.toB ag))) aH))) am))) (DO.toB (bq (M:=["keep"]) (src:=[none]) (ts:=[0]) (CmpScope.of (by kernel_rfl)) rfl (bp (DO.toB (aq hr (af (pvN 1 cv)) (DL.toB ag)))) (fun nd _ _ _ _=>(aE (aS (N:=["keep"]) (i:=0) (by decide +kernel) (by decide +kernel) nd (scC (outer:=ac z24) (by exact rfl))))) (fun _ _ _ _=>bQ) (fun _ _ _ _=>(DO.toL (aQ (by decide +kernel) aX cg T.n_len bJ (az (DO.toB (aq hr (af (pvX (by kernel_rfl))) (DL.toB ag))) aH) (e1:=(scC (outer:=ac z24) rfl))))) (by decide +kernel))))) aH)))))
     (aG (aV (au aJ bh (DO.toB (au aJ bh (DO.toB (au aJ bh (DO.toB (au d4 gb (DL.toB ag) (DO.toB (aA q58 z46 (hr.mono (by decide)) (ab (av (pvN 0 cv)) am))))) (af (pvN 2 cv)))) (DO.toB (aA y55 (okD y40) (hr.mono (by decide)) (ab (av (pvN 0 cv)) (ab (av (pvN 1 cv)) am)))))) (DL.toB ag)))))
abbrev bC:Stmt:=top 31
theorem sc_law:FnScope ["_law_script","_law_program_here","_law_number","_law_some","_law_begin","_law_keeps","_law_more","_law_at","_law_row_here","_law_boxes","_law_code","_law_twins","_law_most","_law_found"] ["_law_script"] (ac bC):=⟨rfl,rfl,rfl,by decide +kernel,rfl,by decide +kernel,by decide +kernel⟩
theorem ax:cB (ac bC) ["_law_script","_law_program_here","_law_number","_law_some","_law_begin","_law_keeps","_law_more","_law_at","_law_row_here","_law_boxes","_law_code","_law_twins","_law_most","_law_found"]=true:=by decide +kernel
theorem y64:aF (ac bC) "_law_program"=true:=by decide +kernel
theorem y34:aF (ac bC) "_law_cell_at"=true:=by decide +kernel
theorem y82:aF (ac bC) "range"=true:=by decide +kernel
theorem q66:aF (ac bC) "tuple"=true:=by decide +kernel
theorem q68:aF (ac bC) "all_places"=true:=by decide +kernel
theorem z68:aF (ac bC) "_law_names"=true:=by decide +kernel
theorem q61:aF (ac bC) "len"=true:=by decide +kernel
theorem z84:aF (ac bC) "list"=true:=by decide +kernel
theorem y80:aF (ac bC) "sorted"=true:=by decide +kernel
theorem y85:aF (ac bC) "set"=true:=by decide +kernel
theorem q85:aF (ac bC) "sum"=true:=by decide +kernel
theorem q86:aF (ac bC) "max"=true:=by decide +kernel
theorem z78:aF (ac bC) "breath"=true:=by decide +kernel
theorem y49:aF (ac bC) "isinstance"=true:=by decide +kernel
theorem y83:aF (ac bC) "bool"=true:=by decide +kernel
theorem y84:aF (ac bC) "int"=true:=by decide +kernel
theorem z59:aF (ac bC) "_law_most_rows"=true:=by decide +kernel
theorem yp {f:Addr} {fd:ql1} (T:Txt P w K mg) (D:Fun K "law" "law" bC f fd) (z12:OkF P w K mg base "_law_cell_at" 1 ["_law_script","_law_k"] (spD K 2 (y1))) (q38:OkF P w K mg base "_law_most_rows" 2 ["_law_program_here","_law_code"] (spG K 2 (q15))) (q25:OkF P w K mg base "_law_names" 2 ["_law_cell","_law_many"] (spD K 2 (q14))) (y46:OkF P w K mg base "_law_program" 3 ["_law_script","_law_most","_law_wide"] (spD K 3 (z23))) (z54:OkF P w K mg base "all_places" 5 ["program"] (spD K 1 (z18))) (y69:OkF P w K mg base "breath" 5 ["program","code"] (spD K 2 (y35))):FnOk P w K mg base CX0 6 f fd ["_law_script"] (spD K 1 pk):=
 z0 D sc_law rfl fun cdv A outer s H E hr=>(ap (aI (nsN ax 1) (nsL ax 1) sc_law.nd (DL.toO (DO.toL (aA y64 y46 (hr.mono (by decide)) (ab (av (pvN 0 ax)) (ab ag (ab hU am)))))))
     (ap (aI (nsN ax 2) (nsL ax 2) sc_law.nd (DL.toO (DO.toL (au bI cf (DO.toB (au d4 gb (DO.toB (aA y34 z12 (hr.mono (by decide)) (ab (av (pvN 0 ax)) (ab ag am)))) (DL.toB ag))) (DL.toB ag)))))
     (ap (cb (bK (cH hr) gJ (DO.toB (au bI cf (af (pvN 2 ax)) (DL.toB ag))) (DL.toB ag) (bx _)) (ap (r8 (nsN ax 3) (nsL ax 3) sc_law.nd (M:=["_law_k"]) (src:=[none]) (ts:=[0]) (CmpScope.of (by kernel_rfl)) rfl (DIF.toB (dM y82 T.n_range (ab (DO.toL (au bI cf (DO.toB (au eM iV (af (pvN 2 ax)) (DL.toB ag))) (DL.toB ag))) am))) (fun nd _ _ _ _=>(aE (aS (N:=["_law_k"]) (i:=0) (by decide +kernel) (by decide +kernel) nd (scC (outer:=ac bC) (by exact rfl))))) (fun _ _ _ _=>bQ) (fun _ _ _ _=>(DO.toL (aO (ab bf (ab bf (ab (av (pvX (by kernel_rfl))) am)))))) (by decide +kernel))
     (aG (aI (nsN ax 1) (nsL ax 1) sc_law.nd (DL.toO (DO.toL (aO (ab (DO.toL (aq hr (af (pvN 1 ax)) (DL.toB ag))) (ab (DO.toL (aq hr (af (pvN 1 ax)) (DL.toB ag))) (ab (DO.toL (au gn i8 (DO.toB (au gn i8 (DO.toB (aO (ab (DO.toL (aO (ab bf (ab bf am)))) am))) (DO.toB (cx q66 bu dq T.n_tuple cT (az (af (pvN 3 ax)) aH))))) (DO.toB (aO (ab (DO.toL (aO (ab bf (ab bf am)))) am))))) am))))))))) bL)
     (ap (rP (DO.toL (aA q68 z54 (hr.mono (by decide)) (ab (av (pvN 1 ax)) am))) (gI rfl (bW (aE (aY (nsN ax 4) (nsL ax 4) sc_law.nd)) (bW (aE (aY (nsN ax 5) (nsL ax 5) sc_law.nd)) e8))))
     (ap (aI (nsN ax 2) (nsL ax 2) sc_law.nd (DL.toO (DO.toL (au bI cf (DO.toB (au d4 gb (DO.toB (aA y34 z12 (hr.mono (by decide)) (ab (av (pvN 0 ax)) (ab ag am)))) (DL.toB ag))) (DL.toB ag)))))
     (ap (aI (nsN ax 6) (nsL ax 6) sc_law.nd (DL.toO (DO.toL (aA z68 q25 (hr.mono (by decide)) (ab (DO.toL (aA y34 z12 (hr.mono (by decide)) (ab (av (pvN 0 ax)) (ab ag am)))) (ab (DO.toL (au bI cf (DO.toB (au eM iV (af (pvN 2 ax)) (DL.toB ag))) (DL.toB ag))) am))))))
     (ap (aI (nsN ax 7) (nsL ax 7) sc_law.nd (DL.toO (DO.toL (au bI cf (af (pvN 2 ax)) (DO.toB (aQ q61 aX cg T.n_len bJ (az (af (pvN 5 ax)) aH)))))))
     (ap (rP (DO.toL (aq hr (af (pvN 5 ax)) (af (pvN 7 ax)))) (gI rfl (bW (aE (aY (nsN ax 8) (nsL ax 8) sc_law.nd)) (bW (aE (aY (nsN ax 9) (nsL ax 9) sc_law.nd)) e8))))
     (ap (aI (nsN ax 10) (nsL ax 10) sc_law.nd (DL.toO (DO.toL (aO (ab (av (pvN 4 ax)) (ab (DO.toL (au gn i8 (DO.toB (au gn i8 (DO.toB (ka (af (pvN 5 ax)) o4 (e9 (af (pvN 7 ax))))) (DO.toB (aO (ab (DO.toL (aO (ab (av (pvN 8 ax)) (ab (DO.toL (cx q66 bu dq T.n_tuple cT (az (DO.toB (i7 y80 y85 rfl T.n_sorted T.n_set (az (DO.toB (au aJ bh (DO.toB (cx z84 kH yf T.n_list oO (az (af (pvN 9 ax)) aH))) (af (pvN 6 ax)))) aH))) aH))) am)))) am))))) (DO.toB (ka (af (pvN 5 ax)) (e9 (DO.toB (au aJ bh (af (pvN 7 ax)) (DL.toB ag)))) o4)))) am))))))
     (ap (aI (nsN ax 11) (nsL ax 11) sc_law.nd (DL.toO (DO.toL (au aJ bh (DO.toB (aQ q61 aX cg T.n_len bJ (az (DO.toB (bq (M:=["_law_one"]) (src:=[none]) (ts:=[0]) (CmpScope.of (by kernel_rfl)) rfl (bp (DO.toB (aq hr (af (pvN 1 ax)) (DL.toB ag)))) (fun nd _ _ _ _=>(aE (aS (N:=["_law_one"]) (i:=0) (by decide +kernel) (by decide +kernel) nd (scC (outer:=ac bC) (by exact rfl))))) (fun _ _ _ _=>dn (ca (DO.toB (aq hr (af (pvX (by kernel_rfl))) (DL.toB ag))) (fun _=>rfl))) (fun _ _ _ _=>(av (pvX (by kernel_rfl)))) (by decide +kernel))) aH))) (DO.toB (aQ q85 (ke rfl) sP T.n_sum rD (az (DO.toB (bq (M:=["_law_one"]) (src:=[none]) (ts:=[0]) (CmpScope.of (by kernel_rfl)) rfl (bp (DO.toB (aq hr (af (pvN 1 ax)) (DL.toB ag)))) (fun nd _ _ _ _=>(aE (aS (N:=["_law_one"]) (i:=0) (by decide +kernel) (by decide +kernel) nd (scC (outer:=ac bC) (by exact rfl))))) (fun _ _ _ _=>dn (ca (DO.toB (aq hr (af (pvX (by kernel_rfl))) (DL.toB ag))) (fun _=>rfl))) (fun _ _ _ _=>(DO.toL (aq hr (af (pvX (by kernel_rfl))) (DL.toB ag)))) (by decide +kernel))) aH)))))))
     (ap (dy qd8 rfl (fM (DO.toL (bD (ab (av (pvN 10 ax)) (ab (DO.toL (aO (ab (av (pvN 4 ax)) (ab (av (pvN 5 ax)) am)))) am))))) (aE (aY (nsN ax 3) (nsL ax 3) sc_law.nd)) (ap (aI (nsN ax 12) (nsL ax 12) sc_law.nd (DL.toO (DO.toL (aQ q86 (gZ rfl) nW T.n_max kK (az (DO.toB (au aJ bh (DO.toB (bD (ab (DO.toL (aQ q61 aX cg T.n_len bJ (az (af (pvN 4 ax)) aH))) am))) (DO.toB (bq (M:=["_law_one"]) (src:=[none]) (ts:=[0]) (CmpScope.of (by kernel_rfl)) rfl (bp (DO.toB (aq hr (af (pvN 3 ax)) (DL.toB ag)))) (fun nd _ _ _ _=>(aE (aS (N:=["_law_one"]) (i:=0) (by decide +kernel) (by decide +kernel) nd (scC (outer:=ac bC) (by exact rfl))))) (fun _ _ _ _=>bQ) (fun _ _ _ _=>(DO.toL (aQ (by decide +kernel) aX cg T.n_len bJ (az (DO.toB (aq hr (af (pvX (by kernel_rfl))) (DL.toB ag))) aH) (e1:=(scC (outer:=ac bC) rfl))))) (by decide +kernel))))) aH)))))
     (ap (aI (nsN ax 13) (nsL ax 13) sc_law.nd (DL.toO (DO.toL (aA z78 y69 (hr.mono (by decide)) (ab (av (pvN 1 ax)) (ab (av (pvN 3 ax)) am))))))
     (ap (cb (DW.t (wv (rN (ca (DO.toB (gK y49 y84 T.n_isinstance T.n_int xS T.k_int (af (pvN 13 ax)))) (fun _=>rfl))) (rO (ca (DO.toB (gK y49 y83 T.n_isinstance T.n_bool uO T.k_bool (af (pvN 13 ax)))) (fun _=>rfl))))) (aG (aV (DL.toO hU))) bL)
     (aG (cb (bK (nA hr) ya (af (pvN 13 ax)) (DO.toB (au aJ bh (DO.toB (au aJ bh (DO.toB (au aJ bh (DO.toB (au d4 gb (DL.toB ag) (af (pvN 11 ax)))) (af (pvN 12 ax)))) (DO.toB (aA z59 (okD q38) (hr.mono (by decide)) (ab (av (pvN 1 ax)) (ab (av (pvN 3 ax)) am)))))) (DL.toB ag))) (bx _)) (aG (aV (DL.toO hU))) bL))))))
     (aG (aV (DL.toO hU))))))))))))))
end
end P54
namespace L2
open PySem PySem.Spec PyProof.Rows
theorem sU {acc:List Str} {k x:Str}:x∈once acc k↔x∈acc∨x=k:=by
 unfold once;split
 . rename_i h;exact ⟨.inl,fun z=>z.elim id fun e=>e▸h⟩
 . simp
theorem eT {x:Str}:∀ {ss acc:List Str},x∈ss.foldl once acc↔x∈acc∨x∈ss
 | [],acc=>by simp
 | s::ss,acc=>by rw [qi6,eT,sU,qa9,or_assoc]
theorem onces_mem {ss:List Str} {x:Str}:x∈bY ss↔x∈ss:=by unfold bY;rw [eT];simp
theorem nX {acc:List Str} {k:Str} (h:acc.Nodup):(once acc k).Nodup:=by
 unfold once;split
 . exact h
 . rename_i hk;rw [qy4];exact ⟨h,by simp,fun a ha b hb e=>hk (by rw [qb7.mp hb] at e;exact e▸ha)⟩
theorem dX:∀ {ss acc:List Str},acc.Nodup->(ss.foldl once acc).Nodup
 | [],acc,h=>h
 | s::ss,acc,h=>by rw [qi6];exact dX (nX h)
theorem mC (ss:List Str):(bY ss).Nodup:=dX qw9
noncomputable def Sd (l:List Str):Prop:=l.Pairwise fun a b=>leS a b=true/\a≠b
theorem vz {ss:List Str} (nd:ss.Nodup):Sd (dP ss):=by
 have h1:=gi ss;have h2:(dP ss).Pairwise fun a b=>a≠b:=(cM ss).nodup_iff.mpr nd
 exact h1.and h2
theorem Sd.nodup {l:List Str} (h:Sd l):l.Nodup:=qy3 (fun z=>z.2) h
theorem sV:∀ {l m:List Str},Sd l->Sd m->(∀ x,x∈l↔x∈m)->l=m
 | [],[],_,_,_=>rfl
 | [],b::m,_,_,h=>by simpa using (h b).mpr (.head _)
 | a::l,[],_,_,h=>by simpa using (h a).mp (.head _)
 | a::l,b::m,hl,hm,h=>by
  have hl':=qg4.mp hl;have hm':=qg4.mp hm
  have e:a=b:=by
   rcases qa9.mp ((h a).mp (.head _)) with z | z
   . exact z
   . rcases qa9.mp ((h b).mpr (.head _)) with y | y
     . exact y.symm
     . exact mi (hl'.1 b y).1 (hm'.1 a z).1
  subst e;congr 1;refine sV hl'.2 hm'.2 fun x=>⟨fun hx=>?_,fun hx=>?_⟩
  . rcases qa9.mp ((h x).mp (.tail _ hx)) with z | z
    . exact absurd z.symm (hl'.1 x hx).2
    . exact z
  . rcases qa9.mp ((h x).mpr (.tail _ hx)) with z | z
    . exact absurd z.symm (hm'.1 x hx).2
    . exact z
theorem dY {α:Type} [DecidableEq α]:∀ {l m:List α},l.Nodup->(∀ x∈l,x∈m)->l.length<=m.length
 | [],m,_,_=>qi8 _
 | a::l,m,h,hs=>by
  obtain ⟨h1,h2⟩:=ql6.mp h;have ha:a∈m:=hs a (.head _);have:=dY (m:=m.erase a) h2 fun x hx=>(List.mem_erase_of_ne (show x≠a from fun e=>h1 (by rw [<- e];exact hx))).mpr (hs x (.tail _ hx))
  rw [List.length_erase_of_mem ha] at this;have hp:=zb1 ha;rw [qc0];lia
theorem Am {l m:List Str} (hl:Sd l) (hm:Sd m) (h:∀ x∈l,x∈m) (ne:l≠m):l.length<m.length:=by
 by_cases z:∃ x,x∈m/\x∉l
 . obtain ⟨x,h1,h2⟩:=z
   have:=dY (l:=x::l) (m:=m) (ql6.mpr ⟨h2,hl.nodup⟩) fun y hy=>by
    rcases qa9.mp hy with rfl | hy
    . exact h1
    . exact h y hy
   rw [qc0] at this;lia
 . exact absurd (sV hl hm fun x=>⟨h x,fun hx=>Classical.byContradiction fun q=>z ⟨x,hx,q⟩⟩) ne
inductive Atm where
 | nm (x:Str) | vl (i:Int)
inductive Rw where
 | copy (x:Str) (a:Atm) | op (x s:Str) (a b:Atm) | load (x c:Str) | store (c:Str) (a:Atm) | take (x f:Str) (a:Atm) | lay (f:Str) (a b:Atm) | hear (x:Str) | say (a:Atm) | iff (a:Atm) (g:Nat) | go (g:Nat) | fin (a:Atm)
noncomputable def Rw.atoms:Rw->List Atm
 | .copy _ a=>[a] | .op _ _ a b=>[a,b] | .load _ _=>[] | .store _ a=>[a] | .take _ _ a=>[a] | .lay _ a b=>[a,b] | .hear _=>[] | .say a=>[a] | .iff a _=>[a] | .go _=>[] | .fin a=>[a]
noncomputable def nms:List Atm->List Str
 | []=>[]
 | .nm x::r=>x::nms r
 | .vl _::r=>nms r
noncomputable def Rw.reads (r:Rw):List Str:=bY (nms r.atoms)
noncomputable def Rw.sets:Rw->Option Str
 | .copy x _=>some x | .op x _ _ _=>some x | .load x _=>some x | .take x _ _=>some x | .hear x=>some x
 | _=>none
noncomputable def Rw.outs (n:Nat):Rw->List Nat
 | .go g=>[g] | .iff _ g=>[g,n+1] | .fin _=>[]
 | _=>[n+1]
theorem lc:∀ l:List Atm,(nms l).length<=l.length
 | []=>nL _
 | .nm x::r=>Nat.succ_le_succ (lc r)
 | .vl _::r=>Nat.le_succ_of_le (lc r)
theorem Rw.reads_len (r:Rw):r.reads.length<=2:=by
 have h1:=j7 (nms r.atoms);have h2:=lc r.atoms;have h3:r.atoms.length<=2:=by cases r<;>simp [Rw.atoms]
 unfold Rw.reads;lia
theorem Rw.outs_len (r:Rw) (n:Nat):(r.outs n).length<=2:=by cases r<;>simp [Rw.outs]
noncomputable def ia (r:Rw) (ls:List (List Str)):List Str:=ls.flatMap fun l=>l.filter fun b=>decide (r.sets≠some b)
noncomputable def NA (r:Rw) (ls:List (List Str)):List Str:=dP (bY (r.reads++ia r ls))
theorem qF {ss:List Str} {x:Str}:x∈dP ss↔x∈ss:=(cM ss).mem_iff
theorem yq {r:Rw} {ls:List (List Str)} {b:Str}:b∈NA r ls↔b∈r.reads∨(r.sets≠some b/\∃ l∈ls,b∈l):=by
 unfold NA ia;rw [qF,onces_mem,qj4,List.mem_flatMap];constructor
 . rintro (h | ⟨l,hl,hb⟩)
   . exact .inl h
   . rw [ql2,decide_eq_true_eq] at hb;exact .inr ⟨hb.2,l,hl,hb.1⟩
 . rintro (h | ⟨h,l,hl,hb⟩)
   . exact .inl h
   . exact .inr ⟨l,hl,ql2.mpr ⟨hb,decide_eq_true_eq.mpr h⟩⟩
theorem An (r:Rw) (ls:List (List Str)):Sd (NA r ls):=vz (mC _)
inductive Needs (rows:List Rw):Nat->Str->Prop
 | here {i:Nat} {r:Rw} {b:Str}:rows[i]?=some r->b∈r.reads->Needs rows i b
 | on {i j:Nat} {r:Rw} {b:Str}:rows[i]?=some r->r.sets≠some b->j∈r.outs i->Needs rows j b->Needs rows i b
noncomputable def nw (rows:List Rw) (found:List (List Str)) (i:Nat):List Str:=match rows[i]? with
 | some r=>NA r ((r.outs i).map fun j=>found.getD j [])
 | none=>[]
theorem nY {rows:List Rw} {found:List (List Str)} {i:Nat} {b:Str} {r:Rw} (h:rows[i]?=some r):b∈nw rows found i↔b∈r.reads∨(r.sets≠some b/\∃ j∈r.outs i,b∈found.getD j []):=by
 unfold nw;rw [h];show b∈NA r _↔_;rw [yq];simp only [qc1];constructor
 . rintro (h | ⟨h,l,⟨j,hj,rfl⟩,hb⟩)
   . exact .inl h
   . exact .inr ⟨h,j,hj,hb⟩
 . rintro (h | ⟨h,j,hj,hb⟩)
   . exact .inl h
   . exact .inr ⟨h,_,⟨j,hj,rfl⟩,hb⟩
theorem wH (rows:List Rw) (found:List (List Str)) (i:Nat):Sd (nw rows found i):=by
 unfold nw;split
 . exact An _ _
 . exact qr5
theorem ld {α:Type} {l:List (List α)} {j:Nat} {b:α} (h:b∈l.getD j []):∃ m,l[j]?=some m/\b∈m:=by
 rw [qc3] at h;cases q:l[j]? with
 | none=>rw [q] at h;simp at h
 | some m=>rw [q] at h;exact ⟨m,rfl,h⟩
theorem lg {α:Type} {l:List (List α)} {j:Nat} {m:List α} (h:l[j]?=some m):l.getD j []=m:=by rw [qc3,h];rfl
structure Fnd (rows:List Rw) (B:List Str) (found:List (List Str)):Prop where
 len:found.length=rows.length
 sd:∀ (i:Nat) (l:List Str),found[i]?=some l->Sd l
 sub:∀ (i:Nat) (l:List Str) (b:Str),found[i]?=some l->b∈l->b∈B
 nd:∀ (i:Nat) (l:List Str) (b:Str),found[i]?=some l->b∈l->Needs rows i b
 inc:∀ (i:Nat) (l:List Str) (b:Str),found[i]?=some l->b∈l->b∈nw rows found i
noncomputable def tot (found:List (List Str)):Nat:=(found.map qj7).sum
theorem Fnd.start {rows:List Rw} {B:List Str}:Fnd rows B (rows.map fun _=>[]):=by
 have h0:∀ (i:Nat) (l:List Str),(rows.map fun _=>([]:List Str))[i]?=some l->l=[]:=fun i l h=>by rw [qb9] at h;obtain ⟨r,_,e⟩:=mS h;exact e.symm
 refine ⟨by simp,fun i l h=>?_,fun i l b h hb=>?_,fun i l b h hb=>?_,fun i l b h hb=>?_⟩
 . rw [h0 i l h];exact qr5
 all_goals (rw [h0 i l h] at hb;cases hb)
section
variable {rows:List Rw} {B:List Str} {found:List (List Str)}
theorem pp {f g:List (List Str)} (h:∀ j b,b∈f.getD j []->b∈g.getD j []) {i:Nat} {b:Str} (hb:b∈nw rows f i):b∈nw rows g i:=by
 cases q:rows[i]? with
 | none=>unfold nw at hb;rw [q] at hb;cases hb
 | some r =>rw [nY q] at hb ⊢;exact hb.imp id fun ⟨h1,j,hj,hb⟩=>⟨h1,j,hj,h j b hb⟩
theorem Fnd.step (F:Fnd rows B found) (hB:∀ (i:Nat) (r:Rw) (b:Str),rows[i]?=some r->b∈r.reads->b∈B) {i:Nat} (hi:i<rows.length):Fnd rows B (found.set i (nw rows found i)):=by
 have hl:i<found.length:=by rw [F.len];exact hi
 obtain ⟨r,hr⟩:∃ r,rows[i]?=some r:=⟨rows[i],by simp [hi]⟩
 have mono:∀ j b,b∈found.getD j []->b∈(found.set i (nw rows found i)).getD j []:=fun j b hb=>by
  obtain ⟨m,hm,hb2⟩:=ld hb;by_cases e:i=j
  . subst e;rw [lg (qd1 hl)];exact F.inc i m b hm hb2
  . rw [lg (l:=found.set i (nw rows found i)) (m:=m) (by rw [gN e];exact hm)];exact hb2
 refine ⟨by simp [F.len],fun j l h=>?_,fun j l b h hb=>?_,fun j l b h hb=>?_,fun j l b h hb=>?_⟩
 . by_cases e:i=j
   . subst e;rw [qd1 hl] at h;cases h;exact wH _ _ _
   . rw [gN e] at h;exact F.sd j l h
 . by_cases e:i=j
   . subst e;rw [qd1 hl] at h;cases h;rcases (nY hr).mp hb with z | ⟨_,j,_,z⟩
     . exact hB i r b hr z
     . obtain ⟨m,hm,hb⟩:=ld z;exact F.sub j m b hm hb
   . rw [gN e] at h;exact F.sub j l b h hb
 . by_cases e:i=j
   . subst e;rw [qd1 hl] at h;cases h;rcases (nY hr).mp hb with z | ⟨h1,j,hj,z⟩
     . exact .here hr z
     . obtain ⟨m,hm,hb⟩:=ld z;exact .on hr h1 hj (F.nd j m b hm hb)
   . rw [gN e] at h;exact F.nd j l b h hb
 . by_cases e:i=j
   . subst e;rw [qd1 hl] at h;cases h;exact pp mono hb
   . rw [gN e] at h;exact pp mono (F.inc j l b h hb)
theorem pq:∀ {found:List (List Str)} {i:Nat} {l m:List Str},found[i]?=some l->tot (found.set i m)+l.length=tot found+m.length
 | [],i,l,m,h=>by simp at h
 | x::f,0,l,m,h=>by simp at h;subst h;simp only [tot,qw3,qa5,qq8];lia
 | x::f,i+1,l,m,h=>by have:=pq (found:=f) (i:=i) (l:=l) (m:=m) (by simpa using h);simp only [tot,qw4,qa5,qq8] at this ⊢;lia
theorem tot_le {n:Nat}:∀ {found:List (List Str)},(∀ l∈found,l.length<=n)->tot found<=found.length*n
 | [],_=>by simp [tot]
 | x::f,h=>by
  have:=tot_le (found:=f) fun l hl=>h l (.tail _ hl)
  have h1:=h x (.head _);simp only [tot,qa5,qq8,qc0,Nat.succ_mul] at this ⊢;lia
theorem Fnd.short (F:Fnd rows B found) {i:Nat} {l:List Str} (h:found[i]?=some l):l.length<=B.length:=dY (F.sd i l h).nodup fun b hb=>F.sub i l b h hb
theorem Fnd.tot_le (F:Fnd rows B found):tot found<=rows.length*B.length:=by
 rw [<- F.len];refine L2.tot_le fun l hl=>?_
 obtain ⟨i,h⟩:=qo8 hl;exact F.short h
theorem Fnd.more (F:Fnd rows B found) {i:Nat} {l:List Str} (h:found[i]?=some l) (ne:nw rows found i≠l):tot found<tot (found.set i (nw rows found i)):=by have h1:=pq (m:=nw rows found i) h;have h2:=Am (F.sd i l h) (wH rows found i) (fun x hx=>F.inc i l x h hx) (qk6 ne);lia
noncomputable def Fix (rows:List Rw) (found:List (List Str)):Prop:=∀ (i:Nat) (l:List Str),found[i]?=some l->nw rows found i=l
end
theorem gAdd_i {i j:Int}:aN (.int i) (.int j)=some (.leaf (.int (i+j))):=rfl
theorem sX {x y:Str} (h:x.length+y.length<=qa7):aN (.str x) (.str y)=some (.leaf (.str (x++y))):=if_pos h
theorem yr {l m:List Dt} (h:l.length+m.length<=qa7):aN (.lst l) (.lst m)=some (.lst (l++m)):=if_pos h
theorem gSub_i {i j:Int}:dN (.int i) (.int j)=some (.leaf (.int (i-j))):=rfl
theorem sY {i j:Int} (h:hV i j=true):eu (.int i) (.int j)=some (.leaf (.int (i*j))):=if_pos h
theorem eU {i j:Int} (h:0<j):b5 (.int i) (.int j)=some (.leaf (.int (i%j))):=if_pos h
theorem yt {i j:Int} (h:lT i j=true):nz (.int i) (.int j)=some (.leaf (.int (i^j.toNat))):=if_pos h
theorem sZ:lT 2 40=true:=by decide
@[irreducible] def wide:Int:=1099511627776
theorem pr:wide=1099511627776:=by unfold wide;rfl
theorem AI:nz (.int 2) (.int 40)=some (.leaf (.int wide)):=by rw [yt sZ,pr];rfl
theorem s0:(0:Int)<wide:=by rw [pr];decide
theorem gMod_w {i:Int}:b5 (.int i) (.int wide)=some (.leaf (.int (i%wide))):=eU s0
theorem gCmp_i {f:Int->Int->Bool} {i j:Int}:jr f (.int i) (.int j)=some (.leaf (.bl (f i j))):=rfl
theorem Ao {l m:List Dt} (h:(cmpbs l m&&decide (deeps l<=59))=true):eqD (.lst l) (.lst m)=some (peqs l m):=if_pos h
theorem yu {neg:Bool} {x y:Dt} {b:Bool} (h:eqD x y=some b):gEq neg x y=some (.leaf (.bl (if neg then !b else b))):=by unfold gEq;rw [h];rfl
theorem gEq_ii {i j:Int}:gEq false (.int i) (.int j)=some (.leaf (.bl (decide (i=j)))):=rfl
theorem gEq_ss {i j:Str}:gEq false (.str i) (.str j)=some (.leaf (.bl (decide (i=j)))):=rfl
theorem gNe_ss {i j:Str}:gEq true (.str i) (.str j)=some (.leaf (.bl (!decide (i=j)))):=rfl
theorem mD {l:List Dt} {i:Int}:aw (.lst l) (.int i)=(atI l i).map .leaf:=rfl
theorem wI {l:List Dt} {i:Int}:aw (.tup l) (.int i)=(atI l i).map .leaf:=rfl
theorem Ap {x:Str} {i:Int} (h:x.length<=qa7):aw (.str x) (.int i)=(atI x.cps.toList i).map fun c=>.leaf (.str ⟨#[c]⟩):=if_pos h
theorem Aq {neg:Bool} {x:Dt} {l:List Dt} (h:(bG x&&l.all bG)=true):cW neg x (.lst l)=some (.leaf (.bl (if neg then !(l.any fun y=>eqF y x) else l.any fun y=>eqF y x))):=by cases x<;>simp only [cW,gIn,inD]<;>first | rw [if_pos h];rfl | cases h
theorem gIn_t {neg:Bool} {x:Dt} {l:List Dt} (h:(bG x&&l.all bG)=true):cW neg x (.tup l)=some (.leaf (.bl (if neg then !(l.any fun y=>eqF y x) else l.any fun y=>eqF y x))):=by cases x<;>simp only [cW,gIn,inD]<;>first | rw [if_pos h];rfl | cases h
theorem gLen_l {l:List Dt}:bR [.lst l]=some (.leaf (.int l.length)):=rfl
theorem gLen_t {l:List Dt}:bR [.tup l]=some (.leaf (.int l.length)):=rfl
theorem Ar {l:List Dt}:b6 [.lst l]=some (.leaf (.tup l)):=rfl
theorem AJ {l:List Dt}:iQ [.tup l]=some (.lst l):=rfl
theorem yv {j:Int} (h:jN j=true):fN [.int j]=some (eL 0 j.toNat):=if_pos h
theorem tf {j:Int} (h0:-1000000000<=j) (h1:j<=1000000000):jN j=true:=by unfold jN;simp only [qb1,decide_eq_true_eq];lia
theorem tj {n:Nat} (h:n<=1000000000):fN [.int n]=some (eL 0 n):=by rw [yv (tf (by lia) (by lia))];rfl
theorem itD_l {l:List Dt}:itD (.lst l)=some l:=rfl
theorem itD_t {l:List Dt}:itD (.tup l)=some l:=rfl
theorem truD_b {b:Bool}:uR (.bl b)=some b:=rfl
theorem asB_b {b:Bool}:asB (.leaf (.bl b))=some b:=rfl
theorem As {b:Int}:asI (.int b)=some b:=rfl
theorem small {n:Nat} (h:n<=1000000):n<=qa7:=qc5 h (by decide)
theorem mE {n:Nat} (h:n<1000000):n<qa7:=qb6 h (by decide)
theorem kg {bb:Dt->De->Option De} {ft:De->Option Bool} {fe:De->Option Dt} {δ:De} {f:Dt->Dt}:∀ {ds:List Dt},(∀ d∈ds,∃ δ1,bb d δ=some δ1/\ft δ1=some true/\fe δ1=some (f d))->bm bb ft fe δ ds=some (ds.map f)
 | [],_=>rfl
 | d::r,h=>by obtain ⟨δ1,h1,h2,h3⟩:=h d qf0;unfold bm;rw [h1,qa1,h2,qa1,if_pos rfl,h3,qa1,kg fun e he=>h e (qe4 _ he)];rfl
theorem tm {src:List (Option Nat)} {fi:De->Option (List Dt)} {bb:Dt->De->Option De} {ft:De->Option Bool} {fe:De->Option Dt} {δ:De} {ds ys:List Dt} (h1:fi δ=some ds) (h2:bm bb ft fe (dC src δ) ds=some ys) (h3:ys.length<=1000000):aU src fi bb ft fe δ=some (.lst ys):=by unfold aU;rw [h1,qa1,h2,qa1];exact if_pos (small h3)
theorem bF {bb:Dt->De->Option De} {g:De->Option Out} {d:Dt} {r:List Dt} {δ δ1 δ2:De} (h1:bb d δ=some δ1) (h2:g δ1=some (.nx δ2)):c8 bb g (d::r) δ=c8 bb g r δ2:=by show ((bb d δ).bind fun δ1=>(g δ1).bind fun o=>match o with | .nx δ2=>c8 bb g r δ2 | .ct δ2=>c8 bb g r δ2 | .bk δ2=>some (.nx δ2) | .rt t=>some (.rt t) | .re t δ2=>some (.re t δ2))=_;rw [h1,qa1,h2];rfl
theorem bz {α:Type} {l:List α} {k:Nat}:atI l (k:Int)=l[k]?:=by
 unfold atI ixN;rw [if_pos (by lia)];by_cases h:k<l.length
 . rw [if_pos (by lia)];simp
 . rw [if_neg (by lia)];simp;lia
theorem gMul_l {i j:Int} (h1:-1000000000000000000<i) (h2:i<1000000000000000000):eu (.int i) (.int j)=some (.leaf (.int (i*j))):=sY (uW h1 h2)
theorem gMul_r {i j:Int} (h1:-1000000000000000000<j) (h2:j<1000000000000000000):eu (.int i) (.int j)=some (.leaf (.int (i*j))):=sY (uX h1 h2)
noncomputable def pw (o:Option Out) (g:De->Option Out):Option Out:=o.bind fun o=>match o with
 | .nx δ'=>g δ'
 | o=>some o
theorem cE {g1 g2:De->Option Out} {δ:De}:aD g1 g2 δ=pw (g1 δ) g2:=rfl
theorem bH {δ:De} {g:De->Option Out}:pw (some (.nx δ)) g=g δ:=rfl
theorem At {t:T} {g:De->Option Out}:pw (some (.rt t)) g=some (.rt t):=rfl
noncomputable def jb:Option Out->Option T
 | some (.rt t)=>some t
 | some (.nx _)=>some (.leaf .non)
 | _=>none
theorem lh {m:Nat} {g:De->Option Out} {ds:List Dt}:cy m g ds=jb (g (ds.map (fun d=>some (.leaf d))++qd3 (m-ds.length) none)):=rfl
theorem AK {t:T}:jb (some (.rt t))=some t:=rfl
noncomputable def gu {α:Type} (b:Option Bool) (f g:De->Option α) (δ:De):Option α:=b.bind fun b=>if b then f δ else g δ
theorem vA {α:Type} {f g:De->Option α} {δ:De}:gu (some true) f g δ=f δ:=rfl
theorem vC {α:Type} {f g:De->Option α} {δ:De}:gu (some false) f g δ=g δ:=rfl
theorem du {α:Type} {f g:De->Option α} {δ:De} {b:Bool} (h:b=true):gu (some b) f g δ=f δ:=by subst h;rfl
theorem dv {α:Type} {f g:De->Option α} {δ:De} {b:Bool} (h:b=false):gu (some b) f g δ=g δ:=by subst h;rfl
theorem Au {c:De->Option Bool} {g1 g2:De->Option Out} {δ:De}:sIf c g1 g2 δ=gu (c δ) g1 g2 δ:=rfl
theorem vIf_d {c:De->Option Bool} {g1 g2:De->Option T} {δ:De}:vIf c g1 g2 δ=gu (c δ) g1 g2 δ:=rfl
noncomputable def kB (b:Bool):De->Option Bool:=fun _=>some b
theorem kB_d {b:Bool} {δ:De}:kB b δ=some b:=rfl
theorem fAnd_d {f g:De->Option Bool} {δ:De}:jq f g δ=gu (f δ) g (kB false) δ:=rfl
theorem fOr_d {f g:De->Option Bool} {δ:De}:fOr f g δ=gu (f δ) (kB true) g δ:=rfl
noncomputable def mkL (ds:List Dt):Option T:=if ds.length<=qa7 then some (.lst ds) else none
noncomputable def mkTp (ds:List Dt):Option T:=if ds.length<=qa7 then some (.leaf (.tup ds)) else none
theorem bE {ds:List Dt} (h:ds.length<=1000000):mkL ds=some (.lst ds):=if_pos (small h)
theorem lj {ds:List Dt} (h:ds.length<=1000000):mkTp ds=some (.leaf (.tup ds)):=if_pos (small h)
theorem yw {f:De->Option (List Dt)} {δ:De}:bU f δ=(f δ).bind mkL:=rfl
theorem nZ {f:De->Option (List Dt)} {δ:De}:aZ f δ=(f δ).bind mkTp:=rfl
theorem AL {src:List (Option Nat)} {fi:De->Option (List Dt)} {bb:Dt->De->Option De} {ft:De->Option Bool} {fe:De->Option Dt} {δ:De}:aU src fi bb ft fe δ=(fi δ).bind fun ds=>(bm bb ft fe (dC src δ) ds).bind mkL:=rfl
noncomputable def appL (l:List Dt) (i:Nat) (δ:De) (d:Dt):Option Out:=if l.length<qa7 then some (.nx (δ.set i (some (.lst (l++[d]))))) else none
theorem dw {l:List Dt} {i:Nat} {δ:De} {d:Dt} (h:l.length<1000000):appL l i δ d=some (.nx (δ.set i (some (.lst (l++[d]))))):=if_pos (mE h)
theorem ib {i:Nat} {f:De->Option Dt} {δ:De} {l:List Dt} (h:δ[i]?=some (some (.lst l))):q20 i f δ=(f δ).bind (appL l i δ):=by unfold q20;rw [h];rfl
theorem jc:∀ ts:List Str,gM (ts.map .str)=some ts
 | []=>rfl
 | t::r=>by show (gM (r.map .str)).map (t::·)=_;rw [jc r];rfl
theorem yx {α:Type} {xs:List α} {i:Int} (h0:0<=i) (h1:i<xs.length):∃ v,atI xs i=some v/\v∈xs:=by
 obtain ⟨n,rfl⟩:=Int.eq_ofNat_of_zero_le h0;have hn:n<xs.length:=by lia
 exact ⟨xs[n],uE (by simp [hn]),qt3 hn⟩
theorem vD (x:Str):x.length=x.cps.toList.length:=by show x.cps.size=_;simp
theorem ll {x:Str} {i:Int} (hl:x.length<=1000000) (h0:0<=i) (h1:i<x.length):∃ c,aw (.str x) (.int i)=some (.leaf (.str ⟨#[c]⟩))/\c∈x.cps.toList:=by obtain ⟨c,e,hm⟩:=yx (xs:=x.cps.toList) h0 (by rw [<- vD];exact h1);refine ⟨c,?_,hm⟩;rw [Ap (small hl),e];rfl
theorem fw {l m:List Dt} (h:l.length+m.length<=1000000):aN (.lst l) (.lst m)=some (.lst (l++m)):=yr (small h)
theorem AM {i:Int}:bG (.int i)=true:=rfl
theorem AN {x:Str}:bG (.str x)=true:=rfl
theorem eqF_s {x y:Str}:eqF (.str x) (.str y)=decide (x=y):=by show (x==y)=_;rw [qj6];simp
theorem eqF_i {x y:Int}:eqF (.int x) (.int y)=decide (x=y):=by show (x==y)=_;rw [qj6];simp
theorem jd:∀ {l m:List Dt},l.all bG=true->m.all bG=true->cmpbs l m=true
 | [],m,_,_=>by cases m<;>simp [cmpbs]
 | _::_,[],_,_=>by simp [cmpbs]
 | d::l,e::m,h,h'=>by
  simp only [qj1,qb1] at h h';simp only [cmpbs,jd h.2 h'.2,qt7];cases d<;>first | (cases h.1;done) | skip
  all_goals cases e<;>first | (cases h'.1;done) | rfl
theorem je:∀ {l:List Dt},l.all bG=true->deeps l=0
 | [],_=>by simp [deeps]
 | d::l,h=>by simp only [qj1,qb1] at h;simp only [deeps,je h.2];cases d<;>first | (cases h.1;done) | rfl
theorem tp {neg:Bool} {l m:List Dt} (hl:l.all bG=true) (hm:m.all bG=true):gEq neg (.lst l) (.lst m)=some (.leaf (.bl (if neg then !peqs l m else peqs l m))):=yu (Ao (by rw [jd hl hm,je hl];rfl))
theorem sFor_d {fi:De->Option (List Dt)} {bb:Dt->De->Option De} {g:De->Option Out} {δ:De}:dJ fi bb g δ=(fi δ).bind fun ds=>c8 bb g ds δ:=rfl
theorem atI_0 {α:Type} {l:List α}:atI l 0=l[0]?:=bz (k:=0)
theorem atI_1 {α:Type} {l:List α}:atI l 1=l[1]?:=bz (k:=1)
theorem atI_2 {α:Type} {l:List α}:atI l 2=l[2]?:=bz (k:=2)
theorem atI_3 {α:Type} {l:List α}:atI l 3=l[3]?:=bz (k:=3)
theorem atI_4 {α:Type} {l:List α}:atI l 4=l[4]?:=bz (k:=4)
theorem atI_5 {α:Type} {l:List α}:atI l 5=l[5]?:=bz (k:=5)
theorem atI_6 {α:Type} {l:List α}:atI l 6=l[6]?:=bz (k:=6)
theorem atI_11 {α:Type} {l:List α}:atI l 11=l[11]?:=bz (k:=11)
theorem tq {δ:Sl} {ch:CH} {i:Nat} {d:Dt} (h:δ[i]?=some (some (.dat d))):(lo δ ch)[i]?=some (some (.leaf d)):=by
 have key:∀ (δ:Sl) (u:List Nat) (i:Nat),δ[i]?=some (some (.dat d))->(loA ch u δ)[i]?=some (some (.leaf d)):=fun δ=>by
  induction δ with
  | nil=>intro u i h;simp at h
  | cons x r ih =>
   intro u i h;cases i with
   | zero =>simp only [qj2,qi0] at h;subst h;rfl
   | succ i =>
    have h':r[i]?=some (some (.dat d)):=by simpa using h
    cases x with
    | none=>simpa [loA] using ih u i h'
    | some c=>cases c with
     | dat e=>simpa [loA] using ih u i h'
     | ref j=>simpa [loA] using ih (j::u) i h'
     | fn a F0=>simpa [loA] using ih u i h'
 exact key δ [] i h
open PySem
theorem yy:(qa0 "copy"=qa0 "op")=False:=eq_false (by decide +kernel)
theorem vE:(qa0 "copy"=qa0 "load")=False:=eq_false (by decide +kernel)
theorem ug:(qa0 "copy"=qa0 "store")=False:=eq_false (by decide +kernel)
theorem vF:(qa0 "copy"=qa0 "take")=False:=eq_false (by decide +kernel)
theorem wJ:(qa0 "copy"=qa0 "lay")=False:=eq_false (by decide +kernel)
theorem vG:(qa0 "copy"=qa0 "hear")=False:=eq_false (by decide +kernel)
theorem wK:(qa0 "copy"=qa0 "say")=False:=eq_false (by decide +kernel)
theorem yz:(qa0 "copy"=qa0 "if")=False:=eq_false (by decide +kernel)
theorem yA:(qa0 "copy"=qa0 "go")=False:=eq_false (by decide +kernel)
theorem wL:(qa0 "copy"=qa0 "end")=False:=eq_false (by decide +kernel)
theorem yB:(qa0 "op"=qa0 "copy")=False:=eq_false (by decide +kernel)
theorem yC:(qa0 "op"=qa0 "load")=False:=eq_false (by decide +kernel)
theorem wM:(qa0 "op"=qa0 "store")=False:=eq_false (by decide +kernel)
theorem yD:(qa0 "op"=qa0 "take")=False:=eq_false (by decide +kernel)
theorem zg:(qa0 "op"=qa0 "lay")=False:=eq_false (by decide +kernel)
theorem yE:(qa0 "op"=qa0 "hear")=False:=eq_false (by decide +kernel)
theorem zh:(qa0 "op"=qa0 "say")=False:=eq_false (by decide +kernel)
theorem Av:(qa0 "op"=qa0 "if")=False:=eq_false (by decide +kernel)
theorem Aw:(qa0 "op"=qa0 "go")=False:=eq_false (by decide +kernel)
theorem zi:(qa0 "op"=qa0 "end")=False:=eq_false (by decide +kernel)
theorem vH:(qa0 "load"=qa0 "copy")=False:=eq_false (by decide +kernel)
theorem yF:(qa0 "load"=qa0 "op")=False:=eq_false (by decide +kernel)
theorem uh:(qa0 "load"=qa0 "store")=False:=eq_false (by decide +kernel)
theorem vI:(qa0 "load"=qa0 "take")=False:=eq_false (by decide +kernel)
theorem wN:(qa0 "load"=qa0 "lay")=False:=eq_false (by decide +kernel)
theorem vJ:(qa0 "load"=qa0 "hear")=False:=eq_false (by decide +kernel)
theorem wO:(qa0 "load"=qa0 "say")=False:=eq_false (by decide +kernel)
theorem yG:(qa0 "load"=qa0 "if")=False:=eq_false (by decide +kernel)
theorem yH:(qa0 "load"=qa0 "go")=False:=eq_false (by decide +kernel)
theorem wP:(qa0 "load"=qa0 "end")=False:=eq_false (by decide +kernel)
theorem ui:(qa0 "store"=qa0 "copy")=False:=eq_false (by decide +kernel)
theorem wQ:(qa0 "store"=qa0 "op")=False:=eq_false (by decide +kernel)
theorem uj:(qa0 "store"=qa0 "load")=False:=eq_false (by decide +kernel)
theorem uk:(qa0 "store"=qa0 "take")=False:=eq_false (by decide +kernel)
theorem vK:(qa0 "store"=qa0 "lay")=False:=eq_false (by decide +kernel)
theorem ul:(qa0 "store"=qa0 "hear")=False:=eq_false (by decide +kernel)
theorem vM:(qa0 "store"=qa0 "say")=False:=eq_false (by decide +kernel)
theorem wR:(qa0 "store"=qa0 "if")=False:=eq_false (by decide +kernel)
theorem wS:(qa0 "store"=qa0 "go")=False:=eq_false (by decide +kernel)
theorem vN:(qa0 "store"=qa0 "end")=False:=eq_false (by decide +kernel)
theorem vO:(qa0 "take"=qa0 "copy")=False:=eq_false (by decide +kernel)
theorem yI:(qa0 "take"=qa0 "op")=False:=eq_false (by decide +kernel)
theorem vP:(qa0 "take"=qa0 "load")=False:=eq_false (by decide +kernel)
theorem um:(qa0 "take"=qa0 "store")=False:=eq_false (by decide +kernel)
theorem wT:(qa0 "take"=qa0 "lay")=False:=eq_false (by decide +kernel)
theorem vQ:(qa0 "take"=qa0 "hear")=False:=eq_false (by decide +kernel)
theorem wU:(qa0 "take"=qa0 "say")=False:=eq_false (by decide +kernel)
theorem yJ:(qa0 "take"=qa0 "if")=False:=eq_false (by decide +kernel)
theorem yK:(qa0 "take"=qa0 "go")=False:=eq_false (by decide +kernel)
theorem wV:(qa0 "take"=qa0 "end")=False:=eq_false (by decide +kernel)
theorem wW:(qa0 "lay"=qa0 "copy")=False:=eq_false (by decide +kernel)
theorem zj:(qa0 "lay"=qa0 "op")=False:=eq_false (by decide +kernel)
theorem wX:(qa0 "lay"=qa0 "load")=False:=eq_false (by decide +kernel)
theorem vR:(qa0 "lay"=qa0 "store")=False:=eq_false (by decide +kernel)
theorem wY:(qa0 "lay"=qa0 "take")=False:=eq_false (by decide +kernel)
theorem wZ:(qa0 "lay"=qa0 "hear")=False:=eq_false (by decide +kernel)
theorem yL:(qa0 "lay"=qa0 "say")=False:=eq_false (by decide +kernel)
theorem zm:(qa0 "lay"=qa0 "if")=False:=eq_false (by decide +kernel)
theorem zn:(qa0 "lay"=qa0 "go")=False:=eq_false (by decide +kernel)
theorem yM:(qa0 "lay"=qa0 "end")=False:=eq_false (by decide +kernel)
theorem vS:(qa0 "hear"=qa0 "copy")=False:=eq_false (by decide +kernel)
theorem yN:(qa0 "hear"=qa0 "op")=False:=eq_false (by decide +kernel)
theorem vT:(qa0 "hear"=qa0 "load")=False:=eq_false (by decide +kernel)
theorem uo:(qa0 "hear"=qa0 "store")=False:=eq_false (by decide +kernel)
theorem vU:(qa0 "hear"=qa0 "take")=False:=eq_false (by decide +kernel)
theorem w4:(qa0 "hear"=qa0 "lay")=False:=eq_false (by decide +kernel)
theorem w6:(qa0 "hear"=qa0 "say")=False:=eq_false (by decide +kernel)
theorem yO:(qa0 "hear"=qa0 "if")=False:=eq_false (by decide +kernel)
theorem yP:(qa0 "hear"=qa0 "go")=False:=eq_false (by decide +kernel)
theorem w8:(qa0 "hear"=qa0 "end")=False:=eq_false (by decide +kernel)
theorem zo:(qa0 "say"=qa0 "if")=False:=eq_false (by decide +kernel)
theorem zp:(qa0 "say"=qa0 "go")=False:=eq_false (by decide +kernel)
theorem yQ:(qa0 "say"=qa0 "end")=False:=eq_false (by decide +kernel)
theorem Ax:(qa0 "if"=qa0 "go")=False:=eq_false (by decide +kernel)
theorem zq:(qa0 "if"=qa0 "end")=False:=eq_false (by decide +kernel)
theorem zr:(qa0 "go"=qa0 "end")=False:=eq_false (by decide +kernel)
theorem zt:(qa0 "end"=qa0 "if")=False:=eq_false (by decide +kernel)
theorem zu:(qa0 "end"=qa0 "go")=False:=eq_false (by decide +kernel)
section
variable {c f m:Str} {fa fb fe fk fo fx:Fg} {fs:Fgs} {g:Fd} {δ:Sl} {ch ch1 ch2 ch3:CH} {i:Nat} {ns:List Str} {l cs:List CV} {x v w:CV} {d:Dt} {o o':CO}
theorem jf (he:fe δ ch=some (v,ch1)) (ha:fa δ ch1=some (.ref i,ch2)) (hk:fk δ ch2=some (.dat d,ch3)) (ho:ch3[i]?=some o) (hp:qq o d v=some o'):hX fa fk fe δ ch=some (.nx δ (ch3.set i o')):=by unfold hX;rw [he,qa1];dsimp only;rw [ha,qa1];dsimp only;rw [hk,qa1];simp only [ho,qa1,hp,qf5]
theorem dZ {fd:De->Option Dt} (h:fd (lo δ ch)=some d):eD fd δ ch=some (.dat d,ch):=by unfold eD;rw [h];rfl
theorem w9 {ft:De->Option Bool} {b:Bool} (h:ft (lo δ ch)=some b):tD ft δ ch=some (b,ch):=by unfold tD;rw [h];rfl
theorem mF (h:δ[i]?=some (some v)):eV i δ ch=some (v,ch):=by unfold eV;rw [h]
theorem bA (h:fa δ ch=some (v,ch1)):bv i fa δ ch=some (.nx (δ.set i (some v)) ch1):=by unfold bv;rw [h];rfl
theorem jg (h:fa δ ch=some (v,ch1)):iS fa δ ch=some (.rt v ch1):=by unfold iS;rw [h];rfl
theorem tu {i:Nat} (hl:i<δ.length):mgS [i] δ ((lo δ ch).set i (some (.leaf d)))=δ.set i (some (.dat d)):=by
 have h2:(lo δ ch).length=δ.length:=fm ch [] δ;apply qr8;intro j;unfold mgS;rw [qo6];by_cases e:i=j
 . subst e;rw [qd1 hl,gQ hl,qd1 (by rw [h2];exact hl)];simp
 . rw [gN e,gN e];have e':¬ j=i:=fun z=>e z.symm
   cases h:δ[j]? with
   | none=>rfl
   | some x=>simp [e']
theorem iu {i:Nat} {g:Fs} {r:List Dt} {δ2:Sl} (hl:i<δ.length) (h:g (δ.set i (some (.dat d))) ch=some (.nx δ2 ch2)):iT [i] (ao i) g (d::r) δ ch=iT [i] (ao i) g r δ2 ch2:=by show ((ao i d (lo δ ch)).bind fun δ1=>(g (mgS [i] δ δ1) ch).bind fun o=>_)=_;unfold ao;rw [qa1,tu hl,h];rfl
end
noncomputable def Atm.d:Atm->Dt
 | .nm x=>.str x
 | .vl i=>.int i
noncomputable def Rw.d:Rw->Dt
 | .copy x a=>.tup [.str "copy",.str x,a.d]
 | .op x s a b=>.tup [.str "op",.str x,.str s,a.d,b.d]
 | .load x c=>.tup [.str "load",.str x,.str c]
 | .store c a=>.tup [.str "store",.str c,a.d]
 | .take x f a=>.tup [.str "take",.str x,.str f,a.d]
 | .lay f a b=>.tup [.str "lay",.str f,a.d,b.d]
 | .hear x=>.tup [.str "hear",.str x]
 | .say a=>.tup [.str "say",a.d]
 | .iff a g=>.tup [.str "if",a.d,.int g]
 | .go g=>.tup [.str "go",.int g]
 | .fin a=>.tup [.str "end",a.d]
noncomputable def dI (j:Nat):Dt:=.int (j:Int)
noncomputable def dS (l:List Str):Dt:=.lst (l.map .str)
noncomputable def dF (f:List (List Str)):Dt:=.lst (f.map dS)
noncomputable def dR (rows:List Rw):Dt:=.tup (rows.map Rw.d)
theorem bN {α:Type} {bb:Dt->De->Option De} {ft:De->Option Bool} {fe:De->Option Dt} {δ:De} {f h:α->Dt}:∀ {l:List α},(∀ a∈l,∃ δ1,bb (f a) δ=some δ1/\ft δ1=some true/\fe δ1=some (h a))->bm bb ft fe δ (l.map f)=some (l.map h)
 | [],_=>rfl
 | a::l,q=>by obtain ⟨δ1,h1,h2,h3⟩:=q a qf0;rw [qa5];unfold bm;rw [h1,qa1,h2,qa1,if_pos rfl,h3,qa1,bN fun e he=>q e (qe4 _ he)];rfl
theorem bO {α:Type} {bb:Dt->De->Option De} {ft:De->Option Bool} {fe:De->Option Dt} {δ:De} {f h:α->Dt} {p:α->Bool}:∀ {l:List α},(∀ a∈l,∃ δ1,bb (f a) δ=some δ1/\ft δ1=some (p a)/\(p a=true->fe δ1=some (h a)))->bm bb ft fe δ (l.map f)=some ((l.filter p).map h)
 | [],_=>rfl
 | a::l,q=>by
  obtain ⟨δ1,h1,h2,h3⟩:=q a qf0;have ih:=bO (l:=l) fun e he=>q e (qe4 _ he)
  rw [qa5];unfold bm;rw [h1,qa1,h2,qa1];cases hp:p a with
  | true =>rw [if_pos rfl,h3 hp,qa1,ih,List.filter_cons_of_pos hp];rfl
  | false =>rw [if_neg (by simp),ih,List.filter_cons_of_neg (by simp [hp])]
theorem qG {α:Type} {f:α->Dt}:∀ (l:List α) (i:Nat),cu i (l.map f)=(l.mapIdx fun k a=>Dt.tup [.int ((i+k:Nat):Int),f a])
 | [],_=>rfl
 | a::l,i=>by rw [qa5,cu,qG l (i+1),za4];congr 1;congr 1;funext k a;rw [show i+1+k=i+(k+1) by lia]
theorem jh {α:Type} {bb:Dt->De->Option De} {fe:De->Option Dt} {δ:De} {f:α->Dt} {h:Nat->α->Dt}:∀ {l:List α} (i:Nat),(∀ k a,∃ δ1,bb (.tup [.int ((k:Nat):Int),f a]) δ=some δ1/\fe δ1=some (h k a))->bm bb aR fe δ (cu i (l.map f))=some (l.mapIdx fun k a=>h (i+k) a)
 | [],_,_=>rfl
 | a::l,i,q=>by obtain ⟨δ1,h1,h3⟩:=q i a;rw [qa5,cu];unfold bm;rw [h1,qa1];show ((fe δ1).bind fun y=>_)=_;rw [h3,qa1,jh (i+1) q,za4];show some _=some _;congr 1;congr 1;congr 1;funext k a;rw [show i+1+k=i+(k+1) by lia]
theorem c9 (l:List Str):(l.map Dt.str).all bG=true:=by rw [qm8];intro x hx;obtain ⟨y,_,rfl⟩:=qc1.mp hx;rfl
theorem vV (l:List Str) (x:Str):((l.map Dt.str).any fun y=>eqF y (.str x))=decide (x∈l):=by
 induction l with
 | nil=>rfl
 | cons a l ih =>
  rw [qa5,qh6,ih,show eqF (.str a) (.str x)=decide (a=x) from rfl];by_cases h:a=x
  . simp [h]
  . have:¬ x=a:=fun z=>h z.symm
    simp [h,this]
theorem mG {neg:Bool} {l:List Str} {x:Str}:cW neg (.str x) (.lst (l.map .str))=some (.leaf (.bl (if neg then !decide (x∈l) else decide (x∈l)))):=by rw [Aq (by rw [c9];rfl),vV]
theorem ic {l:List Str} (h:l.length<64):cV [.lst (l.map .str)]=some (.lst ((dP (bY l)).map .str)):=by unfold cV qE;dsimp only;rw [jc,qa1,if_pos ⟨by lia,qw0 (j7 l) h⟩]
noncomputable def extL (l m:List Dt) (i:Nat) (δ:De):Option Out:=if l.length+m.length<=qa7 then some (.nx (δ.set i (some (.lst (l++m))))) else none
theorem pz {l m:List Dt} {i:Nat} {δ:De} (h:l.length+m.length<=1000000):extL l m i δ=some (.nx (δ.set i (some (.lst (l++m))))):=if_pos (small h)
theorem xa {i:Nat} {f:De->Option T} {δ:De} {l m:List Dt} (h:δ[i]?=some (some (.lst l))) (hf:f δ=some (.lst m)):q46 i f δ=extL l m i δ:=by unfold q46;rw [h];dsimp only;rw [hf];rfl
theorem kh:∀ {l m:List Str},peqs (l.map .str) (m.map .str)=decide (l=m)
 | [],[]=>rfl
 | [],_::_=>rfl
 | _::_,[]=>rfl
 | a::l,b::m=>by rw [qa5,qa5];show (decide (a=b)&&peqs (l.map .str) (m.map .str))=_;rw [kh];by_cases h1:a=b<;>by_cases h2:l=m<;>simp [h1,h2]
theorem tw {neg:Bool} {l m:List Str}:gEq neg (.lst (l.map .str)) (.lst (m.map .str))=some (.leaf (.bl (if neg then !decide (l=m) else decide (l=m)))):=by rw [tp (c9 l) (c9 m),kh]
noncomputable def cS (l:List Str):CO:=.lst (l.map fun x=>.dat (.str x))
structure Pl (ch:CH) (fi:Nat) (refs:List Nat) (found:List (List Str)):Prop where
 top:ch[fi]?=some (.lst (refs.map CV.ref))
 len:refs.length=found.length
 out:fi∉refs
 has:∀ (k r:Nat) (l:List Str),refs[k]?=some r->found[k]?=some l->ch[r]?=some (cS l)
theorem lm {ch:CH} {d:Dt}:∀ n:Nat,vwD ch n (.dat d)=some d
 | 0=>by simp only [vwD]
 | n+1=>by simp only [vwD]
theorem ki {ch:CH} {n:Nat}:∀ l:List Str,dz (vwD ch n) (l.map fun x=>CV.dat (.str x))=some (l.map .str)
 | []=>rfl
 | x::l=>by rw [qa5];unfold dz;rw [lm,qa1,ki l];rfl
theorem mH {ch:CH} {r n:Nat} {l:List Str} (h:ch[r]?=some (cS l)):vwD ch (n+1) (.ref r)=some (dS l):=by unfold vwD;rw [h];show (dz (vwD ch n) _).map _=_;rw [ki];rfl
theorem km {ch:CH} {n:Nat}:∀ {refs:List Nat} {found:List (List Str)},refs.length=found.length->(∀ (k r:Nat) (l:List Str),refs[k]?=some r->found[k]?=some l->ch[r]?=some (cS l))->dz (vwD ch (n+1)) (refs.map CV.ref)=some (found.map dS)
 | [],[],_,_=>rfl
 | [],_::_,h,_=>by cases h
 | _::_,[],h,_=>by cases h
 | r::refs,l::found,h,q=>by rw [qa5];unfold dz;rw [mH (q 0 r l rfl rfl),qa1,km (by simpa using h) fun k r l h1 h2=>q (k+1) r l (by simpa using h1) (by simpa using h2)];rfl
section
variable {ch:CH} {fi:Nat} {refs:List Nat} {found:List (List Str)}
theorem Pl.view (h:Pl ch fi refs found):vwD ch 2 (.ref fi)=some (dF found):=by unfold vwD;rw [h.top];show (dz (vwD ch 1) _).map _=_;rw [km h.len h.has];rfl
theorem Pl.lt (h:Pl ch fi refs found):fi<ch.length:=(gX h.top).1
theorem pA {ch g:CH} {i:Nat} {o:CO} (h:ch[i]?=some o):(ch++g)[i]?=some o:=by rw [qc2 (gX h).1];exact h
theorem Pl.app (h:Pl ch fi refs found) (g:CH):Pl (ch++g) fi refs found:=⟨pA h.top,h.len,h.out,fun k r l h1 h2=>pA (h.has k r l h1 h2)⟩
theorem Pl.put (h:Pl ch fi refs found) {i new:Nat} {m:List Str} (hm:ch[new]?=some (cS m)) (hn:new≠fi):Pl (ch.set fi (.lst ((refs.map CV.ref).set i (.ref new)))) fi (refs.set i new) (found.set i m):=by
 have hlt:=h.lt;refine ⟨by rw [qd1 hlt,List.map_set],by simp [h.len],fun z=>?_,fun k r l h1 h2=>?_⟩
 . rcases qx0 z with z | z
   . exact h.out z
   . exact hn z.symm
 . have hr:r≠fi:=fun e=>by
    rw [e] at h1;rcases qx0 (qf9 h1) with z | z
    . exact h.out z
    . exact hn z.symm
   rw [gN (qk6 hr)];rw [qx8] at h1 h2;split at h1
   . rename_i e;subst e;rw [if_pos rfl] at h2;split at h1<;>cases h1
     split at h2<;>cases h2
     exact hm
   . rename_i e;rw [if_neg e] at h2;exact h.has k r l h1 h2
end
theorem yR {m:Nat} {f:De->Option T} {δ:Sl} {ch:CH} {l:List Str} (h:f (loD m δ ch)=some (.lst (l.map .str))):eDV m f δ ch=some (.ref ch.length,ch++[cS l]):=by unfold eDV;rw [h,qa1];unfold o7;dsimp only;rw [if_pos (c9 l),qa1];unfold al cS;simp
theorem yS {m:Nat} {f:De->Option Bool} {δ:Sl} {ch:CH} {b:Bool} (h:f (loD m δ ch)=some b):tDV m f δ ch=some (b,ch):=by unfold tDV;rw [h];rfl
theorem bi {g1 g2:Fs} {δ δ1:Sl} {ch ch1:CH} (h:g1 δ ch=some (.nx δ1 ch1)):bX g1 g2 δ ch=g2 δ1 ch1:=by unfold bX;rw [h];rfl
theorem pB {c:Ft} {g1 g2:Fs} {δ:Sl} {ch ch1:CH} {b:Bool} (h:c δ ch=some (b,ch1)):l8 c g1 g2 δ ch=if b then g1 δ ch1 else g2 δ ch1:=by unfold l8;rw [h];rfl
theorem tz {c:Ft} {g1 g2:Fs} {δ:Sl} {ch ch1:CH} (h:c δ ch=some (true,ch1)):l8 c g1 g2 δ ch=g1 δ ch1:=by rw [pB h,if_pos rfl]
theorem tE {c:Ft} {g1 g2:Fs} {δ:Sl} {ch ch1:CH} (h:c δ ch=some (false,ch1)):l8 c g1 g2 δ ch=g2 δ ch1:=by rw [pB h,if_neg (by simp)]
theorem mI {c:Ft} {g:Fs} {n:Nat} {δ δ1:Sl} {ch ch1 ch2:CH} (h:c δ ch=some (true,ch1)) (hg:g δ ch1=some (.nx δ1 ch2)):cJ c g (n+1) δ ch=cJ c g n δ1 ch2:=by show ((c δ ch).bind fun p=>_)=_;rw [h,qa1];dsimp only;rw [if_pos rfl,hg];rfl
theorem mJ {c:Ft} {g:Fs} {n:Nat} {δ:Sl} {ch ch1:CH} (h:c δ ch=some (false,ch1)):cJ c g (n+1) δ ch=some (.nx δ ch1):=by show ((c δ ch).bind fun p=>_)=_;rw [h,qa1];rfl
theorem ln {m:Nat} {g:Fs} {cs:List CV} {ch ch':CH} {c:CV} (h:g (cs.map some++qd3 (m-cs.length) none) ch=some (.rt c ch')):ma m g cs ch=some (c,ch'):=by unfold ma;rw [h]
theorem tF {n k:Nat} (h:k<n):ixN n (k:Int)=some k:=by unfold ixN;rw [if_pos (by lia),if_pos (by lia)];simp
theorem yT {l:List CV} {k:Nat} {c:CV} (h:k<l.length):qq (.lst l) (dI k) c=some (.lst (l.set k c)):=by unfold qq dI;simp only [As,qa1,tF h,qf5]
theorem kn {n:Nat} (h:n<=1000):mm [.int ((n:Int)-1),.int (-1),.int (-1)]=some (((qb8 n).map fun i=>n-1-i).map dI):=by
 unfold mm
 have e:(qc6 ((n:Int)-1) (-1) (-1)).toNat=n:=by
  unfold qc6;rw [if_neg (by decide)];by_cases h0:(n:Int)-1 > -1
  . rw [if_pos h0];have:((n:Int)-1 - -1-1)/(- -1)=(n:Int)-1:=by rw [show (- -1:Int)=1 by decide,Int.ediv_one];lia
    rw [this];lia
  . rw [if_neg h0];lia
 dsimp only;rw [if_pos (show sq ((n:Int)-1) (-1) (-1)=true by unfold sq;simp;lia),e];congr 1;unfold nM;rw [qd0];refine qi3 fun i hi=>?_
 have:=qg6.mp hi;show Dt.int _=Dt.int ((n-1-i:Nat):Int);congr 1;lia
end L2
local macro_rules | `(tactic| walk_at "d") => `(tactic| simp -implicitDefEqProofs only [L2.lh, L2.AK, L2.cE, L2.bH, L2.At, L2.c7, L2.aM, L2.bV, L2.iL, L2.Au, L2.vA, L2.vC, L2.kB_d, L2.sFor_d, L2.lR, L2.toT, L2.toD, L2.T.d, L2.kD, L2.vL, L2.vB, L2.d2, L2.tB2, L2.gH, L2.uT, L2.fAnd_d, L2.fOr_d, L2.vIf_d, L2.ai, L2.aa, L2.nZ, L2.yw, L2.bE, L2.lj, L2.dw, L2.aj, L2.AL, L2.vSl, L2.gd, L2.cZ, L2.lZ, L2.wx, L2.lY, L2.ql, L2.fIt, L2.dh, L2.ao, L2.dC, L2.aR, L2.gAdd_i, L2.atI_0, L2.atI_1, L2.atI_2, L2.atI_3, L2.atI_4, L2.atI_5, L2.atI_6, L2.atI_11, L2.fw, L2.Aq, L2.gIn_t, L2.AM, L2.AN, L2.eqF_s, L2.eqF_i, qj1, List.all_nil, qh6, List.any_nil, L2.gSub_i, L2.gMul_l, L2.gMul_r, L2.eU, L2.AI, L2.gMod_w, L2.gCmp_i, L2.gEq_ii, L2.gEq_ss, L2.gNe_ss, L2.isNon, L2.mD, L2.wI, L2.gLen_l, L2.gLen_t, L2.Ar, L2.AJ, L2.itD_l, L2.itD_t, L2.truD_b, L2.asB_b, L2.As, qa5, qh2, qc0, qe9, za5, zd3, qd3, qj2, za2, qw3, qw4, qa1, Option.bind_none, qf5, zd4, qm7, Option.join_none, Nat.reduceAdd, Nat.reduceSub, Nat.reduceLeDiff, Int.reduceLT, Int.reduceEq, eq_self, Int.reduceNeg, Int.reduceLE, if_true, if_false, ite_true, ite_false, qh7, decide_true, decide_false, Bool.not_true, Bool.not_false, qt7, qo3, zg6, zg5, qz3, qz5, qr9, zd9, String.reduceBEq, reduceCtorEq])
local macro_rules | `(tactic| walk_at "k") => `(tactic| simp -implicitDefEqProofs only [L2.lh, L2.AK, L2.cE, L2.bH, L2.At, L2.c7, L2.aM, L2.bV, L2.iL, L2.Au, L2.vA, L2.vC, L2.kB_d, L2.sFor_d, L2.lR, L2.toT, L2.toD, L2.T.d, L2.kD, L2.vL, L2.vB, L2.d2, L2.tB2, L2.gH, L2.uT, L2.fAnd_d, L2.fOr_d, L2.vIf_d, L2.ai, L2.aa, L2.nZ, L2.yw, L2.bE, L2.lj, L2.dw, L2.aj, L2.AL, L2.vSl, L2.gd, L2.cZ, L2.lZ, L2.wx, L2.lY, L2.ql, L2.fIt, L2.dh, L2.ao, L2.dC, L2.aR, L2.gAdd_i, L2.atI_0, L2.atI_1, L2.atI_2, L2.atI_3, L2.atI_4, L2.atI_5, L2.atI_6, L2.atI_11, L2.fw, L2.Aq, L2.gIn_t, L2.AM, L2.AN, L2.eqF_s, L2.eqF_i, qj1, List.all_nil, qh6, List.any_nil, L2.gSub_i, L2.gMul_l, L2.gMul_r, L2.eU, L2.AI, L2.gMod_w, L2.gCmp_i, L2.gEq_ii, L2.gEq_ss, L2.gNe_ss, L2.isNon, L2.mD, L2.wI, L2.gLen_l, L2.gLen_t, L2.Ar, L2.AJ, L2.itD_l, L2.itD_t, L2.truD_b, L2.asB_b, L2.As, qa5, qh2, qc0, qe9, za5, zd3, qd3, qj2, za2, qw3, qw4, qa1, Option.bind_none, qf5, zd4, qm7, Option.join_none, Nat.reduceAdd, Nat.reduceSub, Nat.reduceLeDiff, Int.reduceLT, Int.reduceEq, eq_self, Int.reduceNeg, Int.reduceLE, if_true, if_false, ite_true, ite_false, qh7, decide_true, decide_false, Bool.not_true, Bool.not_false, qt7, qo3, zg6, zg5, qz3, qz5, qr9, zd9, String.reduceBEq, reduceCtorEq, L2.yy, L2.vE, L2.ug, L2.vF, L2.wJ, L2.vG, L2.wK, L2.yz, L2.yA, L2.wL, L2.yB, L2.yC, L2.wM, L2.yD, L2.zg, L2.yE, L2.zh, L2.Av, L2.Aw, L2.zi, L2.vH, L2.yF, L2.uh, L2.vI, L2.wN, L2.vJ, L2.wO, L2.yG, L2.yH, L2.wP, L2.ui, L2.wQ, L2.uj, L2.uk, L2.vK, L2.ul, L2.vM, L2.wR, L2.wS, L2.vN, L2.vO, L2.yI, L2.vP, L2.um, L2.wT, L2.vQ, L2.wU, L2.yJ, L2.yK, L2.wV, L2.wW, L2.zj, L2.wX, L2.vR, L2.wY, L2.wZ, L2.yL, L2.zm, L2.zn, L2.yM, L2.vS, L2.yN, L2.vT, L2.uo, L2.vU, L2.w4, L2.w6, L2.yO, L2.yP, L2.w8, L2.zo, L2.zp, L2.yQ, L2.Ax, L2.zq, L2.zr, L2.zt, L2.zu])
namespace P54
open PySem L2
theorem n4 (n:Nat) (r:Rw):y56 [.int n,r.d]=some (.leaf (.tup ((r.outs n).map dI))):=by cases r<;>kernel_rfl
noncomputable def dW (rows:List Rw):Dt:=.lst (rows.mapIdx fun k r=>.tup ((r.outs k).map dI))
theorem lp (c s:Dt) (rows:List Rw) (h:rows.length<=1000):cY [.tup [c,s,dR rows]]=some (.lst (rows.mapIdx fun k r=>.tup ((r.outs k).map dI))):=by
 unfold cY;walk_at "k";unfold hW dR;walk_at "k"
 rw [jh (h:=fun k r=>.tup ((r.outs k).map dI)) 0 fun k a=>⟨_,rfl,by unfold q83;walk_at "k";rw [n4];walk_at "k"⟩]
 walk_at "k";rw [bE (by rw [List.length_mapIdx];lia)];walk_at "k";simp
theorem tH (r:Rw):y67 [r.d]=some (.leaf (match r.sets with | some x=>.str x | none=>.non)):=by cases r<;>kernel_rfl
theorem tI (r:Rw):z67 [r.d]=some (.leaf (.tup (r.atoms.map Atm.d))):=by cases r<;>kernel_rfl
theorem fU (x0:Option T):∀ (as:List Atm) (acc:List Str) (x2:Option T),acc.length+as.length<=10->∃ y,c8 (ao 2) z56 (as.map Atm.d) [x0,some (.lst (acc.map .str)),x2]=some (.nx [x0,some (.lst (((nms as).foldl once acc).map .str)),y])
 | [],acc,x2,_=>⟨x2,rfl⟩
 | .vl i::as,acc,x2,h=>by obtain ⟨y,e⟩:=fU x0 as acc (some (.leaf (.int i))) (by simp at h ⊢;lia);refine ⟨y,?_⟩;rw [qa5,bF (δ1:=[x0,some (.lst (acc.map .str)),some (.leaf (.int i))]) (δ2:=[x0,some (.lst (acc.map .str)),some (.leaf (.int i))]) rfl (by unfold z56;walk_at "k"<;>rfl)];exact e
 | .nm x::as,acc,x2,h=>by
  have hl:acc.length<10:=by simp at h;lia
  obtain ⟨y,e⟩:=fU x0 as (once acc x) (some (.leaf (.str x))) (by
   have:(once acc x).length<=acc.length+1:=by unfold once;split<;>simp
   simp at h ⊢;lia)
  refine ⟨y,?_⟩;rw [qa5,bF (δ1:=[x0,some (.lst (acc.map .str)),some (.leaf (.str x))]) (δ2:=[x0,some (.lst ((once acc x).map .str)),some (.leaf (.str x))]) rfl ?_]
  . exact e
  . unfold z56 once;walk_at "k";rw [mG];walk_at "k";by_cases hx:x∈acc
    . rw [dv (by simp [hx]),if_pos hx];rfl
    . rw [du (by simp [hx]),if_neg hx,ib rfl];walk_at "k";rw [dw (by rw [qa3];lia)];simp
theorem tJ (r:Rw):y59 [r.d]=some (.lst (r.reads.map .str)):=by
 have hl:r.atoms.length<=2:=by cases r<;>simp [Rw.atoms]
 obtain ⟨y,e⟩:=fU (some (.leaf r.d)) r.atoms [] none (by simp;lia);unfold y59;walk_at "k";rw [tI];walk_at "k";rw [show ([]:List Dt)=([]:List Str).map .str from rfl,e];walk_at "k";rfl
theorem qH (r:Rw) (l:List Str):bm (ao 0) y38 (vL 0) [none,some (.leaf r.d)] (l.map .str)=some ((l.filter fun b=>decide (r.sets≠some b)).map .str):=
 bO fun b _=>⟨[some (.leaf (.str b)),some (.leaf r.d)],rfl,by
  unfold y38;walk_at "k";rw [tH];walk_at "k";cases hs:r.sets with
  | none =>walk_at "k";rw [show gEq true (Dt.str b) Dt.non=some (.leaf (.bl true)) from rfl];simp [asB]
  | some x =>
   walk_at "k";by_cases h:b=x
   . simp [h]
   . have:¬ x=b:=fun z=>h z.symm
     simp [h,this],fun _=>rfl⟩
theorem ji (r:Rw) (x1:Option T):∀ (ls:List (List Str)) (acc:List Str) (x3:Option T),acc.length+(ls.map qj7).sum<=1000->∃ y,c8 (ao 3) z38 (ls.map dS) [some (.leaf r.d),x1,some (.lst (acc.map .str)),x3]=some (.nx [some (.leaf r.d),x1,some (.lst ((acc++ia r ls).map .str)),y])
 | [],acc,x3,_=>⟨x3,by unfold ia;simp [c8]⟩
 | l::ls,acc,x3,h=>by
  simp only [qa5,qq8] at h;have hf:=qe0 (fun b=>decide (r.sets≠some b)) l;obtain ⟨y,e⟩:=ji r x1 ls (acc++l.filter fun b=>decide (r.sets≠some b)) (some (.leaf (dS l))) (by rw [qb2];lia);refine ⟨y,?_⟩;rw [qa5,bF (δ1:=[some (.leaf r.d),x1,some (.lst (acc.map .str)),some (.leaf (dS l))]) (δ2:=[some (.leaf r.d),x1,some (.lst ((acc++l.filter fun b=>decide (r.sets≠some b)).map .str)),some (.leaf (dS l))]) rfl ?_]
  . rw [e];unfold ia;simp
  . unfold z38;rw [xa (l:=acc.map .str) (m:=(l.filter fun b=>decide (r.sets≠some b)).map .str) rfl (tm (ds:=l.map .str) rfl (qH r l) (by rw [qa3];lia)),pz (by rw [qa3,qa3];lia)];simp
theorem tK (r:Rw) (ls:List (List Str)) (h:(ls.map qj7).sum<=60):z20 [r.d,.lst (ls.map dS)]=some (.lst ((NA r ls).map .str)):=by
 have hr:=r.reads_len
 have hl:(ia r ls).length<=(ls.map qj7).sum:=by
  clear h hr;induction ls with
  | nil=>simp [ia]
  | cons l ls ih =>have hf:=qe0 (fun b=>decide (r.sets≠some b)) l;unfold ia at ih ⊢;simp only [List.flatMap_cons,qb2,qa5,qq8];lia
 obtain ⟨y,e⟩:=ji r (some (.leaf (.lst (ls.map dS)))) ls r.reads none (by lia);unfold z20;walk_at "k";rw [tJ];walk_at "k";rw [e];walk_at "k";rw [ic (by rw [qb2];lia)];rfl
theorem tM {found:List (List Str)} (hs:∀ l∈found,l.length<=12):∀ js:List Nat,((js.map fun j=>found.getD j []).map qj7).sum<=12*js.length
 | []=>qi8 _
 | j::js=>by
  have ih:=tM hs js
  have:(found.getD j []).length<=12:=by
   rw [qc3];cases h:found[j]? with
   | none=>simp
   | some l=>exact hs l (qf9 h)
  simp only [qa5,qq8,qc0];lia
section
variable {P:Dt} {rows:List Rw} {B:List Str} {found:List (List Str)} {fi:Nat} {refs:List Nat} {ch:CH}
theorem vW {i:Nat} {r:Rw} (h:rows[i]?=some r):aw (dW rows) (.int i)=some (.leaf (.tup ((r.outs i).map dI))):=by unfold dW;rw [mD,bz,qo6,h];rfl
theorem tN {i:Nat} {r:Rw} (h:rows[i]?=some r):aw (dR rows) (.int i)=some (.leaf r.d):=by unfold dR;rw [wI,bz,qb9,h];rfl
theorem lq {i:Nat} {l:List Str} (h:found[i]?=some l):aw (dF found) (.int i)=some (.leaf (dS l)):=by unfold dF;rw [mD,bz,qb9,h];rfl
theorem qI {i:Nat} {r:Rw} (hr:rows[i]?=some r) (hs:∀ l∈found,l.length<=12) (hj:∀ j∈r.outs i,j<found.length) (y4 y6:Option T) :
  aj z20 (aa (toD (d2 aw (vB 1) (vB 5))) (aa (toD (aU [none,some 3] (fIt (toD (d2 aw (vB 2) (vB 5)))) (ao 0) aR y50)) ai)) [some (.leaf P),some (.leaf (dR rows)),some (.leaf (dW rows)),some (.leaf (dF found)),y4,some (.leaf (.int i)),y6]=some (.lst ((nw rows found i).map .str)):=by
 walk_at "k";rw [tN hr,vW hr];walk_at "k"
 rw [bN (h:=fun j=>dS (found.getD j [])) fun j hjm=>⟨[some (.leaf (dI j)),some (.leaf (dF found))],rfl,rfl,by have hlt:=hj j hjm;unfold y50 dI;walk_at "k";rw [lq (l:=found[j]) (by simp [hlt])];walk_at "k";rw [lg (m:=found[j]) (by simp [hlt])]⟩]
 walk_at "k";have ho:=r.outs_len i;rw [bE (by rw [qa3];lia)];walk_at "k";have e:(r.outs i).map (fun j=>dS (found.getD j []))=((r.outs i).map fun j=>found.getD j []).map dS:=by rw [qd0];rfl
 rw [e,tK r _ (qc5 (tM hs _) (by lia))];unfold nw;rw [hr]
noncomputable def sl (P:Dt) (rows:List Rw) (fi:Nat) (c:Bool) (x5 x6:Option CV):Sl:=[some (.dat P),some (.dat (dR rows)),some (.dat (dW rows)),some (.ref fi),some (.dat (.bl c)),x5,x6]
theorem vX (pl:Pl ch fi refs found) {i:Nat} {r:Rw} {l:List Str} (hr:rows[i]?=some r) (hl:found[i]?=some l) (hs:∀ l∈found,l.length<=12) (hj:∀ j∈r.outs i,j<found.length) (c:Bool) (x6:Option CV) :
  ∃ refs' found' c' ch',q50 (sl P rows fi c (some (.dat (dI i))) x6) ch=some (.nx (sl P rows fi c' (some (.dat (dI i))) (some (.ref ch.length))) ch')/\Pl ch' fi refs' found'/\ch.length<=ch'.length/\(∀ k,k<ch.length->k≠fi->ch'[k]?=ch[k]?)∧((nw rows found i=l/\found'=found/\c'=c)∨(nw rows found i≠l/\found'=found.set i (nw rows found i)/\c'=true)):=by
 have hfi:=pl.lt;have pl2:=pl.app [cS (nw rows found i)];have hnew:(ch++[cS (nw rows found i)])[ch.length]?=some (cS (nw rows found i)):=by simp
 have h1:bv 6 (eDV 2 (aj z20 (aa (toD (d2 aw (vB 1) (vB 5))) (aa (toD (aU [none,some 3] (fIt (toD (d2 aw (vB 2) (vB 5)))) (ao 0) aR y50)) ai)))) (sl P rows fi c (some (.dat (dI i))) x6) ch=some (.nx (sl P rows fi c (some (.dat (dI i))) (some (.ref ch.length))) (ch++[cS (nw rows found i)])):=by refine bA (yR ?_);have:=qI (P:=P) hr hs hj (some (.leaf (.bl c))) (x6.bind fun c=>(vwD ch 2 c).map T.leaf);rw [<- this];congr 1;unfold loD sl;simp only [qa5,qh2,qa1,lm,qf5,pl.view];rfl
 have h2:tDV 2 (tB2 (gEq true) (vB 6) (toD (d2 aw (vB 3) (vB 5)))) (sl P rows fi c (some (.dat (dI i))) (some (.ref ch.length))) (ch++[cS (nw rows found i)])=some (!decide (nw rows found i=l),ch++[cS (nw rows found i)]):=by refine yS ?_;unfold loD sl;simp only [qa5,qh2,qa1,lm,qf5,pl2.view,mH hnew];walk_at "k";unfold dI;rw [lq hl];walk_at "k";unfold dS;rw [tw];rfl
 unfold q50;rw [bi h1];by_cases he:nw rows found i=l
 . refine ⟨refs,found,c,_,?_,pl2,by simp,fun k hk _=>qc2 hk,.inl ⟨he,rfl,rfl⟩⟩;rw [decide_eq_true he] at h2;rw [tE h2];rfl
 . have hi:i<refs.length:=by rw [pl.len];exact (gX hl).1
   have h3:hX (eV 3) (eD (vL 5)) (eV 6) (sl P rows fi c (some (.dat (dI i))) (some (.ref ch.length))) (ch++[cS (nw rows found i)])=some (.nx (sl P rows fi c (some (.dat (dI i))) (some (.ref ch.length))) ((ch++[cS (nw rows found i)]).set fi (.lst ((refs.map CV.ref).set i (.ref ch.length))))):=jf (mF rfl) (mF rfl) (dZ rfl) pl2.top (yT (by rw [qa3];exact hi))
   refine ⟨refs.set i ch.length,found.set i (nw rows found i),true,_,?_,pl2.put (i:=i) hnew (qn4 hfi),?_,?_,.inr ⟨he,rfl,rfl⟩⟩
   . rw [decide_eq_false he] at h2;rw [tz h2,bi h3];exact bA rfl
   . simp
   . intro k hk hf;rw [gN (qk6 hf)];exact qc2 hk
theorem pass (hB:∀ (i:Nat) (r:Rw) (b:Str),rows[i]?=some r->b∈r.reads->b∈B) (hO:∀ (i:Nat) (r:Rw) (j:Nat),rows[i]?=some r->j∈r.outs i->j<rows.length) (hb:B.length<=12) :
  ∀ (js:List Nat) (refs:List Nat) (found:List (List Str)) (c:Bool) (x5 x6:Option CV) (ch:CH),Pl ch fi refs found->Fnd rows B found->(∀ j∈js,j<rows.length)→
  ∃ refs' found' c' y5 y6 ch',iT [5] (ao 5) q50 (js.map dI) (sl P rows fi c x5 x6) ch=some (.nx (sl P rows fi c' y5 y6) ch')/\Pl ch' fi refs' found'/\Fnd rows B found'/\ch.length<=ch'.length/\(∀ k,k<ch.length->k≠fi->ch'[k]?=ch[k]?)∧tot found<=tot found'/\(c'=true->c=true∨tot found<tot found')/\(c'=false->c=false/\found'=found/\∀ j∈js,∀ l,found[j]?=some l->nw rows found j=l)
 | [],refs,found,c,x5,x6,ch,pl,F,_=>⟨refs,found,c,x5,x6,ch,rfl,pl,F,nL _,fun _ _ _=>rfl,nL _,.inl,fun h=>⟨h,rfl,fun j hj=>by cases hj⟩⟩
 | j::js,refs,found,c,x5,x6,ch,pl,F,hj=>by
  have hjl:=hj j (.head _);have hr:rows[j]?=some rows[j]:=by simp [hjl]
  have hlt:j<found.length:=by rw [F.len];exact hjl
  have hl:found[j]?=some found[j]:=by simp [hlt]
  have hs:∀ l∈found,l.length<=12:=fun l hl=>by obtain ⟨i,h⟩:=qo8 hl;exact qc5 (F.short h) hb
  obtain ⟨refs1,found1,c1,ch1,e1,pl1,le1,kp1,q1⟩:=vX (P:=P) pl hr hl hs (fun k hk=>by rw [F.len];exact hO j _ k hr hk) c x6
  have F1:Fnd rows B found1:=by
   rcases q1 with ⟨_,rfl,_⟩ | ⟨_,rfl,_⟩
   . exact F
   . exact F.step hB hjl
  obtain ⟨refs2,found2,c2,y5,y6,ch2,e2,pl2,F2,le2,kp2,t2,q2,q3⟩:=pass hB hO hb js refs1 found1 c1 (some (.dat (dI j))) (some (.ref ch.length)) ch1 pl1 F1 fun k hk=>hj k (.tail _ hk)
  refine ⟨refs2,found2,c2,y5,y6,ch2,?_,pl2,F2,qc5 le1 le2,fun k hk hf=>(kp2 k (qb6 hk le1) hf).trans (kp1 k hk hf),?_,?_,?_⟩
  . rw [qa5,iu (δ2:=sl P rows fi c1 (some (.dat (dI j))) (some (.ref ch.length))) (show 5<7 by decide) e1];exact e2
  . rcases q1 with ⟨_,rfl,_⟩ | ⟨ne,rfl,_⟩
    . exact t2
    . exact qc5 (qn3 (F.more hl ne)) t2
  . intro h;rcases q1 with ⟨_,rfl,rfl⟩ | ⟨ne,rfl,_⟩
    . exact q2 h
    . exact .inr (qb6 (F.more hl ne) t2)
  . intro h;obtain ⟨h1,h2,h3⟩:=q3 h;rcases q1 with ⟨q,rfl,rfl⟩ | ⟨ne,rfl,rfl⟩
    . refine ⟨h1,h2,fun k hk l hl2=>?_⟩;rcases qa9.mp hk with rfl | hk
      . rw [hl] at hl2;cases hl2;exact q
      . exact h3 k hk l hl2
    . cases h1
theorem loop (hB:∀ (i:Nat) (r:Rw) (b:Str),rows[i]?=some r->b∈r.reads->b∈B) (hO:∀ (i:Nat) (r:Rw) (j:Nat),rows[i]?=some r->j∈r.outs i->j<rows.length) (hb:B.length<=12) (hn:rows.length<=1000) :
  ∀ (m:Nat) (refs:List Nat) (found:List (List Str)) (x5 x6:Option CV) (ch:CH),Pl ch fi refs found->Fnd rows B found->rows.length*B.length+2<=m+tot found→
  ∃ refs' found' y5 y6 ch',cJ z73 y51 m (sl P rows fi true x5 x6) ch=some (.nx (sl P rows fi false y5 y6) ch')/\Pl ch' fi refs' found'/\Fnd rows B found'/\Fix rows found'/\ch.length<=ch'.length/\(∀ k,k<ch.length->k≠fi->ch'[k]?=ch[k]?)
 | 0,refs,found,x5,x6,ch,pl,F,hm=>by have:=F.tot_le;lia
 | m+1,refs,found,x5,x6,ch,pl,F,hm=>by
  obtain ⟨refs1,found1,c1,y5,y6,ch1,e1,pl1,F1,le1,kp1,t1,q1,q2⟩:=pass (P:=P) hB hO hb ((qb8 rows.length).map fun i=>rows.length-1-i) refs found false x5 x6 ch pl F fun j hj=>by obtain ⟨i,hi,rfl⟩:=qc1.mp hj;have:=qg6.mp hi;lia
  have hb1:y51 (sl P rows fi true x5 x6) ch=some (.nx (sl P rows fi c1 y5 y6) ch1):=by unfold y51;rw [bi (δ1:=sl P rows fi false x5 x6) (ch1:=ch) (bA rfl)];show (mm [.int (((rows.map Rw.d).length:Int)-1),.int (-1),.int (-1)]).bind _=_;rw [qa3,kn hn,qa1];exact e1
  rw [mI (ch1:=ch) rfl hb1];cases c1 with
  | true =>
   rcases q1 rfl with h | h
   . cases h
   . obtain ⟨refs2,found2,z5,z6,ch2,e2,pl2,F2,x2,le2,kp2⟩:=loop hB hO hb hn m refs1 found1 y5 y6 ch1 pl1 F1 (by lia);exact ⟨refs2,found2,z5,z6,ch2,e2,pl2,F2,x2,qc5 le1 le2,fun k hk hf=>(kp2 k (qb6 hk le1) hf).trans (kp1 k hk hf)⟩
  | false =>
   obtain ⟨_,rfl,q3⟩:=q2 rfl
   have hm2:∃ m',m=m'+1:=by have:=F1.tot_le;exact ⟨m-1,by lia⟩
   obtain ⟨m',rfl⟩:=hm2;refine ⟨refs1,found1,y5,y6,ch1,mJ rfl,pl1,F1,fun i l hl=>?_,le1,kp1⟩;have hi:i<rows.length:=by rw [<- F1.len];exact (gX hl).1
   exact q3 i (qc1.mpr ⟨rows.length-1-i,qg6.mpr (by lia),by lia⟩) l hl
end
theorem Ay (δ:Sl) (ch:CH):z29 δ ch=some (.ref ch.length,ch++[.lst []]):=by unfold z29 eN;rw [yw];show (((some []).bind mkL).bind _)=_;rw [qa1,bE (by simp)];rfl
theorem mK:∀ (ds:List Dt) (ch:CH),fE [0] (ao 0) aR z29 [none] ds ch=some (((qb8 ds.length).map fun k=>ch.length+k).map CV.ref,ch++qd3 ds.length (.lst []))
 | [],ch=>by simp [fE]
 | d::ds,ch=>by
  unfold fE ao;rw [qa1];show ((z29 (mgS [0] [none] ((lo [none] ch).set 0 (some (.leaf d)))) ch).bind fun p=>(fE [0] (ao 0) aR z29 [none] ds p.2).map fun q=>(p.1::q.1,q.2))=_;rw [Ay,qa1];dsimp only;rw [mK ds (ch++[CO.lst []]),qf5];simp only [qc0,qr1,qa5,qd0,Nat.add_zero,qb2,qe9,List.replicate_succ,qi4,zc8];congr 3;refine qi3 fun k _=>?_
  simp only [Function.comp_apply];congr 1;lia
theorem qJ {c s:Dt} {rows:List Rw} {B:List Str} (hB:∀ (i:Nat) (r:Rw) (b:Str),rows[i]?=some r->b∈r.reads->b∈B) (hO:∀ (i:Nat) (r:Rw) (j:Nat),rows[i]?=some r->j∈r.outs i->j<rows.length) (hb:B.length<=12) (hn:rows.length<=1000) (ch:CH) :
  ∃ fi refs found ch',z39 [.dat (.tup [c,s,dR rows])] ch=some (.ref fi,ch')/\Pl ch' fi refs found/\Fnd rows B found/\Fix rows found/\ch.length<=fi/\(∀ k,k<ch.length->ch'[k]?=ch[k]?):=by
 have hlen:((qb8 rows.length).map fun k=>ch.length+k).length=rows.length:=by simp
 have pl0:Pl (ch++qd3 rows.length (.lst [])++[.lst (((qb8 rows.length).map fun k=>ch.length+k).map CV.ref)]) (ch.length+rows.length) ((qb8 rows.length).map fun k=>ch.length+k) (rows.map fun _=>[]):=by
  refine ⟨?_,by simp,fun h=>?_,fun k r l h1 h2=>?_⟩
  . rw [qg2 (by simp)];simp
  . obtain ⟨k,hk,e⟩:=qc1.mp h;have:=qg6.mp hk;lia
  . rw [qb9] at h1 h2;obtain ⟨k',hk',rfl⟩:=mS h1;obtain ⟨w,_,rfl⟩:=mS h2;have hkl:=(gX hk').1;rw [qi2] at hkl;rw [qu3 hkl] at hk';cases hk';rw [qi4,qg2 (by lia),Nat.add_sub_cancel_left,qc2 (by simp;exact hkl),qm4,if_pos hkl];rfl
 have hB12:rows.length*B.length<=1000*12:=Nat.mul_le_mul hn hb;obtain ⟨refs,found,y5,y6,ch',e,pl,F,x,le,kp⟩:=loop (P:=.tup [c,s,dR rows]) hB hO hb hn 100000 _ _ none none _ pl0 Fnd.start (by lia);refine ⟨_,refs,found,ch',?_,pl,F,x,by lia,fun k hk=>?_⟩
 . unfold z39;refine ln ?_;have s1:bv 1 (eD (toD (d2 aw (vB 0) (kD (.int 2))))) [some (.dat (.tup [c,s,dR rows])),none,none,none,none,none,none] ch=some (.nx [some (.dat (.tup [c,s,dR rows])),some (.dat (dR rows)),none,none,none,none,none] ch):=bA (dZ rfl)
   have s2:bv 2 (eD (toD (aj cY (aa (vL 0) ai)))) [some (.dat (.tup [c,s,dR rows])),some (.dat (dR rows)),none,none,none,none,none] ch=some (.nx [some (.dat (.tup [c,s,dR rows])),some (.dat (dR rows)),some (.dat (dW rows)),none,none,none,none] ch):=by refine bA (dZ ?_);show ((cY [.tup [c,s,dR rows]]).map T.d)=_;rw [lp c s rows hn];rfl
   have s3:bv 3 (mf [none] (fIt (vL 1)) [0] (ao 0) aR z29) [some (.dat (.tup [c,s,dR rows])),some (.dat (dR rows)),some (.dat (dW rows)),none,none,none,none] ch=some (.nx [some (.dat (.tup [c,s,dR rows])),some (.dat (dR rows)),some (.dat (dW rows)),some (.ref (ch.length+rows.length)),none,none,none] (ch++qd3 rows.length (.lst [])++[.lst (((qb8 rows.length).map fun k=>ch.length+k).map CV.ref)])):=by refine bA ?_;show ((fE [0] (ao 0) aR z29 [none] (rows.map Rw.d) ch).bind fun p=>if p.1.length<=qa7 then some (CV.ref p.2.length,p.2++[.lst p.1]) else none)=_;rw [mK,qa1,qa3,if_pos (small (by simp;lia))];simp
   show bX _ _ [some (.dat (.tup [c,s,dR rows])),none,none,none,none,none,none] ch=_;rw [bi s1,bi s2,bi s3,bi (δ1:=sl (.tup [c,s,dR rows]) rows (ch.length+rows.length) true none none) (bA rfl),bi e];exact jg rfl
 . rw [kp k (by simp;lia) (by lia),qi4,qc2 hk]
structure Hd where
 x:Str
 n:Int
 b:Bool
noncomputable def hdD (h:Hd):Dt:=.tup [.str h.x,.int h.n,.bl h.b]
theorem pC {α:Type} (f:α->Dt) (cs ss:List α) (hl:cs.length+ss.length<=1000):cD (.tup (cs.map f)) (.tup (ss.map f))=some (.leaf (.tup ((cs++ss).map f))):=by
 cases cs with
 | nil=>rfl
 | cons a cs =>
  cases ss with
  | nil=>rw [qg0];rfl
  | cons b ss =>show (if ((a::cs).map f).length+((b::ss).map f).length<=qa7/\(a::cs).map f≠[]/\(b::ss).map f≠[] then _ else none)=_;rw [if_pos ⟨by rw [qa3,qa3];exact small (by lia),by simp,by simp⟩,qk0];rfl
theorem tP (cs ss:List Hd) (R:Dt) (hl:cs.length+ss.length<=1000):y27 [.tup [.tup (cs.map hdD),.tup (ss.map hdD),R]]=some (.lst ((((cs++ss).filter fun h=>!h.b).map (·.x)).map .str)):=by
 unfold y27;walk_at "k";rw [pC hdD cs ss hl];walk_at "k"
 rw [bO (h:=fun h:Hd=>Dt.str h.x) (p:=fun h=>!h.b) fun h _=>⟨_,rfl,by
  unfold q57 hdD;walk_at "k"
  try rfl,fun _=>by unfold z57 hdD;walk_at "k"⟩]
 walk_at "k";rw [bE (by rw [qa3];exact qc5 (qe0 _ _) (by rw [qb2];lia)),qd0];walk_at "k";rfl
abbrev pgD (cs ss:List Hd) (rows:List Rw):Dt:=.tup [.tup (cs.map hdD),.tup (ss.map hdD),dR rows]
noncomputable def kdB (N:List Str):Rw->Bool
 | .fin _=>true
 | .store c _=>decide (c∈N)
 | .lay f _ _=>decide (f∈N)
 | _=>false
noncomputable def kds (N:List Str):Nat->List Rw->List Nat
 | _,[]=>[]
 | k,r::rs=>(if kdB N r then [k] else [])++kds N (k+1) rs
theorem kds_mem {N:List Str} {j:Nat}:∀ {k:Nat} {rs:List Rw},j∈kds N k rs↔k<=j/\∃ r,rs[j-k]?=some r/\kdB N r=true
 | k,[]=>by simp [kds]
 | k,r::rs=>by
  rw [kds,qj4,kds_mem];constructor
  . rintro (h | ⟨h,q,h1,h2⟩)
    . split at h
      . rename_i hb;rw [qb7.mp h];exact ⟨qy7 _,r,by simp,hb⟩
      . cases h
    . refine ⟨by lia,q,?_,h2⟩;rw [show j-k=(j-(k+1))+1 by lia];exact h1
  . rintro ⟨h,q,h1,h2⟩;by_cases e:j=k
    . subst e;rw [zg8] at h1;cases h1;left;rw [if_pos h2];exact .head _
    . right;refine ⟨by lia,q,?_,h2⟩;rw [show j-k=(j-(k+1))+1 by lia] at h1;exact h1
theorem pD (N:List Str):∀ (k:Nat) (rs:List Rw),(kds N k rs).length<=rs.length
 | _,[]=>nL _
 | k,r::rs=>by have:=pD N (k+1) rs;rw [kds,qb2,qc0];split<;>simp<;>lia
theorem qK (N:List Str) (r:Rw) (x0 x2 x3:Option T):fOr (tB2 (gEq false) (toD (d2 aw (vB 4) (kD (.int 0)))) (kD (.str "end"))) (jq (tB2 (cW false) (toD (d2 aw (vB 4) (kD (.int 0)))) (toD (aZ (aa (kD (.str "store")) (aa (kD (.str "lay")) ai))))) (tB2 (cW false) (toD (d2 aw (vB 4) (kD (.int 1)))) (vB 1))) [x0,some (.leaf (dS N)),x2,x3,some (.leaf r.d)]=some (kdB N r):=by cases r<;>simp only [Rw.d,kdB,dS]<;>walk_at "k"<;>(try rw [mG])<;>(try rfl)
theorem pE (N:List Str) (x0:Option T):∀ (rs:List Rw) (k:Nat) (acc:List Nat) (x3 x4:Option T),acc.length+rs.length<=1000->∃ y3 y4,c8 (dg 2 (aW (ao 3) (aW (ao 4) de))) z19 (cu k (rs.map Rw.d)) [x0,some (.leaf (dS N)),some (.lst (acc.map dI)),x3,x4]=some (.nx [x0,some (.leaf (dS N)),some (.lst ((acc++kds N k rs).map dI)),y3,y4])
 | [],k,acc,x3,x4,_=>⟨x3,x4,by rw [kds,qg0];rfl⟩
 | r::rs,k,acc,x3,x4,h=>by
  have e1:dg 2 (aW (ao 3) (aW (ao 4) de)) (.tup [.int (k:Nat),r.d]) [x0,some (.leaf (dS N)),some (.lst (acc.map dI)),x3,x4]=some [x0,some (.leaf (dS N)),some (.lst (acc.map dI)),some (.leaf (.int (k:Nat))),some (.leaf r.d)]:=rfl
  have e2:z19 [x0,some (.leaf (dS N)),some (.lst (acc.map dI)),some (.leaf (.int (k:Nat))),some (.leaf r.d)]=some (.nx [x0,some (.leaf (dS N)),some (.lst ((acc++if kdB N r then [k] else []).map dI)),some (.leaf (.int (k:Nat))),some (.leaf r.d)]):=by
   unfold z19;rw [Au,qK];cases kdB N r with
   | false =>rw [vC];simp;rfl
   | true =>rw [vA];rw [ib (l:=acc.map dI) rfl,show vL 3 [x0,some (.leaf (dS N)),some (.lst (acc.map dI)),some (.leaf (.int (k:Nat))),some (.leaf r.d)]=some (dI k) from rfl,qa1,dw (by rw [qa3];simp at h;lia)];simp
  obtain ⟨y3,y4,e⟩:=pE N x0 rs (k+1) (acc++if kdB N r then [k] else []) (some (.leaf (.int (k:Nat)))) (some (.leaf r.d)) (by simp at h ⊢;split<;>simp<;>lia);refine ⟨y3,y4,?_⟩;rw [qa5,cu,bF e1 e2,e,kds,qi4]
theorem n5 (cs ss:List Hd) (rows:List Rw) (hl:cs.length+ss.length<=1000) (hr:rows.length<=1000):q24 [pgD cs ss rows]=some (.lst ((kds (((cs++ss).filter fun h=>!h.b).map (·.x)) 0 rows).map dI)):=by
 unfold q24;rw [lh];generalize hN:((cs++ss).filter fun h=>!h.b).map (·.x)=N
 have e1:aM 1 (toT (toD (aj y27 (aa (vL 0) ai)))) [some (.leaf (pgD cs ss rows)),none,none,none,none]=some (.nx [some (.leaf (pgD cs ss rows)),some (.leaf (dS N)),none,none,none]):=by have:=tP cs ss (dR rows) hl;rw [hN] at this;walk_at "k";rw [this];rfl
 obtain ⟨y3,y4,e2⟩:=pE N (some (.leaf (pgD cs ss rows))) rows 0 [] none none (by simpa using hr);show jb (aD _ _ [some (.leaf (pgD cs ss rows)),none,none,none,none])=_;rw [cE,e1,bH,cE];show jb (aD _ _ [some (.leaf (pgD cs ss rows)),some (.leaf (dS N)),some (.lst ([].map dI)),none,none])=_;rw [cE];have e3:dJ (dh hW (aa (toD (d2 aw (vB 0) (kD (.int 2)))) ai)) (dg 2 (aW (ao 3) (aW (ao 4) de))) z19 [some (.leaf (pgD cs ss rows)),some (.leaf (dS N)),some (.lst (([]:List Nat).map dI)),none,none]=c8 (dg 2 (aW (ao 3) (aW (ao 4) de))) z19 (cu 0 (rows.map Rw.d)) [some (.leaf (pgD cs ss rows)),some (.leaf (dS N)),some (.lst (([]:List Nat).map dI)),none,none]:=rfl;rw [e3,e2,bH];rfl
noncomputable def bks:Nat->List Rw->List Nat
 | _,[]=>[]
 | k,r::rs=>(r.outs k).filter (fun j=>decide (j<=k))++bks (k+1) rs
theorem bks_mem {j:Nat}:∀ {k:Nat} {rs:List Rw},j∈bks k rs↔∃ i r,rs[i]?=some r/\j∈r.outs (k+i)/\j<=k+i
 | k,[]=>by simp [bks]
 | k,r::rs=>by
  rw [bks,qj4,bks_mem,ql2];constructor
  . rintro (⟨h1,h2⟩ | ⟨i,q,h1,h2,h3⟩)
    . exact ⟨0,r,rfl,h1,by simpa using h2⟩
    . exact ⟨i+1,q,h1,by rw [show k+(i+1)=k+1+i by lia];exact h2,by lia⟩
  . rintro ⟨i,q,h1,h2,h3⟩;cases i with
    | zero =>cases h1;exact .inl ⟨h2,by simpa using h3⟩
    | succ i=>exact .inr ⟨i,q,h1,by rw [show k+1+i=k+(i+1) by lia];exact h2,by lia⟩
theorem pF:∀ (k:Nat) (rs:List Rw),(bks k rs).length<=2*rs.length
 | _,[]=>nL _
 | k,r::rs=>by have h1:=pF (k+1) rs;have h2:=qc5 (qe0 (fun j=>decide (j<=k)) (r.outs k)) (r.outs_len k);rw [bks,qb2,qc0];lia
theorem qL (k:Nat) (js:List Nat):bm (ao 0) z22 (vL 0) [none,some (.leaf (.int (k:Nat)))] (js.map dI)=some ((js.filter fun j=>decide (j<=k)).map dI):=bO fun j _=>⟨_,rfl,by unfold z22;show some (decide (((j:Nat):Int)<=(k:Nat)))=_;congr 1;rw [decide_eq_decide];lia,fun _=>rfl⟩
theorem pG (x0:Option T):∀ (rs:List Rw) (k:Nat) (acc:List Nat) (x2 x3:Option T),acc.length+2*rs.length<=10000->∃ y2 y3,c8 (dg 2 (aW (ao 2) (aW (ao 3) de))) z15 (cu k (rs.mapIdx fun i r=>.tup ((r.outs (k+i)).map dI))) [x0,some (.lst (acc.map dI)),x2,x3]=some (.nx [x0,some (.lst ((acc++bks k rs).map dI)),y2,y3])
 | [],k,acc,x2,x3,_=>⟨x2,x3,by rw [bks,qg0];rfl⟩
 | r::rs,k,acc,x2,x3,h=>by
  rw [qc0] at h;have h2:=qc5 (qe0 (fun j=>decide (j<=k)) (r.outs k)) (r.outs_len k);have e1:dg 2 (aW (ao 2) (aW (ao 3) de)) (.tup [.int (k:Nat),.tup ((r.outs k).map dI)]) [x0,some (.lst (acc.map dI)),x2,x3]=some [x0,some (.lst (acc.map dI)),some (.leaf (.int (k:Nat))),some (.leaf (.tup ((r.outs k).map dI)))]:=rfl
  have e2:z15 [x0,some (.lst (acc.map dI)),some (.leaf (.int (k:Nat))),some (.leaf (.tup ((r.outs k).map dI)))]=some (.nx [x0,some (.lst ((acc++(r.outs k).filter fun j=>decide (j<=k)).map dI)),some (.leaf (.int (k:Nat))),some (.leaf (.tup ((r.outs k).map dI)))]):=by
   unfold z15;rw [xa (l:=acc.map dI) (m:=((r.outs k).filter fun j=>decide (j<=k)).map dI) rfl,pz (by rw [qa3,qa3];lia)]
   . rw [qk0];rfl
   . show (bm (ao 0) z22 (vL 0) [none,some (.leaf (.int (k:Nat)))] ((r.outs k).map dI)).bind mkL=_;rw [qL,qa1,bE (by rw [qa3];lia)]
  obtain ⟨y2,y3,e⟩:=pG x0 rs (k+1) (acc++(r.outs k).filter fun j=>decide (j<=k)) (some (.leaf (.int (k:Nat)))) (some (.leaf (.tup ((r.outs k).map dI)))) (by rw [qb2];lia);refine ⟨y2,y3,?_⟩;rw [za4,cu,Nat.add_zero,bF e1 e2]
  have e4:(fun i r=>Dt.tup (List.map dI (Rw.outs (k+(i+1)) r)))=fun i r=>Dt.tup (List.map dI (Rw.outs (k+1+i) r)):=by funext i r;rw [show k+(i+1)=k+1+i by lia]
  rw [e4,e,bks,qi4]
theorem mL (c s:Dt) (rows:List Rw) (hr:rows.length<=1000):y17 [.tup [c,s,dR rows]]=some (.lst ((bks 0 rows).map dI)):=by
 unfold y17;rw [lh];obtain ⟨y2,y3,e2⟩:=pG (some (.leaf (.tup [c,s,dR rows]))) rows 0 [] none none (by simp;lia);have hw:=lp c s rows hr;show jb (aD _ _ [some (.leaf (.tup [c,s,dR rows])),some (.lst (([]:List Nat).map dI)),none,none])=_;rw [cE]
 have e3:dJ (dh hW (aa (toD (aj cY (aa (vL 0) ai))) ai)) (dg 2 (aW (ao 2) (aW (ao 3) de))) z15 [some (.leaf (.tup [c,s,dR rows])),some (.lst (([]:List Nat).map dI)),none,none]=c8 (dg 2 (aW (ao 2) (aW (ao 3) de))) z15 (cu 0 (rows.mapIdx fun i r=>.tup ((r.outs (0+i)).map dI))) [some (.leaf (.tup [c,s,dR rows])),some (.lst (([]:List Nat).map dI)),none,none]:=by walk_at "k";rw [hw];simp only [zg9];rfl
 rw [e3,e2,bH];rfl
end P54
namespace L2
open PySem
section
variable {K:Type} [DecidableEq K]
theorem onceK_mem {acc:List K} {k x:K}:x∈once acc k↔x∈acc∨x=k:=by
 unfold once;split
 . exact ⟨.inl,fun h=>h.elim id fun e=>e▸by assumption⟩
 . simp
theorem g4 {x:K}:∀ {ss acc:List K},x∈ss.foldl once acc↔x∈acc∨x∈ss
 | [],acc=>by simp
 | k::ss,acc=>by rw [qi6,g4,onceK_mem,qa9,or_assoc]
theorem ef {ss:List K} {x:K}:x∈bY ss↔x∈ss:=by unfold bY;rw [g4];simp
theorem ie {acc:List K} {k:K} (h:acc.Nodup):(once acc k).Nodup:=by
 unfold once;split
 . exact h
 . rename_i hk;rw [qy4];exact ⟨h,by simp,fun a ha b hb e=>hk (by rw [qb7.mp hb] at e;exact e▸ha)⟩
theorem ig:∀ {ss acc:List K},acc.Nodup->(ss.foldl once acc).Nodup
 | [],_,h=>h
 | k::ss,acc,h=>ig (ss:=ss) (ie h)
theorem lr (ss:List K):(bY ss).Nodup:=ig qw9
end
theorem eX:∀ ns:List Int,k9 (ns.map .int)=some ns
 | []=>rfl
 | k::ns=>by rw [qa5];unfold k9;rw [eX ns];rfl
theorem g5 {ns:List Int} {x:Int}:x∈eQ ns↔x∈ns:=(cO ns).mem_iff
theorem mM {ns:List Int} (h1:ns.length<4000) (h2:(bY ns).length<64):dU [.lst (ns.map .int)]=some (.lst ((eQ (bY ns)).map .int)):=by unfold dU qE;dsimp only;rw [eX,qa1,if_pos ⟨h1,h2⟩]
theorem mN {m:Int} {ns:List Int}:cF [.lst ((m::ns).map .int)]=some (.leaf (.int (eR m ns))):=by unfold cF;dsimp only;rw [eX]
theorem tQ {d:Int} {ns:List Int}:h9 d [.lst (ns.map .int)]=some (.leaf (.int (cP d ns))):=by unfold h9;dsimp only;rw [eX];rfl
theorem mO {ns:List Int}:gp [.lst (ns.map .int)]=some (.leaf (.int ns.sum)):=by unfold gp;dsimp only;rw [eX];rfl
end L2
namespace P54
open PySem L2
theorem mP {ch:CH} {n:Nat}:∀ l:List Str,dz (svD ch n) (l.map fun x=>CV.dat (.str x))=some (l.map .str)
 | []=>rfl
 | x::l=>by rw [qa5];unfold dz;rw [show svD ch n (.dat (.str x))=some (.str x) by cases n<;>(unfold svD;rfl),qa1,mP l];rfl
theorem mQ {ch:CH}:∀ {refs:List Nat} {found:List (List Str)},refs.length=found.length->(∀ (k r:Nat) (l:List Str),refs[k]?=some r->found[k]?=some l->ch[r]?=some (cS l))->dz (svD ch 3) (refs.map CV.ref)=some (found.map dS)
 | [],[],_,_=>rfl
 | [],_::_,h,_=>by cases h
 | _::_,[],h,_=>by cases h
 | r::refs,l::found,h,q=>by
  have e:svD ch 3 (.ref r)=some (dS l):=by unfold svD;rw [q 0 r l rfl rfl];show (dz (svD ch 2) _).map _=_;rw [mP];rfl
  rw [qa5];unfold dz;rw [e,qa1,mQ (by simpa using h) fun k r l h1 h2=>q (k+1) r l (by simpa using h1) (by simpa using h2)];rfl
theorem n6 {c s:Dt} {rows:List Rw} {B:List Str} (hB:∀ (i:Nat) (r:Rw) (b:Str),rows[i]?=some r->b∈r.reads->b∈B) (hO:∀ (i:Nat) (r:Rw) (j:Nat),rows[i]?=some r->j∈r.outs i->j<rows.length) (hb:B.length<=12) (hn:rows.length<=1000) :
  ∃ found,fS z39 [.tup [c,s,dR rows]]=some (.leaf (dF found))/\Fnd rows B found:=by
 obtain ⟨fi,refs,found,ch',e,pl,F,_⟩:=qJ (c:=c) (s:=s) hB hO hb hn [];refine ⟨found,?_,F⟩;unfold fS;rw [qa5,qh2,e,qa1];show (svD ch' 4 (.ref fi)).map T.leaf=_;unfold svD;rw [pl.top];show ((dz (svD ch' 3) _).map Dt.lst).map T.leaf=_;rw [mQ pl.len pl.has];rfl
noncomputable def plc (N:List Str) (rows:List Rw):List Nat:=(eQ (bY ((kds N 0 rows++bks 0 rows).map fun j:Nat=>(j:Int)))).map Int.toNat
theorem tR (N:List Str) (rows:List Rw):(eQ (bY ((kds N 0 rows++bks 0 rows).map fun j:Nat=>(j:Int)))).map Dt.int=(plc N rows).map dI:=by
 unfold plc;rw [qd0];refine qi3 fun x hx=>?_
 rw [g5,ef] at hx;obtain ⟨j,_,rfl⟩:=qc1.mp hx;rfl
theorem plc_mem {N:List Str} {rows:List Rw} {j:Nat}:j∈plc N rows↔j∈kds N 0 rows∨j∈bks 0 rows:=by
 unfold plc;rw [<- qj4,qc1];constructor
 . rintro ⟨x,hx,rfl⟩;rw [g5,ef] at hx;obtain ⟨j,hj,rfl⟩:=qc1.mp hx;exact hj
 . intro h;exact ⟨(j:Int),by rw [g5,ef];exact qc1.mpr ⟨j,h,rfl⟩,rfl⟩
theorem n8 {N:List Str} {rows:List Rw} (hO:∀ (i:Nat) (r:Rw) (j:Nat),rows[i]?=some r->j∈r.outs i->j<rows.length) {j:Nat} (h:j∈plc N rows):j<rows.length:=by
 rcases plc_mem.mp h with h | h
 . obtain ⟨_,r,h1,_⟩:=kds_mem.mp h;exact (gX h1).1
 . obtain ⟨i,r,h1,h2,_⟩:=bks_mem.mp h;rw [zg9] at h2;exact hO i r j h1 h2
theorem vY {l:List Int} {n:Nat} (nd:l.Nodup) (h:∀ x∈l,∃ j:Nat,j<n/\x=(j:Int)):l.length<=n:=by
 have:=dY nd (m:=(qb8 n).map fun j:Nat=>(j:Int)) fun x hx=>by obtain ⟨j,hj,rfl⟩:=h x hx;exact qc1.mpr ⟨j,qg6.mpr hj,rfl⟩
 simpa using this
theorem ii {N:List Str} {rows:List Rw} (hO:∀ (i:Nat) (r:Rw) (j:Nat),rows[i]?=some r->j∈r.outs i->j<rows.length):(bY ((kds N 0 rows++bks 0 rows).map fun j:Nat=>(j:Int))).length<=rows.length:=vY (lr _) fun x hx=>by rw [ef] at hx;obtain ⟨j,hj,rfl⟩:=qc1.mp hx;exact ⟨j,n8 (N:=N) hO (plc_mem.mpr (qj4.mp hj)),rfl⟩
theorem lu {N:List Str} {rows:List Rw} (hO:∀ (i:Nat) (r:Rw) (j:Nat),rows[i]?=some r->j∈r.outs i->j<rows.length):(plc N rows).length<=rows.length:=by unfold plc;rw [qa3,(cO _).length_eq];exact ii hO
noncomputable def kpD (k:Nat×List Str):Dt:=.tup [dI k.1,.tup (k.2.map .str)]
noncomputable def cdD (bg:List Str) (ks:List (Nat×List Str)):Dt:=.tup [.tup (bg.map .str),.tup (ks.map kpD)]
noncomputable def eh (N:List Str) (rows:List Rw) (found:List (List Str)):List (Nat×List Str):=(plc N rows).map fun j=>(j,found.getD j [])
theorem lv {rows:List Rw} {B:List Str} {found:List (List Str)} (F:Fnd rows B found) {j:Nat} (h:j<rows.length):found[j]?=some (found.getD j []):=by
 have:j<found.length:=by rw [F.len];exact h
 simp [this]
theorem jx {cs ss:List Hd} {rows:List Rw} {B:List Str} (hB:∀ (i:Nat) (r:Rw) (b:Str),rows[i]?=some r->b∈r.reads->b∈B) (hO:∀ (i:Nat) (r:Rw) (j:Nat),rows[i]?=some r->j∈r.outs i->j<rows.length) (hb:B.length<=12) (hn:rows.length<=60) (h0:0<rows.length) (hl:cs.length+ss.length<=1000) :
  ∃ found,Fnd rows B found/\z18 [pgD cs ss rows]=some (.leaf (cdD (found.getD 0 []) (eh (((cs++ss).filter fun h=>!h.b).map (·.x)) rows found))):=by
 obtain ⟨found,en,F⟩:=n6 (c:=.tup (cs.map hdD)) (s:=.tup (ss.map hdD)) hB hO hb (by lia);have ek:=n5 cs ss rows hl (by lia);have eb:=mL (.tup (cs.map hdD)) (.tup (ss.map hdD)) rows (by lia);generalize ((cs++ss).filter fun h=>!h.b).map (·.x)=N at ek ⊢;refine ⟨found,F,?_⟩;have l1:=pD N 0 rows;have l2:=pF 0 rows
 have eg:aN (.lst ((kds N 0 rows).map dI)) (.lst ((bks 0 rows).map dI))=some (.lst (((kds N 0 rows++bks 0 rows).map fun j:Nat=>(j:Int)).map .int)):=by rw [fw (by rw [qa3,qa3];lia),<- qk0,qd0];rfl
 have es:=mM (ns:=(kds N 0 rows++bks 0 rows).map fun j:Nat=>(j:Int)) (by rw [qa3,qb2];lia) (qw0 (ii hO) (by lia));rw [tR] at es;unfold z18;rw [lh]
 have s1:aM 1 (toT (toD (aj (fS z39) (aa (vL 0) ai)))) [some (.leaf (pgD cs ss rows)),none,none]=some (.nx [some (.leaf (pgD cs ss rows)),some (.leaf (dF found)),none]):=by walk_at "k";rw [en];rfl
 have s2:aM 2 (toT (toD (aj dU (aa (toD (d2 aN (toD (aj q24 (aa (vL 0) ai))) (toD (aj y17 (aa (vL 0) ai))))) ai)))) [some (.leaf (pgD cs ss rows)),some (.leaf (dF found)),none]=some (.nx [some (.leaf (pgD cs ss rows)),some (.leaf (dF found)),some (.leaf (.lst ((plc N rows).map dI)))]):=by walk_at "k";rw [ek,eb];walk_at "k";rw [eg];walk_at "k";rw [es];rfl
 show jb (aD _ _ [some (.leaf (pgD cs ss rows)),none,none])=_;rw [cE,s1,bH,cE,s2,bH]
 have hc:bm (ao 0) aR y36 [none,some (.leaf (dF found))] ((plc N rows).map dI)=some ((eh N rows found).map kpD):=by
  have:=bO (f:=dI) (h:=fun j=>kpD (j,found.getD j [])) (p:=fun _=>true) (bb:=ao 0) (ft:=aR) (fe:=y36) (δ:=[none,some (.leaf (dF found))]) (l:=plc N rows) fun j hj=>⟨[some (.leaf (dI j)),some (.leaf (dF found))],rfl,rfl,fun _=>by unfold y36;have h2:=lq (lv F (n8 hO hj));unfold dI;walk_at "k";rw [h2];rfl⟩
  rw [this,List.filter_eq_self.mpr fun _ _=>rfl];unfold eh;rw [qd0];rfl
 have h2:=lq (lv F h0);walk_at "k"
 have l3:((eh N rows found).map kpD).length<=1000000:=by have:=lu (N:=N) hO;unfold eh;simp;lia
 rw [show aw (dF found) (.int 0)=_ from h2,hc,qa1,bE l3];rfl
theorem vZ (l:List Nat) (x:Nat):((l.map dI).any fun y=>eqF y (dI x))=decide (x∈l):=by
 rw [qj6,List.any_eq_true];constructor
 . rintro ⟨y,hy,e⟩;obtain ⟨z,hz,rfl⟩:=qc1.mp hy;have:(z:Int)=x:=by simpa [dI,eqF] using e
   have:z=x:=by lia
   subst this;exact decide_eq_true hz
 . intro h;exact ⟨dI x,qc1.mpr ⟨x,of_decide_eq_true h,rfl⟩,by simp [dI,eqF]⟩
theorem tT (l:List Nat):(l.map dI).all bG=true:=by rw [qm8];intro y hy;obtain ⟨z,hz,rfl⟩:=qc1.mp hy;rfl
theorem mR {neg:Bool} {l:List Nat} {x:Nat}:cW neg (dI x) (.lst (l.map dI))=some (.leaf (.bl (if neg then !decide (x∈l) else decide (x∈l)))):=by
 show gIn neg (dI x) (.lst (l.map dI))=_;unfold gIn
 have:inD (dI x) (.lst (l.map dI))=some (decide (x∈l)):=by show (if bG (dI x)&&(l.map dI).all bG then some ((l.map dI).any fun y=>eqF y (dI x)) else none)=_;rw [tT,vZ];rfl
 rw [this];rfl
theorem pH (b:Dt) (ks:List (Nat×List Str)) (h:ks.length<=1000):y22 [.tup [b,.tup (ks.map kpD)]]=some (.lst ((ks.map (·.1)).map dI)):=by unfold y22;walk_at "k";rw [bN (h:=fun p:Nat×List Str=>dI p.1) fun p hp=>⟨_,rfl,rfl,by unfold z62 kpD;walk_at "k"⟩];walk_at "k";rw [bE (by rw [qa3];lia),qd0];walk_at "k";rfl
noncomputable def v0 (kept:List Nat) (rows:List Rw):List Dt:=rows.mapIdx fun k r=>.lst (((r.outs k).filter fun w=>!decide (w∈kept)).map dI)
theorem q89 (kept outs:List Nat) (ho:outs.length<=10):z45 [some (.leaf (.tup (outs.map dI))),some (.leaf (.lst (kept.map dI)))]=some (.lst ((outs.filter fun w=>!decide (w∈kept)).map dI)):=by
 unfold z45;walk_at "k"
 rw [bO (h:=dI) (p:=fun w=>!decide (w∈kept)) fun w hw=>⟨_,rfl,by unfold q60;walk_at "k";rw [mR];rfl,fun _=>rfl⟩]
 walk_at "k";rw [bE (by rw [qa3];exact qc5 (qe0 _ _) (by lia))];walk_at "k"
theorem tU (c s b:Dt) (rows:List Rw) (ks:List (Nat×List Str)) (h:rows.length<=1000) (hk:ks.length<=1000):q27 [.tup [c,s,dR rows],.tup [b,.tup (ks.map kpD)]]=some (.lst (v0 (ks.map (·.1)) rows)):=by unfold q27;walk_at "k";rw [pH b ks hk];walk_at "k";rw [lp c s rows h];walk_at "k";unfold v0;rw [qx1,qx1,bN (h:=fun p:Rw×Nat=>Dt.lst (((p.1.outs p.2).filter fun w=>!decide (w∈ks.map (·.1))).map dI)) fun p hp=>⟨_,rfl,rfl,q89 _ _ (qc5 (Rw.outs_len _ _) (by decide))⟩];walk_at "k";rw [bE (by rw [qa3,List.length_zipIdx];lia)];walk_at "k"
theorem iw {d a:Int}:∀ {l:List Int},a∈l->a<=cP d l
 | _::_,h=>ir _ _ a h
theorem dl (d:Int):∀ l:List Int,(l=[]/\cP d l=d)∨cP d l∈l
 | []=>.inl ⟨rfl,rfl⟩
 | m::r=>.inr (ja m r)
theorem ix {d M:Int} {l:List Int} (hd:d<=M) (h:∀ a∈l,a<=M):cP d l<=M:=by
 rcases dl d l with ⟨_,e⟩ | e
 . lia
 . exact h _ e
noncomputable def Lg (inn:Nat->List Nat):Nat->Nat->Int
 | 0,_=>1
 | f+1,i=>1+cP 0 ((inn i).map (Lg inn f))
section
variable {inn:Nat->List Nat} {n:Nat}
theorem pI:∀ f i,1<=Lg inn f i/\Lg inn f i<=f+1
 | 0,i=>by simp [Lg]
 | f+1,i=>by
  have h0:0<=cP 0 ((inn i).map (Lg inn f)):=by
   rcases dl 0 ((inn i).map (Lg inn f)) with ⟨_,e⟩ | e
   . lia
   . obtain ⟨j,_,e⟩:=qc1.mp e;have:=(pI f j).1;lia
  have h1:cP 0 ((inn i).map (Lg inn f))<=f+1:=ix (by lia) fun a ha=>by obtain ⟨j,_,rfl⟩:=qc1.mp ha;exact (pI f j).2
  rw [Lg];lia
theorem xb (hin:∀ i j,j∈inn i->i<j/\j<n):∀ f i,n<=f+i->Lg inn f i=Lg inn (f+1) i
 | 0,i,h=>by
  have e:inn i=[]:=by
   cases q:inn i with
   | nil=>rfl
   | cons j r =>have:=hin i j (by rw [q];exact .head _);lia
  rw [Lg,Lg,e];rfl
 | f+1,i,h=>by
  rw [Lg,Lg];congr 2;refine qi3 fun j hj=>xb hin f j ?_
  have:=hin i j hj;lia
noncomputable def Lw (inn:Nat->List Nat) (n i:Nat):Int:=Lg inn n i
theorem tV (hin:∀ i j,j∈inn i->i<j/\j<n) (i:Nat):Lw inn n i=1+cP 0 ((inn i).map (Lw inn n)):=(xb hin n i (by lia)).trans rfl
theorem n9 (i:Nat):1<=Lw inn n i:=(pI n i).1
theorem Az (i:Nat):Lw inn n i<=n+1:=(pI n i).2
theorem layer (hin:∀ i j,j∈inn i->i<j/\j<n) {here there:List Nat} (hne:here≠[]) (ht:∀ j,j∈there↔∃ i∈here,j∈inn i):cP 0 (here.map (Lw inn n))=1+cP 0 (there.map (Lw inn n)):=by
 have t0:0<=cP 0 (there.map (Lw inn n)):=by
  rcases dl 0 (there.map (Lw inn n)) with ⟨_,e⟩ | e
  . lia
  . obtain ⟨j,_,e⟩:=qc1.mp e;have:=n9 (inn:=inn) (n:=n) j;lia
 apply zd1
 . refine ix (by lia) fun a ha=>?_
   obtain ⟨i,hi,rfl⟩:=qc1.mp ha
   have:cP 0 ((inn i).map (Lw inn n))<=cP 0 (there.map (Lw inn n)):=ix t0 fun a ha=>by obtain ⟨j,hj,rfl⟩:=qc1.mp ha;exact iw (qc1.mpr ⟨j,(ht j).mpr ⟨i,hi,hj⟩,rfl⟩)
   rw [tV hin i];lia
 . rcases dl 0 (there.map (Lw inn n)) with ⟨_,e⟩ | e
   . obtain ⟨i,hi⟩:=List.exists_mem_of_ne_nil _ hne;have h1:=n9 (inn:=inn) (n:=n) i;have h2:=iw (d:=0) (qc1.mpr ⟨i,hi,rfl⟩:Lw inn n i∈here.map (Lw inn n));lia
   . obtain ⟨j,hj,e⟩:=qc1.mp e;obtain ⟨i,hi,hji⟩:=(ht j).mp hj;have h1:=iw (d:=0) (qc1.mpr ⟨i,hi,rfl⟩:Lw inn n i∈here.map (Lw inn n));have h2:=iw (d:=0) (qc1.mpr ⟨j,hji,rfl⟩:Lw inn n j∈(inn i).map (Lw inn n));have h3:=tV hin i;lia
end
noncomputable def cI (l:List Int):CO:=.lst (l.map fun k=>.dat (.int k))
theorem tW:∀ l:List Int,dats (l.map fun k=>CV.dat (.int k))=some (l.map .int)
 | []=>rfl
 | k::l=>by rw [qa5];unfold dats;rw [tW l];rfl
theorem tv_I (l:List Int):tvO (cI l)=some (.lst (l.map .int)):=by unfold tvO cI;dsimp only;rw [tW];rfl
noncomputable def inL (IN:List (List Nat)):Dt:=.lst (IN.map fun js=>.lst (js.map dI))
noncomputable def sL (P C:Dt) (IN:List (List Nat)) (x4 x5:Option Dt):Sl:=[some (.dat P),some (.dat C),some (.dat (inL IN)),some (.ref 0),x4.map .dat,x5.map .dat]
noncomputable def dL (P C:Dt) (IN:List (List Nat)) (l:List Int) (x4 x5:Option Dt):De:=[some (.leaf P),some (.leaf C),some (.leaf (inL IN)),some (.lst (l.map .int)),x4.map .leaf,x5.map .leaf]
theorem mT {P C:Dt} {IN:List (List Nat)} {l:List Int} {x4 x5:Option Dt}:lo (sL P C IN x4 x5) [cI l]=dL P C IN l x4 x5:=by have h1:(([cI l]:CH)[0]?).bind tvO=some (.lst (l.map .int)):=tv_I l;unfold lo sL dL;cases x4<;>cases x5<;>simp only [loA,qf5,zd4,qh8,qa9,if_false,h1,or_false]
theorem tX {l:List Int} {j:Nat} {a:Int} (h:l[j]?=some a):aw (.lst (l.map .int)) (dI j)=some (.leaf (.int a)):=by unfold dI;rw [mD,bz,qb9,h];rfl
theorem AA {IN:List (List Nat)} {j:Nat} {js:List Nat} (h:IN[j]?=some js):aw (inL IN) (dI j)=some (.leaf (.lst (js.map dI))):=by unfold dI inL;rw [mD,bz,qb9,h];rfl
theorem AB {l:List Int} {js:List Nat} (hj:∀ j∈js,j<l.length):bm (ao 0) aR y21 [none,some (.lst (l.map .int))] (js.map dI)=some ((js.map fun j=>l.getD j 0).map .int):=by
 have:=bN (f:=dI) (h:=fun j=>Dt.int (l.getD j 0)) (bb:=ao 0) (ft:=aR) (fe:=y21) (δ:=[none,some (.lst (l.map .int))]) (l:=js) fun j hm=>⟨[some (.leaf (dI j)),some (.lst (l.map .int))],rfl,rfl,by unfold y21;have h2:=tX (l:=l) (j:=j) (a:=l.getD j 0) (by have:=hj j hm;simp [this]);walk_at "k";show ((aw (.lst (l.map .int)) (dI j)).map T.d)=_;rw [h2];rfl⟩
 rw [this,qd0];rfl
noncomputable def stp (IN:List (List Nat)) (l:List Int) (i:Nat):List Int:=match IN[i]? with
 | some js=>l.set i (1+cP 0 (js.map fun j=>l.getD j 0))
 | none=>l
theorem stp_len {IN:List (List Nat)} {l:List Int} {i:Nat}:(stp IN l i).length=l.length:=by unfold stp;split<;>simp
theorem yU {P C:Dt} {IN:List (List Nat)} {l:List Int} {i:Nat} {js:List Nat} {x4:Option Dt} (h:IN[i]?=some js) (hl:l.length=IN.length) (hj:∀ j∈js,j<l.length) (hs:js.length<=1000):q31 (sL P C IN x4 (some (dI i))) [cI l]=some (.nx (sL P C IN x4 (some (dI i))) [cI (stp IN l i)]):=by
 have hi:i<l.length:=by rw [hl];exact (gX h).1
 unfold q31;refine jf (v:=.dat (.int (1+cP 0 (js.map fun j=>l.getD j 0)))) (ch1:=[cI l]) (i:=0) (ch2:=[cI l]) (d:=dI i) (ch3:=[cI l]) (o:=cI l) ?_ rfl ?_ rfl ?_
 . refine dZ ?_;rw [mT];unfold dL;walk_at "k";rw [AA h];show qg1 T.d ((qg1 T.d (((qg1 T.d ((bm (ao 0) aR y21 [none,some (T.lst (l.map Dt.int))] (js.map dI)).bind mkL)).bind fun d=>some [d]).bind (h9 0))).bind fun y=>aN (Dt.int 1) y)=_;rw [AB hj,qa1,bE (by simp;lia)];show qg1 T.d ((qg1 T.d (h9 0 [.lst ((js.map fun j=>l.getD j 0).map .int)])).bind fun y=>aN (Dt.int 1) y)=_;rw [tQ];rfl
 . refine dZ ?_;rw [mT];rfl
 . unfold qq cI stp;dsimp only;rw [h];show ((ixN _ ((i:Nat):Int)).map _)=_;rw [qa3,show ixN l.length ((i:Nat):Int)=some i from tF hi];simp
theorem pJ {P C:Dt} {IN:List (List Nat)} {x4:Option Dt} (hI:∀ js∈IN,(∀ j∈js,j<IN.length)/\js.length<=1000):∀ (is:List Nat) (l:List Int) (x5:Option Dt),l.length=IN.length->(∀ i∈is,i<IN.length)->∃ y5,iT [5] (ao 5) q31 (is.map dI) (sL P C IN x4 x5) [cI l]=some (.nx (sL P C IN x4 y5) [cI (is.foldl (stp IN) l)])
 | [],l,x5,_,_=>⟨x5,rfl⟩
 | i::is,l,x5,hl,hi=>by
  have h0:=hi i (.head _);have hg:IN[i]?=some IN[i]:=by simp [h0]
  obtain ⟨h1,h2⟩:=hI IN[i] (qt3 h0);obtain ⟨y5,e⟩:=pJ (P:=P) (C:=C) (x4:=x4) hI is (stp IN l i) (some (dI i)) (stp_len.trans hl) fun k hk=>hi k (.tail _ hk)
  refine ⟨y5,?_⟩;rw [qa5,iu (δ2:=sL P C IN x4 (some (dI i))) (show 5<6 by decide) (yU hg hl (fun j hj=>by rw [hl];exact h1 j hj) h2)];exact e
theorem pK {IN:List (List Nat)} {inn:Nat->List Nat} (hin:∀ i j,j∈inn i->i<j/\j<IN.length) (hI:∀ i js,IN[i]?=some js->js=inn i):∀ (k:Nat) (l:List Int),k<=IN.length->l.length=IN.length->(∀ j,k<=j->j<IN.length->l[j]?=some (Lw inn IN.length j))->((qb8 k).map fun i=>k-1-i).foldl (stp IN) l=(qb8 IN.length).map (Lw inn IN.length)
 | 0,l,_,hl,h=>by
  show l=_;apply qr8;intro j;by_cases hj:j<IN.length
  . rw [h j (qi8 _) hj];simp [hj]
  . rw [qs6 (by lia),qs6 (by simp;lia)]
 | k+1,l,hk,hl,h=>by
  have e:(qb8 (k+1)).map (fun i=>k+1-1-i)=k::(qb8 k).map fun i=>k-1-i:=by
   rw [qr1,qa5,qd0];congr 1;refine qi3 fun i _=>?_
   simp only [Function.comp_apply];lia
  rw [e,qi6];refine pK hin hI k (stp IN l k) (by lia) (stp_len.trans hl) fun j hj hjn=>?_
  have hg:IN[k]?=some IN[k]:=by simp [show k<IN.length by lia]
  have hjs:=hI k _ hg;unfold stp;rw [hg];dsimp only;by_cases hjk:j=k
  . subst hjk;rw [qd1 (by lia),tV hin j,hjs];congr 3;refine qi3 fun m hm=>?_
    have:=hin j m hm;have h3:=h m (by lia) (by lia);rw [qc3,h3];rfl
  . rw [gN (by lia)];exact h j (by lia) hjn
theorem ko {P C:Dt} {IN:List (List Nat)} {inn:Nat->List Nat} (hin:∀ i j,j∈inn i->i<j/\j<IN.length) (hI:∀ i js,IN[i]?=some js->js=inn i) (hs:∀ js∈IN,js.length<=1000) (hn:IN.length<=1000):∀ (ts:List Dt) (l:List Int) (x4 x5:Option Dt),l.length=IN.length->(ts=[]->l=(qb8 IN.length).map (Lw inn IN.length))->∃ y4 y5,iT [4] (ao 4) q22 ts (sL P C IN x4 x5) [cI l]=some (.nx (sL P C IN y4 y5) [cI ((qb8 IN.length).map (Lw inn IN.length))])
 | [],l,x4,x5,_,h=>⟨x4,x5,by rw [h rfl];rfl⟩
 | t::ts,l,x4,x5,hl,_=>by
  have hI2:∀ js∈IN,(∀ j∈js,j<IN.length)/\js.length<=1000:=fun js hm=>by refine ⟨fun j hj=>?_,hs js hm⟩;obtain ⟨i,hi⟩:=qo8 hm;rw [hI i js hi] at hj;exact (hin i j hj).2
  obtain ⟨y5,e1⟩:=pJ (P:=P) (C:=C) (x4:=some t) hI2 ((qb8 IN.length).map fun i=>IN.length-1-i) l x5 hl fun i hi=>by obtain ⟨k,hk,rfl⟩:=qc1.mp hi;have:=qg6.mp hk;lia
  rw [pK hin hI IN.length l (nL _) hl fun j h1 h2=>absurd h2 (by lia)] at e1;obtain ⟨y4,z5,e2⟩:=ko (P:=P) (C:=C) hin hI hs hn ts _ (some t) y5 (by simp) fun _=>rfl
  refine ⟨y4,z5,?_⟩
  have hb:q22 (sL P C IN (some t) x5) [cI l]=some (.nx (sL P C IN (some t) y5) [cI ((qb8 IN.length).map (Lw inn IN.length))]):=by unfold q22 fC;rw [mT];show (mm [.int (((IN.map fun js=>Dt.lst (js.map dI)).length:Int)-1),.int (-1),.int (-1)]).bind _=_;rw [qa3,kn hn,qa1];exact e1
  rw [iu (δ2:=sL P C IN (some t) y5) (show 4<6 by decide) hb];exact e2
noncomputable def inn (kept:List Nat) (rows:List Rw) (i:Nat):List Nat:=match rows[i]? with
 | some r=>(r.outs i).filter fun w=>!decide (w∈kept)
 | none=>[]
noncomputable def INN (kept:List Nat) (rows:List Rw):List (List Nat):=rows.mapIdx fun k r=>(r.outs k).filter fun w=>!decide (w∈kept)
theorem v3 {kept:List Nat} {rows:List Rw}:(INN kept rows).length=rows.length:=by simp [INN]
theorem tY {kept:List Nat} {rows:List Rw} (i:Nat) (js:List Nat) (h:(INN kept rows)[i]?=some js):js=inn kept rows i:=by unfold INN at h;rw [qo6] at h;obtain ⟨r,hr,rfl⟩:=mS h;unfold inn;rw [hr]
theorem yV {kept:List Nat} {rows:List Rw}:v0 kept rows=(INN kept rows).map fun js=>.lst (js.map dI):=by
 unfold v0 INN;apply qp3
 . simp
 . intro i h1 h2;simp
theorem tZ {kept:List Nat} {rows:List Rw} (hO:∀ (i:Nat) (r:Rw) (j:Nat),rows[i]?=some r->j∈r.outs i->j<rows.length) (hK:∀ (i:Nat) (r:Rw) (j:Nat),rows[i]?=some r->j∈r.outs i->j<=i->j∈kept) (i j:Nat) (h:j∈inn kept rows i):i<j/\j<rows.length:=by
 unfold inn at h;split at h
 . rename_i r hr;obtain ⟨h1,h2⟩:=ql2.mp h;refine ⟨?_,hO i r j hr h1⟩;refine Nat.lt_of_not_le fun z=>?_
   have:=hK i r j hr h1 z;simp [this] at h2
 . cases h
abbrev kcD (b:Dt) (ks:List (Nat×List Str)):Dt:=.tup [b,.tup (ks.map kpD)]
abbrev pcD (c s:Dt) (rows:List Rw):Dt:=.tup [c,s,dR rows]
theorem qM:∀ (n:Nat) (ds:List Dt),ds.length=n->bm (ao 0) aR z21 [none] ds=some ((qd3 n (1:Int)).map .int):=fun n ds h=>by
 have:=kg (bb:=ao 0) (ft:=aR) (fe:=z21) (δ:=[none]) (f:=fun _=>Dt.int 1) (ds:=ds) fun d _=>⟨[some (.leaf d)],rfl,rfl,rfl⟩
 rw [this];congr 1;apply qp3
 . simp [h]
 . intro i h1 h2;simp
theorem mU {c s b:Dt} {rows:List Rw} {ks:List (Nat×List Str)} (hO:∀ (i:Nat) (r:Rw) (j:Nat),rows[i]?=some r->j∈r.outs i->j<rows.length) (hK:∀ (i:Nat) (r:Rw) (j:Nat),rows[i]?=some r->j∈r.outs i->j<=i->j∈ks.map (·.1)) (hk:∀ k∈ks,k.1<rows.length) (hn:rows.length<=1000) (hkl:ks.length<=1000) (h0:0<rows.length) :
  ∃ ch,z16 [.dat (pcD c s rows),.dat (kcD b ks)] []=some (.dat (.int (eR (Lw (inn (ks.map (·.1)) rows) rows.length 0) ((ks.map (·.1)).map (Lw (inn (ks.map (·.1)) rows) rows.length)))),ch):=by
 generalize hq:ks.map (·.1)=kept at hK ⊢;have hin:=tZ hO hK;have e1:=tU c s b rows ks hn hkl;have ek:=pH b ks hkl;rw [hq,yV] at e1;rw [hq] at ek;have hlen:(INN kept rows).length=rows.length:=v3;have hin2:∀ i j,j∈inn kept rows i->i<j/\j<(INN kept rows).length:=by rw [hlen];exact hin
 have hkl2:kept.length<=1000:=by rw [<- hq];simpa using hkl
 have hk2:∀ j∈kept,j<rows.length:=fun j hj=>by rw [<- hq] at hj;obtain ⟨k,hm,rfl⟩:=qc1.mp hj;exact hk k hm
 have hsm:∀ js∈INN kept rows,js.length<=1000:=fun js hm=>by
  obtain ⟨i,hi⟩:=qo8 hm;rw [tY i js hi];unfold inn;split
  . exact qc5 (qe0 _ _) (qc5 (Rw.outs_len _ _) (by decide))
  . simp
 obtain ⟨y4,y5,e3⟩:=ko (P:=pcD c s rows) (C:=kcD b ks) hin2 tY hsm (by lia) (eL 0 rows.length) (qd3 rows.length 1) none none (by simp [hlen]) (fun z=>by exfalso;have:=congrArg qj7 z;unfold eL at this;rw [qa3,qi2,qe9] at this;lia)
 refine ⟨[cI ((qb8 rows.length).map (Lw (inn kept rows) rows.length))],?_⟩;unfold z16;refine ln ?_
 have s1:bv 2 (eD (toD (aj q27 (aa (vL 0) (aa (vL 1) ai))))) [some (.dat (pcD c s rows)),some (.dat (kcD b ks)),none,none,none,none] []=some (.nx [some (.dat (pcD c s rows)),some (.dat (kcD b ks)),some (.dat (inL (INN kept rows))),none,none,none] []):=by refine bA (dZ ?_);show ((q27 [pcD c s rows,kcD b ks]).map T.d)=_;rw [e1];rfl
 have s2:bv 3 (eN (aU [none] (fIt (vB 2)) (ao 0) aR z21)) [some (.dat (pcD c s rows)),some (.dat (kcD b ks)),some (.dat (inL (INN kept rows))),none,none,none] []=some (.nx (sL (pcD c s rows) (kcD b ks) (INN kept rows) none none) [cI (qd3 rows.length 1)]):=by refine bA ?_;unfold eN;show (((bm (ao 0) aR z21 [none] ((INN kept rows).map fun js=>.lst (js.map dI))).bind mkL).bind _)=_;rw [qM rows.length _ (by simp [hlen]),qa1,bE (by simp;lia)];show some (CV.ref 0,[CO.lst (((qd3 rows.length (1:Int)).map Dt.int).map CV.dat)])=_;rw [qd0];rfl
 have s3:fC (dh fN (aa (toD (aj bR (aa (vB 2) ai))) ai)) [4] (ao 4) q22 (sL (pcD c s rows) (kcD b ks) (INN kept rows) none none) [cI (qd3 rows.length 1)]=some (.nx (sL (pcD c s rows) (kcD b ks) (INN kept rows) y4 y5) [cI ((qb8 rows.length).map (Lw (inn kept rows) rows.length))]):=by
  rw [hlen] at e3;unfold fC;rw [mT]
  have er:dh fN (aa (toD (aj bR (aa (vB 2) ai))) ai) (dL (pcD c s rows) (kcD b ks) (INN kept rows) (qd3 rows.length 1) none none)=some (eL 0 rows.length):=by unfold dL inL;walk_at "k";rw [qa3,hlen,tj (by lia)]
  rw [er,qa1];exact e3
 show bX _ _ [some (.dat (pcD c s rows)),some (.dat (kcD b ks)),none,none,none,none] []=_;rw [bi s1,bi s2,bi s3];refine jg (dZ ?_);rw [mT];unfold dL
 have hc:bm (ao 0) aR q19 [none,some (.lst (((qb8 rows.length).map (Lw (inn kept rows) rows.length)).map .int))] ((0::kept).map dI)=some (((0::kept).map (Lw (inn kept rows) rows.length)).map .int):=by
  have:=bN (f:=dI) (h:=fun j=>Dt.int (Lw (inn kept rows) rows.length j)) (bb:=ao 0) (ft:=aR) (fe:=q19) (δ:=[none,some (.lst (((qb8 rows.length).map (Lw (inn kept rows) rows.length)).map .int))]) (l:=0::kept) fun j hm=>⟨[some (.leaf (dI j)),some (.lst (((qb8 rows.length).map (Lw (inn kept rows) rows.length)).map .int))],rfl,rfl,by
   unfold q19
   have hj:j<rows.length:=by
    rcases qa9.mp hm with rfl | hm
    . exact h0
    . exact hk2 j hm
   have h2:=tX (l:=(qb8 rows.length).map (Lw (inn kept rows) rows.length)) (j:=j) (a:=Lw (inn kept rows) rows.length j) (by simp [hj]);walk_at "k";show ((aw (.lst (((qb8 rows.length).map (Lw (inn kept rows) rows.length)).map .int)) (dI j)).map T.d)=_;rw [h2];rfl⟩
  rw [this,qd0];rfl
 walk_at "k";rw [show y22 [kcD b ks]=_ from ek];show qg1 T.d (((qg1 T.d (((qg1 T.d (aN (Dt.lst [Dt.int 0]) (.lst (kept.map dI)))).bind itD).bind fun ds=>(bm (ao 0) aR q19 [none,some (T.lst (((qb8 rows.length).map (Lw (inn kept rows) rows.length)).map .int))] ds).bind mkL)).bind fun d=>some [d]).bind cF)=_;rw [fw (by simp;lia)];show qg1 T.d (((qg1 T.d ((bm (ao 0) aR q19 [none,some (T.lst (((qb8 rows.length).map (Lw (inn kept rows) rows.length)).map .int))] ((0::kept).map dI)).bind mkL)).bind fun d=>some [d]).bind cF)=_;rw [hc,qa1,bE (by simp;lia)];show qg1 T.d (cF [.lst (((0::kept).map (Lw (inn kept rows) rows.length)).map .int)])=_;rw [qa5,mN];rfl
theorem oe {c s b:Dt} {rows:List Rw} {ks:List (Nat×List Str)} (hO:∀ (i:Nat) (r:Rw) (j:Nat),rows[i]?=some r->j∈r.outs i->j<rows.length) (hK:∀ (i:Nat) (r:Rw) (j:Nat),rows[i]?=some r->j∈r.outs i->j<=i->j∈ks.map (·.1)) (hk:∀ k∈ks,k.1<rows.length) (hn:rows.length<=1000) (hkl:ks.length<=1000) (h0:0<rows.length) :
  fS z16 [pcD c s rows,kcD b ks]=some (.leaf (.int (eR (Lw (inn (ks.map (·.1)) rows) rows.length 0) ((ks.map (·.1)).map (Lw (inn (ks.map (·.1)) rows) rows.length))))):=by
 obtain ⟨ch,e⟩:=mU (c:=c) (s:=s) (b:=b) hO hK hk hn hkl h0;unfold fS;show ((z16 [.dat (pcD c s rows),.dat (kcD b ks)] []).bind _)=_;rw [e];rfl
noncomputable def twN (cs ss:List Hd):Int:=((cs.filter (·.b)).length:Nat)+((ss.filter (·.b)).map (·.n)).sum
theorem t3 (cs ss:List Hd) (R:Dt) (hc:cs.length<=1000) (hs:ss.length<=1000):q23 [.tup [.tup (cs.map hdD),.tup (ss.map hdD),R]]=some (.leaf (.int (twN cs ss))):=by
 have e1:bm (ao 0) z37 (vL 0) [none] (cs.map hdD)=some ((cs.filter (·.b)).map hdD):=bO fun h _=>⟨_,rfl,by unfold z37 hdD;walk_at "k";try rfl,fun _=>rfl⟩
 have e2:bm (ao 0) q32 y32 [none] (ss.map hdD)=some (((ss.filter (·.b)).map (·.n)).map .int):=by
  have:=bO (f:=hdD) (h:=fun h:Hd=>Dt.int h.n) (p:=fun h=>h.b) (bb:=ao 0) (ft:=q32) (fe:=y32) (δ:=[none]) (l:=ss) fun h _=>⟨_,rfl,by unfold q32 hdD;walk_at "k";try rfl,fun _=>by unfold y32 hdD;walk_at "k"⟩
  rw [this,qd0];rfl
 have l1:=qe0 (fun h:Hd=>h.b) cs;have l2:=qe0 (fun h:Hd=>h.b) ss;unfold q23;walk_at "k";rw [e1,e2,qa1,qa1,bE (by rw [qa3];lia),bE (by rw [qa3,qa3];lia)];walk_at "k";rw [mO];walk_at "k";simp [twN]
theorem t4 (n:Nat) (r:Rw):z31 [r.d,.int n]=some (.leaf (.tup ((r.outs n).map dI))):=by cases r<;>kernel_rfl
noncomputable def kI (j:Nat):Key:=.inl (j:Int)
theorem t5 {a j:Nat} (z:kI a=kI j):a=j:=by unfold kI at z;have:=qy8.inj z;lia
noncomputable def cK (seen:List Nat):CO:=.dK (seen.map fun j=>(kI j,.dat (.bl true)))
noncomputable def cL (left:List Nat):CO:=.lst (left.map fun j=>.dat (dI j))
theorem v4:∀ l:List Nat,dats ((l.map fun j=>(kI j,CV.dat (.bl true))).map (·.2))=some (l.map fun _=>Dt.bl true)
 | []=>rfl
 | j::l=>by have:=v4 l;simp only [qa5,dats] at this ⊢;rw [this];rfl
theorem pL:∀ l:List Nat,dats (l.map fun j=>CV.dat (dI j))=some (l.map dI)
 | []=>rfl
 | j::l=>by have:=pL l;simp only [qa5,dats] at this ⊢;rw [this];rfl
theorem tv_L (left:List Nat):tvO (cL left)=some (.lst (left.map dI)):=by unfold tvO cL;dsimp only;rw [pL];rfl
theorem kr (j:Nat):∀ seen:List Nat,j∉seen->fR (seen.map fun j=>(kI j,CV.dat (.bl true))) (kI j) (.dat (.bl true))=(seen++[j]).map fun j=>(kI j,.dat (.bl true))
 | [],_=>rfl
 | a::seen,h=>by
  have h1:¬ a=j:=fun z=>h (z▸.head _)
  simp only [qa5,za5];unfold fR;rw [if_neg (fun z=>h1 (t5 z)),kr j seen fun z=>h (.tail _ z)]
theorem v5 {seen:List Nat} (h:seen.Nodup):((seen.map fun j=>(kI j,CV.dat (.bl true))).map (·.1)).Nodup:=by rw [qd0,List.nodup_iff_pairwise_ne,List.pairwise_map];exact qy3 (fun {a b} (z:a≠b) e=>z (t5 e)) h
theorem pM (j:Nat):∀ seen:List Nat,j∈seen->fR (seen.map fun j=>(kI j,CV.dat (.bl true))) (kI j) (.dat (.bl true))=seen.map fun j=>(kI j,.dat (.bl true))
 | a::seen,h=>by
  simp only [qa5];unfold fR;by_cases e:kI a=kI j
  . rw [if_pos e,e]
  . rw [if_neg e,pM j seen];rcases qa9.mp h with rfl | h
    . exact absurd rfl e
    . exact h
theorem qN (j:Nat) (seen:List Nat):fR (seen.map fun j=>(kI j,CV.dat (.bl true))) (kI j) (.dat (.bl true))=(once seen j).map fun j=>(kI j,.dat (.bl true)):=by
 unfold once;split
 . rename_i h;exact pM j seen h
 . rename_i h;exact kr j seen h
noncomputable def sM (P C:Dt) (st:List Nat) (hi:Nat) (k:Int) (di:Nat) (x6 x7:Option Dt):Sl:=[some (.dat P),some (.dat C),some (.dat (.lst (st.map dI))),some (.ref hi),some (.dat (.int k)),some (.ref di),x6.map .dat,x7.map .dat]
theorem sM2 {P C:Dt} {st:List Nat} {hi di:Nat} {k:Int} {x6 x7:Option Dt} {ch:CH}:vB 2 (lo (sM P C st hi k di x6 x7) ch)=some (.lst (st.map dI)):=rfl
theorem sM7 {P C:Dt} {st:List Nat} {hi di:Nat} {k:Int} {x6:Option Dt} {j:Nat} {ch:CH}:vB 7 (lo (sM P C st hi k di x6 (some (dI j))) ch)=some (dI j):=by cases x6<;>rfl
theorem sM7L {P C:Dt} {st:List Nat} {hi di:Nat} {k:Int} {x6:Option Dt} {j:Nat} {ch:CH}:vL 7 (lo (sM P C st hi k di x6 (some (dI j))) ch)=some (dI j):=by cases x6<;>rfl
theorem AC {P C:Dt} {st:List Nat} {hi di:Nat} {k:Int} {x6:Option Dt} {j:Nat} {ch:CH} {acc:List Nat} (hd:ch[di]?=some (cK acc)) (nd:acc.Nodup) (hs:acc.length<1000):q30 (sM P C st hi k di x6 (some (dI j))) ch=some (.nx (sM P C st hi k di x6 (some (dI j))) (ch.set di (cK (if j∈st then acc else once acc j)))):=by
 have ht:tD (tB2 (cW true) (vB 7) (vB 2)) (sM P C st hi k di x6 (some (dI j))) ch=some (!decide (j∈st),ch):=by refine w9 ?_;unfold tB2 d2;rw [sM7,sM2];show ((cW true (dI j) (.lst (st.map dI))).bind asB)=_;rw [mR];rfl
 have hlt:di<ch.length:=(gX hd).1;unfold q30;by_cases h:j∈st
 . rw [decide_eq_true h] at ht;rw [tE ht,if_pos h]
   have e:ch.set di (cK acc)=ch:=by
    apply qr8;intro m;by_cases z:m=di
    . subst z;rw [qd1 hlt,hd]
    . rw [gN (qk6 z)]
   rw [e];rfl
 . rw [decide_eq_false h] at ht;rw [tz ht,if_neg h];refine jf (ch1:=ch) (ch2:=ch) (ch3:=ch) (i:=di) (d:=dI j) (o:=cK acc) (dZ rfl) (mF rfl) (dZ sM7L) hd ?_;unfold qq cK dI;show (if _ then _ else none)=_;rw [if_pos ⟨mE (by rw [qa3];lia),v5 nd⟩,show (qy8 ((j:Nat):Int):Key)=kI j from rfl,qN j acc]
noncomputable def Bd (N:Nat) (acc:List Nat):Prop:=acc.Nodup/\∀ j∈acc,j<N
theorem Bd.len {N:Nat} {acc:List Nat} (h:Bd N acc):acc.length<=N:=by
 have:=dY h.1 (m:=qb8 N) fun x hx=>qg6.mpr (h.2 x hx)
 simpa using this
theorem Bd.once {N j:Nat} {acc:List Nat} (h:Bd N acc) (hj:j<N):Bd N (once acc j):=⟨ie h.1,fun x hx=>by
 rcases onceK_mem.mp hx with hx | rfl
 . exact h.2 x hx
 . exact hj⟩
theorem Bd.fold {N:Nat}:∀ {js acc:List Nat},Bd N acc->(∀ j∈js,j<N)->Bd N (js.foldl L2.once acc)
 | [],_,h,_=>h
 | j::js,_,h,hj=>Bd.fold (js:=js) (h.once (hj j (.head _))) fun k hk=>hj k (.tail _ hk)
theorem t6 {P C:Dt} {st:List Nat} {hi di N:Nat} {k:Int} {x6:Option Dt} (hN:N<=500):∀ (js acc:List Nat) (x7:Option Dt) (ch:CH),ch[di]?=some (cK acc)->Bd N acc->(∀ j∈js,j<N)->∃ y7 ch',iT [7] (ao 7) q30 (js.map dI) (sM P C st hi k di x6 x7) ch=some (.nx (sM P C st hi k di x6 y7) ch')/\ch'[di]?=some (cK ((js.filter fun w=>!decide (w∈st)).foldl once acc))/\ch'.length=ch.length/\∀ m,m≠di->ch'[m]?=ch[m]?
 | [],acc,x7,ch,hd,_,_=>⟨x7,ch,rfl,hd,rfl,fun _ _=>rfl⟩
 | j::js,acc,x7,ch,hd,nd,hj=>by
  have hlt:di<ch.length:=(gX hd).1;have hl:=nd.len;have e1:=AC (P:=P) (C:=C) (st:=st) (hi:=hi) (k:=k) (x6:=x6) (j:=j) hd nd.1 (by lia)
  have nd2:Bd N (if j∈st then acc else once acc j):=by
   split
   . exact nd
   . exact nd.once (hj j (.head _))
  obtain ⟨y7,ch',e2,h1,h2,h3⟩:=t6 (P:=P) (C:=C) (st:=st) (hi:=hi) (k:=k) (x6:=x6) hN js (if j∈st then acc else once acc j) (some (dI j)) (ch.set di (cK (if j∈st then acc else once acc j))) (qd1 hlt) nd2 fun k hk=>hj k (.tail _ hk)
  refine ⟨y7,ch',?_,?_,by rw [h2,zc0],fun m hm=>by rw [h3 m hm,gN (qk6 hm)]⟩
  . rw [qa5,iu (δ2:=sM P C st hi k di x6 (some (dI j))) (show 7<8 by decide) e1];exact e2
  . rw [h1,List.filter_cons];by_cases z:j∈st
    . simp [z]
    . simp [z]
theorem yW {c s C:Dt} {st:List Nat} {rows:List Rw} {hi di i:Nat} {k:Int} {x7:Option Dt} {acc:List Nat} {ch:CH} (hO:∀ (i:Nat) (r:Rw) (j:Nat),rows[i]?=some r->j∈r.outs i->j<rows.length) (hN:rows.length<=500) (hi':i<rows.length) (hd:ch[di]?=some (cK acc)) (nd:Bd rows.length acc) :
  ∃ y7 ch',z17 (sM (pcD c s rows) C st hi k di (some (dI i)) x7) ch=some (.nx (sM (pcD c s rows) C st hi k di (some (dI i)) y7) ch')/\ch'[di]?=some (cK ((inn st rows i).foldl once acc))/\ch'.length=ch.length/\∀ m,m≠di->ch'[m]?=ch[m]?:=by
 have hr:rows[i]?=some rows[i]:=by simp [hi']
 obtain ⟨y7,ch',e,h1,h2,h3⟩:=t6 (P:=pcD c s rows) (C:=C) (st:=st) (hi:=hi) (k:=k) (x6:=some (dI i)) hN ((rows[i]).outs i) acc x7 ch hd nd fun j hj=>hO i _ j hr hj
 refine ⟨y7,ch',?_,?_,h2,h3⟩
 . unfold z17 fC
   have e2:fIt (toD (aj z31 (aa (toD (d2 aw (toD (d2 aw (vB 0) (kD (.int 2)))) (vB 6))) (aa (vL 6) ai)))) (lo (sM (pcD c s rows) C st hi k di (some (dI i)) x7) ch)=some (((rows[i]).outs i).map dI):=by
    have a1:(toD (d2 aw (toD (d2 aw (vB 0) (kD (.int 2)))) (vB 6))) (lo (sM (pcD c s rows) C st hi k di (some (dI i)) x7) ch)=some (rows[i]).d:=by show ((aw (dR rows) (dI i)).map T.d)=_;rw [show aw (dR rows) (dI i)=_ from tN hr];rfl
    have a2:vL 6 (lo (sM (pcD c s rows) C st hi k di (some (dI i)) x7) ch)=some (dI i):=rfl;unfold fIt toD aj aa ai;rw [show (fun δ=>(d2 aw (fun δ=>qg1 T.d (d2 aw (vB 0) (kD (.int 2)) δ)) (vB 6) δ).map T.d)=toD (d2 aw (toD (d2 aw (vB 0) (kD (.int 2)))) (vB 6)) from rfl,a1,a2];show (((z31 [(rows[i]).d,.int i]).map T.d).bind itD)=_;rw [t4];rfl
   rw [e2,qa1];exact e
 . rw [h1];unfold inn;rw [hr]
theorem pN {c s C:Dt} {st:List Nat} {rows:List Rw} {hi di:Nat} {k:Int} {here:List Nat} (hO:∀ (i:Nat) (r:Rw) (j:Nat),rows[i]?=some r->j∈r.outs i->j<rows.length) (hN:rows.length<=500) (hh:∀ i∈here,i<rows.length) (hne:hi≠di):∀ (rest done acc:List Nat) (n:Nat) (x6 x7:Option Dt) (ch:CH),here=done++rest->rest.length<n->ch[hi]?=some (cL here)->ch[di]?=some (cK acc)->Bd rows.length acc→
  ∃ y6 y7 ch',jt hi (ggN 6) z17 n done.length (sM (pcD c s rows) C st hi k di x6 x7) ch=some (.nx (sM (pcD c s rows) C st hi k di y6 y7) ch')/\ch'[di]?=some (cK (rest.foldl (fun a i=>(inn st rows i).foldl once a) acc))/\Bd rows.length (rest.foldl (fun a i=>(inn st rows i).foldl once a) acc)/\ch'.length=ch.length
 | [],done,acc,n,x6,x7,ch,he,hn,h1,h2,nd=>by obtain ⟨n,rfl⟩:∃ m,n=m+1:=⟨n-1,by simp at hn;lia⟩;refine ⟨x6,x7,ch,?_,h2,nd,rfl⟩;rw [jt,h1];unfold cL;dsimp only;rw [qs6 (by rw [qa3,he];simp)]
 | i::rest,done,acc,n,x6,x7,ch,he,hn,h1,h2,nd=>by
  obtain ⟨n,rfl⟩:∃ m,n=m+1:=⟨n-1,by simp at hn;lia⟩;have hi':i<rows.length:=hh i (by rw [he];simp);obtain ⟨y7,ch1,e1,a1,a2,a3⟩:=yW (c:=c) (s:=s) (C:=C) (st:=st) (hi:=hi) (k:=k) (x7:=x7) hO hN hi' h2 nd
  have nd1:Bd rows.length ((inn st rows i).foldl once acc):=nd.fold fun j hj=>by
   unfold inn at hj;split at hj
   . rename_i r hr;exact hO i r j hr (ql2.mp hj).1
   . cases hj
  obtain ⟨y6,z7,ch2,e2,b1,b2,b3⟩:=pN (c:=c) (s:=s) (C:=C) (st:=st) (k:=k) hO hN hh hne rest (done++[i]) _ n (some (dI i)) y7 ch1 (by rw [he];simp) (by simp at hn;lia) (by rw [a3 hi hne];exact h1) a1 nd1;refine ⟨y6,z7,ch2,?_,b1,b2,by lia⟩;rw [jt,h1];unfold cL;dsimp only;rw [qb9,he,gR (nL _),zg8];show ((z17 (sM (pcD c s rows) C st hi k di (some (dI i)) x7) ch).bind _)=_;rw [e1,qa1];have e3:=e2;rw [qb2,qn5] at e3;exact e3
noncomputable def sW (P C:Dt) (st:List Nat) (hi:Nat) (k:Int) (x5:Option Nat) (x6 x7:Option Dt):Sl:=[some (.dat P),some (.dat C),some (.dat (.lst (st.map dI))),some (.ref hi),some (.dat (.int k)),x5.map .ref,x6.map .dat,x7.map .dat]
theorem AD {δ:Sl} {ch:CH} {i:Nat} {d:Dt} (h:δ[i]?=some (some (.dat d))):vB i (lo δ ch)=some d:=by unfold vB;rw [tq h];rfl
theorem sW3 {P C:Dt} {st:List Nat} {hi:Nat} {k:Int} {x5:Option Nat} {x6 x7:Option Dt} {ch:CH} {here:List Nat} (h:ch[hi]?=some (cL here)):vB 3 (lo (sW P C st hi k x5 x6 x7) ch)=some (.lst (here.map dI)):=by
 have h1:(ch[hi]?).bind tvO=some (.lst (here.map dI)):=by rw [h];exact tv_L here
 have e:(lo (sW P C st hi k x5 x6 x7) ch)[3]?=some (some (.lst (here.map dI))):=by unfold lo sW;rw [loA,loA,loA,loA,if_neg qh8,h1];rfl
 unfold vB;rw [e];rfl
theorem pO {P C:Dt} {st:List Nat} {hi:Nat} {k:Int} {x5:Option Nat} {x6 x7:Option Dt} {ch:CH} {here:List Nat} (h:ch[hi]?=some (cL here)):y29 (sW P C st hi k x5 x6 x7) ch=some (decide (0<here.length),ch):=by
 unfold y29;refine w9 ?_;unfold tB2 d2
 have e:toD (aj bR (aa (vB 3) ai)) (lo (sW P C st hi k x5 x6 x7) ch)=some (.int (here.length:Nat)):=by unfold toD aj aa ai;rw [sW3 h];show some (Dt.int (((here.map dI).length:Nat):Int))=_;rw [qa3]
 rw [e];show some (decide ((0:Int)<(here.length:Nat)))=_;congr 1;rw [decide_eq_decide];lia
theorem yX (l:List Nat):CO.lst ((l.map fun j=>(kI j,CV.dat (.bl true))).map fun q=>.dat (mh q.1))=cL l:=by unfold cL;rw [qd0];rfl
theorem mV {st:List Nat} {rows:List Rw} {j:Nat}:∀ {here acc:List Nat},j∈here.foldl (fun a i=>(inn st rows i).foldl once a) acc↔j∈acc∨∃ i∈here,j∈inn st rows i
 | [],acc=>by simp
 | i::here,acc=>by rw [qi6,mV,g4];simp only [qa9,exists_eq_or_imp,or_assoc]
theorem v6 {c s C:Dt} {st:List Nat} {rows:List Rw} {hi:Nat} {k:Int} {here:List Nat} {x5:Option Nat} {x6 x7:Option Dt} {ch:CH} (hO:∀ (i:Nat) (r:Rw) (j:Nat),rows[i]?=some r->j∈r.outs i->j<rows.length) (hN:rows.length<=500) (hh:∀ i∈here,i<rows.length) (hl:here.length<5000) (h:ch[hi]?=some (cL here)) :
  ∃ there hi' y5 y6 y7 ch',q29 (sW (pcD c s rows) C st hi k x5 x6 x7) ch=some (.nx (sW (pcD c s rows) C st hi' (k+1) y5 y6 y7) ch')/\ch'[hi']?=some (cL there)/\Bd rows.length there/\∀ j,j∈there↔∃ i∈here,j∈inn st rows i:=by
 have hlt:hi<ch.length:=(gX h).1;obtain ⟨y6,y7,ch1,e1,a1,a2,a3⟩:=pN (c:=c) (s:=s) (C:=C) (st:=st) (k:=k+1) (hi:=hi) (di:=ch.length) hO hN hh (by lia) here [] [] 100000 x6 x7 (ch++[.dK []]) rfl (by lia) (by rw [qc2 hlt];exact h) (by simp [cK]) ⟨qw9,fun j hj=>by cases hj⟩;refine ⟨_,ch1.length,some ch.length,y6,y7,ch1++[cL (here.foldl (fun a i=>(inn st rows i).foldl once a) [])],?_,by simp,a2,fun j=>?_⟩
 . unfold q29
   have s1:bv 4 (eD (toD (d2 aN (vB 4) (kD (.int 1))))) (sW (pcD c s rows) C st hi k x5 x6 x7) ch=some (.nx (sW (pcD c s rows) C st hi (k+1) x5 x6 x7) ch):=bA (v:=.dat (.int (k+1))) (dZ (by unfold toD d2;rw [AD (d:=.int k) rfl];rfl))
   have s2:bv 5 (eN o5) (sW (pcD c s rows) C st hi (k+1) x5 x6 x7) ch=some (.nx (sM (pcD c s rows) C st hi (k+1) ch.length x6 x7) (ch++[.dK []])):=bA (v:=.ref ch.length) (by unfold eN o5;rfl)
   have s3:iU (eV 3) (ggN 6) z17 100000 (sM (pcD c s rows) C st hi (k+1) ch.length x6 x7) (ch++[.dK []])=some (.nx (sM (pcD c s rows) C st hi (k+1) ch.length y6 y7) ch1):=by unfold iU;rw [show eV 3 (sM (pcD c s rows) C st hi (k+1) ch.length x6 x7) (ch++[.dK []])=some (.ref hi,ch++[.dK []]) from mF rfl,qa1];dsimp only;rw [qe9] at e1;exact e1
   rw [bi s1,bi s2,bi s3];refine bA (v:=.ref ch1.length) ?_;unfold eLK;rw [show eV 5 (sM (pcD c s rows) C st hi (k+1) ch.length y6 y7) ch1=some (.ref ch.length,ch1) from mF rfl,qa1];dsimp only;rw [a1];unfold cK;dsimp only;rw [yX]
 . rw [mV];simp
theorem pP {c s C:Dt} {st:List Nat} {rows:List Rw} (hO:∀ (i:Nat) (r:Rw) (j:Nat),rows[i]?=some r->j∈r.outs i->j<rows.length) (hK:∀ (i:Nat) (r:Rw) (j:Nat),rows[i]?=some r->j∈r.outs i->j<=i->j∈st) (hN:rows.length<=500):∀ (f:Nat) (here:List Nat) (hi:Nat) (k:Int) (x5:Option Nat) (x6 x7:Option Dt) (ch:CH),(∀ i∈here,i<rows.length)->here.length<5000->ch[hi]?=some (cL here)->cP 0 (here.map (Lw (inn st rows) rows.length))<f→
  ∃ hi' y5 y6 y7 ch',cJ y29 q29 f (sW (pcD c s rows) C st hi k x5 x6 x7) ch=some (.nx (sW (pcD c s rows) C st hi' (k+cP 0 (here.map (Lw (inn st rows) rows.length))) y5 y6 y7) ch')
 | 0,here,hi,k,x5,x6,x7,ch,_,_,_,hf=>by
  have:0<=cP 0 (here.map (Lw (inn st rows) rows.length)):=by
   rcases dl 0 (here.map (Lw (inn st rows) rows.length)) with ⟨_,e⟩ | e
   . lia
   . obtain ⟨j,_,e⟩:=qc1.mp e;have:=n9 (inn:=inn st rows) (n:=rows.length) j;lia
  lia
 | f+1,[],hi,k,x5,x6,x7,ch,_,_,h,_=>by refine ⟨hi,x5,x6,x7,ch,?_⟩;rw [mJ (pO h)];show _=some (Og.nx (sW (pcD c s rows) C st hi (k+0) x5 x6 x7) ch);rw [Int.add_zero]
 | f+1,i::here,hi,k,x5,x6,x7,ch,hh,hl,h,hf=>by obtain ⟨there,hi1,y5,y6,y7,ch1,e1,b1,b2,b3⟩:=v6 (c:=c) (s:=s) (C:=C) (st:=st) (k:=k) (x5:=x5) (x6:=x6) (x7:=x7) hO hN hh hl h;have hly:=layer (tZ hO hK) (here:=i::here) (by simp) b3;have hlen:=b2.len;obtain ⟨hi2,z5,z6,z7,ch2,e2⟩:=pP (c:=c) (s:=s) (C:=C) hO hK hN f there hi1 (k+1) y5 y6 y7 ch1 b2.2 (by lia) b1 (by lia);refine ⟨hi2,z5,z6,z7,ch2,?_⟩;have hc:=pO (P:=pcD c s rows) (C:=C) (st:=st) (k:=k) (x5:=x5) (x6:=x6) (x7:=x7) h;rw [show decide (0<(i::here).length)=true by simp] at hc;rw [mI hc e1,e2,hly];congr 3;lia
theorem oh (ks:List (Nat×List Str)):bm (dg 2 (aW (ao 0) (aW (ao 1) de))) aR (vL 0) [none,none] (ks.map kpD)=some ((ks.map (·.1)).map dI):=by
 have:=bN (f:=kpD) (h:=fun k:Nat×List Str=>dI k.1) (bb:=dg 2 (aW (ao 0) (aW (ao 1) de))) (ft:=aR) (fe:=vL 0) (δ:=[none,none]) (l:=ks) fun k _=>⟨[some (.leaf (dI k.1)),some (.leaf (.tup (k.2.map .str)))],rfl,rfl,rfl⟩
 rw [this,qd0];rfl
theorem v7 {c s b:Dt} {rows:List Rw} {ks:List (Nat×List Str)} (hO:∀ (i:Nat) (r:Rw) (j:Nat),rows[i]?=some r->j∈r.outs i->j<rows.length) (hK:∀ (i:Nat) (r:Rw) (j:Nat),rows[i]?=some r->j∈r.outs i->j<=i->j∈ks.map (·.1)) (hk:∀ k∈ks,k.1<rows.length) (hn:rows.length<=500) (hkl:ks.length<=1000) (h0:0<rows.length) :
  fS q15 [pcD c s rows,kcD b ks]=some (.leaf (.int (eR (Lw (inn (ks.map (·.1)) rows) rows.length 0) ((ks.map (·.1)).map (Lw (inn (ks.map (·.1)) rows) rows.length))))):=by
 have hc:=oh ks;generalize hq:ks.map (·.1)=kept at hK hc ⊢;have hkl2:kept.length<=1000:=by rw [<- hq];simpa using hkl
 have hk2:∀ j∈0::kept,j<rows.length:=fun j hj=>by
  rcases qa9.mp hj with rfl | hj
  . exact h0
  . rw [<- hq] at hj;obtain ⟨k,hm,rfl⟩:=qc1.mp hj;exact hk k hm
 have hb:cP 0 ((0::kept).map (Lw (inn kept rows) rows.length))<(100000:Nat):=by
  have:cP 0 ((0::kept).map (Lw (inn kept rows) rows.length))<=rows.length+1:=ix (by lia) fun a ha=>by obtain ⟨j,_,rfl⟩:=qc1.mp ha;exact Az j
  lia
 obtain ⟨hi,y5,y6,y7,ch,e⟩:=pP (c:=c) (s:=s) (C:=kcD b ks) hO hK hn 100000 (0::kept) 0 0 none none none [cL (0::kept)] hk2 (by simp;lia) rfl hb
 have hrun:q15 [.dat (pcD c s rows),.dat (kcD b ks)] []=some (.dat (.int (cP 0 ((0::kept).map (Lw (inn kept rows) rows.length)))),ch):=by
  unfold q15;refine ln ?_
  have s1:bv 2 (eD (toD (aU [none,none] (fIt (toD (d2 aw (vB 1) (kD (.int 1))))) (dg 2 (aW (ao 0) (aW (ao 1) de))) aR (vL 0)))) [some (.dat (pcD c s rows)),some (.dat (kcD b ks)),none,none,none,none,none,none] []=some (.nx [some (.dat (pcD c s rows)),some (.dat (kcD b ks)),some (.dat (.lst (kept.map dI))),none,none,none,none,none] []):=by refine bA (dZ ?_);show qg1 T.d ((bm (dg 2 (aW (ao 0) (aW (ao 1) de))) aR (vL 0) [none,none] (ks.map kpD)).bind mkL)=_;rw [hc,qa1,bE (by rw [qa3];lia)];rfl
  have s2:bv 3 (eN (d2 aN (toD (bU (aa (kD (.int 0)) ai))) (vB 2))) [some (.dat (pcD c s rows)),some (.dat (kcD b ks)),some (.dat (.lst (kept.map dI))),none,none,none,none,none] []=some (.nx [some (.dat (pcD c s rows)),some (.dat (kcD b ks)),some (.dat (.lst (kept.map dI))),some (.ref 0),none,none,none,none] [cL (0::kept)]):=by refine bA (v:=.ref 0) ?_;unfold eN;show ((aN (.lst [.int 0]) (.lst (kept.map dI))).bind _)=_;rw [fw (by simp;lia),qa1];show some (CV.ref 0,[CO.lst ((Dt.int 0::kept.map dI).map CV.dat)])=_;unfold cL;rw [qa5,qd0,qa5];rfl
  have s3:bv 4 (eD (kD (.int 0))) [some (.dat (pcD c s rows)),some (.dat (kcD b ks)),some (.dat (.lst (kept.map dI))),some (.ref 0),none,none,none,none] [cL (0::kept)]=some (.nx (sW (pcD c s rows) (kcD b ks) kept 0 0 none none none) [cL (0::kept)]):=bA (v:=.dat (.int 0)) (dZ rfl);show bX _ _ [some (.dat (pcD c s rows)),some (.dat (kcD b ks)),none,none,none,none,none,none] []=_;rw [bi s1,bi s2,bi s3,bi e];refine jg (dZ ?_);unfold vL;rw [tq (d:=.int (0+cP 0 ((0::kept).map (Lw (inn kept rows) rows.length)))) rfl,Int.zero_add]
 unfold fS;show ((q15 [.dat (pcD c s rows),.dat (kcD b ks)] []).bind _)=_;rw [hrun];rfl
noncomputable def mxB (bg:List Str) (ks:List (Nat×List Str)):Int:=eR (bg.length:Nat) (ks.map fun k=>((k.2.length:Nat):Int))
theorem mW (fe:De->Option Dt) (hf:fe=toD (aj bR (aa (toD (d2 aw (vB 0) (kD (.int 1)))) ai))) (ks:List (Nat×List Str)):bm (ao 0) aR fe [none] (ks.map kpD)=some ((ks.map fun k=>((k.2.length:Nat):Int)).map .int):=by
 have:=bN (f:=kpD) (h:=fun k:Nat×List Str=>Dt.int ((k.2.length:Nat):Int)) (bb:=ao 0) (ft:=aR) (fe:=fe) (δ:=[none]) (l:=ks) fun k _=>⟨[some (.leaf (kpD k))],rfl,rfl,by rw [hf];show some (Dt.int (((k.2.map Dt.str).length:Nat):Int))=_;rw [qa3]⟩
 rw [this,qd0];rfl
theorem jj (bg:List Str) (ks:List (Nat×List Str)):cF [.lst ([.int ((bg.map Dt.str).length:Nat)]++(ks.map fun k=>((k.2.length:Nat):Int)).map .int)]=some (.leaf (.int (mxB bg ks))):=by show cF [.lst (((((bg.map Dt.str).length:Nat):Int)::(ks.map fun k=>((k.2.length:Nat):Int))).map .int)]=_;rw [mN,qa3];rfl
abbrev lgR (rows:List Rw) (ks:List (Nat×List Str)):Int:=eR (Lw (inn (ks.map (·.1)) rows) rows.length 0) ((ks.map (·.1)).map (Lw (inn (ks.map (·.1)) rows) rows.length))
theorem qO {cs ss:List Hd} {rows:List Rw} {bg:List Str} {ks:List (Nat×List Str)} (hO:∀ (i:Nat) (r:Rw) (j:Nat),rows[i]?=some r->j∈r.outs i->j<rows.length) (hK:∀ (i:Nat) (r:Rw) (j:Nat),rows[i]?=some r->j∈r.outs i->j<=i->j∈ks.map (·.1)) (hk:∀ k∈ks,k.1<rows.length) (hn:rows.length<=500) (hkl:ks.length<=1000) (h0:0<rows.length) (hc:cs.length<=1000) (hs:ss.length<=1000) :
  y35 [pgD cs ss rows,cdD bg ks]=some (.leaf (.int (2*twN cs ss+mxB bg ks+lgR rows ks+3))):=by
 have e1:=t3 cs ss (dR rows) hc hs;have e2:=oe (c:=.tup (cs.map hdD)) (s:=.tup (ss.map hdD)) (b:=.tup (bg.map .str)) hO hK hk (by lia) hkl h0;have e3:=mW q52 rfl ks;have e4:=jj bg ks;unfold y35;rw [lh]
 have s1:aM 2 (toT (toD (aj cF (aa (toD (d2 aN (toD (bU (aa (toD (aj bR (aa (toD (d2 aw (vB 1) (kD (.int 0)))) ai))) ai))) (toD (aU [none] (fIt (toD (d2 aw (vB 1) (kD (.int 1))))) (ao 0) aR q52)))) ai)))) [some (.leaf (pgD cs ss rows)),some (.leaf (cdD bg ks)),none]=some (.nx [some (.leaf (pgD cs ss rows)),some (.leaf (cdD bg ks)),some (.leaf (.int (mxB bg ks)))]):=by
  have a:toD (aj cF (aa (toD (d2 aN (toD (bU (aa (toD (aj bR (aa (toD (d2 aw (vB 1) (kD (.int 0)))) ai))) ai))) (toD (aU [none] (fIt (toD (d2 aw (vB 1) (kD (.int 1))))) (ao 0) aR q52)))) ai)) [some (.leaf (pgD cs ss rows)),some (.leaf (cdD bg ks)),none]=some (.int (mxB bg ks)):=by unfold cdD;walk_at "k";rw [e3,qa1,bE (by simp;lia)];walk_at "k";rw [fw (by simp;lia)];show qg1 T.d (cF [.lst ([.int ((bg.map Dt.str).length:Nat)]++(ks.map fun k=>((k.2.length:Nat):Int)).map .int)])=_;rw [e4];rfl
  unfold aM toT;rw [a];rfl
 show jb (aD _ _ [some (.leaf (pgD cs ss rows)),some (.leaf (cdD bg ks)),none])=_;rw [cE,s1,bH];walk_at "k";rw [show q23 [pgD cs ss rows]=_ from e1,show fS z16 [pgD cs ss rows,cdD bg ks]=_ from e2];rfl
theorem ci {α β:Type} (f:α->β) (l:List α) (k:Nat) (h:k<l.length) (d:α):atI (l.map f) (k:Int)=some (f (l.getD k d)):=by unfold atI ixN;rw [if_pos (by lia),qa3,if_pos (by lia)];simp [h]
theorem ei (ns:List Int) (k:Nat):y1 [.lst (ns.map .int),.int k]=some (.leaf (.int (ns.getD k 0))):=by
 unfold y1;walk_at "d";by_cases h:k<ns.length
 . rw [du (by simpa using h)];walk_at "d";rw [ci Dt.int ns k h 0];rfl
 . rw [dv (by simpa using h)];walk_at "d";simp [List.getD,show ns.length<=k by lia]
theorem gv {i j:Int} (h0:0<j) (h1:j<10000000000000):fF (.int i) (.int j)=some (.leaf (.int (i/j))):=if_pos ⟨h0,by lia⟩
theorem ij (x1:Option T):∀ (zs:List Nat) (n:Int) (done:List Nat) (x3:Option T),(∀ z∈zs,0<z/\z<10000000000000)->done.length+zs.length<=100->∃ (n':Int) (ds:List Nat) (y:Option T),c8 (ao 3) q41 (zs.map dI) [some (.leaf (.int n)),x1,some (.lst (done.map dI)),x3]=some (.nx [some (.leaf (.int n')),x1,some (.lst ((done++ds).map dI)),y])/\ds.length=zs.length/\∀ (i d z:Nat),ds[i]?=some d->zs[i]?=some z->d<z
 | [],n,done,x3,_,_=>⟨n,[],x3,by simp [c8],rfl,fun i d z h=>by simp at h⟩
 | z::zs,n,done,x3,hz,hl=>by
  obtain ⟨h0,h1⟩:=hz z (.head _);have m0:=qv1 n (show (z:Int)≠0 by lia);have m1:=Int.emod_lt_of_pos n (show (0:Int)<z by lia);obtain ⟨d,hd⟩:∃ d:Nat,n%(z:Int)=(d:Int):=⟨(n%(z:Int)).toNat,by lia⟩;obtain ⟨n',ds,y,e,el,ed⟩:=ij x1 zs (n/z) (done++[d]) (some (.leaf (dI z))) (fun w hw=>hz w (.tail _ hw)) (by simp at hl ⊢;lia);refine ⟨n',d::ds,y,?_,by simp [el],fun i d' z' h1 h2=>?_⟩
  . rw [qa5,bF (δ1:=[some (.leaf (.int n)),x1,some (.lst (done.map dI)),some (.leaf (dI z))]) (δ2:=[some (.leaf (.int (n/z))),x1,some (.lst ((done++[d]).map dI)),some (.leaf (dI z))]) rfl ?_]
    . rw [e];simp
    . unfold q41 dI;walk_at "d";rw [ib rfl];walk_at "d";rw [eU (by lia),hd];walk_at "d";rw [dw (by rw [qa3];simp at hl;lia)];walk_at "d";rw [gv (by lia) (by lia)];walk_at "d";simp [dI]
  . cases i with
    | zero =>simp at h1 h2;subst h1 h2;lia
    | succ i=>exact ed i d' z' (by simpa using h1) (by simpa using h2)
theorem g6 (n:Int) (zs:List Nat) (hz:∀ z∈zs,0<z/\z<10000000000000) (hl:zs.length<=50):∃ ds:List Nat,q12 [.int n,.lst (zs.map dI)]=some (.lst (ds.map dI))/\ds.length=zs.length/\∀ (i d z:Nat),ds[i]?=some d->zs[i]?=some z->d<z:=by obtain ⟨n',ds,y,e,el,ed⟩:=ij (some (.leaf (.lst (zs.map dI)))) zs n [] none hz (by simp;lia);refine ⟨ds,?_,el,ed⟩;unfold q12;walk_at "d";rw [show ([]:List Dt)=([]:List Nat).map dI from rfl,e];walk_at "d"
theorem kt {α:Type} (a:Array α):∀ (n:Nat) (acc:Array α),((qd3 n a).foldl (· ++ ·) acc).size=acc.size+n*a.size
 | 0,acc=>by simp
 | n+1,acc=>by rw [List.replicate_succ,qi6,kt a n,Array.size_append,Nat.succ_mul];lia
theorem pQ (c:Nat) (n:Nat):(fP ⟨#[c]⟩ n).length<=n+1:=by
 unfold fP;split
 . simp [Str.empty,zd5]
 . split
   . simp [zd5]
   . show ((qd3 (n:Int).toNat #[c]).foldl (· ++ ·) #[]).size<=n+1;rw [kt];simp
theorem pR (c n:Nat) (h:n<=10):gr (.str ⟨#[c]⟩) (.int n)=some (.leaf (.str (fP ⟨#[c]⟩ n))):=if_pos ⟨by lia,by lia,by simp [zd5]⟩
theorem v8 (c d m n:Nat) (hm:m<=10) (hn:n<=10):∃ w:Str,((qg1 T.d ((qg1 T.d (gr (.str ⟨#[c]⟩) (.int m))).bind fun x=>aN x (.str ⟨#[d]⟩))).bind fun x=>(qg1 T.d (gr (.str ⟨#[c]⟩) (.int n))).bind fun y=>aN x y)=some (.leaf (.str w)):=by
 have l1:=pQ c m;have l2:=pQ c n;have hs:qa7=16777216:=qz0;refine ⟨fP ⟨#[c]⟩ m++⟨#[d]⟩++fP ⟨#[c]⟩ n,?_⟩;rw [pR c m hm,pR c n hn];show ((((aN (.str (fP ⟨#[c]⟩ m)) (.str ⟨#[d]⟩)).map T.d).bind fun y=>aN y (.str (fP ⟨#[c]⟩ n))))=_;rw [sX (by simp [zd5] at *;lia)];show aN (.str (fP ⟨#[c]⟩ m++⟨#[d]⟩)) (.str (fP ⟨#[c]⟩ n))=_
 have e:(fP ⟨#[c]⟩ m++(⟨#[d]⟩:Str)).length=(fP ⟨#[c]⟩ m).length+1:=by show ((fP ⟨#[c]⟩ m).cps++#[d]).size=_;rw [Array.size_append];rfl
 rw [sX (by rw [e];lia)]
theorem qP (x0 x1 x2:Option T) (e0 e1 e2 e3 at' sz:Nat) (c k:Nat) (acc:List Str) (x9:Option T) (h2:e2<26) (ha:at'<sz) (hz:sz<=6) (hl:acc.length<=1000) :
  ∃ (w:Str) (y9:Option T),q36 [x0,x1,x2,some (.leaf (.lst ([e0,e1,e2,e3].map dI))),some (.leaf (dI sz)),some (.leaf (dI at')),some (.leaf (.str ⟨#[c]⟩)),some (.lst (acc.map .str)),some (.leaf (dI k)),x9]=some (.nx [x0,x1,x2,some (.leaf (.lst ([e0,e1,e2,e3].map dI))),some (.leaf (dI sz)),some (.leaf (dI at')),some (.leaf (.str ⟨#[c]⟩)),some (.lst ((acc++[w]).map .str)),some (.leaf (dI k)),y9]):=by
 obtain ⟨ch,hch,_⟩:=ll (x:="abcdefghijklmnopqrstuvwxyz") (i:=((e2:Int)+(k:Int))%26) (by decide) (by lia) (by
  have:(("abcdefghijklmnopqrstuvwxyz":Str).length:Int)=26:=by decide
  lia)
 obtain ⟨w,hw⟩:=v8 c ch at' (sz-1-at') (by lia) (by lia)
 refine ⟨w,some (.leaf (.str ⟨#[ch]⟩)),?_⟩;unfold q36
 have s1:aM 9 (toT (toD (d2 aw (kD (.str "abcdefghijklmnopqrstuvwxyz")) (toD (d2 b5 (toD (d2 aN (toD (d2 aw (vB 3) (kD (.int 2)))) (vB 8))) (kD (.int 26))))))) [x0,x1,x2,some (.leaf (.lst ([e0,e1,e2,e3].map dI))),some (.leaf (dI sz)),some (.leaf (dI at')),some (.leaf (.str ⟨#[c]⟩)),some (.lst (acc.map .str)),some (.leaf (dI k)),x9]=some (.nx [x0,x1,x2,some (.leaf (.lst ([e0,e1,e2,e3].map dI))),some (.leaf (dI sz)),some (.leaf (dI at')),some (.leaf (.str ⟨#[c]⟩)),some (.lst (acc.map .str)),some (.leaf (dI k)),some (.leaf (.str ⟨#[ch]⟩))]):=by unfold dI;walk_at "k";rw [show aw (Dt.str "abcdefghijklmnopqrstuvwxyz") (Dt.int (((e2:Int)+(k:Int))%26))=_ from hch];rfl
 rw [cE,s1,bH,ib rfl]
 have e:(toD (d2 aN (toD (d2 aN (toD (d2 gr (vB 6) (vB 5))) (vB 9))) (toD (d2 gr (vB 6) (toD (d2 dN (toD (d2 dN (vB 4) (kD (.int 1)))) (vB 5))))))) [x0,x1,x2,some (.leaf (.lst ([e0,e1,e2,e3].map dI))),some (.leaf (dI sz)),some (.leaf (dI at')),some (.leaf (.str ⟨#[c]⟩)),some (.lst (acc.map .str)),some (.leaf (dI k)),some (.leaf (.str ⟨#[ch]⟩))]=some (.str w):=by
  have h3:((sz:Nat):Int)-1-((at':Nat):Int)=((sz-1-at':Nat):Int):=by lia
  rw [<- h3] at hw;unfold dI;walk_at "k";rw [hw];rfl
 rw [e,qa1,dw (by rw [qa3];lia)];simp
theorem mX (x0 x1 x2:Option T) (e0 e1 e2 e3 at' sz c:Nat) (h2:e2<26) (ha:at'<sz) (hz:sz<=6):∀ (ks:List Nat) (acc:List Str) (x8 x9:Option T),acc.length+ks.length<=1000->∃ (l:List Str) (y8 y9:Option T),l.length=ks.length/\c8 (ao 8) q36 (ks.map dI) [x0,x1,x2,some (.leaf (.lst ([e0,e1,e2,e3].map dI))),some (.leaf (dI sz)),some (.leaf (dI at')),some (.leaf (.str ⟨#[c]⟩)),some (.lst (acc.map .str)),x8,x9]=some (.nx [x0,x1,x2,some (.leaf (.lst ([e0,e1,e2,e3].map dI))),some (.leaf (dI sz)),some (.leaf (dI at')),some (.leaf (.str ⟨#[c]⟩)),some (.lst ((acc++l).map .str)),y8,y9])
 | [],acc,x8,x9,_=>⟨[],x8,x9,rfl,by rw [qg0];rfl⟩
 | k::ks,acc,x8,x9,h=>by
  rw [qc0] at h;obtain ⟨w,z9,e⟩:=qP x0 x1 x2 e0 e1 e2 e3 at' sz c k acc x9 h2 ha hz (by lia)
  obtain ⟨l,y8,y9,hl,e2⟩:=mX x0 x1 x2 e0 e1 e2 e3 at' sz c h2 ha hz ks (acc++[w]) (some (.leaf (dI k))) z9 (by simp;lia)
  refine ⟨w::l,y8,y9,by simp [hl],?_⟩;rw [qa5,bF (δ1:=[x0,x1,x2,some (.leaf (.lst ([e0,e1,_,e3].map dI))),some (.leaf (dI sz)),some (.leaf (dI at')),some (.leaf (.str ⟨#[c]⟩)),some (.lst (acc.map .str)),some (.leaf (dI k)),x9]) rfl e,e2];simp
theorem lw (n:Nat) (h:n<=1000000):fN [.int n]=some ((qb8 n).map dI):=by rw [tj (by lia)];unfold eL dI;simp
theorem four {l:List Nat} (h:l.length=4):∃ a b c d,l=[a,b,c,d]:=by
 match l,h with
 | [a,b,c,d],_=>exact ⟨a,b,c,d,rfl⟩
theorem jk (c:Int) (m:Nat) (hm:m<=100):∃ l:List Str,l.length=m/\q14 [.int c,.int m]=some (.lst (l.map .str)):=by
 obtain ⟨ds,e1,hl,hd⟩:=g6 (c*48271%1000000007) [6,6,26,5] (by intro z hz;simp at hz;lia) (by decide);obtain ⟨a0,a1,a2,a3,rfl⟩:=four hl;have h0:=hd 0 a0 6 rfl rfl;have h1:=hd 1 a1 6 rfl rfl;have h2:=hd 2 a2 26 rfl rfl;have h3:=hd 3 a3 5 rfl rfl
 obtain ⟨cc,hcc,_⟩:=ll (x:="qxzjw") (i:=(a3:Int)) (by decide) (by lia) (by
  have:(("qxzjw":Str).length:Int)=5:=by decide
  lia)
 obtain ⟨l,y8,y9,hll,e2⟩:=mX (some (.leaf (.int c))) (some (.leaf (.int m))) (some (.leaf (.int (c*48271%1000000007)))) a0 a1 a2 a3 (a1%(1+a0)) (1+a0) cc h2 (qy5 _ (by lia)) (by lia) (qb8 m) [] none none (by simp;lia);refine ⟨l,by simpa using hll,?_⟩;unfold q14;walk_at "d";rw [show Dt.lst [Dt.int 6,Dt.int 6,Dt.int 26,Dt.int 5]=.lst ([6,6,26,5].map dI) from rfl,e1];simp only [qa5,qh2,dI];walk_at "d";rw [eU (by lia)];walk_at "d";rw [hcc];walk_at "d";rw [lw m (by lia),qa1];have e3:(a1:Int)%(1+(a0:Int))=((a1%(1+a0):Nat):Int):=by simp
 have e4:(1:Int)+(a0:Int)=((1+a0:Nat):Int):=by lia
 rw [e3,e4];simp only [qa5,qh2,dI] at e2;rw [e2];rfl
theorem t7 {B:List Str} {k:Nat} (h:k<B.length):aw (.lst (B.map .str)) (.int k)=some (.leaf (.str (B.getD k ""))):=by rw [mD,ci Dt.str B k h ""];rfl
theorem qQ {B:List Str} {k:Nat} (h:k<B.length):B.getD k ""∈B:=by simp [qc3,h]
theorem lx (d:Nat) (c:Int) (B:List Str):∃ a:Atm,y20 [.int d,.int c,.lst (B.map .str)]=some (.leaf a.d)/\∀ x,a=.nm x->x∈B:=by
 unfold y20;walk_at "d";rw [qa3];by_cases h:d<B.length
 . rw [du (by simpa using h)];walk_at "d";rw [ci Dt.str B d h ""];exact ⟨.nm (B.getD d ""),rfl,fun x e=>by cases e;exact qQ h⟩
 . rw [dv (by simpa using h)];walk_at "d";by_cases h2:c%3=0
   . rw [du (by simpa using h2)];walk_at "d";rw [gv (by decide) (by decide)];walk_at "d";exact ⟨.vl _,rfl,fun x e=>by cases e⟩
   . rw [dv (by simpa using h2)];walk_at "d";exact ⟨.vl _,rfl,fun x e=>by cases e⟩
noncomputable def Gd (B:List Str) (many:Nat) (r:Rw):Prop:=(∀ b∈r.reads,b∈B)/\∀ i j,j∈r.outs i->j<many∨j=i+1
theorem gx {B:List Str} {r:Rw} (h:∀ x,Atm.nm x∈r.atoms->x∈B):∀ b∈r.reads,b∈B:=fun b hb=>by
 have hb:=onces_mem.mp hb
 have key:∀ as:List Atm,b∈nms as->Atm.nm b∈as:=fun as=>by
  induction as with
  | nil=>intro h;cases h
  | cons a as ih =>
   cases a with
   | nm x =>
    intro h;rcases qa9.mp h with rfl | h
    . exact .head _
    . exact .tail _ (ih h)
   | vl i=>exact fun h=>.tail _ (ih h)
 exact h b (key _ hb)
theorem AE {l:List Nat} (h:l.length=7):∃ a b c d e f g,l=[a,b,c,d,e,f,g]:=by
 match l,h with
 | [a,b,c,d,e,f,g],_=>exact ⟨a,b,c,d,e,f,g,rfl⟩
theorem v9 (cell:Int) (many:Nat) (C S B:List Str) (hm:0<many) (hm2:many<=1000) (hC:0<C.length) (hC2:C.length<=100) (hS:S.length<=100) (hB:0<B.length) (hB2:B.length<=100) :
  ∃ r:Rw,z32 [.int cell,.int many,.lst (C.map .str),.lst (S.map .str),.lst (B.map .str)]=some (.leaf r.d)/\Gd B many r:=by
 obtain ⟨ds,e1,hl,hd⟩:=g6 (cell*48271%1000000007) [16,B.length,B.length+2,B.length+2,9,12,many] (by intro z hz;simp at hz;lia) (by simp);obtain ⟨k,b,p,q,sg,cc,g,rfl⟩:=AE hl;have h0:=hd 0 k _ rfl rfl;have h1:=hd 1 b _ rfl rfl;have h4:=hd 4 sg _ rfl rfl;have h6:=hd 6 g _ rfl rfl;clear hd hl;obtain ⟨a1,ea1,ha1⟩:=lx p cell B;obtain ⟨a2,ea2,ha2⟩:=lx q (cell/5) B;have hx:=t7 h1;have hcm:cc%C.length<C.length:=qy5 _ hC;have hc:=t7 hcm
 obtain ⟨sn,hsn,_⟩:=ll (x:="+-*<=&|^+") (i:=(sg:Int)) (by decide) (by lia) (by
  have:(("+-*<=&|^+":Str).length:Int)=9:=by decide
  lia)
 simp only [qa5,qh2,dI] at e1;unfold z32;walk_at "d";rw [qa3,show q12 [Dt.int (cell*48271%1000000007),Dt.lst [Dt.int 16,Dt.int B.length,Dt.int ((B.length:Int)+2),Dt.int ((B.length:Int)+2),Dt.int 9,Dt.int 12,Dt.int many]]=_ from e1];walk_at "d";rw [ea1];walk_at "d";rw [gv (by decide) (by decide)];walk_at "d";rw [ea2];walk_at "d";rw [ci Dt.str B b h1 ""];walk_at "d";rw [qa3,eU (by lia)];walk_at "d";rw [show ((cc:Nat):Int)%((C.length:Nat):Int)=((cc%C.length:Nat):Int) by simp,ci Dt.str C _ hcm ""];walk_at "d";generalize C.getD (cc%C.length) ""=cn;generalize B.getD b ""=xn;have hk:(k:Int)=0∨(k:Int)=1∨(k:Int)=2∨(k:Int)=3∨(k:Int)=4∨(k:Int)=5∨(k:Int)=6∨(k:Int)=7∨(k:Int)=8∨(k:Int)=9∨(k:Int)=10∨(k:Int)=11∨(k:Int)=12∨(k:Int)=13∨(k:Int)=14∨(k:Int)=15:=by lia
 clear hx hc h0;have g0:∀ (r:Rw),(∀ x,Atm.nm x∈r.atoms->x∈B)->(∀ i j,j∈r.outs i->j<many∨j=i+1)->Gd B many r:=fun r x y=>⟨gx x,y⟩
 have q0:∀ x,Atm.nm x∈([]:List Atm)->x∈B:=fun x h=>by cases h
 have q1:∀ x,Atm.nm x∈[a1]->x∈B:=fun x h=>ha1 x (qb7.mp h).symm
 have q2:∀ x,Atm.nm x∈[a1,a2]->x∈B:=fun x h=>by
  rcases qa9.mp h with h | h
  . exact ha1 x h.symm
  . exact ha2 x (qb7.mp h).symm
 have o1:∀ i j:Nat,j∈[i+1]->j<many∨j=i+1:=fun i j h=>.inr (qb7.mp h)
 have o2:∀ i j:Nat,j∈[g,i+1]->j<many∨j=i+1:=fun i j h=>by
  rcases qa9.mp h with rfl | h
  . exact .inl h6
  . exact .inr (qb7.mp h)
 have o3:∀ i j:Nat,j∈[g]->j<many∨j=i+1:=fun i j h=>.inl (qb7.mp h▸h6)
 rcases hk with hk | hk | hk | hk | hk | hk | hk | hk | hk | hk | hk | hk | hk | hk | hk | hk<;>rw [hk]<;>clear hk
 . walk_at "k";exact ⟨.copy xn a1,rfl,g0 _ q1 o1⟩
 . walk_at "k";rw [hsn];exact ⟨.op xn ⟨#[sn]⟩ a1 a2,rfl,g0 _ q2 o1⟩
 . walk_at "k";rw [hsn];exact ⟨.op xn ⟨#[sn]⟩ a1 a2,rfl,g0 _ q2 o1⟩
 . walk_at "k";exact ⟨.load xn cn,rfl,g0 _ q0 o1⟩
 . walk_at "k";exact ⟨.load xn cn,rfl,g0 _ q0 o1⟩
 . walk_at "k";exact ⟨.store cn a1,rfl,g0 _ q1 o1⟩
 . walk_at "k";exact ⟨.store cn a1,rfl,g0 _ q1 o1⟩
 . walk_at "k";rw [qa3];by_cases z:0<S.length
   . rw [du (by simpa using z)];walk_at "k";rw [qa3,eU (by lia)];walk_at "k";rw [show ((cc:Nat):Int)%((S.length:Nat):Int)=((cc%S.length:Nat):Int) by simp,ci Dt.str S _ (qy5 _ z) ""];walk_at "k";exact ⟨.take xn (S.getD (cc%S.length) "") a1,rfl,g0 _ q1 o1⟩
   . rw [dv (by simpa using z)];walk_at "k";exact ⟨.load xn cn,rfl,g0 _ q0 o1⟩
 . walk_at "k";rw [qa3];by_cases z:0<S.length
   . rw [du (by simpa using z)];walk_at "k";rw [qa3,eU (by lia)];walk_at "k";rw [show ((cc:Nat):Int)%((S.length:Nat):Int)=((cc%S.length:Nat):Int) by simp,ci Dt.str S _ (qy5 _ z) ""];walk_at "k";exact ⟨.lay (S.getD (cc%S.length) "") a1 a2,rfl,g0 _ q2 o1⟩
   . rw [dv (by simpa using z)];walk_at "k";exact ⟨.store cn a1,rfl,g0 _ q1 o1⟩
 . walk_at "k";exact ⟨.hear xn,rfl,g0 _ q0 o1⟩
 . walk_at "k";exact ⟨.say a1,rfl,g0 _ q1 o1⟩
 . walk_at "k";exact ⟨.iff a1 g,rfl,g0 _ q1 o2⟩
 . walk_at "k";exact ⟨.iff a1 g,rfl,g0 _ q1 o2⟩
 . walk_at "k";exact ⟨.go g,rfl,g0 _ q0 o3⟩
 . walk_at "k";exact ⟨.fin a1,rfl,g0 _ q1 fun i j h=>by cases h⟩
 . walk_at "k";rw [hsn];exact ⟨.op xn ⟨#[sn]⟩ a1 a2,rfl,g0 _ q2 o1⟩
theorem oj {D:List Nat} {j:Nat} (h:j<D.length):atI (D.map dI) (j:Int)=some (dI (D.getD j 0)):=ci dI D j h 0
theorem qR (x0 x1 x2 x3 x6 x7 x11 x12 x13 x14:Option T) (D:List Nat) (N:List Str) (st:Int) (acc:List Hd) (k:Nat) (hD:D.length=12) (hN:N.length=12) (hk:k<8) (hl:acc.length<=1000) :
  ∃ h:Hd,q26 [x0,x1,x2,x3,some (.leaf (.lst (D.map dI))),some (.leaf (.lst (N.map .str))),x6,x7,some (.leaf (.int st)),some (.lst (acc.map hdD)),some (.leaf (dI k)),x11,x12,x13,x14]=some (.nx [x0,x1,x2,x3,some (.leaf (.lst (D.map dI))),some (.leaf (.lst (N.map .str))),x6,x7,some (.leaf (.int st)),some (.lst ((acc++[h]).map hdD)),some (.leaf (dI k)),x11,x12,x13,x14]):=by
 have i1:k<N.length:=by lia
 have i2:3+k%6<D.length:=by lia
 refine ⟨⟨N.getD k "",(st+k)*982451653%wide,decide (((D.getD (3+k%6) 0:Nat):Int)=1)⟩,?_⟩;unfold q26;rw [ib rfl]
 have e:toD (aZ (aa (toD (d2 aw (vB 5) (vB 10))) (aa (toD (d2 b5 (toD (d2 eu (toD (d2 aN (vB 8) (vB 10))) (kD (.int 982451653)))) (toD (d2 nz (kD (.int 2)) (kD (.int 40)))))) (aa (toD (d2 (gEq false) (toD (d2 aw (vB 4) (toD (d2 aN (kD (.int 3)) (toD (d2 b5 (vB 10) (kD (.int 6)))))))) (kD (.int 1)))) ai)))) [x0,x1,x2,x3,some (.leaf (.lst (D.map dI))),some (.leaf (.lst (N.map .str))),x6,x7,some (.leaf (.int st)),some (.lst (acc.map hdD)),some (.leaf (dI k)),x11,x12,x13,x14]=some (hdD ⟨N.getD k "",(st+k)*982451653%wide,decide (((D.getD (3+k%6) 0:Nat):Int)=1)⟩):=by rw [show dI k=Dt.int (k:Nat) from rfl];walk_at "d";rw [ci Dt.str N k i1 ""];walk_at "d";rw [show (3:Int)+((k:Nat):Int)%6=((3+k%6:Nat):Int) by lia,oj i2];unfold dI;walk_at "d";rfl
 rw [e,qa1,dw (by rw [qa3];lia)];simp
theorem mY (x0 x1 x2 x3 x6 x7 x11 x12 x13 x14:Option T) (D:List Nat) (N:List Str) (st:Int) (hD:D.length=12) (hN:N.length=12):∀ (ks:List Nat) (acc:List Hd) (x10:Option T),(∀ k∈ks,k<8)->acc.length+ks.length<=1000->∃ (hs:List Hd) (y10:Option T),hs.length=ks.length/\c8 (ao 10) q26 (ks.map dI) [x0,x1,x2,x3,some (.leaf (.lst (D.map dI))),some (.leaf (.lst (N.map .str))),x6,x7,some (.leaf (.int st)),some (.lst (acc.map hdD)),x10,x11,x12,x13,x14]=some (.nx [x0,x1,x2,x3,some (.leaf (.lst (D.map dI))),some (.leaf (.lst (N.map .str))),x6,x7,some (.leaf (.int st)),some (.lst ((acc++hs).map hdD)),y10,x11,x12,x13,x14])
 | [],acc,x10,_,_=>⟨[],x10,rfl,by rw [qg0];rfl⟩
 | k::ks,acc,x10,hk,h=>by rw [qc0] at h;obtain ⟨w,e⟩:=qR x0 x1 x2 x3 x6 x7 x11 x12 x13 x14 D N st acc k hD hN (hk k (.head _)) (by lia);obtain ⟨l,y10,hl,e2⟩:=mY x0 x1 x2 x3 x6 x7 x11 x12 x13 x14 D N st hD hN ks (acc++[w]) (some (.leaf (dI k))) (fun j hj=>hk j (.tail _ hj)) (by simp;lia);refine ⟨w::l,y10,by simp [hl],?_⟩;rw [qa5,bF (δ1:=[x0,x1,x2,x3,some (.leaf (.lst (D.map dI))),some (.leaf (.lst (N.map .str))),x6,x7,some (.leaf (.int st)),some (.lst (acc.map hdD)),some (.leaf (dI k)),x11,x12,x13,x14]) rfl e,e2];simp
theorem om (x0 x1 x2 x3 x6 x7 x9 x12 x13 x14:Option T) (D:List Nat) (N:List Str) (st:Int) (acc:List Hd) (k:Nat) (hD:D.length=12) (hN:N.length=12) (hk:k<4) (hl:acc.length<=1000) :
  ∃ h:Hd,y26 [x0,x1,x2,x3,some (.leaf (.lst (D.map dI))),some (.leaf (.lst (N.map .str))),x6,x7,some (.leaf (.int st)),x9,some (.leaf (dI k)),some (.lst (acc.map hdD)),x12,x13,x14]=some (.nx [x0,x1,x2,x3,some (.leaf (.lst (D.map dI))),some (.leaf (.lst (N.map .str))),x6,x7,some (.leaf (.int st)),x9,some (.leaf (dI k)),some (.lst ((acc++[h]).map hdD)),x12,x13,x14]):=by
 have i1:8+k<N.length:=by lia
 have i2:9+k%2<D.length:=by lia
 have i3:7-k<D.length:=by lia
 refine ⟨⟨N.getD (8+k) "",1+((D.getD (9+k%2) 0:Nat):Int),decide (((D.getD (7-k) 0:Nat):Int)=1)⟩,?_⟩;unfold y26;rw [ib rfl]
 have e:toD (aZ (aa (toD (d2 aw (vB 5) (toD (d2 aN (kD (.int 8)) (vB 10))))) (aa (toD (d2 aN (kD (.int 1)) (toD (d2 aw (vB 4) (toD (d2 aN (kD (.int 9)) (toD (d2 b5 (vB 10) (kD (.int 2)))))))))) (aa (toD (d2 (gEq false) (toD (d2 aw (vB 4) (toD (d2 dN (kD (.int 7)) (vB 10))))) (kD (.int 1)))) ai)))) [x0,x1,x2,x3,some (.leaf (.lst (D.map dI))),some (.leaf (.lst (N.map .str))),x6,x7,some (.leaf (.int st)),x9,some (.leaf (dI k)),some (.lst (acc.map hdD)),x12,x13,x14]=some (hdD ⟨N.getD (8+k) "",1+((D.getD (9+k%2) 0:Nat):Int),decide (((D.getD (7-k) 0:Nat):Int)=1)⟩):=by rw [show dI k=Dt.int (k:Nat) from rfl];walk_at "d";rw [show (8:Int)+((k:Nat):Int)=((8+k:Nat):Int) by lia,ci Dt.str N (8+k) i1 ""];walk_at "d";rw [show (9:Int)+((k:Nat):Int)%2=((9+k%2:Nat):Int) by lia,oj i2,show (7:Int)-((k:Nat):Int)=((7-k:Nat):Int) by lia,oj i3];unfold dI;walk_at "d";rfl
 rw [e,qa1,dw (by rw [qa3];lia)];simp
theorem jl (x0 x1 x2 x3 x6 x7 x9 x12 x13 x14:Option T) (D:List Nat) (N:List Str) (st:Int) (hD:D.length=12) (hN:N.length=12):∀ (ks:List Nat) (acc:List Hd) (x10:Option T),(∀ k∈ks,k<4)->acc.length+ks.length<=1000->∃ (hs:List Hd) (y10:Option T),hs.length=ks.length/\c8 (ao 10) y26 (ks.map dI) [x0,x1,x2,x3,some (.leaf (.lst (D.map dI))),some (.leaf (.lst (N.map .str))),x6,x7,some (.leaf (.int st)),x9,x10,some (.lst (acc.map hdD)),x12,x13,x14]=some (.nx [x0,x1,x2,x3,some (.leaf (.lst (D.map dI))),some (.leaf (.lst (N.map .str))),x6,x7,some (.leaf (.int st)),x9,y10,some (.lst ((acc++hs).map hdD)),x12,x13,x14])
 | [],acc,x10,_,_=>⟨[],x10,rfl,by rw [qg0];rfl⟩
 | k::ks,acc,x10,hk,h=>by rw [qc0] at h;obtain ⟨w,e⟩:=om x0 x1 x2 x3 x6 x7 x9 x12 x13 x14 D N st acc k hD hN (hk k (.head _)) (by lia);obtain ⟨l,y10,hl,e2⟩:=jl x0 x1 x2 x3 x6 x7 x9 x12 x13 x14 D N st hD hN ks (acc++[w]) (some (.leaf (dI k))) (fun j hj=>hk j (.tail _ hj)) (by simp;lia);refine ⟨w::l,y10,by simp [hl],?_⟩;rw [qa5,bF (δ1:=[x0,x1,x2,x3,some (.leaf (.lst (D.map dI))),some (.leaf (.lst (N.map .str))),x6,x7,some (.leaf (.int st)),x9,some (.leaf (dI k)),some (.lst (acc.map hdD)),x12,x13,x14]) rfl e,e2];simp
theorem pS (fe:De->Option Dt) (hf:fe=toD (d2 aw (vB 0) (kD (.int 0)))) (cs:List Hd):bm (ao 0) aR fe [none] (cs.map hdD)=some ((cs.map (·.x)).map .str):=by
 have:=bN (f:=hdD) (h:=fun h:Hd=>Dt.str h.x) (bb:=ao 0) (ft:=aR) (fe:=fe) (δ:=[none]) (l:=cs) fun h _=>⟨[some (.leaf (hdD h))],rfl,rfl,by rw [hf];rfl⟩
 rw [this,qd0];rfl
theorem t8 (x0 x1 x2 x3 x4 x5 x6 x8 x10:Option T) (B:List Str) (cs ss:List Hd) (all:List Int) (acc:List Rw) (c:Int) (hB:0<B.length) (hB2:B.length<=100) (hc:0<cs.length) (hc2:cs.length<=100) (hs:ss.length<=100) (ha:all.length<=100) (hl:acc.length<=1000) :
  ∃ r:Rw,y25 [x0,x1,x2,x3,x4,x5,x6,some (.leaf (.lst (B.map .str))),x8,some (.lst (cs.map hdD)),x10,some (.lst (ss.map hdD)),some (.lst (acc.map Rw.d)),some (.leaf (.lst (all.map .int))),some (.leaf (.int c))]=some (.nx [x0,x1,x2,x3,x4,x5,x6,some (.leaf (.lst (B.map .str))),x8,some (.lst (cs.map hdD)),x10,some (.lst (ss.map hdD)),some (.lst ((acc++[r]).map Rw.d)),some (.leaf (.lst (all.map .int))),some (.leaf (.int c))])/\Gd B (all.length+1) r:=by
 obtain ⟨r,er,hr⟩:=v9 c (all.length+1) (cs.map (·.x)) (ss.map (·.x)) B (by lia) (by lia) (by simpa using hc) (by simpa using hc2) (by simpa using hs) hB hB2;refine ⟨r,?_,hr⟩;have e1:=pS q39 rfl cs;have e2:=pS y37 rfl ss;unfold y25;rw [ib rfl]
 have e:toD (aj z32 (aa (vL 14) (aa (toD (d2 aN (toD (aj bR (aa (vB 13) ai))) (kD (.int 1)))) (aa (toD (aU [none] (fIt (vB 9)) (ao 0) aR q39)) (aa (toD (aU [none] (fIt (vB 11)) (ao 0) aR y37)) (aa (vL 7) ai)))))) [x0,x1,x2,x3,x4,x5,x6,some (.leaf (.lst (B.map .str))),x8,some (.lst (cs.map hdD)),x10,some (.lst (ss.map hdD)),some (.lst (acc.map Rw.d)),some (.leaf (.lst (all.map .int))),some (.leaf (.int c))]=some r.d:=by walk_at "d";rw [e1,e2,qa1,qa1,bE (by simp;lia),bE (by simp;lia)];walk_at "d";rw [qa3,show z32 [Dt.int c,Dt.int ((all.length:Int)+1),Dt.lst ((cs.map (·.x)).map .str),Dt.lst ((ss.map (·.x)).map .str),Dt.lst (B.map .str)]=_ from er];rfl
 rw [e,qa1,dw (by rw [qa3];lia)];simp
theorem pT (x0 x1 x2 x3 x4 x5 x6 x8 x10:Option T) (B:List Str) (cs ss:List Hd) (all:List Int) (hB:0<B.length) (hB2:B.length<=100) (hc:0<cs.length) (hc2:cs.length<=100) (hs:ss.length<=100) (ha:all.length<=100):∀ (ls:List Int) (acc:List Rw) (x14:Option T),acc.length+ls.length<=1000->∃ (rs:List Rw) (y14:Option T),rs.length=ls.length/\(∀ r∈rs,Gd B (all.length+1) r)/\c8 (ao 14) y25 (ls.map .int) [x0,x1,x2,x3,x4,x5,x6,some (.leaf (.lst (B.map .str))),x8,some (.lst (cs.map hdD)),x10,some (.lst (ss.map hdD)),some (.lst (acc.map Rw.d)),some (.leaf (.lst (all.map .int))),x14]=some (.nx [x0,x1,x2,x3,x4,x5,x6,some (.leaf (.lst (B.map .str))),x8,some (.lst (cs.map hdD)),x10,some (.lst (ss.map hdD)),some (.lst ((acc++rs).map Rw.d)),some (.leaf (.lst (all.map .int))),y14])
 | [],acc,x14,_=>⟨[],x14,rfl,fun r hr=>(by cases hr),by rw [qg0];rfl⟩
 | c::ls,acc,x14,h=>by
  rw [qc0] at h;obtain ⟨r,e,hr⟩:=t8 x0 x1 x2 x3 x4 x5 x6 x8 x10 B cs ss all acc c hB hB2 hc hc2 hs ha (by lia);obtain ⟨l,y14,hl,hg,e2⟩:=pT x0 x1 x2 x3 x4 x5 x6 x8 x10 B cs ss all hB hB2 hc hc2 hs ha ls (acc++[r]) (some (.leaf (.int c))) (by simp;lia);refine ⟨r::l,y14,by simp [hl],fun q hq=>?_,?_⟩
  . rcases qa9.mp hq with rfl | hq
    . exact hr
    . exact hg q hq
  . rw [qa5,bF (δ1:=[x0,x1,x2,x3,x4,x5,x6,some (.leaf (.lst (B.map .str))),x8,some (.lst (cs.map hdD)),x10,some (.lst (ss.map hdD)),some (.lst (acc.map Rw.d)),some (.leaf (.lst (all.map .int))),some (.leaf (.int c))]) rfl e,e2];simp
structure Prg (B:List Str) (rows:List Rw):Prop where
 b:B.length<=12
 n:rows.length<=60
 rd:∀ (i:Nat) (r:Rw) (b:Str),rows[i]?=some r->b∈r.reads->b∈B
 out:∀ (i:Nat) (r:Rw) (j:Nat),rows[i]?=some r->j∈r.outs i->j<rows.length
 last:∃ (i:Nat) (a:Atm),rows[i]?=some (Rw.fin a)
theorem Prg.pos {B:List Str} {rows:List Rw} (h:Prg B rows):0<rows.length:=by obtain ⟨i,a,e⟩:=h.last;have:=(gX e).1;lia
theorem t9 {B:List Str} {rs:List Rw} {a:Atm} (hB:B.length<=12) (hn:rs.length<=59) (hr:∀ r∈rs,Gd B (rs.length+1) r) (ha:∀ x,a=.nm x->x∈B):Prg B (rs++[.fin a]):=by
 have key:∀ (i:Nat) (r:Rw),(rs++[Rw.fin a])[i]?=some r->(i<rs.length/\r∈rs)∨(i=rs.length/\r=.fin a):=fun i r h=>by
  by_cases z:i<rs.length
  . rw [qc2 z] at h;exact .inl ⟨z,qf9 h⟩
  . have hi:=(gX h).1;simp at hi;obtain rfl:i=rs.length:=by lia
    rw [gR (nL _),zg8] at h;cases h;exact .inr ⟨rfl,rfl⟩
 refine ⟨hB,by simp;lia,fun i r b h hb=>?_,fun i r j h hj=>?_,rs.length,a,by simp⟩
 . rcases key i r h with ⟨_,hm⟩ | ⟨_,rfl⟩
   . exact (hr r hm).1 b hb
   . exact gx (fun x hx=>ha x (qb7.mp hx).symm) b hb
 . rcases key i r h with ⟨hi,hm⟩ | ⟨_,rfl⟩
   . rw [qb2,qn5];rcases (hr r hm).2 i j hj with z | z<;>lia
   . cases hj
noncomputable def prT:De->Option Out:=(aD (aM 7 (toT (toD (aj q14 (aa (toD (aj y1 (aa (vL 0) (aa (kD (.int 2)) ai)))) (aa (toD (d2 aw (vB 6) (kD (.int 2)))) ai))))))
  (aD (aM 8 (toT (toD (aj y1 (aa (vL 0) (aa (kD (.int 3)) ai))))))
  (aD (aM 9 (bU ai))
  (aD (dJ (dh fN (aa (toD (d2 aw (vB 6) (kD (.int 0)))) ai)) (ao 10) q26)
  (aD (aM 11 (bU ai))
  (aD (dJ (dh fN (aa (toD (d2 aw (vB 6) (kD (.int 1)))) ai)) (ao 10) y26)
  (aD (aM 12 (bU ai))
  (aD (aM 13 (toT (toD (vSl (vB 0) (cZ (kD (.int 4))) (cZ (toD (d2 aN (kD (.int 4)) (vB 1))))))))
  (aD (dJ (fIt (vL 13)) (ao 14) y25)
  (aD (q20 12 (toD (aZ (aa (kD (.str "end")) (aa (toD (aj y20 (aa (toD (d2 b5 (vB 3) (toD (d2 aN (toD (aj bR (aa (vB 7) ai))) (kD (.int 1)))))) (aa (vL 8) (aa (vL 7) ai))))) ai)))))
  (bV (aZ (aa (toD (aj b6 (aa (vB 9) ai))) (aa (toD (aj b6 (aa (vB 11) ai))) (aa (toD (aj b6 (aa (vB 12) ai))) ai)))))))))))))))
theorem ua (ns:List Int):∃ ls:List Int,gSl (.lst (ns.map .int)) (some 4) (some 28)=some (.lst (ls.map .int))/\ls.length<=24:=by
 refine ⟨(ns.drop (HT.sIx (ns.map Dt.int).length 0 (some 4))).take (HT.sIx (ns.map Dt.int).length (ns.map Dt.int).length (some 28)-HT.sIx (ns.map Dt.int).length 0 (some 4)),?_,?_⟩
 . show some (T.lst (iP (ns.map Dt.int) (some 4) (some 28)))=_;unfold iP;rw [List.map_take,List.map_drop]
 . have e1:=HT.AG (ns.map Dt.int).length 0 4;have e2:=HT.AG (ns.map Dt.int).length (ns.map Dt.int).length 28;rw [show (some (4:Int))=some (((4:Nat):Int)) from rfl,show (some (28:Int))=some (((28:Nat):Int)) from rfl,e1,e2];simp;lia
theorem yY (ns:List Int) (hdn:Int) (D:List Nat) (N:List Str) (a b c:Nat) (hD:D.length=12) (hN:N.length=12) (ha:1<=a) (ha2:a<=8) (hb:b<=4) (hc:1<=c) (hc2:c<=12) :
  ∃ (cs ss:List Hd) (rows:List Rw) (B:List Str),jb (prT [some (.leaf (.lst (ns.map .int))),some (.leaf (.int 24)),some (.leaf (.bl true)),some (.leaf (.int hdn)),some (.leaf (.lst (D.map dI))),some (.leaf (.lst (N.map .str))),some (.leaf (.lst [.int a,.int b,.int c])),none,none,none,none,none,none,none,none])=some (.leaf (pgD cs ss rows))/\cs.length<=8/\ss.length<=4/\Prg B rows:=by
 obtain ⟨B,hB,eB⟩:=jk (ns.getD 2 0) c (by lia);obtain ⟨ls,els,hls⟩:=ua ns;have c2:y1 [.lst (ns.map .int),.int 2]=some (.leaf (.int (ns.getD 2 0))):=ei ns 2;have c3:y1 [.lst (ns.map .int),.int 3]=some (.leaf (.int (ns.getD 3 0))):=ei ns 3;generalize ns.getD 2 0=n2 at c2 eB;generalize ns.getD 3 0=n3 at c3;obtain ⟨cs,y10,l1,e1⟩:=mY (some (.leaf (.lst (ns.map .int)))) (some (.leaf (.int 24))) (some (.leaf (.bl true))) (some (.leaf (.int hdn))) (some (.leaf (.lst [.int a,.int b,.int c]))) (some (.leaf (.lst (B.map .str)))) none none none none D N n3 hD hN (qb8 a) [] none (fun k hk=>by have:=qg6.mp hk;lia) (by simp;lia);rw [qi2] at l1;obtain ⟨ss,z10,l2,e2⟩:=jl (some (.leaf (.lst (ns.map .int)))) (some (.leaf (.int 24))) (some (.leaf (.bl true))) (some (.leaf (.int hdn))) (some (.leaf (.lst [.int a,.int b,.int c]))) (some (.leaf (.lst (B.map .str)))) (some (.lst (cs.map hdD))) none none none D N n3 hD hN (qb8 b) [] y10 (fun k hk=>by have:=qg6.mp hk;lia) (by simp;lia);rw [qi2] at l2;obtain ⟨rs,y14,l3,hg,e3⟩:=pT (some (.leaf (.lst (ns.map .int)))) (some (.leaf (.int 24))) (some (.leaf (.bl true))) (some (.leaf (.int hdn))) (some (.leaf (.lst (D.map dI)))) (some (.leaf (.lst (N.map .str)))) (some (.leaf (.lst [.int a,.int b,.int c]))) (some (.leaf (.int n3))) z10 B cs ss ls (by lia) (by lia) (by lia) (by lia) (by lia) (by lia) ls [] none (by simp;lia);obtain ⟨at',eat,hat⟩:=lx (hdn%((B.length:Int)+1)).toNat n3 B
 have hmod:((hdn%((B.length:Int)+1)).toNat:Int)=hdn%((B.length:Int)+1):=by have:=qv1 hdn (show ((B.length:Int)+1)≠0 by lia);lia
 rw [hmod] at eat
 refine ⟨cs,ss,rs++[.fin at'],B,?_,by lia,by lia,t9 (by lia) (by lia) (fun r hr=>by rw [l3];exact hg r hr) hat⟩;unfold prT;walk_at "d";rw [c2];walk_at "d";rw [eB];walk_at "d";rw [c3];walk_at "d";rw [qh2,zd3] at e1 e2 e3;rw [lw a (by lia),qa1,e1];walk_at "d";rw [lw b (by lia),qa1,e2];walk_at "d";rw [show gSl (Dt.lst (ns.map Dt.int)) (some 4) (some (4+24))=_ from els];walk_at "d";rw [e3];walk_at "d";rw [ib rfl];walk_at "d";rw [qa3,eU (by lia)];walk_at "d";rw [eat];walk_at "d";rw [dw (by rw [qa3];lia)];walk_at "d";unfold pgD dR;rw [qk0];rfl
theorem lia:z23=cy 15 ((aD (aM 3 (toT (toD (d2 b5 (toD (d2 eu (toD (aj y1 (aa (vL 0) (aa (kD (.int 0)) ai)))) (kD (.int 69621)))) (kD (.int 1000000007))))))
  (aD (aM 4 (toT (toD (aj q12 (aa (vL 3) (aa (toD (bU (aa (kD (.int 4)) (aa (kD (.int 3)) (aa (kD (.int 4)) (aa (kD (.int 2)) (aa (kD (.int 2)) (aa (kD (.int 2)) (aa (kD (.int 2)) (aa (kD (.int 2)) (aa (kD (.int 2)) (aa (kD (.int 8)) (aa (kD (.int 8)) (aa (kD (.int 4)) ai)))))))))))))) ai))))))
  (aD (aM 5 (toT (toD (aj q14 (aa (toD (aj y1 (aa (vL 0) (aa (kD (.int 1)) ai)))) (aa (kD (.int 12)) ai))))))
  (aD (aM 6 (toT (toD (bU (aa (toD (d2 aN (kD (.int 1)) (toD (d2 aw (vB 4) (kD (.int 0)))))) (aa (toD (d2 aw (vB 4) (kD (.int 1)))) (aa (toD (d2 aN (kD (.int 2)) (toD (d2 aw (vB 4) (kD (.int 2)))))) ai)))))))
  (aD (sIf (jq (gH (vB 2)) (tB2 (gEq false) (toD (d2 aw (vB 4) (kD (.int 11)))) (kD (.int 1)))) (aM 6 (toT (toD (bU (aa (kD (.int 8)) (aa (kD (.int 4)) (aa (kD (.int 12)) ai))))))) c7)
  prT)))))):=rfl
theorem oq (ns:List Int):∃ (cs ss:List Hd) (rows:List Rw) (B:List Str),z23 [.lst (ns.map .int),.int 24,.bl true]=some (.leaf (pgD cs ss rows))/\cs.length<=8/\ss.length<=4/\Prg B rows:=by
 have c0:y1 [.lst (ns.map .int),.int 0]=some (.leaf (.int (ns.getD 0 0))):=ei ns 0;have c1:y1 [.lst (ns.map .int),.int 1]=some (.leaf (.int (ns.getD 1 0))):=ei ns 1;generalize ns.getD 0 0=n0 at c0;generalize ns.getD 1 0=n1 at c1;obtain ⟨N,hN,eN⟩:=jk n1 12 (by decide);obtain ⟨D,eD,hD,hd⟩:=g6 (n0*69621%1000000007) [4,3,4,2,2,2,2,2,2,8,8,4] (by intro z hz;simp at hz;lia) (by decide);have hD:D.length=12:=hD;have gt:∀ j z:Nat,j<12->([4,3,4,2,2,2,2,2,2,8,8,4]:List Nat)[j]?=some z->D.getD j 0<z:=fun j z hj hz=>hd j _ z (by simp [hD,hj]) hz
 have g0:=gt 0 4 (by decide) rfl;have g1:=gt 1 3 (by decide) rfl;have g2:=gt 2 4 (by decide) rfl;have a0:(D.map dI)[0]?=some (dI (D.getD 0 0)):=by simp [hD]
 have a1:(D.map dI)[1]?=some (dI (D.getD 1 0)):=by simp [hD]
 have a2:(D.map dI)[2]?=some (dI (D.getD 2 0)):=by simp [hD]
 have a11:(D.map dI)[11]?=some (dI (D.getD 11 0)):=by simp [hD]
 clear hd gt;have eD2:q12 [Dt.int (n0*69621%1000000007),Dt.lst [Dt.int 4,Dt.int 3,Dt.int 4,Dt.int 2,Dt.int 2,Dt.int 2,Dt.int 2,Dt.int 2,Dt.int 2,Dt.int 8,Dt.int 8,Dt.int 4]]=some (.lst (D.map dI)):=eD;have rest:=yY ns (n0*69621%1000000007) D N;rw [lia];walk_at "d";rw [c0];walk_at "d";rw [eD2];walk_at "d";rw [c1];walk_at "d";rw [show q14 [.int n1,.int 12]=_ from eN];walk_at "d";rw [a0,a1,a2];simp only [dI];walk_at "d";rw [a11,show ((qg1 T.d (qg1 T.leaf (some (dI (D.getD 11 0))))).bind fun x=>gEq false x (Dt.int 1)).bind asB=some (decide (((D.getD 11 0:Nat):Int)=1)) from rfl];by_cases h:((D.getD 11 0:Nat):Int)=1
 . rw [du (by simpa using h)];walk_at "d";exact rest 8 4 12 hD hN (by decide) (by decide) (by decide) (by decide) (by decide)
 . rw [dv (by simpa using h)];walk_at "d";exact rest (1+D.getD 0 0) (D.getD 1 0) (2+D.getD 2 0) hD hN (by lia) (by lia) (by lia) (by lia) (by lia)
structure Ckp (rows:List Rw) (ks:List (Nat×List Str)):Prop where
 back:∀ (i:Nat) (r:Rw) (j:Nat),rows[i]?=some r->j∈r.outs i->j<=i->j∈ks.map (·.1)
 lt:∀ k∈ks,k.1<rows.length
 len:ks.length<=1000
theorem jm {cs ss:List Hd} {rows:List Rw} {B bg:List Str} {ks:List (Nat×List Str)} (P:Prg B rows) (C:Ckp rows ks) (hc:cs.length<=8) (hs:ss.length<=4) (x0 x2 x5 x6 x7 x8 x9 x10 x12 x13:Option T) :
  ∃ y12 y13,q53 [x0,some (.leaf (pgD cs ss rows)),x2,some (.leaf (cdD bg ks)),some (.leaf (.tup (bg.map .str))),x5,x6,x7,x8,x9,x10,some (.leaf (.int (twN cs ss))),x12,x13]=some (.nx [x0,some (.leaf (pgD cs ss rows)),x2,some (.leaf (cdD bg ks)),some (.leaf (.tup (bg.map .str))),x5,x6,x7,x8,x9,x10,some (.leaf (.int (twN cs ss))),y12,y13]):=by
 have hn:=P.n;have e1:=qO (bg:=bg) P.out C.back C.lt (by lia) C.len P.pos (by lia) (by lia:ss.length<=1000) (cs:=cs);have e2:=v7 (c:=.tup (cs.map hdD)) (s:=.tup (ss.map hdD)) (b:=.tup (bg.map .str)) P.out C.back C.lt (by lia) C.len P.pos;have e3:=mW y66 rfl ks;have e4:=jj bg ks;have hkl:=C.len;refine ⟨some (.leaf (.int (mxB bg ks))),some (.leaf (.int (2*twN cs ss+mxB bg ks+lgR rows ks+3))),?_⟩;unfold q53
 have s1:aM 12 (toT (toD (aj cF (aa (toD (d2 aN (toD (bU (aa (toD (aj bR (aa (vB 4) ai))) ai))) (toD (aU [none] (fIt (toD (d2 aw (vB 3) (kD (.int 1))))) (ao 0) aR y66)))) ai)))) [x0,some (.leaf (pgD cs ss rows)),x2,some (.leaf (cdD bg ks)),some (.leaf (.tup (bg.map .str))),x5,x6,x7,x8,x9,x10,some (.leaf (.int (twN cs ss))),x12,x13]=some (.nx [x0,some (.leaf (pgD cs ss rows)),x2,some (.leaf (cdD bg ks)),some (.leaf (.tup (bg.map .str))),x5,x6,x7,x8,x9,x10,some (.leaf (.int (twN cs ss))),some (.leaf (.int (mxB bg ks))),x13]):=by
  have a:toD (aj cF (aa (toD (d2 aN (toD (bU (aa (toD (aj bR (aa (vB 4) ai))) ai))) (toD (aU [none] (fIt (toD (d2 aw (vB 3) (kD (.int 1))))) (ao 0) aR y66)))) ai)) [x0,some (.leaf (pgD cs ss rows)),x2,some (.leaf (cdD bg ks)),some (.leaf (.tup (bg.map .str))),x5,x6,x7,x8,x9,x10,some (.leaf (.int (twN cs ss))),x12,x13]=some (.int (mxB bg ks)):=by unfold cdD;walk_at "k";rw [e3,qa1,bE (by simp;lia)];walk_at "k";rw [fw (by simp;lia)];show qg1 T.d (cF [.lst ([.int ((bg.map Dt.str).length:Nat)]++(ks.map fun k=>((k.2.length:Nat):Int)).map .int)])=_;rw [e4];rfl
  unfold aM toT;rw [a];rfl
 have s2:aM 13 (toT (toD (aj y35 (aa (vL 1) (aa (vL 3) ai))))) [x0,some (.leaf (pgD cs ss rows)),x2,some (.leaf (cdD bg ks)),some (.leaf (.tup (bg.map .str))),x5,x6,x7,x8,x9,x10,some (.leaf (.int (twN cs ss))),some (.leaf (.int (mxB bg ks))),x13]=some (.nx [x0,some (.leaf (pgD cs ss rows)),x2,some (.leaf (cdD bg ks)),some (.leaf (.tup (bg.map .str))),x5,x6,x7,x8,x9,x10,some (.leaf (.int (twN cs ss))),some (.leaf (.int (mxB bg ks))),some (.leaf (.int (2*twN cs ss+mxB bg ks+lgR rows ks+3)))]):=by
  have a:toD (aj y35 (aa (vL 1) (aa (vL 3) ai))) [x0,some (.leaf (pgD cs ss rows)),x2,some (.leaf (cdD bg ks)),some (.leaf (.tup (bg.map .str))),x5,x6,x7,x8,x9,x10,some (.leaf (.int (twN cs ss))),some (.leaf (.int (mxB bg ks))),x13]=some (.int (2*twN cs ss+mxB bg ks+lgR rows ks+3)):=by show (y35 [pgD cs ss rows,cdD bg ks]).map T.d=_;rw [e1];rfl
  unfold aM toT;rw [a];rfl
 rw [cE,s1,bH,cE,s2,bH];generalize hv:2*twN cs ss+mxB bg ks+lgR rows ks+3=v;walk_at "k";rw [show fS q15 [pgD cs ss rows,cdD bg ks]=_ from e2];show gu ((gEq true (.int v) (.int (2*twN cs ss+mxB bg ks+lgR rows ks+3))).bind asB) _ _ _=_;rw [hv,show (gEq true (Dt.int v) (Dt.int v)).bind asB=some (!decide (v=v)) from rfl,decide_eq_true rfl];rfl
noncomputable def lwE:De->Option Out:=(aD (aM 11 (toT (toD (d2 aN (toD (aj bR (aa (toD (aU [none] (fIt (toD (d2 aw (vB 1) (kD (.int 0))))) (ao 0) z53 (vL 0))) ai))) (toD (aj gp (aa (toD (aU [none] (fIt (toD (d2 aw (vB 1) (kD (.int 1))))) (ao 0) q45 y45)) ai)))))))
  (aD (dJ (fIt (toD (bU (aa (vL 10) (aa (toD (aZ (aa (vL 4) (aa (vL 5) ai)))) ai))))) (ao 3) q53)
  (bV (toT (kD (.bl true))))))
theorem yZ {cs ss:List Hd} {rows:List Rw} {B bg:List Str} {ks ks':List (Nat×List Str)} (P:Prg B rows) (C:Ckp rows ks) (C':Ckp rows ks') (hc:cs.length<=8) (hs:ss.length<=4) (x0 x2 x3 x6 x7 x8 x9 x11 x12 x13:Option T) :
  jb (lwE [x0,some (.leaf (pgD cs ss rows)),x2,x3,some (.leaf (.tup (bg.map .str))),some (.leaf (.tup (ks.map kpD))),x6,x7,x8,x9,some (.leaf (cdD bg ks')),x11,x12,x13])=some (.leaf (.bl true)):=by
 have e1:bm (ao 0) z53 (vL 0) [none] (cs.map hdD)=some ((cs.filter (·.b)).map hdD):=bO fun h _=>⟨_,rfl,by unfold z53 hdD;walk_at "k";try rfl,fun _=>rfl⟩
 have e2:bm (ao 0) q45 y45 [none] (ss.map hdD)=some (((ss.filter (·.b)).map (·.n)).map .int):=by
  have:=bO (f:=hdD) (h:=fun h:Hd=>Dt.int h.n) (p:=fun h=>h.b) (bb:=ao 0) (ft:=q45) (fe:=y45) (δ:=[none]) (l:=ss) fun h _=>⟨_,rfl,by unfold q45 hdD;walk_at "k";try rfl,fun _=>by unfold y45 hdD;walk_at "k"⟩
  rw [this,qd0];rfl
 have l1:=qe0 (fun h:Hd=>h.b) cs;have l2:=qe0 (fun h:Hd=>h.b) ss;obtain ⟨a12,a13,f1⟩:=jm (cs:=cs) (ss:=ss) (bg:=bg) P C' hc hs x0 x2 (some (.leaf (.tup (ks.map kpD)))) x6 x7 x8 x9 (some (.leaf (cdD bg ks'))) x12 x13;obtain ⟨b12,b13,f2⟩:=jm (cs:=cs) (ss:=ss) (bg:=bg) P C hc hs x0 x2 (some (.leaf (.tup (ks.map kpD)))) x6 x7 x8 x9 (some (.leaf (cdD bg ks'))) a12 a13
 have st:toD (d2 aN (toD (aj bR (aa (toD (aU [none] (fIt (toD (d2 aw (vB 1) (kD (.int 0))))) (ao 0) z53 (vL 0))) ai))) (toD (aj gp (aa (toD (aU [none] (fIt (toD (d2 aw (vB 1) (kD (.int 1))))) (ao 0) q45 y45)) ai)))) [x0,some (.leaf (pgD cs ss rows)),x2,x3,some (.leaf (.tup (bg.map .str))),some (.leaf (.tup (ks.map kpD))),x6,x7,x8,x9,some (.leaf (cdD bg ks')),x11,x12,x13]=some (.int (twN cs ss)):=by walk_at "k";rw [e1,e2,qa1,qa1,bE (by rw [qa3];lia),bE (by rw [qa3,qa3];lia)];walk_at "k";rw [mO];walk_at "k";simp [twN]
 have s1:aM 11 (toT (toD (d2 aN (toD (aj bR (aa (toD (aU [none] (fIt (toD (d2 aw (vB 1) (kD (.int 0))))) (ao 0) z53 (vL 0))) ai))) (toD (aj gp (aa (toD (aU [none] (fIt (toD (d2 aw (vB 1) (kD (.int 1))))) (ao 0) q45 y45)) ai)))))) [x0,some (.leaf (pgD cs ss rows)),x2,x3,some (.leaf (.tup (bg.map .str))),some (.leaf (.tup (ks.map kpD))),x6,x7,x8,x9,some (.leaf (cdD bg ks')),x11,x12,x13]=some (.nx [x0,some (.leaf (pgD cs ss rows)),x2,x3,some (.leaf (.tup (bg.map .str))),some (.leaf (.tup (ks.map kpD))),x6,x7,x8,x9,some (.leaf (cdD bg ks')),some (.leaf (.int (twN cs ss))),x12,x13]):=by unfold aM toT;rw [st];rfl
 unfold lwE;rw [cE,s1,bH,cE]
 have s2:dJ (fIt (toD (bU (aa (vL 10) (aa (toD (aZ (aa (vL 4) (aa (vL 5) ai)))) ai))))) (ao 3) q53 [x0,some (.leaf (pgD cs ss rows)),x2,x3,some (.leaf (.tup (bg.map .str))),some (.leaf (.tup (ks.map kpD))),x6,x7,x8,x9,some (.leaf (cdD bg ks')),some (.leaf (.int (twN cs ss))),x12,x13]=some (.nx [x0,some (.leaf (pgD cs ss rows)),x2,some (.leaf (cdD bg ks)),some (.leaf (.tup (bg.map .str))),some (.leaf (.tup (ks.map kpD))),x6,x7,x8,x9,some (.leaf (cdD bg ks')),some (.leaf (.int (twN cs ss))),b12,b13]):=by show c8 (ao 3) q53 [cdD bg ks',cdD bg ks] [x0,some (.leaf (pgD cs ss rows)),x2,x3,some (.leaf (.tup (bg.map .str))),some (.leaf (.tup (ks.map kpD))),x6,x7,x8,x9,some (.leaf (cdD bg ks')),some (.leaf (.int (twN cs ss))),x12,x13]=_;rw [bF (δ1:=[x0,some (.leaf (pgD cs ss rows)),x2,some (.leaf (cdD bg ks')),some (.leaf (.tup (bg.map .str))),some (.leaf (.tup (ks.map kpD))),x6,x7,x8,x9,some (.leaf (cdD bg ks')),some (.leaf (.int (twN cs ss))),x12,x13]) rfl f1,bF (δ1:=[x0,some (.leaf (pgD cs ss rows)),x2,some (.leaf (cdD bg ks)),some (.leaf (.tup (bg.map .str))),some (.leaf (.tup (ks.map kpD))),x6,x7,x8,x9,some (.leaf (cdD bg ks')),some (.leaf (.int (twN cs ss))),a12,a13]) rfl f2];rfl
 rw [s2,bH];rfl
theorem mZ {N:List Str} {rows:List Rw} {found:List (List Str)}:(eh N rows found).map (·.1)=plc N rows:=by unfold eh;rw [qd0];exact List.map_id' _
theorem wa {N B:List Str} {rows:List Rw} {found:List (List Str)} (P:Prg B rows):Ckp rows (eh N rows found):=by
 have hn:=P.n;have hl:=lu (N:=N) P.out;refine ⟨fun i r j h1 h2 h3=>?_,fun k hk=>?_,?_⟩
 . rw [mZ];exact plc_mem.mpr (.inr (bks_mem.mpr ⟨i,r,h1,by rw [zg9];exact h2,by lia⟩))
 . have:k.1∈(eh N rows found).map (·.1):=qu6 hk;rw [mZ] at this;exact n8 P.out this
 . unfold eh;rw [qa3];lia
theorem ub {N B:List Str} {rows:List Rw} {found:List (List Str)} (P:Prg B rows):0<(eh N rows found).length:=by obtain ⟨i,a,e⟩:=P.last;have:i∈plc N rows:=plc_mem.mpr (.inl (kds_mem.mpr ⟨qi8 _,_,e,rfl⟩));unfold eh;rw [qa3];exact zb1 this
theorem uc {l:List Dt} {k:Nat}:nU (.tup l) none (some ((k:Nat):Int))=some (.leaf (.tup (l.take k))):=by
 have e:=HT.AG l.length l.length k;show (if HT.sIx l.length 0 none=0/\HT.sIx l.length l.length (some ((k:Nat):Int))=l.length then some (T.leaf (.tup l)) else some (T.leaf (.tup (iP l none (some ((k:Nat):Int))))))=_;unfold iP;rw [e,HT.zM];split
 . rename_i h;rw [qh9 (by lia)]
 . rw [List.drop_zero,Nat.sub_zero];congr 3;by_cases z:k<=l.length
   . rw [Nat.min_eq_left z]
   . rw [Nat.min_eq_right (by lia),qh9 (nL _),qh9 (by lia)]
theorem ud {l:List Dt} {k:Nat}:nU (.tup l) (some ((k:Nat):Int)) none=some (.leaf (.tup (l.drop k))):=by
 have e:=HT.AG l.length 0 k;show (if HT.sIx l.length 0 (some ((k:Nat):Int))=0/\HT.sIx l.length l.length none=l.length then some (T.leaf (.tup l)) else some (T.leaf (.tup (iP l (some ((k:Nat):Int)) none))))=_;unfold iP;rw [e,HT.zM];split
 . rename_i h
   have:k=0∨l=[]:=by
    rcases Nat.eq_zero_or_pos k with z | z
    . exact .inl z
    . right;apply qq6.mp;lia
   rcases this with rfl | rfl
   . rfl
   . simp
 . congr 3;by_cases z:k<=l.length
   . rw [Nat.min_eq_left z,qh9 (by simp)]
   . rw [Nat.min_eq_right (by lia),zb2 (nL _),zb2 (by lia)];simp
theorem iy (a b:List Dt) (h:a.length+b.length<=1000):cD (.tup a) (.tup b)=some (.leaf (.tup (a++b))):=by have:=pC (fun d:Dt=>d) a b h;simpa using this
theorem xc {g:Dt->Dt->Option T} {fa fb:De->Option Dt} {δ:De} {x y:Dt} (h1:fa δ=some x) (h2:fb δ=some y):d2 g fa fb δ=g x y:=by unfold d2;rw [h1,h2];rfl
theorem g7 {f:De->Option T} {δ:De} {t:T} (h:f δ=some t):toD f δ=some t.d:=by unfold toD;rw [h];rfl
theorem wb {f:De->Option Dt} {δ:De} {x:Dt} (h:f δ=some x):aZ (aa f ai) δ=some (.leaf (.tup [x])):=by rw [nZ];unfold aa ai;rw [h];exact lj (ds:=[x]) (by simp)
theorem pU {f g:De->Option Dt} {δ:De} {x y:Dt} (h:f δ=some x) (h2:g δ=some y):aZ (aa f (aa g ai)) δ=some (.leaf (.tup [x,y])):=by rw [nZ];unfold aa ai;rw [h,h2];exact lj (ds:=[x,y]) (by simp)
noncomputable def lwT:De->Option Out:=(aD (lR (toD (aj z18 (aa (vL 1) ai))) (dg 2 (aW (ao 4) (aW (ao 5) de))))
  (aD (aM 2 (toT (toD (d2 b5 (toD (d2 eu (toD (aj y1 (aa (vL 0) (aa (kD (.int 2)) ai)))) (kD (.int 48271)))) (kD (.int 1000000007))))))
  (aD (aM 6 (toT (toD (aj q14 (aa (toD (aj y1 (aa (vL 0) (aa (kD (.int 1)) ai)))) (aa (toD (d2 b5 (toD (d2 fF (vB 2) (kD (.int 26)))) (kD (.int 9)))) ai))))))
  (aD (aM 7 (toT (toD (d2 b5 (vB 2) (toD (aj bR (aa (vB 5) ai)))))))
  (aD (lR (toD (d2 aw (vB 5) (vB 7))) (dg 2 (aW (ao 8) (aW (ao 9) de))))
  (aD (aM 10 (toT (toD (aZ (aa (vL 4) (aa (toD (d2 cD (toD (d2 cD (toD (jw (vB 5) gd (cZ (vB 7)))) (toD (aZ (aa (toD (aZ (aa (vL 8) (aa (toD (aj b6 (aa (toD (aj cV (aa (toD (d2 aN (toD (aj iQ (aa (vB 9) ai))) (vB 6))) ai))) ai))) ai)))) ai))))) (toD (jw (vB 5) (cZ (toD (d2 aN (vB 7) (kD (.int 1))))) gd)))) ai))))))
  lwE))))))
theorem ue (ns:List Int) {cs ss:List Hd} {rows:List Rw} {B:List Str} (P:Prg B rows) (hc:cs.length<=8) (hs:ss.length<=4) (x2 x3:Option T) :
  jb (lwT [some (.leaf (.lst (ns.map .int))),some (.leaf (pgD cs ss rows)),x2,x3,none,none,none,none,none,none,none,none,none,none])=some (.leaf (.bl true)):=by
 have hn:=P.n;obtain ⟨found,F,ea⟩:=jx (cs:=cs) (ss:=ss) P.rd P.out P.b hn P.pos (by lia);generalize ((cs++ss).filter fun h=>!h.b).map (·.x)=N at ea;generalize hbg:found.getD 0 []=bg at ea;have C:Ckp rows (eh N rows found):=wa P;have k0:0<(eh N rows found).length:=ub P
 have kb:∀ k∈eh N rows found,k.2.length<=12:=fun k hk=>by have hk2:=C.lt k hk;unfold eh at hk;obtain ⟨j,hj,rfl⟩:=qc1.mp hk;exact qc5 (F.short (lv F hk2)) P.b
 have kl:(eh N rows found).length<=60:=by have:=lu (N:=N) P.out;unfold eh;rw [qa3];lia
 generalize eh N rows found=ks at ea C k0 kb kl;have c1:y1 [.lst (ns.map .int),.int 1]=some (.leaf (.int (ns.getD 1 0))):=ei ns 1;have c2:y1 [.lst (ns.map .int),.int 2]=some (.leaf (.int (ns.getD 2 0))):=ei ns 2;generalize ns.getD 1 0=n1 at c1;generalize hm:ns.getD 2 0*48271%1000000007=m;have m0:0<=m:=by rw [<- hm];exact qv1 _ (by decide)
 obtain ⟨q,hq⟩:∃ q:Nat,m/26%9=(q:Int):=⟨(m/26%9).toNat,by lia⟩
 obtain ⟨w,hw⟩:∃ w:Nat,m%(ks.length:Nat)=(w:Int):=⟨(m%(ks.length:Nat)).toNat,by have:=qv1 m (show ((ks.length:Nat):Int)≠0 by lia);lia⟩
 have wl:w<ks.length:=by have:=Int.emod_lt_of_pos m (show (0:Int)<(ks.length:Nat) by lia);lia
 obtain ⟨mo,hmo,emo⟩:=jk n1 q (by lia);obtain ⟨kj,hkj⟩:∃ kj,ks[w]?=some kj:=⟨ks[w],by simp [wl]⟩;have kjm:kj∈ks:=qf9 hkj
 have eix:aw (.tup (ks.map kpD)) (.int (w:Nat))=some (.leaf (kpD kj)):=by rw [wI,bz,qb9,hkj];rfl
 have eso:=ic (l:=kj.2++mo) (by have:=kb kj kjm;rw [qb2];lia);generalize dP (bY (kj.2++mo))=nb at eso
 have C':Ckp rows (ks.take w++[(kj.1,nb)]++ks.drop (w+1)):=by
  have hks:ks=ks.take w++[kj]++ks.drop (w+1):=by
   have h1:=List.take_append_drop w ks;rw [qw7 wl] at h1;have h2:ks[w]=kj:=by rw [gQ wl] at hkj;exact qe1 hkj
   rw [h2] at h1;rw [qi4];exact h1.symm
  have hf:(ks.take w++[(kj.1,nb)]++ks.drop (w+1)).map (·.1)=ks.map (·.1):=by
   conv=>rhs;rw [hks]
   simp
  refine ⟨fun i r j h1 h2 h3=>by rw [hf];exact C.back i r j h1 h2 h3,fun k hk=>?_,?_⟩
  . have h1:k.1∈(ks.take w++[(kj.1,nb)]++ks.drop (w+1)).map (·.1):=qu6 hk;rw [hf] at h1;obtain ⟨k2,h2,h3⟩:=qc1.mp h1;have:=C.lt k2 h2;lia
  . have:=congrArg qj7 hf;rw [qa3,qa3] at this;lia
 have fin:=yZ (bg:=bg) P C C' hc hs (some (.leaf (.lst (ns.map .int)))) (some (.leaf (.int m))) x3 (some (.leaf (.lst (mo.map .str)))) (some (.leaf (dI w))) (some (.leaf (dI kj.1))) (some (.leaf (.tup (kj.2.map .str)))) none none none
 have s1:lR (toD (aj z18 (aa (vL 1) ai))) (dg 2 (aW (ao 4) (aW (ao 5) de))) [some (.leaf (.lst (ns.map .int))),some (.leaf (pgD cs ss rows)),x2,x3,none,none,none,none,none,none,none,none,none,none]=some (.nx [some (.leaf (.lst (ns.map .int))),some (.leaf (pgD cs ss rows)),x2,x3,some (.leaf (.tup (bg.map .str))),some (.leaf (.tup (ks.map kpD))),none,none,none,none,none,none,none,none]):=by
  have a:toD (aj z18 (aa (vL 1) ai)) [some (.leaf (.lst (ns.map .int))),some (.leaf (pgD cs ss rows)),x2,x3,none,none,none,none,none,none,none,none,none,none]=some (cdD bg ks):=by show (z18 [pgD cs ss rows]).map T.d=_;rw [ea];rfl
  unfold lR;rw [a];rfl
 have s10:aM 10 (toT (toD (aZ (aa (vL 4) (aa (toD (d2 cD (toD (d2 cD (toD (jw (vB 5) gd (cZ (vB 7)))) (toD (aZ (aa (toD (aZ (aa (vL 8) (aa (toD (aj b6 (aa (toD (aj cV (aa (toD (d2 aN (toD (aj iQ (aa (vB 9) ai))) (vB 6))) ai))) ai))) ai)))) ai))))) (toD (jw (vB 5) (cZ (toD (d2 aN (vB 7) (kD (.int 1))))) gd)))) ai))))) [some (.leaf (.lst (ns.map .int))),some (.leaf (pgD cs ss rows)),some (.leaf (.int m)),x3,some (.leaf (.tup (bg.map .str))),some (.leaf (.tup (ks.map kpD))),some (.leaf (.lst (mo.map .str))),some (.leaf (.int (w:Nat))),some (.leaf (dI kj.1)),some (.leaf (.tup (kj.2.map .str))),none,none,none,none]=some (.nx [some (.leaf (.lst (ns.map .int))),some (.leaf (pgD cs ss rows)),some (.leaf (.int m)),x3,some (.leaf (.tup (bg.map .str))),some (.leaf (.tup (ks.map kpD))),some (.leaf (.lst (mo.map .str))),some (.leaf (.int (w:Nat))),some (.leaf (dI kj.1)),some (.leaf (.tup (kj.2.map .str))),some (.leaf (cdD bg (ks.take w++[(kj.1,nb)]++ks.drop (w+1)))),none,none,none]):=by
  have a1:cD (.tup ((ks.map kpD).take w)) (.tup [.tup [dI kj.1,.tup (nb.map .str)]])=some (.leaf (.tup ((ks.map kpD).take w++[kpD (kj.1,nb)]))):=iy _ _ (by simp;lia)
  have a2:cD (.tup ((ks.map kpD).take w++[kpD (kj.1,nb)])) (.tup ((ks.map kpD).drop (w+1)))=some (.leaf (.tup ((ks.take w++[(kj.1,nb)]++ks.drop (w+1)).map kpD))):=by rw [iy _ _ (by simp;lia)];simp
  have a3:=uc (l:=ks.map kpD) (k:=w);have a4:=ud (l:=ks.map kpD) (k:=w+1)
  have a5:aN (.lst (kj.2.map .str)) (.lst (mo.map .str))=some (.lst ((kj.2++mo).map .str)):=by have:=kb kj kjm;rw [fw (by simp;lia),qk0]
  have a6:toD (jw (vB 5) (cZ (toD (d2 aN (vB 7) (kD (.int 1))))) gd) [some (.leaf (.lst (ns.map .int))),some (.leaf (pgD cs ss rows)),some (.leaf (.int m)),x3,some (.leaf (.tup (bg.map .str))),some (.leaf (.tup (ks.map kpD))),some (.leaf (.lst (mo.map .str))),some (.leaf (.int (w:Nat))),some (.leaf (dI kj.1)),some (.leaf (.tup (kj.2.map .str))),none,none,none,none]=some (.tup ((ks.map kpD).drop (w+1))):=by show (nU (.tup (ks.map kpD)) (some (((w+1:Nat)):Int)) none).map T.d=_;rw [a4];rfl
  have a7:toD (jw (vB 5) gd (cZ (vB 7))) [some (.leaf (.lst (ns.map .int))),some (.leaf (pgD cs ss rows)),some (.leaf (.int m)),x3,some (.leaf (.tup (bg.map .str))),some (.leaf (.tup (ks.map kpD))),some (.leaf (.lst (mo.map .str))),some (.leaf (.int (w:Nat))),some (.leaf (dI kj.1)),some (.leaf (.tup (kj.2.map .str))),none,none,none,none]=some (.tup ((ks.map kpD).take w)):=by show (nU (.tup (ks.map kpD)) none (some ((w:Nat):Int))).map T.d=_;rw [a3];rfl
  have a8:toD (aj b6 (aa (toD (aj cV (aa (toD (d2 aN (toD (aj iQ (aa (vB 9) ai))) (vB 6))) ai))) ai)) [some (.leaf (.lst (ns.map .int))),some (.leaf (pgD cs ss rows)),some (.leaf (.int m)),x3,some (.leaf (.tup (bg.map .str))),some (.leaf (.tup (ks.map kpD))),some (.leaf (.lst (mo.map .str))),some (.leaf (.int (w:Nat))),some (.leaf (dI kj.1)),some (.leaf (.tup (kj.2.map .str))),none,none,none,none]=some (.tup (nb.map .str)):=by walk_at "k";rw [a5];walk_at "k";rw [eso];rfl
  have a9:=g7 (pU (show vL 8 [some (.leaf (.lst (ns.map .int))),some (.leaf (pgD cs ss rows)),some (.leaf (.int m)),x3,some (.leaf (.tup (bg.map .str))),some (.leaf (.tup (ks.map kpD))),some (.leaf (.lst (mo.map .str))),some (.leaf (.int (w:Nat))),some (.leaf (dI kj.1)),some (.leaf (.tup (kj.2.map .str))),none,none,none,none]=some (dI kj.1) from rfl) a8);have b1:=g7 (wb a9);have b2:=g7 ((xc (g:=cD) a7 b1).trans a1);have b3:=g7 ((xc (g:=cD) b2 a6).trans a2);have b4:=g7 (pU (show vL 4 [some (.leaf (.lst (ns.map .int))),some (.leaf (pgD cs ss rows)),some (.leaf (.int m)),x3,some (.leaf (.tup (bg.map .str))),some (.leaf (.tup (ks.map kpD))),some (.leaf (.lst (mo.map .str))),some (.leaf (.int (w:Nat))),some (.leaf (dI kj.1)),some (.leaf (.tup (kj.2.map .str))),none,none,none,none]=some (.tup (bg.map .str)) from rfl) b3);unfold aM toT;rw [b4];rfl
 unfold lwT;rw [cE,s1,bH];walk_at "k";rw [c2];walk_at "k";rw [hm,c1,gv (by decide) (by decide)];walk_at "k";rw [hq,emo];walk_at "k";rw [qa3,eU (by lia),hw];walk_at "k";rw [show atI (ks.map kpD) ((w:Nat):Int)=some (kpD kj) by rw [bz,qb9,hkj];rfl];show jb (pw (some (.nx [some (.leaf (.lst (ns.map .int))),some (.leaf (pgD cs ss rows)),some (.leaf (.int m)),x3,some (.leaf (.tup (bg.map .str))),some (.leaf (.tup (ks.map kpD))),some (.leaf (.lst (mo.map .str))),some (.leaf (.int (w:Nat))),some (.leaf (dI kj.1)),some (.leaf (.tup (kj.2.map .str))),none,none,none,none])) _)=_;rw [bH,cE,s10,bH];exact fin
theorem zb:pk=cy 14 ((aD (aM 1 (toT (toD (aj z23 (aa (vL 0) (aa (kD (.int 24)) (aa (kD (.bl true)) ai)))))))
  (aD (aM 2 (toT (toD (d2 b5 (toD (d2 eu (toD (aj y1 (aa (vL 0) (aa (kD (.int 3)) ai)))) (kD (.int 48271)))) (kD (.int 1000000007))))))
  (aD (sIf (tB2 (gEq false) (toD (d2 b5 (vB 2) (kD (.int 4)))) (kD (.int 1))) (aD (aM 3 (toT (toD (aU [none] (dh fN (aa (toD (d2 b5 (toD (d2 fF (vB 2) (kD (.int 4)))) (kD (.int 50)))) ai)) (ao 0) aR y60))))
  (aM 1 (toT (toD (aZ (aa (toD (d2 aw (vB 1) (kD (.int 0)))) (aa (toD (d2 aw (vB 1) (kD (.int 1)))) (aa (toD (d2 cD (toD (d2 cD (toD (aZ (aa (toD (aZ (aa (kD (.str "hear")) (aa (kD (.str "q")) ai)))) ai))) (toD (aj b6 (aa (vB 3) ai))))) (toD (aZ (aa (toD (aZ (aa (kD (.str "end")) (aa (kD (.str "q")) ai)))) ai))))) ai)))))))) c7)
  lwT)))):=rfl
noncomputable def zd (n:Nat):List Rw:=.hear "q"::(qb8 n).map fun (k:Nat)=>.copy "q" (.vl (k:Int))
theorem wc (n:Nat) (h:n<=49):Prg ["q"] (zd n++[.fin (.nm "q")]):=by
 refine t9 (by decide) (by simp [zd];lia) (fun r hr=>?_) fun x e=>by cases e;exact .head _
 rcases qa9.mp hr with rfl | hr
 . exact ⟨gx fun x hx=>(by cases hx),fun i j hj=>.inr (qb7.mp hj)⟩
 . obtain ⟨k,_,rfl⟩:=qc1.mp hr;exact ⟨gx fun x hx=>(by cases qb7.mp hx),fun i j hj=>.inr (qb7.mp hj)⟩
theorem qS (n:Nat):bm (ao 0) aR y60 [none] ((qb8 n).map dI)=some (((qb8 n).map fun (k:Nat)=>Rw.copy "q" (.vl (k:Int))).map Rw.d):=by
 have:=bN (f:=dI) (h:=fun k:Nat=>(Rw.copy "q" (.vl (k:Int))).d) (bb:=ao 0) (ft:=aR) (fe:=y60) (δ:=[none]) (l:=qb8 n) fun k _=>⟨[some (.leaf (dI k))],rfl,rfl,by
  unfold y60
  exact g7 (t:=.leaf (Rw.copy "q" (.vl (k:Int))).d) (by rw [nZ];exact lj (ds:=[.str "copy",.str "q",dI k]) (by simp))⟩
 rw [this,qd0];rfl
theorem main (ns:List Int) (h:ns.length<=63):pk [.lst (ns.map .int)]=some (.leaf (.bl true)):=by
 obtain ⟨cs,ss,rows,B,ep,hc,hs,P⟩:=oq ns;have c3:y1 [.lst (ns.map .int),.int 3]=some (.leaf (.int (ns.getD 3 0))):=ei ns 3;generalize hm:ns.getD 3 0*48271%1000000007=m;obtain ⟨q,hq⟩:∃ q:Nat,m/4%50=(q:Int):=⟨(m/4%50).toNat,by lia⟩;rw [zb];walk_at "k";rw [ep];walk_at "k";rw [c3];walk_at "k";rw [hm];by_cases z:m%4=1
 . rw [du (by simpa using z)];walk_at "k";rw [gv (by decide) (by decide)];walk_at "k";rw [hq,lw q (by omega),qa1,qS,qa1,bE (by simp;omega)];walk_at "k";rw [iy _ _ (by simp;omega)];walk_at "k";rw [iy _ _ (by simp;omega)]
   have e:Dt.tup [.str "hear",.str "q"]::((qb8 q).map fun (k:Nat)=>Rw.copy "q" (.vl (k:Int))).map Rw.d++[Dt.tup [.str "end",.str "q"]]=(zd q++[Rw.fin (.nm "q")]).map Rw.d:=by rw [qk0];rfl
   rw [e];walk_at "k";exact ue ns (wc q (by omega)) hc hs (some (.leaf (.int m))) _
 . rw [dv (by simpa using z)];walk_at "k";exact ue ns P hc hs (some (.leaf (.int m))) none
noncomputable def ly (K:PySem.W.Frag):Sp:=fun vs H Q _=>∃ (a:Addr) (ns:List Int),vs=[.ref a]/\SqL K H a (ns.map V.int)/\ns.length<=63/\uL H/\∀ H',Q (.bl true) H'
theorem ze {K:PySem.W.Frag} {vs:List V} {H:Hp} {Q:VK} {E:XK} (h:ly K vs H Q E):spD K 1 pk vs H Q E:=by
 obtain ⟨a,ns,rfl,hS,hl,hO,q⟩:=h;refine ⟨H,[.lst (ns.map .int)],.leaf (.bl true),Same.refl H,rfl,?_,main ns hl,fun v H' F' S st o _=>?_⟩
 . simp only [Reps,Rep];exact ⟨_,[],rfl,⟨a,_,rfl,hS,Reps.map (fun _=>f8) ns⟩,rfl⟩
 . have o:Rep K F' (.bl true) v:=o;simp only [Rep] at o;subst o;exact q H'
theorem all_mk {l:PySem.W.OpenLaw} {w:World} {K:PySem.W.Frag} {h:Heap} {mg:Str->Option Value} {fa:Addr} (X:K.In h) (G:h.Ns qc9 mg) (hfa:mg "law"=some (.ref fa))
  (a0:AtF K "_law_cell_at" y23)
  (a1:AtF K "_law_leads" z35)
  (a2:AtF K "_law_most_rows" z11)
  (a3:AtF K "_law_digits" z33)
  (a4:AtF K "_law_names" z26)
  (a5:AtF K "_law_atom" y33)
  (a6:AtF K "_law_row" z30)
  (a7:AtF K "_law_program" z4)
  (a8:AtF K "ways_of" q48)
  (a9:AtF K "ways" ee)
  (a10:AtF K "gives" z52)
  (a11:AtF K "atoms" y52)
  (a12:AtF K "reads" z40)
  (a13:AtF K "needed_ahead" z14)
  (a14:AtF K "needed" y24)
  (a15:AtF K "plain_names" q28)
  (a16:AtF K "rows_by_kind" y19)
  (a17:AtF K "rows_led_back_to" z13)
  (a18:AtF K "all_places" q13)
  (a19:AtF K "kept_rows" z34)
  (a20:AtF K "inner_ways" y18)
  (a21:AtF K "longest_piece" z8)
  (a22:AtF K "twins_places" q16)
  (a23:AtF K "breath" z24)
  (a24:AtF K "law" bC)
  (z_bool:PySem.W.nsIn K qc9 "bool"=some none)
  (z_enumerate:PySem.W.nsIn K qc9 "enumerate"=some none)
  (z_int:PySem.W.nsIn K qc9 "int"=some none)
  (z_isinstance:PySem.W.nsIn K qc9 "isinstance"=some none)
  (z_len:PySem.W.nsIn K qc9 "len"=some none)
  (z_list:PySem.W.nsIn K qc9 "list"=some none)
  (z_max:PySem.W.nsIn K qc9 "max"=some none)
  (z_range:PySem.W.nsIn K qc9 "range"=some none)
  (z_set:PySem.W.nsIn K qc9 "set"=some none)
  (z_sorted:PySem.W.nsIn K qc9 "sorted"=some none)
  (z_str:PySem.W.nsIn K qc9 "str"=some none)
  (z_sum:PySem.W.nsIn K qc9 "sum"=some none)
  (z_tuple:PySem.W.nsIn K qc9 "tuple"=some none)
  {d_ATOM_PLACES:Addr} {o_ATOM_PLACES:Obj} {m_ATOM_PLACES:Nat} {t0_ATOM_PLACES:Tok} {t1_ATOM_PLACES:Tok} {t2_ATOM_PLACES:Tok} {t3_ATOM_PLACES:Tok} {t4_ATOM_PLACES:Tok} {t5_ATOM_PLACES:Tok} {t6_ATOM_PLACES:Tok} {t7_ATOM_PLACES:Tok} {a0_ATOM_PLACES:Addr} {a1_ATOM_PLACES:Addr} {a2_ATOM_PLACES:Addr} {a3_ATOM_PLACES:Addr} {a4_ATOM_PLACES:Addr} {a5_ATOM_PLACES:Addr} {a6_ATOM_PLACES:Addr} {a7_ATOM_PLACES:Addr} (b_ATOM_PLACES:PySem.W.nsIn K qc9 "ATOM_PLACES"=some (some (.ref d_ATOM_PLACES))) (l_ATOM_PLACES:K.lookup d_ATOM_PLACES=some o_ATOM_PLACES) (e_ATOM_PLACES:o_ATOM_PLACES.ExactDict) (f_ATOM_PLACES:o_ATOM_PLACES.data=.dict #[⟨qj3 w.params "copy",.str "copy" t0_ATOM_PLACES,.ref a0_ATOM_PLACES⟩,⟨qj3 w.params "op",.str "op" t1_ATOM_PLACES,.ref a1_ATOM_PLACES⟩,⟨qj3 w.params "store",.str "store" t2_ATOM_PLACES,.ref a2_ATOM_PLACES⟩,⟨qj3 w.params "take",.str "take" t3_ATOM_PLACES,.ref a3_ATOM_PLACES⟩,⟨qj3 w.params "lay",.str "lay" t4_ATOM_PLACES,.ref a4_ATOM_PLACES⟩,⟨qj3 w.params "say",.str "say" t5_ATOM_PLACES,.ref a5_ATOM_PLACES⟩,⟨qj3 w.params "if",.str "if" t6_ATOM_PLACES,.ref a6_ATOM_PLACES⟩,⟨qj3 w.params "end",.str "end" t7_ATOM_PLACES,.ref a7_ATOM_PLACES⟩] m_ATOM_PLACES) (z_ATOM_PLACES:(d_ATOM_PLACES==qi1)=false)
  {o0_ATOM_PLACES:Obj} {i0_ATOM_PLACES:Array Value} {m0_ATOM_PLACES:Nat} (l0_ATOM_PLACES:K.lookup a0_ATOM_PLACES=some o0_ATOM_PLACES) (e0_ATOM_PLACES:o0_ATOM_PLACES.cls=.type "tuple") (f0_ATOM_PLACES:o0_ATOM_PLACES.data=.seq i0_ATOM_PLACES m0_ATOM_PLACES) (r0_ATOM_PLACES:Vals [V.int 2,V.int 3] i0_ATOM_PLACES.toList)
  {o1_ATOM_PLACES:Obj} {i1_ATOM_PLACES:Array Value} {m1_ATOM_PLACES:Nat} (l1_ATOM_PLACES:K.lookup a1_ATOM_PLACES=some o1_ATOM_PLACES) (e1_ATOM_PLACES:o1_ATOM_PLACES.cls=.type "tuple") (f1_ATOM_PLACES:o1_ATOM_PLACES.data=.seq i1_ATOM_PLACES m1_ATOM_PLACES) (r1_ATOM_PLACES:Vals [V.int 3,V.int 5] i1_ATOM_PLACES.toList)
  {o2_ATOM_PLACES:Obj} {i2_ATOM_PLACES:Array Value} {m2_ATOM_PLACES:Nat} (l2_ATOM_PLACES:K.lookup a2_ATOM_PLACES=some o2_ATOM_PLACES) (e2_ATOM_PLACES:o2_ATOM_PLACES.cls=.type "tuple") (f2_ATOM_PLACES:o2_ATOM_PLACES.data=.seq i2_ATOM_PLACES m2_ATOM_PLACES) (r2_ATOM_PLACES:Vals [V.int 2,V.int 3] i2_ATOM_PLACES.toList)
  {o3_ATOM_PLACES:Obj} {i3_ATOM_PLACES:Array Value} {m3_ATOM_PLACES:Nat} (l3_ATOM_PLACES:K.lookup a3_ATOM_PLACES=some o3_ATOM_PLACES) (e3_ATOM_PLACES:o3_ATOM_PLACES.cls=.type "tuple") (f3_ATOM_PLACES:o3_ATOM_PLACES.data=.seq i3_ATOM_PLACES m3_ATOM_PLACES) (r3_ATOM_PLACES:Vals [V.int 3,V.int 4] i3_ATOM_PLACES.toList)
  {o4_ATOM_PLACES:Obj} {i4_ATOM_PLACES:Array Value} {m4_ATOM_PLACES:Nat} (l4_ATOM_PLACES:K.lookup a4_ATOM_PLACES=some o4_ATOM_PLACES) (e4_ATOM_PLACES:o4_ATOM_PLACES.cls=.type "tuple") (f4_ATOM_PLACES:o4_ATOM_PLACES.data=.seq i4_ATOM_PLACES m4_ATOM_PLACES) (r4_ATOM_PLACES:Vals [V.int 2,V.int 4] i4_ATOM_PLACES.toList)
  {o5_ATOM_PLACES:Obj} {i5_ATOM_PLACES:Array Value} {m5_ATOM_PLACES:Nat} (l5_ATOM_PLACES:K.lookup a5_ATOM_PLACES=some o5_ATOM_PLACES) (e5_ATOM_PLACES:o5_ATOM_PLACES.cls=.type "tuple") (f5_ATOM_PLACES:o5_ATOM_PLACES.data=.seq i5_ATOM_PLACES m5_ATOM_PLACES) (r5_ATOM_PLACES:Vals [V.int 1,V.int 2] i5_ATOM_PLACES.toList)
  {o6_ATOM_PLACES:Obj} {i6_ATOM_PLACES:Array Value} {m6_ATOM_PLACES:Nat} (l6_ATOM_PLACES:K.lookup a6_ATOM_PLACES=some o6_ATOM_PLACES) (e6_ATOM_PLACES:o6_ATOM_PLACES.cls=.type "tuple") (f6_ATOM_PLACES:o6_ATOM_PLACES.data=.seq i6_ATOM_PLACES m6_ATOM_PLACES) (r6_ATOM_PLACES:Vals [V.int 1,V.int 2] i6_ATOM_PLACES.toList)
  {o7_ATOM_PLACES:Obj} {i7_ATOM_PLACES:Array Value} {m7_ATOM_PLACES:Nat} (l7_ATOM_PLACES:K.lookup a7_ATOM_PLACES=some o7_ATOM_PLACES) (e7_ATOM_PLACES:o7_ATOM_PLACES.cls=.type "tuple") (f7_ATOM_PLACES:o7_ATOM_PLACES.data=.seq i7_ATOM_PLACES m7_ATOM_PLACES) (r7_ATOM_PLACES:Vals [V.int 1,V.int 2] i7_ATOM_PLACES.toList)
  {d_SETTING:Addr} {o_SETTING:Obj} {i_SETTING:Array Value} {m_SETTING:Nat} (b_SETTING:PySem.W.nsIn K qc9 "SETTING"=some (some (.ref d_SETTING))) (l_SETTING:K.lookup d_SETTING=some o_SETTING) (e_SETTING:o_SETTING.cls=.type "tuple") (f_SETTING:o_SETTING.data=.seq i_SETTING m_SETTING) (r_SETTING:Vals [V.str "copy",V.str "op",V.str "load",V.str "take",V.str "hear"] i_SETTING.toList)
  (kd_str:fO K "str")
  (kd_bool:fO K "bool")
  (kd_int:fO K "int")
  : ∃ fd:ql1,(∀ (s:qa4) (v:Value),zh5 s fd ⟨[v],[]⟩ [("_law_script",v)])/\∀ base:Heap,K.In base->base.Ns qc9 mg->FnOk l.prog w K mg base CX0 6 fa fd ["_law_script"] (ly K):=by
 obtain ⟨f24,oc24,od24,an24,sl24,kV24,dc24,pm24,cd24,ct24,a24,l24,c24,k24⟩:=a24;have e:=hfa.symm.trans (PySem.W.mg_of X G a24);cases e;have T:Txt l.prog w K mg:={n_bool:=PySem.W.mg_none_of X G z_bool,n_enumerate:=PySem.W.mg_none_of X G z_enumerate,n_int:=PySem.W.mg_none_of X G z_int,n_isinstance:=PySem.W.mg_none_of X G z_isinstance,n_len:=PySem.W.mg_none_of X G z_len,n_list:=PySem.W.mg_none_of X G z_list,n_max:=PySem.W.mg_none_of X G z_max,n_range:=PySem.W.mg_none_of X G z_range,n_set:=PySem.W.mg_none_of X G z_set,n_sorted:=PySem.W.mg_none_of X G z_sorted,n_str:=PySem.W.mg_none_of X G z_str,n_sum:=PySem.W.mg_none_of X G z_sum,n_tuple:=PySem.W.mg_none_of X G z_tuple,g_ATOM_PLACES:=u4 [("copy",t0_ATOM_PLACES,.ref a0_ATOM_PLACES,.ref a0_ATOM_PLACES),("op",t1_ATOM_PLACES,.ref a1_ATOM_PLACES,.ref a1_ATOM_PLACES),("store",t2_ATOM_PLACES,.ref a2_ATOM_PLACES,.ref a2_ATOM_PLACES),("take",t3_ATOM_PLACES,.ref a3_ATOM_PLACES,.ref a3_ATOM_PLACES),("lay",t4_ATOM_PLACES,.ref a4_ATOM_PLACES,.ref a4_ATOM_PLACES),("say",t5_ATOM_PLACES,.ref a5_ATOM_PLACES,.ref a5_ATOM_PLACES),("if",t6_ATOM_PLACES,.ref a6_ATOM_PLACES,.ref a6_ATOM_PLACES),("end",t7_ATOM_PLACES,.ref a7_ATOM_PLACES,.ref a7_ATOM_PLACES)] (PySem.W.mg_of X G b_ATOM_PLACES) l_ATOM_PLACES e_ATOM_PLACES f_ATOM_PLACES z_ATOM_PLACES (show (["copy","op","store","take","lay","say","if","end"]:List Str).Nodup by decide +kernel) (by simp [RelV]) (fun F=>u5 (.cons (cz l0_ATOM_PLACES e0_ATOM_PLACES f0_ATOM_PLACES r0_ATOM_PLACES (by decide) (by simp [Reps,Rep])) (.cons (cz l1_ATOM_PLACES e1_ATOM_PLACES f1_ATOM_PLACES r1_ATOM_PLACES (by decide) (by simp [Reps,Rep])) (.cons (cz l2_ATOM_PLACES e2_ATOM_PLACES f2_ATOM_PLACES r2_ATOM_PLACES (by decide) (by simp [Reps,Rep])) (.cons (cz l3_ATOM_PLACES e3_ATOM_PLACES f3_ATOM_PLACES r3_ATOM_PLACES (by decide) (by simp [Reps,Rep])) (.cons (cz l4_ATOM_PLACES e4_ATOM_PLACES f4_ATOM_PLACES r4_ATOM_PLACES (by decide) (by simp [Reps,Rep])) (.cons (cz l5_ATOM_PLACES e5_ATOM_PLACES f5_ATOM_PLACES r5_ATOM_PLACES (by decide) (by simp [Reps,Rep])) (.cons (cz l6_ATOM_PLACES e6_ATOM_PLACES f6_ATOM_PLACES r6_ATOM_PLACES (by decide) (by simp [Reps,Rep])) (.cons (cz l7_ATOM_PLACES e7_ATOM_PLACES f7_ATOM_PLACES r7_ATOM_PLACES (by decide) (by simp [Reps,Rep])) .nil))))))))),g_SETTING:=r0 (PySem.W.mg_of X G b_SETTING) l_SETTING e_SETTING f_SETTING r_SETTING (by decide) (fun F=>by simp [Reps,Rep]),k_str:=kd_str,k_bool:=kd_bool,k_int:=kd_int};have D0:DefF K mg "_law_cell_at" y23 ["_law_script","_law_k"]:=a0.df X G fun _ _ _ _ _ _=>el2 fun _ _=>rfl
 have D1:DefF K mg "_law_leads" z35 ["_law_row_here","_law_at"]:=a1.df X G fun _ _ _ _ _ _=>el2 fun _ _=>rfl
 have D2:DefF K mg "_law_most_rows" z11 ["_law_program_here","_law_code"]:=a2.df X G fun _ _ _ _ _ _=>el2 fun _ _=>rfl
 have D3:DefF K mg "_law_digits" z33 ["_law_number","_law_sizes"]:=a3.df X G fun _ _ _ _ _ _=>el2 fun _ _=>rfl
 have D4:DefF K mg "_law_names" z26 ["_law_cell","_law_many"]:=a4.df X G fun _ _ _ _ _ _=>el2 fun _ _=>rfl
 have D5:DefF K mg "_law_atom" y33 ["_law_digit","_law_cell","_law_boxes"]:=a5.df X G fun _ _ _ _ _ _=>el3 fun _ _ _=>rfl
 have D6:DefF K mg "_law_row" z30 ["_law_cell","_law_many","_law_cells","_law_shelves","_law_boxes"]:=a6.df X G fun _ _ _ _ _ _=>el5 fun _ _ _ _ _=>rfl
 have D7:DefF K mg "_law_program" z4 ["_law_script","_law_most","_law_wide"]:=a7.df X G fun _ _ _ _ _ _=>el3 fun _ _ _=>rfl
 have D8:DefF K mg "ways_of" q48 ["number","row"]:=a8.df X G fun _ _ _ _ _ _=>el2 fun _ _=>rfl
 have D9:DefF K mg "ways" ee ["program"]:=a9.df X G fun _ _ _ _ _ _=>el1 fun _=>rfl
 have D10:DefF K mg "gives" z52 ["row"]:=a10.df X G fun _ _ _ _ _ _=>el1 fun _=>rfl
 have D11:DefF K mg "atoms" y52 ["row"]:=a11.df X G fun _ _ _ _ _ _=>el1 fun _=>rfl
 have D12:DefF K mg "reads" z40 ["row"]:=a12.df X G fun _ _ _ _ _ _=>el1 fun _=>rfl
 have D13:DefF K mg "needed_ahead" z14 ["row","behind"]:=a13.df X G fun _ _ _ _ _ _=>el2 fun _ _=>rfl
 have D14:DefF K mg "needed" y24 ["program"]:=a14.df X G fun _ _ _ _ _ _=>el1 fun _=>rfl
 have D15:DefF K mg "plain_names" q28 ["program"]:=a15.df X G fun _ _ _ _ _ _=>el1 fun _=>rfl
 have D16:DefF K mg "rows_by_kind" y19 ["program"]:=a16.df X G fun _ _ _ _ _ _=>el1 fun _=>rfl
 have D17:DefF K mg "rows_led_back_to" z13 ["program"]:=a17.df X G fun _ _ _ _ _ _=>el1 fun _=>rfl
 have D18:DefF K mg "all_places" q13 ["program"]:=a18.df X G fun _ _ _ _ _ _=>el1 fun _=>rfl
 have D19:DefF K mg "kept_rows" z34 ["code"]:=a19.df X G fun _ _ _ _ _ _=>el1 fun _=>rfl
 have D20:DefF K mg "inner_ways" y18 ["program","code"]:=a20.df X G fun _ _ _ _ _ _=>el2 fun _ _=>rfl
 have D21:DefF K mg "longest_piece" z8 ["program","code"]:=a21.df X G fun _ _ _ _ _ _=>el2 fun _ _=>rfl
 have D22:DefF K mg "twins_places" q16 ["program"]:=a22.df X G fun _ _ _ _ _ _=>el1 fun _=>rfl
 have D23:DefF K mg "breath" z24 ["program","code"]:=a23.df X G fun _ _ _ _ _ _=>el2 fun _ _=>rfl
 refine ⟨PySem.W.fnOf "law" "law" (cQ bC) (bP bC) (ac bC) .none kV24 dc24 pm24 an24 cd24 ct24,fun s v=>.of_eq rfl,fun base _ _=>?_⟩;have z12:=z74 (P:=l.prog) (w:=w) (base:=base) T D0;have y53:=q80 (P:=l.prog) (w:=w) (base:=base) T D1;have q38:=z69 (P:=l.prog) (w:=w) (base:=base) T D2 y53;have y16:=y75 (P:=l.prog) (w:=w) (base:=base) T D3;have q25:=q78 (P:=l.prog) (w:=w) (base:=base) T D4 y16;have y30:=z83 (P:=l.prog) (w:=w) (base:=base) T D5;have q62:=q84 (P:=l.prog) (w:=w) (base:=base) T D6 y30 y16;have y46:=y72 (P:=l.prog) (w:=w) (base:=base) T D7 y30 z12 y16 q25 q62;have z66:=z86 (P:=l.prog) (w:=w) (base:=base) T D8;have h_ways:=z89 (P:=l.prog) (w:=w) (base:=base) T D9 z66;have z75:=q88 (P:=l.prog) (w:=w) (base:=base) T D10;have q75:=y87 (P:=l.prog) (w:=w) (base:=base) T D11;have q76:=z87 (P:=l.prog) (w:=w) (base:=base) T D12 q75;have z44:=q74 (P:=l.prog) (w:=w) (base:=base) T D13 z75 q76;have q71:=y86 (P:=l.prog) (w:=w) (base:=base) T D14 h_ways z44;have y48:=q77 (P:=l.prog) (w:=w) (base:=base) T D15;have y44:=q73 (P:=l.prog) (w:=w) (base:=base) T D16 y48;have q35:=y63 (P:=l.prog) (w:=w) (base:=base) T D17 h_ways;have z54:=z80 (P:=l.prog) (w:=w) (base:=base) T D18 q71 y44 q35;have q34:=q81 (P:=l.prog) (w:=w) (base:=base) T D19;have q54:=z79 (P:=l.prog) (w:=w) (base:=base) T D20 q34 h_ways;have y40:=y70 (P:=l.prog) (w:=w) (base:=base) T D21 q54 q34;have z46:=q72 (P:=l.prog) (w:=w) (base:=base) T D22;have y69:=q87 (P:=l.prog) (w:=w) (base:=base) T D23 y40 z46;exact (yp T (nq (st:=bC) l24 c24 k24) z12 q38 q25 y46 z54 y69).imp fun vs H Q E z=>ze z
theorem walk {l:PySem.W.OpenLaw} {q:qb5} {loose:List Str} {XP:(Str->Option Value)->Heap->Prop} {YP:World->Heap->Prop} {d:DefRec} {K:Params->PySem.W.Frag} (hn:l.most=some 63) (hdf:d.params.defaults=[])
  (hY:∀ (w:World) (h:Heap),YP w h->(K w.params).In h) (hT0:∀ w:World,lA (K w.params)=[])
  (F:∀ (w:World) (mg:Str->Option Value) (fa:Addr) (h:Heap),(K w.params).In h->h.Ns qc9 mg->mg d.name=some (.ref fa)→
   ∃ fd:ql1,(∀ (s:qa4) (u:Value),zh5 s fd ⟨[u],[]⟩ [("_law_script",u)])/\∀ base:Heap,(K w.params).In base->base.Ns qc9 mg->FnOk l.prog w (K w.params) mg base CX0 6 fa fd ["_law_script"] (ly (K w.params))) :
  PySem.W.WalkO q loose XP YP l.row.toRowW d [] (fun f vs=>PySem.call f vs):=
 L2.AH (n:=63) (k:=6) (x:="_law_script") (CX:=fun _=>CX0) (sp:=fun w=>ly (K w.params)) hn (by decide) hdf ⟨rfl,by decide,by decide⟩ hY hT0 F (fun _ _ a ns hl hO hS=>⟨a,ns,rfl,hS,hl,hO,fun _=>rfl⟩) fun _ _ _ _ _ z=>z
end P54
open PySem PySem.W PyProof.Rows
local macro_rules | `(tactic| walk_at "f") => `(tactic| (refine' L2.AtF.mk ?za ?zl ?zc ?zk; (case za => k_is); (case zl => k_is); (case zc => k_is); (case zk => k_is)))
set_option maxRecDepth 100000 in
set_option maxHeartbeats 0 in
theorem PySem.Challenge.cw_dimhouse_k54_breath_holds : PySem.Challenge.rw_dimhouse_k54_breath.Holds := by
 w_on;o_law
 refine holds_open (q:=P54.seen) (loose:=[PySem.Str.ofString "ATOM_PLACES"]) (Xt:=fun s=>xlAt P54.seen [] s&&recOk (zg2 (zd8 PySem.Challenge.rw_dimhouse_k54_breath.row)) s) (XP:=XL P54.seen []) (Yf:=Hook.obs P54.hook) (Ya:=Hook.val P54.hook) (YP:=Hook.says P54.hook) (N:=1994) ?hl (Hook.of P54.hook) (Hook.keeps P54.hook) (fun s e=>xl_of s (qt5.mp e).1) XL.keeps (by rfl) (by rfl) (by rfl) (fun s e=>recFacts_of (qt5.mp e).2) (by rfl) (by first | assumption | decide +kernel) (by decide +kernel) ⟨rfl,rfl,rfl,rfl,rfl,by decide +kernel⟩ ?hw ?hc
 case hl=>exact LeftO.of_split "special-get-raises" fun w=>P54.map_two (P54.run_false w) (P54.run_true w)
 case hw=>w_witness2
 delta P54.hook
 k_fill
 refine P54.walk (l:=PySem.Challenge.rw_dimhouse_k54_breath) rfl rfl (fun w h Y=>PySem.W.kIn_of Y) (fun w=>by kernel_rfl) ?F
 case F =>
  intro w mg fa h KX G hmg;refine' P54.all_mk KX G hmg ?a0 ?a1 ?a2 ?a3 ?a4 ?a5 ?a6 ?a7 ?a8 ?a9 ?a10 ?a11 ?a12 ?a13 ?a14 ?a15 ?a16 ?a17 ?a18 ?a19 ?a20 ?a21 ?a22 ?a23 ?a24 ?z_bool ?z_enumerate ?z_int ?z_isinstance ?z_len ?z_list ?z_max ?z_range ?z_set ?z_sorted ?z_str ?z_sum ?z_tuple ?b_ATOM_PLACES ?l_ATOM_PLACES ?e_ATOM_PLACES ?f_ATOM_PLACES ?z_ATOM_PLACES ?l0_ATOM_PLACES ?e0_ATOM_PLACES ?f0_ATOM_PLACES ?r0_ATOM_PLACES ?l1_ATOM_PLACES ?e1_ATOM_PLACES ?f1_ATOM_PLACES ?r1_ATOM_PLACES ?l2_ATOM_PLACES ?e2_ATOM_PLACES ?f2_ATOM_PLACES ?r2_ATOM_PLACES ?l3_ATOM_PLACES ?e3_ATOM_PLACES ?f3_ATOM_PLACES ?r3_ATOM_PLACES ?l4_ATOM_PLACES ?e4_ATOM_PLACES ?f4_ATOM_PLACES ?r4_ATOM_PLACES ?l5_ATOM_PLACES ?e5_ATOM_PLACES ?f5_ATOM_PLACES ?r5_ATOM_PLACES ?l6_ATOM_PLACES ?e6_ATOM_PLACES ?f6_ATOM_PLACES ?r6_ATOM_PLACES ?l7_ATOM_PLACES ?e7_ATOM_PLACES ?f7_ATOM_PLACES ?r7_ATOM_PLACES ?b_SETTING ?l_SETTING ?e_SETTING ?f_SETTING ?r_SETTING ?kd_str ?kd_bool ?kd_int
  (case a0=>walk_at "f")
  (case a1=>walk_at "f")
  (case a2=>walk_at "f")
  (case a3=>walk_at "f")
  (case a4=>walk_at "f")
  (case a5=>walk_at "f")
  (case a6=>walk_at "f")
  (case a7=>walk_at "f")
  (case a8=>walk_at "f")
  (case a9=>walk_at "f")
  (case a10=>walk_at "f")
  (case a11=>walk_at "f")
  (case a12=>walk_at "f")
  (case a13=>walk_at "f")
  (case a14=>walk_at "f")
  (case a15=>walk_at "f")
  (case a16=>walk_at "f")
  (case a17=>walk_at "f")
  (case a18=>walk_at "f")
  (case a19=>walk_at "f")
  (case a20=>walk_at "f")
  (case a21=>walk_at "f")
  (case a22=>walk_at "f")
  (case a23=>walk_at "f")
  (case a24=>walk_at "f")
  (case z_bool | z_enumerate | z_int | z_isinstance | z_len | z_list | z_max | z_range | z_set | z_sorted | z_str | z_sum | z_tuple | b_ATOM_PLACES | l_ATOM_PLACES=>k_is)
  (case e_ATOM_PLACES=>exact ⟨rfl,rfl,rfl⟩)
  (case f_ATOM_PLACES=>rfl)
  (case z_ATOM_PLACES=>rfl)
  (case l0_ATOM_PLACES=>k_is)
  (case e0_ATOM_PLACES=>rfl)
  (case f0_ATOM_PLACES=>rfl)
  (case r0_ATOM_PLACES=>exact (.cons ⟨_,rfl⟩ (.cons ⟨_,rfl⟩ .nil)))
  (case l1_ATOM_PLACES=>k_is)
  (case e1_ATOM_PLACES=>rfl)
  (case f1_ATOM_PLACES=>rfl)
  (case r1_ATOM_PLACES=>exact (.cons ⟨_,rfl⟩ (.cons ⟨_,rfl⟩ .nil)))
  (case l2_ATOM_PLACES=>k_is)
  (case e2_ATOM_PLACES=>rfl)
  (case f2_ATOM_PLACES=>rfl)
  (case r2_ATOM_PLACES=>exact (.cons ⟨_,rfl⟩ (.cons ⟨_,rfl⟩ .nil)))
  (case l3_ATOM_PLACES=>k_is)
  (case e3_ATOM_PLACES=>rfl)
  (case f3_ATOM_PLACES=>rfl)
  (case r3_ATOM_PLACES=>exact (.cons ⟨_,rfl⟩ (.cons ⟨_,rfl⟩ .nil)))
  (case l4_ATOM_PLACES=>k_is)
  (case e4_ATOM_PLACES=>rfl)
  (case f4_ATOM_PLACES=>rfl)
  (case r4_ATOM_PLACES=>exact (.cons ⟨_,rfl⟩ (.cons ⟨_,rfl⟩ .nil)))
  (case l5_ATOM_PLACES=>k_is)
  (case e5_ATOM_PLACES=>rfl)
  (case f5_ATOM_PLACES=>rfl)
  (case r5_ATOM_PLACES=>exact (.cons ⟨_,rfl⟩ (.cons ⟨_,rfl⟩ .nil)))
  (case l6_ATOM_PLACES=>k_is)
  (case e6_ATOM_PLACES=>rfl)
  (case f6_ATOM_PLACES=>rfl)
  (case r6_ATOM_PLACES=>exact (.cons ⟨_,rfl⟩ (.cons ⟨_,rfl⟩ .nil)))
  (case l7_ATOM_PLACES=>k_is)
  (case e7_ATOM_PLACES=>rfl)
  (case f7_ATOM_PLACES=>rfl)
  (case r7_ATOM_PLACES=>exact (.cons ⟨_,rfl⟩ (.cons ⟨_,rfl⟩ .nil)))
  (case b_SETTING | l_SETTING=>k_is)
  (case e_SETTING=>rfl)
  (case f_SETTING=>rfl)
  (case r_SETTING=>exact (.cons ⟨_,rfl⟩ (.cons ⟨_,rfl⟩ (.cons ⟨_,rfl⟩ (.cons ⟨_,rfl⟩ (.cons ⟨_,rfl⟩ .nil))))))
  (case kd_str=>exact fun d hd=>by cases d<;>first | (cases hd;done) | k_is | rfl)
  (case kd_bool=>exact fun d hd=>by cases d<;>first | (cases hd;done) | k_is | rfl)
  (case kd_int=>exact fun d hd=>by cases d<;>first | (cases hd;done) | k_is | rfl)
