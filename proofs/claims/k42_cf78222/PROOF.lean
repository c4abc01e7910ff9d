import PyProof.Rows.All
import KE.KNest
import Wide.All
import OpenK.AllK
import Wide.FinOn
import Lean
import PyProof.EqAt
import PyProof.EqKinds
import PyProof.TupleCall
import PySem.Challenge.RW_dimhouse_k42_boxes_lost
open Array renaming length_toList→qe1,getElem?_eq_getElem→qg3,getElem?_toList→ql4,getElem?_eq_none→qo0,toList_append→qv6,toList_push→qy8
open Bool renaming and_eq_true→qb1,false_ne_true→qb6,false_eq_true→qi0,or_eq_true→qi1,not_eq_true'→qi5,eq_iff_iff→qi9,true_and→qr7,and_eq_false_imp→qt5,and_eq_true_iff→qu4,or_eq_false_iff→qu5,and_true→qu6,and_false→qx2,or_false→qz2,and_self→qz4
open Classical renaming byContradiction→qx3,propDecidable→za2
open False renaming elim→qg2
open ForInStep renaming yield→qo7
open Int renaming toNat_natCast→qd5,emod_lt_of_pos→qe4,emod_nonneg→qf5
open Lean renaming maxHeartbeats→qp1,maxRecDepth→qq7
open List renaming length_map→qa1,map_cons→qa5,mem_cons→qa6,mem_singleton→qb0,getElem?_map→qb3,getD_eq_getElem?_getD→qb4,size_toArray→qb5,range→qc0,mem_append_right→qc1,mem_cons_of_mem→qc3,getElem?_append_left→qc5,mem_of_getElem?→qc7,length_append→qc8,map_map→qc9,mem_range→qd0,mem_map→qd2,mem_cons_self→qd4,getElem?_append_right→qe2,length_filter_le→qe8,getElem?_set_self→qf0,mem_filter→qf2,mem_append→qf9,map_append→qg0,length_cons→qg7,lookup_cons→qg8,mem_append_left→qh0,pairwise_cons→qh1,nodup_cons→qh3,replicate→qh4,getElem?_eq_none_iff→qi8,foldl_cons→qj1,getElem?_replicate→qj4,length_range→qj9,append_nil→qk1,all_eq_true→qk7,not_mem_nil→qk8,length_replicate→ql1,all_cons→ql2,any_cons→ql3,getElem?_of_mem→qm1,append_assoc→qm7,nodup_append→qm8,getElem?_cons_succ→qn4,filter_sublist→qn5,length_singleton→qo5,find?_cons→qo6,nil_append→qo8,reverse_cons→qp8,nodup_iff_pairwise_ne→qp9,getElem?_zip_eq_some→qq4,length→qq8,sum_cons→qs1,filter_cons_of_pos→qs2,filter_cons_of_neg→qs3,pairwise_map→qt0,map_nil→qt4,ext_getElem→qt9,eq_nil_of_length_eq_zero→qu0,any_eq_true→qu1,getElem_mem→qu3,filterMap_cons→qv1,of_mem_zip→qv4,length_eraseIdx_of_lt→qw1,mem_filterMap→qw4,set_cons_zero→qw8,set_cons_succ→qw9,mem_of_find?_eq_some→qx4,pairwise_iff_getElem→qx5,getElem?_eq_getElem→qx7,getElem?_take_of_lt→qx9,take_sublist→qy0,ext_getElem?→qy9,length_eq_zero_iff→za0,length_take→za3,cons_append→za4,pairwise_lt_range→zb0,filter_eq_nil_iff→zb2,find?_cons_of_neg→zb3,length_nil→zc6,getElem?_toArray→zc7,getElem?_eq_none→zd5,dropLast_eq_take→zd6,Perm→zh7
open List.Pairwise renaming nil→qp5,imp→qt1
open List.Perm renaming refl→qx6
open Nat renaming lt_of_lt_of_le→qb7,ne_of_lt→qb8,le_trans→qc4,le_of_lt→qh5,lt_succ_of_lt→qh7,zero_le→qj2,lt_irrefl→qk9,ne_of_gt→ql0,le_refl→qn3,lt_succ_self→qn6,le_succ→qs9,lt_trans→qw6,not_lt→qy2,not_lt_zero→zd2
open Ne renaming symm→qq0
open Option renaming bind_some→qa3,map_some→qo3,isSome_map→qp4,isSome_iff_exists→qr1,bind_eq_some_iff→qr4,map_eq_some_iff→qs4,join_some→qt8
open Option.some renaming inj→qd6,injEq→qs5
open PyProof.Rows renaming callWith_type1→qf4,slot_tuple_getitem→qm5,envOfC→qx8,subscriptTail_builtinR→za7,AllBare→zb6,subscriptTail→zf7
open PyProof.Rows.F renaming plain_set_update_loop→qr9,entry_set_update_loop→qz9
open PySem renaming wpAny_pure→qa2,Shared→qa4,starEach→qa9,sizeLine→qb2,mainGlobals→qb9,Program→qc2,wpAny_newObj_type→qd1,bootBuiltins→qd7,Around→qd8,wpAny_setState_of→qe6,wpAny_callSpecial?_slot→qe7,wpAny_call_entry→qf1,rawInt→qf3,SetTable→qf8,cellsFrom→qg4,compareOp→qg5,wpAny_bind→qg9,behindInMarks→qh9,sysModules→qi2,Arguments→qi3,foldedSetIterable→qi4,wpAny_holding→qi6,wpAny_setField→qi7,Builtin→qj0,wpAny_typeNameOfWhole_keyiter→qj3,wpAny_mono→qj7,wpAny_truthy_bool→qj8,backTo→qk0,wpAny_ite_split→qk3,builtinLookup_eq_fast→ql5,firstArgMember→ql8,binaryOp→qm0,assignEach→qm3,wpAny_passesOwn→qm4,wpAny_typeNameOf_keyiter→qm9,scanBound→qn0,wpAny_askSetting→qn7,wpAny_Call_Name_kw→qo1,NameKind→qo2,swapsWith→qo4,codeAny_builtin→qo9,FuncData→qp2,attributeBase→qp3,codeAny→qq1,codeAmong→qq2,wpAny_fieldsOf→qq5,wpAny_isInstance→qq6,codeAny_mono→qr0,tupleKind_room_in1→qr6,wpAny_attempt→qr8,typeLookup_type→qs0,wpAny_pyIter_list→qs6,wpAny_field→qs7,sliceBounds→qs8,fits_of_scanBound→qt2,wpAny_seqItems→qt3,noFill_tuple_add→qt7,plainId_quiet→qu9,builtinsNs→qv0,wpAny_execs_nil→qv2,letOwnedTupleGo→qv3,wpAny_specialOf→qv5,pyNext→qw2,wpAny_pyIter_tuple→qw3,concat_meets→qw5,Keyword→qx1,wpAny_comprehension_free→qy1,wpAny_pyIter_slot→qy5,wpAny_dictEntries→qy6,BindsTo→qz0,seq_tuple_add→qz1,keywordEach→qz3,wpAny_of_eq→qz5,wpAny_handled→qz6,setField→qz7,relayAll→qz8,setNext→za1,wpAny_pyNext_range_end→za5,wpAny_pyIter_rangeiter→za6,codeAny_compStart_list→za9,TriplesOk→zb5,storeName→zb7,wpAny_storeName_local→zb8,wpAny_isTrue_Compare1→zb9,assign→zc0,holding→zc1,InCallC→zc2,codeAny_call_function→zc3,wpAny_typeOf→zc4,wpAny_dictEpoch→zd0,wpAny_isOneOf_keyiter→zd1,pickOrder→zd3,wpAny_updateSeq→zd4,typeLookup→zd7,closureFor→zd8,compPost→zd9,setEntries→ze0,isSubtype_stop→ze2,isSubtype_type→ze3,IsRangeIter→ze4,sizeLine_eq→ze5,getItem→ze6,subscripted→ze7,valueAt→ze8,wpAny_throw→zf0,tupleKind→zf2,wpAny_standAt→zf3,swapsWithSole→zf4,swappedStores→zf5,bindArgs→zf6,newExc→zf8,raiseNew→zf9,wpAny_call→zg1,callerA→zg2,wpAny_rule→zg3,setsByText→zg4,pyIter→zg6,name_of_addr→zg7,IsPart→zg8,backToKw→zh0,newTuple→zh1,treeTable→zh2,PassesOwn→zh5,DictEntry→zh6
open PySem.Around renaming under_plainId→qm2
open PySem.AutoSeq1 renaming wpAny_loadPart'→qr3
open PySem.Builtin.Dict renaming showsAll→zc9
open PySem.Builtin.Dict_items renaming ownsTuple→qu8
open PySem.Builtin.List renaming listExtendWith→qg6,listLengthHint→qk2,listSameRef→qn1,listTooLong→qr2,listItems→zb1
open PySem.Builtin.Range renaming rangeSize→qc6,rangeFitsLong→qv8
open PySem.Builtin.Slice renaming slicePlaces→ql6,sliceAdjust→qq3,sliceApplied→qw0
open PySem.Builtin.SmallTypes renaming nextOf→ql7
open PySem.Builtin.Str renaming occurrences→qr5
open PySem.Builtin.Tuple renaming tupleExact→qm6
open PySem.Calls renaming Name_function_global→qv9,callWith_builtin→za8
open PySem.F renaming slot_dict_keyiterator_next→qh8,slot_tuple_iterator_next→qk6,called_set→qp0,args_dict_keyiterator_next_1→qt6,entry_dict_keyiterator_next→qu2,args_tuple_iterator_next_1→qu7,entry_tuple_iterator_next→qv7
open PySem.Heap renaming lt_size→qa7,get?_push_size→qa8,get?_update_self→qe3,size_push→qf6,get?_push_of_some→qk4,get?_update_other→qk5,SameBut→qn2,ExtBut→ze9
open PySem.Heap.SameBut renaming update→qe5
open PySem.NameKind renaming free→qd9
open PySem.Obj renaming data_mapFields→qe0,isFreed_of_fields→qh6,mapSeq→qn9,cls_mapFields→qp6,mapFields→qp7
open PySem.PassesOwn renaming never→qd3
open PySem.PyData renaming keyHash→qj5
open PySem.SeqAt renaming EqAt→qg1,RcAt→qy3,RcNeAt→zc8
open PySem.SeqAt.EqAt renaming of_refs→qw7,same→zc5
open PySem.SeqAt.RcAt renaming lists_lengths→qy4
open PySem.SetTable renaming below→qf7,grown→ql9,insertAt→qy7
open PySem.Shared renaming TypeIs→zg0
open PySem.Str renaming ofString→qa0
open PySem.Value renaming ref→qe9,none→qh2,type→qj6,bool→qq9,isStrOf→zf1,int→zh3,str→zh4
open PySem.W.OpenRow renaming toRowW→ze1
open PySem.W.RowW renaming records→zg5
open PySem.pickOrder renaming go→zg9
open Sum renaming inr→qx0,inl→zb4
open True renaming intro→qn8
set_option Elab.async false
set_option linter.all false
namespace P42
open PySem PySem.W PyProof.Rows
section
local macro_rules | `(tactic| o_head $_) => `(tactic| exact (by assumption : ∀ p : Prop, p) _)
set_option maxRecDepth 100000 in
set_option maxHeartbeats 0 in
theorem pre (q:∀ p:Prop,p):PySem.Challenge.rw_dimhouse_k42_boxes_lost.row.Holds:=by k_head
end
def seen:qc2:={PySem.Challenge.pw_dimhouse_k42_boxes_lost with main:={PySem.Challenge.pw_dimhouse_k42_boxes_lost.main with body:=[1,2,3,4,6,7,8,9,10,11,12,14,15,16,17,18,19,20,21,22,24,25,26,27,28,29,30,31,33,34,35,36,37,38,39,40,41,42,43,44,45,46,47].filterMap fun i=>PySem.Challenge.pw_dimhouse_k42_boxes_lost.main.body[i]?}}
noncomputable abbrev hook:Hook:=kmHook P42.pre.heap_1 [2,3,15,17,18,20,21,22,25,26,27,29,30,32,33,34,36,37,39,40,41,42,43,44,45,46,47,48,49,50,51,53,54,56,57,58,60,61,63,64,65,67,68,70,71,72,75,76,77,80,81,82,85,86,87,90,91,92,95,96,97,99,100,102,103,104,107,108,109,111,112,114,115,116,119,120,121,124,125,126,128,129,131,132,133,135,136,138,139,140,143,144,145,147,148,150,151,152,154,155,157,158,159,161,162,164,165,166,169,170,171,173,174,176,177,178,180,181,183,184,185,188,189,190,192,193,195,196,197,200,201,202,204,205,207,208,209,211,212,214,215,216,218,219,221,222,223,226,227,228,231,232,233,236,237,238,241,242,243,246,247] (fun _=>by kernel_rfl) [134,105]
theorem map_two {α β γ:Type} {x:Option α} {f:α→β} {g:α→γ} {a:β} {b:γ} (h:x.map f=some a) (h':x.map g=some b):x.map (fun s=>(f s,g s))=some (a,b):=by
  cases x with
  | none=>cases h
  | some s=>simp only [qo3,qs5] at h h' ⊢;rw [h,h']
set_option maxRecDepth 100000 in
set_option maxHeartbeats 0 in
theorem run_false (w:World):(fencedOpening zh2 PySem.Challenge.rw_dimhouse_k42_boxes_lost.row.prog w 2768).map (fun s₀=>(topFrom zh2 PySem.Challenge.rw_dimhouse_k42_boxes_lost.row.prog (w.withFollow "special-get-raises" false) 2768 s₀).map (fun s=>(openSeen seen [PySem.Str.ofString "ATOM_PLACES"] (importedModules PySem.Challenge.rw_dimhouse_k42_boxes_lost.row.prog.main.body) (fun s=>xlAt seen [] s&&recOk (zg5 (ze1 PySem.Challenge.rw_dimhouse_k42_boxes_lost.row)) s) true s,Hook.obs hook s)))=some (some (openGood seen [PySem.Str.ofString "ATOM_PLACES"],Hook.val hook (w.withFollow "special-get-raises" false))):=by kernel_rfl
set_option maxRecDepth 100000 in
set_option maxHeartbeats 0 in
theorem run_true (w:World):(fencedOpening zh2 PySem.Challenge.rw_dimhouse_k42_boxes_lost.row.prog w 2768).map (fun s₀=>(topFrom zh2 PySem.Challenge.rw_dimhouse_k42_boxes_lost.row.prog (w.withFollow "special-get-raises" true) 2768 s₀).map (fun s=>(openSeen seen [PySem.Str.ofString "ATOM_PLACES"] (importedModules PySem.Challenge.rw_dimhouse_k42_boxes_lost.row.prog.main.body) (fun s=>xlAt seen [] s&&recOk (zg5 (ze1 PySem.Challenge.rw_dimhouse_k42_boxes_lost.row)) s) true s,Hook.obs hook s)))=some (some (openGood seen [PySem.Str.ofString "ATOM_PLACES"],Hook.val hook (w.withFollow "special-get-raises" true))):=by kernel_rfl
end P42
set_option maxRecDepth 100000
set_option maxHeartbeats 4000000
set_option compiler.extract_closed false
open PySem.W renaming Frag→xA9,nsIn→xB9,fnOf→xC9,kia_one→xD9,mg_none_of→xE9,keepIn→xF9,fnX→xG9,codeIn→xH9,tabObj→xI9,codeHdIn→xJ9,mg_of→xK9,kitOne→xL9,kitx_dict→xM9,CodeHd→xN9,instObj→xO9,methodObj→xP9,kitx_list→xQ9,cellsFrom_some→xR9,codeHd_of_K→xS9,OpenLaw→xT9
noncomputable section
theorem bS {α β:Type _} {o:Option α} {f:α->Option β} {b:β} (h:o.bind f=some b):∃ a,o=some a/\f a=some b:=qr4.mp h
theorem mS {α β:Type _} {o:Option α} {f:α->β} {b:β} (h:o.map f=some b):∃ a,o=some a/\f a=b:=qs4.mp h
theorem gX {α:Type _} {l:List α} {i:Nat} {a:α} (h:l[i]?=some a):∃ z:i<l.length,l[i]=a:=List.getElem?_eq_some_iff.mp h
open PySem PySem.Spec PyProof.Rows in abbrev gN := @List.getElem?_set_ne
open PySem PySem.Spec PyProof.Rows in abbrev gP := @Heap.get?_push_of_some
open PySem PySem.Spec PyProof.Rows in abbrev wB := @wpAny_bind
open PySem PySem.Spec PyProof.Rows in abbrev gR := @List.getElem?_append_right
open PySem PySem.Spec PyProof.Rows in abbrev gQ := @List.getElem?_eq_getElem
open PySem PySem.Spec PyProof.Rows in abbrev nL := @Nat.le_refl
set_option maxRecDepth 100000
namespace L2
open PySem PySem.Spec PyProof.Rows
abbrev Key:=Sum Int Str
def jj:Key->Value->Bool
 | .inl k,v=>Value.isInt k v
 | .inr x,v=>zf1 x v
def keyH (w:World):Key->Int
 | .inl k=>hashInt k
 | .inr x=>hashStr w x
theorem bX:∀ {k:Key} {v:Value},jj k v=true->(∃ i t,k=zb4 i/\v=zh3 i t)∨(∃ x t,k=qx0 x/\v=zh4 x t)
 | .inl i,v,h=>by obtain ⟨t,e⟩:=Value.isInt_shape (k:=i) (v:=v) h;exact .inl ⟨i,t,rfl,e⟩
 | .inr x,v,h=>by obtain ⟨t,e⟩:=Value.isStrOf_shape (x:=x) (v:=v) h;exact .inr ⟨x,t,rfl,e⟩
theorem qG (i:Int) (t:Tok):jj (.inl i) (.int i t)=true:=by simp [jj,Value.isInt]
theorem qH (x:Str) (t:Tok):jj (.inr x) (.str x t)=true:=by simp [jj,zf1]
theorem yW (a b:Int):decide ((zb4 a:Key)=zb4 b)=(a==b):=by
 by_cases e:a=b
 . subst e;simp
 . have h:¬ (zb4 a:Key)=zb4 b:=fun q=>e (zb4.inj q)
   rw [decide_eq_false h];exact (beq_eq_false_iff_ne.mpr e).symm
theorem yX (a b:Str):decide ((qx0 a:Key)=qx0 b)=decide (a=b):=by
 by_cases e:a=b
 . subst e;simp
 . have h:¬ (qx0 a:Key)=qx0 b:=fun q=>e (qx0.inj q)
   rw [decide_eq_false h,decide_eq_false e]
theorem yY (a:Int) (b:Str):decide ((zb4 a:Key)=qx0 b)=false:=decide_eq_false (fun q=>nomatch q)
theorem yZ (a:Str) (b:Int):decide ((qx0 a:Key)=zb4 b)=false:=decide_eq_false (fun q=>nomatch q)
noncomputable def bK (prog:qc2) (w:World):PySem.KeyKind prog w Key where
 is:=jj
 hash:=keyH w
 inj:=fun v a b ha Y=>by
  rcases bX ha with ⟨i,t,rfl,rfl⟩ | ⟨x,t,rfl,rfl⟩
  . rcases bX Y with ⟨j,u,rfl,e⟩ | ⟨y,u,rfl,e⟩
    . injection e with q _;rw [q]
    . exact nomatch e
  . rcases bX Y with ⟨j,u,rfl,e⟩ | ⟨y,u,rfl,e⟩
    . exact nomatch e
    . injection e with q _;rw [q]
 byValue:=fun k v h=>by rcases bX h with ⟨i,t,rfl,rfl⟩ | ⟨x,t,rfl,rfl⟩<;>rfl
 pyHash:=fun O h=>by
  rcases bX O with ⟨i,t,rfl,rfl⟩ | ⟨x,t,rfl,rfl⟩
  . exact wpAny_pyHash_int h
  . exact wpAny_pyHash_str h
 eqBool:=fun Z O h=>by
  rcases bX Z with ⟨i,t,rfl,rfl⟩ | ⟨x,t,rfl,rfl⟩
  . rcases bX O with ⟨j,u,rfl,rfl⟩ | ⟨y,u,rfl,rfl⟩
    . rw [yW] at h;exact wpAny_eqBool_int h
    . rw [yY] at h;exact qg1.int_str i t y u _ _ _ _ h
  . rcases bX O with ⟨j,u,rfl,rfl⟩ | ⟨y,u,rfl,rfl⟩
    . rw [yZ] at h;exact qg1.str_int x t j u _ _ _ _ h
    . rw [yX] at h;exact wpAny_eqBool_str h
 «strs»:=fun k x t v h=>by
  rcases bX h with ⟨i,u,rfl,e⟩ | ⟨y,u,rfl,e⟩
  . exact nomatch e
  . injection e with q _;subst q;cases v<;>rfl
theorem ms (prog:qc2) (w:World) (i:Int) (t:Tok):(bK prog w).is (.inl i) (.int i t)=true:=qG i t
theorem fN (prog:qc2) (w:World) (x:Str) (t:Tok):(bK prog w).is (.inr x) (.str x t)=true:=qH x t
inductive V where
 | non | bl (b:Bool) | int (i:Int) | str (x:Str) | byt (b:Array UInt8) | flt (b:UInt64) | ref (a:Addr) | ty (n:String)
 deriving DecidableEq
noncomputable def RelV:V->Value->Prop
 | .non,u=>u=qh2
 | .bl b,u=>u=qq9 b
 | .int i,u=>∃ t,u=zh3 i t
 | .str x,u=>∃ t,u=zh4 x t
 | .byt b,u=>∃ t,u=Value.bytes b t
 | .flt b,u=>∃ t,u=Value.float b t
 | .ref a,u=>u=qe9 a
 | .ty n,u=>u=qj6 n
abbrev Vals:List V->List Value->Prop:=Paired RelV
variable {xs:List V} {us:List Value}
theorem Vals.length (r:Vals xs us):xs.length=us.length:=Paired.length r
theorem Vals.get:∀ {xs:List V} {us:List Value} {i:Nat} {x:V},Vals xs us->xs[i]?=some x->∃ u,us[i]?=some u/\RelV x u
 | _,_,_,_,.nil,e=>by simp at e
 | _,_,0,_,.cons r _,e=>by simp at e;subst e;exact ⟨_,rfl,r⟩
 | _,_,i+1,x,.cons _ t,e=>by obtain ⟨u,h1,h2⟩:=Vals.get (i:=i) (x:=x) t (by simpa using e);exact ⟨u,by simpa using h1,h2⟩
variable {u:Value}
theorem Vals.set {x:V} (r:RelV x u):∀ {xs:List V} {us:List Value} (i:Nat),Vals xs us->Vals (xs.set i x) (us.set i u)
 | _,_,_,.nil=>.nil
 | _,_,0,.cons _ t=>.cons r t
 | _,_,i+1,.cons q t=>.cons q (Vals.set r i t)
theorem Vals.append:∀ {xs ys:List V} {us q:List Value},Vals xs us->Vals ys q->Vals (xs++ys) (us++q)
 | _,_,_,_,.nil,s=>s
 | _,_,_,_,.cons r t,s=>.cons r (Vals.append t s)
theorem Vals.take:∀ {xs:List V} {us:List Value} (n:Nat),Vals xs us->Vals (xs.take n) (us.take n)
 | _,_,0,_=>.nil
 | _,_,_+1,.nil=>.nil
 | _,_,n+1,.cons r t=>.cons r (Vals.take n t)
theorem Vals.drop:∀ {xs:List V} {us:List Value} (n:Nat),Vals xs us->Vals (xs.drop n) (us.drop n)
 | _,_,0,r=>r
 | _,_,_+1,.nil=>.nil
 | _,_,n+1,.cons _ t=>Vals.drop n t
def RelO:Option V->Option Value->Prop
 | some v,some u=>RelV v u
 | none,none=>True
 | _,_=>False
def KV {κ:Type}:List (κ×V)->List (κ×Value)->Prop:=Paired fun (p:κ×V) (q:κ×Value)=>p.1=q.1/\RelV p.2 q.2
def kV:Key->V
 | .inl i=>.int i
 | .inr x=>.str x
inductive HO where
 | lst (xs:List V)
 | tup (xs:List V)
 | dK (kvs:List (Key×V)) | dT (kvs:List (List Key×V))
 | set (S:Int->Bool) (n:Nat)
 | ins (C dx:Addr) (fs:List (Str×V))
 | own (x:Addr)
 | xd (fs:List (Str×V))
 | met (f x:Addr)
 | rng (lo hi:Int)
 | frz (o:Obj) (u:HO)
 | tbl (ps:Array Value)
 | code (q:Str)
 | ctab (qs:List ((Nat×Nat)×Str))
 | ext (φ:Heap->Prop)
abbrev Hp:=Addr->Option HO
def upd (H:Hp) (a:Addr) (o:HO):Hp:=fun b=>if b=a then some o else H b
variable {H:Hp} {a:Addr} {o:HO}
theorem aV:upd H a o a=some o:=by unfold upd;rw [if_pos rfl]
variable {b:Addr}
theorem aH (h:b≠a):upd H a o b=H b:=by unfold upd;rw [if_neg h]
theorem BL {u:HO} (h:H a=some o) (h':H b=some u) (d:o≠u):a≠b:=by intro e;subst e;rw [h] at h';exact d (qd6 h')
theorem bM (h:H a=some o) (h':H b=none):a≠b:=by intro e;subst e;rw [h] at h';cases h'
section
variable (P:qc2) (w:World)
noncomputable def ObjOk (H:Hp) (h:Heap) (a:Addr):HO->Prop
 | .lst xs=>xs.length<=qb2/\∃ (its:List Value) (n:Nat),Vals xs its/\h.get? a=some {cls:=.type "list",data:=.seq its.toArray n}
 | .tup xs=>xs.length<=qb2/\∃ its:List Value,Vals xs its/\IsTup h a its.toArray
 | .dK kvs=>kvs.length<=qb2/\(a==qi2)=false/\∃ vs,KV kvs vs/\h.DictOf (bK P w) a vs
 | .dT kvs=>kvs.length<=qb2/\(a==qi2)=false/\∃ xs:List (List Key×Addr×Value),
     Paired (fun (p:List Key×V) (q:List Key×Addr×Value)=>p.1=q.1/\H q.2.1=some (.tup (p.1.map kV))/\RelV p.2 q.2.2) kvs xs∧
     ∃ o es ep,h.get? a=some o/\o.ExactDict/\o.data=.dict es ep/\es.toList=xs.map (entryOfKey (zf2 (bK P w)))/\(xs.map (·.1)).Nodup
 | .set S n=>h.SetOf (intKind P w) a S n
 | .ins C dx fs=>H dx=some (.own a)/\fs.length<=1000/\dx≠a/\h.get? a=some (xO9 C dx)∧∃ mA,h.Ns1 dx mA/\(∀ f,RelO (fs.lookup f) (mA f))/\PySem.Within mA (fs.map (·.1))
 | .own _=>∃ o,h.get? a=some o
 | .xd fs=>∃ mA,h.Ns1 a mA/\∀ f,RelO (fs.lookup f) (mA f)
 | .rng lo hi=>∃ t u v,h.get? a=some {cls:=.type "range",data:=.fields #[.int lo t,.int hi u,.int 1 v]}
 | .frz o u=>h.get? a=some o/\ObjOk H h a u
 | .tbl ps=>h.get? a=some {cls:=.none,data:=.fields ps}
 | .code q=>h.CodeRec (.ref a) q
 | .ctab qs=>∃ ps:Array Value,h.get? a=some {cls:=.none,data:=.fields ps}/\zb5 ps.toList/\∀ (pos:Pos) (q:Str) (v:Value),((pos.line,pos.col),q)∈qs->qq2 pos ps.toList=some v->∃ c o,v=.ref c/\H c=some (.frz o (.code q))
 | .met f x=>h.get? a=some (xP9 (.ref f) (.ref x))
 | .ext φ=>φ h/\(∃ o,h.get? a=some o)/\∀ h1 h2:Heap,φ h1->(∀ o,h1.get? a=some o->h2.get? a=some o)->φ h2
def HOk (H:Hp) (h:Heap):Prop:=∀ a o,H a=some o->ObjOk P w H h a o
end
section
variable {P:qc2} {w:World} {H H':Hp} {h h':Heap} {a:Addr} {o:HO}
theorem ObjOk.lt (x:ObjOk P w H h a o):a<h.objs.size:=by
 cases o with
 | lst xs=>obtain ⟨_,_,_,_,e⟩:=x;exact qa7 e
 | tup xs=>obtain ⟨_,_,_,p⟩:=x;exact p.lt
 | dK kvs=>obtain ⟨_,_,_,_,o,_,_,e,_⟩:=x;exact qa7 e
 | dT kvs=>obtain ⟨_,_,_,_,o,_,_,e,_⟩:=x;exact qa7 e
 | set S n=>obtain ⟨o,_,_,_,e,_⟩:=x;exact qa7 e
 | ins C dx fs=>obtain ⟨_,_,_,e,_⟩:=x;exact qa7 e
 | own y=>obtain ⟨_,e⟩:=x;exact qa7 e
 | xd fs=>obtain ⟨_,⟨_,_,_,e,_⟩,_⟩:=x;exact qa7 e
 | rng lo hi=>obtain ⟨_,_,_,e⟩:=x;exact qa7 e
 | frz ob u=>obtain ⟨e,_⟩:=x;exact qa7 e
 | tbl ps=>exact qa7 (show h.get? a=some _ from x)
 | code q=>obtain ⟨c,o,vs,t,e,g,_⟩:=x;cases e;exact qa7 g
 | ctab qs=>obtain ⟨ps,g,_⟩:=x;exact qa7 g
 | met f y=>exact qa7 (show h.get? a=some _ from x)
 | ext φ=>obtain ⟨_,⟨_,e⟩,_⟩:=x;exact qa7 e
theorem Paired.mapP {α β:Type} {F G:α->β->Prop}:∀ {q:List α} {O:List β},Paired F q O->(∀ a b,F a b->G a b)->Paired G q O
 | _,_,.nil,_=>.nil
 | _,_,.cons r t,f=>.cons (f _ _ r) (Paired.mapP t f)
theorem ObjOk.stay (x:ObjOk P w H h a o) (k:∀ b u,(b=a∨H b=some (.own a))->h.get? b=some u->h'.get? b=some u)
  (ho:∀ b,H b=some (.own a)->H' b=some (.own a)) (Z:∀ b xs,H b=some (.tup xs)->H' b=some (.tup xs)) (O:∀ b ob q,H b=some (.frz ob (.code q))->H' b=some (.frz ob (.code q))):ObjOk P w H' h' a o:=by
 induction o with
 | lst xs=>obtain ⟨z,its,n,r,e⟩:=x;exact ⟨z,its,n,r,k _ _ (.inl rfl) e⟩
 | tup xs=>obtain ⟨z,its,r,ob,e,c⟩:=x;exact ⟨z,its,r,ob,k _ _ (.inl rfl) e,c⟩
 | dK kvs=>obtain ⟨z,y,vs,r,ob,es,ep,e,c⟩:=x;exact ⟨z,y,vs,r,ob,es,ep,k _ _ (.inl rfl) e,c⟩
 | dT kvs =>obtain ⟨z,y,xs,r,ob,es,ep,e,c⟩:=x;exact ⟨z,y,xs,Paired.mapP r fun p q z=>⟨z.1,Z _ _ z.2.1,z.2.2⟩,ob,es,ep,k _ _ (.inl rfl) e,c⟩
 | set S n=>obtain ⟨ob,es,ep,t,e,c⟩:=x;exact ⟨ob,es,ep,t,k _ _ (.inl rfl) e,c⟩
 | ins C dx fs =>obtain ⟨d,z,ne,e,mA,⟨od,es,ep,e2,c⟩,r⟩:=x;exact ⟨ho _ d,z,ne,k _ _ (.inl rfl) e,mA,⟨od,es,ep,k _ _ (.inr d) e2,c⟩,r⟩
 | own y=>obtain ⟨ob,e⟩:=x;exact ⟨ob,k _ _ (.inl rfl) e⟩
 | xd fs=>obtain ⟨mA,⟨od,es,ep,e,c⟩,r⟩:=x;exact ⟨mA,⟨od,es,ep,k _ _ (.inl rfl) e,c⟩,r⟩
 | rng lo hi=>obtain ⟨t,u,v,e⟩:=x;exact ⟨t,u,v,k _ _ (.inl rfl) e⟩
 | frz ob u ih=>obtain ⟨e,q⟩:=x;exact ⟨k _ _ (.inl rfl) e,ih q⟩
 | tbl ps =>have e:h.get? a=some {cls:=.none,data:=.fields ps}:=x;show h'.get? a=some {cls:=.none,data:=.fields ps};exact k a _ (.inl rfl) e
 | code q=>obtain ⟨c,o,vs,t,e,g,r⟩:=x;cases e;exact ⟨a,o,vs,t,rfl,k a _ (.inl rfl) g,r⟩
 | ctab qs=>obtain ⟨ps,g,Y,r2⟩:=x;exact ⟨ps,k a _ (.inl rfl) g,Y,fun pos q v h1 h2=>let ⟨c,ob,e,g⟩:=r2 pos q v h1 h2;⟨c,ob,e,O c ob q g⟩⟩
 | met f y =>have e:h.get? a=some (xP9 (.ref f) (.ref y)):=x;show h'.get? a=some (xP9 (.ref f) (.ref y));exact k a _ (.inl rfl) e
 | ext φ=>obtain ⟨p,⟨o,e⟩,st⟩:=x;exact ⟨st _ _ p fun o q=>k _ _ (.inl rfl) q,⟨o,k _ _ (.inl rfl) e⟩,st⟩
theorem HOk.lt (x:HOk P w H h) (e:H a=some o):a<h.objs.size:=(x a o e).lt
theorem HOk.fresh (x:HOk P w H h) (e:h.objs.size<=a):H a=none:=by
 cases q:H a with
 | none=>rfl
 | some u=>exact absurd (qb7 (x.lt q) e) (qk9 _)
theorem HOk.kept (x:HOk P w H h) (k:∀ b u,h.get? b=some u->h'.get? b=some u):HOk P w H h':=fun a o e =>(x a o e).stay (fun b u _ q=>k b u q) (fun _ q=>q) (fun _ _ q=>q) fun _ _ _ q=>q
theorem HOk.laid (x:HOk P w H h) (k:∀ b u,h.get? b=some u->h'.get? b=some u) (hp:h.objs.size<=a) (new:ObjOk P w (upd H a o) h' a o):HOk P w (upd H a o) h':=fun b u e=>by
 have O:=x.fresh hp;by_cases Y:b=a
 . subst Y;rw [aV] at e;cases e;exact new
 . rw [aH Y] at e;exact (x b u e).stay (fun c v _ q=>k c v q) (fun c q=>by rw [aH (bM q O)];exact q) (fun c xs q=>by rw [aH (bM q O)];exact q) fun c ob xs q=>by rw [aH (bM q O)];exact q
end
def Rd (H:Hp) (a:Addr) (u:HO):Prop:=H a=some u∨∃ o,H a=some (.frz o u)
theorem Rd.of {u:HO} (h:H a=some u):Rd H a u:=.inl h
variable {P:qc2} {w:World} {h:Heap}
theorem Rd.ok {u:HO} (r:Rd H a u) (x:HOk P w H h):ObjOk P w H h a u:=by
 rcases r with r | ⟨o,r⟩
 . exact x a u r
 . obtain ⟨_,q⟩:=x a _ r;exact q
def Mut:Option HO->Prop
 | some (.lst _)=>True
 | some (.dK _)=>True
 | some (.dT _)=>True
 | some (.set _ _)=>True
 | some (.ins _ _ _)=>True
 | some (.ext _)=>True
 | _=>False
section
variable {P:qc2} {w:World} {H:Hp} {h h':Heap} {x e:Addr} {o':HO}
theorem HOk.write (ok:HOk P w H h) (Z:Mut (H x)) (he:e=x∨H e=some (.own x)) (k:∀ b u,b≠e->h.get? b=some u->h'.get? b=some u) (heo:∃ u,h'.get? e=some u)
  (new:ObjOk P w (upd H x o') h' x o'):HOk P w (upd H x o') h':=fun b u q=>by
 have Y:∀ c y,H c=some (.own y)->c≠x:=fun c y r z=>by subst z;rw [r] at Z;exact Z
 have ntup:∀ c xs,H c=some (.tup xs)->c≠x:=fun c xs r z=>by subst z;rw [r] at Z;exact Z
 have ncod:∀ c ob xs,H c=some (.frz ob (.code xs))->c≠x:=fun c ob xs r z=>by subst z;rw [r] at Z;exact Z
 by_cases hb:b=x
 . subst hb;rw [aV] at q;cases q;exact new
 . rw [aH hb] at q;by_cases O:b=e
   . have q':H b=some (.own x):=by
      rcases he with z | z
      . exact absurd (O.trans z) hb
      . rw [O];exact z
     rw [q] at q';cases q'
     obtain ⟨v,hv⟩:=heo;exact ⟨v,by rw [O];exact hv⟩
   . refine (ok b u q).stay (fun c v hc r=>k c v ?_ r) (fun c r=>by rw [aH (Y c b r)];exact r) (fun c xs r=>by rw [aH (ntup c xs r)];exact r) fun c ob xs r=>by rw [aH (ncod c ob xs r)];exact r
     rcases hc with rfl | hc
     . exact O
     . rintro rfl;rcases he with z | z
       . exact Y c b hc z
       . rw [hc] at z;cases z;exact hb rfl
end
structure Un (fs ex:List Addr) (H H':Hp) (h h':Heap):Prop where
 keep:∀ b o,h.get? b=some o->H b=none->b∉fs->b∉ex->h'.get? b=some o
 slot:∀ b o,h.get? b=some o->H b=none->b∈fs->b∉ex->∃ sl,h'.get? b=some {o with slots:=sl}
 free:∀ b o,h.get? b=some o->H b=none->b∉ex->H' b=none
 there:∀ b o,h.get? b=some o->b∉ex->∃ o',h'.get? b=some o'
 tups:∀ b xs,H b=some (.tup xs)->H' b=some (.tup xs)
 frzs:∀ b o u,H b=some (.frz o u)->H' b=some (.frz o u)
 tbls:∀ b ps,H b=some (.tbl ps)->∃ more,H' b=some (.tbl (ps++more))
 cts:∀ b qs,H b=some (.ctab qs)->H' b=some (.ctab qs)
section
variable {fs fs' ex ex':List Addr} {H H1 H2:Hp} {h h1 h2 h':Heap} {a x e:Addr} {o:HO}
theorem Un.any (u:Un fs ex H H1 h h1) {ob:Obj} (q:h.get? b=some ob) (n:H b=none) (Y:b∉ex):∃ sl,h1.get? b=some {ob with slots:=sl}:=by
 by_cases O:b∈fs
 . exact u.slot b ob q n O Y
 . exact ⟨ob.slots,u.keep b ob q n O Y⟩
theorem Un.kept (k:∀ b u,h.get? b=some u->h'.get? b=some u):Un fs ex H H h h':=⟨fun b ob q _ _ _=>k b ob q,fun b ob q _ _ _=>⟨ob.slots,k b ob q⟩,fun _ _ _ n _=>n,fun b ob q _=>⟨ob,k b ob q⟩,fun _ _ q=>q,fun _ _ _ q=>q,fun _ ps q=>⟨#[],by rw [q];simp⟩,fun _ _ q=>q⟩
theorem Un.refl:Un fs ex H H h h:=Un.kept fun _ _ q=>q
theorem Un.laid (k:∀ b u,h.get? b=some u->h'.get? b=some u) (hp:h.objs.size<=a) (O:H a=none):Un fs ex H (upd H a o) h h' where
 keep:=fun b u q _ _ _=>k b u q
 slot:=fun b u q _ _ _=>⟨u.slots,k b u q⟩
 free:=fun b u q n _=>by rw [aH (qb8 (qb7 (qa7 q) hp))];exact n
 there:=fun b u q _=>⟨u,k b u q⟩
 tups:=fun b xs q=>by rw [aH (bM q O)];exact q
 frzs:=fun b u xs q=>by rw [aH (bM q O)];exact q
 tbls:=fun b ps q=>⟨#[],by rw [aH (bM q O),q];simp⟩
 cts:=fun b qs q=>by rw [aH (bM q O)];exact q
theorem Un.write (Y:Mut (H x)) (he:e=x∨H e=some (.own x)) (k:∀ b u,b≠e->h.get? b=some u->h'.get? b=some u) (heo:∃ u,h'.get? e=some u):Un fs ex H (upd H x o) h h':=by
 have hx:∀ b,H b=none->b≠x:=fun b n z=>by subst z;rw [n] at Y;exact Y
 have hb:∀ b,H b=none->b≠e:=fun b n z=>by
  subst z;rcases he with r | r
  . exact hx b n r
  . rw [n] at r;cases r
 have Z:∀ b u,H b=some u->¬ Mut (some u)->b≠x:=fun b u q nm z=>by subst z;rw [q] at Y;exact nm Y
 refine ⟨fun b u q n _ _=>k b u (hb b n) q,fun b u q n _ _=>⟨u.slots,k b u (hb b n) q⟩,fun b u q n _=>by rw [aH (hx b n)];exact n,fun b u q _=>?_,fun b xs q=>by rw [aH (Z b _ q fun z=>z)];exact q,fun b u xs q=>by rw [aH (Z b _ q fun z=>z)];exact q,fun b ps q=>⟨#[],by rw [aH (Z b _ q fun z=>z),q];simp⟩,fun b xs q=>by rw [aH (Z b _ q fun z=>z)];exact q⟩
 by_cases O:b=e
 . subst O;exact heo
 . exact ⟨u,k b u O q⟩
end
def trk (h:Heap) (H:Hp):List Addr:=(qc0 h.objs.size).filter fun a=>(H a).isSome
def j7 (h:Heap) (H:Hp):Heap:=PySem.W.hideAll h (trk h H)
theorem qI (h:Heap) (H:Hp):(j7 h H).objs.size=h.objs.size:=PySem.W.hideAll_size _ _
theorem sk {o:Obj} (e:h.get? b=some o) (n:H b=none):(j7 h H).get? b=some o:=PySem.W.hideAll_get _ e fun O=>by have q:(H b).isSome=true:=(qf2.mp O).2;rw [n] at q;simp at q
theorem vA {o:Obj} (e:(j7 h H).get? b=some o):h.get? b=some o/\H b=none:=by
 have O:h.get? b=some o:=PySem.W.of_hideAll (trk h H) e;refine ⟨O,?_⟩;cases q:H b with
 | none=>rfl
 | some x =>have Y:b∈trk h H:=qf2.mpr ⟨qd0.mpr (qa7 O),by simp [q]⟩;have z:(j7 h H).get? b=none:=PySem.W.hideAll_none (trk h H) Y;rw [z] at e;cases e
def vC (g h:Heap) (L:Addr):List (Addr×Obj):=(qc0 h.objs.size).filterMap fun a=>if a=L∨(g.get? a).isSome=true then none else (h.get? a).map fun o=>(a,o)
def rest (g h:Heap) (L d:Addr):List (Addr×Obj):=(vC g h L).filter fun p=>decide (p.1≠d)
def nestNames:List Str:=["way_to_reading","spoilt"]
def mt (x:Str) (ss:List Stmt):List ((Nat×Nat)×Str):=ss.filterMap fun st=>match st with
 | .FunctionDef name _ _ _ _ _ _ _ _ pos=>some ((pos.line,pos.col),x++".<locals>."++name)
 | _=>none
noncomputable def nW (K:xA9) (x:Str):Option (Addr×List ((Nat×Nat)×Str)):=match PySem.W.tabIn K x with
 | some (_,P)=>(match xB9 K qb9 x with
  | some (some (.ref f))=>(match K.lookup f with
   | some o=>(match o.data with
    | .func fd=>(match fd.body with
     | .stmts b=>some (P,mt x b)
     | _=>none)
    | _=>none)
   | none=>none)
  | _=>none)
 | none=>none
def dE (K:xA9):List (Addr×List ((Nat×Nat)×Str)):=nestNames.filterMap (nW K)
structure Mod (K:xA9) (mg:Str->Option Value) (base:Heap):Prop where
 kin:K.In base
 glob:base.Ns qb9 mg
 blt:∃ mb,base.Ns qv0 mb/\∀ x:Str,x≠"__name__"->mb x=qd7 x
 nolimit:base.NoLimit
structure Cx where
 prog:qc2
 w:World
 K:xA9
 mg:Str->Option Value
 base:Heap
 A:qd8
 N:List Str
 s₀:qa4
 H₀:Hp
 env:Env
 outer:List Env
 stack:List Env
 ex:List Addr
 fn:Str->Bool
 calm:Bool
 pn:List (Addr×Obj)
 xe:Value->qa4->Prop
def frs (l:List Env):List Addr:=l.filterMap (·.frame)
abbrev Cx.fs (X:Cx):List Addr:=frs X.outer
def Vis (sc:Scope) (x:Str):Prop:=sc.names.lookup x=some .local∨sc.names.lookup x=some .cell∨sc.names.lookup x=some .free
def Loc (sc:Scope) (x:Str):Prop:=sc.names.lookup x=some .local∨sc.names.lookup x=some .cell
noncomputable def Look (env:Env) (h:Heap) (m:Str->Option Value) (x:Str) (u:Value):Prop:=(env.kindOf x=some .local/\m x=some u)∨((env.kindOf x=some .cell∨env.kindOf x=some .free)/\∃ c,env.cells.lookup x=some c/\h.IsCell c (some u))
structure Cx.Ok (X:Cx):Prop where
 mod:Mod X.K X.mg X.base
 kind:X.env.scope.kind=.function
 glob:X.env.globals=qb9
 blt:X.env.builtins=qv0
 above:X.s₀.heap.objs.size<=X.env.locals
 inj:∀ x y c,X.env.cells.lookup x=some c->X.env.cells.lookup y=some c->x=y
 has:∀ x,(X.env.kindOf x=some .cell∨X.env.kindOf x=some .free)->∃ c,X.env.cells.lookup x=some c
 cab:∀ x c,X.fn x=true->X.env.cells.lookup x=some c->X.s₀.heap.objs.size<=c
 hd:X.calm=true->X.A.handled=none
 frames:X.A.frames=some X.stack
 stk:X.stack=X.outer∨(X.stack=X.env::X.outer/\X.env.frame=some X.env.locals)
 exf:∀ b∈X.ex,b≠X.env.locals/\∀ x c,X.env.cells.lookup x=some c->c≠b
 bs:∀ b o,X.base.get? b=some o->X.s₀.heap.get? b=some o/\X.H₀ b=none
 bsz:X.base.objs.size<=X.s₀.heap.objs.size
 noex:∀ b o,X.base.get? b=some o->b∉X.ex
 exfs:∀ b∈X.ex,b∉X.fs
 funs:X.s₀.heap.FunFrames X.base X.outer
 frf:∀ b∈X.fs,X.H₀ b=none
 tb:∀ p∈dE X.K,X.H₀ p.1=some (.ctab p.2)
structure Inv (X:Cx) (pins:List (Addr×Obj)) (σ:List (Option V)) (H:Hp) (s:qa4):Prop where
 ok:X.Ok
 os:s.os=X.s₀.os
 bare:zb6 s.gens
 base:Un X.fs X.ex X.H₀ H X.s₀.heap s.heap
 loc:∃ m,s.heap.Ns X.env.locals m/\∀ (i:Nat) (x:Str) (v:V),X.N[i]?=some x->σ[i]?=some (some v)->Vis X.env.scope x->∃ u,RelV v u/\Look X.env s.heap m x u
 cell:∀ x c,X.env.cells.lookup x=some c->∃ v,s.heap.IsCell c v
 free:H X.env.locals=none
 freeC:∀ x c,X.env.cells.lookup x=some c->H c=none
 pin:∀ p∈X.pn++pins,s.heap.get? p.1=some p.2/\H p.1=none/\p.1≠X.env.locals/\p.1∉X.fs/\∀ v,p.2.data≠.cell v
 hok:HOk X.prog X.w H s.heap
 len:σ.length=X.N.length
variable {g':Array GenState} {t' i j:Nat} {d':Drawn} {ch:List Addr} {it:Addr} {N:List Str} {x:Str} {M:Model} {A:qd8} {E:Value->qa4->Prop} {v:V} {Q:Unit->qa4->Prop} {s':qa4}
section
variable {X:Cx} {pins:List (Addr×Obj)} {σ:List (Option V)} {H H':Hp} {s:qa4} {h':Heap}
theorem Cx.Ok.nofr (ok:X.Ok) {o:Obj} (e:X.base.get? b=some o):b∉X.fs:=fun q=>by have:=(ok.funs.mem q).1;rw [e] at this;cases this
theorem Inv.bs (I:Inv X pins σ H s):∀ b o,X.base.get? b=some o->s.heap.get? b=some o/\H b=none:=fun b o e =>⟨I.base.keep b o (I.ok.bs b o e).1 (I.ok.bs b o e).2 (I.ok.nofr e) (I.ok.noex b o e),I.base.free b o (I.ok.bs b o e).1 (I.ok.bs b o e).2 (I.ok.noex b o e)⟩
theorem Inv.bk (I:Inv X pins σ H s):∀ b o,X.base.get? b=some o->s.heap.get? b=some o:=fun b o e=>(I.bs b o e).1
theorem Inv.mod (I:Inv X pins σ H s):Mod X.K X.mg X.base:=I.ok.mod
theorem Inv.kIn (I:Inv X pins σ H s):X.K.In s.heap:=I.ok.mod.kin.keeps I.bk
theorem Inv.fr (I:Inv X pins σ H s):∃ m,Fr X.base X.env.locals s.heap m:=
 let ⟨m,hn,_⟩:=I.loc
 ⟨m,hn,I.bk,qc4 I.ok.bsz I.ok.above⟩
theorem Inv.lt (I:Inv X pins σ H s):X.env.locals<s.heap.objs.size:=let ⟨_,hn,_⟩:=I.loc;hn.lt
theorem Inv.sz (I:Inv X pins σ H s):X.s₀.heap.objs.size<=s.heap.objs.size:=qc4 I.ok.above (qh5 I.lt)
theorem Inv.nofs (I:Inv X pins σ H s) (h:s.heap.objs.size<=a):a∉X.fs:=fun q=>by obtain ⟨_,o,O,_⟩:=I.ok.funs.mem q;exact absurd (qb7 (qa7 O) (qc4 I.sz h)) (qk9 _)
theorem Inv.cne (I:Inv X pins σ H s):∀ x c,X.env.cells.lookup x=some c->c≠X.env.locals:=fun x c e z=>by obtain ⟨v,o,Z,Y⟩:=I.cell x c e;obtain ⟨m,⟨o',es,ep,O,q,_⟩,_⟩:=I.loc;rw [z,O] at Z;cases Z;rw [q] at Y;cases Y
theorem Inv.funs (I:Inv X pins σ H s):s.heap.FunFrames X.base X.outer:=by
 have all:∀ (l:List Env),(∀ b∈frs l,b∈X.fs)->X.s₀.heap.FunFrames X.base l->s.heap.FunFrames X.base l:=by
  intro l;induction l with
  | nil=>intro _ _;trivial
  | cons env r ih =>
   intro Z hl;obtain ⟨hk,⟨L,o,Y,hn,ho,hd⟩,hr⟩:=hl;have q:L∈X.fs:=Z L (by unfold frs;rw [qv1,Y];exact qd4);obtain ⟨sl,e⟩:=I.base.slot L o ho (I.ok.frf L q) q fun z=>I.ok.exfs L z q
   exact ⟨hk,⟨L,_,Y,hn,e,hd⟩,ih (fun b O=>Z b (by unfold frs;rw [qv1,Y];exact qc3 _ O)) hr⟩
 exact all X.outer (fun _ O=>O) I.ok.funs
theorem Inv.stack (I:Inv X pins σ H s):s.heap.FunFrames X.base X.stack:=by
 rcases I.ok.stk with e | ⟨e,O⟩
 . rw [e];exact I.funs
 . rw [e];obtain ⟨m,q,_⟩:=I.loc;refine .cons (by rw [I.ok.kind];decide) O q ?_ I.funs;exact Heap.get?_none_of_le (qc4 I.ok.bsz I.ok.above)
theorem Inv.stkSub (I:Inv X pins σ H s):∀ b∈frs X.stack,b∈X.env.locals::X.fs:=fun b q=>by
 rcases I.ok.stk with e | ⟨e,O⟩
 . rw [e] at q;exact qc3 _ q
 . rw [e] at q;unfold frs at q;rw [qv1,O] at q;exact q
theorem Inv.stkFree (I:Inv X pins σ H s):∀ b∈frs X.stack,H b=none:=fun b q=>by
 rcases qa6.mp (I.stkSub b q) with e | q
 . rw [e];exact I.free
 . obtain ⟨_,o,O,_⟩:=I.ok.funs.mem q;exact I.base.free b o O (I.ok.frf b q) fun z=>I.ok.exfs b z q
theorem Inv.step (I:Inv X pins σ H s)
 (Z:∀ b∈ch,(b∈X.ex∨X.s₀.heap.objs.size<=b)/\b≠X.env.locals/\(∀ x c,X.env.cells.lookup x=some c->c≠b)/\∀ p∈X.pn++pins,p.1≠b)
 (keep:∀ b o,b≠X.env.locals->b∉X.fs->b∉ch->s.heap.get? b=some o->H b=none->h'.get? b=some o)
 (slot:∀ b o,b≠X.env.locals->b∈X.fs->b∉ch->s.heap.get? b=some o->H b=none->∃ sl,h'.get? b=some {o with slots:=sl}) (free:∀ b o,b∉ch->s.heap.get? b=some o->H b=none->H' b=none)
 (there:∀ b o,b∉ch->s.heap.get? b=some o->∃ o',h'.get? b=some o')
 (tups:∀ b xs,H b=some (.tup xs)->H' b=some (.tup xs)) (frzs:∀ b o u,H b=some (.frz o u)->H' b=some (.frz o u)) (tbls:∀ b ps,H b=some (.tbl ps)->∃ more,H' b=some (.tbl (ps++more))) (cts:∀ b qs,H b=some (.ctab qs)->H' b=some (.ctab qs))
 (ns:∀ m,s.heap.Ns X.env.locals m->h'.Ns X.env.locals m) (hok:HOk X.prog X.w H' h') (hg:zb6 g') :
  Inv X pins σ H' {s with heap:=h',gens:=g',drawn:=d',toks:=t'}:=by
 have neL:∀ b o,X.s₀.heap.get? b=some o->b≠X.env.locals:=fun b o e=>qb8 (qb7 (qa7 e) I.ok.above)
 have neC:∀ b o,X.s₀.heap.get? b=some o->b∉X.ex->b∉ch:=fun b o e O hb=>by
  rcases (Z b hb).1 with z | z
  . exact O z
  . exact absurd (qb7 (qa7 e) z) (qk9 _)
 have cellK:∀ x c,X.env.cells.lookup x=some c->∀ v,s.heap.IsCell c v->h'.IsCell c v:=fun x c e v ⟨o,ho,hd⟩=>by
  have Y:c∉ch:=fun z=>(Z c z).2.2.1 x c e rfl
  by_cases hc:c∈X.fs
  . obtain ⟨sl,q⟩:=slot c o (I.cne x c e) hc Y ho (I.freeC x c e);exact ⟨_,q,hd⟩
  . exact ⟨o,keep c o (I.cne x c e) hc Y ho (I.freeC x c e),hd⟩
 refine ⟨I.ok,I.os,hg,⟨fun b o e n hb O=>?_,fun b o e n hb O=>?_,fun b o e n O=>?_,fun b o e O=>?_,fun b xs e=>tups b xs (I.base.tups b xs e),fun b o xs e=>frzs b o xs (I.base.frzs b o xs e),fun b ps e=>?_,fun b qs e=>cts b qs (I.base.cts b qs e)⟩,?_,fun x c e=>?_,?_,fun x c e=>?_,fun p hp=>?_,hok,I.len⟩
 . exact keep b o (neL b o e) hb (neC b o e O) (I.base.keep b o e n hb O) (I.base.free b o e n O)
 . obtain ⟨sl,e1⟩:=I.base.slot b o e n hb O;obtain ⟨sl',e2⟩:=slot b _ (neL b o e) hb (neC b o e O) e1 (I.base.free b o e n O);exact ⟨sl',e2⟩
 . obtain ⟨o',e1⟩:=I.base.there b o e O;exact free b o' (neC b o e O) e1 (I.base.free b o e n O)
 . obtain ⟨o',e1⟩:=I.base.there b o e O;exact there b o' (neC b o e O) e1
 . obtain ⟨m1,e1⟩:=I.base.tbls b ps e;obtain ⟨m2,e2⟩:=tbls b _ e1;exact ⟨m1++m2,by rw [e2,Array.append_assoc]⟩
 . obtain ⟨m,hn,hl⟩:=I.loc;refine ⟨m,ns m hn,fun i x v e1 e2 e3=>?_⟩;obtain ⟨u,r,l⟩:=hl i x v e1 e2 e3;refine ⟨u,r,?_⟩;rcases l with l | ⟨k,c,e,z⟩
   . exact .inl l
   . exact .inr ⟨k,c,e,cellK x c e _ z⟩
 . obtain ⟨v,z⟩:=I.cell x c e;exact ⟨v,cellK x c e v z⟩
 . obtain ⟨m,⟨o,_,_,ho,_⟩,_⟩:=I.loc;exact free _ o (fun z=>(Z _ z).2.1 rfl) ho I.free
 . obtain ⟨v,o,ho,hd⟩:=I.cell x c e;exact free c o (fun z=>(Z c z).2.2.1 x c e rfl) ho (I.freeC x c e)
 . obtain ⟨e,n,ne,nf,d⟩:=I.pin p hp;have Y:p.1∉ch:=fun z=>(Z p.1 z).2.2.2 p hp rfl
   exact ⟨keep p.1 p.2 ne nf Y e n,free p.1 p.2 Y e n,ne,nf,d⟩
theorem Inv.un (I:Inv X pins σ H s) (u:Un X.fs [] H H' s.heap h') (Z:HOk X.prog X.w H' h'):Inv X pins σ H' {s with heap:=h',toks:=t'}:=by
 obtain ⟨m,⟨o,es,ep,ho,r⟩,_⟩:=id I.loc;obtain ⟨sl,hL⟩:=u.any ho I.free (by simp)
 exact I.step (g':=s.gens) (d':=s.drawn) (ch:=[]) (fun _ z=>nomatch z) (fun b o _ Y _ e n=>u.keep b o e n Y (by simp)) (fun b o _ Y _ e n=>u.slot b o e n Y (by simp)) (fun b o _ e n=>u.free b o e n (by simp)) (fun b o _ e=>u.there b o e (by simp)) u.tups u.frzs u.tbls u.cts (fun m' hm=>by
  obtain ⟨o',O,ep',q,r'⟩:=hm;rw [ho] at q;cases q
  exact ⟨_,O,ep',hL,r'⟩) Z I.bare
theorem Inv.call {ch:List Addr} (I:Inv X pins σ H s) (u:Un (frs X.stack) ch H H' s.heap h') (hok:HOk X.prog X.w H' h') (hg:zb6 g')
 (O:∀ b∈ch,(b∈X.ex∨X.s₀.heap.objs.size<=b)/\b≠X.env.locals/\(∀ x c,X.env.cells.lookup x=some c->c≠b)/\∀ p∈X.pn++pins,p.1≠b) :
  Inv X pins σ H' {s with heap:=h',gens:=g',drawn:=d',toks:=t'}:=by
 obtain ⟨m,⟨o,es,ep,ho,r⟩,_⟩:=id I.loc;obtain ⟨sl,hL⟩:=u.any ho I.free fun z=>(O _ z).2.1 rfl
 exact I.step (ch:=ch) O (fun b o hL hb q e n=>u.keep b o e n (fun z=>(qa6.mp (I.stkSub b z)).elim hL hb) q) (fun b o _ _ q e n=>u.any e n q) (fun b o q e n=>u.free b o e n q) (fun b o q e=>u.there b o e q) u.tups u.frzs u.tbls u.cts (fun m' hm=>by
  obtain ⟨o',Z,ep',Y,r'⟩:=hm;rw [ho] at Y;cases Y
  exact ⟨_,Z,ep',hL,r'⟩) hok hg
theorem Inv.turned (I:Inv X pins σ H s) (k:∀ b o,b≠it->s.heap.get? b=some o->h'.get? b=some o) (hn:H it=none) (Z:it≠X.env.locals)
 (h1:it∈X.ex∨X.s₀.heap.objs.size<=it) (h2:∀ x c,X.env.cells.lookup x=some c->c≠it) (h3:∀ p∈X.pn++pins,p.1≠it):Inv X pins σ H {s with heap:=h',toks:=t'}:=by
 have Y:∀ b u,H b=some u->b≠it:=fun b u e z=>by rw [z,hn] at e;cases e
 refine I.step (g':=s.gens) (d':=s.drawn) (ch:=[it]) (fun b hb=>?_) (fun b o _ _ O e _=>k b o (fun z=>O (by simp [z])) e) (fun b o _ _ O e _=>⟨o.slots,k b o (fun z=>O (by simp [z])) e⟩) (fun _ _ _ _ n=>n)
  (fun b o O e=>⟨o,k b o (fun z=>O (by simp [z])) e⟩) (fun _ _ e=>e) (fun _ _ _ e=>e) (fun b ps e=>⟨#[],by rw [e];simp⟩) (fun _ _ e=>e) (fun m hm=>?_) (fun b u e=>?_) I.bare
 . have e:b=it:=by simpa using hb
   subst e;exact ⟨h1,Z,h2,h3⟩
 . obtain ⟨o,es,ep,ho,r⟩:=hm;exact ⟨o,es,ep,k _ o (qq0 Z) ho,r⟩
 . refine (I.hok b u e).stay (fun c v O q=>k c v ?_ q) (fun _ q=>q) (fun _ _ q=>q) fun _ _ _ q=>q
   rcases O with z | z
   . rw [z];exact Y b u e
   . exact Y c _ z
theorem Inv.tok (I:Inv X pins σ H s) (t:Nat):Inv X pins σ H {s with toks:=t}:=I.un (h':=s.heap) (t':=t) Un.refl I.hok
theorem Inv.kept (I:Inv X pins σ H s) (k:∀ b u,s.heap.get? b=some u->h'.get? b=some u):Inv X pins σ H {s with heap:=h',toks:=t'}:=I.un (Un.kept k) (I.hok.kept k)
theorem Inv.laid (I:Inv X pins σ H s) (k:∀ b u,s.heap.get? b=some u->h'.get? b=some u) (hp:s.heap.objs.size<=a) (new:ObjOk X.prog X.w (upd H a o) h' a o) :
  Inv X pins σ (upd H a o) {s with heap:=h',toks:=t'}:=I.un (Un.laid k hp (I.hok.fresh hp)) (I.hok.laid k hp new)
theorem Inv.write {x e:Addr} (I:Inv X pins σ H s) (O:Mut (H x)) (Y:e=x∨H e=some (.own x)) (k:∀ b u,b≠e->s.heap.get? b=some u->h'.get? b=some u) (q:∃ u,h'.get? e=some u) (new:ObjOk X.prog X.w (upd H x o) h' x o):Inv X pins σ (upd H x o) {s with heap:=h',toks:=t'}:=I.un (Un.write O Y k q) (I.hok.write O Y k q new)
theorem Inv.weak {q:List (Option V)} (I:Inv X pins σ H s) (hl:q.length=σ.length) (w:∀ (i:Nat) v,q[i]?=some (some v)->σ[i]?=some (some v)):Inv X pins q H s:=⟨I.ok,I.os,I.bare,I.base,let ⟨m,hn,hl'⟩:=I.loc;⟨m,hn,fun i x v Y Z O=>hl' i x v Y (w i v Z) O⟩,I.cell,I.free,I.freeC,I.pin,I.hok,hl.trans I.len⟩
theorem Inv.pins_of {q:List (Addr×Obj)} (I:Inv X pins σ H s) (h:∀ p∈q,s.heap.get? p.1=some p.2/\H p.1=none/\p.1≠X.env.locals/\p.1∉X.fs/\∀ v,p.2.data≠.cell v):Inv X q σ H s:=⟨I.ok,I.os,I.bare,I.base,I.loc,I.cell,I.free,I.freeC,fun p hp=>(qf9.mp hp).elim (fun z=>I.pin p (qh0 _ z)) (h p),I.hok,I.len⟩
theorem mw (q:N.Nodup) (a:N[i]?=some x) (b:N[j]?=some x):i=j:=by obtain ⟨h1,O⟩:=gX a;obtain ⟨h2,Y⟩:=gX b;exact (List.getElem_inj q).mp (O.trans Y.symm)
theorem kl (I:Inv X pins σ H s) (hN:X.N.Nodup) (hi:X.N[i]?=some x) (hx:Loc X.env.scope x) (r:RelV v u)
 (h:∀ s',Inv X pins (σ.set i (some v)) H s'->(∃ a,qn2 a s.heap s'.heap/\(a=X.env.locals∨X.env.cells.lookup x=some a))->Q () s') (hf:X.fn x=true∨X.env.scope.names.lookup x=some .local:=by first | exact .inl rfl | exact .inr rfl | assumption):wpAny M A (zb7 X.env x u) Q E s:=by
 obtain ⟨m,hn,hl⟩:=id I.loc;have hcls:(X.env.scope.kind==.class||(X.env.scope.kind==.module&&X.env.locals != X.env.globals))=false:=by rw [I.ok.kind];rfl
 have hiσ:i<σ.length:=by rw [I.len];exact (gX hi).1
 have cne:=I.cne
 have Y:∀ {a:Addr} {h':Heap},(∃ o,s.heap.get? a=some o/\H a=none)->qn2 a s.heap h'->HOk X.prog X.w H h':=fun {a h'} ha O b ob e=>by
  obtain ⟨_,_,hfree⟩:=ha;refine (I.hok b ob e).stay (fun c w' hc q=>(O.2 c ?_).trans q) (fun _ q=>q) (fun _ _ q=>q) fun _ _ _ q=>q
  rintro rfl;rcases hc with rfl | hc
  . rw [hfree] at e;cases e
  . rw [hfree] at hc;cases hc
 rcases hx with hk | hk
 . refine zb8 hk hn (fun h' hn' O=>?_) hcls;obtain ⟨oL,_,_,hoL,_⟩:=id hn;refine h _ ⟨I.ok,I.os,I.bare,⟨fun b o e n hb hx=>?_,fun b o e n hb hx=>?_,I.base.free,fun b o e hx=>?_,I.base.tups,I.base.frzs,I.base.tbls,I.base.cts⟩,⟨_,hn',fun j y v' Z e2 e3=>?_⟩,fun y c e=>?_,I.free,I.freeC,fun p hp=>?_,Y ⟨oL,hoL,I.free⟩ O,by simpa using I.len⟩ ⟨_,O,.inl rfl⟩
   . exact (O.2 b (qb8 (qb7 (qa7 e) I.ok.above))).trans (I.base.keep b o e n hb hx)
   . obtain ⟨sl,Z⟩:=I.base.slot b o e n hb hx;exact ⟨sl,(O.2 b (qb8 (qb7 (qa7 e) I.ok.above))).trans Z⟩
   . obtain ⟨o',Z⟩:=I.base.there b o e hx;exact ⟨o',(O.2 b (qb8 (qb7 (qa7 e) I.ok.above))).trans Z⟩
   . by_cases hj:j=i
     . subst hj;rw [hi] at Z;cases Z
       rw [qf0 hiσ] at e2;cases e2;exact ⟨u,r,.inl ⟨hk,by simp⟩⟩
     . rw [gN (qq0 hj)] at e2;obtain ⟨u',r',q⟩:=hl j y v' Z e2 e3;refine ⟨u',r',?_⟩;rcases q with ⟨k,e⟩ | ⟨k,c,e,z⟩
       . refine .inl ⟨k,?_⟩;have:y≠x:=fun e=>hj (mw hN Z (e▸hi))
         simp [this,e]
       . exact .inr ⟨k,c,e,z.sameBut O (cne y c e)⟩
   . obtain ⟨w',z⟩:=I.cell y c e;exact ⟨w',z.sameBut O (cne y c e)⟩
   . obtain ⟨e,n,ne,nf,d⟩:=I.pin p hp;exact ⟨(O.2 p.1 ne).trans e,n,ne,nf,d⟩
 . have hfn:X.fn x=true:=by
    rcases hf with z | z
    . exact z
    . rw [z] at hk;cases hk
   obtain ⟨c,hc⟩:=I.ok.has x (.inl hk);obtain ⟨w',z⟩:=I.cell x c hc;refine wpAny_storeName_cell I.ok.kind hk hc z (fun h' hc' O=>?_);obtain ⟨oc,hoc,hocd⟩:=id z;refine h {s with heap:=h'} ⟨I.ok,I.os,I.bare,⟨fun b o e n hb hx=>?_,fun b o e n hb hx=>?_,I.base.free,fun b o e hx=>?_,I.base.tups,I.base.frzs,I.base.tbls,I.base.cts⟩,⟨m,hn.sameBut O (qq0 (cne x c hc)),fun j y v' Z e2 e3=>?_⟩,fun y c' e=>?_,I.free,I.freeC,fun p hp=>?_,Y ⟨oc,hoc,I.freeC x c hc⟩ O,by simpa using I.len⟩ ⟨c,O,.inr hc⟩
   . exact (O.2 b (qb8 (qb7 (qa7 e) (I.ok.cab x c hfn hc)))).trans (I.base.keep b o e n hb hx)
   . obtain ⟨sl,Z⟩:=I.base.slot b o e n hb hx;exact ⟨sl,(O.2 b (qb8 (qb7 (qa7 e) (I.ok.cab x c hfn hc)))).trans Z⟩
   . obtain ⟨o',Z⟩:=I.base.there b o e hx;exact ⟨o',(O.2 b (qb8 (qb7 (qa7 e) (I.ok.cab x c hfn hc)))).trans Z⟩
   . by_cases hj:j=i
     . subst hj;rw [hi] at Z;cases Z
       rw [qf0 hiσ] at e2;cases e2;exact ⟨u,r,.inr ⟨.inl hk,c,hc,hc'⟩⟩
     . rw [gN (qq0 hj)] at e2;obtain ⟨u',r',q⟩:=hl j y v' Z e2 e3;refine ⟨u',r',?_⟩;rcases q with q | ⟨k,c',e,z'⟩
       . exact .inl q
       . refine .inr ⟨k,c',e,z'.sameBut O ?_⟩;rintro rfl;exact hj (mw hN Z (I.ok.inj _ _ _ e hc▸hi))
   . by_cases hcc:c'=c
     . subst hcc;exact ⟨_,hc'⟩
     . obtain ⟨w2,z2⟩:=I.cell y c' e;exact ⟨w2,z2.sameBut O hcc⟩
   . obtain ⟨e,n,ne,nf,d⟩:=I.pin p hp;refine ⟨(O.2 p.1 ?_).trans e,n,ne,nf,d⟩;intro q;rw [q,hoc] at e;have q':oc=p.2:=qd6 e;exact d w' (by rw [<- q'];exact hocd)
theorem gW (I:Inv X pins σ H s) (q:X.N.Nodup) (hi:X.N[i]?=some x) (Y:Loc X.env.scope x) (r:RelV v u)
 (h:∀ s',Inv X pins (σ.set i (some v)) H s'->Q () s') (Z:X.fn x=true∨X.env.scope.names.lookup x=some .local:=by first | exact .inl rfl | exact .inr rfl | assumption):wpAny M A (zb7 X.env x u) Q E s:=
 kl I q hi Y r (fun s' O _=>h s' O) Z
theorem Inv.call' (I:Inv X pins σ H s) (Y:s'.os=s.os) (u:Un (frs X.stack) ch H H' s.heap s'.heap) (O:HOk X.prog X.w H' s'.heap) (Z:zb6 s'.gens)
 (q:∀ b∈ch,(b∈X.ex∨X.s₀.heap.objs.size<=b)/\b≠X.env.locals/\(∀ x c,X.env.cells.lookup x=some c->c≠b)/\∀ p∈X.pn++pins,p.1≠b):Inv X pins σ H' s':=by
 obtain ⟨h',g',d',t',o'⟩:=s';have e:o'=s.os:=Y;subst e;exact I.call (g':=g') (t':=t') (d':=d') u O Z q
end
abbrev XK:=Value->Option Addr->Hp->Prop
abbrev St:=List (Option V)
abbrev VK:=V->Hp->Prop
abbrev TE:=St->Hp->VK->Prop
abbrev TT:=St->Hp->(Bool->Hp->Prop)->Prop
abbrev TA:=St->Hp->(List V->Hp->Prop)->Prop
structure Ends where
 nx:St->Hp->Prop
 rt:VK
 bk:St->Hp->Prop:=fun _ _=>False
 ct:St->Hp->Prop:=fun _ _=>False
abbrev TS:=Ends->St->Hp->Prop
def EP (X:Cx) (pins:List (Addr×Obj)) (σ:St) (Q:VK) (u:Value) (s':qa4):Prop:=∃ v H',Inv X pins σ H' s'/\RelV v u/\Q v H'
def TP (X:Cx) (pins:List (Addr×Obj)) (σ:St) (Q:Bool->Hp->Prop) (b:Bool) (s':qa4):Prop:=∃ H',Inv X pins σ H' s'/\Q b H'
def AP (X:Cx) (pins:List (Addr×Obj)) (σ:St) (Q:List V->Hp->Prop) (us:List Value) (s':qa4):Prop:=∃ vs H',Inv X pins σ H' s'/\Vals vs us/\Q vs H'
noncomputable def SP (X:Cx) (pins:List (Addr×Obj)) (D:Ends) (f:Flow) (s':qa4):Prop:=
 match f with
 | .next=>∃ q H',Inv X pins q H' s'/\D.nx q H'
 | .brk=>∃ q H',Inv X pins q H' s'/\D.bk q H'
 | .cont=>∃ q H',Inv X pins q H' s'/\D.ct q H'
 | .ret u=>∃ v q H',Inv X pins q H' s'/\RelV v u/\D.rt v H'
def PE (X:Cx) (e:Expr) (t:TE):Prop:=∀ (pins:List (Addr×Obj)) (s:qa4) (σ:St) (H:Hp) (Q:VK),Inv X pins σ H s->t σ H Q->wpAny (model X.prog X.w) X.A (eval e X.env) (EP X pins σ Q) X.xe s
noncomputable def PT (X:Cx) (e:Expr) (t:TT):Prop:=∀ (pins:List (Addr×Obj)) (s:qa4) (σ:St) (H:Hp) (Q:Bool->Hp->Prop),Inv X pins σ H s->t σ H Q->wpAny (model X.prog X.w) X.A (isTrue e X.env (eval e X.env)) (TP X pins σ Q) X.xe s
noncomputable def PW (X:Cx) (e:Expr) (t:TT):Prop:=∀ (q:Sem Value) (pins:List (Addr×Obj)) (s:qa4) (σ:St) (H:Hp) (Q:Bool->Hp->Prop),Inv X pins σ H s->t σ H Q->wpAny (model X.prog X.w) X.A (isTrue e X.env q) (TP X pins σ Q) X.xe s
variable {X:Cx} {e:Expr}
theorem PW.pt {t:TT} (h:PW X e t):PT X e t:=h _
noncomputable def PA (X:Cx) (es:List Expr) (t:TA):Prop:=∀ (pos:Pos) (pins:List (Addr×Obj)) (s:qa4) (σ:St) (H:Hp) (Q:List V->Hp->Prop),Inv X pins σ H s->t σ H Q->wpAny (model X.prog X.w) X.A (spliced (qk0 pos (qa9 es X.env))) (AP X pins σ Q) X.xe s
def PS (X:Cx) (st:Stmt) (t:TS):Prop:=∀ (pins:List (Addr×Obj)) (s:qa4) (σ:St) (H:Hp) (D:Ends),Inv X pins σ H s->t D σ H->wpAny (model X.prog X.w) X.A (exec st X.env) (SP X pins D) X.xe s
def PSs (X:Cx) (st:List Stmt) (t:TS):Prop:=∀ (pins:List (Addr×Obj)) (s:qa4) (σ:St) (H:Hp) (D:Ends),Inv X pins σ H s->t D σ H->wpAny (model X.prog X.w) X.A (execs st X.env) (SP X pins D) X.xe s
variable {s:qa4}
theorem thn {α:Type} {t:Sem α} {Q q:α->qa4->Prop} (h:wpAny M A t Q E s) (O:∀ a s,Q a s->q a s):wpAny M A t q E s:=qj7 h O fun _ _ x=>x
variable {pins:List (Addr×Obj)} {σ:St} {R:V->V->Hp->Prop} {pos:Pos} {c:Expr}
section
variable {X:Cx}
theorem bin {a b:Expr} {ta tb:TE} (ha:PE X a ta) (hb:PE X b tb) (I:Inv X pins σ H s) (h:ta σ H fun x H1=>tb σ H1 fun y H2=>R x y H2)
 {α:Type} {Q:α->qa4->Prop} {f:Value->Value->Sem α}
 (hf:∀ v u Y x y H2,Inv X pins σ H2 Y->RelV x v->RelV y u->R x y H2->wpAny (model X.prog X.w) X.A (f v u) Q X.xe Y) :
  wpAny (model X.prog X.w) X.A (eval a X.env) (fun v O=>wpAny (model X.prog X.w) X.A (eval b X.env) (fun u q=>wpAny (model X.prog X.w) X.A (f v u) Q X.xe q) X.xe O) X.xe s:=by
 refine thn (ha pins s σ H _ I h) fun v s1 ⟨x,H1,I1,Z,q1⟩=>?_
 refine thn (hb pins s1 σ H1 _ I1 q1) fun u Y ⟨y,H2,I2,r2,q2⟩=>?_
 exact hf v u Y x y H2 I2 Z r2 q2
def gY (i:Nat):TE:=fun σ H Q=>∃ v,σ[i]?=some (some v)/\Q v H
def tC (v:V):TE:=fun _ H Q=>Q v H
theorem zb (hN:X.N[i]?=some x) (hv:Vis X.env.scope x) (Z:(x==("__debug__":Str))=false:=by decide) (hcd:(x==("__classdict__":Str))=false:=by decide):PE X (.Name x pos) (gY i):=by
 intro pins s σ H Q I h;obtain ⟨v,e,h⟩:=h;obtain ⟨m,hn,hl⟩:=I.loc;obtain ⟨u,r,l⟩:=hl i x v hN e hv;have Y:EP X pins σ Q u s:=⟨v,H,I,r,h⟩;rcases l with ⟨O,hm⟩ | ⟨O,c,hc,q⟩
 . exact wpAny_Name (wpAny_loadName_local I.ok.kind O hn hm Y) Z
 . rcases O with O | O
   . exact wpAny_Name (wpAny_loadName_cell I.ok.kind O hc q Y) Z
   . exact wpAny_Name (wpAny_loadName_free I.ok.kind O hc q Y hcd) Z
theorem zd {i j pos}:PE X (.Constant (.int i) j pos) (tC (.int i)):=fun _ _ _ H _ I h=>wpAny_Constant_int ⟨.int i,H,I.tok _,⟨_,rfl⟩,h⟩
theorem BM {b j pos}:PE X (.Constant (.bool b) j pos) (tC (.bl b)):=fun _ _ _ H _ I h=>Constant_bool ⟨.bl b,H,I,rfl,h⟩
theorem ze {j pos}:PE X (.Constant .none j pos) (tC .non):=fun _ _ _ H _ I h=>Constant_none ⟨.non,H,I,rfl,h⟩
theorem zf {x j pos}:PE X (.Constant (.str x) j pos) (tC (.str x)):=fun _ _ _ H _ I h=>Calls.Constant_str ⟨.str x,H,I.tok _,⟨_,rfl⟩,h⟩
def Gl (X:Cx) (x:Str):Prop:=X.env.kindOf x=some .globalImplicit
theorem lA {Q:Value->qa4->Prop} (I:Inv X pins σ H s) (q:Gl X x) (Y:X.mg x=some u) (h:Q u s)
 (O:(x==("__debug__":Str))=false:=by decide):wpAny (model X.prog X.w) X.A (eval (.Name x pos) X.env) Q E s:=
 qv9 I.ok.kind q (Calls.loadGlobal_global (by rw [I.ok.glob];exact I.mod.glob.keeps I.bk) Y h) O
theorem fq {Q:Value->qa4->Prop} (I:Inv X pins σ H s) (Y:Gl X x) (hm:X.mg x=none) (q:qd7 x=some u) (h:Q u s)
 (O:x≠"__name__":=by decide) (Z:(x==("__debug__":Str))=false:=by decide):wpAny (model X.prog X.w) X.A (eval (.Name x pos) X.env) Q E s:=by
 obtain ⟨mb,h1,h2⟩:=I.mod.blt;exact qv9 I.ok.kind Y (Calls.loadGlobal_builtin (by rw [I.ok.glob];exact I.mod.glob.keeps I.bk) hm (by rw [I.ok.blt];exact h1.keeps I.bk) ((h2 x O).trans q) h) Z
theorem vD (q:Gl X x) (Y:X.mg x=some u) (r:RelV v u) (O:(x==("__debug__":Str))=false:=by decide):PE X (.Name x pos) (tC v):=fun _ _ _ H _ I h=>lA I q Y ⟨v,H,I,r,h⟩ O
theorem vE (Y:Gl X x) (hm:X.mg x=none) (q:qd7 x=some u) (r:RelV v u) (O:x≠"__name__":=by decide) (Z:(x==("__debug__":Str))=false:=by decide):PE X (.Name x pos) (tC v):=fun _ _ _ H _ I h=>fq I Y hm q ⟨v,H,I,r,h⟩ O Z
variable {a b:Expr} {ta tb:TE} {pos:Pos}
noncomputable def PC (X:Cx) (Y:CmpOp) (a b:Expr) (t:TE):Prop:=
 ∀ (pins:List (Addr×Obj)) (s:qa4) (σ:St) (H:Hp) (Q:VK),Inv X pins σ H s->t σ H Q→
  wpAny (model X.prog X.w) X.A (eval a X.env) (fun v O=>wpAny (model X.prog X.w) X.A (eval b X.env) (fun u q=>wpAny (model X.prog X.w) X.A (qg5 Y v u) (EP X pins σ Q) X.xe q) X.xe O) X.xe s
def tB (t:TE):TT:=fun σ H Q=>t σ H fun x H1=>∃ c,x=.bl c/\Q c H1
theorem zg {q:CmpOp} {t:TE} (h:PC X q a b t) (h1:qh9 q b=false:=by first | exact nobehind _ (by decide) (by decide) | rfl):PE X (.Compare a [q] [b] pos) t:=fun pins s σ H Q I O=>wpAny_Compare1 (h pins s σ H Q I O) h1
theorem nX {O:CmpOp} {t:TE} (h:PC X O a b t) (h1:qh9 O b=false:=by first | exact nobehind _ (by decide) (by decide) | rfl):PT X (.Compare a [O] [b] pos) (tB t):=by intro pins s σ H Q I hw;refine zb9 (thn (h pins s σ H _ I hw) fun v s1 h1=>thn h1 fun u s2 h2=>thn h2 fun c s3 ⟨x,H1,Z,Y,q1⟩=>?_) h1;obtain ⟨d,rfl,q⟩:=q1;cases Y;exact qj8 ⟨H1,Z,q⟩
variable {tA tB':TT} {rest:List Expr}
def tAnd (t u:TT):TT:=fun σ H Q=>t σ H fun c H1=>if c=true then u σ H1 Q else Q false H1
def tOr (t u:TT):TT:=fun σ H Q=>t σ H fun c H1=>if c=true then Q true H1 else u σ H1 Q
def tNot (t:TT):TT:=fun σ H Q=>t σ H fun c H1=>Q (!c) H1
theorem vF (q:PT X a tA):PW X (.BoolOp .And [a] pos) tA:=by
 intro O pins s σ H Q I h;refine isTrue_and (thn (q pins s σ H Q I h) fun c s1 e=>?_);cases c with
 | true=>exact isTrue_and_nil e
 | false=>exact e
theorem zh (q:PT X a tA):PW X (.BoolOp .Or [a] pos) tA:=by
 intro O pins s σ H Q I h;refine isTrue_or (thn (q pins s σ H Q I h) fun c s1 e=>?_);cases c with
 | false=>exact isTrue_or_nil e
 | true=>exact e
theorem zi (Z:PT X a tA) (Y:PW X (.BoolOp .And (b::rest) pos) tB'):PW X (.BoolOp .And (a::b::rest) pos) (tAnd tA tB'):=by
 intro O pins s σ H Q I h;refine isTrue_and (thn (Z pins s σ H _ I h) fun c s1 ⟨H1,q,q1⟩=>?_);cases c with
 | true=>exact Y O pins s1 σ H1 Q q q1
 | false=>exact ⟨H1,q,q1⟩
theorem BN (Z:PT X a tA) (Y:PW X (.BoolOp .Or (b::rest) pos) tB'):PW X (.BoolOp .Or (a::b::rest) pos) (tOr tA tB'):=by
 intro O pins s σ H Q I h;refine isTrue_or (thn (Z pins s σ H _ I h) fun c s1 ⟨H1,q,q1⟩=>?_);cases c with
 | true=>exact ⟨H1,q,q1⟩
 | false=>exact Y O pins s1 σ H1 Q q q1
theorem zj (q:PT X a tA):PT X (.UnaryOp .Not a pos) (tNot tA):=by intro pins s σ H Q I h;exact isTrue_not (q pins s σ H (fun c H1=>Q (!c) H1) I h)
def BO (ta tb:TE):TE:=fun σ H Q=>ta σ H fun x H1=>∃ c,x=.bl c/\if c=true then tb σ H1 Q else Q (.bl false) H1
def BP (ta:TE):TE:=fun σ H Q=>ta σ H fun x H1=>∃ c,x=.bl c/\Q (.bl (!c)) H1
theorem zm {op} {t:TE} (h:PE X a t):PE X (.BoolOp op [a] pos) t:=fun pins s σ H Q I q=>BoolOp_one (h pins s σ H Q I q)
theorem zn (Z:PE X a ta) (Y:PE X (.BoolOp .And (b::rest) pos) tb):PE X (.BoolOp .And (a::b::rest) pos) (BO ta tb):=by
 intro pins s σ H Q I h;refine BoolOp_and (thn (Z pins s σ H _ I h) fun v s1 ⟨x,H1,q,O,q1⟩=>?_);obtain ⟨c,rfl,q1⟩:=q1;cases O;refine qj8 ?_;cases c with
 | true=>exact Y pins s1 σ H1 Q q q1
 | false=>exact ⟨.bl false,H1,q,rfl,q1⟩
theorem zo (Y:PE X a ta):PE X (.UnaryOp .Not a pos) (BP ta):=by intro pins s σ H Q I h;refine UnaryOp_ (thn (Y pins s σ H _ I h) fun v s1 ⟨x,H1,O,q,q1⟩=>?_);obtain ⟨c,rfl,q1⟩:=q1;cases q;exact not_of (qj8 ⟨.bl (!c),H1,O,rfl,q1⟩)
def tIf (t:TT) (ta tb:TE):TE:=fun σ H Q=>t σ H fun c H1=>if c=true then ta σ H1 Q else tb σ H1 Q
theorem sq (Y:PT X c tA) (Z:PE X a ta) (O:PE X b tb):PE X (.IfExp c a b pos) (tIf tA ta tb):=by
 intro pins s σ H Q I h;refine wpAny_IfExp (thn (Y pins s σ H _ I h) fun d s1 ⟨H1,q,q1⟩=>?_);cases d with
 | true=>exact Z pins s1 σ H1 Q q q1
 | false=>exact O pins s1 σ H1 Q q q1
end
noncomputable def SqL (K:xA9) (H:Hp) (a:Addr) (xs:List V):Prop:=Rd H a (.lst xs)∨∃ (o:Obj) (its:Array Value) (n:Nat),K.lookup a=some o/\o.cls=.type "list"/\o.dict=none/\o.data=.seq its n/\its.size<=qb2/\Vals xs its.toList
noncomputable def SqT (K:xA9) (H:Hp) (a:Addr) (xs:List V):Prop:=H a=some (.tup xs)∨∃ (o:Obj) (its:Array Value) (n:Nat),K.lookup a=some o/\o.cls=.type "tuple"/\o.data=.seq its n/\its.size<=qb2/\Vals xs its.toList
noncomputable def absV:Value->Option V
 | .none=>some .non
 | .bool b=>some (.bl b)
 | .int i _=>some (.int i)
 | .str x _=>some (.str x)
 | .bytes b _=>some (.byt b)
 | .float b _=>some (.flt b)
 | .ref a=>some (.ref a)
 | .type n=>some (.ty n)
 | _=>none
theorem RelV.abs {x:V} (r:RelV x u):absV u=some x:=by
 cases x with
 | non=>cases r;rfl
 | bl _=>cases r;rfl
 | int _=>obtain ⟨t,rfl⟩:=r;rfl
 | str _=>obtain ⟨t,rfl⟩:=r;rfl
 | byt _=>obtain ⟨t,rfl⟩:=r;rfl
 | flt _=>obtain ⟨t,rfl⟩:=r;rfl
 | ref _=>cases r;rfl
 | ty _=>cases r;rfl
variable {y:V}
theorem RelV.inj {x:V} (r:RelV x u) (q:RelV y u):x=y:=qd6 (r.abs.symm.trans q.abs)
theorem Vals.inj:∀ {xs ys:List V} {us:List Value},Vals xs us->Vals ys us->xs=ys
 | _,_,_,.nil,.nil=>rfl
 | _,_,_,.cons r t,.cons q t'=>by rw [r.inj q,Vals.inj t t']
variable {K:xA9}
section
variable {X:Cx} {pins:List (Addr×Obj)} {σ:St} {H:Hp} {s:qa4} {a:Addr} {xs ys:List V}
theorem SqL.of (h:H a=some (.lst xs)):SqL K H a xs:=.inl (.inl h)
theorem SqT.of (h:H a=some (.tup xs)):SqT K H a xs:=.inl h
theorem Inv.list (I:Inv X pins σ H s) (h:SqL X.K H a xs):∃ its:List Value,Vals xs its/\PlainL s.heap a its.toArray/\xs.length<=qb2:=by
 rcases h with h | ⟨o,its,n,q,O,Z,Y,hz,r⟩
 . obtain ⟨z,its,n,r,e⟩:=h.ok I.hok;exact ⟨its,r,⟨_,n,e,rfl,rfl,rfl⟩,z⟩
 . refine ⟨its.toList,r,⟨o,n,I.kIn a o q,O,Z,by simpa using Y⟩,?_⟩;have e:=r.length;simp only [qe1] at e;lia
theorem Inv.tuple (I:Inv X pins σ H s) (h:SqT X.K H a xs):∃ its:List Value,Vals xs its/\IsTup s.heap a its.toArray/\xs.length<=qb2:=by
 rcases h with h | ⟨o,its,n,q,O,Y,Z,r⟩
 . obtain ⟨z,its,r,p⟩:=(Rd.of h).ok I.hok;exact ⟨its,r,p,z⟩
 . refine ⟨its.toList,r,⟨o,I.kIn a o q,O,n,by simpa using Y⟩,?_⟩;have e:=r.length;simp only [qe1] at e;lia
theorem Inv.list_inj (I:Inv X pins σ H s) (h:SqL X.K H a xs) (h':SqL X.K H a ys):xs=ys:=by
 obtain ⟨its,r,⟨o,n,e,_,_,d⟩,_⟩:=I.list h;obtain ⟨its',O,⟨o',Z,q,_,_,d'⟩,_⟩:=I.list h';rw [e] at q;cases q
 rw [d] at d';injection d' with Y _;have:its=its':=by simpa using congrArg Array.toList Y
 subst this;exact r.inj O
theorem Inv.tuple_inj (I:Inv X pins σ H s) (h:SqT X.K H a xs) (h':SqT X.K H a ys):xs=ys:=by
 obtain ⟨its,r,⟨o,e,_,n,d⟩,_⟩:=I.tuple h;obtain ⟨its',O,⟨o',q,_,Z,d'⟩,_⟩:=I.tuple h';rw [e] at q;cases q
 rw [d] at d';injection d' with Y _;have:its=its':=by simpa using congrArg Array.toList Y
 subst this;exact r.inj O
end
abbrev Cx.wish (X:Cx) (E:Value->qa4->Prop):Cx:={X with xe:=E}
abbrev Cx.nox (X:Cx):Cx:=X.wish fun _ _=>False
theorem Cx.Ok.wish (ok:X.Ok) (E:Value->qa4->Prop):(X.wish E).Ok:=⟨ok.mod,ok.kind,ok.glob,ok.blt,ok.above,ok.inj,ok.has,ok.cab,ok.hd,ok.frames,ok.stk,ok.exf,ok.bs,ok.bsz,ok.noex,ok.exfs,ok.funs,ok.frf,ok.tb⟩
theorem Cx.Ok.unwish (ok:(X.wish E).Ok):X.Ok:=⟨ok.mod,ok.kind,ok.glob,ok.blt,ok.above,ok.inj,ok.has,ok.cab,ok.hd,ok.frames,ok.stk,ok.exf,ok.bs,ok.bsz,ok.noex,ok.exfs,ok.funs,ok.frf,ok.tb⟩
section
variable {X:Cx} {pins:List (Addr×Obj)} {σ:St} {H:Hp} {s:qa4} {E:Value->qa4->Prop}
theorem Inv.wish (I:Inv X pins σ H s) (E:Value->qa4->Prop):Inv (X.wish E) pins σ H s:=⟨I.ok.wish E,I.os,I.bare,I.base,I.loc,I.cell,I.free,I.freeC,I.pin,I.hok,I.len⟩
theorem Inv.unwish (I:Inv (X.wish E) pins σ H s):Inv X pins σ H s:=⟨I.ok.unwish,I.os,I.bare,I.base,I.loc,I.cell,I.free,I.freeC,I.pin,I.hok,I.len⟩
theorem SP.unwish {D:Ends} {f:Flow} (h:SP (X.wish E) pins D f s'):SP X pins D f s':=by
 cases f with
 | next=>obtain ⟨O,H',I,q⟩:=h;exact ⟨O,H',I.unwish,q⟩
 | brk=>obtain ⟨O,H',I,q⟩:=h;exact ⟨O,H',I.unwish,q⟩
 | cont=>obtain ⟨O,H',I,q⟩:=h;exact ⟨O,H',I.unwish,q⟩
 | ret u=>obtain ⟨v,O,H',I,r,q⟩:=h;exact ⟨v,O,H',I.unwish,r,q⟩
theorem PSs.nox {st:List Stmt} {t:TS} (h:PSs X.nox st t):PSs X st t:=fun pins s σ H D I O =>qj7 (h pins s σ H D (I.wish _) O) (fun _ _ q=>q.unwish) fun _ _ z=>qg2 z
end
variable {tc:TT}
section
variable {X:Cx} {st:Stmt} {rest:List Stmt} {t u:TS} {e:Expr} {te:TE} {pos:Pos}
def BQ:TS:=fun D σ H=>D.nx σ H
def tSeq (t u:TS):TS:=fun D σ H=>t {D with nx:=u D} σ H
theorem vG:PSs X [] BQ:=fun _ _ σ H _ I h=>qv2 ⟨σ,H,I,h⟩
theorem jk (h1:PS X st t) (h2:PSs X rest u):PSs X (st::rest) (tSeq t u):=by
 intro pins s σ H D I h;refine wpAny_execs_cons (thn (h1 pins s σ H {D with nx:=u D} I h) fun f s1 q=>?_);cases f with
 | next =>obtain ⟨O,H',Y,q⟩:=q;exact h2 pins s1 O H' D Y q
 | ret v=>exact q
 | brk=>exact q
 | cont=>exact q
theorem pA (h1:PS X st t):PSs X [st] t:=by
 intro pins s σ H D I h;refine wpAny_execs_cons (thn (h1 pins s σ H D I h) fun f s1 q=>?_);cases f with
 | next=>exact qv2 q
 | ret v=>exact q
 | brk=>exact q
 | cont=>exact q
theorem Inv.quiet (I:Inv X pins σ H s):interactive X.env=false:=by simp [interactive,I.ok.kind]
def BR (te:TE):TS:=fun D σ H=>te σ H fun _ H1=>D.nx σ H1
theorem pB (q:PE X e te) (Y:qo4 e none pos.line X.env=pure false:=by rfl):PS X (.Expr e pos) (BR te):=by intro pins s σ H D I h;exact wpAny_Expr_any (thn (q pins s σ H _ I h) fun v s1 ⟨x,H1,O,Z,q1⟩=>⟨σ,H1,O,q1⟩) I.quiet Y
def tRet (te:TE):TS:=fun D σ H=>te σ H D.rt
theorem nY (Y:PE X e te):PS X (.Return (some e) pos) (tRet te):=by intro pins s σ H D I h;exact wpAny_Return_some (thn (Y pins s σ H _ I h) fun v s1 ⟨x,H1,O,q,q1⟩=>⟨x,σ,H1,O,q,q1⟩)
def tIfS (c:TT) (t u:TS):TS:=fun D σ H=>c σ H fun b H1=>if b=true then t D σ H1 else u D σ H1
theorem BS {a b:List Stmt} (Y:PT X c tc) (Z:PSs X a t) (O:PSs X b u):PS X (.If c a b pos) (tIfS tc t u):=by
 intro pins s σ H D I h;refine wpAny_If (thn (Y pins s σ H _ I h) fun d s1 ⟨H1,q,q1⟩=>?_);cases d with
 | true=>exact Z pins s1 σ H1 D q q1
 | false=>exact O pins s1 σ H1 D q q1
end
abbrev TG:=V->St->Hp->(St->Hp->Prop)->Prop
abbrev TGs:=List V->St->Hp->(St->Hp->Prop)->Prop
noncomputable def PG (X:Cx) (q:Expr) (t:TG):Prop:=
 ∀ (pins:List (Addr×Obj)) (s:qa4) (σ:St) (H:Hp) (v:V) (u:Value) (Q:St->Hp->Prop),Inv X pins σ H s->RelV v u->t v σ H Q→
  wpAny (model X.prog X.w) X.A (zc0 q X.env u) (fun _ s'=>∃ O H',Inv X pins O H' s'/\Q O H') X.xe s
noncomputable def PGs (X:Cx) (ts:List Expr) (t:TGs):Prop:=
 ∀ (pins:List (Addr×Obj)) (s:qa4) (σ:St) (H:Hp) (vs:List V) (us:List Value) (Q:St->Hp->Prop),Inv X pins σ H s->Vals vs us->t vs σ H Q→
  wpAny (model X.prog X.w) X.A (assignInOrder ((qm3 ts X.env).map (·.2)) us) (fun _ s'=>∃ q H',Inv X pins q H' s'/\Q q H') X.xe s
abbrev zq:=V->V->V->Hp->(Hp->Prop)->Prop
noncomputable def PSet (X:Cx) (t:zq):Prop:=
 ∀ (pins:List (Addr×Obj)) (s:qa4) (σ:St) (H:Hp) (o i v:V) (O q u:Value) (Q:Hp->Prop),Inv X pins σ H s->RelV o O->RelV i q->RelV v u->t o i v H Q→
  wpAny (model X.prog X.w) X.A (setItem O q u) (fun _ s'=>∃ H',Inv X pins σ H' s'/\Q H') X.xe s
abbrev TIp:=V->V->Hp->VK->Prop
noncomputable def PIp (X:Cx) (q:Operator) (t:TIp):Prop:=
 ∀ (pins:List (Addr×Obj)) (s:qa4) (σ:St) (H:Hp) (x y:V) (v u:Value) (Q:VK),Inv X pins σ H s->RelV x v->RelV y u->t x y H Q→
  wpAny (model X.prog X.w) X.A (inplaceOp q v u) (EP X pins σ Q) X.xe s
variable {es:List Expr} {n:Nat} {tg:Expr} {te:TE} {g:TG} {pos':Pos}
section
variable {X:Cx} {pos:Pos}
def jm (i:Nat):TG:=fun v σ H Q=>Q (σ.set i (some v)) H
theorem pC (q:X.N.Nodup) (hi:X.N[i]?=some x) (Y:Loc X.env.scope x) (Z:X.fn x=true∨X.env.scope.names.lookup x=some .local:=by first | exact .inl rfl | exact .inr rfl | assumption):PG X (.Name x pos) (jm i):=by intro pins s σ H v u Q I r h;exact wpAny_assign_Name (gW I q hi Y r (fun s' O=>⟨_,H,O,h⟩) Z)
def gNil:TGs:=fun vs σ H Q=>vs=[]/\Q σ H
def BT (t:TG) (u:TGs):TGs:=fun vs σ H Q=>∃ v r,vs=v::r/\t v σ H fun q H'=>u r q H' Q
theorem vH:PGs X [] gNil:=by intro pins s σ H vs us Q I r h;obtain ⟨e,h⟩:=h;subst e;cases r;exact assignInOrder_nil ⟨σ,H,I,h⟩
theorem sr {t:TG} {u:TGs} (h1:PG X e t) (h2:PGs X es u)
 (Z:(qm3 (e::es) X.env).map (·.2)=zc0 e X.env::(qm3 es X.env).map (·.2):=by rfl):PGs X (e::es) (BT t u):=by
 intro pins s σ H vs us Q I r h;obtain ⟨v,vr,O,h⟩:=h;subst O;cases r with
 | cons r rr =>rw [Z];refine assignInOrder_cons (thn (h1 pins s σ H _ _ _ I r h) fun _ s1 ⟨q,H1,Y,q1⟩=>?_);exact h2 pins s1 q H1 _ _ Q Y rr q1
def gTup (K:xA9) (n:Nat) (t:TGs):TG:=fun v σ H Q=>∃ a xs,v=.ref a/\SqT K H a xs/\xs.length=n/\t xs σ H Q
theorem zr {k:Nat} {t:TGs} (hc:X.calm=true) (h:PGs X es t)
 (hn:(qm3 es X.env).length=n:=by rfl) (q:(qm3 es X.env).findIdx? (·.1)=none:=by rfl):PG X (.Tuple es k pos) (gTup X.K n t):=by
 intro pins s σ H v u Q I r O;obtain ⟨a,xs,Z,hq,hl,O⟩:=O;subst Z;cases r;obtain ⟨its,Y,ht,hz⟩:=I.tuple hq;refine assign_Tuple_tuple (I.ok.hd hc) ht (by simp [hn,<- hl,Y.length]) q fun h' hx=>?_
 have I1:Inv X pins σ H {s with heap:=h'}:=I.kept (t':=s.toks) fun b o e=>hx b o (qb8 (qa7 e)) e
 exact h pins _ σ H xs _ Q I1 (by simpa using Y) O
def gSub (to ti:TE) (t:zq):TG:=fun v σ H Q=>to σ H fun o H1=>ti σ H1 fun i H2=>t o i v H2 fun q=>Q σ q
theorem zt {o i:Expr} {to ti:TE} {t:zq} (ho:PE X o to) (hi:PE X i ti) (hs:PSet X t)
  (ha:∀ v,zc0 (.Subscript o i pos) X.env v=(do
   let q <- zc1 [v] (eval o X.env);let O <- zc1 [v,q] (eval i X.env)
   standAt pos
   zc1 [v,q,O] (setItem q O v)
   release [v,q,O] []):=by intro _;rfl):PG X (.Subscript o i pos) (gSub to ti t):=by
 intro pins s σ H v u Q I r h;rw [ha];refine wB (qi6 (thn (ho pins s σ H _ I h) fun q s1 ⟨x,H1,I1,Y,q1⟩=>?_));refine wB (qi6 (thn (hi pins s1 σ H1 _ I1 q1) fun O Z ⟨y,H2,I2,r2,q2⟩=>?_));refine wB (zf3 (wB (qi6 (thn (hs pins Z σ H2 x y v q O u _ I2 Y r2 r q2) fun _ s3 ⟨H3,I3,q3⟩=>?_))));exact wpAny_release ⟨σ,H3,I3,q3⟩
def vI (te:TE) (g:TG):TS:=fun D σ H=>te σ H fun x H1=>g x σ H1 D.nx
theorem su (Y:PE X e te) (hg:PG X tg g) (hs:zf4 [tg] e pos.line X.env=pure false:=by rfl) (hw:zf5 [tg] e X.env=pure none:=by rfl)
 (h1:(qm3 [tg] X.env).map (·.2)=[zc0 tg X.env]:=by rfl):PS X (.Assign [tg] e pos) (vI te g):=by
 intro pins s σ H D I h;refine wpAny_Assign_stores (thn (Y pins s σ H _ I h) fun v s1 ⟨x,H1,Z,O,q1⟩=>?_) hs hw;rw [h1];exact thn (hg pins s1 σ H1 x v _ Z O q1) fun _ s2 q=>q
theorem zu (O:X.N.Nodup) (hi:X.N[i]?=some x) (hx:Loc X.env.scope x) (Y:PE X e te) (hs:qo4 e (some (.Name x pos')) pos.line X.env=pure false:=by rfl) (hf:X.fn x=true∨X.env.scope.names.lookup x=some .local:=by first | exact .inl rfl | exact .inr rfl | assumption) :
  PS X (.Assign [.Name x pos'] e pos) (vI te (jm i)):=by
 intro pins s σ H D I h;refine wpAny_Assign_Name (thn (Y pins s σ H _ I h) fun v s1 ⟨y,H1,I1,q,q1⟩=>?_) hs;exact gW I1 O hi hx q (fun s2 Z=>⟨_,H1,Z,q1⟩) hf
def tAug (i:Nat) (te:TE) (ti:TIp):TS:=fun D σ H=>∃ x,σ[i]?=some (some x)/\te σ H fun y H1=>ti x y H1 fun z H2=>D.nx (σ.set i (some z)) H2
theorem zw {Z:Operator} {ti:TIp} (hN:X.N.Nodup) (hi:X.N[i]?=some x) (hx:Loc X.env.scope x) (he:PE X e te) (ho:PIp X Z ti) (hf:X.fn x=true∨X.env.scope.names.lookup x=some .local:=by first | exact .inl rfl | exact .inr rfl | assumption) :
  PS X (.AugAssign (.Name x pos') Z e pos) (tAug i te ti):=by
 intro pins s σ H D I h;obtain ⟨v,e1,h⟩:=h;obtain ⟨m,hn,hl⟩:=I.loc;have vis:Vis X.env.scope x:=by rcases hx with k | k;exact .inl k;exact .inr (.inl k)
 obtain ⟨u,r,l⟩:=hl i x v hi e1 vis;refine wpAny_AugAssign_Name ?_
 have go:wpAny (model X.prog X.w) X.A (eval e X.env) (fun w Y=>wpAny (model X.prog X.w) X.A (inplaceOp Z u w) (fun r s₃=>wpAny (model X.prog X.w) X.A (zb7 X.env x r) (fun _=>SP X pins D .next) X.xe s₃) X.xe Y) X.xe s:=by
  refine thn (he pins s σ H _ I h) fun w s1 ⟨y,H1,I1,r1,q1⟩=>?_
  refine thn (ho pins s1 σ H1 v y u w _ I1 r r1 q1) fun z s2 ⟨zv,H2,I2,r2,q2⟩=>?_
  exact gW I2 hN hi hx r2 (fun s3 I3=>⟨_,H2,I3,q2⟩) hf
 rcases l with ⟨q,hm⟩ | ⟨q,c,hc,O⟩
 . exact wpAny_loadName_local I.ok.kind q hn hm go
 . rcases q with q | q
   . exact wpAny_loadName_cell I.ok.kind q hc O go
   . rcases hx with k | k
     . have:X.env.scope.names.lookup x=some .free:=q;rw [k] at this;cases this
     . have:X.env.scope.names.lookup x=some .free:=q;rw [k] at this;cases this
def ipI (f:Int->Int->Int):TIp:=fun x y H Q=>∃ i j,x=.int i/\y=.int j/\Q (.int (f i j)) H
theorem zy:PIp X .Add (ipI fun i j=>i+j):=by intro pins s σ H x y v u Q I Y r2 h;obtain ⟨i,j,O,Z,q⟩:=h;subst O;subst Z;obtain ⟨t,rfl⟩:=Y;obtain ⟨t',rfl⟩:=r2;exact iadd_int ⟨.int _,H,I.tok _,⟨_,rfl⟩,q⟩
end
variable {body:List Stmt} {tb:TS}
section
variable {X:Cx} {pos:Pos}
noncomputable def zz (c:TT) (tb:TS):TS:=fun D σ H=>∃ W:Nat->St->Hp->Prop,(∃ m,W m σ H)/\∀ m σ H,W m σ H→
 c σ H fun b H1=>if b=true then ∃ N:St->Hp->Prop,(∀ q H',N q H'->∃ O,O<m/\W O q H')/\tb {D with nx:=N,ct:=N,bk:=D.nx} σ H1 else D.nx σ H1
theorem sw (hp:zh5 (model X.prog X.w) X.A X.env X.xe) (hc:PT X c tc) (hb:PSs X body tb):PS X (.While c body [] pos) (zz tc tb):=by
 intro pins s σ H D I h;obtain ⟨W,⟨m0,w0⟩,Y⟩:=h;refine wpAny_While (codeAny_whileLoop (fun n s'=>∃ Z H',Inv X pins Z H' s'/\W n Z H') ?_ m0 ⟨σ,H,I,w0⟩);rintro n s1 ⟨O,H1,I1,w1⟩;refine qm4 hp (thn (hc pins s1 O H1 _ I1 (Y n O H1 w1)) fun b s2 ⟨H2,I2,q2⟩=>?_);cases b with
 | true =>
  obtain ⟨N,hN,q2⟩:=q2;rw [if_pos rfl];refine qm4 hp (thn (hb pins s2 O H2 _ I2 q2) fun f s3 q3=>?_);cases f with
  | next =>obtain ⟨q,H3,I3,n3⟩:=q3;obtain ⟨m',hm,w3⟩:=hN q H3 n3;exact ⟨m',hm,q,H3,I3,w3⟩
  | cont =>obtain ⟨q,H3,I3,n3⟩:=q3;obtain ⟨m',hm,w3⟩:=hN q H3 n3;exact ⟨m',hm,q,H3,I3,w3⟩
  | brk=>exact q3
  | ret v=>exact q3
 | false =>rw [if_neg qb6];exact qv2 ⟨O,H2,I2,q2⟩
end
structure It where
 go:Nat->Hp->Prop
 yld:Nat->Hp->V->Hp->Prop
 stop:Nat->Hp->Prop
def gu (X:Cx) (pins:List (Addr×Obj)) (H:Hp) (b:Addr):Prop:=H b=none/\b≠X.env.locals/\b∉X.fs/\(b∈X.ex∨X.s₀.heap.objs.size<=b)/\(∀ x c,X.env.cells.lookup x=some c->c≠b)/\∀ p∈X.pn++pins,p.1≠b
theorem Inv.fpOk {H':Hp} (I:Inv X pins σ H s) (O:s.heap.objs.size<=b) (Y:H' b=none):gu X pins H' b:=by
 refine ⟨Y,ql0 (qb7 I.lt O),I.nofs O,.inr (qc4 I.sz O),fun x c e z=>?_,fun p hp z=>?_⟩
 . obtain ⟨v,q⟩:=I.cell x c e;exact absurd (qb7 q.lt (by rw [z];exact O)) (qk9 _)
 . exact absurd (qb7 (qa7 (I.pin p hp).1) (by rw [z];exact O)) (qk9 _)
structure Turn (P:qc2) (w:World) (K:xA9) (tg:Expr) (J:It) (fp:List Addr) (it:Addr) (tn:Nat->Heap->Prop):Prop where
 mem:it∈fp
 obj:∀ i h,tn i h->∀ b∈fp,∃ o,h.get? b=some o/\∀ v,o.data≠.cell v
 keep:∀ i h h',tn i h->(∀ b∈fp,∀ o,h.get? b=some o->h'.get? b=some o)->tn i h'
 item:∀ (X:Cx),X.prog=P->X.w=w->X.K=K->X.calm=true->∀ (i:Nat) (pins:List (Addr×Obj)) (s:qa4) (σ:St) (H:Hp) (E:Value->qa4->Prop),Inv X pins σ H s->(∀ b∈fp,gu X pins H b)->tn i s.heap->J.go i H→
  wpAny (model P w) X.A (qw2 (.ref it)) (fun r s1=>∃ u,r=some u∧wpAny (model P w) X.A (qv3 tg (.ref it) u) (fun _ s2=>∃ x H',Inv X pins σ H' s2/\RelV x u/\J.yld i H x H'/\tn (i+1) s2.heap/\∀ b∈fp,H' b=none) E s1) E s
 done:∀ (X:Cx),X.prog=P->X.w=w->X.K=K->X.calm=true->∀ (i:Nat) (pins:List (Addr×Obj)) (s:qa4) (σ:St) (H:Hp) (E:Value->qa4->Prop),Inv X pins σ H s->(∀ b∈fp,gu X pins H b)->tn i s.heap->J.stop i H→
  wpAny (model P w) X.A (qw2 (.ref it)) (fun r s1=>r=none/\Inv X pins σ H s1) E s
 self:∀ (A:qd8) (i:Nat) (s:qa4) (Q:Value->qa4->Prop) (E:Value->qa4->Prop),tn i s.heap->Q (.ref it) s->wpAny (model P w) A (zg6 (.ref it)) Q E s
abbrev TI:=St->Hp->(It->Hp->Prop)->Prop
noncomputable def PIE (X:Cx) (pins:List (Addr×Obj)) (σ:St) (tg:Expr) (R:It->Hp->Prop) (q:Value) (O:qa4):Prop:=∃ (it:Addr) (fp:List Addr) (Y:Nat->Heap->Prop) (J:It) (H':Hp),q=.ref it/\Inv X pins σ H' O/\Turn X.prog X.w X.K tg J fp it Y/\Y 0 O.heap/\(∀ b∈fp,gu X pins H' b)/\R J H'
noncomputable def PI (X:Cx) (tg iter:Expr) (wi:TI):Prop:=
 ∀ (pins:List (Addr×Obj)) (s:qa4) (σ:St) (H:Hp) (R:It->Hp->Prop),Inv X pins σ H s->wi σ H R→
  wpAny (model X.prog X.w) X.A (eval iter X.env) (fun v s1=>wpAny (model X.prog X.w) X.A (zg6 v) (PIE X pins σ tg R) X.xe s1) X.xe s
theorem km {o:Obj} {n:String} {vs:Array Value} (O:s.heap.get? it=some o) (Y:o.cls=.type n) (hd:o.data=.fields vs)
 (Z:["enumerate","zip","dict_itemiterator","dict_reverseitemiterator","odict_iterator","itertools.zip_longest","itertools.pairwise"].contains n=false) (q:Q () s):wpAny M A (qv3 tg (.ref it) u) Q E s:=by
 unfold qv3
 cases tg<;>first
  | exact qa2 q
  | (cases u<;>first
      | exact qa2 q
      | (refine wB (wpAny_load O ?_)
         rw [Y,hd];show wpAny M A (if (["enumerate","zip","dict_itemiterator","dict_reverseitemiterator","odict_iterator","itertools.zip_longest","itertools.pairwise"].contains n&&vs[0]?==some (qf3 _))=true then _ else _) Q E s;rw [if_neg (by intro h;rw [Z,Bool.false_and] at h;cases h)];exact qa2 q))
def Itl (K:xA9) (a:Addr):It:=⟨fun i H=>∃ xs x,SqL K H a xs/\xs[i]?=some x,fun i H x H'=>H'=H/\∀ xs,SqL K H a xs->xs[i]?=some x,fun i H=>∃ xs,SqL K H a xs/\xs.length<=i⟩
def Itt (K:xA9) (a:Addr):It:=⟨fun i H=>∃ xs x,SqT K H a xs/\xs[i]?=some x,fun i H x H'=>H'=H/\∀ xs,SqT K H a xs->xs[i]?=some x,fun i H=>∃ xs,SqT K H a xs/\xs.length<=i⟩
def Itr (lo:Int) (n:Nat):It:=⟨fun i _=>i<n,fun i H x H'=>H'=H/\x=.int (lo+i),fun i _=>n<=i⟩
theorem qJ (a it:Addr):Turn P w K tg (Itl K a) [it] it (fun i h=>h.IsListIter it a i) where
 mem:=by simp
 obj:=fun i h st b q=>by
  have e:b=it:=by simpa using q
  subst e;obtain ⟨o,e,c,d⟩:=st;exact ⟨o,e,fun v z=>by rw [d] at z;cases z⟩
 keep:=fun i h h' st k=>st.at fun o e=>k it (by simp) o e
 item:=by
  intro X hP hw hK hc i pins s σ H E I Z st hg;subst hP hw hK;obtain ⟨xs,x,Y,hx⟩:=hg;obtain ⟨its,rv,p,hz⟩:=I.list Y;obtain ⟨u,hu,ru⟩:=rv.get hx;obtain ⟨f0,f1,f2,f3,f4,f5⟩:=Z it (by simp);refine wpAny_pyNext_list_item st p.isList (x:=u) (by simpa using hu) fun h' O sb=>?_
  have I1:Inv X pins σ H {s with heap:=h'}:=I.turned (t':=s.toks) (fun b o q e=>(sb.2 b q).trans e) f0 f1 f3 f4 f5;obtain ⟨o,e,c,d⟩:=id O;exact ⟨u,rfl,km (s:={s with heap:=h'}) e c d (by decide) ⟨x,H,I1,ru,⟨rfl,fun ys hy=>by rw [I.list_inj hy Y];exact hx⟩,O,fun b q=>(Z b q).1⟩⟩
 done:=by intro X hP hw hK hc i pins s σ H E I Z st hg;subst hP hw hK;obtain ⟨xs,Y,hx⟩:=hg;obtain ⟨its,rv,p,hz⟩:=I.list Y;obtain ⟨f0,f1,f2,f3,f4,f5⟩:=Z it (by simp);have hl:=rv.length;exact wpAny_pyNext_list_end (I.ok.hd hc) st p.isList (by simp;lia) fun h' eb=>⟨rfl,I.turned (t':=s.toks) (fun b o q e=>eb b o q e) f0 f1 f3 f4 f5⟩
 self:=fun _ _ _ _ _ st h=>wpAny_pyIter_listiter st h
theorem nZ (a it:Addr):Turn P w K tg (Itt K a) [it] it (fun i h=>h.IsTupleIter it a i) where
 mem:=by simp
 obj:=fun i h st b q=>by
  have e:b=it:=by simpa using q
  subst e;obtain ⟨o,e,c,d⟩:=st;exact ⟨o,e,fun v z=>by rw [d] at z;cases z⟩
 keep:=fun i h h' st k=>st.at fun o e=>k it (by simp) o e
 item:=by
  intro X hP hw hK hc i pins s σ H E I Z st hg;subst hP hw hK;obtain ⟨xs,x,Y,hx⟩:=hg;obtain ⟨its,rv,p,hz⟩:=I.tuple Y;obtain ⟨u,hu,ru⟩:=rv.get hx;obtain ⟨f0,f1,f2,f3,f4,f5⟩:=Z it (by simp);refine wpAny_pyNext_tuple_item st (show s.heap.IsTuple a its.toArray from p) (x:=u) (by simpa using hu) fun h' O sb=>?_
  have I1:Inv X pins σ H {s with heap:=h'}:=I.turned (t':=s.toks) (fun b o q e=>(sb.2 b q).trans e) f0 f1 f3 f4 f5;obtain ⟨o,e,c,d⟩:=id O;exact ⟨u,rfl,km (s:={s with heap:=h'}) e c d (by decide) ⟨x,H,I1,ru,⟨rfl,fun ys hy=>by rw [I.tuple_inj hy Y];exact hx⟩,O,fun b q=>(Z b q).1⟩⟩
 done:=by intro X hP hw hK hc i pins s σ H E I Z st hg;subst hP hw hK;obtain ⟨xs,Y,hx⟩:=hg;obtain ⟨its,rv,p,hz⟩:=I.tuple Y;obtain ⟨f0,f1,f2,f3,f4,f5⟩:=Z it (by simp);have hl:=rv.length;exact wpAny_pyNext_tuple_end (I.ok.hd hc) st (show s.heap.IsTuple a its.toArray from p) (by simp;lia) fun h' eb=>⟨rfl,I.turned (t':=s.toks) (fun b o q e=>eb b o q e) f0 f1 f3 f4 f5⟩
 self:=fun _ _ _ _ _ st h=>wpAny_pyIter_tupleiter st h
theorem n4 {w:World} (it:Addr) (lo:Int) (n:Nat):Turn P w K tg (Itr lo n) [it] it (fun i h=>ze4 h it (lo+(i:Nat)*1) ((n:Int)-(i:Nat)) 1) where
 mem:=by simp
 obj:=fun i h st b q=>by
  have e:b=it:=by simpa using q
  subst e
  exact ⟨_,st,fun v z=>by have z':Data.fields _=Data.cell v:=z;cases z'⟩
 keep:=fun i h h' st k=>k it (by simp) _ st
 item:=by
  intro X hP hw hK hc i pins s σ H E I Y st hg;subst hP hw hK;obtain ⟨f0,f1,f2,f3,Z,f5⟩:=Y it (by simp);have W:=Walks.range (prog:=X.prog) (w:=X.w) (I.ok.hd hc) it lo 1 n;refine W.item i s _ _ hg st fun v h' tk hv O kk=>?_
  obtain ⟨t,rfl⟩:=hv;have I1:Inv X pins σ H {s with heap:=h',toks:=tk}:=I.turned (fun b o q e=>kk b o (by simpa using q) e) f0 f1 f3 Z f5;refine ⟨_,rfl,km (s:={s with heap:=h',toks:=tk}) (n:="range_iterator") O rfl rfl (by decide) ⟨.int (lo+i),H,I1,⟨t,?_⟩,⟨rfl,rfl⟩,O,fun b q=>(Y b q).1⟩⟩;rw [Int.mul_one]
 done:=by intro X hP hw hK hc i pins s σ H E I Y st hg;subst hP hw hK;obtain ⟨f0,f1,f2,f3,Z,f5⟩:=Y it (by simp);exact za5 (I.ok.hd hc) st (by have:n<=i:=hg;lia) fun h' eb=>⟨rfl,I.turned (t':=s.toks) (fun b o q e=>eb b o q e) f0 f1 f3 Z f5⟩
 self:=fun _ _ _ _ _ st h=>za6 st h
variable {l:Expr} {tl:TE} {ta:TA} {p:Pos} {fp:List Addr}
section
variable {X:Cx} {tg:Expr}
def BU (K:xA9) (tl:TE):TI:=fun σ H R=>tl σ H fun x H1=>∃ a,x=.ref a/\(∃ xs,SqL K H1 a xs)/\R (Itl K a) H1
def iTup (K:xA9) (tl:TE):TI:=fun σ H R=>tl σ H fun x H1=>∃ a,x=.ref a/\(∃ xs,SqT K H1 a xs)/\R (Itt K a) H1
theorem pE (Z:PE X l tl):PI X tg l (BU X.K tl):=by
 intro pins s σ H R I h;refine thn (Z pins s σ H _ I h) fun v s1 ⟨x,H1,O,Y,q1⟩=>?_
 obtain ⟨a,e,⟨xs,hq⟩,q⟩:=q1;subst e;cases Y;obtain ⟨its,rv,p,hz⟩:=O.list hq;refine qs6 p.isList ?_;refine ⟨s1.heap.objs.size,[s1.heap.objs.size],_,_,H1,rfl,O.kept (t':=s1.toks) fun b o e=>gP _ e,qJ a _,⟨_,qa8 _ rfl,rfl,rfl⟩,fun b hb=>?_,q⟩;have e:b=s1.heap.objs.size:=by simpa using hb
 subst e;exact O.fpOk (nL _) (O.hok.fresh (nL _))
theorem sx (Z:PE X l tl):PI X tg l (iTup X.K tl):=by
 intro pins s σ H R I h;refine thn (Z pins s σ H _ I h) fun v s1 ⟨x,H1,O,Y,q1⟩=>?_
 obtain ⟨a,e,⟨xs,hq⟩,q⟩:=q1;subst e;cases Y;obtain ⟨its,rv,p,hz⟩:=O.tuple hq;refine qw3 (show s1.heap.IsTuple a its.toArray from p) ?_;refine ⟨s1.heap.objs.size,[s1.heap.objs.size],_,_,H1,rfl,O.kept (t':=s1.toks) fun b o e=>gP _ e,nZ a _,⟨_,qa8 _ rfl,rfl,rfl⟩,fun b hb=>?_,q⟩;have e:b=s1.heap.objs.size:=by simpa using hb
 subst e;exact O.fpOk (nL _) (O.hok.fresh (nL _))
theorem mx {R:It->Hp->Prop} {lo hi:Int} {t u v:Tok} {tk:Nat} (I:Inv X pins σ H s) (h1:-(2^62)<=lo) (h2:lo<2^62) (h3:-(2^62)<=hi) (h4:hi<2^62)
 (q:R (Itr lo (hi-lo).toNat) H):wpAny (model X.prog X.w) X.A (zg6 (.ref s.heap.objs.size)) (PIE X pins σ tg R) E {s with heap:=s.heap.push {cls:=.type "range",data:=.fields #[.int lo t,.int hi u,.int 1 v]},toks:=tk}:=by
 refine wpAny_pyIter_range (IsRange.new ..) (small_one h1 h2 h3 h4) ?_;have O:Inv X pins σ H {s with heap:=s.heap.push {cls:=.type "range",data:=.fields #[.int lo t,.int hi u,.int 1 v]},toks:=tk}:=I.kept fun b o e=>gP _ e
 refine ⟨(s.heap.push {cls:=.type "range",data:=.fields #[.int lo t,.int hi u,.int 1 v]}).objs.size,[(s.heap.push {cls:=.type "range",data:=.fields #[.int lo t,.int hi u,.int 1 v]}).objs.size],_,_,H,rfl,O.kept (t':=tk) fun b o e=>gP _ e,n4 _ lo (hi-lo).toNat,?_,fun b hb=>?_,q⟩
 . have Y:lo+((0:Nat):Int)*1=lo:=by simp
   have Z:(((hi-lo).toNat:Nat):Int)-((0:Nat):Int)=qc6 lo hi 1:=by rw [rangeSize_one];split<;>lia
   show ze4 _ _ (lo+((0:Nat):Int)*1) ((((hi-lo).toNat:Nat):Int)-((0:Nat):Int)) 1;rw [Y,Z];exact qa8 _ rfl
 . have e:b=(s.heap.push {cls:=.type "range",data:=.fields #[.int lo t,.int hi u,.int 1 v]}).objs.size:=by simpa using hb
   subst e;exact O.fpOk (nL _) (O.hok.fresh (nL _))
def xO (ta:TA):TI:=fun σ H R=>ta σ H fun vs H1=>∃ j:Int,vs=[.int j]/\-(2^62)<=j/\j<2^62/\R (Itr 0 j.toNat) H1
def xP (ta:TA):TI:=fun σ H R=>ta σ H fun vs H1=>∃ i j:Int,vs=[.int i,.int j]/\(-(2^62)<=i/\i<2^62/\-(2^62)<=j/\j<2^62)/\R (Itr i (j-i).toNat) H1
theorem qK {a:Expr} (hg:Gl X "range") (hm:X.mg "range"=none) (ha:PA X [a] ta) (hs:qa9 [a] X.env=[(false,eval a X.env)]:=by rfl):PI X tg (.Call (.Name "range" p) [a] [] pos) (xO ta):=by
 intro pins s σ H R I h;refine Call_ (fq I hg hm boot_range (qf4 (thn (ha pos pins s σ H _ I h) fun us s1 ⟨vs,H1,Y,O,q1⟩=>?_) hs rfl));obtain ⟨j,e,q1,q2,q⟩:=q1;subst e;cases O with
 | cons r Z =>cases Z;obtain ⟨t,rfl⟩:=r;exact call_range_1 (mx Y (by lia) (by lia) q1 q2 (by simpa using q))
theorem qL {a b:Expr} (hg:Gl X "range") (hm:X.mg "range"=none) (ha:PA X [a,b] ta) (hs:qa9 [a,b] X.env=[(false,eval a X.env),(false,eval b X.env)]:=by rfl) (O:qa9 [b] X.env=[(false,eval b X.env)]:=by rfl) :
  PI X tg (.Call (.Name "range" p) [a,b] [] pos) (xP ta):=by
 intro pins s σ H R I h;refine Call_ (fq I hg hm boot_range (qf4 (thn (ha pos pins s σ H _ I h) fun us s1 ⟨vs,H1,I1,Z,q1⟩=>?_) (by rw [hs,O]) (by rw [O];rfl)));obtain ⟨i,j,e,⟨q1,q2,q3,q4⟩,q⟩:=q1;subst e;cases Z with
 | cons r Y =>
  cases Y with
  | cons r' Y =>cases Y;obtain ⟨t,rfl⟩:=r;obtain ⟨t',rfl⟩:=r';exact call_range_2 (mx I1 q1 q2 q3 q4 q)
noncomputable def tFor (wi:TI) (g:TG) (tb:TS):TS:=fun D σ H=>wi σ H fun J H1=>∃ W:Nat->Nat->St->Hp->Prop,(∃ m,W 0 m σ H1)/\∀ i m σ H,W i m σ H→ (J.stop i H/\D.nx σ H)∨(J.go i H/\∃ N:St->Hp->Prop,(∀ q H',N q H'->∃ Y,Y<m/\W (i+1) Y q H')/\∀ x H',J.yld i H x H'->g x σ H' fun O H2=>tb {D with nx:=N,ct:=N,bk:=D.nx} O H2)
def iu (fp:List Addr) (h:Heap):List (Addr×Obj):=fp.filterMap fun b=>(h.get? b).map fun o=>(b,o)
theorem dG {o:Obj} (q:b∈fp) (e:h.get? b=some o):(b,o)∈iu fp h:=qw4.mpr ⟨b,q,by rw [e];rfl⟩
theorem qM {p:Addr×Obj} (hp:p∈iu fp h):p.1∈fp/\h.get? p.1=some p.2:=by
 obtain ⟨b,O,e⟩:=qw4.mp hp;cases q:h.get? b with
 | none=>rw [q] at e;cases e
 | some o =>rw [q] at e;have Y:(b,o)=p:=qd6 e;subst Y;exact ⟨O,q⟩
theorem Inv.pinned (I:Inv X pins σ H s) (Z:∀ b∈fp,gu X pins H b) (Y:∀ b∈fp,∃ o,s.heap.get? b=some o/\∀ v,o.data≠.cell v):Inv X (pins++iu fp s.heap) σ H s:=
 I.pins_of fun p hp=>(qf9.mp hp).elim (fun z=>I.pin p (qc1 _ z)) fun z=>by
  obtain ⟨O,e⟩:=qM z;obtain ⟨f0,f1,f2,_⟩:=Z p.1 O;obtain ⟨o,q,d⟩:=Y p.1 O;rw [e] at q;cases q
  exact ⟨e,f0,f1,f2,d⟩
theorem Inv.unpinned {q:List (Addr×Obj)} (I:Inv X (pins++q) σ H s):Inv X pins σ H s:=I.pins_of fun p hp=>I.pin p (qc1 _ (qh0 _ hp))
theorem zA {iter:Expr} {wi:TI} (hp:zh5 (model X.prog X.w) X.A X.env X.xe) (hc:X.calm=true) (hi:PI X tg iter wi) (hg:PG X tg g) (hb:PSs X body tb)
 (hs:∀ x,qi4 iter X.env x=pure x:=by intro _;rfl):PS X (.For tg iter body [] pos) (tFor wi g tb):=by
 intro pins s σ H D I h;refine wpAny_For (thn (hi pins s σ H _ I h) fun v s1 h1=>thn h1 fun itv s2 h2=>?_) hs;obtain ⟨it,fp,tn,J,H2,e,I2,T,st2,f2,W,⟨m0,w0⟩,turn⟩:=h2;subst e
 -- what stays true of the iterator's objects through the loop
 have stat:∀ {H':Hp},(∀ b∈fp,H' b=none)->∀ b∈fp,gu X pins H' b:=fun hn b hb=>⟨hn b hb,(f2 b hb).2⟩
 refine codeAny_forLoop_any (fun n s'=>∃ i σ' H',Inv X pins σ' H' s'/\tn i s'.heap/\(∀ b∈fp,H' b=none)/\W i n σ' H') ?_ m0 ⟨0,σ,H2,I2,st2,fun b hb=>(f2 b hb).1,w0⟩;rintro n s3 ⟨i,σ3,H3,I3,st3,fr3,w3⟩;rcases turn i n σ3 H3 w3 with ⟨stop,qn⟩ | ⟨go,N,hN,step⟩
 . refine qm4 hp (thn (T.done X rfl rfl rfl hc i pins s3 σ3 H3 X.xe I3 (stat fr3) st3 stop) fun r s4 ⟨hr,I4⟩=>?_);subst hr;exact qv2 ⟨σ3,H3,I4,qn⟩
 . refine qm4 hp (thn (T.item X rfl rfl rfl hc i pins s3 σ3 H3 X.xe I3 (stat fr3) st3 go) fun r s4 ⟨u,hr,h4⟩=>?_);subst hr;refine qm4 hp (thn h4 fun _ s5 ⟨x,H5,I5,r5,y5,st5,fr5⟩=>?_);have I5':=I5.pinned (stat fr5) (T.obj _ _ st5);refine qm4 hp (thn (hg _ s5 σ3 H5 x u _ I5' r5 (step x H5 y5)) fun _ s6 ⟨σ6,H6,I6,q6⟩=>?_);refine qm4 hp (thn (hb _ s6 σ6 H6 _ I6 q6) fun f s7 q7=>?_)
   have O:∀ {q:St} {Y:Hp},Inv X (pins++iu fp s5.heap) q Y s7->N q Y->∃ m,m<n/\∃ i σ' H',Inv X pins σ' H' s7/\tn i s7.heap/\(∀ b∈fp,H' b=none)/\W i m σ' H':=fun {q Y} Z n7=>by obtain ⟨m',hm,w7⟩:=hN q Y n7;refine ⟨m',hm,i+1,q,Y,Z.unpinned,T.keep _ _ _ st5 fun b hb o e=>(Z.pin (b,o) (qc1 _ (qc1 _ (dG hb e)))).1,fun b hb=>?_,w7⟩;obtain ⟨o,e,d⟩:=T.obj _ _ st5 b hb;exact (Z.pin (b,o) (qc1 _ (qc1 _ (dG hb e)))).2.1
   cases f with
   | next=>obtain ⟨q,Y,Z,n7⟩:=q7;exact O Z n7
   | cont=>obtain ⟨q,Y,Z,n7⟩:=q7;exact O Z n7
   | brk=>obtain ⟨q,Y,Z,q7⟩:=q7;exact ⟨q,Y,Z.unpinned,q7⟩
   | ret v=>obtain ⟨x7,q,Y,Z,r7,q7⟩:=q7;exact ⟨x7,q,Y,Z.unpinned,r7,q7⟩
end
abbrev R2:=V->V->Hp->VK->Prop
noncomputable def OpR (X:Cx) (f:Value->Value->Sem Value) (r:R2):Prop:=
 ∀ (pins:List (Addr×Obj)) (s:qa4) (σ:St) (H:Hp) (x y:V) (v u:Value) (Q:VK),Inv X pins σ H s->RelV x v->RelV y u->r x y H Q→
  wpAny (model X.prog X.w) X.A (f v u) (EP X pins σ Q) X.xe s
noncomputable def UnR (X:Cx) (f:Value->Sem Value) (r:V->Hp->VK->Prop):Prop:=
 ∀ (pins:List (Addr×Obj)) (s:qa4) (σ:St) (H:Hp) (x:V) (v:Value) (Q:VK),Inv X pins σ H s->RelV x v->r x H Q→
  wpAny (model X.prog X.w) X.A (f v) (EP X pins σ Q) X.xe s
noncomputable def CallR (X:Cx) (f:Value) (r:List V->Hp->VK->Prop):Prop:=
 ∀ (pins:List (Addr×Obj)) (s:qa4) (σ:St) (H:Hp) (xs:List V) (us:List Value) (Q:VK),Inv X pins σ H s->Vals xs us->r xs H Q→
  wpAny (model X.prog X.w) X.A (call f us) (EP X pins σ Q) X.xe s
noncomputable def TruR (X:Cx) (r:V->Hp->(Bool->Hp->Prop)->Prop):Prop:=
 ∀ (pins:List (Addr×Obj)) (s:qa4) (σ:St) (H:Hp) (x:V) (v:Value) (Q:Bool->Hp->Prop),Inv X pins σ H s->RelV x v->r x H Q→
  wpAny (model X.prog X.w) X.A (truthy v) (TP X pins σ Q) X.xe s
def tOp (r:R2) (ta tb:TE):TE:=fun σ H Q=>ta σ H fun x H1=>tb σ H1 fun y H2=>r x y H2 Q
def tUn (r:V->Hp->VK->Prop) (ta:TE):TE:=fun σ H Q=>ta σ H fun x H1=>r x H1 Q
def rI (C:Int->Int->Prop) (g:Int->Int->V):R2:=fun x y H Q=>∃ i j,x=.int i/\y=.int j/\C i j/\Q (g i j) H
def rI0 (g:Int->Int->V):R2:=fun x y H Q=>∃ i j,x=.int i/\y=.int j/\Q (g i j) H
def rU (g:Int->V):V->Hp->VK->Prop:=fun x H Q=>∃ i,x=.int i/\Q (g i) H
variable {f:Value->Value->Sem Value} {r:R2}
section
variable {X:Cx} {a b c:Expr} {ta tb tc:TE} {pos:Pos}
theorem zB (ha:PE X a ta) (hb:PE X b tb) (I:Inv X pins σ H s)
 (h:ta σ H fun x H1=>tb σ H1 fun y H2=>R x y H2) {Q:Value->qa4->Prop} 
 (hf:∀ v u Y x y H2,Inv X pins σ H2 Y->RelV x v->RelV y u->R x y H2->wpAny (model X.prog X.w) X.A (f v u) Q X.xe Y) :
  wpAny (model X.prog X.w) X.A (eval a X.env) (fun v O=>wpAny (model X.prog X.w) X.A (eval b X.env) (fun u q=>wpAny (model X.prog X.w) X.A (f v u) Q X.xe q) X.xe O) X.xe s:=by
 refine thn (ha pins s σ H _ I h) fun v s1 ⟨x,H1,I1,Z,q1⟩=>?_
 refine thn (hb pins s1 σ H1 _ I1 q1) fun u Y ⟨y,H2,I2,r2,q2⟩=>?_
 exact hf v u Y x y H2 I2 Z r2 q2
theorem BV {O:Operator} (ho:OpR X (qm0 O) r) (ha:PE X a ta) (hb:PE X b tb):PE X (.BinOp a O b pos) (tOp r ta tb):=by intro pins s σ H Q I h;exact wpAny_BinOp (zB ha hb I h fun v u Y x y H2 Z rx ry q=>ho pins Y σ H2 x y v u Q Z rx ry q)
theorem BW {q:UnaryOp} {r:V->Hp->VK->Prop} (Z:UnR X (unaryOp q) r) (ha:PE X a ta):PE X (.UnaryOp q a pos) (tUn r ta):=by intro pins s σ H Q I h;exact UnaryOp_ (thn (ha pins s σ H _ I h) fun v s1 ⟨x,H1,Y,O,q1⟩=>Z pins s1 σ H1 x v Q Y O q1)
theorem opI {C:Int->Int->Prop} {g:Int->Int->Int}
 (O:∀ (i j:Int) (t u:Tok) (s:qa4) (Q:Value->qa4->Prop) (E:Value->qa4->Prop),C i j->Q (.int (g i j) s.toks) {s with toks:=s.toks+1}->wpAny (model X.prog X.w) X.A (f (.int i t) (.int j u)) Q E s) :
  OpR X f (rI C fun i j=>.int (g i j)):=by
 intro pins s σ H x y v u Q I Y ry h;obtain ⟨i,j,rfl,rfl,Z,q⟩:=h;obtain ⟨t,rfl⟩:=Y;obtain ⟨t',rfl⟩:=ry;exact O i j t t' s _ _ Z ⟨.int (g i j),H,I.tok _,⟨_,rfl⟩,q⟩
theorem opI0 {g:Int->Int->Int}
 (O:∀ (i j:Int) (t u:Tok) (s:qa4) (Q:Value->qa4->Prop) (E:Value->qa4->Prop),Q (.int (g i j) s.toks) {s with toks:=s.toks+1}->wpAny (model X.prog X.w) X.A (f (.int i t) (.int j u)) Q E s) :
  OpR X f (rI0 fun i j=>.int (g i j)):=by
 intro pins s σ H x y v u Q I Y Z h;obtain ⟨i,j,rfl,rfl,q⟩:=h;obtain ⟨t,rfl⟩:=Y;obtain ⟨t',rfl⟩:=Z;exact O i j t t' s _ _ ⟨.int (g i j),H,I.tok _,⟨_,rfl⟩,q⟩
theorem opB0 {g:Int->Int->Bool}
 (O:∀ (i j:Int) (t u:Tok) (s:qa4) (Q:Value->qa4->Prop) (E:Value->qa4->Prop),Q (.bool (g i j)) s->wpAny (model X.prog X.w) X.A (f (.int i t) (.int j u)) Q E s) :
  OpR X f (rI0 fun i j=>.bl (g i j)):=by
 intro pins s σ H x y v u Q I Y Z h;obtain ⟨i,j,rfl,rfl,q⟩:=h;obtain ⟨t,rfl⟩:=Y;obtain ⟨t',rfl⟩:=Z;exact O i j t t' s _ _ ⟨.bl (g i j),H,I,rfl,q⟩
def zC (i j:Int):Prop:=0<=j/\j<=1000000/\i.natAbs<2^64
def CMul (i j:Int):Prop:=(-(2^64)<i/\i<2^64)∨(-(2^64)<j/\j<2^64)
theorem CMul.ok {i j:Int} (h:CMul i j):IntMulOk i j:=by
 rcases h with ⟨h1,h2⟩ | ⟨h1,h2⟩
 . exact .of_left (intBits_le_64 h1 h2)
 . exact .of_right (intBits_le_64 h1 h2)
theorem zD:OpR X (qm0 .Add) (rI0 fun i j=>.int (i+j)):=opI0 fun _ _ _ _ _ _ _ q=>add_int q
theorem sy:OpR X (qm0 .Sub) (rI0 fun i j=>.int (i-j)):=opI0 fun _ _ _ _ _ _ _ q=>sub_int q
theorem gC:OpR X (qm0 .Mult) (rI CMul fun i j=>.int (i*j)):=opI fun _ _ _ _ _ _ _ O q=>mul_int q O.ok
theorem aY:OpR X (qm0 .Mod) (rI (fun _ j=>0<j) fun i j=>.int (i%j)):=opI fun i j _ _ _ _ _ O q=>by have h1:(0:Int)<j:=O;exact mod_int' (by lia) (by rw [Int.fmod_eq_emod_of_nonneg i (by lia)];exact q)
theorem zE:OpR X (qm0 .Pow) (rI zC fun i j=>.int (i^j.toNat)):=opI fun _ _ _ _ _ _ _ O q=>pow_int_small O.1 O.2.1 O.2.2 q
theorem unI {f:Value->Sem Value} {g:Int->Int}
  (O:∀ (i:Int) (t:Tok) (s:qa4) (Q:Value->qa4->Prop) (E:Value->qa4->Prop),Q (.int (g i) s.toks) {s with toks:=s.toks+1}->wpAny (model X.prog X.w) X.A (f (.int i t)) Q E s) :
  UnR X f (rU fun i=>.int (g i)):=by
 intro pins s σ H x v Q I Y h;obtain ⟨i,rfl,q⟩:=h;obtain ⟨t,rfl⟩:=Y;exact O i t s _ _ ⟨.int (g i),H,I.tok _,⟨_,rfl⟩,q⟩
theorem zF:UnR X (unaryOp .USub) (rU fun i=>.int (-i)):=unI fun _ _ _ _ _ q=>neg_int q
end
noncomputable def zG:V->V->Bool
 | .non,.non=>true | .non,.int _=>true | .int _,.non=>true | .non,.bl _=>true | .bl _,.non=>true | .non,.str _=>true | .str _,.non=>true
 | .int _,.int _=>true | .bl _,.bl _=>true | .str _,.str _=>true | .byt _,.byt _=>true
 | .int _,.str _=>true | .str _,.int _=>true | .bl _,.str _=>true | .str _,.bl _=>true
 | _,_=>false
def rEq:R2:=fun x y H Q=>zG x y=true/\Q (.bl (decide (x=y))) H
def rNe:R2:=fun x y H Q=>zG x y=true/\Q (.bl (!decide (x=y))) H
theorem pF {i j:Int}:decide (V.int i=V.int j)=(i==j):=by rw [qi9];simp
theorem sA {i j:Bool}:decide (V.bl i=V.bl j)=(i==j):=by rw [qi9];simp
theorem pG {i j:Str}:decide (V.str i=V.str j)=(i==j):=by rw [qi9];simp
theorem pH {i j:Array UInt8}:decide (V.byt i=V.byt j)=(i.toList==j.toList):=by rw [qi9];cases i;cases j;simp
section
variable {X:Cx} {a b c:Expr} {ta tb tc:TE} {pos:Pos}
theorem bp {Q:VK} {k k':Bool} (I:Inv X pins σ H s) (q:Q (.bl k) H) (e:k=k'):EP X pins σ Q (.bool k') s:=by subst e;exact ⟨.bl k,H,I,rfl,q⟩
theorem BX:OpR X (qg5 .Eq) rEq:=by
 intro pins s σ H x y v u Q I Z O h;obtain ⟨Y,q⟩:=h;cases x with
 | non =>
  cases Z;cases y with
  | non=>cases O;exact PySem.EqNone.eq_none_none (bp I q (by simp))
  | bl j=>cases O;exact PySem.EqNone.eq_none_bool (bp I q (by simp))
  | int j=>obtain ⟨t',rfl⟩:=O;exact PySem.EqNone.eq_none_int (bp I q (by simp))
  | str j=>obtain ⟨t',rfl⟩:=O;exact PySem.EqNone.eq_none_str (bp I q (by simp))
  | _=>exact absurd (show false=true from Y) qb6
 | bl i =>
  cases Z;cases y with
  | non=>cases O;exact PySem.EqNone.eq_bool_none (bp I q (by simp))
  | bl j=>cases O;exact eq_bool (bp I q sA)
  | str j=>obtain ⟨t',rfl⟩:=O;exact PySem.EqMixed.eq_bool_str (bp I q (by simp))
  | _=>exact absurd (show false=true from Y) qb6
 | int i =>
  obtain ⟨t,rfl⟩:=Z;cases y with
  | non=>cases O;exact PySem.EqNone.eq_int_none (bp I q (by simp))
  | int j=>obtain ⟨t',rfl⟩:=O;exact eq_int (bp I q pF)
  | str j=>obtain ⟨t',rfl⟩:=O;exact PySem.EqMixed.eq_int_str (bp I q (by simp))
  | _=>exact absurd (show false=true from Y) qb6
 | str i =>
  obtain ⟨t,rfl⟩:=Z;cases y with
  | non=>cases O;exact PySem.EqNone.eq_str_none (bp I q (by simp))
  | bl j=>cases O;exact PySem.EqMixed.eq_str_bool (bp I q (by simp))
  | int j=>obtain ⟨t',rfl⟩:=O;exact PySem.EqMixed.eq_str_int (bp I q (by simp))
  | str j=>obtain ⟨t',rfl⟩:=O;exact eq_str (bp I q pG)
  | _=>exact absurd (show false=true from Y) qb6
 | byt i =>
  obtain ⟨t,rfl⟩:=Z;cases y with
  | byt j=>obtain ⟨t',rfl⟩:=O;exact PySem.W.eq_bytes (bp I q pH)
  | _=>exact absurd (show false=true from Y) qb6
 | _=>cases y<;>exact absurd (show false=true from Y) qb6
theorem BY:OpR X (qg5 .NotEq) rNe:=by
 intro pins s σ H x y v u Q I Z O h;obtain ⟨Y,q⟩:=h;cases x with
 | non =>
  cases Z;cases y with
  | non=>cases O;exact PySem.EqNone.ne_none_none (bp I q (by simp))
  | bl j=>cases O;exact PySem.EqNone.ne_none_bool (bp I q (by simp))
  | int j=>obtain ⟨t',rfl⟩:=O;exact PySem.EqNone.ne_none_int (bp I q (by simp))
  | str j=>obtain ⟨t',rfl⟩:=O;exact PySem.EqNone.ne_none_str (bp I q (by simp))
  | _=>exact absurd (show false=true from Y) qb6
 | bl i =>
  cases Z;cases y with
  | non=>cases O;exact PySem.EqNone.ne_bool_none (bp I q (by simp))
  | bl j=>cases O;exact ne_bool (bp I q (congrArg not sA))
  | str j=>obtain ⟨t',rfl⟩:=O;exact PySem.EqMixed.ne_bool_str (bp I q (by simp))
  | _=>exact absurd (show false=true from Y) qb6
 | int i =>
  obtain ⟨t,rfl⟩:=Z;cases y with
  | non=>cases O;exact PySem.EqNone.ne_int_none (bp I q (by simp))
  | int j=>obtain ⟨t',rfl⟩:=O;exact ne_int (bp I q (congrArg not pF))
  | str j=>obtain ⟨t',rfl⟩:=O;exact PySem.EqMixed.ne_int_str (bp I q (by simp))
  | _=>exact absurd (show false=true from Y) qb6
 | str i =>
  obtain ⟨t,rfl⟩:=Z;cases y with
  | non=>cases O;exact PySem.EqNone.ne_str_none (bp I q (by simp))
  | bl j=>cases O;exact PySem.EqMixed.ne_str_bool (bp I q (by simp))
  | int j=>obtain ⟨t',rfl⟩:=O;exact PySem.EqMixed.ne_str_int (bp I q (by simp))
  | str j=>obtain ⟨t',rfl⟩:=O;exact ne_str (bp I q (congrArg not pG))
  | _=>exact absurd (show false=true from Y) qb6
 | byt i =>
  obtain ⟨t,rfl⟩:=Z;cases y with
  | byt j=>obtain ⟨t',rfl⟩:=O;exact PySem.W.ne_bytes (bp I q (congrArg not pH))
  | _=>exact absurd (show false=true from Y) qb6
 | _=>cases y<;>exact absurd (show false=true from Y) qb6
theorem jn:OpR X (qg5 .Lt) (rI0 fun i j=>.bl (decide (i<j))):=opB0 fun _ _ _ _ _ _ _ q=>lt_int q
theorem xQ:OpR X (qg5 .Gt) (rI0 fun i j=>.bl (decide (j<i))):=opB0 fun _ _ _ _ _ _ _ q=>gt_int q
theorem qN:OpR X (qg5 .In) (fun x y H Q=>∃ i j,x=.str i/\y=.str j/\Q (.bl (!(qr5 j i 0 j.length 1).isEmpty)) H):=by intro pins s σ H x y v u Q I O Y h;obtain ⟨i,j,rfl,rfl,q⟩:=h;obtain ⟨t,rfl⟩:=O;obtain ⟨t',rfl⟩:=Y;exact in_str (bp I q rfl)
theorem jo:OpR X (qg5 .Is) (fun x y H Q=>y=.non/\Q (.bl (decide (x=.non))) H):=by
 intro pins s σ H x y v u Q I O Y h;obtain ⟨rfl,q⟩:=h;cases Y;refine is_none_gen (bp I q ?_)
 cases x<;>first
  | (cases O;rfl)
  | (obtain ⟨t,rfl⟩:=O;rfl)
theorem vJ:OpR X (qg5 .IsNot) (fun x y H Q=>y=.non/\Q (.bl (!decide (x=.non))) H):=by
 intro pins s σ H x y v u Q I O Y h;obtain ⟨rfl,q⟩:=h;cases Y;refine isnot_none_gen (bp I q ?_)
 cases x<;>first
  | (cases O;rfl)
  | (obtain ⟨t,rfl⟩:=O;rfl)
theorem OpR.or {Z:R2} (h:OpR X f r) (h':OpR X f Z):OpR X f (fun x y H Q=>r x y H Q∨Z x y H Q):=by
 intro pins s σ H x y v u Q I O Y q;rcases q with q | q
 . exact h pins s σ H x y v u Q I O Y q
 . exact h' pins s σ H x y v u Q I O Y q
theorem aF (b:Expr) {q:CmpOp} (h:q≠.In:=by decide) (h2:q≠.NotIn:=by decide):qh9 q b=false:=by
 have O:(q==CmpOp.In)=false:=by cases q<;>first | rfl | exact absurd rfl h
 have Y:(q==CmpOp.NotIn)=false:=by cases q<;>first | rfl | exact absurd rfl h2
 cases b<;>simp [qh9,O,Y]
theorem pI {O:CmpOp} (ho:OpR X (qg5 O) r) (ha:PE X a ta) (hb:PE X b tb) (hm:qh9 O b=false):PE X (.Compare a [O] [b] pos) (tOp r ta tb):=by intro pins s σ H Q I h;exact wpAny_Compare1 (zB ha hb I h fun v u Y x y H2 Z rx ry q=>ho pins Y σ H2 x y v u Q Z rx ry q) hm
def BZ (t:TE):TT:=fun σ H Q=>t σ H fun x H'=>∃ k,x=.bl k/\Q k H'
theorem lB {q:CmpOp} (ho:OpR X (qg5 q) r) (ha:PE X a ta) (hb:PE X b tb) (hm:qh9 q b=false):PT X (.Compare a [q] [b] pos) (BZ (tOp r ta tb)):=by
 intro pins s σ H Q I h
 refine zb9 (thn (ha pins s σ H _ I h) fun v s1 ⟨x,H1,I1,O,q1⟩=>thn (hb pins s1 σ H1 _ I1 q1) fun u Y ⟨y,H2,I2,r2,q2⟩ =>thn (ho pins Y σ H2 x y v u _ I2 O r2 q2) fun c s3 ⟨z,H3,Z,r3,k,e,q3⟩=>?_) hm
 subst e;cases r3;exact qj8 ⟨H3,Z,q3⟩
noncomputable def zH (K:xA9) (x:V) (H:Hp) (k:Bool):Prop:=
 match x with
 | .non=>k=false
 | .bl b=>k=b
 | .int i=>k=(i != 0)
 | .str y=>y.length<=qb2/\k=((y.length:Int) != 0)
 | .byt y=>y.size<=qb2/\k=((y.size:Int) != 0)
 | .ref p=>(∃ xs,SqL K H p xs/\k=!xs.isEmpty)∨(∃ xs,SqT K H p xs/\k=!xs.isEmpty)∨∃ kvs,H p=some (.dK kvs)/\k=!kvs.isEmpty
 | _=>False
theorem n5 {κ:Type} {kvs:List (κ×V)} {vs:List (κ×Value)} (r:KV kvs vs):(!vs.isEmpty)=!kvs.isEmpty:=by cases r<;>rfl
theorem jp {its:List Value} (r:Vals xs its):(!its.toArray.isEmpty)=!xs.isEmpty:=by cases r<;>simp
theorem iw:(qb2:Nat)<2^63:=by rw [ze5];decide
theorem zI:TruR X (fun x H Q=>∃ k,zH X.K x H k/\Q k H):=by
 intro pins s σ H x v Q I rx h;obtain ⟨k,e,q⟩:=h;have hl:=iw;have hs:qb2=16777216:=ze5;cases x with
 | non =>cases rx;have e':k=false:=e;subst e';exact truthy_none ⟨H,I,q⟩
 | bl b =>cases rx;have e':k=b:=e;subst e';exact qj8 ⟨H,I,q⟩
 | int i =>obtain ⟨t,rfl⟩:=rx;have e':k=(i != 0):=e;subst e';exact PySem.P.truthy_int ⟨H,I,q⟩
 | str y =>obtain ⟨t,rfl⟩:=rx;obtain ⟨hy,e'⟩:y.length<=qb2/\k=((y.length:Int) != 0):=e;subst e';exact PySem.P.truthy_str (by lia) ⟨H,I.tok _,q⟩
 | byt y =>obtain ⟨t,rfl⟩:=rx;obtain ⟨hy,e'⟩:y.size<=qb2/\k=((y.size:Int) != 0):=e;subst e';exact PySem.W.truthy_bytes (by lia) ⟨H,I.tok _,q⟩
 | ref p =>
  cases rx;have e':(∃ xs,SqL X.K H p xs/\k=!xs.isEmpty)∨(∃ xs,SqT X.K H p xs/\k=!xs.isEmpty)∨∃ kvs,H p=some (.dK kvs)/\k=!kvs.isEmpty:=e;rcases e' with ⟨xs,hx,e'⟩ | ⟨xs,hx,e'⟩ | ⟨kvs,hx,e'⟩
  . subst e';obtain ⟨its,r,pl,hz⟩:=I.list hx;have hlen:=r.length;exact wpAny_truthy_list pl.isList (by simp only [qb5];lia) ⟨H,I.tok _,by rw [jp r];exact q⟩
  . subst e';obtain ⟨its,r,pl,hz⟩:=I.tuple hx;have hlen:=r.length;exact truthy_tuple pl (by simp only [qb5];lia) ⟨H,I.tok _,by rw [jp r];exact q⟩
  . subst e';obtain ⟨hz,hS,vs,r,m⟩:kvs.length<=qb2/\(p==qi2)=false/\∃ vs,KV kvs vs/\s.heap.DictOf (bK X.prog X.w) p vs:=I.hok p _ hx;have hlen:kvs.length=vs.length:=Paired.length r;exact wpAny_truthy_dict hS m (by lia) ⟨H,I.tok _,by rw [n5 r];exact q⟩
 | _=>exact (show False from e).elim
theorem sB (ha:PE X a ta) (Y:∀ q,isTrue a X.env q=(do let v <- q;standAt a.pos;zc1 [v] (truthy v))) :
  PT X a (fun σ H Q=>ta σ H fun x H'=>∃ k,zH X.K x H' k/\Q k H'):=by
 intro pins s σ H Q I h;exact isTrue_plain (thn (ha pins s σ H _ I h) fun v s1 ⟨x,H1,Z,O,q1⟩=>zI pins s1 σ H1 x v Q Z O q1) (Y _)
theorem n6:OpR X (qm0 .Add) (fun x y H Q=>∃ i j,x=.str i/\y=.str j/\i.length+j.length<=qb2/\Q (.str (i++j)) H):=by intro pins s σ H x y v u Q I O Z h;obtain ⟨i,j,rfl,rfl,Y,q⟩:=h;obtain ⟨t,rfl⟩:=O;obtain ⟨t',rfl⟩:=Z;exact add_str (fun t' tk=>⟨.str (i++j),H,I.tok _,⟨_,rfl⟩,q⟩) Y
theorem eD {x:V} (r:Vals [x] us):∃ u,us=[u]/\RelV x u:=by
 cases r with
 | cons O q=>cases q;exact ⟨_,rfl,O⟩
theorem B1 {x:V} (r:Vals [x,y] us):∃ u w',us=[u,w']/\RelV x u/\RelV y w':=by
 cases r with
 | cons O Y =>
  cases Y with
  | cons Z q=>cases q;exact ⟨_,_,rfl,O,Z⟩
theorem qO:CallR X (.type "int") (fun xs H Q=>(∃ i,xs=[.int i]/\Q (.int i) H)∨∃ k,xs=[.bl k]/\Q (.int (if k then 1 else 0)) H):=by
 intro pins s σ H xs us Q I r h;rcases h with ⟨i,rfl,q⟩ | ⟨k,rfl,q⟩
 . obtain ⟨u,rfl,t,rfl⟩:=eD r;exact call_int_int ⟨.int i,H,I,⟨_,rfl⟩,q⟩
 . obtain ⟨u,rfl,O⟩:=eD r;cases O;exact call_int_bool ⟨.int (if k then 1 else 0),H,I.tok _,⟨_,rfl⟩,q⟩
noncomputable def LenV (K:xA9) (x:V) (H:Hp) (n:Nat):Prop:=
 match x with
 | .str y=>y.length<=qb2/\n=y.length
 | .byt y=>y.size<=qb2/\n=y.size
 | .ref p=>(∃ xs,SqL K H p xs/\n=xs.length)∨∃ xs,SqT K H p xs/\n=xs.length
 | _=>False
theorem bt:CallR X (.builtin "len") (fun xs H Q=>∃ x n,xs=[x]/\LenV X.K x H n/\Q (.int n) H):=by
 intro pins s σ H xs us Q I r h;obtain ⟨x,n,rfl,e,q⟩:=h;obtain ⟨u,rfl,rx⟩:=eD r;have hl:=iw;have hs:qb2=16777216:=ze5;cases x with
 | str y =>obtain ⟨t,rfl⟩:=rx;obtain ⟨hy,e'⟩:y.length<=qb2/\n=y.length:=e;subst e';exact len_str (by lia) ⟨.int _,H,I.tok _,⟨_,rfl⟩,q⟩
 | byt y =>obtain ⟨t,rfl⟩:=rx;obtain ⟨hy,e'⟩:y.size<=qb2/\n=y.size:=e;subst e';exact PySem.W.len_bytes (by lia) ⟨.int _,H,I.tok _,⟨_,rfl⟩,q⟩
 | ref p =>
  cases rx;have e':(∃ xs,SqL X.K H p xs/\n=xs.length)∨∃ xs,SqT X.K H p xs/\n=xs.length:=e;rcases e' with ⟨xs,hx,e'⟩ | ⟨xs,hx,e'⟩
  . subst e';obtain ⟨its,r',pl,hz⟩:=I.list hx;have hlen:=r'.length;exact Calls.call_len_list pl.isList (by simp only [qb5];lia) ⟨.int xs.length,H,I.tok _,⟨_,by simp only [qb5];rw [hlen]⟩,q⟩
  . subst e';obtain ⟨its,r',pl,hz⟩:=I.tuple hx;have hlen:=r'.length;exact len_tuple pl (by simp only [qb5];lia) ⟨.int xs.length,H,I.tok _,⟨_,by simp only [qb5];rw [hlen]⟩,q⟩
 | _=>exact (show False from e).elim
end
structure ObjM (h:Heap) (x dx C:Addr) (mA:Str->Option Value):Prop where
 obj:h.get? x=some (xO9 C dx)
 ns:h.Ns1 dx mA
 ne:dx≠x
variable {dx:Addr} {mA:Str->Option Value}
theorem qP (n:h.Ns1 dx mA):∃ od,h.get? dx=some od/\∀ name,PySem.W.lookIn name od=some (mA name):=by
 obtain ⟨o,es,ep,ho,hd,Y,_,hm⟩:=n;refine ⟨o,ho,fun name=>?_⟩;have e:=hm name;unfold nsFind findBy at e;rw [<- Array.find?_toList] at e;unfold PySem.W.lookIn;rw [hd];dsimp only;split
 . rename_i y q;rw [q] at e;exact congrArg some e
 . rename_i q;rw [q] at e
   have a:es.toList.any (·.refKey)=false:=by rw [List.any_eq_false];intro y hy;obtain ⟨z,t,O⟩:=Y y (Array.mem_toList_iff.mp hy);simp [zh6.refKey,O]
   have Z:¬ es.toList.any (·.refKey)=true:=by rw [a];exact qb6
   rw [if_neg Z];exact congrArg some e
variable {C:Addr}
theorem ObjM.look {x:Addr} (I:ObjM h x dx C mA):∃ od,PySem.W.InstAt h x (xO9 C dx) C (some od)/\∀ name,PySem.W.lookIn name od=some (mA name):=
 let ⟨od,ho,hl⟩:=qP I.ns
 ⟨od,⟨I.obj,rfl,rfl,ho⟩,hl⟩
section
variable {prog:qc2} {w:World} {A:qd8} {E:Value->qa4->Prop} {s:qa4} {K:xA9} {x dx C f:Addr} {mA:Str->Option Value} {name:Str} {v:Value}
end
theorem RelO.some_of {o:Option Value} (r:RelO (some v) o):∃ u,o=some u/\RelV v u:=by
 cases o with
 | none=>exact (show False from r).elim
 | some u=>exact ⟨u,rfl,r⟩
section
variable {P:qc2} {w:World} {H H':Hp} {h h':Heap} {a C dx:Addr} {fs fs':List (Str×V)}
theorem vK (O:HOk P w H h) (e:H a=some (.ins C dx fs)):∃ mA,ObjM h a dx C mA/\(∀ f,RelO (fs.lookup f) (mA f))/\PySem.Within mA (fs.map (·.1))/\fs.length<=1000/\H dx=some (.own a):=by obtain ⟨d,z,Y,ob,mA,n,r,q⟩:=(show ObjOk P w H h a (.ins C dx fs) from O a _ e);exact ⟨mA,⟨ob,n,Y⟩,r,q,z,d⟩
end
structure Cls (K:xA9) (C:Addr):Prop where
 pg:PySem.W.plainGet K C Str.empty=true
 hd:PySem.W.hasDictIn K C=true
 po:PySem.W.plainOver K C=true
 sa:PySem.W.findIn K (.ref C) "__setattr__"=some (some (.builtin "object.__setattr__"))
theorem Cls.get (c:Cls K C) (f:Str):PySem.W.plainGet K C f=true:=c.pg
section
variable {X:Cx} {pins:List (Addr×Obj)} {σ:St} {H:Hp} {s:qa4} {a C dx:Addr} {fs:List (Str×V)} {f:Str} {v:V} {A:qd8} {E:Value->qa4->Prop}
end
section
variable {X:Cx} {o e value:Expr} {f:Str} {pos pos' tpos:Pos} {ta tv:TE}
end
section
variable {X:Cx} {pins:List (Addr×Obj)} {σ:St} {H:Hp} {s:qa4} {A:qd8} {E:Value->qa4->Prop} {Q:Value->qa4->Prop} {c:Value} {b:Bool}
inductive TyOf (K:xA9) (H:Hp):V->Value->Prop where
 | non:TyOf K H .non (.type "NoneType")
 | bl (x:Bool):TyOf K H (.bl x) (.type "bool")
 | int (i:Int):TyOf K H (.int i) (.type "int")
 | str (x:Str):TyOf K H (.str x) (.type "str")
 | flt (x:UInt64):TyOf K H (.flt x) (.type "float")
 | lst {a:Addr} {xs:List V} (e:H a=some (.lst xs)):TyOf K H (.ref a) (.type "list")
 | frz {a:Addr} {o:Obj} {xs:List V} (e:H a=some (.frz o (.lst xs))):TyOf K H (.ref a) (.type "list")
 | tup {a:Addr} {xs:List V} (e:H a=some (.tup xs)):TyOf K H (.ref a) (.type "tuple")
 | dK {a:Addr} {kvs:List (Key×V)} (e:H a=some (.dK kvs)):TyOf K H (.ref a) (.type "dict")
 | dT {a:Addr} {kvs:List (List Key×V)} (e:H a=some (.dT kvs)):TyOf K H (.ref a) (.type "dict")
 | ins {a C dx:Addr} {fs:List (Str×V)} (e:H a=some (.ins C dx fs)) (cl:Cls K C) (ha:PySem.W.findIn K (.ref C) "__class__"=some (some (.builtin "object.__class__")))
     (hn:PySem.W.specialIn K (.builtin "object.__class__") "__get__"=some (some (.builtin "getset_descriptor.__get__"))) (htk:PySem.W.takesIn K (.builtin "object.__class__")=some true)
     (hm:PySem.W.mroIn K C (.type "object")=some true):TyOf K H (.ref a) (.ref C)
theorem gk {x:V} {t:Value} (I:Inv X pins σ H s) (Y:RelV x u) (ty:TyOf X.K H x t) (e:xL9 X.K t c=some b) (h:∀ tk,Q (.bool b) {s with toks:=tk}) :
  wpAny (model X.prog X.w) A (call (.builtin "isinstance") [u,c]) Q E s:=by
 cases ty with
 | non=>cases (show u=qh2 from Y);exact xD9 PySem.W.kitx_none I.kIn qn8 e (fun z=>nomatch z) h
 | bl y=>cases (show u=qq9 y from Y);exact xD9 PySem.W.kitx_bool I.kIn qn8 e (fun z=>nomatch z) h
 | int i=>obtain ⟨t,q⟩:=(show ∃ t,u=zh3 i t from Y);cases q;exact xD9 PySem.W.kitx_int I.kIn qn8 e (fun z=>nomatch z) h
 | str y=>obtain ⟨t,q⟩:=(show ∃ t,u=zh4 y t from Y);cases q;exact xD9 PySem.W.kitx_str I.kIn qn8 e (fun z=>nomatch z) h
 | flt y=>obtain ⟨t,q⟩:=(show ∃ t,u=Value.float y t from Y);cases q;exact xD9 PySem.W.kitx_float I.kIn qn8 e (fun z=>nomatch z) h
 | @lst a xs Z =>cases (show u=qe9 a from Y);obtain ⟨_,_,n,_,h1⟩:=(show ObjOk X.prog X.w H s.heap a (.lst xs) from I.hok a _ Z);exact xD9 xQ9 I.kIn ⟨_,h1,rfl⟩ e (fun z=>nomatch z) h
 | @frz a ob xs Z =>cases (show u=qe9 a from Y);obtain ⟨_,_,_,n,_,h1⟩:=(show ObjOk X.prog X.w H s.heap a (.frz ob (.lst xs)) from I.hok a _ Z);exact xD9 xQ9 I.kIn ⟨_,h1,rfl⟩ e (fun z=>nomatch z) h
 | @tup a xs Z =>cases (show u=qe9 a from Y);obtain ⟨_,_,_,p⟩:=(show ObjOk X.prog X.w H s.heap a (.tup xs) from I.hok a _ Z);obtain ⟨o,h1,h2,_⟩:=p;exact xD9 PySem.W.kitx_tuple I.kIn ⟨o,h1,h2⟩ e (fun z=>nomatch z) h
 | @dK a kvs Z =>cases (show u=qe9 a from Y);obtain ⟨_,_,vs,_,p⟩:=(show ObjOk X.prog X.w H s.heap a (.dK kvs) from I.hok a _ Z);obtain ⟨o,es,ep,h1,h2,_⟩:=p;exact xD9 xM9 I.kIn ⟨o,h1,h2.1⟩ e (fun z=>nomatch z) h
 | @dT a kvs Z =>cases (show u=qe9 a from Y);obtain ⟨_,_,xs,_,o,es,ep,h1,h2,_⟩:=(show ObjOk X.prog X.w H s.heap a (.dT kvs) from I.hok a _ Z);exact xD9 xM9 I.kIn ⟨o,h1,h2.1⟩ e (fun z=>nomatch z) h
 | @ins a C dx fs Z cl ha hn htk hm =>cases (show u=qe9 a from Y);obtain ⟨mA,O,_⟩:=vK I.hok Z;obtain ⟨od,J,_⟩:=O.look;exact xD9 (PySem.W.kitx_own (cl.get _) cl.hd ha hn htk hm) I.kIn J e (fun z=>nomatch z) h
end
structure Room (k:Nat) (A:qd8):Prop where
 hd:A.handled=none
 dp:A.depth+3*k+5<recursionLimit
 un:A.units+16*k+200<cLine
theorem Room.mono {k:Nat} (r:Room k A) (h:j<=k):Room j A:=⟨r.hd,by have:=r.dp;lia,by have:=r.un;lia⟩
theorem Room.deeper {k:Nat} (r:Room (k+1) A) (env:Env):Room k (A.deeper env):=⟨r.hd,by have:=r.dp;show A.depth+1+3*k+5<_;lia,by have:=r.un;show A.units+3+16*k+200<_;lia⟩
theorem Room.depth {k:Nat} (r:Room k A):A.depth<recursionLimit:=by have:=r.dp;lia
theorem Room.units {k:Nat} (r:Room k A):A.units+64<cLine:=by have:=r.un;lia
def tNil:TA:=fun _ H Q=>Q [] H
def B2 (ta:TE) (q:TA):TA:=fun σ H Q=>ta σ H fun x H1=>q σ H1 fun xs H2=>Q (x::xs) H2
section
variable {X:Cx} {e:Expr} {es:List Expr} {te:TE} {t:TA} {pos:Pos}
theorem fO:PA X [] tNil:=fun _ _ _ _ H Q I h=>Calls.spliced_nil ⟨[],H,I,.nil,h⟩
theorem dq (ha:PE X e te) (Z:PA X es t) (hs:qa9 (e::es) X.env=(false,eval e X.env)::qa9 es X.env:=by rfl):PA X (e::es) (B2 te t):=by intro pos pins s σ H Q I h;rw [hs];show wpAny _ _ (spliced ((false,eval e X.env)::qk0 pos (qa9 es X.env))) _ _ s;refine Calls.spliced_cons (thn (ha pins s σ H _ I h) fun u s1 ⟨x,H1,Y,q,q1⟩=>?_);exact thn (Z pos pins s1 σ H1 _ Y q1) fun us s2 ⟨xs,H2,O,r2,q2⟩=>⟨x::xs,H2,O,.cons q r2,q2⟩
def tTup (t:TA):TE:=fun σ H Q=>t σ H fun xs H1=>xs.length<=qb2/\∀ p,H1 p=none->Q (.ref p) (upd H1 p (.tup xs))
def tLst (t:TA):TE:=fun σ H Q=>t σ H fun xs H1=>xs.length<=qb2/\∀ p,H1 p=none->Q (.ref p) (upd H1 p (.lst xs))
theorem zJ {x1} (h:PA X es t):PE X (.Tuple es x1 pos) (tTup t):=by intro pins s σ H Q I Y;refine wpAny_Tuple_spliced (thn (h pos pins s σ H _ I Y) fun us s1 ⟨xs,H1,O,r,z,q⟩=>⟨by rw [<- r.length];exact z,?_⟩);have Z:H1 s1.heap.objs.size=none:=O.hok.fresh (nL _);refine ⟨.ref s1.heap.objs.size,upd H1 s1.heap.objs.size (.tup xs),O.laid (t':=s1.toks) (fun b u e=>gP _ e) (nL _) ?_,rfl,q _ Z⟩;exact ⟨z,us,r,⟨_,qa8 _ rfl,rfl,_,rfl⟩⟩
theorem zK (h:PA X es t):PE X (.List es pos) (tLst t):=by intro pins s σ H Q I Y;refine wpAny_List_spliced (thn (h pos pins s σ H _ I Y) fun us s1 ⟨xs,H1,O,r,z,q⟩=>⟨by rw [<- r.length];exact z,?_⟩);have Z:H1 s1.heap.objs.size=none:=O.hok.fresh (nL _);refine ⟨.ref s1.heap.objs.size,upd H1 s1.heap.objs.size (.lst xs),O.laid (t':=s1.toks) (fun b u e=>gP _ e) (nL _) ?_,rfl,q _ Z⟩;exact ⟨z,us,0,r,qa8 _ rfl⟩
end
abbrev Sp:=List V->Hp->VK->XK->Prop
abbrev CXT:=List Env->Hp->qa4->XK->Value->qa4->Prop
structure Env0 (P:qc2) (w:World) (K:xA9) (mg:Str->Option Value) (base:Heap) (A:qd8) (outer:List Env) (s:qa4) (H:Hp):Prop where
 frames:A.frames=some outer
 mod:Mod K mg base
 bs:∀ b o,base.get? b=some o->s.heap.get? b=some o/\H b=none
 bsz:base.objs.size<=s.heap.objs.size
 funs:s.heap.FunFrames base outer
 frf:∀ b∈frs outer,H b=none
 hok:HOk P w H s.heap
 bare:zb6 s.gens
 tb:∀ p∈dE K,H p.1=some (.ctab p.2)
def CE (outer:List Env) (P:qc2) (w:World) (H:Hp) (s:qa4) (Q:VK) (u:Value) (s':qa4):Prop:=∃ v H',s'.os=s.os/\zb6 s'.gens/\Un (frs outer) [] H H' s.heap s'.heap/\HOk P w H' s'.heap/\RelV v u/\Q v H'
def CR (CX:CXT) (outer:List Env) (P:qc2) (w:World) (H:Hp) (s:qa4) (Q:VK) (E:XK) (r:Result) (s':qa4):Prop:=
 match r with
 | .ok (.ret u)=>CE outer P w H s Q u s'
 | .ok _=>False
 | .error e=>CX outer H s E e s'
structure FnOk (P:qc2) (w:World) (K:xA9) (mg:Str->Option Value) (base:Heap) (CX:CXT) (k:Nat) (f:Addr) (fd:qp2) (ps:List Str) (sp:Sp):Prop where
 len:∀ vs H Q E,sp vs H Q E->vs.length=ps.length
 run:∀ (A:qd8) (outer:List Env) (s:qa4) (H:Hp) (args:Args) (us:List Value) (vs:List V) (Q:VK) (E:XK),Room k A->Env0 P w K mg base A outer s H->qz0 s fd args (ps.zip us)->Vals vs us->sp vs H Q E→
  qq1 (model P w) A (.call (.ref f) args) (CR CX outer P w H s Q E) s
variable {mg:Str->Option Value} {base:Heap} {CX:CXT} {fd:qp2} {ps:List Str} {sp:Sp}
theorem FnOk.imp {k:Nat} {f:Addr} {O:Sp} (F:FnOk P w K mg base CX k f fd ps sp)
 (h:∀ vs H Q E,O vs H Q E->sp vs H Q E):FnOk P w K mg base CX k f fd ps O:=
 ⟨fun vs H Q E q=>F.len vs H Q E (h _ _ _ _ q),fun A outer s H Y us vs Q E hr Z hb hv hs=>F.run A outer s H Y us vs Q E hr Z hb hv (h _ _ _ _ hs)⟩
section
variable {X:Cx} {pins:List (Addr×Obj)} {σ:St} {H:Hp} {s s':qa4}
theorem Inv.env0 (I:Inv X pins σ H s):Env0 X.prog X.w X.K X.mg X.base X.A X.stack s H:=⟨I.ok.frames,I.ok.mod,I.bs,qc4 I.ok.bsz I.sz,I.stack,I.stkFree,I.hok,I.bare,fun p hp=>I.base.cts _ _ (I.ok.tb p hp)⟩
theorem Inv.after {Q:VK} (I:Inv X pins σ H s) (h:CE X.stack X.prog X.w H s Q u s'):EP X pins σ Q u s':=by obtain ⟨v,H',os,O,un,Z,r,q⟩:=h;obtain ⟨hh,g,d,t,Y⟩:=s';obtain rfl:Y=s.os:=os;exact ⟨v,H',I.call (h':=hh) (g':=g) (d':=d) (t':=t) (ch:=[]) un Z O (fun b z=>absurd z (by simp)),r,q⟩
end
def sC (sp:Sp) (dvs:List V) (E:XK) (t:TA):TE:=fun σ H Q=>t σ H fun vs H1=>sp (vs++dvs) H1 Q E
def Binds (K:xA9) (fd:qp2) (ps:List Str) (ds:List Value):Prop:=∀ (s:qa4) (us:List Value),K.In s.heap->(us++ds).length=ps.length->qz0 s fd ⟨us,[]⟩ (ps.zip (us++ds))
theorem Binds.all (h:∀ us:List Value,us.length=ps.length->zf6 fd ⟨us,[]⟩=pure (ps.zip us)):Binds K fd ps []:=fun s us _ q=>by rw [qk1] at q ⊢;exact .of_eq (h us q)
def n8 (CX:CXT) (X:Cx) (E:XK):Prop:=∀ (pins:List (Addr×Obj)) (σ:St) (H:Hp) (s:qa4) (e:Value) (s':qa4),Inv X pins σ H s->CX X.stack H s E e s'->X.xe e s'
variable {vs:List V}
section
variable {X:Cx} {CX:CXT} {k:Nat} {f C:Addr} {fd:qp2} {ps:List Str} {sp:Sp} {dvs:List V} {ds:List Value} {E:XK} {x m:Str} {p pos apos:Pos} {e o:Expr} {es:List Expr} {ta:TE} {t:TA}
theorem zL {Q:VK} (F:FnOk X.prog X.w X.K X.mg X.base CX k f fd ps sp) (hr:Room k X.A) (hb:Binds X.K fd ps ds) (hd:Vals dvs ds) (hx:n8 CX X E)
 (I:Inv X pins σ H s) (r:Vals vs us) (h:sp (vs++dvs) H Q E):wpAny (model X.prog X.w) X.A (call (.ref f) us) (EP X pins σ Q) X.xe s:=by
 have O:Vals (vs++dvs) (us++ds):=r.append hd;have Z:(us++ds).length=ps.length:=by rw [<- O.length];exact F.len _ _ _ _ h
 refine zg1 (qr0 (F.run X.A X.stack s H ⟨us,[]⟩ (us++ds) (vs++dvs) Q E hr I.env0 (hb s us I.kIn Z) O h) fun r s' q=>?_);cases r with
 | error e=>exact hx pins σ H s e s' I q
 | ok Y =>
  cases Y with
  | ret u=>exact I.after q
  | next=>exact qg2 q
  | brk=>exact qg2 q
  | cont=>exact qg2 q
theorem vM (F:FnOk X.prog X.w X.K X.mg X.base CX k f fd ps sp) (hr:Room k X.A) (hg:Gl X x) (hm:X.mg x=some (.ref f)) (hk:xF9 X.K (.ref f)=true) (hb:Binds X.K fd ps ds) (hd:Vals dvs ds) (hx:n8 CX X E)
  (ha:PA X (e::es) t) (O:(x==("__debug__":Str))=false:=by decide) (he:qa9 (e::es) X.env=(false,eval e X.env)::qa9 es X.env:=by rfl) (Y:(qk0 pos (qa9 es X.env)).any (·.1)=false:=by rfl) :
  PE X (.Call (.Name x p) (e::es) [] pos) (sC sp dvs E t):=by
 intro pins s σ H Q I h;refine qo1 (lA I hg hm ?_ O);refine PySem.W.callWith_K (h₀:=X.base) I.ok.mod.kin hk (thn (ha pos pins s σ H _ I h) fun us s1 ⟨vs,H1,Z,r,q⟩=>⟨Z.kIn,?_⟩) he Y;exact zL F hr hb hd hx Z r q
end
section
variable {X:Cx} {CX:CXT} {k:Nat} {f C:Addr} {fd:qp2} {ps ks:List Str} {sp:Sp} {E:XK} {x m:Str} {p pos apos kpos:Pos} {e o:Expr} {es:List Expr} {kws:List qx1} {te ta:TE} {t tk:TA} {nm:Option Str}
variable {g:List Value->List Value->List Value} {gV:List V->List V->List V}
end
structure FnScope (N P:List Str) (sc:Scope):Prop where
 kind:sc.kind=.function
 co:sc.isCoroutine=false
 gen:sc.isGenerator=false
 nd:N.Nodup
 pre:N.take P.length=P
 par:∀ x∈P,sc.names.lookup x=some .local∨sc.names.lookup x=some .cell
 nofree:∀ y∈sc.names,y.2≠.free
variable {kindOf:Str->Option qo2}
theorem kn:∀ {binds:List (Str×Value)} {m:Str->Option Value},(∀ v,(x,v)∉binds)->bindL kindOf binds m x=m x
 | [],_,_=>rfl
 | (n,v)::r,m,h=>by
  unfold bindL;rw [kn fun w hw=>h w (qc3 _ hw)];split
  . have:x≠n:=by rintro rfl;exact h v qd4
    simp [this]
  . rfl
theorem ko:∀ {binds:List (Str×Value)} {m:Str->Option Value},(∀ v,(x,v)∉binds)->bindC kindOf binds m x=m x
 | [],_,_=>rfl
 | (n,v)::r,m,h=>by
  unfold bindC;rw [ko fun w hw=>h w (qc3 _ hw)];split
  . rfl
  . have:x≠n:=by rintro rfl;exact h v qd4
    simp [this]
theorem ix {v:Value}:∀ {P:List Str} {vs:List Value} {i:Nat} {m:Str->Option Value},P.Nodup->P[i]?=some x->vs[i]?=some v->kindOf x=some .local→
  bindL kindOf (P.zip vs) m x=some v
 | [],_,_,_,_,h,_,_=>by simp at h
 | _::_,[],_,_,_,_,h,_=>by simp at h
 | p::P,w::vs,0,m,nd,h1,h2,hk=>by
  simp at h1 h2;subst h1;subst h2
  show bindL kindOf ((p,w)::P.zip vs) m p=_;unfold bindL;rw [kn fun v hv=>(qh3.mp nd).1 (qv4 hv).1,if_pos hk];simp
 | p::P,w::vs,i+1,m,nd,h1,h2,hk=>by show bindL kindOf ((p,w)::P.zip vs) m x=_;unfold bindL;exact ix (i:=i) (qh3.mp nd).2 (by simpa using h1) (by simpa using h2) hk
theorem iy {v:Value}:∀ {P:List Str} {vs:List Value} {i:Nat} {m:Str->Option Value},P.Nodup->P[i]?=some x->vs[i]?=some v->kindOf x≠some .local→
  bindC kindOf (P.zip vs) m x=some v
 | [],_,_,_,_,h,_,_=>by simp at h
 | _::_,[],_,_,_,_,h,_=>by simp at h
 | p::P,w::vs,0,m,nd,h1,h2,hk=>by
  simp at h1 h2;subst h1;subst h2
  show bindC kindOf ((p,w)::P.zip vs) m p=_;unfold bindC;rw [ko fun v hv=>(qh3.mp nd).1 (qv4 hv).1,if_neg hk];simp
 | p::P,w::vs,i+1,m,nd,h1,h2,hk=>by show bindC kindOf ((p,w)::P.zip vs) m x=_;unfold bindC;exact iy (i:=i) (qh3.mp nd).2 (by simpa using h1) (by simpa using h2) hk
def start (N:List Str) (vs:List V):St:=vs.map some++qh4 (N.length-vs.length) none
noncomputable def jq (CX:CXT) (P:qc2) (w:World) (K:xA9) (mg:Str->Option Value) (base:Heap) (N:List Str) (qual:Str) (scope:Scope) (f:Addr) (O:Value) (A:qd8) (outer:List Env) (s:qa4) (H:Hp) (E:XK):Cx where
 prog:=P
 w:=w
 K:=K
 mg:=mg
 base:=base
 A:=A.deeper (qx8 qual scope s.heap.objs.size f O)
 N:=N
 s₀:=s
 H₀:=H
 env:=qx8 qual scope s.heap.objs.size f O
 outer:=outer
 stack:=qx8 qual scope s.heap.objs.size f O::outer
 ex:=[]
 calm:=true
 fn:=fun _=>true
 pn:=[]
 xe:=fun e s'=>wpAny (model P w) (A.deeper (qx8 qual scope s.heap.objs.size f O)) (leaving (qx8 qual scope s.heap.objs.size f O) e) (fun _ q=>CX outer H s E e q) (fun Y q=>CX outer H s E Y q) s'
theorem gZ {sc:Scope} (h:sc.names.lookup x=some .cell):∃ c,(qg4 n sc.names []).lookup x=some c:=by have q:=xR9 sc.names n [] (.inl h);exact qr1.mp q
variable {qual:Str} {scope:Scope}
theorem qQ {f:Addr} {cd:Value} {outer:List Env} {s1:qa4} {E:XK} 
 (S:FnScope N ps scope) (hd:A.handled=none) (e0:Env0 P w K mg base A outer s H) (hl:vs.length=ps.length) (r:Vals vs us)
 (x:zc2 s s.heap.objs.size (bindL (qx8 qual scope s.heap.objs.size f cd).kindOf (ps.zip us) fun _=>none) (qg4 (s.heap.objs.size+1) scope.names []) (bindC (qx8 qual scope s.heap.objs.size f cd).kindOf (ps.zip us) fun _=>none) s1) :
  Inv (jq CX P w K mg base N qual scope f cd A outer s H E) [] (start N vs) H s1:=by
 have hpl:ps.length<=N.length:=by have:=congrArg qq8 S.pre;rw [za3] at this;lia
 obtain ⟨h1,tk,rfl,hk⟩:=x.done;have Y:∀ b:Addr,b∉(jq CX P w K mg base N qual scope f cd A outer s H E).ex:=fun b z=>absurd (show b∈([]:List Addr) from z) (by simp)
 refine ⟨⟨e0.mod,S.kind,rfl,rfl,nL _,fun y z c h1 h2=>?_,fun y O=>?_,fun y c _ h=>?_,fun _=>hd,qd8.frames_deeper e0.frames,.inr ⟨rfl,rfl⟩,fun b z=>absurd z (Y b),e0.bs,e0.bsz,fun b _ _=>Y b,fun b z=>absurd z (Y b),e0.funs,e0.frf,e0.tb⟩,rfl,e0.bare,Un.kept hk,⟨_,x.toInCall.ns,fun i y v h1 h2 h3=>?_⟩,fun y c h=>⟨_,x.cell y c h⟩,e0.hok.fresh (qn3 _),fun y c h=>?_,fun p hp=>absurd (show p∈([]:List (Addr×Obj)) from hp) (by simp),e0.hok.kept hk,?_⟩
 . exact zg7 x.apart (PySem.mem_of_lookup h1) (PySem.mem_of_lookup h2)
 . have O:scope.names.lookup y=some .cell∨scope.names.lookup y=some .free:=O;rcases O with O | O
   . exact gZ O
   . exact absurd rfl (S.nofree _ (PySem.mem_of_lookup O))
 . exact qh5 (x.above y c (PySem.mem_of_lookup h))
 . have hi:i<vs.length:=by
    unfold start at h2;by_cases hi:i<vs.length
    . exact hi
    . rw [qe2 (by simpa using hi)] at h2;rw [qj4] at h2;split at h2<;>cases h2
   have ha:vs[i]?=some v:=by
    unfold start at h2;rw [qc5 (by simpa using hi),qb3] at h2;cases e:vs[i]? with
    | none=>rw [e] at h2;cases h2
    | some a=>rw [e] at h2;cases h2;rfl
   obtain ⟨u,hu,rv⟩:=r.get ha
   have hp:ps[i]?=some y:=by rw [<- S.pre,qx9 (by lia)];exact h1
   have Z:ps.Nodup:=by rw [<- S.pre];exact S.nd.sublist (qy0 _ _)
   refine ⟨u,rv,?_⟩;rcases S.par y (qc7 hp) with k | k
   . exact .inl ⟨k,ix Z hp hu k⟩
   . obtain ⟨c,e⟩:=gZ (n:=s.heap.objs.size+1) k;refine .inr ⟨.inl k,c,e,?_⟩;have q:=x.cell y c e;rw [iy Z hp hu (by show scope.names.lookup y≠_;rw [k];decide)] at q;exact q
 . exact e0.hok.fresh (qh5 (x.above y c (PySem.mem_of_lookup h)))
 . unfold start;show _=N.length;rw [qc8,qa1,ql1];lia
theorem xR {k:Nat} {f:Addr} {name:Str} {params:qi3} {dV kV doc pm cdv ct oc:Value} {an od:Option Addr}
 {osl:Array (Option Value)} (lk:K.lookup f=some ⟨oc,od,.func (xC9 name qual params body scope dV kV doc pm an cdv ct),osl⟩) (hcd:xH9 K cdv qual=true) (S:FnScope N ps scope)
 (len:∀ vs H Q E,sp vs H Q E->vs.length=ps.length)
 (Y:∀ (A:qd8) (outer:List Env) (s:qa4) (H:Hp) (vs:List V) (Q:VK) (E:XK),Room k (A.deeper (qx8 qual scope s.heap.objs.size f cdv))->sp vs H Q E→
 ∃ t,PSs (jq CX P w K mg base N qual scope f cdv A outer s H E) body t/\t {nx:=fun _ H'=>Q .non H',rt:=Q} (start N vs) H) :
  FnOk P w K mg base CX (k+1) f (xC9 name qual params body scope dV kV doc pm an cdv ct) ps sp:=by
 refine ⟨len,fun A outer s H args us vs Q E hr e0 hb r hsp=>?_⟩;have hl:=len _ _ _ _ hsp;have KX:K.In s.heap:=e0.mod.kin.keeps fun b o e=>(e0.bs b o e).1
 have lim:s.heap.NoLimit:=e0.mod.nolimit.keeps fun b o e=>(e0.bs b o e).1
 have Z:∀ y∈ps.zip us,scope.names.lookup y.1=some .local∨(scope.names.lookup y.1=some .cell/\((qg4 (s.heap.objs.size+1) scope.names []).lookup y.1).isSome=true):=fun ⟨n,v⟩ hy=>by
  rcases S.par n (qv4 hy).1 with q | q
  . exact .inl q
  . exact .inr ⟨q,xR9 _ _ _ (.inl q)⟩
 refine zc3 hr.depth (KX _ _ lk) rfl S.co S.gen rfl (PySem.W.codeRec_of KX hcd) (hb _ _ _ _ ?_);refine wpAny_newFunctionEnv_cells S.kind Z fun env he s1 x=>?_
 subst he;refine ⟨lim.keeps x.toInCall.keep,codeAny_func ?_⟩;obtain ⟨t,ht,hq⟩:=Y A outer s H vs Q E (hr.deeper _) hsp;have I:Inv (jq CX P w K mg base N qual scope f cdv A outer s H E) [] (start N vs) H s1:=qQ S hr.hd e0 hl r x;refine qj7 (ht [] s1 (start N vs) H _ I hq) (fun fl s' hs=>?_) fun e s' hs=>hs
 have fin:∀ {O:St} {H':Hp} {v:V} {u:Value},Inv (jq CX P w K mg base N qual scope f cdv A outer s H E) [] O H' s'->RelV v u->Q v H'->CE outer P w H s Q u s':=fun {O H' v u} J rv q=>⟨v,H',J.os,J.bare,J.base,J.hok,rv,q⟩
 cases fl with
 | ret u =>obtain ⟨v,O,H',J,rv,q⟩:=hs;exact fin J rv q
 | next =>obtain ⟨O,H',J,q⟩:=hs;exact fin (v:=V.non) (u:=qh2) J rfl q
 | brk =>obtain ⟨_,_,_,q⟩:=hs;exact qg2 q
 | cont =>obtain ⟨_,_,_,q⟩:=hs;exact qg2 q
section
variable {X:Cx} {x:Str} {p pos:Pos} {e:Expr} {es:List Expr} {t:TA} {id T:String} {r:List V->Hp->VK->Prop}
def tCB (r:List V->Hp->VK->Prop) (t:TA):TE:=fun σ H Q=>t σ H fun vs H1=>r vs H1 Q
theorem sD (hc:CallR X (.builtin id) r) (hg:Gl X x) (hm:X.mg x=none) (hv:qd7 x=some (.builtin id)) (ha:PA X (e::es) t) (hn:x≠"__name__":=by decide) (q:(x==("__debug__":Str))=false:=by decide)
  (Z:qa9 (e::es) X.env=(false,eval e X.env)::qa9 es X.env:=by rfl) (O:(qk0 pos (qa9 es X.env)).any (·.1)=false:=by rfl):PE X (.Call (.Name x p) (e::es) [] pos) (tCB r t):=by
 intro pins s σ H Q I h;refine qo1 (fq I hg hm hv ?_ hn q);exact PyProof.Rows.callWith_builtin1 (thn (ha pos pins s σ H _ I h) fun us s1 ⟨vs,H1,I1,Y,q1⟩=>hc pins s1 σ H1 vs us Q I1 Y q1) Z O
theorem qR (hc:CallR X (.type T) r) (hg:Gl X x) (hm:X.mg x=none) (hv:qd7 x=some (.type T)) (ha:PA X (e::es) t) (hn:x≠"__name__":=by decide) (q:(x==("__debug__":Str))=false:=by decide)
  (Z:qa9 (e::es) X.env=(false,eval e X.env)::qa9 es X.env:=by rfl) (O:(qk0 pos (qa9 es X.env)).any (·.1)=false:=by rfl):PE X (.Call (.Name x p) (e::es) [] pos) (tCB r t):=by
 intro pins s σ H Q I h;refine qo1 (fq I hg hm hv ?_ hn q);exact qf4 (thn (ha pos pins s σ H _ I h) fun us s1 ⟨vs,H1,I1,Y,q1⟩=>hc pins s1 σ H1 vs us Q I1 Y q1) Z O
end
end L2
namespace HT
open PySem PyProof.Rows
section
open PySem.SeqAt
open PySem.AutoSeq1 (wpAny_loadPart')
open PySem.MeetsSeq PySem.MeetsSeq2 PySem.MeetsSeq3
end
variable {Q:Value->qa4->Prop} {vu:Value} {lo hi:Option Int}
section
variable {prog:qc2} {w:World} {A:qd8} {E:Value->qa4->Prop} {s:qa4}
theorem CT {t b:Addr} {vs q:List Value} (ht:IsTup s.heap t vs.toArray) (hb:IsTup s.heap b q.toArray) (hv:vs≠[])
 (h1:q=[]->Q (.ref t) s) (h2:q≠[]->Q (.ref s.heap.objs.size) {s with heap:=s.heap.push {cls:=.type "tuple",data:=.seq (vs++q).toArray}})
 (hsz:vs.length+q.length<=qb2):wpAny (model prog w) A (qm0 .Add (.ref t) (.ref b)) Q E s:=by
 obtain ⟨⟨cls,dd,data,sl⟩,ho,hc,n,hd⟩:=id ht;obtain ⟨⟨cls2,Y,data2,sl2⟩,O,hc2,n2,Z⟩:=id hb;simp only at hc hd hc2 Z;subst hc hd hc2 Z;have e:vs.toArray++q.toArray=(vs++q).toArray:=by simp
 by_cases hw:q=[]
 . exact qw5 ⟨_,ho,rfl⟩ ⟨_,O,rfl⟩ qt7 qz1 PySem.F.slot_tuple_add PySem.F.entry_tuple_add (PySem.F.args_tuple_add_2 _ _)
    (tuple_addW1 t b vs.toArray q.toArray n n2 dd Y sl sl2 (by simpa using hv) (by simp [hw])) ⟨ho,O,h1 hw⟩
 . refine qw5 ⟨_,ho,rfl⟩ ⟨_,O,rfl⟩ qt7 qz1 PySem.F.slot_tuple_add PySem.F.entry_tuple_add (PySem.F.args_tuple_add_2 _ _)
    (tuple_addW2 t b vs.toArray q.toArray n n2 dd Y sl sl2 (by simpa using hv) (by simpa using hw) (by rw [qb5,qb5];exact hsz)) ⟨ho,O,?_⟩
   rw [e];exact h2 hw
def sIx (n d:Nat):Option Int->Nat
 | none=>d
 | some v=>if v<0 then (v+(n:Int)).toNat else min v.toNat n
theorem CU (n d k:Nat):sIx n d (some (k:Int))=min k n:=by show (if (k:Int)<0 then ((k:Int)+(n:Int)).toNat else min (k:Int).toNat n)=min k n;rw [if_neg (by lia),qd5]
theorem zM (n d:Nat) (O:d<=n) (o:Option Int):sIx n d o<=n:=by
 cases o with
 | none=>exact O
 | some v =>
  show (if v<0 then (v+(n:Int)).toNat else min v.toNat n)<=n;by_cases q:v<0
  . rw [if_pos q];lia
  . rw [if_neg q];exact Nat.min_le_right _ _
theorem pJ (v:Int) (n d:Nat):(if v<0 then max (v+(n:Int)) 0 else min v (n:Int))=((sIx n d (some v):Nat):Int):=by
 show (if v<0 then max (v+(n:Int)) 0 else min v (n:Int))=(((if v<0 then (v+(n:Int)).toNat else min v.toNat n):Nat):Int);by_cases q:v<0
 . simp only [if_pos q];lia
 . simp only [if_neg q];lia
theorem n9 (lo hi:Option Int) (n:Nat):qq3 lo hi 1 (n:Int)=(((sIx n 0 lo:Nat):Int),((sIx n n hi:Nat):Int)):=by
 have h1:¬ ((1:Int)<0):=by lia
 unfold qq3;simp only [h1,if_false];refine Prod.ext ?_ ?_
 . cases lo with
   | none=>rfl
   | some v=>exact pJ v n 0
 . cases hi with
   | none=>rfl
   | some v=>exact pJ v n n
theorem oe (i j:Nat):ql6 (i:Int) (j:Int) 1=j-i:=by
 unfold ql6;have h1:(1:Int) > 0:=by lia
 simp only [h1,if_true,Int.ediv_one];split<;>lia
theorem jr {v:Value} {o:Option Int} {Q:Option Int->qa4->Prop} (p:zg8 v o) (h:Q o s):wpAny (model prog w) A (qj0.Slice.slicePartIndex v) Q E s:=by
 cases p with
 | none=>exact slicePart_none h
 | int i t=>exact slicePart_int h
theorem iz {sl:Addr} {vl:Value} {n:Nat} {Q:Int×Int×Nat->qa4->Prop} (hs:s.heap.IsSliceOf sl vl vu .none) (Z:zg8 vl lo) (Y:zg8 vu hi)
 (h:Q (((sIx n 0 lo:Nat):Int),1,sIx n n hi-sIx n 0 lo) s):wpAny (model prog w) A (qw0 (.ref sl) (pure (n:Int))) Q E s:=by
 obtain ⟨os,q,hcs,O⟩:=id hs;unfold qw0 qj0.Slice.sliceFields;refine wB (wB (qs7 q O (x:=vl) rfl (wB (qs7 q O (x:=vu) rfl (wB (qs7 q O (x:=.none) rfl (qa2 ?_)))))));refine wB (slicePart_none ?_);show wpAny _ _ (if ((1:Int)==0)=true then _ else _) _ _ s;rw [if_neg (by decide)];refine wB (jr Z (wB (jr Y (wB (qa2 ?_)))));show wpAny _ _ (match qq3 lo hi 1 (n:Int) with | (lo,hi)=>pure (lo,(1:Int),ql6 lo hi 1)) _ _ s;rw [n9 lo hi n];show wpAny _ _ (pure (((sIx n 0 lo:Nat):Int),(1:Int),ql6 ((sIx n 0 lo:Nat):Int) ((sIx n n hi:Nat):Int) 1)) _ _ s;rw [oe];exact qa2 h
theorem sE (xs:Array Value) (i k:Nat):((qc0 k).filterMap fun (m:Nat)=>xs[((i:Int)+(m:Int)*1).toNat]?).toArray=((xs.toList.drop i).take k).toArray:=by
 have e:(fun (m:Nat)=>xs[((i:Int)+(m:Int)*1).toNat]?)=fun m=>xs[i+m]?:=by
  funext m;have:((i:Int)+(m:Int)*1).toNat=i+m:=by lia
  rw [this]
 rw [e];have:=pick_run xs i k;rw [List.filterMap_map] at this;have q:((fun x=>xs[x]?) ∘ fun x=>i+x)=fun m=>xs[i+m]?:=rfl
 rw [q] at this;rw [this]
theorem pK {t sl:Addr} {O:Array Value} {vl:Value} (Z:IsTup s.heap t O) (hs:s.heap.IsSliceOf sl vl vu .none) (pl:zg8 vl lo) (pu:zg8 vu hi)
 (hw:¬ (sIx O.size 0 lo=0/\sIx O.size O.size hi=O.size))
 (h:Q (.ref s.heap.objs.size) {s with heap:=s.heap.push {cls:=.type "tuple",data:=.seq ((O.toList.drop (sIx O.size 0 lo)).take (sIx O.size O.size hi-sIx O.size 0 lo)).toArray}})
 (hsz:O.size<=qb2):wpAny (model prog w) A (ze6 (.ref t) (.ref sl)) Q E s:=by
 have Y:sizeOk (.seq ((O.toList.drop (sIx O.size 0 lo)).take (sIx O.size O.size hi-sIx O.size 0 lo)).toArray):=by show ((O.toList.drop (sIx O.size 0 lo)).take (sIx O.size O.size hi-sIx O.size 0 lo)).toArray.size<=qb2;rw [qb5,za3,List.length_drop,qe1];lia
 have hj:sIx O.size O.size hi<=O.size:=zM _ _ (nL _) hi;obtain ⟨os,hos,hcs,hds⟩:=id hs;have hTs:s.TypeIs (.ref sl) "slice":=⟨os,hos,hcs⟩;unfold ze6
 try with_reducible refine qi6 ?_
 first | refine wB (qa2 ?_) | skip
 refine wB (wpAny_sequenceKey Z.typeIs (by decide) ?_)
 refine wB (qe7 (name:=qa0 "__getitem__") Z.typeIs qm5
  (qf1 qm5 Z.typeIs entry_tuple_getitem ?_ (args_tuple_getitem _ _)))
 show wpAny _ _ (qj0.Tuple.tupleItemsOf (.ref t) >>= _) _ _ s;refine wB (tupleItemsOf_ Z ?_);refine wB (zc4 hTs ?_);rw [if_pos (by decide)];refine wB (iz hs pl pu ?_)
 have hno:¬ ((((sIx O.size 0 lo:Nat):Int)==0&&(1:Int)==1&&(sIx O.size O.size hi-sIx O.size 0 lo)==O.size)=true):=by intro q;rw [qb1,qb1] at q;have q1:((sIx O.size 0 lo:Nat):Int)=0:=eq_of_beq q.1.1;have q2:sIx O.size O.size hi-sIx O.size 0 lo=O.size:=eq_of_beq q.2;exact hw ⟨by lia,by lia⟩
 show wpAny _ _ (if (((sIx O.size 0 lo:Nat):Int)==0&&(1:Int)==1&&(sIx O.size O.size hi-sIx O.size 0 lo)==O.size)=true then _ else _) _ _ s;rw [if_neg hno,sE]
 first
  | exact wB (m:=qm6 _) (qd1 (qa2 ⟨_,rfl,qa2 h⟩) Y)
  | exact wB (m:=qm6 _) (qd1 (wB (qa2 (qa2 ⟨_,rfl,qa2 h⟩))) Y)
  | exact wB (wB (m:=qm6 _) (qd1 (qa2 (qa2 ⟨_,rfl,qa2 h⟩)) Y))
  | exact wB (wB (m:=qm6 _) (qd1 (qa2 ⟨_,rfl,qa2 h⟩) Y))
end
end HT
namespace L2
open PySem PySem.Spec PyProof.Rows
abbrev TO:=St->Hp->(Option Int->Hp->Prop)->Prop
noncomputable def PO (X:Cx) (e:Option Expr) (t:TO):Prop:=
 ∀ (pins:List (Addr×Obj)) (s:qa4) (σ:St) (H:Hp) (Q:Option Int->Hp->Prop),Inv X pins σ H s->t σ H Q→
  wpAny (model X.prog X.w) X.A (evalPart e X.env) (fun u s'=>∃ o H',Inv X pins σ H' s'/\zg8 u o/\Q o H') X.xe s
def vN:TO:=fun _ H Q=>Q none H
def B3 (t:TE):TO:=fun σ H Q=>t σ H fun x H1=>∃ i,x=.int i/\Q (some i) H1
variable {r:V->Option Int->Option Int->Hp->VK->Prop} {xs:List V} {us:List Value}
section
variable {X:Cx} {e:Expr} {te:TE} {lo hi:Option Expr} {tl th:TO} {pos p2:Pos}
theorem vO:PO X none vN:=by intro pins s σ H Q I h;rw [evalPart_none];exact qa2 ⟨none,H,I,.none,h⟩
theorem vP (h:PE X e te):PO X (some e) (B3 te):=by
 intro pins s σ H Q I Z;rw [evalPart_some];refine thn (h pins s σ H _ I Z) fun u s1 ⟨x,H1,Y,O,q1⟩=>?_
 obtain ⟨i,rfl,q⟩:=q1;obtain ⟨t,rfl⟩:=O;exact ⟨some i,H1,Y,.int i t,q⟩
noncomputable def SlR (X:Cx) (r:V->Option Int->Option Int->Hp->VK->Prop):Prop:=
 ∀ (pins:List (Addr×Obj)) (s:qa4) (σ:St) (H:Hp) (x:V) (v vl vu:Value) (lo hi:Option Int) (sl:Addr) (Q:VK),Inv X pins σ H s->RelV x v->s.heap.IsSliceOf sl vl vu .none->zg8 vl lo->zg8 vu hi->r x lo hi H Q→
  ∃ T id,zd7 (.type T) "__getitem__"=pure (some (.builtin id))/\s.TypeIs v T/\wpAny (model X.prog X.w) X.A (ze6 v (.ref sl)) (EP X pins σ Q) X.xe s
theorem SlR.or {r':V->Option Int->Option Int->Hp->VK->Prop} (h:SlR X r) (h':SlR X r'):SlR X (fun x lo hi H Q=>r x lo hi H Q∨r' x lo hi H Q):=by
 intro pins s σ H x v vl vu lo hi sl Q I Y hs O Z q;rcases q with q | q
 . exact h pins s σ H x v vl vu lo hi sl Q I Y hs O Z q
 . exact h' pins s σ H x v vl vu lo hi sl Q I Y hs O Z q
def tSl (r:V->Option Int->Option Int->Hp->VK->Prop) (te:TE) (tl th:TO):TE:=fun σ H Q=>te σ H fun x H1=>tl σ H1 fun l H2=>th σ H2 fun u q=>r x l u q Q
theorem sF (hr:SlR X r) (he:PE X e te) (hl:PO X lo tl) (hu:PO X hi th):PE X (.Subscript e (.Slice lo hi none p2) pos) (tSl r te tl th):=by
 intro pins s σ H Q I h;refine Subscript_ (thn (he pins s σ H _ I h) fun v s1 ⟨x,H1,I1,Z,q1⟩=>?_);refine wpAny_Slice (thn (hl pins s1 σ H1 _ I1 q1) fun vl s2 ⟨l,H2,I2,pl,q2⟩=>thn (hu pins s2 σ H2 _ I2 q2) fun vu O ⟨u,Y,I3,pu,q3⟩=>?_);rw [evalPart_none];refine qa2 ?_;have I4:Inv X pins σ Y {O with heap:=O.heap.push {cls:=.type "slice",data:=.fields #[vl,vu,.none]}}:=I3.kept (t':=O.toks) fun b ob q=>gP _ q
 obtain ⟨T,id,hT,ht,hg⟩:=hr pins {O with heap:=O.heap.push {cls:=.type "slice",data:=.fields #[vl,vu,.none]}} σ Y x v vl vu l u O.heap.objs.size Q I4 Z (Heap.IsSliceOf.new ..) pl pu q3;show wpAny (model X.prog X.w) X.A (zf7 e (.Slice lo hi none p2) v (.ref O.heap.objs.size)) (EP X pins σ Q) X.xe {O with heap:=O.heap.push {cls:=.type "slice",data:=.fields #[vl,vu,.none]}};exact tail_any (ops:=[.ref O.heap.objs.size,v]) ht hT hg (by with_unfolding_all rfl)
def my (xs:List V) (lo hi:Option Int):List V:=(xs.drop (HT.sIx xs.length 0 lo)).take (HT.sIx xs.length xs.length hi-HT.sIx xs.length 0 lo)
theorem iP (xs:List V) (lo hi:Option Int):(my xs lo hi).length<=xs.length:=by unfold my;rw [za3,List.length_drop];lia
noncomputable def rSlT (K:xA9):V->Option Int->Option Int->Hp->VK->Prop:=fun x lo hi H Q=>∃ a xs,x=.ref a/\SqT K H a xs∧¬ (HT.sIx xs.length 0 lo=0/\HT.sIx xs.length xs.length hi=xs.length)/\∀ p,H p=none->Q (.ref p) (upd H p (.tup (my xs lo hi)))
theorem zN:SlR X (rSlT X.K):=by
 intro pins s σ H x v vl vu lo hi sl Q I rx hs pl pu h;obtain ⟨a,xs,rfl,hx,hw,q⟩:=h;cases rx;obtain ⟨its,r,Y,Z⟩:=I.tuple hx;have O:its.toArray.size=xs.length:=by rw [qb5];exact r.length.symm
 refine ⟨"tuple",_,qm5.lookup,Y.typeIs,?_⟩;refine HT.pK Y hs pl pu (by rw [O];exact hw) ?_ (by rw [O];exact Z);rw [O];refine ⟨.ref s.heap.objs.size,_,I.laid (t':=s.toks) (o:=.tup (my xs lo hi)) (fun b ob q=>gP _ q) (nL _) ?_,rfl,q _ (I.hok.fresh (nL _))⟩;exact ⟨qc4 (iP xs lo hi) Z,_,(r.drop (HT.sIx xs.length 0 lo)).take (HT.sIx xs.length xs.length hi-HT.sIx xs.length 0 lo),IsTup.new _ _⟩
noncomputable def xS (K:xA9):R2:=fun x y H Q=>∃ a b xs ys,x=.ref a/\y=.ref b/\SqT K H a xs/\SqT K H b ys/\xs≠[]/\xs.length+ys.length<=qb2∧(ys=[]->Q (.ref a) H)/\(ys≠[]->∀ p,H p=none->Q (.ref p) (upd H p (.tup (xs++ys))))
theorem Vals.nil_iff (r:Vals xs us):us=[]↔xs=[]:=by
 cases r with
 | nil=>simp
 | cons _ _=>simp
theorem vQ:OpR X (qm0 .Add) (xS X.K):=by intro pins s σ H x y v u Q I rx ry h;obtain ⟨a,b,xs,ys,rfl,rfl,ha,hb,hx,hz,q1,q2⟩:=h;cases rx;cases ry;obtain ⟨its,Y,p1,_⟩:=I.tuple ha;obtain ⟨Z,O,p2,_⟩:=I.tuple hb;refine HT.CT p1 p2 (fun z=>hx (Y.nil_iff.mp z)) (fun z=>⟨.ref a,H,I,rfl,q1 (O.nil_iff.mp z)⟩) (fun z=>?_) (by rw [<- Y.length,<- O.length];exact hz);refine ⟨.ref s.heap.objs.size,_,I.laid (t':=s.toks) (o:=.tup (xs++ys)) (fun b ob q=>gP _ q) (nL _) ?_,rfl,q2 (fun w=>z (O.nil_iff.mpr w)) _ (I.hok.fresh (nL _))⟩;exact ⟨by rw [qc8];exact hz,_,Y.append O,IsTup.new _ _⟩
end
def ixN (n:Nat) (i:Int):Option Nat:=if 0<=i then (if i<n then some i.toNat else none) else if -(n:Int)<=i then some (i+n).toNat else none
def atI {α:Type} (xs:List α) (i:Int):Option α:=(ixN xs.length i).bind fun j=>xs[j]?
variable {n j:Nat} {i:Int}
theorem pL (h:ixN n i=some j):seqIndex? i n=some j/\j<n/\-(n:Int)<=i/\i<n:=by
 unfold ixN at h;by_cases q:0<=i
 . rw [if_pos q] at h;by_cases h1:i<n
   . rw [if_pos h1] at h;have e:i.toNat=j:=qd6 h;exact ⟨by rw [seqIndex_of q h1,e],by lia,by lia,h1⟩
   . rw [if_neg h1] at h;cases h
 . rw [if_neg q] at h;by_cases h1:-(n:Int)<=i
   . rw [if_pos h1] at h;have e:(i+n).toNat=j:=qd6 h;exact ⟨by rw [seqIndex_neg (by lia) h1,e],by lia,h1,by lia⟩
   . rw [if_neg h1] at h;cases h
theorem lC {α:Type} {xs:List α} {v:α} (h:atI xs i=some v):∃ j,seqIndex? i xs.length=some j/\xs[j]?=some v/\j<xs.length/\-(xs.length:Int)<=i/\i<xs.length:=by
 unfold atI at h;cases e:ixN xs.length i with
 | none=>rw [e] at h;cases h
 | some j =>rw [e] at h;obtain ⟨h1,h2,h3,q⟩:=pL e;exact ⟨j,h1,h,h2,h3,q⟩
theorem vR {α:Type} {xs:List α} {v:α} (h:xs[j]?=some v):atI xs (j:Int)=some v:=by
 have q:j<xs.length:=(gX h).1
 have e:ixN xs.length (j:Int)=some j:=by unfold ixN;rw [if_pos (by lia),if_pos (by lia)];simp
 unfold atI;rw [e];exact h
def pM (b:Expr):Prop:=∀ o i,ze7 b false o i=operate [o,i] (ze6 o i)
noncomputable def IxR (X:Cx) (r:R2):Prop:=
 ∀ (value q:Expr) (pins:List (Addr×Obj)) (s:qa4) (σ:St) (H:Hp) (x y:V) (v u:Value) (Q:VK),Inv X pins σ H s->RelV x v->RelV y u->r x y H Q→
  ze7 q false v u=operate [v,u] (ze6 v u)->wpAny (model X.prog X.w) X.A (zf7 value q v u) (EP X pins σ Q) X.xe s
noncomputable def MtR (X:Cx) (id:String) (r:V->List V->Hp->VK->Prop):Prop:=
 ∀ (pins:List (Addr×Obj)) (s:qa4) (σ:St) (H:Hp) (x:V) (xs:List V) (v:Value) (us:List Value) (Q:VK),Inv X pins σ H s->RelV x v->Vals xs us->r x xs H Q→
  wpAny (model X.prog X.w) X.A (call (.builtin id) (v::us)) (EP X pins σ Q) X.xe s
variable {pins:List (Addr×Obj)} {σ:St} {H:Hp} {s:qa4} {p:Addr} {its its':List Value} {A:qd8} {y x:V} {u v:Value}
section
variable {X:Cx} {a b:Expr} {ta tb:TE} {pos:Pos}
theorem IxR.or {r r':R2} (h:IxR X r) (h':IxR X r'):IxR X (fun x y H Q=>r x y H Q∨r' x y H Q):=by
 intro value O pins s σ H x y v u Q I Y Z q hs;rcases q with q | q
 . exact h value O pins s σ H x y v u Q I Y Z q hs
 . exact h' value O pins s σ H x y v u Q I Y Z q hs
theorem B4 {r:R2} (hr:IxR X r) (ha:PE X a ta) (hb:PE X b tb) (hs:pM b):PE X (.Subscript a b pos) (tOp r ta tb):=by intro pins s σ H Q I h;exact Subscript_ (zB ha hb I h fun v u O x y H2 Y Z ry q=>hr a b pins O σ H2 x y v u Q Y Z ry q (hs _ _))
def rIxL (K:xA9):R2:=fun x y H Q=>∃ p xs i v,x=.ref p/\y=.int i/\SqL K H p xs/\atI xs i=some v/\Q v H
def rIxT (K:xA9):R2:=fun x y H Q=>∃ p xs i v,x=.ref p/\y=.int i/\SqT K H p xs/\atI xs i=some v/\Q v H
def rIxS:R2:=fun x y H Q=>∃ z i c,x=.str z/\y=.int i/\z.length<=qb2/\atI z.cps.toList i=some c/\Q (.str ⟨#[c]⟩) H
theorem ix_list:IxR X (rIxL X.K):=by
 intro value slice pins s σ H x y v u Q I rx ry h hs;obtain ⟨p,xs,i,z,rfl,rfl,hq,he,q⟩:=h;cases rx;obtain ⟨t,rfl⟩:=ry;obtain ⟨its,r,pl,hz⟩:=I.list hq;obtain ⟨j,h1,h2,h3,h4,h5⟩:=lC he;obtain ⟨w,ew,rw'⟩:=r.get h2;have hl:=r.length;have hn:=iw;have fin:EP X pins σ Q w s:=⟨z,H,I,rw',q⟩;by_cases h0:0<=i
 . have hj:i.toNat=j:=by rw [seqIndex_of h0 h5] at h1;exact qd6 h1
   exact item_listR pl.isList h0 (by lia) (by rw [hj];simpa using ew) fin hs
 . have hj:(i+(its.toArray.size:Int)).toNat=j:=by rw [seqIndex_neg (by lia) h4] at h1;rw [qb5,<- hl];exact qd6 h1
   exact za7 (x:=w) pl.isList.typeIs slot_list_getitem.lookup
    (wpAny_getItem_list_neg (Q:=fun r s'=>r=w/\EP X pins σ Q r s') pl.isList (by lia) (by rw [qb5]<;>lia) (by lia) (by rw [hj];simpa using ew) ⟨rfl,fin⟩) hs
theorem ix_tup:IxR X (rIxT X.K):=by
 intro value slice pins s σ H x y v u Q I rx ry h hs;obtain ⟨p,xs,i,z,rfl,rfl,hq,he,q⟩:=h;cases rx;obtain ⟨t,rfl⟩:=ry;obtain ⟨its,r,pl,hz⟩:=I.tuple hq;obtain ⟨j,h1,h2,h3,h4,h5⟩:=lC he;obtain ⟨w,ew,rw'⟩:=r.get h2;have hl:=r.length;have hn:=iw;have fin:EP X pins σ Q w s:=⟨z,H,I,rw',q⟩
 exact za7 (x:=w) pl.typeIs slot_tuple_getitem.lookup
  (getItem_tuple (j:=j) (Q:=fun r s'=>r=w/\EP X pins σ Q r s') pl (by lia) (by lia) (by rw [qb5,<- hl];exact h1) (by simpa using ew) ⟨rfl,fin⟩) hs
theorem zO:IxR X rIxS:=by
 intro value slice pins s σ H x y v u Q I rx ry h hs;obtain ⟨z,i,c,rfl,rfl,hz,he,q⟩:=h;obtain ⟨t,rfl⟩:=rx;obtain ⟨t',rfl⟩:=ry;obtain ⟨j,h1,h2,h3,h4,h5⟩:=lC he;have hl:z.cps.toList.length=z.length:=by simp [Str.length]
 rw [hl] at h1 h4 h5;have hn:=iw
 exact tail_any (typeIs_str s z t) slot_str_getitem.lookup (getItem_str (c:=c) (by have e1:decide (i < -(2^63:Int))=false:=decide_eq_false (by lia);have e2:decide (i ≥ 2^63)=false:=decide_eq_false (by lia);rw [e1,e2,qz2]) (by rw [h1];simpa using h2) ⟨.str ⟨#[c]⟩,H,I.tok _,⟨_,rfl⟩,q⟩) hs
def rIx (K:xA9):R2:=fun x y H Q=>rIxL K x y H Q∨rIxT K x y H Q∨rIxS x y H Q
theorem zP:IxR X (rIx X.K):=ix_list.or (ix_tup.or zO)
theorem og (its:List Value) (n j:Nat) (u:Value):qn9 (·.setIfInBounds j u) {cls:=.type "list",data:=.seq its.toArray n}={cls:=.type "list",data:=.seq (its.set j u).toArray n}:=by simp [qn9]
theorem Inv.lst (I:Inv X pins σ H s) (h:H p=some (.lst xs)) :
  ∃ (its:List Value) (n:Nat),Vals xs its/\s.heap.get? p=some {cls:=.type "list",data:=.seq its.toArray n}/\xs.length<=qb2:=by
 obtain ⟨z,its,n,r,e⟩:=I.hok p _ h;exact ⟨its,n,r,e,z⟩
theorem Inv.lstUpd {ys:List V} {O:Nat} {f:Obj->Obj} (I:Inv X pins σ H s) (h:H p=some (.lst xs))
 (ho:s.heap.get? p=some {cls:=.type "list",data:=.seq its.toArray n}) (Y:f {cls:=.type "list",data:=.seq its.toArray n}={cls:=.type "list",data:=.seq its'.toArray O}) (r:Vals ys its') (Z:ys.length<=qb2) (t:Nat) :
  Inv X pins σ (upd H p (.lst ys)) {s with heap:=s.heap.update p f,toks:=t}:=by
 have e:(s.heap.update p f).get? p=some {cls:=.type "list",data:=.seq its'.toArray O}:=by rw [qe3 f ho (by rw [Y]<;>rfl),Y]
 refine I.write (x:=p) (e:=p) (by rw [h];trivial) (.inl rfl) (fun b u hb q=>(qk5 _ _ (qq0 hb)).trans q) ⟨_,e⟩ ?_;exact ⟨Z,its',O,r,e⟩
def B5:V->V->V->Hp->(Hp->Prop)->Prop:=fun o i v H Q=>∃ p xs k j,o=.ref p/\i=.int k/\H p=some (.lst xs)/\ixN xs.length k=some j/\Q (upd H p (.lst (xs.set j v)))
theorem sG:PSet X B5:=by
 intro pins s σ H o i v ov iv u Q I ro ri rv h;obtain ⟨p,xs,k,j,rfl,rfl,hp,hj,q⟩:=h;cases ro;obtain ⟨t,rfl⟩:=ri;obtain ⟨its,n,r,ho,hz⟩:=I.lst hp;obtain ⟨h1,h2,h3,h4⟩:=pL hj;have hl:=r.length;have hn:=iw
 have I':Inv X pins σ (upd H p (.lst (xs.set j v))) {s with heap:=s.heap.update p (qn9 (·.setIfInBounds j u))}:=I.lstUpd hp ho (og its n j u) (r.set rv j) (by rw [List.length_set];exact hz) s.toks
 by_cases h0:0<=k
 . have hk:k.toNat=j:=by rw [seqIndex_of h0 h4] at h1;exact qd6 h1
   exact PySem.W.ki_setAt ho h0 (by lia) (by rw [qb5,<- hl];exact h4) (by rw [hk];exact ⟨_,I',q⟩)
 . have hk:(k+(its.toArray.size:Int)).toNat=j:=by rw [seqIndex_neg (by lia) h3] at h1;rw [qb5,<- hl];exact qd6 h1
   exact PySem.W.ki_setBack ho (by lia) (by rw [qb5,<- hl];exact h3) (by lia) (by rw [hk];exact ⟨_,I',q⟩)
theorem lD (lo hi:Option Int) (n:Nat):(qs8 lo hi none n).1=((HT.sIx n 0 lo:Nat):Int)/\(qs8 lo hi none n).2.1=((HT.sIx n n hi:Nat):Int)/\(qs8 lo hi none n).2.2=1:=by
 refine ⟨?_,?_,rfl⟩
 . cases lo with
   | none=>simp [qs8,HT.sIx]
   | some i =>
    simp only [qs8,HT.sIx,Option.getD_none,show (1:Int) > 0 by decide,if_true];by_cases h:i<0
    . simp only [h,if_true]<;>lia
    . simp only [h,if_false]<;>lia
 . cases hi with
   | none=>simp [qs8,HT.sIx]
   | some i =>
    simp only [qs8,HT.sIx,Option.getD_none,show (1:Int) > 0 by decide,if_true];by_cases h:i<0
    . simp only [h,if_true]<;>lia
    . simp only [h,if_false]<;>lia
theorem j8 (its:List Value) (lo hi:Option Int):slicePick its.toArray lo hi none=((its.drop (HT.sIx its.length 0 lo)).take (HT.sIx its.length its.length hi-HT.sIx its.length 0 lo)).toArray:=by obtain ⟨h1,h2,h3⟩:=lD lo hi its.toArray.size;unfold slicePick;rw [h1,h2,h3];simp only [sliceRange_one,pick_run,qb5]<;>rfl
def rSlL (K:xA9):V->Option Int->Option Int->Hp->VK->Prop:=fun x lo hi H Q=>∃ a xs,x=.ref a/\SqL K H a xs/\∀ p,H p=none->Q (.ref p) (upd H p (.lst (my xs lo hi)))
theorem vS:SlR X (rSlL X.K):=by intro pins s σ H x v vl vu lo hi sl Q I rx hs Z pu h;obtain ⟨a,xs,rfl,hx,q⟩:=h;cases rx;obtain ⟨its,r,Y,hz⟩:=I.list hx;have O:=r.length;refine ⟨"list",_,slot_list_getitem.lookup,Y.isList.typeIs,?_⟩;refine wpAny_getItem_list_slice Y.isList hs Z pu .none (by simp) ?_ (by rw [qb5]<;>lia);rw [j8,<- O];refine ⟨.ref s.heap.objs.size,_,I.laid (t':=s.toks) (o:=.lst (my xs lo hi)) (fun b ob q=>gP _ q) (nL _) ?_,rfl,q _ (I.hok.fresh (nL _))⟩;exact ⟨qc4 (iP xs lo hi) hz,_,0,(r.drop (HT.sIx xs.length 0 lo)).take (HT.sIx xs.length xs.length hi-HT.sIx xs.length 0 lo),qa8 _ rfl⟩
def gx:V->Bool
 | .non=>true
 | .bl _=>true
 | .int _=>true
 | .str _=>true
 | _=>false
def eqV:V->V->Bool
 | .non,.non=>true
 | .bl a,.bl b=>a==b
 | .bl a,.int b=>(if a then 1 else 0)==b
 | .int a,.bl b=>a==(if b then 1 else 0)
 | .int a,.int b=>a==b
 | .str a,.str b=>a==b
 | _,_=>false
theorem iA (Y:RelV y u) (q:RelV x v) (Z:gx y=true) (O:gx x=true):qg1 A s u v (eqV y x):=by
 cases y with
 | non =>
  cases Y;cases x with
  | non=>cases q;exact zc5 _
  | bl b=>cases q;exact qg1.none_bool b
  | int b=>obtain ⟨t,rfl⟩:=q;exact qg1.none_int b t
  | str b=>obtain ⟨t,rfl⟩:=q;exact qg1.none_str b t
  | _=>exact absurd (show false=true from O) qb6
 | bl a =>
  cases Y;cases x with
  | non=>cases q;exact qg1.bool_none a
  | bl b=>cases q;exact qg1.bool_bool a b
  | int b=>obtain ⟨t,rfl⟩:=q;exact qg1.bool_int a b t
  | str b=>obtain ⟨t,rfl⟩:=q;exact qg1.bool_str a b t
  | _=>exact absurd (show false=true from O) qb6
 | int a =>
  obtain ⟨t',rfl⟩:=Y;cases x with
  | non=>cases q;exact qg1.int_none a t'
  | bl b=>cases q;exact qg1.int_bool a t' b
  | int b=>obtain ⟨t,rfl⟩:=q;exact qg1.int_int a t' b t
  | str b=>obtain ⟨t,rfl⟩:=q;exact qg1.int_str a t' b t
  | _=>exact absurd (show false=true from O) qb6
 | str a =>
  obtain ⟨t',rfl⟩:=Y;cases x with
  | non=>cases q;exact qg1.str_none a t'
  | bl b=>cases q;exact qg1.str_bool a t' b
  | int b=>obtain ⟨t,rfl⟩:=q;exact qg1.str_int a t' b t
  | str b=>obtain ⟨t,rfl⟩:=q;exact qg1.str_str a t' b t
  | _=>exact absurd (show false=true from O) qb6
 | _=>exact absurd (show false=true from Z) qb6
def eqU (x:V) (u:Value):Bool:=match u with
 | .none=>eqV .non x
 | .bool b=>eqV (.bl b) x
 | .int i _=>eqV (.int i) x
 | .str z _=>eqV (.str z) x
 | _=>false
theorem sH (r:RelV y u) (f:gx y=true):eqU x u=eqV y x:=by
 cases y with
 | non=>cases r;rfl
 | bl b=>cases r;rfl
 | int i=>obtain ⟨t,rfl⟩:=r;rfl
 | str z=>obtain ⟨t,rfl⟩:=r;rfl
 | _=>exact absurd (show false=true from f) qb6
theorem g5:∀ {xs:List V} {us:List Value},Vals xs us->xs.all gx=true->us.any (eqU x)=xs.any fun y=>eqV y x
 | _,_,.nil,_=>rfl
 | y::xs,u::us,.cons r t,f=>by rw [ql2,qb1] at f;rw [ql3,ql3,sH r f.1,g5 t f.2]
theorem fP (Y:RelV x v) (O:gx x=true):∀ {xs:List V} {us:List Value},Vals xs us->xs.all gx=true->∀ u∈us,qg1 A s u v (eqU x u)
 | _,_,.nil,_=>fun u q=>by cases q
 | y::xs,u::us,.cons r t,f=>fun Z q=>by
  rw [ql2,qb1] at f;rcases qa6.mp q with rfl | q
  . rw [sH r f.1];exact iA r Y f.1 O
  . exact fP Y O t f.2 Z q
def inV (x:V) (xs:List V):Bool:=xs.any fun y=>eqV y x
def rIn (K:xA9) (neg:Bool):R2:=fun x y H Q=>∃ p xs,y=.ref p/\(SqL K H p xs∨SqT K H p xs)/\gx x=true/\xs.all gx=true/\Q (.bl (if neg then !inV x xs else inV x xs)) H
theorem qS:OpR X (qg5 .In) (rIn X.K false):=by
 intro pins s σ H x y v u Q I rx ry h;obtain ⟨p,xs,rfl,O,fx,fs,q⟩:=h;cases ry;rcases O with O | O
 . obtain ⟨its,r,Y,hz⟩:=I.list O;refine SeqAt.in_listAt (eqU x) Y.isList (fun w Z=>fP rx fx r fs w (by simpa using Z)) ⟨.bl _,H,I,rfl,?_⟩;rw [show its.toArray.any (eqU x)=its.any (eqU x) by simp,g5 r fs];exact q
 . obtain ⟨its,r,Y,hz⟩:=I.tuple O;refine SeqAt.in_tupleAt (eqU x) Y (fun w Z=>fP rx fx r fs w (by simpa using Z)) ⟨.bl _,H,I,rfl,?_⟩;rw [show its.toArray.any (eqU x)=its.any (eqU x) by simp,g5 r fs];exact q
theorem lF:OpR X (qg5 .NotIn) (rIn X.K true):=by
 intro pins s σ H x y v u Q I rx ry h;obtain ⟨p,xs,rfl,O,fx,fs,q⟩:=h;cases ry;rcases O with O | O
 . obtain ⟨its,r,Y,hz⟩:=I.list O;refine SeqAt.notIn_listAt (eqU x) Y.isList (fun w Z=>fP rx fx r fs w (by simpa using Z)) ⟨.bl _,H,I,rfl,?_⟩;rw [show its.toArray.any (eqU x)=its.any (eqU x) by simp,g5 r fs];exact q
 . obtain ⟨its,r,Y,hz⟩:=I.tuple O;refine SeqAt.notIn_tupleAt (eqU x) Y (fun w Z=>fP rx fx r fs w (by simpa using Z)) ⟨.bl _,H,I,rfl,?_⟩;rw [show its.toArray.any (eqU x)=its.any (eqU x) by simp,g5 r fs];exact q
theorem lG:OpR X (qg5 .NotIn) (fun x y H Q=>∃ i j,x=.str i/\y=.str j/\Q (.bl (!(!(qr5 j i 0 j.length 1).isEmpty))) H):=by intro pins s σ H x y v u Q I O Y h;obtain ⟨i,j,rfl,rfl,q⟩:=h;obtain ⟨t,rfl⟩:=O;obtain ⟨t',rfl⟩:=Y;exact notIn_str ⟨.bl _,H,I,rfl,q⟩
theorem CallR.or {f:Value} {r Y:List V->Hp->VK->Prop} (h:CallR X f r) (h':CallR X f Y):CallR X f (fun xs H Q=>r xs H Q∨Y xs H Q):=by
 intro pins s σ H xs us Q I O q;rcases q with q | q
 . exact h pins s σ H xs us Q I O q
 . exact h' pins s σ H xs us Q I O q
theorem lH:CallR X (.type "list") (fun xs H Q=>∃ p ys,xs=[.ref p]/\(SqL X.K H p ys∨SqT X.K H p ys)/\∀ l,H l=none->Q (.ref l) (upd H l (.lst ys))):=by
 intro pins s σ H xs us Q I r h;obtain ⟨p,ys,rfl,hq,q⟩:=h;obtain ⟨u,rfl,rx⟩:=eD r;cases rx
 have fin:∀ (its:List Value),Vals ys its->ys.length<=qb2->∀ (h':Heap) (c':Nat),(∀ b o',s.heap.get? b=some o'->h'.get? b=some o')→
     h'.get? s.heap.objs.size=some {cls:=.type "list",dict:=none,data:=.seq its.toArray c',slots:=#[]}->EP X pins σ Q (.ref s.heap.objs.size) {s with heap:=h'}:=fun its O Z h' c' kp e =>
  ⟨.ref s.heap.objs.size,_,I.laid (t':=s.toks) kp (nL _) (show ObjOk X.prog X.w _ h' _ (.lst ys) from ⟨Z,its,c',O,e⟩),rfl,q _ (I.hok.fresh (nL _))⟩
 rcases hq with hq | hq
 . obtain ⟨its,O,pl,Z⟩:=I.list hq;have Y:=O.length;obtain ⟨o,ho,hc,n,hd⟩:=pl.isList;exact call_list_seq p (.inl rfl) ho hc hd (fun h' c' kp e=>fin its O Z h' c' kp e) (by simp only [qb5]<;>lia)
 . obtain ⟨its,O,pl,Z⟩:=I.tuple hq;have Y:=O.length;obtain ⟨o,ho,hc,n,hd⟩:=pl;exact call_list_seq p (.inr rfl) ho hc hd (fun h' c' kp e=>fin its O Z h' c' kp e) (by simp only [qb5]<;>lia)
theorem bY:CallR X (.type "tuple") (fun xs H Q=>∃ p ys,xs=[.ref p]/\((SqL X.K H p ys/\∀ l,H l=none->Q (.ref l) (upd H l (.tup ys)))∨(SqT X.K H p ys/\Q (.ref p) H))):=by
 intro pins s σ H xs us Q I r h;obtain ⟨p,ys,rfl,h⟩:=h;obtain ⟨u,rfl,rx⟩:=eD r;cases rx;rcases h with ⟨Y,q⟩ | ⟨Y,q⟩
 . obtain ⟨its,Z,O,hz⟩:=I.list Y;have hlen:=Z.length;refine call_tuple_list O.isList (fun h' kp=>?_) (by simp only [qb5]<;>lia);have I1:Inv X pins σ H {s with heap:=h'}:=I.kept (t':=s.toks) kp
   have I2:Inv X pins σ (upd H h'.objs.size (.tup ys)) {s with heap:=h'.push {cls:=.type "tuple",data:=.seq its.toArray}}:=I1.laid (t':=s.toks) (fun b o e=>gP _ e) (nL _) (show ObjOk X.prog X.w _ _ _ (.tup ys) from ⟨hz,its,Z,IsTup.new _ _⟩)
   exact ⟨.ref h'.objs.size,_,I2,rfl,q _ (I1.hok.fresh (nL _))⟩
 . obtain ⟨its,Z,O,hz⟩:=I.tuple Y;exact call_tuple_same O ⟨.ref p,H,I,rfl,q⟩
noncomputable def tyV (K:xA9) (T:String) (x:V) (H:Hp):Prop:=match x with
 | .str _=>T="str"
 | .int _=>T="int"
 | .ref p=>(T="list"/\∃ xs,SqL K H p xs)∨(T="tuple"/\∃ o,K.lookup p=some o/\o.cls=.type "tuple"/\o.dict=none)∨(T="dict"/\((∃ kvs,H p=some (.dK kvs))∨∃ kvs,H p=some (.dT kvs)))∨(T="set"/\∃ S n,H p=some (.set S n))
 | _=>False
theorem sI {T:String} (I:Inv X pins σ H s) (r:RelV x v) (ty:tyV X.K T x H) :
  s.TypeIs v T/\∀ a,v=.ref a->∃ ob,s.heap.get? a=some ob/\ob.dict=none:=by
 cases x with
 | str z =>obtain ⟨t,rfl⟩:=r;cases (show T="str" from ty);exact ⟨typeIs_str s z t,fun _ e=>nomatch e⟩
 | int i =>obtain ⟨t,rfl⟩:=r;cases (show T="int" from ty);exact ⟨typeIs_int s i t,fun _ e=>nomatch e⟩
 | ref p =>
  cases r;rcases ty with ⟨rfl,xs,hq⟩ | ⟨rfl,o,q,hc,Y⟩ | ⟨rfl,q⟩ | ⟨rfl,S,n,q⟩
  . obtain ⟨its,_,Z,_⟩:=I.list hq;refine ⟨Z.isList.typeIs,fun a e=>?_⟩;cases e;obtain ⟨o,n,e,c,Y,_⟩:=Z;exact ⟨o,e,Y⟩
  . refine ⟨⟨o,I.kIn p o q,hc⟩,fun a e=>?_⟩;cases e;exact ⟨o,I.kIn _ o q,Y⟩
  . have z:∃ o,s.heap.get? p=some o/\o.ExactDict:=by
     rcases q with ⟨kvs,q⟩ | ⟨kvs,q⟩
     . obtain ⟨_,_,_,_,o,_,_,e,ex,_⟩:=I.hok p _ q;exact ⟨o,e,ex⟩
     . obtain ⟨_,_,_,_,o,_,_,e,ex,_⟩:=I.hok p _ q;exact ⟨o,e,ex⟩
    obtain ⟨o,e,ex⟩:=z;refine ⟨⟨o,e,ex.1⟩,fun a O=>?_⟩;cases O;exact ⟨o,e,ex.2.1⟩
  . obtain ⟨o,_,_,_,e,ex,_⟩:=I.hok p _ q;refine ⟨⟨o,e,ex.1⟩,fun a O=>?_⟩;cases O;exact ⟨o,e,ex.2.1⟩
 | _=>exact qg2 ty
def tBM0 (K:xA9) (T:String) (r:V->List V->Hp->VK->Prop) (to:TE):TE:=fun σ H Q=>to σ H fun x H1=>tyV K T x H1/\r x [] H1 Q
def tBM (K:xA9) (T:String) (r:V->List V->Hp->VK->Prop) (to:TE) (t:TA):TE:=fun σ H Q=>to σ H fun x H1=>tyV K T x H1/\t σ H1 fun xs H2=>r x xs H2 Q
variable {o e:Expr} {es:List Expr} {to:TE} {t:TA} {name:Str} {apos cpos:Pos} {T id:String} {r:V->List V->Hp->VK->Prop}
theorem zQ (pa:PlainAttrs T) (slot:Slot T name id) (Y:typeOf (.builtin id)=pure (.type "method_descriptor")) (hm:MtR X id r) (ho:PE X o to)
  (q:qp3 o name X.env (eval o X.env)=eval o X.env:=by rfl) (O:(apos.endLine==cpos.line)=true:=by rfl):PE X (.Call (.Attribute o name apos) [] [] cpos) (tBM0 X.K T r to):=by
 intro pins s σ H Q I h;refine wpAny_Call_method0_late q O (thn (ho pins s σ H _ I h) fun v s1 ⟨x,H1,I1,Z,ty,q1⟩=>?_);obtain ⟨h1,h2⟩:=sI I1 Z ty;exact ⟨T,id,pa,slot,Y,h1,h2,za8 rfl (PySem.evalArgs_none (hm pins s1 σ H1 x [] v [] Q I1 Z .nil q1))⟩
theorem sJ (pa:PlainAttrs T) (slot:Slot T name id) (hty:typeOf (.builtin id)=pure (.type "method_descriptor")) (hm:MtR X id r) (ho:PE X o to) (ha:PA X (e::es) t)
  (O:qp3 o name X.env (eval o X.env)=eval o X.env:=by rfl)
  (Z:((qk0 cpos (qa9 (e::es) X.env)).all (fun x=>!x.1)&&(zh0 cpos (qz3 [] X.env)).all (fun x=>x.1.isSome)
   && decide ((e::es).length+([]:List qx1).length+(if ([]:List qx1).isEmpty then 0 else 1)<30))=true:=by rfl)
  (Y:(apos.endLine==cpos.line)=true:=by rfl) (hs:qa9 (e::es) X.env=(false,eval e X.env)::qa9 es X.env:=by rfl) (q:(qk0 cpos (qa9 es X.env)).any (·.1)=false:=by rfl) :
  PE X (.Call (.Attribute o name apos) (e::es) [] cpos) (tBM X.K T r to t):=by
 intro pins s σ H Q I h;refine wpAny_Call_method_late O Z Y rfl (thn (ho pins s σ H _ I h) fun v s1 ⟨x,H1,I1,r1,ty,q1⟩=>?_);obtain ⟨h1,h2⟩:=sI I1 r1 ty;refine ⟨T,id,pa,slot,hty,h1,h2,?_⟩;have hA:=ha cpos pins s1 σ H1 _ I1 q1;rw [hs] at hA ⊢;refine za8 (by show (false||(qk0 cpos (qa9 es X.env)).any (·.1))=false;rw [q]<;>rfl) (Calls.evalArgs_plain ?_);exact thn hA fun us s2 ⟨vs,H2,I2,r2,q2⟩=>hm pins s2 σ H2 x vs v us Q I2 r1 r2 q2
/- xs.append(e),list.index on a module's tuple .. are MtR facts of 06m -/
end
noncomputable def MtM (X:Cx) (id:String) (r:V->List V->Hp->VK->Prop):Prop:=
 ∀ (pins:List (Addr×Obj)) (s:qa4) (σ:St) (H:Hp) (x:V) (xs:List V) (v:Value) (us:List Value) (Q:VK),Inv X pins σ H s->RelV x v->Vals xs us->r x xs H Q→
  wpAny (model X.prog X.w) X.A (call (.builtin id) (v::us)) (EP X pins σ Q) X.xe s
theorem Vals.one:∀ {x:V} {us:List Value},Vals [x] us->∃ u,us=[u]/\RelV x u
 | _,_,.cons r .nil=>⟨_,rfl,r⟩
theorem Vals.zero:∀ {us:List Value},Vals [] us->us=[]
 | _,.nil=>rfl
theorem Vals.dropLast (h:Vals xs us):Vals xs.dropLast us.dropLast:=by
 induction h with
 | nil=>exact .nil
 | cons r t O =>
  cases t with
  | nil=>exact .nil
  | cons q t'=>exact .cons r O
theorem oh {α:Type} (l:List α):l.eraseIdx (l.length-1)=l.dropLast:=by
 induction l with
 | nil=>rfl
 | cons a r q =>
  cases r with
  | nil=>rfl
  | cons b r =>
   have e:(a::b::r).length-1=((b::r).length-1)+1:=by have h1:(a::b::r).length=r.length+2:=rfl;have h2:(b::r).length=r.length+1:=rfl;lia
   rw [e,List.eraseIdx_cons_succ,q]
   all_goals rfl
variable {t':Nat}
section
variable {X:Cx} {pins:List (Addr×Obj)} {σ:St} {H:Hp} {s:qa4} {l b:Addr} {xs ys zs:List V}
theorem Inv.lset {f:Array Value->Array Value} (I:Inv X pins σ H s) (hH:H l=some (.lst xs))
 (e:s.heap.get? l=some {cls:=.type "list",data:=.seq its.toArray n}) (hf:f its.toArray=its'.toArray) (Z:Vals ys its') (O:ys.length<=qb2) :
  Inv X pins σ (upd H l (.lst ys)) {s with heap:=s.heap.update l (qn9 f),toks:=t'}:=by
 have q:=PySem.IsL.update e f;rw [hf] at q;refine I.write (x:=l) (e:=l) (by rw [hH];exact trivial) (.inl rfl) (fun b' u Y hu=>(qk5 s.heap (qn9 f) (qq0 Y)).trans hu) ⟨_,q⟩ ?_;exact ⟨O,its',_,Z,q⟩
theorem Inv.lnew (I:Inv X pins σ H s) (Y:Vals ys its) (O:ys.length<=qb2) :
  Inv X pins σ (upd H s.heap.objs.size (.lst ys)) {s with heap:=s.heap.push {cls:=.type "list",data:=.seq its.toArray},toks:=t'}:=
 I.laid (fun _ _ q=>gP _ q) (nL _) ⟨O,its,0,Y,qa8 _ rfl⟩
theorem Inv.fresh (I:Inv X pins σ H s):H s.heap.objs.size=none:=I.hok.fresh (nL _)
theorem Inv.lstM (I:Inv X pins σ H s) (q:H l=some (.lst xs)):xs.length<=qb2/\∃ (its:List Value) (n:Nat),Vals xs its/\xs.length=its.length/\s.heap.get? l=some {cls:=.type "list",data:=.seq its.toArray n}:=by obtain ⟨z,its,n,r,e⟩:=I.hok l _ q;exact ⟨z,its,n,r,r.length,e⟩
theorem sK (h:n<=qb2):qr2 n=false:=by unfold qr2;exact decide_eq_false (by lia)
end
section
variable {X:Cx}
def vT:V->List V->Hp->VK->Prop:=fun x vs H Q=>∃ l xs y,x=.ref l/\vs=[y]/\H l=some (.lst xs)/\xs.length<qb2/\Q .non (upd H l (.lst (xs++[y])))
theorem iB:MtM X "list.append" vT:=by intro pins s σ H x vs v us Q I Z rv h;obtain ⟨l,xs,y,rfl,rfl,O,hz,q⟩:=h;cases Z;obtain ⟨u,rfl,Y⟩:=rv.one;obtain ⟨z,its,n,r,hl,e⟩:=I.lstM O;refine call_meets F.slot_list_append ⟨_,e,rfl⟩ F.entry_list_append (F.args_list_append_2 _ _) (PySem.list_append l its.toArray n u (by rw [qb5];lia)) ⟨e,?_⟩;refine ⟨.non,_,I.lset (its':=its++[u]) O e (by simp) (r.append (.cons Y .nil)) ?_,rfl,q⟩;rw [qc8,qo5];lia
def vU:V->List V->Hp->VK->Prop:=fun x vs H Q=>∃ l b xs zs,x=.ref l/\vs=[.ref b]/\H l=some (.lst xs)/\H b=some (.lst zs)/\xs.length+zs.length<=qb2/\Q .non (upd H l (.lst (xs++zs)))
theorem qT:MtM X "list.extend" vU:=by
 intro pins s σ H x vs v us Q I rx rv h;obtain ⟨l,b,xs,zs,rfl,rfl,hH,hB,hz,q⟩:=h;cases rx;obtain ⟨u,rfl,ru⟩:=rv.one;cases ru;obtain ⟨z,its,n,r,hl,e⟩:=I.lstM hH;obtain ⟨z2,O,n2,r2,hl2,e2⟩:=I.lstM hB;have Z:its.toArray.size+O.toArray.size<=qb2:=by rw [qb5,qb5];lia
 have Y:¬ (!its.toArray.isEmpty&&qr2 (its.toArray.size+O.toArray.size))=true:=by rw [sK Z,qx2];exact qb6
 refine call_meets F.slot_list_extend ⟨_,e,rfl⟩ F.entry_list_extend (F.args_list_extend_2 _ _)
  (AutoSeq1.list_extend_list_list_0 l its.toArray n b O.toArray n2 Y (by rw [qb5];lia) (by lia)) ⟨e,e2,?_⟩
 refine ⟨.non,_,I.lset (its':=its++O) hH e (by simp) (r.append r2) ?_,rfl,q⟩;rw [qc8];lia
def rPop:V->List V->Hp->VK->Prop:=fun x vs H Q=>∃ l xs y,x=.ref l/\vs=[]/\H l=some (.lst xs)/\xs[xs.length-1]?=some y/\Q y (upd H l (.lst xs.dropLast))
theorem zR:MtM X "list.pop" rPop:=by
 intro pins s σ H x vs v us Q I rx rv h;obtain ⟨l,xs,y,rfl,rfl,Z,hy,q⟩:=h;cases rx;have Y:=rv.zero;subst Y;obtain ⟨z,its,n,r,hl,e⟩:=I.lstM Z;obtain ⟨u,hu,ru⟩:=r.get hy
 have O:its.toArray[its.toArray.size-1]?=some u:=by show its.toArray[its.length-1]?=some u;rw [<- ql4,<- hl];exact hu
 refine call_meets F.slot_list_pop ⟨_,e,rfl⟩ F.entry_list_pop (F.args_list_pop_1 _) (MeetsSeq.list_pop_last l its.toArray n u O (by rw [qb5];lia)) ⟨e,?_⟩;refine ⟨y,_,I.lset (its':=its.dropLast) Z e ?_ r.dropLast ?_,ru,q⟩
 . show its.toArray.eraseIdxIfInBounds (its.toArray.size-1)=its.dropLast.toArray;rw [qb5,List.eraseIdxIfInBounds_toArray,oh]
 . rw [List.length_dropLast];lia
end
section
variable {prog:qc2} {w:World} {A:qd8} {E:Value->qa4->Prop} {s:qa4}
end
section
variable {X:Cx}
end
variable {o:Option V}
section
variable {κ:Type} [DecidableEq κ]
def eX (kvs:List (κ×V)) (k:κ):Option V:=(kvs.find? fun kv=>decide (kv.1=k)).map (·.2)
def dU (kvs:List (κ×V)) (k:κ) (v:V):List (κ×V):=if (kvs.any fun kv=>decide (kv.1=k))=true then kvs.map (fun kv=>if kv.1=k then (kv.1,v) else kv) else kvs++[(k,v)]
theorem g6 {p:κ×V} {r:List (κ×V)} {k:κ} (e:p.1=k):eX (p::r) k=some p.2:=by simp [eX,qo6,e]
theorem fQ {p:κ×V} {r:List (κ×V)} {k:κ} (e:¬ p.1=k):eX (p::r) k=eX r k:=by simp [eX,qo6,e]
theorem mz (k:κ):∀ kvs:List (κ×V),(kvs.any fun kv=>decide (kv.1=k))=(eX kvs k).isSome
 | []=>rfl
 | p::r=>by
  rw [ql3];by_cases e:p.1=k
  . simp only [g6 e,decide_eq_true e,Bool.true_or,Option.isSome_some]
  . rw [fQ e,decide_eq_false e,Bool.false_or];exact mz k r
theorem fR (kvs:List (κ×V)) (k:κ) (v:V):(dU kvs k v).length<=kvs.length+1:=by
 unfold dU;split
 . rw [qa1];lia
 . rw [qc8,qg7,zc6];lia
theorem RelO.isSome_eq {u:Option Value} (r:RelO o u):o.isSome=u.isSome:=by
 cases o with
 | none=>cases u with
  | none=>rfl
  | some _=>exact (show False from r).elim
 | some _=>cases u with
  | none=>exact (show False from r).elim
  | some _=>rfl
theorem RelO.getD {u:Option Value} {d:V} {d':Value} (r:RelO o u) (rd:RelV d d'):RelV (o.getD d) (u.getD d'):=by
 cases o with
 | none=>cases u with
  | none=>exact rd
  | some _=>exact (show False from r).elim
 | some _=>cases u with
  | none=>exact (show False from r).elim
  | some _=>exact r
theorem KV.val {kvs:List (κ×V)} {vs:List (κ×Value)} (r:KV kvs vs) (k:κ):RelO (eX kvs k) (ze8 vs k):=by
 unfold KV at r;induction r with
 | nil=>exact qn8
 | @cons p q ps qs h t Y =>
  obtain ⟨h1,h2⟩:=h;by_cases e:p.1=k
  . have O:q.1=k:=h1.symm.trans e;have b:ze8 (q::qs) k=some q.2:=by simp [ze8,qo6,O]
    rw [g6 e,b];exact h2
  . have O:¬ q.1=k:=fun z=>e (h1.trans z)
    have b:ze8 (q::qs) k=ze8 qs k:=by simp [ze8,qo6,O]
    rw [fQ e,b];exact Y
theorem KV.any {kvs:List (κ×V)} {vs:List (κ×Value)} (r:KV kvs vs) (k:κ):(kvs.any fun kv=>decide (kv.1=k))=vs.any fun kv=>decide (kv.1=k):=by
 unfold KV at r;induction r with
 | nil=>rfl
 | cons h t q=>rw [ql3,ql3,q,h.1]
theorem KV.repl {kvs:List (κ×V)} {vs:List (κ×Value)} (r:KV kvs vs) (k:κ) (Y:RelV y u) :
  KV (kvs.map fun kv=>if kv.1=k then (kv.1,y) else kv) (vs.map fun kv=>if kv.1=k then (kv.1,u) else kv):=by
 unfold KV at r ⊢;induction r with
 | nil=>exact .nil
 | @cons p q ps qs h t O =>
  rw [qa5,qa5];refine .cons ?_ O;obtain ⟨h1,h2⟩:=h;by_cases e:p.1=k
  . rw [if_pos e,if_pos (h1.symm.trans e)];exact ⟨h1,Y⟩
  . rw [if_neg e,if_neg (fun z=>e (h1.trans z))];exact ⟨h1,h2⟩
theorem KV.put {kvs:List (κ×V)} {vs:List (κ×Value)} (r:KV kvs vs) (k:κ) (q:RelV y u):KV (dU kvs k y) (stored vs k u):=by
 unfold dU stored;rw [r.any k];by_cases e:(vs.any fun kv=>decide (kv.1=k))=true
 . rw [if_pos e,if_pos e];exact r.repl k q
 . rw [if_neg e,if_neg e];exact Paired.snoc r ⟨rfl,q⟩
theorem KV.length {kvs:List (κ×V)} {vs:List (κ×Value)} (r:KV kvs vs):kvs.length=vs.length:=Paired.length r
end
variable {P:qc2} {w:World}
theorem iQ {k:Key} (r:RelV (kV k) u):(bK P w).is k u=true:=by
 cases k with
 | inl i=>obtain ⟨t,e⟩:=(show ∃ t,u=zh3 i t from r);subst e;exact ms P w i t
 | inr x=>obtain ⟨t,e⟩:=(show ∃ t,u=zh4 x t from r);subst e;exact fN P w x t
theorem kr:∀ {ks:List Key} {us:List Value},Vals (ks.map kV) us->ItemsAre (bK P w) ks us
 | [],_,r=>by rw [qt4] at r;cases r;exact .nil
 | k::ks,_,r=>by
  rw [qa5] at r;cases r with
  | cons h t=>exact .cons (iQ h) (kr t)
abbrev KT (H:Hp):List (List Key×V)->List (List Key×Addr×Value)->Prop:=Paired fun p q=>p.1=q.1/\H q.2.1=some (.tup (p.1.map kV))/\RelV p.2 q.2.2
variable {kvs:List (List Key×V)}
theorem KT.val {xs:List (List Key×Addr×Value)} (r:KT H kvs xs) (k:List Key):RelO (eX kvs k) ((atKey xs k).map (·.2)):=by
 induction r with
 | nil=>exact qn8
 | @cons p q ps qs h t Y =>
  obtain ⟨h1,_,h2⟩:=h;by_cases e:p.1=k
  . have O:q.1=k:=h1.symm.trans e;have b:atKey (q::qs) k=some q.2:=by simp [atKey,qo6,O]
    rw [g6 e,b];exact h2
  . have O:¬ q.1=k:=fun z=>e (h1.trans z)
    have b:atKey (q::qs) k=atKey qs k:=by simp [atKey,qo6,O]
    rw [fQ e,b];exact Y
theorem KT.repl {xs:List (List Key×Addr×Value)} (r:KT H kvs xs) (k:List Key) (Y:RelV y u) :
  KT H (kvs.map fun kv=>if kv.1=k then (kv.1,y) else kv) (xs.map (putAt k u)):=by
 induction r with
 | nil=>exact .nil
 | @cons p q ps qs h t O =>
  rw [qa5,qa5];refine .cons ?_ O;obtain ⟨h1,h2,h3⟩:=h;unfold putAt;by_cases e:p.1=k
  . rw [if_pos e,if_pos (h1.symm.trans e)];exact ⟨h1,h2,Y⟩
  . rw [if_neg e,if_neg (fun z=>e (h1.trans z))];exact ⟨h1,h2,h3⟩
variable {b:Addr}
theorem KT.put {xs:List (List Key×Addr×Value)} (r:KT H kvs xs) (k:List Key) (Y:H b=some (.tup (k.map kV))) (O:RelV y u) :
  KT H (dU kvs k y) (storedH xs k b u):=by
 have e:(kvs.any fun kv=>decide (kv.1=k))=(atKey xs k).isSome:=by rw [mz,(r.val k).isSome_eq,qp4]
 unfold dU storedH;rw [e];by_cases q:(atKey xs k).isSome=true
 . rw [if_pos q,if_pos q];exact r.repl k O
 . rw [if_neg q,if_neg q];exact Paired.snoc r ⟨rfl,Y,O⟩
variable {H':Hp}
theorem KT.keeps {xs:List (List Key×Addr×Value)} (r:KT H kvs xs) (q:∀ b ys,H b=some (.tup ys)->H' b=some (.tup ys)):KT H' kvs xs:=Paired.mapP r fun _ _ z=>⟨z.1,q _ _ z.2.1,z.2.2⟩
section
variable {P:qc2} {w:World} {H:Hp} {h:Heap} {a:Addr}
theorem xT {u:HO} (ok:HOk P w H h) (e:Rd H a u):ObjOk P w H h a u:=e.ok ok
theorem kt {kvs:List (Key×V)} (ok:HOk P w H h) (e:Rd H a (.dK kvs)):kvs.length<=qb2/\(a==qi2)=false/\∃ vs,KV kvs vs/\h.DictOf (bK P w) a vs:=show ObjOk P w H h a (.dK kvs) from xT ok e
theorem xU {kvs:List (Key×V)} (ok:HOk P w H h) (e:H a=some (.dK kvs)):kvs.length<=qb2/\(a==qi2)=false/\∃ vs,KV kvs vs/\h.DictOf (bK P w) a vs:=kt ok (.inl e)
theorem jt {ks:List Key} (ok:HOk P w H h) (e:H a=some (.tup (ks.map kV))):(zf2 (bK P w)).is h ks a:=by obtain ⟨_,its,r,o,h1,h2,n,h3⟩:=(show ObjOk P w H h a (.tup (ks.map kV)) from ok a _ e);exact ⟨o,its.toArray,n,h1,h2,h3,by simpa using kr r⟩
theorem mB (ok:HOk P w H h) (e:Rd H a (.dT kvs)):kvs.length<=qb2/\(a==qi2)=false∧
  ∃ xs,KT H kvs xs/\h.DictOfH (zf2 (bK P w)) a xs:=by
 obtain ⟨z,y,xs,r,o,es,ep,h1,h2,h3,Z,h5⟩:=(show ObjOk P w H h a (.dT kvs) from xT ok e);refine ⟨z,y,xs,r,o,es,ep,h1,h2,h3,Z,fun x O=>?_,h5⟩
 have all:∀ {l:List (List Key×V)} {m:List (List Key×Addr×Value)},KT H l m->∀ x∈m,(zf2 (bK P w)).is h x.1 x.2.1:=by
  intro l m q;induction q with
  | nil=>intro x O;exact nomatch O
  | @cons p q ps qs Y t ih =>
   intro x O;rcases qa6.mp O with e | O
   . subst e;exact jt ok (by rw [<- Y.1];exact Y.2.1)
   . exact ih x O
 exact all r x O
theorem B6 (ok:HOk P w H h) (e:H a=some (.dT kvs)):kvs.length<=qb2/\(a==qi2)=false∧∃ xs,KT H kvs xs/\h.DictOfH (zf2 (bK P w)) a xs:=mB ok (.inl e)
end
def DGet (H:Hp) (a:Addr) (y:V) (r:Option V):Prop:=(∃ kvs k,Rd H a (.dK kvs)/\y=kV k/\r=eX kvs k)∨∃ kvs k b,Rd H a (.dT kvs)/\y=.ref b/\H b=some (.tup (k.map kV))/\r=eX kvs k
noncomputable def DPut (H:Hp) (a:Addr) (y v:V) (H':Hp):Prop:=
 (∃ kvs k,H a=some (.dK kvs)/\y=kV k/\kvs.length<qb2/\H'=upd H a (.dK (dU kvs k v)))∨
 ∃ kvs k b,H a=some (.dT kvs)/\y=.ref b/\H b=some (.tup (k.map kV))/\kvs.length<qb2/\H'=upd H a (.dT (dU kvs k v))
variable {a:Addr}
theorem DGet.k {kvs:List (Key×V)} {k:Key} (e:H a=some (.dK kvs)):DGet H a (kV k) (eX kvs k):=.inl ⟨kvs,k,.inl e,rfl,rfl⟩
theorem DGet.t {k:List Key} (e:H a=some (.dT kvs)) (q:H b=some (.tup (k.map kV))):DGet H a (.ref b) (eX kvs k):=.inr ⟨kvs,k,b,.inl e,rfl,q,rfl⟩
theorem DPut.k {kvs:List (Key×V)} {k:Key} {v:V} (e:H a=some (.dK kvs)) (q:kvs.length<qb2):DPut H a (kV k) v (upd H a (.dK (dU kvs k v))):=.inl ⟨kvs,k,e,rfl,q,rfl⟩
theorem DPut.t {k:List Key} {v:V} (e:H a=some (.dT kvs)) (q:H b=some (.tup (k.map kV))) (O:kvs.length<qb2) :
  DPut H a (.ref b) v (upd H a (.dT (dU kvs k v))):=.inr ⟨kvs,k,b,e,rfl,q,O,rfl⟩
variable {Q:Value->qa4->Prop} {h':Heap}
section
variable {X:Cx} {pins:List (Addr×Obj)} {σ:St} {H:Hp} {s:qa4} {a:Addr} {y v:V} {u r:Value} {o:Option V} {A:qd8} {E:Value->qa4->Prop}
theorem Inv.big (I:Inv X pins σ H s):qi2<s.heap.objs.size:=by have h:qb9<s.heap.objs.size:=(I.mod.glob.keeps I.bk).lt;exact qw6 (by decide) h
theorem qU (hu:A.units+1<cLine) (I:Inv X pins σ H s) (g:DGet H a y (some v)) (ry:RelV y u) (h:∀ Y s',Inv X pins σ H s'->RelV v Y->Q Y s') :
  wpAny (model X.prog X.w) A (ze6 (.ref a) u) Q E s:=by
 rcases g with ⟨kvs,k,e,ey,l⟩ | ⟨kvs,k,b,e,ey,eb,l⟩
 . subst ey;obtain ⟨z,hd,vs,O,Z⟩:=kt I.hok e;obtain ⟨Y,hw,q⟩:=RelO.some_of (v:=v) (o:=ze8 vs k) (by rw [l];exact O.val k);exact wpAny_getItem_of (iQ ry) Z.mapOf hw (h Y _ (I.tok _) q)
 . subst ey;cases (show u=qe9 b from ry);obtain ⟨z,hd,xs,O,Z⟩:=mB I.hok e;obtain ⟨Y,hw,q⟩:=RelO.some_of (v:=v) (o:=(atKey xs k).map (·.2)) (by rw [l];exact O.val k);obtain ⟨p,hp,hp2⟩:=mS hw;refine wpAny_getItem_heap (qr6 hu) (jt I.hok eb) Z hp ?_;rw [hp2];exact h Y _ (I.tok _) q
theorem d_in (hu:A.units+1<cLine) (I:Inv X pins σ H s) (g:DGet H a y o) (ry:RelV y u) (h:∀ s',Inv X pins σ H s'->Q (.bool o.isSome) s') :
  wpAny (model X.prog X.w) A (qg5 .In u (.ref a)) Q E s:=by
 rcases g with ⟨kvs,k,e,ey,l⟩ | ⟨kvs,k,b,e,ey,eb,l⟩
 . subst ey;obtain ⟨z,Z,vs,O,Y⟩:=kt I.hok e;refine wpAny_in_of (iQ ry) Z Y.mapOf ?_;rw [<- (O.val k).isSome_eq,<- l];exact h _ (I.tok _)
 . subst ey;cases (show u=qe9 b from ry);obtain ⟨z,Z,xs,O,Y⟩:=mB I.hok e;refine wpAny_in_heap (qr6 hu) (jt I.hok eb) Z Y ?_;have q:=(O.val k).isSome_eq;rw [qp4] at q;rw [<- q,<- l];exact h _ (I.tok _)
theorem vV (hu:A.units+1<cLine) (I:Inv X pins σ H s) (g:DGet H a y o) (ry:RelV y u) (h:∀ s',Inv X pins σ H s'->Q (.bool (!o.isSome)) s') :
  wpAny (model X.prog X.w) A (qg5 .NotIn u (.ref a)) Q E s:=by
 rcases g with ⟨kvs,k,e,ey,l⟩ | ⟨kvs,k,b,e,ey,eb,l⟩
 . subst ey;obtain ⟨z,Z,vs,O,Y⟩:=kt I.hok e;refine wpAny_notIn_of (iQ ry) Z Y.mapOf ?_;rw [<- (O.val k).isSome_eq,<- l];exact h _ (I.tok _)
 . subst ey;cases (show u=qe9 b from ry);obtain ⟨z,Z,xs,O,Y⟩:=mB I.hok e;refine wpAny_notIn_heap (qr6 hu) (jt I.hok eb) Z Y ?_;have q:=(O.val k).isSome_eq;rw [qp4] at q;rw [<- q,<- l];exact h _ (I.tok _)
theorem lI {ob:HO} (I:Inv X pins σ H s) (mu:Mut (H a)) (Z:qn2 a s.heap h') (Y:∃ q,h'.get? a=some q) (new:ObjOk X.prog X.w (upd H a ob) h' a ob) :
  Inv X pins σ (upd H a ob) {s with heap:=h',toks:=t'}:=
 I.write (x:=a) (e:=a) mu (.inl rfl) (fun b q O z=>(Z.2 b O).trans z) Y new
theorem sL {kvs:List (Key×V)} {vs:List (Key×Value)} (z:kvs.length<=qb2) (O:(a==qi2)=false) (q:KV kvs vs) (Y:h'.DictOf (bK P w) a vs) :
  ObjOk P w H' h' a (.dK kvs):=⟨z,O,vs,q,Y⟩
theorem qV {Q:Unit->qa4->Prop} (hu:A.units+1<cLine) (I:Inv X pins σ H s) (g:DPut H a y v H') (ry:RelV y u) (rv:RelV v r) (h:∀ s',Inv X pins σ H' s'->Q () s') :
  wpAny (model X.prog X.w) A (setItem (.ref a) u r) Q E s:=by
 rcases g with ⟨kvs,k,e,ey,l,eH⟩ | ⟨kvs,k,b,e,ey,eb,l,eH⟩
 . subst ey eH;obtain ⟨z,hd,vs,O,dd⟩:=xU I.hok e;have hz:vs.length<=qb2:=by rw [<- O.length];exact z
   have hl:(dU kvs k v).length<=qb2:=by have:=fR kvs k v;lia
   refine wpAny_setItem_pairs (hsz:=hz) (iQ ry) dd fun h' Y hs=>h _ ?_
   have he:∃ q,h'.get? a=some q:=let ⟨q,_,_,Z,_⟩:=Y;⟨q,Z⟩;exact lI I (by rw [e];exact qn8) hs he (sL hl hd (O.put k rv) Y)
 . subst ey eH;cases (show u=qe9 b from ry);obtain ⟨z,hd,xs,O,dd⟩:=B6 I.hok e;have hz:xs.length<=qb2:=by rw [<- Paired.length O];exact z
   have hl:(dU kvs k v).length<=qb2:=by have:=fR kvs k v;lia
   refine wpAny_setItem_heap (hsz:=hz) (qr6 hu) (jt I.hok eb) dd fun h' Y hs=>h _ ?_
   obtain ⟨q,es,ep,Z,h2,h3,h4,_,h5⟩:=Y;refine lI I (by rw [e];exact qn8) hs ⟨q,Z⟩ ⟨hl,hd,_,(O.put k eb rv).keeps fun c ys ec=>?_,q,es,ep,Z,h2,h3,h4,h5⟩;rw [aH (BL ec e (fun z=>nomatch z))];exact ec
end
section
variable {X:Cx} {pins:List (Addr×Obj)} {σ:St} {H:Hp} {s:qa4} {a:Addr} {kvs:List (Key×V)} {k:Key} {u:Value} {A:qd8} {E:Value->qa4->Prop}
end
def sM (i:Expr):Prop:=∀ O q,ze7 i false O q=operate [O,q] (ze6 O q)
variable {pos:Pos}
theorem pN {prog:qc2} {E:Value->qa4->Prop} {env:Env} {value q:Expr} {T id:String} 
 (hl:zd7 (.type T) "__getitem__"=pure (some (.builtin id))) (hs:sM q)
 (h:wpAny (model prog w) A (eval value env) (fun o Y=>wpAny (model prog w) A (eval q env) (fun i s₂=>s₂.TypeIs o T/\wpAny (model prog w) A (ze6 o i) Q E s₂) E Y) E s) :
  wpAny (model prog w) A (eval (.Subscript value q pos) env) Q E s:=by
 refine Subscript_ (qj7 h (fun o Y h₁=>qj7 h₁ (fun i s₂ O=>?_) fun _ _ x=>x) fun _ _ x=>x);obtain ⟨hT,O⟩:=O;unfold zf7;refine wB ?_;rw [getitemInPython_of_ne hT.not_modules];refine wB (qv5 hT hl ?_)
 have Z:wpAny (model prog w) A (ze7 q false o i) (fun r s₃=>wpAny (model prog w) A (letTemporaryGo value o r >>= fun _=>pure r) Q E s₃) E s₂:=by rw [hs o i];exact wpAny_operating (qj7 O (fun r s₃ h₃=>wB (wpAny_letTemporaryGo (qa2 h₃))) fun _ _ x=>x)
 first
  | exact qa2 (wB Z)
  | exact wB (qa2 (wB Z))
  | exact wB Z
variable {X:Cx}
theorem mC (I:Inv X pins σ H s) (g:DGet H a y o):s.TypeIs (.ref a) "dict":=by
 rcases g with ⟨kvs,k,e,_,_⟩ | ⟨kvs,k,b,e,_,_,_⟩
 . obtain ⟨_,_,vs,_,q⟩:=kt I.hok e;exact q.typeIs
 . obtain ⟨_,_,xs,_,q⟩:=mB I.hok e;exact q.typeIs
def B7 (td ty:TE):TE:=fun σ H Q=>td σ H fun x H1=>ty σ H1 fun y H2=>∃ a v,x=.ref a/\DGet H2 a y (some v)/\Q v H2
def tDIn (ty td:TE):TE:=fun σ H Q=>ty σ H fun y H1=>td σ H1 fun x H2=>∃ a o,x=.ref a/\DGet H2 a y o/\Q (.bl o.isSome) H2
def pO (ty td:TE):TE:=fun σ H Q=>ty σ H fun y H1=>td σ H1 fun x H2=>∃ a o,x=.ref a/\DGet H2 a y o/\Q (.bl (!o.isSome)) H2
def B8 (td ty tv:TE):TS:=fun D σ H=>tv σ H fun v H1=>td σ H1 fun x H2=>ty σ H2 fun y O=>∃ a q,x=.ref a/\DPut O a y v q/\D.nx σ q
section
variable {X:Cx} {o i e value:Expr} {pos pos' tpos:Pos} {td ty tv:TE}
theorem vW (hu:X.A.units+1<cLine) (ho:PE X o td) (hi:PE X i ty) (hs:sM i):PE X (.Subscript o i pos) (B7 td ty):=by intro pins s σ H Q I h;refine pN PySem.F.slot_dict_getitem.lookup hs (thn (ho pins s σ H _ I h) fun u s1 ⟨x,H1,Z,rx,q1⟩=>thn (hi pins s1 σ H1 _ Z q1) fun iv s2 ⟨y,H2,O,ry,a,v,ex,g,q2⟩=>?_);subst ex;obtain rfl:u=qe9 a:=rx;exact ⟨mC O g,qU hu O g ry fun w' s3 Y q=>⟨v,H2,Y,q,q2⟩⟩
theorem sN (hu:X.A.units+1<cLine) (hi:PE X i ty) (ho:PE X o td):PC X .In i o (tDIn ty td):=by
 intro pins s σ H Q I h;refine thn (hi pins s σ H _ I h) fun iv s1 ⟨y,H1,Z,ry,q1⟩=>thn (ho pins s1 σ H1 _ Z q1) fun u s2 ⟨x,H2,O,Y,a,ov,ex,g,q2⟩=>?_
 subst ex;obtain rfl:u=qe9 a:=Y;exact d_in hu O g ry fun s3 q=>⟨.bl ov.isSome,H2,q,rfl,q2⟩
theorem qW (hu:X.A.units+1<cLine) (hi:PE X i ty) (ho:PE X o td):PC X .NotIn i o (pO ty td):=by
 intro pins s σ H Q I h;refine thn (hi pins s σ H _ I h) fun iv s1 ⟨y,H1,Z,ry,q1⟩=>thn (ho pins s1 σ H1 _ Z q1) fun u s2 ⟨x,H2,O,Y,a,ov,ex,g,q2⟩=>?_
 subst ex;obtain rfl:u=qe9 a:=Y;exact vV hu O g ry fun s3 q=>⟨.bl (!ov.isSome),H2,q,rfl,q2⟩
theorem vX (hu:X.A.units+1<cLine) (ho:PE X o td) (hi:PE X i ty) (hv:PE X value tv) (hs:qo4 value (some (.Subscript o i pos')) pos.line X.env=pure false) :
  PS X (.Assign [.Subscript o i pos'] value pos) (B8 td ty tv):=by
 intro pins s σ H D I h;refine wpAny_Assign_Subscript (thn (hv pins s σ H _ I h) fun r s1 ⟨v,H1,Z,rv,q1⟩=>thn (ho pins s1 σ H1 _ Z q1) fun u q ⟨x,H2,Y,rx,q2⟩=>thn (hi pins q σ H2 _ Y q2) fun iv s3 ⟨y,H3,O,ry,a,H4,ex,g,q3⟩=>?_) hs;subst ex;obtain rfl:u=qe9 a:=rx;exact qV hu O g ry rv fun s4 I4=>⟨σ,H4,I4,q3⟩
end
theorem mD (h:Heap) (q:qi2<h.objs.size):ObjOk P w H (h.push {cls:=.type "dict",data:=.dict #[]}) h.objs.size (.dK []):=⟨qj2 _,beq_eq_false_iff_ne.mpr (qq0 (qb8 q)),[],.nil,Heap.DictOf.new h⟩
def zS:TE:=fun _ H Q=>∀ p,H p=none->Q (.ref p) (upd H p (.dK []))
section
variable {X:Cx} {pos:Pos}
theorem sO:PE X (.Dict [] [] pos) zS:=fun pins s σ H Q I h =>wpAny_Dict_empty ⟨.ref s.heap.objs.size,_,I.laid (a:=s.heap.objs.size) (o:=.dK []) (t':=s.toks) (fun _ _ q=>gP _ q) (nL _) (mD s.heap I.big),rfl,h _ (I.hok.fresh (nL _))⟩
end
def lJ:List (TE×TE)->St->Hp->(List (V×V)->Hp->Prop)->Prop
 | [],_,H,Q=>Q [] H
 | (tk,tv)::r,σ,H,Q=>tk σ H fun x H1=>tv σ H1 fun y H2=>lJ r σ H2 fun ps q=>Q ((x,y)::ps) q
abbrev VV:List (V×V)->List (Value×Value)->Prop:=Paired fun p q=>RelV p.1 q.1/\RelV p.2 q.2
noncomputable def PPs (X:Cx) (pos:Pos) (O:List (Option Expr)) (q:List Expr) (trs:List (TE×TE)):Prop:=
 ∀ (pins:List (Addr×Obj)) (s:qa4) (σ:St) (H:Hp) (Q:List (V×V)->Hp->Prop),Inv X pins σ H s->lJ trs σ H Q→
  wpAny (model X.prog X.w) X.A (evalPairs (pairTrees O q X.env pos)) (fun vs s'=>∃ ps H',Inv X pins σ H' s'/\VV ps vs/\Q ps H') X.xe s
theorem vY:PPs X pos [] [] []:=fun pins s σ H Q I h=>pairTrees_nil_walk ⟨[],H,I,.nil,h⟩
variable {trs:List (TE×TE)}
theorem sP {k v:Expr} {ks:List (Option Expr)} {vs:List Expr} {tk tv:TE} (hk:PE X k tk) (hv:PE X v tv) (hr:PPs X pos ks vs trs) :
  PPs X pos (some k::ks) (v::vs) ((tk,tv)::trs):=fun pins s σ H Q I h =>
 pairTrees_cons_walk (thn (hk pins s σ H _ I h) fun u s1 ⟨x,H1,I1,rx,q1⟩=>thn (hv pins s1 σ H1 _ I1 q1) fun w2 O ⟨y,H2,Z,ry,q2⟩ =>thn (hr pins O σ H2 _ Z q2) fun ws s3 ⟨ps,H3,Y,q,q3⟩=>⟨(x,y)::ps,H3,Y,.cons ⟨rx,ry⟩ q,q3⟩)
def fS (kvs more:List (Key×V)):List (Key×V):=more.foldl (fun acc kv=>dU acc kv.1 kv.2) kvs
theorem KV.merge:∀ {more:List (Key×V)} {O:List (Key×Value)} {kvs:List (Key×V)} {vs:List (Key×Value)},KV more O->KV kvs vs->KV (fS kvs more) (merged vs O):=by
 intro more O kvs vs r;unfold KV at r;induction r generalizing kvs vs with
 | nil=>intro q;exact q
 | @cons p q ps qs h t Y =>
  intro Z
  have e:KV (dU kvs p.1 p.2) (stored vs q.1 q.2):=by have:=Z.put p.1 h.2;rw [<- h.1];exact this
  exact Y e
theorem gy:∀ (more kvs:List (Key×V)),(fS kvs more).length<=kvs.length+more.length
 | [],kvs=>by show kvs.length<=kvs.length+0;lia
 | p::r,kvs=>by have h1:=gy r (dU kvs p.1 p.2);have h2:=fR kvs p.1 p.2;show (fS (dU kvs p.1 p.2) r).length<=_;rw [qg7];lia
theorem ju {P:qc2} {w:World}:∀ {kvs:List (Key×V)} {Y:List (Value×Value)},VV (kvs.map fun kv=>(kV kv.1,kv.2)) Y->∃ O,Carries (bK P w) Y O/\KV kvs O
 | [],_,r=>by rw [qt4] at r;cases r;exact ⟨[],qn8,.nil⟩
 | p::kvs,_,r=>by
  rw [qa5] at r;cases r with
  | @cons a b as bs h t =>obtain ⟨O,c,q⟩:=ju (P:=P) (w:=w) t;obtain ⟨b1,Z⟩:=b;exact ⟨(p.1,Z)::O,⟨iQ h.1,rfl,c⟩,.cons ⟨rfl,h.2⟩ q⟩
noncomputable def B9 (trs:List (TE×TE)):TE:=fun σ H Q=>∀ p,H p=none->lJ trs σ (upd H p (.dK [])) fun ps H2=>H2 p=some (.dK [])/\∃ kvs:List (Key×V),ps=kvs.map (fun kv=>(kV kv.1,kv.2))/\kvs.length<=15/\Q (.ref p) (upd H2 p (.dK (fS [] kvs)))
theorem vZ {O:List (Option Expr)} {Y:List Expr} (h:PPs X pos O Y trs) (hall:O.all (·.isSome)=true) (hl:O.length=Y.length) (h0:O≠[])
 (h15:O.length<=15):PE X (.Dict O Y pos) (B9 trs):=by
 intro pins s σ H Q I q;have hn:=I.hok.fresh (nL s.heap.objs.size);have I1:=I.laid (a:=s.heap.objs.size) (o:=.dK []) (h':=s.heap.push {cls:=.type "dict",data:=.dict #[]}) (t':=s.toks) (fun _ _ q=>gP _ q) (nL _) (mD s.heap I.big);refine wpAny_Dict_walk (knd:=bK X.prog X.w) hall hl h0 h15 (thn (h pins _ σ _ _ I1 (q _ hn)) fun ws s2 ⟨ps,H2,I2,rel,e,kvs,ep,lk,q2⟩=>?_);subst ep;obtain ⟨rs,c,rk⟩:=ju (P:=X.prog) (w:=X.w) rel;obtain ⟨z,hd,vs0,r0,dd⟩:=xU I2.hok e;cases r0;refine ⟨rs,c,dd,fun h' Z hs=>⟨.ref s.heap.objs.size,_,?_,rfl,q2⟩⟩
 have hz:(fS [] kvs).length<=qb2:=by have h1:=gy kvs [];rw [zc6] at h1;rw [ze5];lia
 have he:∃ q,h'.get? s.heap.objs.size=some q:=let ⟨q,_,_,hq,_⟩:=Z;⟨q,hq⟩;exact lI I2 (by rw [e];exact qn8) hs he (sL hz hd (rk.merge .nil) Z)
section
variable {X:Cx} {pins:List (Addr×Obj)} {σ:St} {H:Hp} {s:qa4} {a:Addr} {y d:V} {u r:Value} {o:Option V} {A:qd8} {E:Value->qa4->Prop}
end
section
variable {X:Cx} {o e f:Expr} {apos cpos:Pos} {td ty tx:TE}
end
section
variable {X:Cx} {pins:List (Addr×Obj)} {σ:St} {H:Hp} {s:qa4} {a:Addr} {kvs:List (Key×V)} {A:qd8} {E:Value->qa4->Prop}
end
section
variable {X:Cx} {pins:List (Addr×Obj)} {σ:St} {H:Hp} {s:qa4} {a:Addr} {y:V} {u:Value} {A:qd8} {E:Value->qa4->Prop}
end
end L2
namespace Att
open PySem PySem.W PySem.Calls PyProof.Rows
variable {P:Params} {h:Heap}
theorem iZ:∀ (ns:List Int) (vs:List Value),WellAll P h vs (ns.map WData.int)->IntsAre vs ns:=by
 intro ns;induction ns with
 | nil =>intro vs w;rw [qt4] at w;cases w;exact .nil
 | cons n ns q =>
  intro vs w;rw [qa5] at w;cases w with
  | cons a b =>cases a;exact .cons _ _ (q _ b)
variable {l:OpenLaw} {n:Nat}
theorem qX (hn:l.most=some n) {args:List WData} {Y:List Value}
 (O:l.row.toRowW.claim.pre args=true) (hwl:WellAll P h Y args) :
  ∃ a vs ns,Y=[qe9 a]/\args=[WData.list (ns.map WData.int)]/\h.get? a=some {cls:=.type "list",data:=.seq vs.toArray}/\IntsAre vs ns/\ns.length<=n:=by
 have hsh:WShape.hasAll [] args [.list .int]=true:=(pre_splitW O).1;have hc:l.pre.holds [] {args:=args}=true:=(pre_splitW O).2;obtain ⟨d,r,rfl,h1,h2⟩:=hasAllW_cons hsh;obtain rfl:=hasAllW_nil h2;obtain ⟨xs,rfl,h3⟩:=hasW_list h1;obtain ⟨ns,rfl⟩:=items_int h3
 have Z:ns.length<=n:=by
  unfold OpenLaw.pre at hc
  have h4:(WTm.not (.lt (.lit (.int (n:Int))) (.len (.arg 0)))).holds [] {args:=[.list (ns.map .int)]}=true:=by have h4:=(holds_andW hc).1;rw [hn] at h4;exact h4
  have h5:=condW_of h4 (w_not (w_lt w_lit (w_len_list (w_arg rfl))));rw [qa1] at h5;refine Nat.le_of_not_lt fun q=>?_
  have q':(n:Int)<((ns.length:Nat):Int):=by lia
  first
   | (rw [decide_eq_true q'] at h5;exact absurd h5 (by decide))
   | (simp at h5;lia)
 cases hwl with
 | cons w1 w2 =>
  cases w2;cases w1 with
  | list ho hall=>exact ⟨_,_,ns,rfl,rfl,ho,iZ ns _ hall,Z⟩
theorem qY (l:OpenLaw) (args:List WData):l.row.toRowW.claim.post args (.bool true) args=true:=
 postW_of (r:=l.row.toRowW) (X:=(true==true))
  (show WShape.has [] (.bool true) .bool=true by first | rfl | decide | simp [WShape.has,WShape.arms,WShape.armsAll])
  (show (WTm.eq .res (.lit (.bool true))).value [] {args:=args,res:=some (.bool true),after:=args}=some (.bool (true==true)) from w_eq_bool (w_res rfl) w_lit) rfl
theorem xV {q:qc2} {loose:List Str} {XP:(Str->Option Value)->Heap->Prop} {YP:World->Heap->Prop} {d:DefRec}
 (hn:l.most=some n) (hdf:d.params.defaults=[])
 (call:∀ (w:World) (s₀ O:qa4) (mg mb:Str->Option Value) (fa:Addr) (o:Obj) (pm cd doc:Value) (a:Addr) (vs:List Value) (ns:List Int),
 Ground q loose [] XP w s₀ mg mb O.heap->YP w O.heap→
 O.heap.get? fa=some o->o.data=.func (docDef d.name d.params d.body d.scope pm cd doc)->O.heap.CodeRec cd d.name->mg d.name=some (.ref fa)→
 O.heap.get? a=some {cls:=.type "list",data:=.seq vs.toArray}->IntsAre vs ns->ns.length<=n->O.gens=#[]→
 qq1 (model l.prog w) zg2 (.call (.ref fa) ⟨[.ref a],[]⟩) (fun r s'=>r=.ok (.ret (.bool true))/\OldK O.heap s'.heap/\s'.os=O.os/\zb6 s'.gens) O) :
  WalkO q loose XP YP l.row.toRowW d [] (fun f vs=>PySem.call f vs):=by
 intro w s₀ O mg mb G Y fa o pm cd doc dV kV ho hd hcd hD hmg hg args vals as hpre hlay hrd hwl hlo;obtain rfl:dV=.none:=Dflts.none hD hdf;obtain rfl:kV=.none:=Dflts.noKw hD;obtain ⟨a,vs,ns,rfl,rfl,hobj,Z,hlen⟩:=qX hn hpre hwl;refine enter_call (qr0 (call w s₀ O mg mb fa o pm cd doc a vs ns G Y ho (fd_plain hd) hcd hmg hobj Z hlen hg) fun r s' hq=>?_);obtain ⟨rfl,h2,h3,h4⟩:=hq;exact ⟨.inl ⟨.bool true,.bool true,[],rfl,fun _=>rfl,.bool true,qY l _,fun _=>⟨qp5,fun _ hm=>(nomatch hm)⟩⟩,h2,h3,h4⟩
section
variable {prog:qc2} {w:World} {A:qd8} {E:Value->qa4->Prop} {s:qa4} {K:Frag}
end
end Att
namespace L2
open PySem PySem.Spec PyProof.Rows
theorem ku:∀ {vs:List Value} {ns:List Int},IntsAre vs ns->Vals (ns.map V.int) vs
 | _,_,.nil=>.nil
 | _,_,.cons n t h=>.cons ⟨t,rfl⟩ (ku h)
end L2
/- THE LAST THEOREM (shape;LID,My.* are yours):
   My.Adr: a structure of the addresses that your layer names (classes,functions);My.Txt K t: a structure (Prop) of the equations over K;
   My.txt_mk:{K} {implicit addresses ..} (e1:nsIn K qb9 "law"=some (some (.ref f))) (e2:K.lookup f=some ⟨oc,od,.func (fnOf "law" "law" params body scope dV kV doc pm an cdv ct),sl⟩) (e3:codeIn K cdv "law"=true) ..:∃ t,My.Txt K t
(the tactic k_is has no namespace: write k_is) -/
namespace L2
open PySem PySem.Spec PyProof.Rows
def cg (s:Stmt):qi3:=match s with
 | .FunctionDef _ a _ _ _ _ _ _ _ _=>a
 | _=>{posonlyargs:=[],args:=[],vararg:=none,kwonlyargs:=[],kw_defaults:=[],kwarg:=none,defaults:=[]}
def be (s:Stmt):List Stmt:=match s with
 | .FunctionDef _ _ b _ _ _ _ _ _ _=>b
 | _=>[]
def aa (s:Stmt):Scope:=match s with
 | .FunctionDef _ _ _ _ _ _ sc _ _ _=>sc
 | _=>{kind:=.function,names:=[],isGenerator:=false,isCoroutine:=false}
abbrev CX0:CXT:=fun _ _ _ _ _ _=>False
abbrev E0:XK:=fun _ _ _=>False
variable {X:Cx}
theorem Ca:n8 CX0 X E0:=fun _ _ _ _ _ _ _ h=>h.elim
structure Fun (K:xA9) (x qual:Str) (st:Stmt) (f:Addr) (fd:qp2):Prop where
 ex:∃ (oc:Value) (od:Option Addr) (kV doc pm:Value) (an:Option Addr) (cdv ct:Value) (osl:Array (Option Value)),fd=xC9 x qual (cg st) (be st) (aa st) .none kV doc pm an cdv ct/\K.lookup f=some ⟨oc,od,.func fd,osl⟩/\xH9 K cdv qual=true
 kp:xF9 K (.ref f)=true
variable {x qual:Str} {st:Stmt} {f:Addr} {fd:qp2} {N ps:List Str} {sp:Sp} {oc doc pm cdv:Value} {od an:Option Addr} {osl:Array (Option Value)}
section
variable {P:qc2} {w:World} {K:xA9} {mg:Str->Option Value} {base:Heap}
theorem Fun.ok {k:Nat} (F:Fun K x qual st f fd) (S:FnScope N ps (aa st)) (len:∀ vs H Q E,sp vs H Q E->vs.length=ps.length)
 (O:∀ (cdv:Value) (A:qd8) (outer:List Env) (s:qa4) (H:Hp) (vs:List V) (Q:VK) (E:XK),Room k (A.deeper (qx8 qual (aa st) s.heap.objs.size f cdv))->sp vs H Q E→
 ∃ t,PSs (jq CX0 P w K mg base N qual (aa st) f cdv A outer s H E).nox (be st) t/\t {nx:=fun _ H'=>Q .non H',rt:=Q} (start N vs) H):FnOk P w K mg base CX0 (k+1) f fd ps sp:=by
 obtain ⟨oc,od,kV,doc,pm,an,cdv,ct,osl,rfl,lk,Z⟩:=F.ex;refine xR lk Z S len fun A outer s H vs Q E hr Y=>?_
 obtain ⟨t,h,q⟩:=O cdv A outer s H vs Q E hr Y;exact ⟨t,h.nox,q⟩
theorem Fun.binds (F:Fun K x qual st f fd)
 (h:∀ (kV doc pm:Value) (an:Option Addr) (cdv ct:Value) (us:List Value),us.length=ps.length->zf6 (xC9 x qual (cg st) (be st) (aa st) .none kV doc pm an cdv ct) ⟨us,[]⟩=pure (ps.zip us)):Binds K fd ps []:=by
 obtain ⟨oc,od,kV,doc,pm,an,cdv,ct,osl,rfl,O,q⟩:=F.ex;exact .all (h kV doc pm an cdv ct)
theorem lK {kV ct:Value} (l:K.lookup f=some ⟨oc,od,.func (xC9 x qual (cg st) (be st) (aa st) .none kV doc pm an cdv ct),osl⟩) (c:xH9 K cdv qual=true) (k:xF9 K (.ref f)=true):Fun K x qual st f (xC9 x qual (cg st) (be st) (aa st) .none kV doc pm an cdv ct):=⟨⟨oc,od,kV,doc,pm,an,cdv,ct,osl,rfl,l,c⟩,k⟩
end
variable {A:qd8}
theorem mE {k:Nat} (q:Room k A):A.units+1<cLine:=Nat.lt_of_le_of_lt (Nat.add_le_add_left (by decide:1<=64) _) q.units
section
variable {X:Cx}
end
def Same (H H':Hp):Prop:=∀ b o,H b=some o->H' b=some o
theorem Same.refl (H:Hp):Same H H:=fun _ _ h=>h
variable {H:Hp}
theorem Same.trans {H1 H2:Hp} (a:Same H H1) (b:Same H1 H2):Same H H2:=fun c o h=>b c o (a c o h)
variable {H':Hp}
theorem Same.free (e:Same H H') {l:Addr} (h:H' l=Option.none):H l=Option.none:=by
 cases q:H l with
 | none=>rfl
 | some o =>rw [e l o q] at h;cases h
variable {K:xA9} {a:Addr} {xs:List V}
theorem Same.seq (e:Same H H') (h:SqL K H a xs):SqL K H' a xs:=by
 rcases h with (h | ⟨o,h⟩) | h
 . exact .inl (.inl (e _ _ h))
 . exact .inl (.inr ⟨o,e _ _ h⟩)
 . exact .inr h
section
variable {κ:Type} [DecidableEq κ]
end
set_option maxRecDepth 100000
set_option maxHeartbeats 4000000
theorem dN:∀ (names:List (Str×qo2)) (n:Nat) (acc:List (Str×Addr)),qg4 n names acc=qg4 n names []++acc
 | [],_,_=>rfl
 | (x,k)::r,n,acc=>by
  unfold qg4;split
  . rw [dN r (n+1) ((x,n)::acc),dN r (n+1) [(x,n)],qm7];rfl
  . exact dN r n acc
theorem dH {α:Type}:∀ {l m:List (Str×α)},(l++m).lookup x=(l.lookup x).or (m.lookup x)
 | [],m=>by simp
 | (k,v)::l,m=>by
  rw [za4,qg8,qg8];cases x==k with
  | true=>rfl
  | false=>exact dH
variable {n:Str} {Q:Unit->qa4->Prop} {c:Addr}
section
variable {M:Model} {A:qd8} {E:Value->qa4->Prop} {s₀ s:qa4} {m cm:Str->Option Value} {env:Env} {cs:List (Str×Addr)}
theorem stLX {v:Value} (x:zc2 s₀ env.locals m cs cm s) (hk:env.scope.kind=.function) (hl:env.kindOf n=some .local)
 (h:∀ s',zc2 s₀ env.locals (fun y=>if y=n then some v else m y) cs cm s'->Q () s'):wpAny M A (zb7 env n v) Q E s:=by
 refine zb8 hl x.toInCall.ns (fun h' O q=>h _ ⟨⟨?_,O,fun b o e=>?_,x.toInCall.fresh⟩,fun k c Z=>?_,x.apart,x.above⟩) (by rw [hk];rfl)
 . obtain ⟨Y,tk,rfl⟩:=x.toInCall.same;exact ⟨h',_,rfl⟩
 . exact q.extBut b o (qb8 (qb7 (qa7 e) x.toInCall.fresh)) (x.toInCall.keep b o e)
 . exact (x.cell k c Z).sameBut q (ql0 (x.above k c (PySem.mem_of_lookup Z)))
theorem stCX {v:Value} (x:zc2 s₀ env.locals m cs cm s) (hk:env.scope.kind=.function) (hl:env.kindOf n=some .cell)
 (hc:cs.lookup n=some c) (hce:env.cells.lookup n=some c)
 (h:∀ s',zc2 s₀ env.locals m cs (fun y=>if y=n then some v else cm y) s'->Q () s'):wpAny M A (zb7 env n v) Q E s:=by
 have Z:=x.above n c (PySem.mem_of_lookup hc);refine wpAny_storeName_cell hk hl hce (x.cell n c hc) fun h' hc' O=>h _ ⟨⟨?_,x.toInCall.ns.sameBut O (qb8 Z),fun b o e=>?_,x.toInCall.fresh⟩,fun k c' q=>?_,x.apart,x.above⟩
 . obtain ⟨h₁,tk,rfl⟩:=x.toInCall.same;exact ⟨h',_,rfl⟩
 . exact O.extBut b o (qb8 (qw6 (qb7 (qa7 e) x.toInCall.fresh) Z)) (x.toInCall.keep b o e)
 . by_cases Y:k=n
   . subst Y;rw [hc] at q;cases q
     simpa using hc'
   . rw [if_neg Y];exact (x.cell k c' q).sameBut O fun e=>Y (zg7 x.apart (PySem.mem_of_lookup q) (e▸PySem.mem_of_lookup hc))
theorem fT (f:Str×Value->PUnit->Sem (ForInStep PUnit)) (hf:∀ n v u,f (n,v) u=(do zb7 env n v;pure (.yield ⟨⟩))) (hk:env.scope.kind=.function) (Y:∀ n c,cs.lookup n=some c->env.cells.lookup n=some c) :
  ∀ (binds:List (Str×Value)) (m cm:Str->Option Value) (s:qa4) (Q:PUnit->qa4->Prop),zc2 s₀ env.locals m cs cm s→
   (∀ x∈binds,env.kindOf x.1=some .local∨(env.kindOf x.1=some .cell/\(cs.lookup x.1).isSome=true))→
   (∀ s',zc2 s₀ env.locals (bindL env.kindOf binds m) cs (bindC env.kindOf binds cm) s'->Q ⟨⟩ s')->wpAny M A (forIn binds ⟨⟩ f) Q E s
 | [],m,cm,s,Q,x,_,h=>by rw [List.forIn_nil];exact qa2 (h s x)
 | (n,v)::r,m,cm,s,Q,x,q,h=>by
  rw [List.forIn_cons,hf];have hr:∀ y∈r,env.kindOf y.1=some .local∨(env.kindOf y.1=some .cell/\(cs.lookup y.1).isSome=true):=fun y hy=>q y (qc3 _ hy)
  rcases q (n,v) qd4 with hl | ⟨hl,hc⟩
  . refine wB (wB (stLX x hk hl fun s' x'=>qa2 (fT f hf hk Y r _ _ s' Q x' hr fun Z O=>h Z ?_)));unfold bindL bindC;rw [if_pos hl,if_pos hl];exact O
  . obtain ⟨c,hc⟩:=qr1.mp hc;have hnl:¬ env.kindOf n=some .local:=by rw [hl];decide
    refine wB (wB (stCX x hk hl hc (Y n c hc) fun s' x'=>qa2 (fT f hf hk Y r _ _ s' Q x' hr fun Z O=>h Z ?_)));unfold bindL bindC;rw [if_neg hnl,if_neg hnl];exact O
end
variable {E:Value->qa4->Prop} {s:qa4} {scope:Scope}
theorem v0 {M:Model} {O:Addr} {cl:List (Str×Addr)} {binds:List (Str×Value)} {Y:Option Addr} {code:Value} {q:Addr} {Q:Env->qa4->Prop}
 (hk:scope.kind=.function)
 (Z:∀ x∈binds,scope.names.lookup x.1=some .local∨(scope.names.lookup x.1=some .cell/\((qg4 (s.heap.objs.size+1) scope.names []).lookup x.1).isSome=true))
 (hQ:∀ env,env=newEnv scope s.heap.objs.size O (qg4 (s.heap.objs.size+1) scope.names []++cl) qual Y code none q→
 ∀ s',zc2 s env.locals (bindL env.kindOf binds fun _=>none) (qg4 (s.heap.objs.size+1) scope.names []) (bindC env.kindOf binds fun _=>none) s'->Q env s') :
  wpAny M A (newFunctionEnv scope O cl binds qual Y code none q) Q E s:=by
 simp only [newFunctionEnv,Option.isSome_none,qi0,if_false];refine wB (wpAny_alloc ?_);refine qg9 (wpAny_layCells _ (fun name kind cells=>by cases hkc:kind==qo2.cell<;>simp [hkc]) _ _ _ _ ?_);have ok:=cellsFrom_ok scope.names (s.heap.push {cls:=.type "frame",data:=.dict #[]}) (s.heap.objs.size+1) [] ⟨fun _ _ hm=>(nomatch hm),qp5⟩ (by rw [qf6];exact nL _);rw [qf6] at ok;rw [show ({s with heap:=s.heap.push {cls:=.type "frame",data:=.dict #[]}}:qa4).heap.objs.size=s.heap.objs.size+1 from qf6 ..,dN]
 refine wB (fT (s₀:=s) (cs:=qg4 (s.heap.objs.size+1) scope.names []) (env:=newEnv scope s.heap.objs.size O (qg4 (s.heap.objs.size+1) scope.names []++cl) qual Y code none q)
  _ (fun _ _ _=>rfl) hk (fun n c h=>by show (qg4 (s.heap.objs.size+1) scope.names []++cl).lookup n=some c;rw [dH,h];rfl) binds (fun _=>none) (fun _=>none) _ _
  ⟨⟨⟨_,_,rfl⟩,(Heap.Ns.new s.heap (.type "frame")).keeps (pushCells_keeps _ _),fun b o e=>pushCells_keeps _ _ b o (gP _ e),nL _⟩,fun n c hc=>(ok.empty n c (PySem.mem_of_lookup hc)).1,ok.apart,fun n c hm=>(ok.empty n c hm).2⟩
  Z fun s' x=>qa2 (hQ _ rfl s' x))
def fu (names:List (Str×qo2)) (cells:List (Str×Addr)):List (Str×Addr):=names.foldl (fun cs q=>if q.2==qd9 then (q.1,(cells.lookup q.1).getD 0)::cs else cs) []
variable {cells:List (Str×Addr)} {env:Env}
theorem pP (hc:env.cells=cells):∀ (names:List (Str×qo2)) (acc:List (Str×Addr)),(∀ x∈names,x.2=.free->∃ c,cells.lookup x.1=some c)→
  (forIn names acc (fun (x:Str×qo2) (r:List (Str×Addr))=>if (x.2==qd9)=true then (do let c <- cellOf env x.1;pure (qo7 ((x.1,c)::r))) else (pure (qo7 r):Sem _)))
   = (pure (names.foldl (fun cs Y=>if Y.2==qd9 then (Y.1,(cells.lookup Y.1).getD 0)::cs else cs) acc):Sem (List (Str×Addr)))
 | [],acc,_=>rfl
 | x::r,acc,h=>by
  have Z:=fun acc=>pP hc r acc fun y hy=>h y (qc3 _ hy)
  simp only [List.forIn_cons,qj1];cases e:(x.2==qd9) with
  | false =>simp only [qi0,if_false];exact Z acc
  | true =>
   obtain ⟨c,O⟩:=h x qd4 (by simpa using e);have q:cellOf env x.1=pure c:=by unfold cellOf;rw [hc,O]
   simp only [if_true,q,O,Option.getD_some];exact Z _
theorem gE {env:Env} (h:∀ x∈scope.names,x.2=.free->∃ c,env.cells.lookup x.1=some c):zd8 scope env=pure (fu scope.names env.cells):=by have:=pP (env:=env) rfl scope.names [] h;unfold zd8 fu;rw [<- this];simp only [bind_pure]
theorem kw:∀ {names:List (Str×qo2)} {acc:List (Str×Addr)} {x:Str} {c:Addr},(∀ y∈names,y.2=.free->∃ c,cells.lookup y.1=some c)→
  (names.foldl (fun cs Y=>if Y.2==qd9 then (Y.1,(cells.lookup Y.1).getD 0)::cs else cs) acc).lookup x=some c->(∀ c,acc.lookup x=some c->cells.lookup x=some c)->cells.lookup x=some c
 | [],acc,x,c,_,h,q=>q c h
 | y::r,acc,x,c,Z,h,q=>by
  simp only [qj1] at h;refine kw (fun z hz=>Z z (qc3 _ hz)) h ?_;intro c' h';split at h'
  . rename_i hf;obtain ⟨c0,e0⟩:=Z y qd4 (by simpa using hf);rw [qg8] at h';split at h'
    . rename_i hx;have O:x=y.1:=by simpa using hx
      rw [e0] at h';subst O;rw [e0];simpa using h'
    . exact q c' h'
  . exact q c' h'
variable {names:List (Str×qo2)}
theorem fU (q:∀ y∈names,y.2=.free->∃ c,cells.lookup y.1=some c) (h:(fu names cells).lookup x=some c):cells.lookup x=some c:=kw q h fun c h=>by simp at h
theorem kx:∀ {names:List (Str×qo2)} {acc:List (Str×Addr)} {x:Str},((x,qd9)∈names∨(acc.lookup x).isSome)→
  ((names.foldl (fun cs q=>if q.2==qd9 then (q.1,(cells.lookup q.1).getD 0)::cs else cs) acc).lookup x).isSome
 | [],acc,x,h=>by simpa using h
 | y::r,acc,x,h=>by
  simp only [qj1];refine kx ?_;rcases h with h | h
  . rcases qa6.mp h with e | h
    . subst e;right;simp [qg8]
    . exact .inl h
  . right;split
    . rw [qg8];split
      . rfl
      . exact h
    . exact h
theorem mF (h:(x,qd9)∈names):∃ c,(fu names cells).lookup x=some c:=qr1.mp (kx (.inl h))
structure CmpScope (N:List Str) (outer scope:Scope) (M:List Str) (src:List (Option Nat)):Prop where
 kind:scope.kind=.function
 nocell:∀ y∈scope.names,y.2≠.cell
 free:∀ y∈scope.names,y.2=.free->outer.names.lookup y.1=some .cell∨outer.names.lookup y.1=some .free
 names:∀ y∈scope.names,y.2=.local->scope.names.lookup y.1=some .local
 lf:∀ y∈scope.names,y.2=.free->scope.names.lookup y.1=some .free
 len:M.length=src.length
 nd:M.Nodup
 src:∀ p∈M.zip src,∀ j∈p.2,N[j]?=some p.1/\(p.1,qd9)∈scope.names
def stC (src:List (Option Nat)) (σ:St):St:=src.map fun o=>o.bind fun j=>(σ[j]?).join
noncomputable def cxC (X:Cx) (M:List Str) (scope:Scope) (C:Addr) (s:qa4) (H:Hp) (ex:List Addr):Cx:={X with N:=M,s₀:=s,H₀:=H,env:=compEnvC scope (fu scope.names X.env.cells) C X.env,outer:=X.stack,ex:=ex,fn:=fun _=>false,pn:=[],xe:=fun _ _=>False}
noncomputable def PTs (X:Cx) (ifs:List Expr) (t:TT):Prop:=
 ∀ (pins:List (Addr×Obj)) (s:qa4) (σ:St) (H:Hp) (Q:Bool->Hp->Prop),Inv X pins σ H s->t σ H Q→
  wpAny (model X.prog X.w) X.A (forIn ifs true fun c r=>if r=true then do let ok <- isTrue c X.env (eval c X.env);pure (qo7 ok) else pure (qo7 r)) (TP X pins σ Q) X.xe s
def tYes:TT:=fun _ H Q=>Q true H
theorem v3:PTs X [] tYes:=fun pins s σ H Q I h=>wpAny_tests_nil ⟨H,I,h⟩
theorem v4 {c:Expr} {t:TT} (h:PT X c t):PTs X [c] t:=fun pins s σ H Q I q=>wpAny_tests_one (h pins s σ H Q I q)
def Wk (a b:St):Prop:=a.length=b.length/\∀ (i:Nat) v,a[i]?=some (some v)->b[i]?=some (some v)
noncomputable def mG (src:List (Option Nat)) (wi:TI) (g:TG) (tt:TT) (te:TE):TE:=fun σ H Q=>wi σ H fun J H1=>∀ D,H1 D=none->∃ W:Nat->Nat->Hp->Prop,(∃ m,W 0 m (upd H1 D (.lst [])))/\∀ i m H,W i m H→
 (J.stop i H/\Q (.ref D) H)∨(J.go i H/\∃ N:Hp->Prop,(∀ H',N H'->∃ O,O<m/\W (i+1) O H')/\∀ x H',J.yld i H x H'→
  g x (stC src σ) H' fun q H2=>Wk (stC src σ) q/\tt q H2 fun b Y=>if b=true then te q Y fun v Z=>∃ ys,Z D=some (.lst ys)/\ys.length<qb2/\N (upd Z D (.lst (ys++[v]))) else N Y)
variable {w:World} {pos:Pos}
theorem g7 {prog:qc2} {R:Result->qa4->Prop} {elt q iter:Expr} {ifs:List Expr} {it acc:Value} (I:Nat->qa4->Prop)
 (turn:∀ n s,I n s->wpAny (model prog w) A (qw2 it) (fun r Y=>match r with
 | none=>R (.ok .next) Y
 | some v=>wpAny (model prog w) A (qv3 q it v) (fun _ O=>wpAny (model prog w) A (zc0 q env v) (fun _ Z =>
 wpAny (model prog w) A (forIn ifs true fun c r=>if r=true then do let ok <- isTrue c env (eval c env);pure (qo7 ok) else pure (qo7 r)) (fun ok s₃ =>
 if ok=true then wpAny (model prog w) A (eval elt env) (fun x s₄ =>
 wpAny (model prog w) A (call (.builtin "list.append") [acc,x]) (fun _ s₅=>∃ m,m<n/\I m s₅) (fun _ _=>False) s₄) (fun _ _=>False) s₃
 else ∃ m,m<n/\I m s₃) (fun _ _=>False) Z) (fun _ _=>False) O) (fun _ _=>False) Y) (fun _ _=>False) s)
 (n:Nat) (h:I n s) :
  qq1 (model prog w) A (.compLoop (.ListComp elt [⟨q,iter,ifs,0⟩] scope pos) 0 it acc env) R s:=by
 refine codeAny_loop rfl I (fun n s hI=>?_) n h;show wpAny _ A ((compTurn (.ListComp elt [⟨q,iter,ifs,0⟩] scope pos) 0 it acc env).onRaise (fun x=>do noteFrame x env;theTreesLotGoes x)) _ _ s;refine wpAny_noted ?_;rw [compTurn_list];refine wB (zf3 (wB (qj7 (turn n s hI) (fun r Y h₁=>?_) fun _ _ h'=>h'.elim)));cases r with
 | none=>exact qa2 h₁
 | some v =>
  refine wB (qj7 h₁ (fun _ O h₁'=>?_) fun _ _ h'=>h'.elim);refine wB (qj7 h₁' (fun _ Z h₂=>wB (qj7 h₂ (fun ok s₃ h₃=>?_) fun _ _ h'=>h'.elim)) fun _ _ h'=>h'.elim);cases ok with
  | false=>exact qa2 ⟨rfl,h₃⟩
  | true =>exact wB (wB (qj7 h₃ (fun x s₄ h₄=>wB (qj7 h₄ (fun _ s₅ h₅=>qa2 (qa2 ⟨rfl,h₅⟩)) fun _ _ h'=>h'.elim)) fun _ _ h'=>h'.elim))
variable {σ:St}
section
variable {X:Cx} {elt tg iter:Expr} {ifs:List Expr} {scope:Scope} {pos:Pos} {M:List Str} {src:List (Option Nat)} {wi:TI} {g:TG} {tt:TT} {te:TE}
theorem lL (hn:∀ y∈scope.names,y.2≠.cell) (h:(relabel scope env).names.lookup x=some .cell∨(relabel scope env).names.lookup x=some .free):(x,qd9)∈scope.names:=by
 have q:∀ k,(relabel scope env).names.lookup x=some k->(k=.cell∨k=.free)->(x,qd9)∈scope.names:=by
  intro k hk O;have hm:=PySem.mem_of_lookup hk;unfold relabel at hm;obtain ⟨⟨n,k0⟩,Y,e⟩:=qd2.mp hm;dsimp only at e;split at e
  . rename_i Z;simp only [qb1] at Z;have:k0=.free:=by simpa using Z.1.1
    subst this;cases e;exact Y
  . cases e;rcases O with z | z
    . subst z;exact absurd rfl (hn _ Y)
    . subst z;exact Y
 rcases h with h | h
 . exact q _ h (.inl rfl)
 . exact q _ h (.inr rfl)
theorem mH {pins:List (Addr×Obj)} {s1:qa4} {fp:List Addr} {m1:Str->Option Value} (S:CmpScope X.N X.env.scope scope M src) (I:Inv X pins σ H s) (hf:∀ b∈fp,gu X pins H b)
 (hfl:∀ b∈fp,b<s.heap.objs.size) (hn:s1.heap.Ns s.heap.objs.size m1) (hk:∀ b o,s.heap.get? b=some o->s1.heap.get? b=some o) (hos:s1.os=s.os) (hg:s1.gens=s.gens) :
  Inv (cxC X M scope s.heap.objs.size s H fp) [] (stC src σ) H s1:=by
 have hcells:∀ x∈scope.names,x.2=.free->∃ c,X.env.cells.lookup x.1=some c:=fun x hx hfr=>I.ok.has x.1 (S.free x hx hfr)
 have O:∀ x c,(fu scope.names X.env.cells).lookup x=some c->X.env.cells.lookup x=some c:=fun x c h=>fU hcells h
 have Y:∀ c v,s.heap.IsCell c v->s1.heap.IsCell c v:=fun c v ⟨o,ho,hd⟩=>⟨o,hk c o ho,hd⟩
 refine ⟨⟨I.ok.mod,S.kind,I.ok.glob,I.ok.blt,nL _,fun y z c h1 h2=>I.ok.inj y z c (O _ _ h1) (O _ _ h2),fun x hx=>mF (lL S.nocell hx),fun x c h=>(nomatch h),I.ok.hd,I.ok.frames,.inl rfl,
  fun b hb=>⟨qb8 (hfl b hb),fun x c h=>(hf b hb).2.2.2.2.1 x c (O _ _ h)⟩,I.bs,qc4 I.ok.bsz I.sz,fun b o e hb=>?_,fun b hb z=>?_,I.stack,I.stkFree,fun p hp=>I.base.cts _ _ (I.ok.tb p hp)⟩,
  hos,(by rw [hg];exact I.bare),Un.kept hk,⟨m1,hn,fun i x v h1 h2 h3=>?_⟩,fun x c h=>?_,I.hok.fresh (qn3 _),fun x c h=>I.freeC x c (O _ _ h),fun p hp=>absurd hp (by simp [cxC]),I.hok.kept hk,?_⟩
 . rcases (hf b hb).2.2.2.1 with z | z
   . exact I.ok.noex b o e z
   . exact absurd (qb7 (qa7 e) (qc4 I.ok.bsz z)) (qk9 _)
 . rcases qa6.mp (I.stkSub b z) with q | q
   . exact (hf b hb).2.1 q
   . exact (hf b hb).2.2.1 q
 . -- a name taken over
   have h1:M[i]?=some x:=h1;unfold stC at h2;rw [qb3] at h2;cases hs:src[i]? with
   | none=>rw [hs] at h2;cases h2
   | some o =>
    rw [hs] at h2;simp only [qo3,qs5] at h2;cases o with
    | none=>cases h2
    | some j =>
     simp only [qa3] at h2
     have hmem:(x,some j)∈M.zip src:=by
      have:(M.zip src)[i]?=some (x,some j):=by rw [qq4];exact ⟨h1,hs⟩
      exact qc7 this
     obtain ⟨hN,hfr⟩:=S.src _ hmem j rfl
     have hσ:σ[j]?=some (some v):=by
      cases e:σ[j]? with
      | none=>rw [e] at h2;cases h2
      | some o=>rw [e] at h2;simp only [qt8] at h2;rw [h2]
     have Z:=S.free _ hfr rfl;obtain ⟨m,hm,hl⟩:=I.loc;obtain ⟨u,r,l⟩:=hl j x v hN hσ (.inr Z);refine ⟨u,r,?_⟩
     have hloc:X.env.kindOf x≠some .local:=by show X.env.scope.names.lookup x≠_;rcases Z with q | q<;>rw [q]<;>decide
     rcases l with l | ⟨_,c,e,z⟩
     . exact absurd l.1 hloc
     . obtain ⟨c',e'⟩:=mF (cells:=X.env.cells) hfr;have:=O _ _ e';rw [e] at this;cases this;refine .inr ⟨?_,c,e',Y _ _ z⟩;rcases h3 with q | q
       . exact absurd q (by
          -- a name that is free in the block is not local there
          exact (by
           intro q
           have:scope.names.lookup x=some .local:=by
            have hb:∀ (names:List (Str×qo2)),(names.map fun (n,k)=>if (k==qd9&&X.env.scope.kind==.function&&X.env.kindOf n==some .cell) then (n,qo2.cell) else (n,k)).lookup x=some .local->names.lookup x=some .local:=by
             intro names;induction names with
             | nil=>intro h;simp at h
             | cons y r ih =>
              obtain ⟨n,k⟩:=y;intro h;simp only [qa5] at h;by_cases hx:x=n
              . subst hx;split at h
                . simp [qg8] at h
                . simpa [qg8] using h
              . have hx':(x==n)=false:=by simpa using hx
                split at h
                . simp only [qg8,hx'] at h ⊢;exact ih h
                . simp only [qg8,hx'] at h ⊢;exact ih h
            exact hb _ q
           rw [S.lf _ hfr rfl] at this;cases this))
       . exact q
 . obtain ⟨v,z⟩:=I.cell x c (O _ _ h);exact ⟨v,Y _ _ z⟩
 . show (stC src σ).length=M.length;unfold stC;rw [qa1,S.len]
theorem sQ (S:CmpScope X.N X.env.scope scope M src) (hc:X.calm=true) (hi:PI X tg iter wi) (hg:M.Nodup->∀ C s H ex,PG (cxC X M scope C s H ex) tg g) (ht:∀ C s H ex,PTs (cxC X M scope C s H ex) ifs tt)
  (he:∀ C s H ex,PE (cxC X M scope C s H ex) elt te) (hs:∀ x,qi4 iter X.env x=pure x:=by intro _;rfl) :
  PE X (.ListComp elt [⟨tg,iter,ifs,0⟩] scope pos) (mG src wi g tt te):=by
 intro pins s σ H Q I h;rw [eval_ListComp];have hcells:∀ x∈scope.names,x.2=.free->∃ c,X.env.cells.lookup x.1=some c:=fun x hx hfr=>I.ok.has x.1 (S.free x hx hfr)
 refine qy1 (use:=none) rfl hs (gE hcells) S.kind S.names (thn (hi pins s σ H _ I h) fun v s1 h1=>thn h1 fun itv s2 h2=>?_);obtain ⟨it,fp,tn,J,H2,rfl,I2,T,st2,f2,hq⟩:=h2;refine qd1 ?_;have I3:Inv X pins σ (upd H2 s2.heap.objs.size (.lst [])) {s2 with heap:=s2.heap.push {cls:=.type "list",dict:=none,data:=.seq ([]:List Value).toArray},toks:=s2.toks}:=I2.lnew (its:=[]) (ys:=[]) (t':=s2.toks) .nil (by simp);have hD:H2 s2.heap.objs.size=none:=I2.fresh;obtain ⟨W,⟨m0,w0⟩,turn⟩:=hq _ hD;generalize hDn:s2.heap.objs.size=D at*
 generalize hs3:({s2 with heap:=s2.heap.push {cls:=.type "list",dict:=none,data:=.seq ([]:List Value).toArray},toks:=s2.toks}:qa4)=Z at*
 have f3:∀ b∈fp,gu X pins (upd H2 D (.lst [])) b:=fun b O=>⟨by obtain ⟨o,e,_⟩:=T.obj _ _ st2 b O;rw [aH (by rw [<- hDn];exact qb8 (qa7 e))];exact (f2 b O).1,(f2 b O).2⟩
 have k23:∀ b o,s2.heap.get? b=some o->Z.heap.get? b=some o:=fun b o e=>by rw [<- hs3];exact gP _ e
 have st3:tn 0 Z.heap:=T.keep _ _ _ st2 fun b _ o e=>k23 b o e
 have fl3:∀ b∈fp,b<Z.heap.objs.size:=fun b O=>by obtain ⟨o,e,_⟩:=T.obj _ _ st3 b O;exact qa7 e
 refine wpAny_newFunctionEnv S.nocell (by intro y hy;simp at hy) (fun h₁ hns₁ hsb₁=>?_) S.kind;have k34:∀ b o,Z.heap.get? b=some o->h₁.get? b=some o:=fun b o e=>hsb₁.extBut b o (qb8 (qa7 e)) (gP _ e)
 generalize hs4:({Z with heap:=h₁,toks:=Z.toks+([]:List (Str×Value)).length}:qa4)=s4
 have I4:Inv (cxC X M scope Z.heap.objs.size Z (upd H2 D (.lst [])) fp) [] (stC src σ) (upd H2 D (.lst [])) s4:=by rw [<- hs4];exact mH S I3 f3 fl3 hns₁ k34 rfl rfl
 have st4:tn 0 s4.heap:=T.keep _ _ _ st3 fun b _ o e=>by rw [<- hs4];exact k34 b o e
 generalize Y:cxC X M scope Z.heap.objs.size Z (upd H2 D (.lst [])) fp=X' at*
 have hg':PG X' tg g:=by rw [<- Y];exact hg S.nd _ _ _ _
 have ht':PTs X' ifs tt:=by rw [<- Y];exact ht _ _ _ _
 have he':PE X' elt te:=by rw [<- Y];exact he _ _ _ _
 have eP:X'.prog=X.prog:=by rw [<- Y];rfl
 have eW:X'.w=X.w:=by rw [<- Y];rfl
 have eK:X'.K=X.K:=by rw [<- Y];rfl
 have eA:X'.A=X.A:=by rw [<- Y];rfl
 have ex':X'.xe=fun _ _=>False:=by rw [<- Y];rfl
 have ec:X'.calm=true:=by rw [<- Y];exact hc
 have eE:X'.env=compEnvC scope (fu scope.names X.env.cells) Z.heap.objs.size X.env:=by rw [<- Y];rfl
 have stat:∀ {H':Hp},(∀ b∈fp,H' b=none)->∀ b∈fp,gu X' [] H' b:=fun hn b O=>by
  rw [<- Y];refine ⟨hn b O,qb8 (fl3 b O),fun z=>?_,.inl O,fun x c h=>(f3 b O).2.2.2.2.1 x c (fU hcells h),fun p hp=>absurd hp (by simp [cxC])⟩;rcases qa6.mp (I3.stkSub b z) with q | q
  . exact (f3 b O).2.1 q
  . exact (f3 b O).2.2.1 q
 -- behind the block
 have fin:∀ (H':Hp) (s':qa4),Inv X' [] (stC src σ) H' s'->Q (.ref D) H'->zd9 (model X.prog X.w) X.A X.xe none (EP X pins σ Q) (.ref D) Z.heap.objs.size (.ok .next) s':=by
  intro H' s' J' q;rw [<- Y] at J';obtain ⟨m,hn,_⟩:=id J'.loc;refine ⟨m,hn,fun h' sb=>⟨.ref D,H',?_,rfl,q⟩⟩;have hC:H' Z.heap.objs.size=none:=J'.free;have un:Un (frs X.stack) fp (upd H2 D (.lst [])) H' Z.heap s'.heap:=J'.base;have kC:∀ b o,b≠Z.heap.objs.size->s'.heap.get? b=some o->h'.get? b=some o:=fun b o O e=>sb.extBut b o O e
  have un':Un (frs X.stack) fp (upd H2 D (.lst [])) H' Z.heap h':=
   ⟨fun b o e n O hx=>kC b o (qb8 (qa7 e)) (un.keep b o e n O hx),
    fun b o e n O hx=>by obtain ⟨sl,e'⟩:=un.slot b o e n O hx;exact ⟨sl,kC b _ (qb8 (qa7 e)) e'⟩,
    un.free,
    fun b o e hx=>by obtain ⟨o',e'⟩:=un.there b o e hx;exact ⟨o',kC b _ (qb8 (qa7 e)) e'⟩,un.tups,un.frzs,un.tbls,un.cts⟩
  have hok':HOk X.prog X.w H' h':=fun b u e=>by
   have nb:b≠Z.heap.objs.size:=fun z=>by rw [z,hC] at e;cases e
   refine (J'.hok b u e).stay (fun c v hc' q=>kC c v ?_ q) (fun _ q=>q) (fun _ _ q=>q) fun _ _ _ q=>q
   rcases hc' with z | z
   . rw [z];exact nb
   . intro w;rw [w,hC] at z;cases z
  exact I3.call' (s':={s' with heap:=h'}) (show s'.os=Z.os from J'.os) un' hok' J'.bare fun b O=>⟨(f3 b O).2.2.2.1,(f3 b O).2.1,(f3 b O).2.2.2.2.1,(f3 b O).2.2.2.2.2⟩
 have loop:∀ s4':qa4,s4'=s4->qq1 (model X.prog X.w) X.A (.compLoop (.ListComp elt [⟨tg,iter,ifs,0⟩] scope pos) 0 (.ref it) (.ref D) X'.env) (zd9 (model X.prog X.w) X.A X.xe none (EP X pins σ Q) (.ref D) Z.heap.objs.size) s4':=by
  rintro _ rfl;refine g7 (fun n s'=>∃ i H',Inv X' [] (stC src σ) H' s'/\tn i s'.heap/\(∀ b∈fp,H' b=none)/\W i n H') ?_ m0 ⟨0,_,I4,st4,fun b O=>(f3 b O).1,w0⟩;rintro n s5 ⟨i,H5,I5,st5,fr5,w5⟩;rcases turn i n H5 w5 with ⟨stop,qn⟩ | ⟨go,N,hN,step⟩
  . have:=T.done X' eP eW eK ec i [] s5 (stC src σ) H5 (fun _ _=>False) I5 (stat fr5) st5 stop;rw [eA] at this;refine thn this fun r s6 ⟨hr,I6⟩=>?_
    subst hr;exact fin H5 s6 I6 qn
  . have:=T.item X' eP eW eK ec i [] s5 (stC src σ) H5 (fun _ _=>False) I5 (stat fr5) st5 go;rw [eA] at this;refine thn this fun r s6 ⟨u,hr,h6⟩=>?_
    subst hr;refine thn h6 fun _ s7 ⟨x,H7,I7,r7,y7,st7,fr7⟩=>?_
    have I7':=I7.pinned (stat fr7) (T.obj _ _ st7);have a1:=hg' _ s7 (stC src σ) H7 x u _ I7' r7 (step x H7 y7);rw [ex',eP,eW,eA] at a1;refine thn a1 fun _ s8 ⟨σ8,H8,I8,wk8,q8⟩=>?_
    have a2:=ht' _ s8 σ8 H8 _ I8 q8;rw [ex',eP,eW,eA] at a2;refine thn a2 fun ok s9 ⟨H9,I9,q9⟩=>?_
    have again:∀ {H7':Hp} {s':qa4},Inv X' ([]++iu fp s7.heap) σ8 H7' s'->N H7'->∃ m,m<n/\∃ i H',Inv X' [] (stC src σ) H' s'/\tn i s'.heap/\(∀ b∈fp,H' b=none)/\W i m H':=fun {H7' s'} J7 n7=>by obtain ⟨m',hm,w7⟩:=hN H7' n7;refine ⟨m',hm,i+1,H7',J7.unpinned.weak wk8.1 wk8.2,T.keep _ _ _ st7 fun b O o e=>(J7.pin (b,o) (qc1 _ (qc1 _ (dG O e)))).1,fun b O=>?_,w7⟩;obtain ⟨o,e,d⟩:=T.obj _ _ st7 b O;exact (J7.pin (b,o) (qc1 _ (qc1 _ (dG O e)))).2.1
    cases ok with
    | false=>exact again I9 q9
    | true =>
     have a3:=he' _ s9 σ8 H9 _ I9 q9;rw [ex',eP,eW,eA] at a3;refine thn a3 fun v s10 ⟨y,H10,I10,r10,ys,hl,hz,q10⟩=>?_
     have a4:=iB (X:=X') _ s10 σ8 H10 (.ref D) [y] (.ref D) [v] (fun _ H'=>N H') I10 rfl (.cons r10 .nil) ⟨D,ys,y,rfl,rfl,hl,hz,q10⟩;rw [ex',eP,eW,eA] at a4;refine thn a4 fun _ s11 ⟨_,H11,I11,_,q11⟩=>?_
     exact again I11 q11
 have e4:∀ c:Env,c=X'.env->qq1 (model X.prog X.w) X.A (.compStart (.ListComp elt [⟨tg,iter,ifs,0⟩] scope pos) 0 (.ref it) (.ref D) c) (zd9 (model X.prog X.w) X.A X.xe none (EP X pins σ Q) (.ref D) Z.heap.objs.size) s4:=by rintro _ rfl;exact za9 (loop _ rfl) (T.self _ _ _ _ _ st4 (loop _ rfl))
 exact e4 _ (by rw [eE];rfl)
end
def Its (x:Str):It:=⟨fun i _=>i<x.cps.size,fun i H v H'=>H'=H/\∃ c,x.cps[i]?=some c/\v=.str ⟨#[c]⟩,fun i _=>i=x.cps.size⟩
variable {P:qc2} {tg:Expr}
theorem qZ (x:Str) (t:Tok) (it:Addr):Turn P w K tg (Its x) [it] it (fun i h=>h.IsStrIter it "str_ascii_iterator" x t i) where
 mem:=by simp
 obj:=fun i h st b O=>by
  have e:b=it:=by simpa using O
  subst e;obtain ⟨o,e,c,d⟩:=st;exact ⟨o,e,fun v z=>by rw [d] at z;cases z⟩
 keep:=fun i h h' st k=>let ⟨o,ho,r⟩:=st;⟨o,k it (by simp) o ho,r⟩
 item:=by
  intro X hP hw hK hc i pins s σ H E I Z st q;subst hP hw hK;obtain ⟨f0,f1,f2,f3,f4,f5⟩:=Z it (by simp);have q:i<x.cps.size:=q;refine wpAny_pyNext_ascii_item st (c:=x.cps[i]) (by simp [q]) fun h' Y sb=>?_
  have I1:Inv X pins σ H {s with heap:=h',toks:=s.toks+1}:=I.turned (t':=s.toks+1) (fun b o O e=>(sb.2 b O).trans e) f0 f1 f3 f4 f5;obtain ⟨o,e,c,d⟩:=id Y;exact ⟨_,rfl,km (s:={s with heap:=h',toks:=s.toks+1}) e c d (by decide) ⟨.str ⟨#[x.cps[i]]⟩,H,I1,⟨_,rfl⟩,⟨rfl,x.cps[i],by simp [q],rfl⟩,Y,fun b O=>(Z b O).1⟩⟩
 done:=by intro X hP hw hK hc i pins s σ H E I Z st q;subst hP hw hK;have q:i=x.cps.size:=q;obtain ⟨f0,f1,f2,f3,f4,f5⟩:=Z it (by simp);exact wpAny_pyNext_ascii_end (I.ok.hd hc) st (by simp [q]) fun h' eb=>⟨rfl,I.turned (t':=s.toks) (fun b o O e=>eb b o O e) f0 f1 f3 f4 f5⟩
 self:=fun _ _ _ _ _ st h=>wpAny_pyIter_striter_ascii st h
theorem ra (x:Str) (t:Tok) (it:Addr):Turn P w K tg (Its x) [it] it (fun i h=>h.IsStrIter it "str_iterator" x t i) where
 mem:=by simp
 obj:=fun i h st b O=>by
  have e:b=it:=by simpa using O
  subst e;obtain ⟨o,e,c,d⟩:=st;exact ⟨o,e,fun v z=>by rw [d] at z;cases z⟩
 keep:=fun i h h' st k=>let ⟨o,ho,r⟩:=st;⟨o,k it (by simp) o ho,r⟩
 item:=by
  intro X hP hw hK hc i pins s σ H E I Z st q;subst hP hw hK;obtain ⟨f0,f1,f2,f3,f4,f5⟩:=Z it (by simp);have q:i<x.cps.size:=q;refine wpAny_pyNext_wide_item st (c:=x.cps[i]) (by simp [q]) fun h' Y sb=>?_
  have I1:Inv X pins σ H {s with heap:=h',toks:=s.toks+1}:=I.turned (t':=s.toks+1) (fun b o O e=>(sb.2 b O).trans e) f0 f1 f3 f4 f5;obtain ⟨o,e,c,d⟩:=id Y;exact ⟨_,rfl,km (s:={s with heap:=h',toks:=s.toks+1}) e c d (by decide) ⟨.str ⟨#[x.cps[i]]⟩,H,I1,⟨_,rfl⟩,⟨rfl,x.cps[i],by simp [q],rfl⟩,Y,fun b O=>(Z b O).1⟩⟩
 done:=by intro X hP hw hK hc i pins s σ H E I Z st q;subst hP hw hK;have q:i=x.cps.size:=q;obtain ⟨f0,f1,f2,f3,f4,f5⟩:=Z it (by simp);exact wpAny_pyNext_wide_end (I.ok.hd hc) st (by simp [q]) fun h' eb=>⟨rfl,I.turned (t':=s.toks) (fun b o O e=>eb b o O e) f0 f1 f3 f4 f5⟩
 self:=fun _ _ _ _ _ st h=>wpAny_pyIter_striter_wide st h
section
variable {X:Cx} {tg:Expr}
def iStr (tl:TE):TI:=fun σ H R=>tl σ H fun v H1=>∃ x,v=.str x/\R (Its x) H1
theorem sS {l:Expr} {tl:TE} (hl:PE X l tl):PI X tg l (iStr tl):=by
 intro pins s σ H R I h;refine thn (hl pins s σ H _ I h) fun v s1 ⟨y,H1,Y,r1,q1⟩=>?_
 obtain ⟨x,e,q⟩:=q1;subst e;obtain ⟨t,rfl⟩:=r1
 have O:∀ b∈[s1.heap.objs.size],gu X pins H1 b:=fun b hb=>by
  have e:b=s1.heap.objs.size:=by simpa using hb
  subst e;exact Y.fpOk (nL _) (Y.hok.fresh (nL _))
 cases Z:x.cps.all (· < 128)
 . refine wpAny_pyIter_wide Z ?_;exact ⟨s1.heap.objs.size,[s1.heap.objs.size],_,_,H1,rfl,Y.kept (t':=s1.toks) fun b o e=>gP _ e,ra x t _,⟨_,qa8 _ rfl,rfl,rfl⟩,O,q⟩
 . refine wpAny_pyIter_ascii Z ?_;exact ⟨s1.heap.objs.size,[s1.heap.objs.size],_,_,H1,rfl,Y.kept (t':=s1.toks) fun b o e=>gP _ e,qZ x t _,⟨_,qa8 _ rfl,rfl,rfl⟩,O,q⟩
theorem gF:∀ {bs:List Bool} {us:List Value},Vals (bs.map V.bl) us->us=bs.map qq9
 | [],_,.nil=>rfl
 | b::r,_,.cons h t=>by have h:_=qq9 b:=h;rw [h,gF t];rfl
theorem ky {bs:List Bool}:(qc0 bs.length).map (fun i=>bs.getD i false)=bs:=by
 apply qt9
 . simp
 . intro i h1 h2;simp at h1;simp [h1]
theorem sU (hc:X.calm=true):CallR X (.builtin "all") (fun xs H Q=>∃ (a:Addr) (bs:List Bool),xs=[.ref a]/\SqL X.K H a (bs.map V.bl)/\Q (.bl (bs.all id)) H):=by
 intro pins s σ H xs us Q I r h;obtain ⟨a,bs,rfl,hq,q⟩:=h;obtain ⟨u,rfl,ru⟩:=eD r;cases ru;obtain ⟨its,rv,p,hz⟩:=I.list hq;have eu:=gF rv;subst eu
 have Z:a≠s.heap.objs.size:=by obtain ⟨o,n,e,_⟩:=p;exact qb8 (qa7 e)
 refine call_all_walk (qs6 p.isList ⟨s.heap.objs.size,_,_,_,_,_,fun i=>bs.getD i false,rfl,Walks.list (A:=X.A.in1) (I.ok.hd hc) _ a Z (bs.map qq9).toArray,⟨⟨_,qa8 _ rfl,rfl,rfl⟩,?_⟩,?_,?_⟩)
 . obtain ⟨o,ho,hr⟩:=p.isList;exact ⟨o,gP _ ho,hr⟩
 . intro i v s' Q' E' O Y;rw [zc7,qb3] at O;cases e:bs[i]? with
   | none=>rw [e] at O;cases O
   | some b =>rw [e] at O;cases O;refine qj8 ?_;dsimp only at Y;rw [qb4,e] at Y;exact Y
 . intro h' tk hk;refine ⟨.bl _,H,I.kept (h':=h') (t':=tk) fun b o e=>hk b o (fun z=>?_) (gP _ e),rfl,?_⟩
   . have z:b=s.heap.objs.size:=by simpa using z
     subst z;exact absurd (qa7 e) (qk9 _)
   . have e:(qc0 (bs.map qq9).toArray.size).all (fun i=>bs.getD i false)=bs.all id:=by
      conv=>rhs;rw [<- ky (bs:=bs)]
      rw [List.all_map];simp
     rw [e];exact q
theorem sV (hc:X.calm=true):CallR X (.builtin "any") (fun xs H Q=>∃ (a:Addr) (bs:List Bool),xs=[.ref a]/\SqL X.K H a (bs.map V.bl)/\Q (.bl (bs.any id)) H):=by
 intro pins s σ H xs us Q I r h;obtain ⟨a,bs,rfl,hq,q⟩:=h;obtain ⟨u,rfl,ru⟩:=eD r;cases ru;obtain ⟨its,rv,p,hz⟩:=I.list hq;have eu:=gF rv;subst eu
 have Z:a≠s.heap.objs.size:=by obtain ⟨o,n,e,_⟩:=p;exact qb8 (qa7 e)
 refine call_any_walk (qs6 p.isList ⟨s.heap.objs.size,_,_,_,_,_,fun i=>bs.getD i false,rfl,Walks.list (A:=X.A.in1) (I.ok.hd hc) _ a Z (bs.map qq9).toArray,⟨⟨_,qa8 _ rfl,rfl,rfl⟩,?_⟩,?_,?_⟩)
 . obtain ⟨o,ho,hr⟩:=p.isList;exact ⟨o,gP _ ho,hr⟩
 . intro i v s' Q' E' O Y;rw [zc7,qb3] at O;cases e:bs[i]? with
   | none=>rw [e] at O;cases O
   | some b =>rw [e] at O;cases O;refine qj8 ?_;dsimp only at Y;rw [qb4,e] at Y;exact Y
 . intro h' tk hk;refine ⟨.bl _,H,I.kept (h':=h') (t':=tk) fun b o e=>hk b o (fun z=>?_) (gP _ e),rfl,?_⟩
   . have z:b=s.heap.objs.size:=by simpa using z
     subst z;exact absurd (qa7 e) (qk9 _)
   . have e:(qc0 (bs.map qq9).toArray.size).any (fun i=>bs.getD i false)=bs.any id:=by
      conv=>rhs;rw [<- ky (bs:=bs)]
      rw [List.any_map];simp
     rw [e];exact q
theorem kz:∀ {ts:List Str} {us:List Value},Vals (ts.map V.str) us->∃ l,us=strValues l/\l.map (·.1)=ts
 | [],_,.nil=>⟨[],rfl,rfl⟩
 | x::r,_,.cons h t=>by obtain ⟨tk,rfl⟩:=h;obtain ⟨l,q,O⟩:=kz t;exact ⟨(x,tk)::l,by rw [q];rfl,by rw [<- O];rfl⟩
theorem v5:MtR X "str.join" (fun x vs H Q=>∃ (a:Str) (l:Addr) (ts:List Str),x=.str a/\vs=[.ref l]/\SqL X.K H l (ts.map V.str)/\JoinOk a ts=true/\Q (.str (Txt.join a ts)) H):=by intro pins s σ H x vs v us Q I Z rv h;obtain ⟨a,l,ts,rfl,rfl,hq,hj,q⟩:=h;obtain ⟨t,rfl⟩:=Z;obtain ⟨u,rfl,Y⟩:=rv.one;cases Y;obtain ⟨its,r,p,hz⟩:=I.list hq;obtain ⟨ls,rfl,O⟩:=kz r;exact SC.join p.isList O hj fun t' k=>⟨.str _,H,I.tok _,⟨_,rfl⟩,q⟩
theorem lM:CallR X (.type "int") (fun xs H Q=>∃ x n,xs=[.str x]/\PySem.intText? x=some n/\x.length<=640/\Q (.int n) H):=by intro pins s σ H xs us Q I r h;obtain ⟨x,n,rfl,Y,Z,q⟩:=h;obtain ⟨u,rfl,O⟩:=eD r;obtain ⟨t,rfl⟩:=O;exact PySem.W.KIN.call_text Y Z ⟨.int n,H,I.tok _,⟨_,rfl⟩,q⟩
theorem pQ {v:Value} {o:Option Int} (h:zg8 v o):∃ p:Option (Int×Tok),v=partValue p/\o=p.map (·.1):=by
 cases o with
 | none=>exact ⟨none,by cases h<;>rfl,rfl⟩
 | some i =>cases h;exact ⟨some (i,_),rfl,rfl⟩
def rSlS:V->Option Int->Option Int->Hp->VK->Prop:=fun x lo hi H Q=>∃ z,x=.str z/\z.length<=qb2/\Q (.str (Txt.slice z lo hi)) H
theorem zT:SlR X rSlS:=by intro pins s σ H x v vl vu lo hi sl Q I Y hs O Z h;obtain ⟨z,rfl,hz,q⟩:=h;obtain ⟨t,rfl⟩:=Y;obtain ⟨l,rfl,rfl⟩:=pQ O;obtain ⟨u,rfl,rfl⟩:=pQ Z;refine ⟨"str",_,F.slot_str_getitem.lookup,typeIs_str _ _ _,?_⟩;exact wpAny_getItem_str_slice (l:=l) (u:=u) (st:=none) hs rfl (post_val_or_str ⟨qc4 (Txt.slice_le z _ _) hz,fun t' k=>⟨.str _,H,I.tok _,⟨_,rfl⟩,q⟩⟩)
end
theorem cj:qd7 "len"=some (.builtin "len"):=by first | exact PySem.boot_len | exact PyProof.Rows.boot_len | decide +kernel
theorem zU:qd7 "all"=some (.builtin "all"):=by first | exact PySem.boot_all | exact PyProof.Rows.boot_all | decide +kernel
theorem zV:qd7 "any"=some (.builtin "any"):=by first | exact PySem.boot_any | exact PyProof.Rows.boot_any | decide +kernel
theorem j9:qd7 "isinstance"=some (.builtin "isinstance"):=by first | exact PySem.boot_isinstance | exact PyProof.Rows.boot_isinstance | decide +kernel
theorem iC:qd7 "sorted"=some (.builtin "sorted"):=by first | exact PySem.boot_sorted | exact PyProof.Rows.boot_sorted | decide +kernel
theorem oj:qd7 "int"=some (.type "int"):=by first | exact PySem.boot_int | exact PyProof.Rows.boot_int | decide +kernel
theorem om:qd7 "str"=some (.type "str"):=by first | exact PySem.boot_str | exact PyProof.Rows.boot_str | decide +kernel
theorem pR:qd7 "bool"=some (.type "bool"):=by first | exact PySem.boot_bool | exact PyProof.Rows.boot_bool | decide +kernel
theorem du:qd7 "tuple"=some (.type "tuple"):=by first | exact PySem.boot_tuple | exact PyProof.Rows.boot_tuple | decide +kernel
theorem ja:qd7 "list"=some (.type "list"):=by first | exact PySem.boot_list | exact PyProof.Rows.boot_list | decide +kernel
theorem lN:qd7 "enumerate"=some (.type "enumerate"):=by first | exact PySem.boot_enumerate | exact PyProof.Rows.boot_enumerate | decide +kernel
structure OkF (P:qc2) (w:World) (K:xA9) (mg:Str->Option Value) (base:Heap) (x:Str) (k:Nat) (ps:List Str) (sp:Sp):Prop where
 ex:∃ f fd,mg x=some (.ref f)/\xF9 K (.ref f)=true/\Binds K fd ps []/\FnOk P w K mg base CX0 k f fd ps sp
structure DefF (K:xA9) (mg:Str->Option Value) (x:Str) (st:Stmt) (ps:List Str):Prop where
 ex:∃ f fd,mg x=some (.ref f)/\xF9 K (.ref f)=true/\Binds K fd ps []/\Fun K x x st f fd
section
variable {P:qc2} {w:World} {K:xA9} {mg:Str->Option Value} {base:Heap}
theorem DefF.ok {k:Nat} (F:DefF K mg x st ps) (S:FnScope N ps (aa st)) (len:∀ vs H Q E,sp vs H Q E->vs.length=ps.length)
 (q:∀ (f:Addr) (cdv:Value) (A:qd8) (outer:List Env) (s:qa4) (H:Hp) (vs:List V) (Q:VK) (E:XK),Room k (A.deeper (qx8 x (aa st) s.heap.objs.size f cdv))->sp vs H Q E→
 ∃ t,PSs (jq CX0 P w K mg base N x (aa st) f cdv A outer s H E).nox (be st) t/\t {nx:=fun _ H'=>Q .non H',rt:=Q} (start N vs) H):OkF P w K mg base x (k+1) ps sp:=by
 obtain ⟨f,fd,h1,h2,h3,O⟩:=F.ex;exact ⟨f,fd,h1,h2,h3,O.ok S len (q f)⟩
theorem DefF.mk' {kV ct:Value} {h:Heap} (X:K.In h) (G:h.Ns qb9 mg)
 (a:xB9 K qb9 x=some (some (.ref f)))
 (l:K.lookup f=some ⟨oc,od,.func (xC9 x x (cg st) (be st) (aa st) .none kV doc pm an cdv ct),osl⟩) (c:xH9 K cdv x=true) (k:xF9 K (.ref f)=true)
 (q:∀ (kV doc pm:Value) (an:Option Addr) (cdv ct:Value) (us:List Value),us.length=ps.length->zf6 (xC9 x x (cg st) (be st) (aa st) .none kV doc pm an cdv ct) ⟨us,[]⟩=pure (ps.zip us)):DefF K mg x st ps:=
 ⟨f,_,xK9 X G a,k,(lK l c k).binds q,lK l c k⟩
end
section
variable {X:Cx} {k:Nat} {ps:List Str} {sp:Sp} {x:Str} {p pos:Pos} {e:Expr} {es:List Expr} {t:TA}
theorem sW (F:OkF X.prog X.w X.K X.mg X.base x k ps sp) (Y:Room k X.A) (hg:Gl X x) (ha:PA X (e::es) t) (q:(x==("__debug__":Str))=false:=by decide)
  (he:qa9 (e::es) X.env=(false,eval e X.env)::qa9 es X.env:=by rfl) (O:(qk0 pos (qa9 es X.env)).any (·.1)=false:=by rfl):PE X (.Call (.Name x p) (e::es) [] pos) (sC sp [] E0 t):=by
 obtain ⟨f,fd,h1,h2,h3,Z⟩:=F.ex;exact vM Z Y hg h1 h2 h3 .nil Ca ha q he O
end
noncomputable def sX (N:List Str) (outer scope:Scope) (M:List Str) (src:List (Option Nat)):Bool:=
 (match scope.kind with | .function=>true | _=>false)&&
 scope.names.all (fun y=>decide (y.2≠.cell))&&
 scope.names.all (fun y=>!decide (y.2=.free)||(decide (outer.names.lookup y.1=some .cell)||decide (outer.names.lookup y.1=some .free)))&&
 scope.names.all (fun y=>!decide (y.2=.local)||decide (scope.names.lookup y.1=some .local))&&
 scope.names.all (fun y=>!decide (y.2=.free)||decide (scope.names.lookup y.1=some .free))&&
 decide (M.length=src.length)&&decide M.Nodup&&
 (M.zip src).all (fun p=>match p.2 with | none=>true | some j=>decide (N[j]?=some p.1)&&decide ((p.1,qd9)∈scope.names))
variable {src:List (Option Nat)}
theorem CmpScope.of {outer:Scope} {M:List Str} (h:sX N outer scope M src=true):CmpScope N outer scope M src:=by
 unfold sX at h;simp only [qb1,qk7,qi1,qi5,decide_eq_true_eq,decide_eq_false_iff_not] at h;obtain ⟨⟨⟨⟨⟨⟨⟨h1,h2⟩,h3⟩,Y⟩,h5⟩,h6⟩,Z⟩,h8⟩:=h;refine ⟨?_,h2,fun y q e=>(h3 y q).resolve_left fun z=>z e,fun y q e=>(Y y q).resolve_left fun z=>z e,fun y q e=>(h5 y q).resolve_left fun z=>z e,h6,Z,fun p hp j O=>?_⟩
 . revert h1;cases scope.kind<;>simp
 . have:=h8 p hp;cases e:p.2 with
   | none=>rw [e] at O;cases O
   | some j' =>rw [e] at O this;cases O;simpa using this
def Plain (J:It) (xs:List V) (ok:Hp->Prop):Prop:=∀ i H,ok H->(i<xs.length->J.go i H)/\(i=xs.length->J.stop i H)/\∀ x H',i<xs.length->J.yld i H x H'->H'=H/\xs[i]?=some x
theorem plain_list:Plain (Itl K a) xs (fun H=>SqL K H a xs):=fun i H h =>⟨fun hi=>⟨xs,xs[i],h,by simp [hi]⟩,fun e=>⟨xs,h,by lia⟩,fun x H' _ y=>⟨y.1,y.2 xs h⟩⟩
theorem plain_tup:Plain (Itt K a) xs (fun H=>SqT K H a xs):=fun i H h =>⟨fun hi=>⟨xs,xs[i],h,by simp [hi]⟩,fun e=>⟨xs,h,by lia⟩,fun x H' _ y=>⟨y.1,y.2 xs h⟩⟩
def jv (lo:Int) (n:Nat):List V:=(qc0 n).map fun (i:Nat)=>V.int (lo+i)
theorem plain_range {lo:Int} {n:Nat}:Plain (Itr lo n) (jv lo n) (fun _=>True):=fun i H h=>by
 refine ⟨fun hi=>?_,fun e=>?_,fun x H' hi y=>?_⟩
 . show i<n;simpa [jv] using hi
 . show n<=i;simp [jv] at e;lia
 . obtain ⟨e,rfl⟩:=y;refine ⟨e,?_⟩;unfold jv at hi ⊢;rw [qa1,qj9] at hi;rw [qb3,List.getElem?_range hi];rfl
def pS (x:Str):List V:=x.cps.toList.map fun c=>V.str ⟨#[c]⟩
theorem plain_str:Plain (Its x) (pS x) (fun _=>True):=fun i H h=>by
 refine ⟨fun hi=>?_,fun e=>?_,fun v H' hi y=>?_⟩
 . show i<x.cps.size;simpa [pS] using hi
 . show i=x.cps.size;simpa [pS] using e
 . obtain ⟨e,c,q,rfl⟩:=y;refine ⟨e,?_⟩;unfold pS;rw [qb3,ql4,q];rfl
noncomputable def xW (src:List (Option Nat)) (g:TG) (tt:TT) (te:TE) (σ:St) (J:It) (H1:Hp) (Q:VK) (D:Addr):Prop:=∃ W:Nat->Nat->Hp->Prop,(∃ m,W 0 m (upd H1 D (.lst [])))/\∀ i m H,W i m H→
 (J.stop i H/\Q (.ref D) H)∨(J.go i H/\∃ N:Hp->Prop,(∀ H',N H'->∃ O,O<m/\W (i+1) O H')/\∀ x H',J.yld i H x H'→
  g x (stC src σ) H' fun q H2=>Wk (stC src σ) q/\tt q H2 fun b Y=>if b=true then te q Y fun v Z=>∃ ys,Z D=some (.lst ys)/\ys.length<qb2/\N (upd Z D (.lst (ys++[v]))) else N Y)
variable {wi:TI} {g:TG} {te:TE}
theorem sY {tt:TT} {Q:VK}:mG src wi g tt te σ H Q=wi σ H fun J H1=>∀ D,H1 D=none->xW src g tt te σ J H1 Q D:=rfl
noncomputable def ForW (g:TG) (tb:TS) (D:Ends) (J:It) (σ:St) (H1:Hp):Prop:=∃ W:Nat->Nat->St->Hp->Prop,(∃ m,W 0 m σ H1)/\∀ i m σ H,W i m σ H→ (J.stop i H/\D.nx σ H)∨(J.go i H/\∃ N:St->Hp->Prop,(∀ q H',N q H'->∃ Y,Y<m/\W (i+1) Y q H')/\∀ x H',J.yld i H x H'->g x σ H' fun O H2=>tb {D with nx:=N,ct:=N,bk:=D.nx} O H2)
theorem v6 {tb:TS} {D:Ends}:tFor wi g tb D σ H=wi σ H fun J H1=>ForW g tb D J σ H1:=rfl
variable {v:V}
theorem sZ (q:Gl X x) (Y:∃ u,X.mg x=some u/\RelV v u) (O:(x==("__debug__":Str))=false:=by decide):PE X (.Name x pos) (tC v):=by obtain ⟨u,h1,h2⟩:=Y;exact vD q h1 h2 O
abbrev g8 (qual:Str) (scope:Scope) (L f:Addr) (cd:Value) (cl:List (Str×Addr)):Env:=PySem.W.envX qual scope L f cd (qg4 (L+1) scope.names []++cl)
noncomputable def mI (CX:CXT) (P:qc2) (w:World) (K:xA9) (mg:Str->Option Value) (base:Heap) (N:List Str) (qual:Str) (scope:Scope) (f:Addr) (q:Value) (cl:List (Str×Addr)) (A:qd8) (outer:List Env) (s:qa4) (H:Hp) (E:XK) (xe:Value->qa4->Prop):Cx where
 prog:=P
 w:=w
 K:=K
 mg:=mg
 base:=base
 A:=A.deeper (g8 qual scope s.heap.objs.size f q cl)
 N:=N
 s₀:=s
 H₀:=H
 env:=g8 qual scope s.heap.objs.size f q cl
 outer:=outer
 stack:=g8 qual scope s.heap.objs.size f q cl::outer
 ex:=[]
 calm:=true
 fn:=fun x=>(scope.names.lookup x != some .free)
 pn:=[]
 xe:=xe
structure ClScope (N ps fr:List Str) (sc:Scope):Prop where
 kind:sc.kind=.function
 co:sc.isCoroutine=false
 gen:sc.isGenerator=false
 nd:N.Nodup
 pre:N.take ps.length=ps
 post:N.drop (N.length-fr.length)=fr
 room:ps.length+fr.length<=N.length
 par:∀ x∈ps,sc.names.lookup x=some .local∨sc.names.lookup x=some .cell
 frk:∀ x∈fr,sc.names.lookup x=some .free
 all:∀ x,sc.names.lookup x=some .free->x∈fr
def eF (N:List Str) (vs fs:List V):St:=vs.map some++(qh4 (N.length-vs.length-fs.length) none++fs.map some)
def fJ (c:Addr) (o:Obj):HO:=.frz o (.ext fun h=>h.get? c=some o)
def cX (H:Hp) (cl:List (Str×Addr)):Hp:=fun b=>if b∈cl.map (·.2) then none else H b
def eY (H:Hp) (cl:List (Str×Addr)) (H':Hp):Hp:=fun b=>if b∈cl.map (·.2) then H b else H' b
theorem iD {n:Nat} {sc:Scope} (h:sc.names.lookup x≠some .cell) (nd:∀ y∈sc.names,y.1=x->sc.names.lookup x=some y.2):(qg4 n sc.names []).lookup x=none:=by
 have Y:∀ (names:List (Str×qo2)) (n:Nat) (acc:List (Str×Addr)),(∀ y∈names,y.1=x->y.2≠.cell)->acc.lookup x=none->(qg4 n names acc).lookup x=none:=fun names=>by
  induction names with
  | nil=>intro n acc _ h;exact h
  | cons y r ih =>
   intro n acc q ha;obtain ⟨a,k⟩:=y;unfold qg4;split
   . rename_i O;refine ih _ _ (fun z Z=>q z (.tail _ Z)) ?_;rw [qg8];cases hb:x==a with
     | false=>exact ha
     | true=>exact absurd (by simpa using O) (q (a,k) (.head _) (beq_iff_eq.mp hb).symm)
   . exact ih _ _ (fun z Z=>q z (.tail _ Z)) ha
 exact Y sc.names n [] (fun y q e O=>h (by rw [nd y q e,O])) rfl
structure ClAt (H:Hp) (f:Addr) (name qual:Str) (params:qi3) (body:List Stmt) (scope:Scope) (cl:List (Str×Addr)) (fr:List Str) (fs:List V) (c':Addr) (doc pm ctv:Value) (fo:Obj) (uf:HO):Prop where
 fn:H f=some (.frz fo uf)
 dat:fo.data=.func (xG9 name qual params body scope cl .none .none doc pm none (.ref c') ctv)
 cod:∃ oc,H c'=some (.frz oc (.code qual))
 cel:∀ x c,(x,c)∈cl->∃ o u,H c=some (fJ c o)/\o.data=.cell (some u)
 inj:∀ x y c,cl.lookup x=some c->cl.lookup y=some c->x=y
 len:fs.length=fr.length
 val:∀ (i:Nat) (x:Str) (v:V),fr[i]?=some x->fs[i]?=some v->∃ c o u,cl.lookup x=some c/\H c=some (fJ c o)/\o.data=.cell (some u)/\RelV v u
 nms:∀ x c,cl.lookup x=some c->scope.names.lookup x=some .free
variable {b:Addr}
section
variable {P:qc2} {w:World} {H:Hp} {h:Heap} {cl:List (Str×Addr)}
theorem g9 (q:b∈cl.map (·.2)):cX H cl b=none:=if_pos q
theorem bF (q:b∉cl.map (·.2)):cX H cl b=H b:=if_neg q
theorem kA {o:HO} (h:cX H cl b=some o):b∉cl.map (·.2)/\H b=some o:=by
 by_cases q:b∈cl.map (·.2)
 . rw [g9 q] at h;cases h
 . rw [bF q] at h;exact ⟨q,h⟩
theorem hJ (q:b∈cl.map (·.2)):∃ x,(x,b)∈cl:=by obtain ⟨⟨x,c⟩,O,rfl⟩:=qd2.mp q;exact ⟨x,O⟩
theorem HOk.hide (ok:HOk P w H h) (cel:∀ x c,(x,c)∈cl->∃ o u,H c=some (fJ c o)/\o.data=.cell (some u)):HOk P w (cX H cl) h:=fun b u e=>by
 obtain ⟨hb,e⟩:=kA e
 have O:∀ c o,H c=some o->(∀ ob φ,o≠.frz ob (.ext φ))->cX H cl c=some o:=fun c o q Y=>by
  rw [bF fun z=>?_]
  . exact q
  . obtain ⟨x,Z⟩:=hJ z;obtain ⟨ob,u,g,_⟩:=cel x c Z;rw [q] at g;exact Y _ _ (qd6 g)
 exact (ok b u e).stay (fun _ _ _ q=>q) (fun c q=>O c _ q fun _ _ z=>nomatch z) (fun c xs q=>O c _ q fun _ _ z=>nomatch z) fun c ob xs q=>O c _ q fun _ _ z=>nomatch z
end
section
variable {CX:CXT} {P:qc2} {w:World} {K:xA9} {mg:Str->Option Value} {base:Heap} {N ps fr:List Str} {name qual:Str} {params:qi3} {body:List Stmt} {scope:Scope} {f c':Addr} {cl:List (Str×Addr)} {A:qd8} {outer:List Env} {s s1:qa4} {H:Hp} {E:XK} {us:List Value} {vs fs:List V} {doc pm ctv:Value} {fo:Obj} {uf:HO} {xe:Value->qa4->Prop}
theorem oo (S:ClScope N ps fr scope) (C:ClAt H f name qual params body scope cl fr fs c' doc pm ctv fo uf) (ndn:∀ x,∀ y∈scope.names,y.1=x->scope.names.lookup x=some y.2) (hd:A.handled=none) (e0:Env0 P w K mg base A outer s H) (hl:vs.length=ps.length) (r:Vals vs us)
  (x:zc2 s s.heap.objs.size (bindL (g8 qual scope s.heap.objs.size f (.ref c') cl).kindOf (ps.zip us) fun _=>none) (qg4 (s.heap.objs.size+1) scope.names []) (bindC (g8 qual scope s.heap.objs.size f (.ref c') cl).kindOf (ps.zip us) fun _=>none) s1) :
  Inv (mI CX P w K mg base N qual scope f (.ref c') cl A outer s (cX H cl) E xe) [] (eF N vs fs) (cX H cl) s1:=by
 obtain ⟨h1,tk,rfl,hk⟩:=x.done;have hplen:ps.length<=N.length:=qc4 (Nat.le_add_right _ _) S.room
 have own:∀ y c,(qg4 (s.heap.objs.size+1) scope.names []).lookup y=some c->scope.names.lookup y=some .cell:=fun y c h=>by apply qx3;intro hn;rw [iD hn (ndn y)] at h;cases h
 have Y:∀ y c,cl.lookup y=some c->∃ o u,s.heap.get? c=some o/\o.data=.cell (some u)/\c<s.heap.objs.size:=fun y c h=>by obtain ⟨o,u,g,d⟩:=C.cel y c (PySem.mem_of_lookup h);have q:=(e0.hok c _ g).1;exact ⟨o,u,q,d,qa7 q⟩
 have split:∀ y c,(qg4 (s.heap.objs.size+1) scope.names []++cl).lookup y=some c->((qg4 (s.heap.objs.size+1) scope.names []).lookup y=some c/\s.heap.objs.size<c)∨(cl.lookup y=some c/\c<s.heap.objs.size):=fun y c h=>by
  rw [dH] at h;cases q:(qg4 (s.heap.objs.size+1) scope.names []).lookup y with
  | some d =>rw [q] at h;cases h;exact .inl ⟨rfl,x.above y _ (PySem.mem_of_lookup q)⟩
  | none =>rw [q] at h;have h:cl.lookup y=some c:=h;exact .inr ⟨h,let ⟨_,_,_,_,z⟩:=Y y c h;z⟩
 have noA:∀ b:Addr,b∉(mI CX P w K mg base N qual scope f (.ref c') cl A outer s (cX H cl) E xe).ex:=fun b z=>absurd (show b∈([]:List Addr) from z) (by simp)
 have hn:∀ b,H b=none->cX H cl b=none:=fun b h=>by
  by_cases hb:b∈cl.map (·.2)
  . exact g9 hb
  . rw [bF hb];exact h
 have htb:∀ p∈dE K,cX H cl p.1=some (.ctab p.2):=fun p hp=>by
  rw [bF fun z=>?_]
  . exact e0.tb p hp
  . obtain ⟨x,hx⟩:=hJ z;obtain ⟨o,u,g,_⟩:=C.cel x _ hx;rw [e0.tb p hp] at g;cases g
 refine ⟨⟨e0.mod,S.kind,rfl,rfl,nL _,fun y z c h1 h2=>?_,fun y O=>?_,fun y c hf h=>?_,fun _=>hd,qd8.frames_deeper e0.frames,.inr ⟨rfl,rfl⟩,fun b z=>absurd z (noA b),fun b o e=>⟨(e0.bs b o e).1,hn b (e0.bs b o e).2⟩,e0.bsz,fun b _ _=>noA b,fun b z=>absurd z (noA b),e0.funs,fun b hb=>hn b (e0.frf b hb),htb⟩,rfl,e0.bare,Un.kept hk,⟨_,x.toInCall.ns,fun i y v h1 h2 h3=>?_⟩,fun y c h=>?_,hn _ (e0.hok.fresh (qn3 _)),fun y c h=>?_,fun p hp=>absurd (show p∈([]:List (Addr×Obj)) from hp) (by simp),(e0.hok.hide C.cel).kept hk,?_⟩
 . rcases split y c h1 with ⟨g1,Z⟩ | ⟨g1,Z⟩<;>rcases split z c h2 with ⟨g2,l2⟩ | ⟨g2,l2⟩
   . exact zg7 x.apart (PySem.mem_of_lookup g1) (PySem.mem_of_lookup g2)
   . exact absurd l2 (Nat.lt_asymm Z)
   . exact absurd Z (Nat.lt_asymm l2)
   . exact C.inj y z c g1 g2
 . have O:scope.names.lookup y=some .cell∨scope.names.lookup y=some .free:=O;show ∃ c,(qg4 (s.heap.objs.size+1) scope.names []++cl).lookup y=some c;rw [dH];rcases O with O | O
   . obtain ⟨c,e⟩:=gZ (n:=s.heap.objs.size+1) O;exact ⟨c,by rw [e];rfl⟩
   . rw [iD (by rw [O];decide) (ndn y)];obtain ⟨i,hi⟩:=qm1 (S.all y O);have hlt:i<fs.length:=by rw [C.len];exact (gX hi).1
     obtain ⟨c,_,_,e,_⟩:=C.val i y fs[i] hi (by simp [hlt]);exact ⟨c,e⟩
 . have hf:(scope.names.lookup y != some .free)=true:=hf;rcases split y c h with ⟨_,Z⟩ | ⟨g1,_⟩
   . exact qh5 Z
   . rw [C.nms y c g1] at hf;simp at hf
 . by_cases hi:i<vs.length
   . have ha:vs[i]?=some v:=by
      unfold eF at h2;rw [qc5 (by simpa using hi),qb3] at h2;cases e:vs[i]? with
      | none=>rw [e] at h2;cases h2
      | some a=>rw [e] at h2;cases h2;rfl
     obtain ⟨u,hu,rv⟩:=r.get ha
     have hp:ps[i]?=some y:=by rw [<- S.pre,qx9 (by lia)];exact h1
     have ndP:ps.Nodup:=by rw [<- S.pre];exact S.nd.sublist (qy0 _ _)
     refine ⟨u,rv,?_⟩;rcases S.par y (qc7 hp) with k | k
     . exact .inl ⟨k,ix ndP hp hu k⟩
     . obtain ⟨c,e⟩:=gZ (n:=s.heap.objs.size+1) k;refine .inr ⟨.inl k,c,?_,?_⟩
       . show (qg4 (s.heap.objs.size+1) scope.names []++cl).lookup y=some c;rw [dH,e];rfl
       . have q:=x.cell y c e;rw [iy ndP hp hu (by show scope.names.lookup y≠_;rw [k];decide)] at q;exact q
   . unfold eF at h2;rw [qe2 (by simpa using hi)] at h2;rw [qa1] at h2;by_cases hj:i-vs.length<N.length-vs.length-fs.length
     . rw [qc5 (by simpa using hj),qj4] at h2;split at h2<;>cases h2
     . rw [qe2 (by simpa using hj),ql1,qb3] at h2;obtain ⟨v',hv,e⟩:=mS h2;cases e;have hroom:=S.room;have hfl:=C.len
       have hfr:fr[i-vs.length-(N.length-vs.length-fs.length)]?=some y:=by rw [<- S.post,List.getElem?_drop];rw [show N.length-fr.length+(i-vs.length-(N.length-vs.length-fs.length))=i by lia];exact h1
       obtain ⟨c,o,u,e1,e2,e3,e4⟩:=C.val _ y v hfr hv;refine ⟨u,e4,.inr ⟨.inr (C.nms y c e1),c,?_,?_⟩⟩
       . show (qg4 (s.heap.objs.size+1) scope.names []++cl).lookup y=some c;rw [dH,iD (by rw [C.nms y c e1];decide) (ndn y),e1];rfl
       . exact ⟨o,hk c o (e0.hok c _ e2).1,e3⟩
 . rcases split y c h with ⟨g1,_⟩ | ⟨g1,_⟩
   . exact ⟨_,x.cell y c g1⟩
   . obtain ⟨o,u,q,d,_⟩:=Y y c g1;exact ⟨_,o,hk c o q,d⟩
 . rcases split y c h with ⟨_,Z⟩ | ⟨g1,_⟩
   . exact hn _ (e0.hok.fresh (qh5 Z))
   . exact g9 (qd2.mpr ⟨(y,c),PySem.mem_of_lookup g1,rfl⟩)
 . unfold eF;show _=N.length;rw [qc8,qc8,qa1,ql1,qa1];have:=S.room;have:=C.len;lia
theorem tj {k:Nat} {args:Args} {Q:VK} (S:ClScope N ps fr scope) (C:ClAt H f name qual params body scope cl fr fs c' doc pm ctv fo uf) (ndn:∀ x,∀ y∈scope.names,y.1=x->scope.names.lookup x=some y.2) (hr:Room (k+1) A) (e0:Env0 P w K mg base A outer s H)
  (Z:qz0 s (xG9 name qual params body scope cl .none .none doc pm none (.ref c') ctv) args (ps.zip us)) (hl:vs.length=ps.length) (r:Vals vs us)
  (hbody:Room k (A.deeper (g8 qual scope s.heap.objs.size f (.ref c') cl))->∃ t,PSs (mI CX P w K mg base N qual scope f (.ref c') cl A outer s (cX H cl) E fun _ _=>False) body t/\t {nx:=fun _ H'=>(∀ b∈cl.map (·.2),H' b=none)->Q .non (eY H cl H'),rt:=fun v H'=>(∀ b∈cl.map (·.2),H' b=none)->Q v (eY H cl H')} (eF N vs fs) (cX H cl)) :
  qq1 (model P w) A (.call (.ref f) args) (CR CX outer P w H s Q E) s:=by
 have KX:K.In s.heap:=e0.mod.kin.keeps fun b o e=>(e0.bs b o e).1
 have lim:s.heap.NoLimit:=e0.mod.nolimit.keeps fun b o e=>(e0.bs b o e).1
 have hkind:∀ y∈ps.zip us,scope.names.lookup y.1=some .local∨(scope.names.lookup y.1=some .cell/\((qg4 (s.heap.objs.size+1) scope.names []).lookup y.1).isSome=true):=fun ⟨n,v⟩ hy=>by
  rcases S.par n (qv4 hy).1 with q | q
  . exact .inl q
  . exact .inr ⟨q,xR9 _ _ _ (.inl q)⟩
 refine zc3 hr.depth (e0.hok f _ C.fn).1 C.dat S.co S.gen rfl (let ⟨_,z⟩:=C.cod;(e0.hok c' _ z).2) (Z _ _ _ _ ?_);refine v0 S.kind hkind fun env he s1 x=>?_
 subst he;refine ⟨lim.keeps x.toInCall.keep,codeAny_func ?_⟩;obtain ⟨t,ht,hq⟩:=hbody (hr.deeper _);have I:Inv (mI CX P w K mg base N qual scope f (.ref c') cl A outer s (cX H cl) E fun _ _=>False) [] (eF N vs fs) (cX H cl) s1:=oo S C ndn hr.hd e0 hl r x;refine qj7 (ht [] s1 (eF N vs fs) (cX H cl) _ I hq) (fun fl s' hs=>?_) fun e s' hs=>hs.elim
 have fin:∀ {σ':St} {H':Hp} {v:V} {u:Value},Inv (mI CX P w K mg base N qual scope f (.ref c') cl A outer s (cX H cl) E fun _ _=>False) [] σ' H' s'->RelV v u->((∀ b∈cl.map (·.2),H' b=none)->Q v (eY H cl H'))->CE outer P w H s Q u s':=fun {σ' H' v u} J rv q=>by
  have cn:∀ b,b∈cl.map (·.2)->∃ o u,H b=some (fJ b o)/\o.data=.cell (some u):=fun b Z=>by obtain ⟨x,hx⟩:=hJ Z;exact C.cel x b hx
  have kc:∀ b o,b∈cl.map (·.2)->s.heap.get? b=some o->s'.heap.get? b=some o/\H' b=none:=fun b o Z q=>by
   obtain ⟨o',u,g,d⟩:=cn b Z;have hfs:b∉frs outer:=fun z=>by have:=e0.frf b z;rw [g] at this;cases this
   exact ⟨J.base.keep b o q (g9 Z) hfs (fun z=>absurd (show b∈([]:List Addr) from z) (by simp)),J.base.free b o q (g9 Z) (fun z=>absurd (show b∈([]:List Addr) from z) (by simp))⟩
  have sin:∀ {b:Addr},b∈cl.map (·.2)->eY H cl H' b=H b:=fun Z=>if_pos Z
  have Y:∀ {b:Addr},b∉cl.map (·.2)->eY H cl H' b=H' b:=fun Z=>if_neg Z
  have hnot:∀ (b:Addr) (o:HO),H b=some o->(∀ ob φ,o≠.frz ob (.ext φ))->b∉cl.map (·.2):=fun b o q hno z=>by obtain ⟨ob,u,g,_⟩:=cn b z;rw [q] at g;exact hno _ _ (qd6 g)
  have q:=q fun b Z=>by obtain ⟨o',u',g,d⟩:=cn b Z;exact (kc b o' Z (e0.hok b _ g).1).2
  refine ⟨v,eY H cl H',J.os,J.bare,⟨fun b o q n Z hx=>?_,fun b o q n Z hx=>?_,fun b o q n hx=>?_,fun b o q hx=>?_,fun b xs q=>?_,fun b o u q=>?_,fun b ps q=>?_,fun b qs q=>?_⟩,fun b o q=>?_,rv,q⟩
  . have O:b∉cl.map (·.2):=fun z=>by obtain ⟨_,_,g,_⟩:=cn b z;rw [n] at g;cases g
    exact J.base.keep b o q ((bF O).trans n) Z (fun z=>absurd (show b∈([]:List Addr) from z) (by simp))
  . have O:b∉cl.map (·.2):=fun z=>by obtain ⟨_,_,g,_⟩:=cn b z;rw [n] at g;cases g
    exact J.base.slot b o q ((bF O).trans n) Z (fun z=>absurd (show b∈([]:List Addr) from z) (by simp))
  . have O:b∉cl.map (·.2):=fun z=>by obtain ⟨_,_,g,_⟩:=cn b z;rw [n] at g;cases g
    rw [Y O];exact J.base.free b o q ((bF O).trans n) (fun z=>absurd (show b∈([]:List Addr) from z) (by simp))
  . exact J.base.there b o q (fun z=>absurd (show b∈([]:List Addr) from z) (by simp))
  . have O:=hnot b _ q fun _ _ z=>nomatch z
    rw [Y O];exact J.base.tups b xs ((bF O).trans q)
  . by_cases O:b∈cl.map (·.2)
    . rw [sin O];exact q
    . rw [Y O];exact J.base.frzs b o u ((bF O).trans q)
  . have O:=hnot b _ q fun _ _ z=>nomatch z
    rw [Y O];exact J.base.tbls b ps ((bF O).trans q)
  . have O:=hnot b _ q fun _ _ z=>nomatch z
    rw [Y O];exact J.base.cts b qs ((bF O).trans q)
  . by_cases O:b∈cl.map (·.2)
    . rw [sin O] at q;obtain ⟨ob,u,g,d⟩:=cn b O;rw [q] at g;cases g;have e1:=(e0.hok b _ q).1;have e2:=(kc b ob O e1).1;exact ⟨e2,e2,⟨ob,e2⟩,fun h1 h2 z1 z2=>z2 ob z1⟩
    . rw [Y O] at q
      have up:∀ c o,H' c=some o->eY H cl H' c=some o:=fun c o z=>by
       by_cases hcc:c∈cl.map (·.2)
       . obtain ⟨ob,u,g,d⟩:=cn c hcc;have e1:=(e0.hok c _ g).1;rw [(kc c ob hcc e1).2] at z;cases z
       . rw [Y hcc];exact z
      exact (J.hok b o q).stay (fun _ _ _ z=>z) (fun c z=>up c _ z) (fun c xs z=>up c _ z) fun c ob xs z=>up c _ z
 cases fl with
 | ret u =>obtain ⟨v,σ',H',J,rv,q⟩:=hs;exact fin J rv q
 | next =>obtain ⟨σ',H',J,q⟩:=hs;exact fin (v:=V.non) (u:=qh2) J rfl q
 | brk =>obtain ⟨_,_,_,q⟩:=hs;exact qg2 q
 | cont =>obtain ⟨_,_,_,q⟩:=hs;exact qg2 q
end
structure TabB (mg:Str->Option Value) (base:Heap) (c P:Addr):Prop where
 code:xN9 base c P
 bm:∃ bm ob,mg "__builtins__"=some (.ref bm)/\bm≠qv0/\base.get? bm=some ob/\ob.cls=.type "module"/\ob.dict=some qv0/\ob.data=.plain
theorem iR:∀ {l:List Value} {m:List Value},zb5 l->zb5 m->zb5 (l++m)
 | [],m,_,h=>h
 | .int _ _::.int _ _::_::r,m,h,h'=>iR (l:=r) h h'
theorem kE:∀ {l:List Value} {m:List Value},zb5 l->qq2 pos (l++m)=(qq2 pos l).or (qq2 pos m)
 | [],m,_=>by simp [qq2]
 | .int a t::.int b u::c::r,m,h=>by
  have h:zb5 r:=h;show (if _ then _ else qq2 pos (r++m))=Option.or (if _ then _ else qq2 pos r) _;split
  . rfl
  . exact kE h
structure Made (H H':Hp) (lo:Nat) (f c':Addr) (qual:Str) (fo:Obj):Prop where
 fn:H' f=some (.frz fo (.ext fun h=>h.get? f=some fo))
 cod:∃ oc,H' c'=some (.frz oc (.code qual))
 old:∀ b o,H b=some o->H' b=some o
 new:∀ b o,H' b=some o->H b=some o∨(lo<=b/\H b=none)
 lof:lo<=f
section
variable {X:Cx} {pins:List (Addr×Obj)} {σ:St} {H:Hp} {s:qa4} {c P:Addr} {qs:List ((Nat×Nat)×Str)} {name:Str} {params:qi3} {body:List Stmt} {scope:Scope} {clos:List (Str×Addr)} {pos:Pos}
theorem v7 {Q:Value->qa4->Prop} (I:Inv X pins σ H s) (B:TabB X.mg X.base c P) (hcode:X.env.code=.ref c) (hP:H P=some (.ctab qs)) (hq:((pos.line,pos.col),qual)∈qs) (hun:∀ q,((pos.line,pos.col),q)∈qs->q=qual) (hcl:zd8 scope X.env=pure clos)
 (q:∀ (f c':Addr) (doc pm ctv:Value) (H':Hp) (s':qa4),Made H H' s.heap.objs.size f c' qual {cls:=.type "function",data:=.func (xG9 name qual params body scope clos .none .none doc pm none (.ref c') ctv)}->Inv X pins σ H' s'->Q (.ref f) s') :
  wpAny (model X.prog X.w) A (makeFunction name qual params (.stmts body) scope X.env [] [] [] pos pos.line) Q E s:=by
 obtain ⟨ps,hp,ht,hent⟩:=I.hok P _ hP
 have inB:∀ {b:Addr} {o:Obj},X.base.get? b=some o->b≠P:=fun {b o} e z=>by have:=(I.bs b o e).2;rw [z,hP] at this;cases this
 have hg:s.heap.Ns qb9 X.mg:=I.mod.glob.keeps I.bk;obtain ⟨bm,ob,b1,b2,b3,b4,b5,b6⟩:=B.bm
 have hgP:qb9≠P:=by obtain ⟨o,es,ep,e,_⟩:=I.mod.glob;exact inB e
 have hbG:bm≠qb9:=fun z=>by obtain ⟨o,es,ep,e,hd,_⟩:=I.mod.glob;rw [z,e] at b3;cases b3;rw [hd] at b6;cases b6
 have hB:s.heap.BuiltinsAt X.mg P:=⟨bm,ob,b1,b2,hbG,inB b3,I.bk _ _ b3,b4,b5,b6⟩;have C:xN9 s.heap c P:=B.code.keeps I.bk;have lt:∀ {b:Addr} {o:HO},H b=some o->b<s.heap.objs.size:=fun h=>I.hok.lt h
 cases hf:qq2 pos ps.toList with
 | some cv =>
  obtain ⟨c',oc,rfl,hc'⟩:=hent pos qual cv hq hf;refine PySem.W.makeFunction_hit hcl I.ok.glob hg hcode C hp ht hf hB fun ctv doc h' tk hk Y=>?_
  have hfr:H h'.objs.size=none:=I.hok.fresh Y
  have I2:=I.laid (a:=h'.objs.size) (o:=.frz {cls:=.type "function",data:=.func (xG9 name qual params body scope clos .none .none doc ((X.mg "__name__").getD .none) none (.ref c') ctv)} (.ext fun h=>h.get? h'.objs.size=some {cls:=.type "function",data:=.func (xG9 name qual params body scope clos .none .none doc ((X.mg "__name__").getD .none) none (.ref c') ctv)})) (t':=tk) (h':=h'.push {cls:=.type "function",data:=.func (xG9 name qual params body scope clos .none .none doc ((X.mg "__name__").getD .none) none (.ref c') ctv)}) (fun b o e=>gP _ (hk b o e)) Y
   ⟨qa8 _ rfl,qa8 _ rfl,⟨_,qa8 _ rfl⟩,fun h1 h2 z1 z2=>z2 _ z1⟩
  refine q _ c' doc _ ctv _ _ ⟨aV,?_,fun b o e=>?_,fun b o e=>?_,Y⟩ I2
  . refine ⟨oc,?_⟩;rw [aH (qb8 (qb7 (lt hc') Y))];exact hc'
  . rw [aH (qb8 (qb7 (lt e) Y))];exact e
  . by_cases hb:b=h'.objs.size
    . exact .inr ⟨by rw [hb];exact Y,by rw [hb];exact hfr⟩
    . rw [aH hb] at e;exact .inl e
 | none =>
  refine PySem.W.makeFunction_K hcl I.ok.glob hg hcode C hp ht hf hgP hB fun c' ctv doc h' tk hx Z hlt hrec htb=>?_
  obtain ⟨c2,oc,vs,t,e2,hoc,hrec2⟩:=hrec;cases e2;have hfr:H h'.objs.size=none:=I.hok.fresh (qc4 Z (qh5 hlt));have hcr:H c'=none:=I.hok.fresh Z;have hne:c'≠h'.objs.size:=qb8 hlt;generalize hfo:({cls:=.type "function",data:=.func (xG9 name qual params body scope clos .none .none doc ((X.mg "__name__").getD .none) none (.ref c') ctv)}:Obj)=fo;have hfo':(PySem.W.fnMade name qual params body scope clos doc ((X.mg "__name__").getD .none) c' ctv)=fo:=hfo;rw [hfo'];have hfree:fo.isFreed=false:=by rw [<- hfo];rfl
  have gf:(h'.push fo).get? h'.objs.size=some fo:=qa8 _ hfree;let H':Hp:=upd (upd H c' (.frz oc (.code qual))) h'.objs.size (.frz fo (.ext fun h=>h.get? h'.objs.size=some fo))
  have O:∀ b o,H b=some o->H' b=some o:=fun b o e=>by show upd (upd H c' (.frz oc (.code qual))) h'.objs.size _ b=some o;rw [aH (fun z=>by rw [z,hfr] at e;cases e),aH (fun z=>by rw [z,hcr] at e;cases e)];exact e
  have hnew:∀ b o,H' b=some o->H b=some o∨(s.heap.objs.size<=b/\H b=none):=fun b o e=>by
   by_cases h1:b=h'.objs.size
   . exact .inr ⟨by rw [h1];exact qc4 Z (qh5 hlt),by rw [h1];exact hfr⟩
   . by_cases h2:b=c'
     . exact .inr ⟨by rw [h2];exact Z,by rw [h2];exact hcr⟩
     . have e:upd (upd H c' (.frz oc (.code qual))) h'.objs.size _ b=some o:=e;rw [aH h1,aH h2] at e;exact .inl e
  have kp:∀ b o,b≠P->s.heap.get? b=some o->(h'.push fo).get? b=some o:=fun b o hb e=>gP _ (hx b o hb e)
  have hcod:H' c'=some (.frz oc (.code qual)):=by show upd (upd H c' (.frz oc (.code qual))) h'.objs.size _ c'=_;rw [aH hne,aV]
  have un:Un X.fs [] H H' s.heap (h'.push fo):=by
   have nP:∀ {b:Addr},H b=none->b≠P:=fun {b} n z=>by rw [z,hP] at n;cases n
   refine ⟨fun b o e n _ _=>kp b o (nP n) e,fun b o e n _ _=>⟨o.slots,by rw [kp b o (nP n) e]⟩,fun b o e n _=>?_,fun b o e _=>?_,fun b xs e=>O b _ e,fun b o u e=>O b _ e,fun b ps e=>⟨#[],by rw [O b _ e];simp⟩,fun b qs e=>O b _ e⟩
   . cases z:H' b with
     | none=>rfl
     | some w =>
      rcases hnew b w z with y | ⟨y,_⟩
      . rw [n] at y;cases y
      . exact absurd (qa7 e) (qy2.mpr y)
   . by_cases hb:b=P
     . rw [hb];exact ⟨_,gP _ htb⟩
     . exact ⟨o,kp b o hb e⟩
  have hok:HOk X.prog X.w H' (h'.push fo):=fun b o e=>by
   by_cases h1:b=h'.objs.size
   . subst h1;have e:upd (upd H c' (.frz oc (.code qual))) h'.objs.size _ h'.objs.size=some o:=e;rw [aV] at e;cases e;exact ⟨gf,gf,⟨_,gf⟩,fun h1 h2 z1 z2=>z2 _ z1⟩
   . by_cases h2:b=c'
     . subst h2;rw [hcod] at e;cases e;exact ⟨gP _ hoc,b,oc,vs,t,rfl,gP _ hoc,hrec2⟩
     . have eH:H b=some o:=by have e:upd (upd H c' (.frz oc (.code qual))) h'.objs.size _ b=some o:=e;rw [aH h1,aH h2] at e;exact e
       by_cases h3:b=P
       . subst h3;rw [hP] at eH;cases eH;refine ⟨_,gP _ htb,?_,fun pos' q' v h4 h5=>?_⟩
         . rw [qv6];exact iR ht trivial
         . rw [qv6,kE ht] at h5;cases h6:qq2 pos' ps.toList with
           | some v' =>rw [h6] at h5;cases h5;obtain ⟨c2,o2,e1,e2⟩:=hent pos' q' _ h4 h6;exact ⟨c2,o2,e1,O _ _ e2⟩
           | none =>
            rw [h6] at h5;have h5:qq2 pos' [qf3 pos.line,qf3 pos.col,.ref c']=some v:=h5;simp only [qf3,qq2] at h5;split at h5
            . rename_i hh;cases h5;refine ⟨c',oc,rfl,?_⟩
              have e1:pos'.line=pos.line/\pos'.col=pos.col:=by simp only [qb1,beq_iff_eq] at hh;lia
              rw [e1.1,e1.2] at h4;rw [hun q' h4];exact hcod
            . cases h5
       . refine (I.hok b o eH).stay (fun d u hd z=>kp d u ?_ z) (fun d z=>O d _ z) (fun d xs z=>O d _ z) fun d ob xs z=>O d _ z
         rcases hd with rfl | hd
         . exact h3
         . intro z;rw [z,hP] at hd;cases hd
  exact q _ c' doc _ ctv H' _ ⟨by show upd _ _ _ _=_;rw [aV,<- hfo],⟨oc,hcod⟩,O,hnew,qc4 Z (qh5 hlt)⟩ (I.un (t':=tk) un hok)
end
section
variable {X:Cx} {K:xA9} {tg:Expr}
end
def jw (scope outer:Scope):Scope:={scope with names:=scope.names.map fun (n,k)=>if (k==.free&&outer.kind==.function&&outer.names.lookup n==some .cell) then (n,.cell) else (n,k)}
noncomputable def dv (sc:Scope) (N:List Str) (i:Nat) (x:Str):Bool:=decide (N[i]?=some x)&&(decide (sc.names.lookup x=some .local)||(decide (sc.names.lookup x=some .cell)||decide (sc.names.lookup x=some .free)))&&!(x==("__debug__":Str))&&!(x==("__classdict__":Str))
def i0 (sc:Scope) (x:Str):Bool:=decide (sc.names.lookup x=some .local)||decide (sc.names.lookup x=some .cell)
def aC (sc:Scope) (x:Str):Bool:=decide (sc.names.lookup x=some .globalImplicit)&&!(x==("__debug__":Str))&&!decide (x=("__name__":Str))
section
variable {sc:Scope} {N:List Str} {i:Nat} {x:Str}
theorem gG (h:dv sc N i x=true):N[i]?=some x:=by unfold dv at h;simp only [qb1,decide_eq_true_eq] at h;exact h.1.1.1
theorem zW (h:dv sc N i x=true):Vis sc x:=by unfold dv at h;simp only [qb1,qi1,decide_eq_true_eq] at h;exact h.1.1.2
theorem zX (h:dv sc N i x=true):(x==("__debug__":Str))=false:=by unfold dv at h;simp only [qb1,qi5] at h;exact h.1.2
theorem Cb (h:dv sc N i x=true):(x==("__classdict__":Str))=false:=by unfold dv at h;simp only [qb1,qi5] at h;exact h.2
theorem jx (h:i0 sc x=true):Loc sc x:=by unfold i0 at h;simp only [qi1,decide_eq_true_eq] at h;exact h
theorem y114 (h:aC sc x=true):sc.names.lookup x=some .globalImplicit:=by unfold aC at h;simp only [qb1,decide_eq_true_eq] at h;exact h.1.1
theorem jy (h:aC sc x=true):(x==("__debug__":Str))=false:=by unfold aC at h;simp only [qb1,qi5] at h;exact h.1.2
theorem z98 (h:aC sc x=true):x≠("__name__":Str):=by unfold aC at h;simp only [qb1,qi5,decide_eq_false_iff_not] at h;exact h.2
end
def cD (X:Cx) (sc:Scope):Prop:=X.env.scope=sc
variable {i:Nat}
section
variable {X:Cx} {sc:Scope} {N:List Str} {x:Str} {pos p:Pos}
theorem pvD (i:Nat) (h:dv sc N i x=true) (e1:cD X sc:=by rfl) (q:X.N=N:=by rfl):PE X (.Name x pos) (gY i):=by have e1:X.env.scope=sc:=e1;subst e1 q;exact zb (gG h) (zW h) (zX h) (Cb h)
theorem glD (h:aC sc x=true) (e1:cD X sc:=by rfl):Gl X x:=by have e1:X.env.scope=sc:=e1;subst e1;exact y114 h
theorem pT {e:Expr} {pos':Pos} (h:dv sc N i x=true) (Y:i0 sc x=true) (nd:N.Nodup) (O:PE X e te) (e1:cD X sc:=by rfl) (q:X.N=N:=by rfl) (hf:X.fn x=true∨X.env.scope.names.lookup x=some .local:=by exact .inl rfl)
 (Z:qo4 e (some (.Name x pos')) pos.line X.env=pure false:=by rfl):PS X (.Assign [.Name x pos'] e pos) (vI te (jm i)):=by
 have e1:X.env.scope=sc:=e1;subst e1 q;exact zu nd (gG h) (jx Y) O Z hf
theorem aW (h:dv sc N i x=true) (q:i0 sc x=true) (Z:N.Nodup) (e1:cD X sc:=by rfl) (O:X.N=N:=by rfl) (Y:X.fn x=true∨X.env.scope.names.lookup x=some .local:=by exact .inl rfl):PG X (.Name x pos) (jm i):=by have e1:X.env.scope=sc:=e1;subst e1 O;exact pC Z (gG h) (jx q) Y
def loOk (sc:Scope) (x:Str):Bool:=decide (sc.names.lookup x=some .local)
theorem cS (h:dv sc N i x=true) (q:loOk sc x=true) (Y:X.N.Nodup) (e1:cD X sc) (O:X.N=N:=by rfl):PG X (.Name x pos) (jm i):=by have e1:X.env.scope=sc:=e1;subst e1 O;have q:X.env.scope.names.lookup x=some .local:=of_decide_eq_true q;exact pC Y (gG h) (.inl q) (.inr q)
theorem jz (h:aC sc x=true) (q:∃ u,X.mg x=some u/\RelV v u) (e1:cD X sc:=by rfl):PE X (.Name x pos) (tC v):=sZ (glD h e1) q (jy h)
theorem tm {u:Value} (h:aC sc x=true) (O:X.mg x=none) (q:qd7 x=some u) (r:RelV v u) (e1:cD X sc:=by rfl):PE X (.Name x pos) (tC v):=vE (glD h e1) O q r (z98 h) (jy h)
variable {e:Expr} {es:List Expr} {t:TA} {id T:String} {r:List V->Hp->VK->Prop} {k:Nat} {ps:List Str} {sp:Sp}
theorem iE (h:aC sc x=true) (Y:CallR X (.builtin id) r) (hm:X.mg x=none) (O:qd7 x=some (.builtin id)) (ha:PA X (e::es) t) (e1:cD X sc:=by rfl)
  (Z:qa9 (e::es) X.env=(false,eval e X.env)::qa9 es X.env:=by rfl) (q:(qk0 pos (qa9 es X.env)).any (·.1)=false:=by rfl):PE X (.Call (.Name x p) (e::es) [] pos) (tCB r t):=
 sD Y (glD h e1) hm O ha (z98 h) (jy h) Z q
theorem jA (h:aC sc x=true) (Y:CallR X (.type T) r) (hm:X.mg x=none) (O:qd7 x=some (.type T)) (ha:PA X (e::es) t) (e1:cD X sc:=by rfl)
  (Z:qa9 (e::es) X.env=(false,eval e X.env)::qa9 es X.env:=by rfl) (q:(qk0 pos (qa9 es X.env)).any (·.1)=false:=by rfl):PE X (.Call (.Name x p) (e::es) [] pos) (tCB r t):=
 qR Y (glD h e1) hm O ha (z98 h) (jy h) Z q
theorem rb (h:aC sc x=true) (F:OkF X.prog X.w X.K X.mg X.base x k ps sp) (Y:Room k X.A) (Z:PA X (e::es) t) (e1:cD X sc:=by rfl)
  (O:qa9 (e::es) X.env=(false,eval e X.env)::qa9 es X.env:=by rfl) (q:(qk0 pos (qa9 es X.env)).any (·.1)=false:=by rfl):PE X (.Call (.Name x p) (e::es) [] pos) (sC sp [] E0 t):=
 sW F Y (glD h e1) Z (jy h) O q
variable {tg a b:Expr} {ta:TA}
theorem oq (h:aC sc "range"=true) (Y:X.mg "range"=none) (O:PA X [a] ta) (e1:cD X sc:=by rfl) (q:qa9 [a] X.env=[(false,eval a X.env)]:=by rfl):PI X tg (.Call (.Name "range" p) [a] [] pos) (xO ta):=qK (glD h e1) Y O q
theorem ou (h:aC sc "range"=true) (Z:X.mg "range"=none) (Y:PA X [a,b] ta) (e1:cD X sc:=by rfl) (O:qa9 [a,b] X.env=[(false,eval a X.env),(false,eval b X.env)]:=by rfl) (q:qa9 [b] X.env=[(false,eval b X.env)]:=by rfl) :
  PI X tg (.Call (.Name "range" p) [a,b] [] pos) (xP ta):=qL (glD h e1) Z Y O q
end
section
variable {X:Cx} {M:List Str} {scope outer:Scope} {C:Addr} {s:qa4} {H:Hp} {ex:List Addr} {x:Str} {pos p:Pos}
theorem scC (q:cD X outer):cD (cxC X M scope C s H ex) (jw scope outer):=by have q:X.env.scope=outer:=q;subst q;rfl
end
inductive Dt where
 | non | bl (b:Bool) | int (i:Int) | str (x:Str) | tup (l:List Dt) | lst (l:List Dt) | dct (ks:List Key) (l:List Dt) | dcT (ks:List (List Key)) (l:List Dt)
mutual
noncomputable def peq:Dt->Dt->Bool
 | .non,.non=>true
 | .bl a,.bl b=>a==b
 | .bl a,.int j=>(if a then (1:Int) else 0)==j
 | .int i,.bl b=>i==(if b then (1:Int) else 0)
 | .int i,.int j=>i==j
 | .str x,.str y=>x==y
 | .tup l,.tup m=>peqs l m
 | .lst l,.lst m=>peqs l m
 | .dct ks l,.dct js m=>decide (ks=js)&&peqs l m
 | .dcT ks l,.dcT js m=>decide (ks=js)&&peqs l m
 | _,_=>false
noncomputable def peqs:List Dt->List Dt->Bool
 | [],[]=>true
 | d::l,e::m=>peq d e&&peqs l m
 | _,_=>false
end
mutual
theorem hV:∀ d:Dt,peq d d=true
 | .non=>by simp [peq]
 | .bl b=>by simp [peq]
 | .int i=>by simp [peq]
 | .str x=>by simp [peq]
 | .tup l=>by simp only [peq];exact peqs_self l
 | .lst l=>by simp only [peq];exact peqs_self l
 | .dct ks l=>by simp only [peq,decide_true,qr7];exact peqs_self l
 | .dcT ks l=>by simp only [peq,decide_true,qr7];exact peqs_self l
theorem peqs_self:∀ l:List Dt,peqs l l=true
 | []=>by simp [peqs]
 | d::l=>by simp only [peqs,hV d,peqs_self l,qz4]
end
mutual
noncomputable def gH:Dt->Nat
 | .tup l=>deeps l+1
 | .lst l=>deeps l+1
 | _=>0
noncomputable def deeps:List Dt->Nat
 | []=>0
 | d::l=>max (gH d) (deeps l)
end
mutual
noncomputable def Rep (K:xA9) (H:Hp):Dt->V->Prop
 | .non,v=>v=.non
 | .bl b,v=>v=.bl b
 | .int i,v=>v=.int i
 | .str x,v=>v=.str x
 | .tup l,v=>∃ a vs,v=.ref a/\SqT K H a vs/\Reps K H l vs
 | .lst l,v=>∃ a vs,v=.ref a/\SqL K H a vs/\Reps K H l vs
 | .dct ks l,v=>∃ a kvs,v=.ref a/\Rd H a (.dK kvs)/\kvs.map (·.1)=ks/\Reps K H l (kvs.map (·.2))
 | .dcT ks l,v=>∃ a kvs,v=.ref a/\Rd H a (.dT kvs)/\kvs.map (·.1)=ks/\Reps K H l (kvs.map (·.2))
noncomputable def Reps (K:xA9) (H:Hp):List Dt->List V->Prop
 | [],vs=>vs=[]
 | d::l,vs=>∃ v ws,vs=v::ws/\Rep K H d v/\Reps K H l ws
end
theorem Same.tup (e:Same H H') (h:SqT K H a xs):SqT K H' a xs:=by
 rcases h with h | h
 . exact .inl (e _ _ h)
 . exact .inr h
theorem Same.rd {u:HO} (e:Same H H') (h:Rd H a u):Rd H' a u:=by
 rcases h with h | ⟨o,h⟩
 . exact .inl (e _ _ h)
 . exact .inr ⟨o,e _ _ h⟩
mutual
theorem Rep.same {K:xA9} {H H':Hp} (e:Same H H'):∀ {d:Dt} {v:V},Rep K H d v->Rep K H' d v
 | .non,v,h=>h
 | .bl _,v,h=>h
 | .int _,v,h=>h
 | .str _,v,h=>h
 | .tup l,v,h=>by unfold Rep at h ⊢;obtain ⟨a,vs,h1,h2,h3⟩:=h;exact ⟨a,vs,h1,e.tup h2,Reps.same e h3⟩
 | .lst l,v,h=>by unfold Rep at h ⊢;obtain ⟨a,vs,h1,h2,h3⟩:=h;exact ⟨a,vs,h1,e.seq h2,Reps.same e h3⟩
 | .dct ks l,v,h=>by unfold Rep at h ⊢;obtain ⟨a,vs,h1,h2,h3,h4⟩:=h;exact ⟨a,vs,h1,e.rd h2,h3,Reps.same e h4⟩
 | .dcT ks l,v,h=>by unfold Rep at h ⊢;obtain ⟨a,vs,h1,h2,h3,h4⟩:=h;exact ⟨a,vs,h1,e.rd h2,h3,Reps.same e h4⟩
theorem Reps.same {K:xA9} {H H':Hp} (e:Same H H'):∀ {l:List Dt} {vs:List V},Reps K H l vs->Reps K H' l vs
 | [],vs,h=>h
 | d::l,vs,h=>by unfold Reps at h ⊢;obtain ⟨v,ws,h1,h2,h3⟩:=h;exact ⟨v,ws,h1,Rep.same e h2,Reps.same e h3⟩
end
theorem Reps.length:∀ {l:List Dt} {vs:List V},Reps K H l vs->vs.length=l.length
 | [],vs,h=>by unfold Reps at h;rw [h];rfl
 | d::l,vs,h=>by unfold Reps at h;obtain ⟨v,q,rfl,_,h3⟩:=h;simp [Reps.length h3]
theorem Reps.get:∀ {l:List Dt} {vs:List V} {i:Nat} {d:Dt},Reps K H l vs->l[i]?=some d->∃ v,vs[i]?=some v/\Rep K H d v
 | [],vs,i,d,h,e=>by simp at e
 | d0::l,vs,0,d,h,e=>by unfold Reps at h;obtain ⟨v,Y,rfl,h2,_⟩:=h;simp at e;subst e;exact ⟨v,rfl,h2⟩
 | d0::l,vs,i+1,d,h,e=>by unfold Reps at h;obtain ⟨v,Y,rfl,_,h3⟩:=h;obtain ⟨u,q,O⟩:=Reps.get (i:=i) h3 (by simpa using e);exact ⟨u,by simpa using q,O⟩
theorem Reps.append:∀ {l m:List Dt} {vs q:List V},Reps K H l vs->Reps K H m q->Reps K H (l++m) (vs++q)
 | [],m,vs,q,h,h'=>by unfold Reps at h;rw [h];exact h'
 | d::l,m,vs,q,h,h'=>by unfold Reps at h;obtain ⟨v,us,rfl,h2,h3⟩:=h;show Reps K H (d::(l++m)) (v::(us++q));unfold Reps;exact ⟨v,_,rfl,h2,Reps.append h3 h'⟩
theorem Reps.one {d:Dt} (h:Rep K H d v):Reps K H [d] [v]:=by unfold Reps;exact ⟨v,[],rfl,h,by unfold Reps;rfl⟩
theorem Reps.take:∀ {l:List Dt} {vs:List V} (n:Nat),Reps K H l vs->Reps K H (l.take n) (vs.take n)
 | _,_,0,_=>by simp [Reps]
 | [],vs,n+1,h=>by unfold Reps at h;rw [h];simp [Reps]
 | d::l,vs,n+1,h=>by unfold Reps at h;obtain ⟨v,us,rfl,h2,h3⟩:=h;show Reps K H (d::l.take n) (v::us.take n);unfold Reps;exact ⟨v,_,rfl,h2,Reps.take n h3⟩
theorem Reps.drop:∀ {l:List Dt} {vs:List V} (n:Nat),Reps K H l vs->Reps K H (l.drop n) (vs.drop n)
 | _,_,0,h=>h
 | [],vs,n+1,h=>by unfold Reps at h;rw [h];simp [Reps]
 | d::l,vs,n+1,h=>by unfold Reps at h;obtain ⟨v,us,rfl,h2,h3⟩:=h;exact Reps.drop n h3
variable {u:List (Key×V)}
section
variable {X:Cx} {pins:List (Addr×Obj)} {σ:St} {H:Hp} {s:qa4} {K:xA9}
theorem Inv.notBoth {ys:List V} (I:Inv X pins σ H s) (h:SqL X.K H a xs) (h':SqT X.K H a ys):False:=by obtain ⟨its,r,Y,_⟩:=I.list h;obtain ⟨its',r',pt,_⟩:=I.tuple h';obtain ⟨o,n,e,Z,_⟩:=Y;obtain ⟨o',O,q,_⟩:=pt;rw [e] at O;cases O;rw [Z] at q;injection q with z;exact absurd z (by decide)
theorem Cc {w:List (Key×V)} (h:Rd H a (.dK u)) (h':Rd H a (.dK w)):u=w:=by rcases h with h | ⟨o,h⟩<;>rcases h' with h' | ⟨o',h'⟩<;>rw [h] at h'<;>cases h'<;>rfl
theorem Cd {u w:List (List Key×V)} (h:Rd H a (.dT u)) (h':Rd H a (.dT w)):u=w:=by rcases h with h | ⟨o,h⟩<;>rcases h' with h' | ⟨o',h'⟩<;>rw [h] at h'<;>cases h'<;>rfl
theorem jb {u:HO} (h:Rd H a u):∃ o,H a=some o:=by
 rcases h with h | ⟨o,h⟩
 . exact ⟨_,h⟩
 . exact ⟨_,h⟩
theorem Inv.kNone (I:Inv X pins σ H s) {o:Obj} (h:X.K.lookup a=some o):H a=none:=(I.bs a o (I.ok.mod.kin a o h)).2
theorem Inv.sqT_dK (I:Inv X pins σ H s) (h:SqT X.K H a xs) (h':Rd H a (.dK u)):False:=by
 rcases h with h | ⟨o,_,_,h,_⟩
 . rcases h' with h' | ⟨o',h'⟩<;>rw [h] at h'<;>cases h'
 . obtain ⟨o',e⟩:=jb h';rw [I.kNone h] at e;cases e
theorem Inv.sqT_dT (I:Inv X pins σ H s) {u:List (List Key×V)} (h:SqT X.K H a xs) (h':Rd H a (.dT u)):False:=by
 rcases h with h | ⟨o,_,_,h,_⟩
 . rcases h' with h' | ⟨o',h'⟩<;>rw [h] at h'<;>cases h'
 . obtain ⟨o',e⟩:=jb h';rw [I.kNone h] at e;cases e
theorem Inv.sqL_dK (I:Inv X pins σ H s) (h:SqL X.K H a xs) (h':Rd H a (.dK u)):False:=by
 rcases h with h | ⟨o,_,_,h,_⟩
 . rcases h with h | ⟨o,h⟩<;>rcases h' with h' | ⟨o',h'⟩<;>rw [h] at h'<;>cases h'
 . obtain ⟨o',e⟩:=jb h';rw [I.kNone h] at e;cases e
theorem Inv.sqL_dT (I:Inv X pins σ H s) {u:List (List Key×V)} (h:SqL X.K H a xs) (h':Rd H a (.dT u)):False:=by
 rcases h with h | ⟨o,_,_,h,_⟩
 . rcases h with h | ⟨o,h⟩<;>rcases h' with h' | ⟨o',h'⟩<;>rw [h] at h'<;>cases h'
 . obtain ⟨o',e⟩:=jb h';rw [I.kNone h] at e;cases e
theorem tp {w:List (List Key×V)} (h:Rd H a (.dK u)) (h':Rd H a (.dT w)):False:=by rcases h with h | ⟨o,h⟩<;>rcases h' with h' | ⟨o',h'⟩<;>rw [h] at h'<;>cases h'
def c9:Dt->Nat
 | .non=>0
 | .bl _=>1
 | .int _=>2
 | .str _=>3
 | .tup _=>4
 | .lst _=>5
 | .dct _ _=>6
 | .dcT _ _=>7
theorem dX (I:Inv X pins σ H s) {d e:Dt} (h:Rep X.K H d v) (h':Rep X.K H e v):c9 d=c9 e:=by
 cases d<;>cases e<;>first
  | rfl
  | (simp only [Rep] at h h';subst h;cases h';done)
  | (simp only [Rep] at h h';obtain ⟨_,_,e,_⟩:=h';rw [h] at e;cases e;done)
  | (simp only [Rep] at h h';obtain ⟨_,_,e,_⟩:=h;rw [h'] at e;cases e;done)
  | (simp only [Rep] at h h';obtain ⟨_,_,rfl,h2,_⟩:=h;obtain ⟨_,_,e,q,_⟩:=h';cases e
     first
      | exact (I.sqT_dK h2 q).elim
      | exact (I.sqT_dK q h2).elim
      | exact (I.sqT_dT h2 q).elim
      | exact (I.sqT_dT q h2).elim
      | exact (I.notBoth h2 q).elim
      | exact (I.notBoth q h2).elim
      | exact (I.sqL_dK h2 q).elim
      | exact (I.sqL_dK q h2).elim
      | exact (I.sqL_dT h2 q).elim
      | exact (I.sqL_dT q h2).elim
      | exact (tp h2 q).elim
      | exact (tp q h2).elim)
mutual
theorem lO (I:Inv X pins σ H s):∀ (d e:Dt) (v:V),Rep X.K H d v->Rep X.K H e v->peq d e=true:=fun d=>by
 match d with
 | .tup l =>
  intro e v h h';have hk:=dX I h h';cases e<;>first | (simp [c9] at hk;done) | skip
  simp only [Rep] at h h';obtain ⟨a,vs,rfl,h2,h3⟩:=h;obtain ⟨b,ws,e,h2',h3'⟩:=h';cases e;have:=I.tuple_inj h2 h2';subst this;simp only [peq];exact reps_inj I l _ _ h3 h3'
 | .lst l =>
  intro e v h h';have hk:=dX I h h';cases e<;>first | (simp [c9] at hk;done) | skip
  simp only [Rep] at h h';obtain ⟨a,vs,rfl,h2,h3⟩:=h;obtain ⟨b,ws,e,h2',h3'⟩:=h';cases e;have:=I.list_inj h2 h2';subst this;simp only [peq];exact reps_inj I l _ _ h3 h3'
 | .dct ks l =>
  intro e v h h';have hk:=dX I h h';cases e<;>first | (simp [c9] at hk;done) | skip
  simp only [Rep] at h h';obtain ⟨a,vs,rfl,h2,h3,h4⟩:=h;obtain ⟨b,ws,e,h2',h3',h4'⟩:=h';cases e;have:=Cc h2 h2';subst this;subst h3 h3';simp only [peq,decide_true,qr7];exact reps_inj I l _ _ h4 h4'
 | .dcT ks l =>
  intro e v h h';have hk:=dX I h h';cases e<;>first | (simp [c9] at hk;done) | skip
  simp only [Rep] at h h';obtain ⟨a,vs,rfl,h2,h3,h4⟩:=h;obtain ⟨b,ws,e,h2',h3',h4'⟩:=h';cases e;have:=Cd h2 h2';subst this;subst h3 h3';simp only [peq,decide_true,qr7];exact reps_inj I l _ _ h4 h4'
 | .non =>intro e v h h';have hk:=dX I h h';cases e<;>first | (simp [c9] at hk;done) | simp only [peq]
 | .bl b =>intro e v h h';have hk:=dX I h h';cases e<;>first | (simp [c9] at hk;done) | (simp only [Rep] at h h';rw [h] at h';cases h';exact hV _)
 | .int b =>intro e v h h';have hk:=dX I h h';cases e<;>first | (simp [c9] at hk;done) | (simp only [Rep] at h h';rw [h] at h';cases h';exact hV _)
 | .str b =>intro e v h h';have hk:=dX I h h';cases e<;>first | (simp [c9] at hk;done) | (simp only [Rep] at h h';rw [h] at h';cases h';exact hV _)
theorem reps_inj (I:Inv X pins σ H s):∀ (l m:List Dt) (vs:List V),Reps X.K H l vs->Reps X.K H m vs->peqs l m=true:=fun l=>by
 match l with
 | [] =>
  intro m vs h h';cases m with
  | nil=>simp only [peqs]
  | cons e m=>unfold Reps at h h';obtain ⟨v,ws,e,_⟩:=h';rw [h] at e;cases e
 | d::l =>
  intro m vs h h';cases m with
  | nil=>unfold Reps at h h';obtain ⟨v,ws,e,_⟩:=h;rw [h'] at e;cases e
  | cons e m =>unfold Reps at h h';obtain ⟨v,ws,rfl,h2,h3⟩:=h;obtain ⟨v',ws',e',h2',h3'⟩:=h';cases e';simp only [peqs,lO I d _ _ h2 h2',reps_inj I l _ _ h3 h3',qz4]
end
end
end L2
namespace L2
open PySem PySem.Spec PyProof.Rows
mutual
noncomputable def eT:Dt->Dt->Bool
 | .tup l,.tup m=>cmpbs l m
 | .lst l,.lst m=>cmpbs l m
 | d,e=>decide (c9 d<4)&&decide (c9 e<4)
noncomputable def cmpbs:List Dt->List Dt->Bool
 | d::l,e::m=>eT d e&&cmpbs l m
 | _,_=>true
end
theorem eZ:∀ {l m:List Dt} {j:Nat} {d e:Dt},cmpbs l m=true->l[j]?=some d->m[j]?=some e->eT d e=true
 | [],_,j,d,e,_,h,_=>by simp at h
 | _::_,[],j,d,e,_,_,h=>by simp at h
 | d0::l,e0::m,0,d,e,h,h1,h2=>by simp only [cmpbs,qb1] at h;simp at h1 h2;subst h1 h2;exact h.1
 | d0::l,e0::m,j+1,d,e,h,h1,h2=>by simp only [cmpbs,qb1] at h;exact eZ (j:=j) h.2 (by simpa using h1) (by simpa using h2)
theorem fV:∀ {l:List Dt} {j:Nat} {d:Dt},l[j]?=some d->gH d<=deeps l
 | [],j,d,h=>by simp at h
 | d0::l,0,d,h=>by simp at h;subst h;simp only [deeps];exact Nat.le_max_left ..
 | d0::l,j+1,d,h=>by simp only [deeps];exact qc4 (fV (j:=j) (by simpa using h)) (Nat.le_max_right ..)
def da (l m:List Dt) (j:Nat):Bool:=peq (l.getD j .non) (m.getD j .non)
theorem eG:∀ (l m:List Dt),peqs l m=((qc0 (min l.length m.length)).all (da l m)&&l.length==m.length)
 | [],[]=>by simp [peqs]
 | [],_::_=>by simp [peqs]
 | _::_,[]=>by simp [peqs]
 | d::l,e::m=>by
  have Z:=eG l m;simp only [peqs,Z,qg7];rw [show min (l.length+1) (m.length+1)=min l.length m.length+1 by lia,List.range_succ_eq_map,ql2,List.all_map];have O:da (d::l) (e::m) 0=peq d e:=rfl
  have Y:(da (d::l) (e::m) ∘ Nat.succ)=da l m:=by funext j;rfl
  have q:(l.length+1==m.length+1)=(l.length==m.length):=by rw [qi9];simp
  rw [O,Y,q,Bool.and_assoc]
variable {K:xA9}
section
variable {X:Cx} {pins:List (Addr×Obj)} {σ:St} {H:Hp} {s:qa4}
theorem dl {l:List Dt} {vs:List V} {its:List Value} (h:Reps X.K H l vs) (r:Vals vs its) {j:Nat} (Y:j<its.length):∃ d v,l[j]?=some d/\Rep X.K H d v/\RelV v its[j]:=by
 have O:j<l.length:=by rw [<- h.length,r.length];exact Y
 obtain ⟨v,Z,e2⟩:=h.get (i:=j) (d:=l[j]) (by simp [O]);obtain ⟨u,q,e4⟩:=r.get Z
 have:its[j]=u:=by have:=gQ Y;rw [this] at q;exact qd6 q
 exact ⟨l[j],v,by simp [O],e2,by rw [this];exact e4⟩
theorem xX (I:Inv X pins σ H s):∀ (n:Nat) {A:qd8} {d e:Dt} {v w:V} {u u':Value},gH d<=n->A.units+n<cLine->eT d e=true->Rep X.K H d v->Rep X.K H e w->RelV v u->RelV w u'->qg1 A s u u' (peq d e):=by
 intro n;induction n with
 | zero =>
  intro A d e v w u u' hd hu O h h' r r'
  cases d<;>cases e<;>first
   | (simp only [Rep] at h h';subst h h';exact iA r r' rfl rfl)
   | (simp only [gH] at hd;lia)
   | (simp [eT,c9] at O)
 | succ n ih =>
  intro A d e v w u u' hd hu O h h' r r';cases d with
  | tup l =>
   cases e with
   | tup m =>
    have h0:=h;have h0':=h';simp only [Rep] at h h';obtain ⟨a,vs,rfl,h2,h3⟩:=h;obtain ⟨b,ws,rfl,q,h3'⟩:=h';cases r;cases r';by_cases Z:a=b
    . subst Z;have:=lO I _ _ _ h0 h0';rw [this];exact zc5 _
    obtain ⟨its,rv,pt,_⟩:=I.tuple h2;obtain ⟨its',rv',pt',_⟩:=I.tuple q;have n1:its.length=l.length:=by rw [<- h3.length,rv.length]
    have n2:its'.length=m.length:=by rw [<- h3'.length,rv'.length]
    simp only [peq];rw [eG,<- n1,<- n2];simp only [gH] at hd;simp only [eT] at O
    have key:=qy3.tuples (A:=A) (e:=da l m) pt pt' (by lia) (fun j h1 h2=>by
     have h1':j<its.length:=by simpa using h1
     have q:j<its'.length:=by simpa using h2
     obtain ⟨d,v,g1,g2,g3⟩:=dl h3 rv h1';obtain ⟨e,w,g1',g2',g3'⟩:=dl h3' rv' q;have:da l m j=peq d e:=by unfold da;rw [qb4,qb4,g1,g1'];rfl
     rw [this];have:=ih (A:=A.in1) (qc4 (fV g1) (by lia)) (show A.units+1+n<cLine by lia) (eZ O g1 g1') g2 g2' g3 g3';simpa using this)
    have key':qy3 A s (.ref a) (.ref b) ((qc0 (min its.length its'.length)).all (da l m)&&its.length==its'.length):=by simpa using key
    exact qw7 Z key'
   | _=>exact absurd O (by simp [eT,c9])
  | lst l =>
   cases e with
   | lst m =>
    have h0:=h;have h0':=h';simp only [Rep] at h h';obtain ⟨a,vs,rfl,h2,h3⟩:=h;obtain ⟨b,ws,rfl,q,h3'⟩:=h';cases r;cases r';by_cases Z:a=b
    . subst Z;have:=lO I _ _ _ h0 h0';rw [this];exact zc5 _
    obtain ⟨its,rv,pt,_⟩:=I.list h2;obtain ⟨its',rv',pt',_⟩:=I.list q;have n1:its.length=l.length:=by rw [<- h3.length,rv.length]
    have n2:its'.length=m.length:=by rw [<- h3'.length,rv'.length]
    simp only [peq];rw [eG,<- n1,<- n2];simp only [gH] at hd;simp only [eT] at O;by_cases Y:its.length=its'.length
    . have key:=qy3.lists (A:=A) (e:=da l m) pt.isList pt'.isList (by simpa using Y) (by lia) (fun j h1 h2=>by
       have h1':j<its.length:=by simpa using h1
       have q:j<its'.length:=by simpa using h2
       obtain ⟨d,v,g1,g2,g3⟩:=dl h3 rv h1';obtain ⟨e,w,g1',g2',g3'⟩:=dl h3' rv' q;have:da l m j=peq d e:=by unfold da;rw [qb4,qb4,g1,g1'];rfl
       rw [this];have:=ih (A:=A.in1) (qc4 (fV g1) (by lia)) (show A.units+1+n<cLine by lia) (eZ O g1 g1') g2 g2' g3 g3';simpa using this)
      have e1:(its.length==its'.length)=true:=by simpa using Y
      rw [e1,qu6,show min its.length its'.length=its.length by lia];exact qw7 Z (by simpa using key)
    . have e1:(its.length==its'.length)=false:=by simpa using Y
      rw [e1,qx2];exact qw7 Z (qy4 pt.isList pt'.isList (by simpa using Y) (by lia))
   | _=>exact absurd O (by simp [eT,c9])
  | non=>cases e<;>first | (simp only [Rep] at h h';subst h h';exact iA r r' rfl rfl) | (simp [eT,c9] at O)
  | bl b=>cases e<;>first | (simp only [Rep] at h h';subst h h';exact iA r r' rfl rfl) | (simp [eT,c9] at O)
  | int b=>cases e<;>first | (simp only [Rep] at h h';subst h h';exact iA r r' rfl rfl) | (simp [eT,c9] at O)
  | str b=>cases e<;>first | (simp only [Rep] at h h';subst h h';exact iA r r' rfl rfl) | (simp [eT,c9] at O)
  | dct ks l=>cases e<;>(simp [eT,c9] at O)
  | dcT ks l=>cases e<;>(simp [eT,c9] at O)
theorem xY (I:Inv X pins σ H s) {A:qd8} {d e:Dt} {v w:V} {u u':Value} (hq:(∃ l m,d=.tup l/\e=.tup m)∨∃ l m,d=.lst l/\e=.lst m) (hu:A.units+gH d<cLine) (hc:eT d e=true) (h:Rep X.K H d v) (h':Rep X.K H e w) (r:RelV v u) (r':RelV w u') :
  qy3 A s u u' (peq d e)/\zc8 A s u u' (!peq d e):=by
 rcases hq with ⟨l,m,rfl,rfl⟩ | ⟨l,m,rfl,rfl⟩
 . simp only [Rep] at h h';obtain ⟨a,vs,rfl,h2,h3⟩:=h;obtain ⟨b,ws,rfl,O,h3'⟩:=h';cases r;cases r';obtain ⟨its,rv,pt,_⟩:=I.tuple h2;obtain ⟨its',rv',Y,_⟩:=I.tuple O;have n1:its.length=l.length:=by rw [<- h3.length,rv.length]
   have n2:its'.length=m.length:=by rw [<- h3'.length,rv'.length]
   simp only [peq];rw [eG,<- n1,<- n2];simp only [gH] at hu;simp only [eT] at hc
   have he:∀ j (h1:j<its.toArray.size) (h2:j<its'.toArray.size),qg1 A.in1 s its.toArray[j] its'.toArray[j] (da l m j):=fun j h1 h2=>by
    have h1':j<its.length:=by simpa using h1
    have O:j<its'.length:=by simpa using h2
    obtain ⟨d,v,g1,g2,g3⟩:=dl h3 rv h1';obtain ⟨e,w,Z,g2',g3'⟩:=dl h3' rv' O;have:da l m j=peq d e:=by unfold da;rw [qb4,qb4,g1,Z];rfl
    rw [this];have:=xX I (deeps l) (A:=A.in1) (fV g1) (show A.units+1+deeps l<cLine by lia) (eZ hc g1 Z) g2 g2' g3 g3';simpa using this
   exact ⟨by simpa using qy3.tuples (A:=A) (e:=da l m) pt Y (by lia) he,by simpa using zc8.tuples (A:=A) (e:=da l m) pt Y (by lia) he⟩
 . simp only [Rep] at h h';obtain ⟨a,vs,rfl,h2,h3⟩:=h;obtain ⟨b,ws,rfl,O,h3'⟩:=h';cases r;cases r';obtain ⟨its,rv,pt,_⟩:=I.list h2;obtain ⟨its',rv',Y,_⟩:=I.list O;have n1:its.length=l.length:=by rw [<- h3.length,rv.length]
   have n2:its'.length=m.length:=by rw [<- h3'.length,rv'.length]
   simp only [peq];rw [eG,<- n1,<- n2];simp only [gH] at hu;simp only [eT] at hc;by_cases q:its.length=its'.length
   . have he:∀ j (h1:j<its.toArray.size) (h2:j<its'.toArray.size),qg1 A.in1 s its.toArray[j] its'.toArray[j] (da l m j):=fun j h1 h2=>by
      have h1':j<its.length:=by simpa using h1
      have O:j<its'.length:=by simpa using h2
      obtain ⟨d,v,g1,g2,g3⟩:=dl h3 rv h1';obtain ⟨e,w,Z,g2',g3'⟩:=dl h3' rv' O;have:da l m j=peq d e:=by unfold da;rw [qb4,qb4,g1,Z];rfl
      rw [this];have:=xX I (deeps l) (A:=A.in1) (fV g1) (show A.units+1+deeps l<cLine by lia) (eZ hc g1 Z) g2 g2' g3 g3';simpa using this
     have e1:(its.length==its'.length)=true:=by simpa using q
     rw [e1,qu6,show min its.length its'.length=its.length by lia];exact ⟨by simpa using qy3.lists (A:=A) (e:=da l m) pt.isList Y.isList (by simpa using q) (by lia) he,by simpa using zc8.lists (A:=A) (e:=da l m) pt.isList Y.isList (by simpa using q) (by lia) he⟩
   . have e1:(its.length==its'.length)=false:=by simpa using q
     rw [e1,qx2];exact ⟨qy4 pt.isList Y.isList (by simpa using q) (by lia),zc8.lists_lengths pt.isList Y.isList (by simpa using q) (by lia)⟩
noncomputable def v8 (K:xA9) (neg:Bool):R2:=fun x y H Q=>∃ d e,((∃ l m,d=.tup l/\e=.tup m)∨∃ l m,d=.lst l/\e=.lst m)/\Rep K H d x/\Rep K H e y/\eT d e=true/\gH d<=60/\Q (.bl (if neg then !peq d e else peq d e)) H
theorem zY {k:Nat} (hr:Room k X.A) (hK:X.K=K):OpR X (qg5 .Eq) (v8 K false):=by subst hK;intro pins s σ H x y v u Q I Y ry h;obtain ⟨d,e,hq,Z,O,hc,hdp,q⟩:=h;have hu:=hr.units;exact (xY I hq (by lia) hc Z O Y ry).1 _ _ _ _ ⟨.bl (peq d e),H,I,rfl,q⟩
theorem zZ {k:Nat} (hr:Room k X.A) (hK:X.K=K):OpR X (qg5 .NotEq) (v8 K true):=by subst hK;intro pins s σ H x y v u Q I Y ry h;obtain ⟨d,e,hq,Z,O,hc,hdp,q⟩:=h;have hu:=hr.units;exact (xY I hq (by lia) hc Z O Y ry).2 _ _ _ _ ⟨.bl (!peq d e),H,I,rfl,q⟩
end
end L2
namespace L2
open PySem PySem.Spec PyProof.Rows
abbrev NT (o:HO):Prop:=∀ vs,o≠.tup vs
structure Step (F H F' H':Hp):Prop where
 hh:Same H H'
 ff:Same F F'
 fh:Same F' H'
 nw:∀ b o,F' b=some o->F b=some o∨H b=none∨∃ vs,H b=some (.tup vs)
variable {u:HO}
section
variable {F H F' H' F1 H1:Hp} {p:Addr} {o:HO}
theorem Step.refl (h:Same F H):Step F H F H:=⟨Same.refl _,Same.refl _,h,fun _ _ e=>.inl e⟩
theorem Step.trans (a:Step F H F1 H1) (b:Step F1 H1 F' H'):Step F H F' H':=
 ⟨a.hh.trans b.hh,a.ff.trans b.ff,b.fh,fun c o e=>by
  rcases b.nw c o e with z | z | ⟨vs,z⟩
  . exact a.nw c o z
  . exact .inr (.inl (a.hh.free z))
  . cases q:H c with
    | none=>exact .inr (.inl rfl)
    | some u =>have:=a.hh c u q;rw [z] at this;cases this;exact .inr (.inr ⟨vs,rfl⟩)⟩
theorem Same.upd (hp:H p=none):Same H (upd H p o):=fun b u e=>by rw [aH (bM e hp)];exact e
theorem Step.new (h:Same F H) (hp:H p=none):Step F H (upd F p o) (upd H p o) where
 hh:=Same.upd hp
 ff:=Same.upd (h.free hp)
 fh:=fun b u e=>by
  by_cases q:b=p
  . subst q;rw [aV] at e ⊢;exact e
  . rw [aH q] at e ⊢;exact h _ _ e
 nw:=fun b u e=>by
  by_cases q:b=p
  . subst q;exact .inr (.inl hp)
  . rw [aH q] at e;exact .inl e
theorem Step.keepN {b:Addr} (st:Step F H F' H') (Z:F b=none) (O:H b=some u) (Y:NT u:=by intro _ z;cases z):F' b=none:=by
 cases q:F' b with
 | none=>rfl
 | some o' =>
  rcases st.nw b o' q with z | z | ⟨vs,z⟩
  . rw [Z] at z;cases z
  . rw [O] at z;cases z
  . rw [O] at z;cases z;exact absurd rfl (Y vs)
theorem Step.made (h:Same F H) (hp:H p=none):Step F H F (upd H p o) where
 hh:=Same.upd hp
 ff:=Same.refl _
 fh:=h.trans (Same.upd hp)
 nw:=fun b u e=>.inl e
end
inductive T where
 | leaf (d:Dt) | lst (l:List Dt) | dct (l:List (Key×Dt)) | dcT (l:List (List Key×Dt)) | fn (a:Addr) (F0:Hp)
def T.d:T->Option Dt
 | .leaf d=>some d
 | .lst l=>some (.lst l)
 | .dct l=>some (.dct (l.map (·.1)) (l.map (·.2)))
 | .dcT l=>some (.dcT (l.map (·.1)) (l.map (·.2)))
 | .fn _ _=>none
def T.own:T->Bool
 | .leaf _ | .fn _ _=>false
 | _=>true
noncomputable def Own (K:xA9) (F H:Hp):T->V->(Addr->Prop)->Prop
 | .leaf d,v,_=>Rep K F d v
 | .lst l,v,S=>∃ a vs,v=.ref a/\S a/\H a=some (.lst vs)/\Reps K F l vs
 | .dct l,v,S=>∃ a kvs,v=.ref a/\S a/\H a=some (.dK kvs)/\kvs.map (·.1)=l.map (·.1)/\Reps K F (l.map (·.2)) (kvs.map (·.2))
 | .dcT l,v,S=>∃ a kvs,v=.ref a/\S a/\H a=some (.dT kvs)/\kvs.map (·.1)=l.map (·.1)/\Reps K F (l.map (·.2)) (kvs.map (·.2))
 | .fn a F0,v,_=>v=.ref a/\Same F0 F
noncomputable def RepB (K:xA9) (F H:Hp):Dt->V->Prop
 | .lst l,v=>∃ a vs,v=.ref a/\SqL K H a vs/\Reps K F l vs
 | .dct ks l,v=>∃ a kvs,v=.ref a/\Rd H a (.dK kvs)/\kvs.map (·.1)=ks/\Reps K F l (kvs.map (·.2))
 | .dcT ks l,v=>∃ a kvs,v=.ref a/\Rd H a (.dT kvs)/\kvs.map (·.1)=ks/\Reps K F l (kvs.map (·.2))
 | .non,v=>v=.non
 | .bl b,v=>v=.bl b
 | .int i,v=>v=.int i
 | .str x,v=>v=.str x
 | .tup l,v=>∃ a vs,v=.ref a/\SqT K F a vs/\Reps K F l vs
variable {S':Addr->Prop}
section
variable {K:xA9} {F H F' H':Hp} {t:T} {v:V} {d:Dt} {S:Addr->Prop}
theorem Own.step (O:Same F F') (Y:∀ b o,S b->H b=some o->H' b=some o) (h:Own K F H t v S):Own K F' H' t v S:=by
 induction t with
 | leaf d=>exact Rep.same O h
 | lst l =>obtain ⟨a,vs,e,q,h1,h2⟩:=h;exact ⟨a,vs,e,q,Y _ _ q h1,h2.same O⟩
 | dct l =>obtain ⟨a,vs,e,q,h1,h2,h3⟩:=h;exact ⟨a,vs,e,q,Y _ _ q h1,h2,h3.same O⟩
 | dcT l =>obtain ⟨a,vs,e,q,h1,h2,h3⟩:=h;exact ⟨a,vs,e,q,Y _ _ q h1,h2,h3.same O⟩
 | fn a F0=>exact ⟨h.1,h.2.trans O⟩
theorem Own.grow (O:∀ b,S b->S' b) (h:Own K F H t v S):Own K F H t v S':=by
 induction t with
 | leaf d=>exact h
 | lst l =>obtain ⟨a,vs,e,q,h1⟩:=h;exact ⟨a,vs,e,O _ q,h1⟩
 | dct l =>obtain ⟨a,vs,e,q,h1⟩:=h;exact ⟨a,vs,e,O _ q,h1⟩
 | dcT l =>obtain ⟨a,vs,e,q,h1⟩:=h;exact ⟨a,vs,e,O _ q,h1⟩
 | fn a F0=>exact h
theorem RepB.of (q:Same F H) (h:Rep K F d v):RepB K F H d v:=by
 cases d with
 | lst l =>simp only [Rep] at h;obtain ⟨a,vs,e,h1,h2⟩:=h;exact ⟨a,vs,e,q.seq h1,h2⟩
 | dct ks l =>simp only [Rep] at h;obtain ⟨a,vs,e,h1,h2⟩:=h;exact ⟨a,vs,e,q.rd h1,h2⟩
 | dcT ks l =>simp only [Rep] at h;obtain ⟨a,vs,e,h1,h2⟩:=h;exact ⟨a,vs,e,q.rd h1,h2⟩
 | tup l =>simp only [Rep] at h;exact h
 | _ =>simp only [Rep] at h;exact h
theorem RepB.rep (q:Same F H) (h:RepB K F H d v):Rep K H d v:=by
 cases d with
 | lst l =>obtain ⟨a,vs,e,h1,h2⟩:=h;simp only [Rep];exact ⟨a,vs,e,h1,h2.same q⟩
 | dct ks l =>obtain ⟨a,vs,e,h1,h2,h3⟩:=h;simp only [Rep];exact ⟨a,vs,e,h1,h2,h3.same q⟩
 | dcT ks l =>obtain ⟨a,vs,e,h1,h2,h3⟩:=h;simp only [Rep];exact ⟨a,vs,e,h1,h2,h3.same q⟩
 | tup l =>obtain ⟨a,vs,e,h1,h2⟩:=h;simp only [Rep];exact ⟨a,vs,e,q.tup h1,h2.same q⟩
 | _ =>simp only [Rep];exact h
theorem RepB.step (q:Same F F') (O:Same H H') (h:RepB K F H d v):RepB K F' H' d v:=by
 cases d with
 | lst l =>obtain ⟨a,vs,e,h1,h2⟩:=h;exact ⟨a,vs,e,O.seq h1,h2.same q⟩
 | dct ks l =>obtain ⟨a,vs,e,h1,h2,h3⟩:=h;exact ⟨a,vs,e,O.rd h1,h2,h3.same q⟩
 | dcT ks l =>obtain ⟨a,vs,e,h1,h2,h3⟩:=h;exact ⟨a,vs,e,O.rd h1,h2,h3.same q⟩
 | tup l =>obtain ⟨a,vs,e,h1,h2⟩:=h;exact ⟨a,vs,e,q.tup h1,h2.same q⟩
 | _=>exact h
theorem Own.repB (O:Same F H) (h:Own K F H t v S) (q:t.d=some d):RepB K F H d v:=by
 cases t with
 | leaf d=>cases q;exact RepB.of O h
 | lst l =>cases q;obtain ⟨a,vs,e,_,h1,h2⟩:=h;exact ⟨a,vs,e,SqL.of h1,h2⟩
 | dct l =>cases q;obtain ⟨a,vs,e,_,h1,h2⟩:=h;exact ⟨a,vs,e,.inl h1,h2⟩
 | dcT l =>cases q;obtain ⟨a,vs,e,_,h1,h2⟩:=h;exact ⟨a,vs,e,.inl h1,h2⟩
 | fn a F0=>cases q
open Classical in
def oy (F H:Hp) (S:Addr->Prop):Hp:=fun b=>if S b then H b else F b
theorem jc {b:Addr} (h:S b):oy F H S b=H b:=if_pos h
theorem fW {b:Addr} (h:¬ S b):oy F H S b=F b:=if_neg h
theorem lP (q:∀ b,S b->F b=none):Same F (oy F H S):=fun b o e=>by
 have:¬ S b:=fun z=>by rw [q b z] at e;cases e
 rw [fW this];exact e
theorem pU (q:Same F H):Same (oy F H S) H:=fun b o e=>by
 by_cases h:S b
 . rw [jc h] at e;exact e
 . rw [fW h] at e;exact q _ _ e
theorem Own.freeze (Z:∀ b,S b->F b=none) (h:Own K F H t v S) (O:t.d=some d):Rep K (oy F H S) d v:=by
 have Y:=lP (H:=H) Z;cases t with
 | leaf d=>cases O;exact Rep.same Y h
 | lst l =>cases O;obtain ⟨a,vs,e,q,h1,h2⟩:=h;simp only [Rep];exact ⟨a,vs,e,SqL.of (by rw [jc q];exact h1),h2.same Y⟩
 | dct l =>cases O;obtain ⟨a,vs,e,q,h1,h2,h3⟩:=h;simp only [Rep];exact ⟨a,vs,e,.inl (by rw [jc q];exact h1),h2,h3.same Y⟩
 | dcT l =>cases O;obtain ⟨a,vs,e,q,h1,h2,h3⟩:=h;simp only [Rep];exact ⟨a,vs,e,.inl (by rw [jc q];exact h1),h2,h3.same Y⟩
 | fn a F0=>cases O
end
abbrev Ix:=Nat
abbrev De:=List (Option T)
structure Sep (K:xA9) (F H:Hp) (B:Addr->Prop) (L:Ix->Option (T×V)) (S:Ix->Addr->Prop):Prop where
 own:∀ i t v,L i=some (t,v)->Own K F H t v (S i)
 out:∀ i b,S i b->F b=none/\(∃ o,H b=some o/\NT o)/\B b
 dis:∀ i j b,S i b->S j b->i=j
def mJ (δ:De) (σ:St) (i:Nat):Option (T×V):=match δ[i]?,σ[i]? with
 | some (some t),some (some v)=>some (t,v)
 | _,_=>none
structure Fm where
 K:xA9
 F0:Hp
 H0:Hp
 S0:Addr->Prop
def Fm.B (Φ:Fm) (b:Addr):Prop:=Φ.H0 b=none∨Φ.S0 b
structure En (Φ:Fm) (δ:De) (σ:St) (F H:Hp):Prop where
 fh:Same F H
 prot:∀ b o,Φ.H0 b=some o->¬ Φ.S0 b->H b=some o
 old:Same Φ.F0 F
 nw:∀ b o,F b=some o->Φ.F0 b=some o∨Φ.B b∨∃ vs,Φ.H0 b=some (.tup vs)
 len:δ.length=σ.length
 has:∀ (i:Nat) (t:T),δ[i]?=some (some t)->∃ v,σ[i]?=some (some v)
 sep:∃ S,Sep Φ.K F H Φ.B (mJ δ σ) S
variable {i j:Nat} {v:V} {p a:Addr} {K:xA9}
section
variable {Φ:Fm} {δ:De} {σ:St} {F H F' H':Hp}
theorem cw {t:T} (h1:δ[i]?=some (some t)) (h2:σ[i]?=some (some v)):mJ δ σ i=some (t,v):=by unfold mJ;rw [h1,h2]
theorem dY {t:T} (h:mJ δ σ i=some (t,v)):δ[i]?=some (some t)/\σ[i]?=some (some v):=by
 unfold mJ at h;split at h
 . rename_i q O;cases h;exact ⟨q,O⟩
 . cases h
theorem En.fresh (e:En Φ δ σ F H) (hp:H p=none):Φ.B p:=by
 by_cases h:Φ.S0 p
 . exact .inr h
 . left;cases q:Φ.H0 p with
   | none=>rfl
   | some o=>rw [e.prot p o q h] at hp;cases hp
theorem Sep.step {B:Addr->Prop} {L:Ix->Option (T×V)} {S:Ix->Addr->Prop} (s:Sep K F H B L S) (st:Step F H F' H'):Sep K F' H' B L S where
 own:=fun i t v h=>(s.own i t v h).step st.ff fun b o _ e=>st.hh b o e
 out:=fun i b h=>by obtain ⟨h1,⟨o,h2,q⟩,h3⟩:=s.out i b h;exact ⟨st.keepN h1 h2 q,⟨o,st.hh _ _ h2,q⟩,h3⟩
 dis:=s.dis
theorem En.step (e:En Φ δ σ F H) (st:Step F H F' H'):En Φ δ σ F' H' where
 fh:=st.fh
 prot:=fun b o h1 h2=>st.hh _ _ (e.prot b o h1 h2)
 old:=e.old.trans st.ff
 nw:=fun b o h=>by
  rcases st.nw b o h with z | z | ⟨vs,z⟩
  . exact e.nw b o z
  . exact .inr (.inl (e.fresh z))
  . cases q:Φ.H0 b with
    | none=>exact .inr (.inl (.inl q))
    | some u =>
     by_cases O:Φ.S0 b
     . exact .inr (.inl (.inr O))
     . rw [e.prot b u q O] at z;cases z;exact .inr (.inr ⟨vs,rfl⟩)
 len:=e.len
 has:=e.has
 sep:=let ⟨S,s⟩:=e.sep;⟨S,s.step st⟩
theorem En.slot (e:En Φ δ σ F H) {t:T} {d:Dt} (h:δ[i]?=some (some t)) (O:t.d=some d):∃ v,σ[i]?=some (some v)/\RepB Φ.K F H d v:=by obtain ⟨v,q⟩:=e.has i t h;obtain ⟨S,s⟩:=e.sep;exact ⟨v,q,(s.own i t v (cw h q)).repB e.fh O⟩
theorem En.leaf (e:En Φ δ σ F H) {d:Dt} (h:δ[i]?=some (some (.leaf d))):∃ v,σ[i]?=some (some v)/\Rep Φ.K F d v:=by obtain ⟨v,q⟩:=e.has i _ h;obtain ⟨S,s⟩:=e.sep;exact ⟨v,q,s.own i _ v (cw h q)⟩
theorem dO {α:Type} {l:List (Option α)} {x y:Option α} (h:(l.set i x)[j]?=some y):(i=j/\y=x)∨(i≠j/\l[j]?=some y):=by
 by_cases q:i=j
 . subst q;left;rw [List.getElem?_set] at h;simp only [if_true] at h;split at h
   . cases h;exact ⟨rfl,rfl⟩
   . cases h
 . right;rw [gN q] at h;exact ⟨q,h⟩
theorem En.put (e:En Φ δ σ F H) {t:T} (st:Step F H F' H') (ho:Own Φ.K F' H' t v S') (hs:∀ b,S' b->F' b=none/\H b=none/\∃ o,H' b=some o/\NT o) (i:Nat):En Φ (δ.set i (some t)) (σ.set i (some v)) F' H':=by
 have e':=e.step st;obtain ⟨S,s⟩:=e.sep;have s':=s.step st;refine ⟨e'.fh,e'.prot,e'.old,e'.nw,by simp [e.len],fun j u h=>?_,fun j b=>if j=i then S' b else S j b,?_,?_,?_⟩
 . rcases dO h with ⟨rfl,z⟩ | ⟨Z,z⟩
   . have hi:i<σ.length:=by rw [<- e.len];have:=(gX h).1;simpa using this
     exact ⟨v,by simp [hi]⟩
   . obtain ⟨w,hw⟩:=e.has j u z;exact ⟨w,by rw [gN Z];exact hw⟩
 . intro j u w h;obtain ⟨h1,h2⟩:=dY h;rcases dO h1 with ⟨rfl,z⟩ | ⟨Z,z⟩
   . rcases dO h2 with ⟨_,Y⟩ | ⟨hn2,_⟩
     . cases z;cases Y;show Own _ _ _ _ _ (fun b=>if i=i then S' b else S i b);simp only [if_true];exact ho
     . exact absurd rfl hn2
   . rcases dO h2 with ⟨Y,_⟩ | ⟨_,Y⟩
     . exact absurd Y Z
     . have:¬ j=i:=fun q=>Z q.symm
       show Own _ _ _ _ _ (fun b=>if j=i then S' b else S j b);simp only [if_neg this];exact s'.own j u w (cw z Y)
 . intro j b h;split at h
   . obtain ⟨h1,h2,h3⟩:=hs b h;exact ⟨h1,h3,e.fresh h2⟩
   . exact s'.out _ b h
 . have O:∀ j b,S j b->¬ S' b:=fun j b h z=>by obtain ⟨_,⟨o,h2,_⟩,_⟩:=s.out j b h;rw [(hs b z).2.1] at h2;cases h2
   intro j k b hj hk;split at hj<;>split at hk
   . rename_i q1 q2;rw [q1,q2]
   . exact absurd hj (O _ b hk)
   . exact absurd hk (O _ b hj)
   . exact s.dis _ _ b hj hk
theorem re {t:T} {S:Addr->Prop} (O:t.own=true) (h:Own K F H t (.ref a) S):S a:=by
 cases t with
 | leaf d=>cases O
 | lst l=>obtain ⟨b,_,e,q,_⟩:=h;cases e;exact q
 | dct l=>obtain ⟨b,_,e,q,_⟩:=h;cases e;exact q
 | dcT l=>obtain ⟨b,_,e,q,_⟩:=h;cases e;exact q
 | fn b F0=>cases O
theorem En.poke (e:En Φ δ σ F H) {t t':T} {o:HO} (h:δ[i]?=some (some t)) (Z:σ[i]?=some (some (.ref a))) (ht:t.own=true) (ho:∀ S:Addr->Prop,S a->Own Φ.K F (upd H a o) t' (.ref a) S) (nt:NT o:=by intro _ z;cases z) :
  En Φ (δ.set i (some t')) σ F (upd H a o):=by
 obtain ⟨S,s⟩:=e.sep;have Y:S i a:=re ht (s.own i t _ (cw h Z));obtain ⟨fa,⟨oa,ha,_⟩,ba⟩:=s.out _ a Y;have hi:i<δ.length:=(gX h).1;refine ⟨fun b u z=>?_,fun b u h1 h2=>?_,e.old,e.nw,by simp [e.len],fun j u z=>?_,S,fun j u w z=>?_,fun j b z=>?_,s.dis⟩
 . have:b≠a:=fun q=>by rw [q,fa] at z;cases z
   rw [aH this];exact e.fh _ _ z
 . have:b≠a:=fun q=>by
    subst q;rcases ba with z | z
    . rw [z] at h1;cases h1
    . exact h2 z
   rw [aH this];exact e.prot b u h1 h2
 . rcases dO z with ⟨rfl,_⟩ | ⟨hn,z⟩
   . exact ⟨_,Z⟩
   . exact e.has j u z
 . obtain ⟨h1,h2⟩:=dY z;rcases dO h1 with ⟨rfl,O⟩ | ⟨hn,O⟩
   . cases O;rw [Z] at h2;cases h2;exact ho _ Y
   . refine (s.own j u w (cw O h2)).step (Same.refl _) fun b q hb hq=>?_
     have:b≠a:=fun y=>by subst y;exact hn (s.dis _ _ _ hb Y).symm
     rw [aH this];exact hq
 . obtain ⟨h1,⟨q,h2,n2⟩,h3⟩:=s.out j b z;refine ⟨h1,?_,h3⟩;by_cases y:b=a
   . subst y;exact ⟨o,aV,nt⟩
   . exact ⟨q,by rw [aH y];exact h2,n2⟩
theorem En.freeze (e:En Φ δ σ F H) {t:T} {d:Dt} (h:δ[i]?=some (some t)) (hd:t.d=some d):∃ F',En Φ (δ.set i (some (.leaf d))) σ F' H:=by
 obtain ⟨S,s⟩:=e.sep;obtain ⟨v,Y⟩:=e.has i t h;have so:=s.own i t v (cw h Y);have Z:∀ b,S i b->F b=none:=fun b z=>(s.out _ b z).1
 have ff:=lP (H:=H) Z;refine ⟨oy F H (S i),pU e.fh,e.prot,e.old.trans ff,fun b o z=>?_,by simp [e.len],fun j u z=>?_,fun j b=>S j b/\j≠i,fun j u w z=>?_,fun j b z=>?_,fun j k b h1 h2=>s.dis _ _ b h1.1 h2.1⟩
 . by_cases hb:S i b
   . exact .inr (.inl (s.out _ b hb).2.2)
   . rw [fW hb] at z;exact e.nw b o z
 . rcases dO z with ⟨rfl,_⟩ | ⟨hn,z⟩
   . exact ⟨_,Y⟩
   . exact e.has j u z
 . obtain ⟨h1,h2⟩:=dY z;rcases dO h1 with ⟨rfl,O⟩ | ⟨hn,O⟩
   . cases O;rw [Y] at h2;cases h2;exact so.freeze Z hd
   . refine ((s.own j u w (cw O h2)).step ff fun _ _ _ q=>q).grow fun b q=>⟨q,fun y=>hn y.symm⟩
 . obtain ⟨h1,h2,h3⟩:=s.out j b z.1;refine ⟨?_,h2,h3⟩;rw [fW fun y=>z.2 (s.dis _ _ b z.1 y)];exact h1
end
def KO (K:xA9) (F H:Hp) (t:T) (Q:VK):Prop:=∀ v H' F' S,Step F H F' H'->Own K F' H' t v S->(∀ b,S b->F' b=none/\H b=none/\∃ o,H' b=some o/\NT o)->Q v H'
def KL (K:xA9) (F H:Hp) (d:Dt) (Q:VK):Prop:=∀ v H' F',Step F H F' H'->Rep K F' d v->Q v H'
def KB (K:xA9) (F H:Hp) (d:Dt) (Q:VK):Prop:=∀ v H' F',Step F H F' H'->RepB K F' H' d v->Q v H'
section
variable {K:xA9} {F H F1 H1:Hp} {t:T} {d:Dt} {Q:VK}
theorem KO.step (k:KO K F H t Q) (st:Step F H F1 H1):KO K F1 H1 t Q:=fun v H' F' S s o q=>k v H' F' S (st.trans s) o fun b z=>⟨(q b z).1,st.hh.free (q b z).2.1,(q b z).2.2⟩
theorem KO.leaf (k:KO K F H (.leaf d) Q):KL K F H d Q:=fun v H' F' st r=>k v H' F' (fun _=>False) st r fun _ z=>z.elim
theorem KL.here (k:KL K F H d Q) (q:Same F H) (r:Rep K F d v):Q v H:=k v H F (Step.refl q) r
theorem KB.to (k:KB K F H d Q):KL K F H d Q:=fun v H' F' st r=>k v H' F' st (RepB.of st.fh r)
theorem KL.to (Y:t.d=some d) (k:KL K F H d Q):KO K F H t Q:=fun v H' F' S st o q=>by
 refine k v H' (oy F' H' S) ⟨st.hh,st.ff.trans (lP fun b z=>(q b z).1),pU st.fh,fun b u z=>?_⟩ (o.freeze (fun b z=>(q b z).1) Y);by_cases O:S b
 . exact .inr (.inl (q b O).2.1)
 . rw [fW O] at z;exact st.nw b u z
theorem KB.toO (q:t.d=some d) (k:KB K F H d Q):KO K F H t Q:=fun v H' F' S st o O=>k v H' F' st (o.repB st.fh q)
end
def tO (K:xA9) (f:De->Option T):TE:=fun σ H Q=>∃ Φ δ F t,Fm.K Φ=K/\En Φ δ σ F H/\f δ=some t/\KO K F H t Q
def tL (K:xA9) (f:De->Option Dt):TE:=fun σ H Q=>∃ Φ δ F d,Fm.K Φ=K/\En Φ δ σ F H/\f δ=some d/\KL K F H d Q
def tBd (K:xA9) (f:De->Option Dt):TE:=fun σ H Q=>∃ Φ δ F d,Fm.K Φ=K/\En Φ δ σ F H/\f δ=some d/\KB K F H d Q
def tTr (K:xA9) (f:De->Option Bool):TT:=fun σ H Q=>∃ Φ δ F b,Fm.K Φ=K/\En Φ δ σ F H/\f δ=some b/\∀ H' F',Step F H F' H'->Q b H'
def DO (X:Cx) (e:Expr) (f:De->Option T):Prop:=PE X e (tO X.K f)
def DL (X:Cx) (e:Expr) (f:De->Option Dt):Prop:=PE X e (tL X.K f)
def DB (X:Cx) (e:Expr) (f:De->Option Dt):Prop:=PE X e (tBd X.K f)
def DT (X:Cx) (e:Expr) (f:De->Option Bool):Prop:=PT X e (tTr X.K f)
def DW (X:Cx) (e:Expr) (f:De->Option Bool):Prop:=PW X e (tTr X.K f)
variable {X:Cx} {e:Expr} {t':TE}
theorem PE.mono {t:TE} (h:PE X e t) (m:∀ σ H Q,t' σ H Q->t σ H Q):PE X e t':=fun pins s σ H Q I q=>h pins s σ H Q I (m _ _ _ q)
theorem PT.mono {t t':TT} (h:PT X e t) (m:∀ σ H Q,t' σ H Q->t σ H Q):PT X e t':=fun pins s σ H Q I q=>h pins s σ H Q I (m _ _ _ q)
theorem PW.mono {t t':TT} (h:PW X e t) (m:∀ σ H Q,t' σ H Q->t σ H Q):PW X e t':=fun O pins s σ H Q I q=>h O pins s σ H Q I (m _ _ _ q)
theorem PA.mono {e:List Expr} {t t':TA} (h:PA X e t) (m:∀ σ H Q,t' σ H Q->t σ H Q):PA X e t':=fun pos pins s σ H Q I q=>h pos pins s σ H Q I (m _ _ _ q)
variable {tg:Expr}
theorem PI.mono {t t':TI} (h:PI X tg e t) (m:∀ σ H Q,t' σ H Q->t σ H Q):PI X tg e t':=fun pins s σ H Q I q=>h pins s σ H Q I (m _ _ _ q)
theorem PG.mono {t t':TG} (h:PG X e t) (m:∀ v σ H Q,t' v σ H Q->t v σ H Q):PG X e t':=fun pins s σ H v u Q I r q=>h pins s σ H v u Q I r (m _ _ _ _ q)
theorem PS.mono {e:Stmt} {t t':TS} (h:PS X e t) (m:∀ D σ H,t' D σ H->t D σ H):PS X e t':=fun pins s σ H Q I q=>h pins s σ H Q I (m _ _ _ q)
theorem PSs.mono {e:List Stmt} {t t':TS} (h:PSs X e t) (m:∀ D σ H,t' D σ H->t D σ H):PSs X e t':=fun pins s σ H Q I q=>h pins s σ H Q I (m _ _ _ q)
theorem PE.or {t:TE} (h:PE X e t) (h':PE X e t'):PE X e (fun σ H Q=>t σ H Q∨t' σ H Q):=fun pins s σ H Q I q=>q.elim (h pins s σ H Q I) (h' pins s σ H Q I)
theorem PI.or {t t':TI} (h:PI X tg e t) (h':PI X tg e t'):PI X tg e (fun σ H Q=>t σ H Q∨t' σ H Q):=fun pins s σ H Q I q=>q.elim (h pins s σ H Q I) (h' pins s σ H Q I)
variable {x:Str} {r:R2} {σ:St} {H:Hp} {Q:VK} {vs:List V} {n:Nat} {ds:List Dt} {ps:List Str}
section
variable {X:Cx} {e a b c:Expr} {f:De->Option T} {g fa fb fc:De->Option Dt} {pos:Pos}
def toD (f:De->Option T):De->Option Dt:=fun δ=>(f δ).bind T.d
def toT (f:De->Option Dt):De->Option T:=fun δ=>(f δ).map T.leaf
theorem DO.toL (h:DO X e f):DL X e (toD f):=PE.mono h fun σ H Q ⟨Φ,δ,F,d,q,Y,hf,k⟩=>by obtain ⟨t,O,Z⟩:=bS hf;exact ⟨Φ,δ,F,t,q,Y,O,KL.to Z k⟩
theorem DO.toB (h:DO X e f):DB X e (toD f):=PE.mono h fun σ H Q ⟨Φ,δ,F,d,q,Y,hf,k⟩=>by obtain ⟨t,O,Z⟩:=bS hf;exact ⟨Φ,δ,F,t,q,Y,O,KB.toO Z k⟩
theorem DL.toB (h:DL X e g):DB X e g:=PE.mono h fun σ H Q ⟨Φ,δ,F,d,O,q,Y,k⟩=>⟨Φ,δ,F,d,O,q,Y,k.to⟩
theorem DL.toO (h:DL X e g):DO X e (toT g):=PE.mono h fun σ H Q ⟨Φ,δ,F,t,Y,Z,q,k⟩=>by
 unfold toT at q;cases O:g δ with
 | none=>rw [O] at q;cases q
 | some d =>rw [O] at q;cases q;exact ⟨Φ,δ,F,d,Y,Z,O,k.leaf⟩
def vL (i:Nat):De->Option Dt:=fun δ=>match δ[i]? with
 | some (some (.leaf d))=>some d
 | _=>none
def vB (i:Nat):De->Option Dt:=fun δ=>match δ[i]? with
 | some (some t)=>t.d
 | _=>none
theorem al (h:PE X e (gY i)):DL X e (vL i):=PE.mono h fun σ H Q ⟨Φ,δ,F,d,Z,Y,O,k⟩=>by
 unfold vL at O;split at O
 . rename_i q;cases O;obtain ⟨v,h1,h2⟩:=Y.leaf q;exact ⟨v,h1,k.here Y.fh (Z▸h2)⟩
 . cases O
theorem ae (h:PE X e (gY i)):DB X e (vB i):=PE.mono h fun σ H Q ⟨Φ,δ,F,d,Z,Y,O,k⟩=>by
 unfold vB at O;split at O
 . rename_i q;obtain ⟨v,h1,h2⟩:=Y.slot q O;exact ⟨v,h1,k v H F (Step.refl Y.fh) (Z▸h2)⟩
 . cases O
def kD (d:Dt):De->Option Dt:=fun _=>some d
theorem tq {d:Dt} (h:PE X e (tC v)) (r:∀ F,Rep X.K F d v):DL X e (kD d):=PE.mono h fun σ H Q ⟨Φ,δ,F,d',Y,q,O,k⟩=>by cases O;exact k.here q.fh (r F)
theorem af {i:Int} {j}:DL X (.Constant (.int i) j pos) (kD (.int i)):=tq zd fun F=>by simp only [Rep]
theorem d8 {i:Bool} {j}:DL X (.Constant (.bool i) j pos) (kD (.bl i)):=tq BM fun F=>by simp only [Rep]
theorem dJ {j}:DL X (.Constant .none j pos) (kD .non):=tq ze fun F=>by simp only [Rep]
theorem aZ {j}:DL X (.Constant (.str x) j pos) (kD (.str x)):=tq zf fun F=>by simp only [Rep]
def R2D (K:xA9) (r:R2) (g:Dt->Dt->Option T):Prop:=∀ F H x y vx vy (Q:VK) t,Same F H->RepB K F H x vx->RepB K F H y vy->g x y=some t->KO K F H t Q->r vx vy H Q
def d2 (g:Dt->Dt->Option T) (fa fb:De->Option Dt):De->Option T:=fun δ=>(fa δ).bind fun x=>(fb δ).bind fun y=>g x y
theorem kF {g:Dt->Dt->Option T} (hr:R2D K r g) (h:tO K (d2 g fa fb) σ H Q):tOp r (tBd K fa) (tBd K fb) σ H Q:=by obtain ⟨Φ,δ,F,t,Z,en,O,k⟩:=h;unfold d2 at O;obtain ⟨x,hx,O⟩:=bS O;obtain ⟨y,hy,O⟩:=bS O;exact ⟨Φ,δ,F,x,Z,en,hx,fun v H1 F1 st rv=>⟨Φ,δ,F1,y,Z,en.step st,hy,fun v2 H2 F2 q Y=>hr F2 H2 x y v v2 Q t q.fh (rv.step q.ff q.hh) Y O (k.step (st.trans q))⟩⟩
theorem au {q:Operator} {g:Dt->Dt->Option T} (Y:OpR X (qm0 q) r) (Z:R2D X.K r g) (ha:DB X a fa) (O:DB X b fb):DO X (.BinOp a q b pos) (d2 g fa fb):=PE.mono (BV Y ha O) fun σ H Q h=>kF Z h
theorem eU {q:CmpOp} {g:Dt->Dt->Option T} (Y:OpR X (qg5 q) r) (Z:R2D X.K r g) (ha:DB X a fa) (O:DB X b fb) (hm:qh9 q b=false):DO X (.Compare a [q] [b] pos) (d2 g fa fb):=PE.mono (pI Y ha O hm) fun σ H Q h=>kF Z h
def asB:T->Option Bool
 | .leaf (.bl b)=>some b
 | _=>none
def tB2 (g:Dt->Dt->Option T) (fa fb:De->Option Dt):De->Option Bool:=fun δ=>(d2 g fa fb δ).bind asB
theorem pV {F:Hp} {t:T} {S:Addr->Prop} {b:Bool} (h:asB t=some b) (o:Own K F H t v S):v=.bl b:=by
 unfold asB at h;split at h
 . cases h;have o:Rep K F (.bl b) v:=o;simp only [Rep] at o;exact o
 . cases h
theorem aP {O:CmpOp} {g:Dt->Dt->Option T} (ho:OpR X (qg5 O) r) (hr:R2D X.K r g) (ha:DB X a fa) (hb:DB X b fb) (hm:qh9 O b=false):DT X (.Compare a [O] [b] pos) (tB2 g fa fb):=PT.mono (lB ho ha hb hm) fun σ H Q ⟨Φ,δ,F,t,Y,en,q,k⟩=>by unfold tB2 at q;obtain ⟨z,Z,q⟩:=bS q;refine kF hr ⟨Φ,δ,F,z,Y,en,Z,fun v H' F' S st o hs=>?_⟩;exact ⟨t,pV q o,k H' F' st⟩
def tu:Dt->Option Bool
 | .non=>some false
 | .bl b=>some b
 | .int i=>some (i != 0)
 | .str x=>if x.length<=qb2 then some ((x.length:Int) != 0) else none
 | .tup l=>some (!l.isEmpty)
 | .lst l=>some (!l.isEmpty)
 | _=>none
def cN (f:De->Option Dt):De->Option Bool:=fun δ=>(f δ).bind tu
theorem hW {F:Hp} {l:List Dt} (h:Reps K F l vs):l.isEmpty=vs.isEmpty:=by
 cases l with
 | nil=>unfold Reps at h;rw [h];rfl
 | cons d l=>unfold Reps at h;obtain ⟨v,q,rfl,_⟩:=h;rfl
theorem v9 {F:Hp} {d:Dt} {b:Bool} (O:Same F H) (h:RepB K F H d v) (q:tu d=some b):zH K v H b:=by
 cases d with
 | non=>cases h;cases q;rfl
 | bl x=>cases h;cases q;rfl
 | int x=>cases h;cases q;rfl
 | str x =>
  cases h;simp only [tu] at q;split at q
  . cases q;exact ⟨by assumption,rfl⟩
  . cases q
 | tup l =>obtain ⟨a,vs,rfl,h1,h2⟩:=h;cases q;exact .inr (.inl ⟨vs,O.tup h1,by rw [hW h2]⟩)
 | lst l =>obtain ⟨a,vs,rfl,h1,h2⟩:=h;cases q;exact .inl ⟨vs,h1,by rw [hW h2]⟩
 | dct ks l=>cases q
 | dcT ks l=>cases q
theorem bQ (ha:DB X a fa) (Y:∀ q,isTrue a X.env q=(do let v <- q;standAt a.pos;zc1 [v] (truthy v))):DT X a (cN fa):=PT.mono (sB ha Y) fun σ H Q ⟨Φ,δ,F,b,hK,en,O,k⟩=>by unfold cN at O;obtain ⟨d,Z,O⟩:=bS O;exact ⟨Φ,δ,F,d,hK,en,Z,fun v H' F' st r=>⟨b,v9 st.fh r O,k H' F' st⟩⟩
def ei (f:De->Option Bool):De->Option Bool:=fun δ=>(f δ).map (!·)
def oz (f g:De->Option Bool):De->Option Bool:=fun δ=>(f δ).bind fun b=>if b then g δ else some false
def fOr (f g:De->Option Bool):De->Option Bool:=fun δ=>(f δ).bind fun b=>if b then some true else g δ
variable {ta tb tc:De->Option Bool} {rest:List Expr}
theorem fX (h:DT X a ta):DT X (.UnaryOp .Not a pos) (ei ta):=PT.mono (zj h) fun σ H Q ⟨Φ,δ,F,b,Y,Z,O,k⟩=>by
 unfold ei at O;cases q:ta δ with
 | none=>rw [q] at O;cases O
 | some c =>rw [q] at O;cases O;exact ⟨Φ,δ,F,c,Y,Z,q,fun H' F' st=>k H' F' st⟩
theorem lQ (h:DT X a ta):DW X (.BoolOp .And [a] pos) ta:=vF h
theorem iF (h:DT X a ta):DW X (.BoolOp .Or [a] pos) ta:=zh h
theorem oA (h:DT X a ta) (h':DW X (.BoolOp .And (b::rest) pos) tb):DW X (.BoolOp .And (a::b::rest) pos) (oz ta tb):=PW.mono (zi h h') fun σ H Q ⟨Φ,δ,F,t,Y,Z,O,k⟩=>by
 unfold oz at O;obtain ⟨c,hc,O⟩:=bS O;refine ⟨Φ,δ,F,c,Y,Z,hc,fun H' F' st=>?_⟩;split at O
 . rename_i q;rw [if_pos q];exact ⟨Φ,δ,F',t,Y,Z.step st,O,fun H2 F2 s2=>k H2 F2 (st.trans s2)⟩
 . rename_i q;rw [if_neg q];cases O;exact k H' F' st
theorem fY (h:DT X a ta) (h':DW X (.BoolOp .Or (b::rest) pos) tb):DW X (.BoolOp .Or (a::b::rest) pos) (fOr ta tb):=PW.mono (BN h h') fun σ H Q ⟨Φ,δ,F,t,Y,Z,O,k⟩=>by
 unfold fOr at O;obtain ⟨c,hc,O⟩:=bS O;refine ⟨Φ,δ,F,c,Y,Z,hc,fun H' F' st=>?_⟩;split at O
 . rename_i q;rw [if_pos q];cases O;exact k H' F' st
 . rename_i q;rw [if_neg q];exact ⟨Φ,δ,F',t,Y,Z.step st,O,fun H2 F2 s2=>k H2 F2 (st.trans s2)⟩
theorem DW.t (h:DW X a ta):DT X a ta:=h.pt
def tw:Dt->Option Bool
 | .bl b=>some b
 | _=>none
def z0 (f:De->Option Dt):De->Option T:=fun δ=>(f δ).bind fun x=>(tw x).map fun b=>.leaf (.bl (!b))
def mK (f:De->Option Dt) (g:De->Option T):De->Option T:=fun δ=>(f δ).bind fun x=>(tw x).bind fun b=>if b then g δ else some (.leaf (.bl false))
def vIf (c:De->Option Bool) (f g:De->Option T):De->Option T:=fun δ=>(c δ).bind fun b=>if b then f δ else g δ
theorem pW {F:Hp} {x:Dt} {b:Bool} (h:tw x=some b) (r:RepB K F H x v):v=.bl b:=by
 unfold tw at h;split at h
 . cases h;exact r
 . cases h
theorem oB {F:Hp} {b:Bool}:Rep K F (.bl b) (.bl b):=by simp only [Rep]
theorem fw {F:Hp} {b:Int}:Rep K F (.int b) (.int b):=by simp only [Rep]
theorem jd {F:Hp} {b:Str}:Rep K F (.str b) (.str b):=by simp only [Rep]
theorem hX {F:Hp}:Rep K F .non .non:=by simp only [Rep]
variable {oa ob:De->Option T}
theorem Aa (h:DB X a fa):DO X (.UnaryOp .Not a pos) (z0 fa):=PE.mono (zo h) fun σ H Q ⟨Φ,δ,F,t,Y,en,O,k⟩=>by
 unfold z0 at O;obtain ⟨x,Z,O⟩:=bS O;cases q:tw x with
 | none=>rw [q] at O;cases O
 | some b =>rw [q] at O;cases O;exact ⟨Φ,δ,F,x,Y,en,Z,fun v H' F' st r=>⟨b,pW q r,(k.step st).leaf.here st.fh oB⟩⟩
theorem tz {op} (h:DO X a oa):DO X (.BoolOp op [a] pos) oa:=zm h
theorem tD (h:DB X a fa) (h':DO X (.BoolOp .And (b::rest) pos) ob):DO X (.BoolOp .And (a::b::rest) pos) (mK fa ob):=PE.mono (zn h h') fun σ H Q ⟨Φ,δ,F,t,Y,Z,O,k⟩=>by
 unfold mK at O;obtain ⟨x,hx,O⟩:=bS O;obtain ⟨b,hb,O⟩:=bS O;refine ⟨Φ,δ,F,x,Y,Z,hx,fun v H' F' st r=>⟨b,pW hb r,?_⟩⟩;split at O
 . rename_i q;rw [if_pos q];exact ⟨Φ,δ,F',t,Y,Z.step st,O,k.step st⟩
 . rename_i q;rw [if_neg q];cases O;exact (k.step st).leaf.here st.fh oB
theorem xZ (hc:DT X c tc) (h:DO X a oa) (h':DO X b ob):DO X (.IfExp c a b pos) (vIf tc oa ob):=PE.mono (sq hc h h') fun σ H Q ⟨Φ,δ,F,t,Y,Z,O,k⟩=>by
 unfold vIf at O;obtain ⟨x,hx,O⟩:=bS O;refine ⟨Φ,δ,F,x,Y,Z,hx,fun H' F' st=>?_⟩;split at O
 . rename_i q;rw [if_pos q];exact ⟨Φ,δ,F',t,Y,Z.step st,O,k.step st⟩
 . rename_i q;rw [if_neg q];exact ⟨Φ,δ,F',t,Y,Z.step st,O,k.step st⟩
def mL (K:xA9) (F H:Hp):List Dt->List V->Prop
 | [],vs=>vs=[]
 | d::l,vs=>∃ v q,vs=v::q/\RepB K F H d v/\mL K F H l q
def tAL (K:xA9) (f:De->Option (List Dt)):TA:=fun σ H Q=>∃ Φ δ F ds,Fm.K Φ=K/\En Φ δ σ F H/\f δ=some ds/\∀ vs H' F',Step F H F' H'->Reps K F' ds vs->Q vs H'
def tAB (K:xA9) (f:De->Option (List Dt)):TA:=fun σ H Q=>∃ Φ δ F ds,Fm.K Φ=K/\En Φ δ σ F H/\f δ=some ds/\∀ vs H' F',Step F H F' H'->mL K F' H' ds vs->Q vs H'
structure DA (X:Cx) (es:List Expr) (f:De->Option (List Dt)):Prop where
 len:∀ δ ds,f δ=some ds->ds.length=es.length
 pa:PA X es (tAL X.K f)
structure DAB (X:Cx) (es:List Expr) (f:De->Option (List Dt)):Prop where
 len:∀ δ ds,f δ=some ds->ds.length=es.length
 pa:PA X es (tAB X.K f)
def ak:De->Option (List Dt):=fun _=>some []
def ab (f:De->Option Dt) (g:De->Option (List Dt)):De->Option (List Dt):=fun δ=>(f δ).bind fun d=>(g δ).bind fun ds=>some (d::ds)
variable {es:List Expr} {fs:De->Option (List Dt)}
theorem kG {f:De->Option Dt} (h:∀ δ ds,fs δ=some ds->ds.length=n):∀ δ ds,ab f fs δ=some ds->ds.length=n+1:=fun δ ds q=>by unfold ab at q;obtain ⟨x,Y,q⟩:=bS q;obtain ⟨y,O,q⟩:=bS q;cases q;simp [h δ y O]
theorem ai:DA X [] ak:=⟨fun _ _ h=>by cases h;rfl,PA.mono fO fun σ H Q ⟨Φ,δ,F,ds,Y,q,O,k⟩=>by cases O;exact k [] H F (Step.refl q.fh) (by simp only [Reps])⟩
theorem aI:DAB X [] ak:=⟨fun _ _ h=>by cases h;rfl,PA.mono fO fun σ H Q ⟨Φ,δ,F,ds,Y,q,O,k⟩=>by cases O;exact k [] H F (Step.refl q.fh) rfl⟩
theorem ac (h:DL X e g) (h':DA X es fs) (hs:qa9 (e::es) X.env=(false,eval e X.env)::qa9 es X.env:=by rfl):DA X (e::es) (ab g fs):=⟨kG h'.len,PA.mono (dq h h'.pa hs) fun σ H Q ⟨Φ,δ,F,ds,Y,Z,q,k⟩=>by unfold ab at q;obtain ⟨x,hx,q⟩:=bS q;obtain ⟨y,hy,q⟩:=bS q;cases q;exact ⟨Φ,δ,F,x,Y,Z,hx,fun v H1 F1 st r=>⟨Φ,δ,F1,y,Y,Z.step st,hy,fun vs H2 F2 O r2=>k (v::vs) H2 F2 (st.trans O) (by simp only [Reps];exact ⟨v,vs,rfl,r.same O.ff,r2⟩)⟩⟩⟩
theorem aD (h:DB X e g) (h':DAB X es fs) (hs:qa9 (e::es) X.env=(false,eval e X.env)::qa9 es X.env:=by rfl):DAB X (e::es) (ab g fs):=⟨kG h'.len,PA.mono (dq h h'.pa hs) fun σ H Q ⟨Φ,δ,F,ds,Y,Z,q,k⟩=>by unfold ab at q;obtain ⟨x,hx,q⟩:=bS q;obtain ⟨y,hy,q⟩:=bS q;cases q;exact ⟨Φ,δ,F,x,Y,Z,hx,fun v H1 F1 st r=>⟨Φ,δ,F1,y,Y,Z.step st,hy,fun vs H2 F2 O r2=>k (v::vs) H2 F2 (st.trans O) ⟨v,vs,rfl,r.step O.ff O.hh,r2⟩⟩⟩⟩
def cr (f:De->Option (List Dt)):De->Option T:=fun δ=>(f δ).bind fun ds=>if ds.length<=qb2 then some (.leaf (.tup ds)) else none
def cy (f:De->Option (List Dt)):De->Option T:=fun δ=>(f δ).bind fun ds=>if ds.length<=qb2 then some (.lst ds) else none
theorem bq {x1} (h:DA X es fs):DO X (.Tuple es x1 pos) (cr fs):=PE.mono (zJ h.pa) fun σ H Q ⟨Φ,δ,F,t,Z,en,q,k⟩=>by
 unfold cr at q;obtain ⟨ds,Y,q⟩:=bS q;split at q
 . rename_i O;cases q;refine ⟨Φ,δ,F,ds,Z,en,Y,fun vs H1 F1 st r=>⟨by rw [r.length];exact O,fun p hp=>?_⟩⟩;refine (k.step st).leaf _ _ _ (Step.new st.fh hp) ?_;simp only [Rep];exact ⟨p,vs,rfl,SqT.of aV,r.same (Same.upd (st.fh.free hp))⟩
 . cases q
theorem dP {F:Hp} (k:KO K F H (.lst ds) Q) (q:Same F H) (r:Reps K F ds vs) (hp:H p=none):Q (.ref p) (upd H p (.lst vs)):=by
 refine k _ _ F (fun b=>b=p) (Step.made q hp) ⟨p,vs,rfl,rfl,aV,r⟩ fun b z=>?_
 subst z;exact ⟨q.free hp,hp,_,aV,nofun⟩
theorem bB (h:DA X es fs):DO X (.List es pos) (cy fs):=PE.mono (zK h.pa) fun σ H Q ⟨Φ,δ,F,t,Z,en,q,k⟩=>by
 unfold cy at q;obtain ⟨ds,Y,q⟩:=bS q;split at q
 . rename_i O;cases q;exact ⟨Φ,δ,F,ds,Z,en,Y,fun vs H1 F1 st r=>⟨by rw [r.length];exact O,fun p hp=>dP (k.step st) st.fh r hp⟩⟩
 . cases q
def CRD (K:xA9) (r:List V->Hp->VK->Prop) (g:List Dt->Option T):Prop:=∀ F H ds vs (Q:VK) t,Same F H->mL K F H ds vs->g ds=some t->KO K F H t Q->r vs H Q
def ao (g:List Dt->Option T) (f:De->Option (List Dt)):De->Option T:=fun δ=>(f δ).bind g
theorem tE {r:List V->Hp->VK->Prop} {g:List Dt->Option T} (Z:CRD K r g) (h:tO K (ao g fs) σ H Q):tCB r (tAB K fs) σ H Q:=by obtain ⟨Φ,δ,F,t,Y,en,q,k⟩:=h;unfold ao at q;obtain ⟨ds,O,q⟩:=bS q;exact ⟨Φ,δ,F,ds,Y,en,O,fun vs H1 F1 st r=>Z F1 H1 ds vs Q t st.fh r q (k.step st)⟩
variable {x:Str} {p:Pos} {id Ty:String} {sc:Scope} {r:List V->Hp->VK->Prop} {gg:List Dt->Option T}
theorem aX (h:aC sc x=true) (hc:CallR X (.builtin id) r) (Z:CRD X.K r gg) (hm:X.mg x=none) (Y:qd7 x=some (.builtin id)) (ha:DAB X (e::es) fs) (e1:cD X sc:=by rfl)
  (he:qa9 (e::es) X.env=(false,eval e X.env)::qa9 es X.env:=by rfl) (O:(qk0 pos (qa9 es X.env)).any (·.1)=false:=by rfl):DO X (.Call (.Name x p) (e::es) [] pos) (ao gg fs):=
 PE.mono (iE h hc hm Y ha.pa e1 he O) fun σ H Q q=>tE Z q
theorem cI (h:aC sc x=true) (hc:CallR X (.type Ty) r) (Z:CRD X.K r gg) (hm:X.mg x=none) (Y:qd7 x=some (.type Ty)) (ha:DAB X (e::es) fs) (e1:cD X sc:=by rfl)
  (he:qa9 (e::es) X.env=(false,eval e X.env)::qa9 es X.env:=by rfl) (O:(qk0 pos (qa9 es X.env)).any (·.1)=false:=by rfl):DO X (.Call (.Name x p) (e::es) [] pos) (ao gg fs):=
 PE.mono (jA h hc hm Y ha.pa e1 he O) fun σ H Q q=>tE Z q
def spD (K:xA9) (n:Nat) (f:List Dt->Option T):Sp:=fun vs H Q _=>∃ F ds t,Same F H/\ds.length=n/\Reps K F ds vs/\f ds=some t/\KO K F H t Q
theorem aw {k:Nat} {O:List Dt->Option T} (h:aC sc x=true) (F:OkF X.prog X.w X.K X.mg X.base x k ps (spD X.K n O)) (hr:Room k X.A) (ha:DA X (e::es) fs) (hn:(e::es).length=n:=by rfl) (e1:cD X sc:=by rfl)
 (he:qa9 (e::es) X.env=(false,eval e X.env)::qa9 es X.env:=by rfl) (Y:(qk0 pos (qa9 es X.env)).any (·.1)=false:=by rfl):DO X (.Call (.Name x p) (e::es) [] pos) (ao O fs):=
 PE.mono (rb h F hr ha.pa e1 he Y) fun σ H Q ⟨Φ,δ,Fz,t,hK,en,q,k⟩=>by unfold ao at q;obtain ⟨ds,Z,q⟩:=bS q;refine ⟨Φ,δ,Fz,ds,hK,en,Z,fun vs H1 F1 st r=>?_⟩;show spD X.K n O (vs++[]) H1 Q E0;rw [qk1];exact ⟨F1,ds,t,st.fh,(ha.len δ ds Z).trans hn,r,q,k.step st⟩
end
inductive Out where
 | nx (δ:De) | rt (t:T) | bk (δ:De) | ct (δ:De)
structure Rt (Φ:Fm) (t:T) (v:V) (F H:Hp):Prop where
 fh:Same F H
 prot:∀ b o,Φ.H0 b=some o->¬ Φ.S0 b->H b=some o
 old:Same Φ.F0 F
 nw:∀ b o,F b=some o->Φ.F0 b=some o∨Φ.B b∨∃ vs,Φ.H0 b=some (.tup vs)
 own:∃ S,Own Φ.K F H t v S/\∀ b,S b->F b=none/\(∃ o,H b=some o/\NT o)/\Φ.B b
def Post (Φ:Fm) (D:Ends):Out->Prop
 | .nx δ=>∀ σ F H,En Φ δ σ F H->D.nx σ H
 | .rt t=>∀ v F H,Rt Φ t v F H->D.rt v H
 | .bk δ=>∀ σ F H,En Φ δ σ F H->D.bk σ H
 | .ct δ=>∀ σ F H,En Φ δ σ F H->D.ct σ H
def tS (K:xA9) (g:De->Option Out):TS:=fun D σ H=>∃ Φ δ F o,Fm.K Φ=K/\En Φ δ σ F H/\g δ=some o/\Post Φ D o
def DS1 (X:Cx) (st:Stmt) (g:De->Option Out):Prop:=PS X st (tS X.K g)
def DS (X:Cx) (ss:List Stmt) (g:De->Option Out):Prop:=PSs X ss (tS X.K g)
variable {Φ:Fm} {δ:De} {F' H':Hp} {N:List Str} {D:Ends} {es:List Expr} {ts:List Nat} {bb:Dt->De->Option De} {J:It} {xs:List V}
section
variable {X:Cx} {st:Stmt} {rest a b body:List Stmt} {g g1 g2:De->Option Out} {e c tg iter:Expr} {pos:Pos} {f:De->Option T} {fd:De->Option Dt} {tc:De->Option Bool} {i:Nat}
def bC:De->Option Out:=fun δ=>some (.nx δ)
def ay (g1 g2:De->Option Out):De->Option Out:=fun δ=>(g1 δ).bind fun o=>match o with
 | .nx q=>g2 q
 | o=>some o
theorem aK:DS X [] bC:=PSs.mono vG fun D σ H ⟨Φ,δ,F,o,Y,q,O,k⟩=>by cases O;exact k σ F H q
theorem ar (h:DS1 X st g):DS X [st] g:=pA h
theorem ah (h1:DS1 X st g1) (h2:DS X rest g2):DS X (st::rest) (ay g1 g2):=PSs.mono (jk h1 h2) fun D σ H ⟨Φ,δ,F,o,Z,en,O,k⟩=>by
 unfold ay at O;obtain ⟨o1,h1,O⟩:=bS O;refine ⟨Φ,δ,F,o1,Z,en,h1,?_⟩;cases o1 with
 | nx q=>exact fun σ' F' H' Y=>⟨Φ,q,F',o,Z,Y,O,k⟩
 | rt t=>cases O;exact k
 | bk q=>cases O;exact k
 | ct q=>cases O;exact k
def bi (f:De->Option T):De->Option Out:=fun δ=>(f δ).map .rt
theorem En.rt {F:Hp} {t:T} {S:Addr->Prop} (Y:En Φ δ σ F H) (st:Step F H F' H') (o:Own Φ.K F' H' t v S) (O:∀ b,S b->F' b=none/\H b=none/\∃ o,H' b=some o/\NT o):Rt Φ t v F' H':=by have q:=Y.step st;exact ⟨q.fh,q.prot,q.old,q.nw,S,o,fun b z=>⟨(O b z).1,(O b z).2.2,Y.fresh (O b z).2.1⟩⟩
theorem aG (h:DO X e f):DS1 X (.Return (some e) pos) (bi f):=PS.mono (nY h) fun D σ H ⟨Φ,δ,F,o,O,Y,q,k⟩=>by unfold bi at q;obtain ⟨t,Z,q⟩:=mS q;cases q;exact ⟨Φ,δ,F,t,O,Y,Z,fun v H' F' S st o hs=>k v F' H' (Y.rt st (O▸o) hs)⟩
def jB (i:Nat):De->Option Out:=fun δ=>match δ[i]? with
 | some (some t)=>some (.rt t)
 | _=>none
theorem hZ (h:PE X e (gY i)):DS1 X (.Return (some e) pos) (jB i):=PS.mono (nY h) fun D σ H ⟨Φ,δ,F,o,hK,O,Y,k⟩=>by
 unfold jB at Y;split at Y
 . rename_i t q;cases Y;obtain ⟨v,Z⟩:=O.has i t q;obtain ⟨S,s⟩:=O.sep;exact ⟨v,Z,k v F H ⟨O.fh,O.prot,O.old,O.nw,S i,s.own i t v (cw q Z),fun b z=>s.out i b z⟩⟩
 . cases Y
def sIf (c:De->Option Bool) (g1 g2:De->Option Out):De->Option Out:=fun δ=>(c δ).bind fun b=>if b then g1 δ else g2 δ
theorem bf (hc:DT X c tc) (h1:DS X a g1) (h2:DS X b g2):DS1 X (.If c a b pos) (sIf tc g1 g2):=PS.mono (BS hc h1 h2) fun D σ H ⟨Φ,δ,F,o,Y,Z,O,k⟩=>by
 unfold sIf at O;obtain ⟨x,hx,O⟩:=bS O;refine ⟨Φ,δ,F,x,Y,Z,hx,fun H' F' st=>?_⟩;split at O
 . rename_i q;rw [if_pos q];exact ⟨Φ,δ,F',o,Y,Z.step st,O,k⟩
 . rename_i q;rw [if_neg q];exact ⟨Φ,δ,F',o,Y,Z.step st,O,k⟩
def aE (i:Nat) (f:De->Option T):De->Option Out:=fun δ=>(f δ).map fun t=>.nx (δ.set i (some t))
theorem Ab {sc:Scope} {pos':Pos} (h:dv sc N i x=true) (hl:i0 sc x=true) (nd:N.Nodup) (he:DO X e f) (e1:cD X sc:=by rfl) (e2:X.N=N:=by rfl) (hf:X.fn x=true∨X.env.scope.names.lookup x=some .local:=by exact .inl rfl)
 (O:qo4 e (some (.Name x pos')) pos.line X.env=pure false:=by rfl):DS1 X (.Assign [.Name x pos'] e pos) (aE i f):=PS.mono (pT h hl nd he e1 e2 hf O) fun D σ H ⟨Φ,δ,F,o,Y,Z,q,k⟩=>by
 unfold aE at q;obtain ⟨t,ht,q⟩:=mS q;cases q;exact ⟨Φ,δ,F,t,Y,Z,ht,fun v H' F' S st o O=>k _ F' H' (Z.put st (Y▸o) O i)⟩
def tF (i:Nat) (g:De->Option Out):De->Option Out:=fun δ=>match δ[i]? with
 | some (some t)=>t.d.bind fun d=>g (δ.set i (some (.leaf d)))
 | _=>none
theorem Ac (h:tS K (tF i g) D σ H):tS K g D σ H:=by
 obtain ⟨Φ,δ,F,o,hK,Z,O,k⟩:=h;unfold tF at O;split at O
 . rename_i t q;obtain ⟨d,hd,O⟩:=bS O;obtain ⟨F',Y⟩:=Z.freeze q hd;exact ⟨Φ,_,F',o,hK,Y,O,k⟩
 . cases O
theorem pX (h:DS1 X st g):DS1 X st (tF i g):=PS.mono h fun D σ H q=>Ac q
noncomputable def gD (K:xA9) (ts:List Nat) (st:Dt->De->Option De):TG:=fun v σ H Q=>∃ Φ δ F d O,Fm.K Φ=K/\En Φ δ σ F H/\Rep K F d v/\st d δ=some O/\∀ q,q.length=σ.length->(∀ j,j∉ts->q[j]?=σ[j]?)->En Φ O q F H->Q q H
noncomputable def gsD (K:xA9) (ts:List Nat) (st:List Dt->De->Option De):TGs:=fun vs σ H Q=>∃ Φ δ F ds O,Fm.K Φ=K/\En Φ δ σ F H/\Reps K F ds vs/\st ds δ=some O/\∀ q,q.length=σ.length->(∀ j,j∉ts->q[j]?=σ[j]?)->En Φ O q F H->Q q H
def DG (X:Cx) (tg:Expr) (ts:List Nat) (bb:Dt->De->Option De):Prop:=PG X tg (gD X.K ts bb)
def DGs (X:Cx) (tg:List Expr) (ts:List Nat) (bb:List Dt->De->Option De):Prop:=PGs X tg (gsD X.K ts bb)
def ap (i:Nat):Dt->De->Option De:=fun d δ=>some (δ.set i (some (.leaf d)))
theorem En.name {F:Hp} (q:En Φ δ σ F H) {d:Dt} (r:Rep Φ.K F d v) (i:Nat):En Φ (δ.set i (some (.leaf d))) (σ.set i (some v)) F H:=q.put (Step.refl q.fh) (S':=fun _=>False) (t:=.leaf d) r (fun _ z=>z.elim) i
theorem aO (h:PG X tg (jm i)):DG X tg [i] (ap i):=PG.mono h fun v σ H Q ⟨Φ,δ,F,d,q,Y,Z,r,O,k⟩=>by cases O;refine k _ (by simp) (fun j hj=>?_) (Z.name (Y▸r) i);rw [List.getElem?_set_ne fun z=>hj (by simp [z])]
def d6:List Dt->De->Option De:=fun ds δ=>if ds.isEmpty then some δ else none
def aU (b:Dt->De->Option De) (bs:List Dt->De->Option De):List Dt->De->Option De:=fun ds δ=>match ds with
 | d::r=>(b d δ).bind fun q=>bs r q
 | []=>none
def d7 (n:Nat) (bs:List Dt->De->Option De):Dt->De->Option De:=fun d δ=>match d with
 | .tup ds=>if ds.length=n then bs ds δ else none
 | _=>none
theorem fz:DGs X [] [] d6:=fun pins s σ H vs us Q I r q=>vH pins s σ H vs us Q I r (by
 obtain ⟨Φ,δ,F,ds,Z,hK,en,Y,O,k⟩:=q;unfold d6 at O;cases ds with
 | nil=>cases O;simp only [Reps] at Y;exact ⟨Y,k σ rfl (fun _ _=>rfl) en⟩
 | cons d l=>cases O)
theorem bR {Z:List Nat} {bs:List Dt->De->Option De} (h1:DG X e ts bb) (h2:DGs X es Z bs)
 (hs:(qm3 (e::es) X.env).map (·.2)=zc0 e X.env::(qm3 es X.env).map (·.2):=by rfl):DGs X (e::es) (ts++Z) (aU bb bs):=fun pins s σ H vs us Q I r q=>sr h1 h2 hs pins s σ H vs us Q I r (by
 obtain ⟨Φ,δ,F,ds,δ',hK,en,rs,O,k⟩:=q;unfold aU at O;cases ds with
 | nil=>cases O
 | cons d l =>simp only [Reps] at rs;obtain ⟨v,ws,e,r1,r2⟩:=rs;dsimp only at O;obtain ⟨Y,hb,O⟩:=bS O;refine ⟨v,ws,e,Φ,δ,F,d,Y,hK,en,r1,hb,fun σ1 l1 k1 en1=>⟨Φ,Y,F,l,δ',hK,en1,r2,O,fun σ2 l2 k2 en2=>k σ2 (l2.trans l1) (fun j hj=>?_) en2⟩⟩;rw [k2 j fun z=>hj (qc1 _ z),k1 j fun z=>hj (qh0 _ z)])
theorem gI {k:Nat} {bs:List Dt->De->Option De} (hc:X.calm=true) (h:DGs X es ts bs)
 (hn:(qm3 es X.env).length=n:=by rfl) (Y:(qm3 es X.env).findIdx? (·.1)=none:=by rfl):DG X (.Tuple es k pos) ts (d7 n bs):=PG.mono (zr hc h hn Y) fun v σ H Q ⟨Φ,δ,F,d,Z,hK,en,r,O,q⟩=>by
 unfold d7 at O;split at O
 . rename_i ds;split at O
   . rename_i hl;simp only [Rep] at r;obtain ⟨a,vs,e,h1,h2⟩:=r;exact ⟨a,vs,e,en.fh.tup h1,by rw [h2.length];exact hl,Φ,δ,F,ds,Z,hK,en,h2,O,q⟩
   . cases O
 . cases O
def oC (fd:De->Option Dt) (bb:Dt->De->Option De):De->Option Out:=fun δ=>(fd δ).bind fun d=>(bb d δ).map .nx
theorem tG (he:DL X e fd) (q:DG X tg ts bb) (hs:zf4 [tg] e pos.line X.env=pure false:=by rfl) (hw:zf5 [tg] e X.env=pure none:=by rfl)
 (h1:(qm3 [tg] X.env).map (·.2)=[zc0 tg X.env]:=by rfl):DS1 X (.Assign [tg] e pos) (oC fd bb):=PS.mono (su he q hs hw h1) fun D σ H ⟨Φ,δ,F,o,hK,en,q,k⟩=>by
 unfold oC at q;obtain ⟨d,hd,q⟩:=bS q;obtain ⟨Z,hb,q⟩:=mS q;cases q;exact ⟨Φ,δ,F,d,hK,en,hd,fun v H' F' st r=>⟨Φ,δ,F',d,Z,hK,en.step st,r,hb,fun Y _ _ O=>k Y F' H' O⟩⟩
noncomputable def pY (K:xA9) (F':Hp) (J:It) (ds:List Dt) (ok:Hp->Prop):Prop:=∀ (i:Nat) (H F:Hp),ok H->Same F H->Same F' F->(i<ds.length->J.go i H)/\(i=ds.length->J.stop i H)/\∀ x H',i<ds.length->J.yld i H x H'->∃ d q,ds[i]?=some d/\Step F H q H'/\Rep K q d x
theorem Plain.walk {ok:Hp->Prop} (Z:Plain J xs ok) (r:Reps K F' ds xs):pY K F' J ds ok:=fun i H F q Y ff=>by
 obtain ⟨p1,p2,p3⟩:=Z i H q;have hl:=r.length;refine ⟨fun h=>p1 (by lia),fun h=>p2 (by lia),fun x H' hi hy=>?_⟩;obtain ⟨rfl,hx⟩:=p3 x H' (by lia) hy;have O:ds[i]?=some ds[i]:=by simp [hi]
 obtain ⟨v,e,rv⟩:=r.get O;rw [hx] at e;cases e;exact ⟨_,F,O,Step.refl Y,rv.same ff⟩
def tIF (K:xA9) (f:De->Option (List Dt)):TI:=fun σ H R=>∃ Φ δ F ds,Fm.K Φ=K/\En Φ δ σ F H/\f δ=some ds/\∀ J ok H' F',Step F H F' H'->pY K F' J ds ok->(∀ H2,Same F' H2->ok H2)->R J H'
def tIB (K:xA9) (f:De->Option (List Dt)):TI:=fun σ H R=>∃ Φ δ F ds,Fm.K Φ=K/\En Φ δ σ F H/\f δ=some ds/\∀ J ok H' F',Step F H F' H'->pY K F' J ds ok->(∀ H2,Same H' H2->ok H2)->R J H'
def DIF (X:Cx) (tg iter:Expr) (f:De->Option (List Dt)):Prop:=PI X tg iter (tIF X.K f)
def DIB (X:Cx) (tg iter:Expr) (f:De->Option (List Dt)):Prop:=PI X tg iter (tIB X.K f)
theorem DIF.toB {fi:De->Option (List Dt)} (h:DIF X tg iter fi):DIB X tg iter fi:=PI.mono h fun σ H R ⟨Φ,δ,F,ds,O,Z,hf,k⟩=>⟨Φ,δ,F,ds,O,Z,hf,fun J ok H' F' st q Y=>k J ok H' F' st q fun H2 s=>Y H2 (st.fh.trans s)⟩
end
variable {F1 H1:Hp}
section
variable {X:Cx} {st:Stmt} {rest a b body:List Stmt} {g g1 g2:De->Option Out} {e c tg iter l:Expr} {pos:Pos} {f:De->Option T} {fd:De->Option Dt} {tc:De->Option Bool} {i:Nat} {fi:De->Option (List Dt)}
noncomputable def ca (bb:Dt->De->Option De) (g:De->Option Out):List Dt->De->Option Out
 | [],δ=>some (.nx δ)
 | d::r,δ=>(bb d δ).bind fun O=>(g O).bind fun o=>match o with
  | .nx q=>ca bb g r q
  | .ct q=>ca bb g r q
  | .bk q=>some (.nx q)
  | .rt t=>some (.rt t)
def dZ (fi:De->Option (List Dt)) (bb:Dt->De->Option De) (g:De->Option Out):De->Option Out:=fun δ=>(fi δ).bind fun ds=>ca bb g ds δ
theorem Reps.same_get {F:Hp} (r:Reps K F ds xs) {x:V} (h:xs[i]?=some x):∃ d,ds[i]?=some d/\Rep K F d x:=by
 have Y:=r.length;have hi:i<xs.length:=(gX h).1;have q:ds[i]?=some ds[i]:=by simp [show i<ds.length by lia]
 obtain ⟨v,e,O⟩:=r.get q;rw [h] at e;cases e;exact ⟨_,q,O⟩
theorem pZ {α:Type} {l:List α} {d:α} (h:l[i]?=some d):l.drop i=d::l.drop (i+1):=by have hi:i<l.length:=(gX h).1;rw [List.drop_eq_getElem_cons hi];congr 1;have:=(gX h).2;exact this
def Fm.at (Φ:Fm) (F1:Hp):Fm:={Φ with F0:=F1}
theorem En.back {δ':De} {q:St} {F:Hp} (O:En Φ δ σ F1 H1) (e:En (Φ.at F1) δ' q F H):En Φ δ' q F H:=⟨e.fh,e.prot,O.old.trans e.old,fun b o h=>(e.nw b o h).elim (fun z=>O.nw b o z) .inr,e.len,e.has,e.sep⟩
theorem Rt.back {F:Hp} {t:T} (q:En Φ δ σ F1 H1) (e:Rt (Φ.at F1) t v F H):Rt Φ t v F H:=⟨e.fh,e.prot,q.old.trans e.old,fun b o h=>(e.nw b o h).elim (fun z=>q.nw b o z) .inr,e.own⟩
theorem En.at (q:En Φ δ σ F1 H1):En (Φ.at F1) δ σ F1 H1:=⟨q.fh,q.prot,Same.refl _,fun b o h=>.inl h,q.len,q.has,q.sep⟩
theorem Post.at {o:Out} (Y:En Φ δ σ F1 H1) (k:Post Φ D o):Post (Φ.at F1) D o:=by
 cases o with
 | nx O=>exact fun q F H e=>k q F H (Y.back e)
 | bk O=>exact fun q F H e=>k q F H (Y.back e)
 | ct O=>exact fun q F H e=>k q F H (Y.back e)
 | rt t=>exact fun v F H e=>k v F H (Rt.back Y e)
theorem tH {g:TG} {tb:TS} (Pv:Nat->St->Hp->Prop) (Z:Pv 0 σ H1) (O:∀ i σ H,Pv i σ H->(i<n->J.go i H)/\(i=n->J.stop i H))
 (hs:∀ i x σ H H',i<n->Pv i σ H->J.yld i H x H'->g x σ H' fun Y H2=>tb {D with nx:=Pv (i+1),ct:=Pv (i+1),bk:=D.nx} Y H2) (hd:∀ σ H,Pv n σ H->D.nx σ H):ForW g tb D J σ H1:=by
 refine ⟨fun i m σ H=>m=n-i/\i<=n/\Pv i σ H,⟨n,by simp,qj2 _,Z⟩,?_⟩;rintro i m σ H ⟨rfl,hi,p⟩;obtain ⟨p1,p2⟩:=O i σ H p;by_cases q:i<n
 . exact .inr ⟨p1 q,Pv (i+1),fun σ' H' p'=>⟨n-(i+1),by lia,rfl,q,p'⟩,fun x H' y=>hs i x σ H H' q p y⟩
 . have e:i=n:=by lia
   subst e;exact .inl ⟨p2 rfl,hd σ H p⟩
theorem c6 (hp:zh5 (model X.prog X.w) X.A X.env X.xe) (hc:X.calm=true) (hi:DIF X tg iter fi) (hg:DG X tg ts bb) (hb:DS X body g)
 (hs:∀ x,qi4 iter X.env x=pure x:=by intro _;rfl):DS1 X (.For tg iter body [] pos) (dZ fi bb g):=PS.mono (zA hp hc hi hg hb hs) fun D σ H ⟨Φ,δ,F,o,hK,en,hg,k⟩=>by
 unfold dZ at hg;obtain ⟨ds,hd,hg⟩:=bS hg;rw [v6];refine ⟨Φ,δ,F,ds,hK,en,hd,fun J ok H1 F1 st1 wd ho=>?_⟩;have en1:=en.step st1;have k1:=Post.at en1 k;refine tH (n:=ds.length) (fun i σ' H'=>∃ Z F',En (Φ.at F1) Z σ' F' H'/\ca bb g (ds.drop i) Z=some o) ⟨δ,F1,en1.at,by simpa using hg⟩ (fun i σ' H' ⟨Z,F',Y,_⟩=>?_) ?_ ?_
 . obtain ⟨p1,p2,_⟩:=wd i H' F' (ho H' (Y.old.trans Y.fh)) Y.fh Y.old;exact ⟨p1,p2⟩
 . rintro i x σ' H' H'' hi ⟨Z,F',Y,O⟩ hy;obtain ⟨_,_,p3⟩:=wd i H' F' (ho H' (Y.old.trans Y.fh)) Y.fh Y.old;obtain ⟨d,F2,hd',st2,rd⟩:=p3 x H'' hi hy;rw [pZ hd'] at O;unfold ca at O;obtain ⟨δ1,h1,O⟩:=bS O;obtain ⟨o1,h2,O⟩:=bS O;refine ⟨Φ.at F1,Z,F2,d,δ1,hK,Y.step st2,rd,h1,fun σ1 _ _ en1=>⟨Φ.at F1,δ1,F2,o1,hK,en1,h2,?_⟩⟩;cases o1 with
   | nx δ2=>exact fun σ2 F2 H2 en2=>⟨δ2,F2,en2,O⟩
   | ct δ2=>exact fun σ2 F2 H2 en2=>⟨δ2,F2,en2,O⟩
   | bk δ2=>cases O;exact fun σ2 F2 H2 en2=>k1 σ2 F2 H2 en2
   | rt t=>cases O;exact fun v F2 H2 q=>k1 v F2 H2 q
 . rintro σ' H' ⟨Z,F',Y,O⟩;rw [List.drop_length] at O;cases O;exact k1 σ' F' H' Y
noncomputable def bG (c:De->Option Bool) (g:De->Option Out):Nat->De->Option Out
 | 0,_=>none
 | n+1,δ=>(c δ).bind fun b=>if b then (g δ).bind fun o=>match o with
  | .nx q=>bG c g n q
  | .ct q=>bG c g n q
  | .bk q=>some (.nx q)
  | .rt t=>some (.rt t)
 else some (.nx δ)
theorem fZ (n:Nat) (hp:zh5 (model X.prog X.w) X.A X.env X.xe) (hc:DT X c tc) (hb:DS X body g):DS1 X (.While c body [] pos) (bG tc g n):=PS.mono (sw hp hc hb) fun D σ H ⟨Φ,δ,F,o,hK,en,hg,k⟩=>by
 refine ⟨fun m σ' H'=>∃ δ' F',En Φ δ' σ' F' H'/\bG tc g m δ'=some o,⟨n,δ,F,en,hg⟩,?_⟩;rintro m σ' H' ⟨δ',F',en',O⟩;cases m with
 | zero=>cases O
 | succ m =>
  unfold bG at O;obtain ⟨x,hx,O⟩:=bS O;refine ⟨Φ,δ',F',x,hK,en',hx,fun H1 F1 st=>?_⟩;split at O
  . rename_i q;rw [if_pos q];obtain ⟨o1,h2,O⟩:=bS O;refine ⟨fun Z H2=>∃ Y F2,En Φ Y Z F2 H2/\bG tc g m Y=some o,fun Z H2 z=>⟨m,qn6 m,z⟩,Φ,δ',F1,o1,hK,en'.step st,h2,?_⟩;cases o1 with
    | nx Y=>exact fun Z F2 H2 en2=>⟨Y,F2,en2,O⟩
    | ct Y=>exact fun Z F2 H2 en2=>⟨Y,F2,en2,O⟩
    | bk Y=>cases O;exact fun Z F2 H2 en2=>k Z F2 H2 en2
    | rt t=>cases O;exact fun v F2 H2 q=>k v F2 H2 q
  . rename_i q;rw [if_neg q];cases O;exact k σ' F1 H1 (en'.step st)
def Ce (x:Str):List Dt:=x.cps.toList.map fun c=>.str ⟨#[c]⟩
def di (lo:Int) (n:Nat):List Dt:=(qc0 n).map fun (i:Nat)=>.int (lo+i)
theorem Reps.map {F:Hp} {α:Type} {f:α->Dt} {g:α->V} (h:∀ x,Rep K F (f x) (g x)):∀ l:List α,Reps K F (l.map f) (l.map g)
 | []=>by simp [Reps]
 | x::l=>by simp only [qa5,Reps];exact ⟨_,_,rfl,h x,Reps.map h l⟩
def itD:Dt->Option (List Dt)
 | .lst l=>some l
 | .tup l=>some l
 | .str x=>some (Ce x)
 | _=>none
def fIt (f:De->Option Dt):De->Option (List Dt):=fun δ=>(f δ).bind itD
theorem eI (h:DL X l fd):DIF X tg l (fIt fd):=PI.mono (PI.or (pE h) (PI.or (sx h) (sS h))) fun σ H R ⟨Φ,δ,F,ds,Y,Z,q,k⟩=>by
 unfold fIt at q;obtain ⟨d,O,q⟩:=bS q;cases d with
 | lst l =>cases q;refine .inl ⟨Φ,δ,F,_,Y,Z,O,fun v H' F' st r=>?_⟩;simp only [Rep] at r;obtain ⟨a,vs,rfl,h1,h2⟩:=r;exact ⟨a,rfl,⟨vs,st.fh.seq h1⟩,k _ _ H' F' st (plain_list.walk h2) fun H2 s=>s.seq h1⟩
 | tup l =>cases q;refine .inr (.inl ⟨Φ,δ,F,_,Y,Z,O,fun v H' F' st r=>?_⟩);simp only [Rep] at r;obtain ⟨a,vs,rfl,h1,h2⟩:=r;exact ⟨a,rfl,⟨vs,st.fh.tup h1⟩,k _ _ H' F' st (plain_tup.walk h2) fun H2 s=>s.tup h1⟩
 | str x =>cases q;refine .inr (.inr ⟨Φ,δ,F,_,Y,Z,O,fun v H' F' st r=>?_⟩);simp only [Rep] at r;exact ⟨x,r,k _ _ H' F' st (plain_str.walk (Reps.map (fun c=>jd) _)) fun _ _=>trivial⟩
 | _=>cases q
theorem b9 (h:DB X l fd):DIB X tg l (fIt fd):=PI.mono (PI.or (pE h) (PI.or (sx h) (sS h))) fun σ H R ⟨Φ,δ,F,ds,Y,Z,q,k⟩=>by
 unfold fIt at q;obtain ⟨d,O,q⟩:=bS q;cases d with
 | lst l =>cases q;refine .inl ⟨Φ,δ,F,_,Y,Z,O,fun v H' F' st r=>?_⟩;obtain ⟨a,vs,rfl,h1,h2⟩:=r;exact ⟨a,rfl,⟨vs,h1⟩,k _ _ H' F' st (plain_list.walk h2) fun H2 s=>s.seq h1⟩
 | tup l =>cases q;refine .inr (.inl ⟨Φ,δ,F,_,Y,Z,O,fun v H' F' st r=>?_⟩);obtain ⟨a,vs,rfl,h1,h2⟩:=r;exact ⟨a,rfl,⟨vs,st.fh.tup h1⟩,k _ _ H' F' st (plain_tup.walk h2) fun H2 s=>s.tup (st.fh.tup h1)⟩
 | str x =>cases q;refine .inr (.inr ⟨Φ,δ,F,_,Y,Z,O,fun v H' F' st r=>?_⟩);exact ⟨x,r,k _ _ H' F' st (plain_str.walk (Reps.map (fun c=>jd) _)) fun _ _=>trivial⟩
 | _=>cases q
def fK (j:Int):Bool:=decide (-(2^62)<=j)&&decide (j<2^62)
def gJ:List Dt->Option (List Dt)
 | [.int j]=>if fK j then some (di 0 j.toNat) else none
 | _=>none
def oD:List Dt->Option (List Dt)
 | [.int i,.int j]=>if fK i&&fK j then some (di i (j-i).toNat) else none
 | _=>none
def ej (r:List Dt->Option (List Dt)) (f:De->Option (List Dt)):De->Option (List Dt):=fun δ=>(f δ).bind r
variable {p:Pos} {sc:Scope} {x y:Expr} {fs:De->Option (List Dt)}
theorem eC {j:Int} (h:fK j=true):-(2^62)<=j/\j<2^62:=by unfold fK at h;simpa using h
theorem jC {F:Hp} (lo:Int) (n:Nat):Reps K F (di lo n) (jv lo n):=Reps.map (fun _=>fw) _
theorem dL (h:aC sc "range"=true) (hm:X.mg "range"=none) (ha:DA X [x] fs) (e1:cD X sc:=by rfl) (hs:qa9 [x] X.env=[(false,eval x X.env)]:=by rfl):DIF X tg (.Call (.Name "range" p) [x] [] pos) (ej gJ fs):=
 PI.mono (oq h hm ha.pa e1 hs) fun σ H R ⟨Φ,δ,F,ds,Z,en,q,k⟩=>by
  unfold ej at q;obtain ⟨as,Y,q⟩:=bS q;refine ⟨Φ,δ,F,as,Z,en,Y,fun vs H' F' st r=>?_⟩;unfold gJ at q;split at q
  . rename_i j;split at q
    . rename_i O;cases q;simp only [Reps,Rep] at r;obtain ⟨v,ws,rfl,rfl,rfl⟩:=r;exact ⟨j,rfl,(eC O).1,(eC O).2,k _ _ H' F' st (plain_range.walk (jC _ _)) fun _ _=>trivial⟩
    . cases q
  . cases q
theorem rf (h:aC sc "range"=true) (hm:X.mg "range"=none) (ha:DA X [x,y] fs) (e1:cD X sc:=by rfl) (hs:qa9 [x,y] X.env=[(false,eval x X.env),(false,eval y X.env)]:=by rfl) (Y:qa9 [y] X.env=[(false,eval y X.env)]:=by rfl) :
  DIF X tg (.Call (.Name "range" p) [x,y] [] pos) (ej oD fs):=
 PI.mono (ou h hm ha.pa e1 hs Y) fun σ H R ⟨Φ,δ,F,ds,hK,en,q,k⟩=>by
  unfold ej at q;obtain ⟨as,Z,q⟩:=bS q;refine ⟨Φ,δ,F,as,hK,en,Z,fun vs H' F' st r=>?_⟩;unfold oD at q;split at q
  . rename_i i j;split at q
    . rename_i O;rw [qb1] at O;cases q;simp only [Reps,Rep] at r;obtain ⟨v,ws,rfl,rfl,w,us,rfl,rfl,rfl⟩:=r;exact ⟨i,j,rfl,⟨(eC O.1).1,(eC O.1).2,(eC O.2).1,(eC O.2).2⟩,k _ _ H' F' st (plain_range.walk (jC _ _)) fun _ _=>trivial⟩
    . cases q
  . cases q
end
def dC (src:List (Option Nat)) (δ:De):De:=src.map fun o=>o.bind fun j=>(δ[j]?).join
noncomputable def bw (bb:Dt->De->Option De) (ft:De->Option Bool) (fe:De->Option Dt) (δ:De):List Dt->Option (List Dt)
 | []=>some []
 | d::r=>(bb d δ).bind fun q=>(ft q).bind fun b=>if b then (fe q).bind fun y=>(bw bb ft fe δ r).bind fun ys=>some (y::ys) else bw bb ft fe δ r
noncomputable def bj (src:List (Option Nat)) (fi:De->Option (List Dt)) (bb:Dt->De->Option De) (ft:De->Option Bool) (fe:De->Option Dt):De->Option T:=fun δ =>(fi δ).bind fun ds=>(bw bb ft fe (dC src δ) ds).bind fun ys=>if ys.length<=qb2 then some (.lst ys) else none
def bN:De->Option Bool:=fun _=>some true
def DTs (X:Cx) (ifs:List Expr) (f:De->Option Bool):Prop:=PTs X ifs (tTr X.K f)
theorem cP:DTs X [] bN:=fun pins s σ H Q I h=>v3 pins s σ H Q I (by obtain ⟨Φ,δ,F,b,Y,q,O,k⟩:=h;cases O;exact k H F (Step.refl q.fh))
theorem dQ {c:Expr} {f:De->Option Bool} (h:DT X c f):DTs X [c] f:=v4 h
section
variable {X:Cx} {elt tg iter:Expr} {ifs:List Expr} {scope:Scope} {pos:Pos} {M:List Str} {src:List (Option Nat)} {fi:De->Option (List Dt)} {ft:De->Option Bool} {fe:De->Option Dt}
theorem wa (S:CmpScope X.N X.env.scope scope M src) {k l:Nat} (Z:src[k]?=some (some j)) (hl:src[l]?=some (some j)):k=l:=by
 have nm:∀ k,src[k]?=some (some j)->∃ x,M[k]?=some x/\X.N[j]?=some x:=fun k h=>by
  have q:k<M.length:=by rw [S.len];exact (gX h).1
  have Y:M[k]?=some M[k]:=by simp [q]
  have hz:(M.zip src)[k]?=some (M[k],some j):=by rw [qq4];exact ⟨Y,h⟩
  exact ⟨_,Y,(S.src _ (qc7 hz) j rfl).1⟩
 obtain ⟨x,h1,h2⟩:=nm k Z;obtain ⟨y,h3,O⟩:=nm l hl;rw [h2] at O;cases O;exact (List.getElem?_inj (gX h1).1 S.nd).mp (h1.trans h3.symm)
theorem tI {k:Nat} {t:T} (h:(dC src δ)[k]?=some (some t)):∃ j,src[k]?=some (some j)/\δ[j]?=some (some t):=by
 unfold dC at h;rw [qb3] at h;cases e:src[k]? with
 | none=>rw [e] at h;cases h
 | some o =>
  rw [e] at h;cases o with
  | none=>cases h
  | some j =>
   simp only [qo3,qa3,qs5] at h;refine ⟨j,rfl,?_⟩;cases q:δ[j]? with
   | none=>rw [q] at h;cases h
   | some u=>rw [q] at h;simp only [qt8] at h;rw [h]
theorem wb {k:Nat} (h1:src[k]?=some (some j)) (h2:σ[j]?=some (some v)):(stC src σ)[k]?=some (some v):=by unfold stC;rw [qb3,h1];simp [h2]
theorem tJ {k:Nat} (h:(stC src σ)[k]?=some (some v)):∃ j,src[k]?=some (some j)/\σ[j]?=some (some v):=by
 unfold stC at h;rw [qb3] at h;cases e:src[k]? with
 | none=>rw [e] at h;cases h
 | some o =>
  rw [e] at h;cases o with
  | none=>cases h
  | some j =>
   simp only [qo3,qa3,qs5] at h;refine ⟨j,rfl,?_⟩;cases q:σ[j]? with
   | none=>rw [q] at h;cases h
   | some u=>rw [q] at h;simp only [qt8] at h;rw [h]
theorem En.comp {F:Hp} (S:CmpScope X.N X.env.scope scope M src) (q:En Φ δ σ F H):En Φ (dC src δ) (stC src σ) F H:=by
 refine ⟨q.fh,q.prot,q.old,q.nw,by simp [dC,stC],fun k t h=>?_,?_⟩
 . obtain ⟨j,h1,h2⟩:=tI h;obtain ⟨v,hv⟩:=q.has j t h2;exact ⟨v,wb h1 hv⟩
 . obtain ⟨Z,s⟩:=q.sep;refine ⟨fun k b=>∃ j,src[k]?=some (some j)/\Z j b,fun k t v h=>?_,fun k b ⟨j,_,z⟩=>s.out j b z,fun k l b ⟨j,h1,z⟩ ⟨j',h2,z'⟩=>?_⟩
   . obtain ⟨h1,h2⟩:=dY h;obtain ⟨j,O,e2⟩:=tI h1;obtain ⟨j',Y,e4⟩:=tJ h2;rw [O] at Y;cases Y;exact (s.own j t v (cw e2 e4)).grow fun b z=>⟨j,O,z⟩
   . have:=s.dis _ _ b z z';subst this;exact wa S h1 h2
theorem rg {g:TG} {tt:TT} {te:TE} {D:Addr} (Pv:Nat->Hp->Prop) (h0:Pv 0 (upd H1 D (.lst []))) (Y:∀ i H,Pv i H->(i<n->J.go i H)/\(i=n->J.stop i H))
 (hs:∀ i x H H',i<n->Pv i H->J.yld i H x H'->g x (stC src σ) H' fun O H2=>Wk (stC src σ) O/\tt O H2 fun b Z=>if b=true then te O Z fun v H4=>∃ ys,H4 D=some (.lst ys)/\ys.length<qb2/\Pv (i+1) (upd H4 D (.lst (ys++[v]))) else Pv (i+1) Z)
 (hd:∀ H,Pv n H->Q (.ref D) H):xW src g tt te σ J H1 Q D:=by
 refine ⟨fun i m H=>m=n-i/\i<=n/\Pv i H,⟨n,by simp,qj2 _,h0⟩,?_⟩;rintro i m H ⟨rfl,hi,p⟩;obtain ⟨p1,p2⟩:=Y i H p;by_cases q:i<n
 . exact .inr ⟨p1 q,Pv (i+1),fun H' p'=>⟨n-(i+1),by lia,rfl,q,p'⟩,fun x H' y=>hs i x H H' q p y⟩
 . have e:i=n:=by lia
   subst e;exact .inl ⟨p2 rfl,hd H p⟩
theorem p0 (S:CmpScope X.N X.env.scope scope M src) (hts:(ts.all fun k=>decide (src[k]?=some none))=true):∀ (σ:St) (H:Hp) (Q:VK),tO X.K (bj src fi bb ft fe) σ H Q->mG src (tIB X.K fi) (gD X.K ts bb) (tTr X.K ft) (tL X.K fe) σ H Q:=fun σ H Q ⟨Φ,δ,F,t,hK,en,hf,k⟩=>by
 unfold bj at hf;obtain ⟨ds,hd,hf⟩:=bS hf;obtain ⟨all,ha,hf⟩:=bS hf;split at hf
 case isFalse=>cases hf
 rename_i hz;cases hf;rw [sY];refine ⟨Φ,δ,F,ds,hK,en,hd,fun J ok H1 F1 st1 wd ho D hD=>?_⟩;have en1:=en.step st1;have k1:=k.step st1
 have wk:∀ {σ2:St},σ2.length=(stC src σ).length->(∀ j,j∉ts->σ2[j]?=(stC src σ)[j]?)->Wk (stC src σ) σ2:=fun {σ2} h1 h2=>by
  refine ⟨h1.symm,fun j v hj=>?_⟩;by_cases hm:j∈ts
  . have:=qk7.mp hts j hm;have hn:src[j]?=some none:=of_decide_eq_true this;obtain ⟨i,e,_⟩:=tJ hj;rw [hn] at e;cases e
  . rw [h2 j hm];exact hj
 have ok':∀ {F H:Hp},Step F1 H1 F H->ok H:=fun st=>ho _ st.hh
 refine rg (n:=ds.length) (fun i H=>∃ F ys done Y,Step F1 H1 F H/\H D=some (.lst ys)/\F D=none/\Reps X.K F done ys/\bw bb ft fe (dC src δ) (ds.drop i)=some Y/\done++Y=all) ?_ ?_ ?_ ?_
 . exact ⟨F1,[],[],all,Step.made st1.fh hD,aV,st1.fh.free hD,by simp [Reps],by simpa using ha,rfl⟩
 . rintro i H' ⟨F',ys,done,Y,st,_⟩;obtain ⟨p1,p2,_⟩:=wd i H' F' (ok' st) st.fh st.ff;exact ⟨p1,p2⟩
 . rintro i x H0' H' hi ⟨F0',ys,done,Y,st0,hD0,hFD0,rys0,O,Z⟩ hy0;obtain ⟨_,_,p3⟩:=wd i H0' F0' (ok' st0) st0.fh st0.ff;obtain ⟨d,F',hd',stw,rd⟩:=p3 x H' hi hy0;have st:=st0.trans stw;have hD':H' D=some (.lst ys):=stw.hh _ _ hD0;have hFD:F' D=none:=stw.keepN hFD0 hD0;have rys:=rys0.same stw.ff;rw [pZ hd'] at O;unfold bw at O;obtain ⟨δ1,h1,O⟩:=bS O;obtain ⟨b,h2,O⟩:=bS O;refine ⟨Φ,dC src δ,F',d,δ1,hK,(en1.step st).comp S,rd,h1,fun σ2 l2 k2 en2=>⟨wk l2 k2,Φ,δ1,F',b,hK,en2,h2,fun H3 F3 st3=>?_⟩⟩;have hD3:H3 D=some (.lst ys):=st3.hh _ _ hD';have hF3:F3 D=none:=st3.keepN hFD hD';dsimp only;split at O
   . rename_i q;rw [if_pos q];obtain ⟨y,hy,O⟩:=bS O;obtain ⟨zs,hzs,O⟩:=bS O;cases O;refine ⟨Φ,δ1,F3,y,hK,en2.step st3,hy,fun v H4 F4 st4 rv=>?_⟩;have hD4:H4 D=some (.lst ys):=st4.hh _ _ hD3;have hF4:F4 D=none:=st4.keepN hF3 hD3;have s14:=(st.trans st3).trans st4;refine ⟨ys,hD4,?_,F4,ys++[v],done++[y],zs,?_,aV,hF4,(rys.same (st3.ff.trans st4.ff)).append (Reps.one rv),hzs,by rw [<- Z];simp⟩
     . have e1:=rys.length;have e2:all.length=done.length+(zs.length+1):=by rw [<- Z];simp
       lia
     . refine ⟨fun c o e=>?_,s14.ff,fun c o e=>?_,s14.nw⟩
       . rw [aH (bM e hD)];exact s14.hh _ _ e
       . rw [aH (bM e hF4)];exact s14.fh _ _ e
   . rename_i q;rw [if_neg q];exact ⟨F3,ys,done,Y,st.trans st3,hD3,hF3,rys.same st3.ff,O,Z⟩
 . rintro H' ⟨F',ys,done,Y,st,hD',hFD,rys,O,Z⟩;rw [List.drop_length] at O;cases O;rw [qk1] at Z;subst Z
   exact k1 (.ref D) H' F' (fun b=>b=D) st ⟨D,ys,rfl,rfl,hD',rys⟩ fun b z=>by subst z;exact ⟨hFD,hD,_,hD',nofun⟩
theorem je (S:CmpScope X.N X.env.scope scope M src) (Z:X.calm=true) (hi:DIB X tg iter fi) (hg:M.Nodup->∀ C s H ex,DG (cxC X M scope C s H ex) tg ts bb)
 (O:∀ C s H ex,DTs (cxC X M scope C s H ex) ifs ft) (Y:∀ C s H ex,DL (cxC X M scope C s H ex) elt fe) (q:(ts.all fun k=>decide (src[k]?=some none))=true) (hs:∀ x,qi4 iter X.env x=pure x:=by intro _;rfl) :
  DO X (.ListComp elt [⟨tg,iter,ifs,0⟩] scope pos) (bj src fi bb ft fe):=PE.mono (sQ (g:=gD X.K ts bb) (tt:=tTr X.K ft) (te:=tL X.K fe) S Z hi (fun nd C s H ex=>hg nd C s H ex) (fun C s H ex=>O C s H ex) (fun C s H ex=>Y C s H ex) hs) (p0 S q)
end
def ci (m:Nat) (g:De->Option Out):List Dt->Option T:=fun ds=>match g (ds.map (fun d=>some (T.leaf d))++qh4 (m-ds.length) none) with
 | some (.rt t)=>some t
 | some (.nx _)=>some (.leaf .non)
 | _=>none
theorem e7 {F:Hp} (fh:Same F H) (r:Reps K F ds vs) :
  En ⟨K,F,H,fun _=>False⟩ (ds.map (fun d=>some (T.leaf d))++qh4 (N.length-ds.length) none) (start N vs) F H:=by
 have hl:=r.length
 have q:∀ (i:Nat) (t:T),(ds.map (fun d=>some (T.leaf d))++qh4 (N.length-ds.length) none)[i]?=some (some t)->∃ d v,t=T.leaf d/\vs[i]?=some v/\Rep K F d v/\(start N vs)[i]?=some (some v):=fun i t h=>by
  by_cases hi:i<ds.length
  . rw [qc5 (by simpa using hi),qb3] at h;have Y:ds[i]?=some ds[i]:=by simp [hi]
    rw [Y] at h;cases h;obtain ⟨v,Z,O⟩:=r.get Y;refine ⟨_,v,rfl,Z,O,?_⟩;unfold start;rw [qc5 (by simp;lia),qb3,Z];rfl
  . rw [qe2 (by simpa using hi)] at h;rw [qj4] at h;split at h<;>cases h
 refine ⟨fh,fun b o h _=>h,Same.refl _,fun b o h=>.inl h,by simp [start,hl],fun i t h=>?_,fun _ _=>False,fun i t v h=>?_,fun _ _ z=>z.elim,fun _ _ _ z=>z.elim⟩
 . obtain ⟨d,v,_,_,_,e⟩:=q i t h;exact ⟨v,e⟩
 . obtain ⟨h1,h2⟩:=dY h;obtain ⟨d,w,rfl,_,O,e⟩:=q i t h1;rw [h2] at e;cases e;exact O
variable {st:Stmt}
section
variable {P:qc2} {w:World} {K:xA9} {mg:Str->Option Value} {base:Heap}
theorem Rt.step {F:Hp} {t:T} (h:Rt ⟨K,F,H,fun _=>False⟩ t v F' H') (k:KO K F H t Q):Q v H':=by
 obtain ⟨Y,q,O,nw,S,o,Z⟩:=h;refine k v H' F' S ⟨fun b u e=>q b u e id,O,Y,fun b u e=>(nw b u e).elim .inl fun z=>.inr (z.imp (fun y=>y.elim id qg2) id)⟩ o fun b z=>?_
 obtain ⟨h1,h2,h3⟩:=Z b z;exact ⟨h1,h3.elim id qg2,h2⟩
theorem b7 {k:Nat} {g:De->Option Out} (D:DefF K mg x st ps) (S:FnScope N ps (aa st)) (hn:ps.length=n)
 (O:∀ (f:Addr) (cdv:Value) (A:qd8) (outer:List Env) (s:qa4) (H:Hp) (E:XK),Room k (A.deeper (qx8 x (aa st) s.heap.objs.size f cdv))->DS (jq CX0 P w K mg base N x (aa st) f cdv A outer s H E).nox (be st) g) :
  OkF P w K mg base x (k+1) ps (spD K n (ci N.length g)):=by
 refine D.ok S (fun vs H Q E h=>?_) (fun f cdv A outer s H vs Q E hr h=>?_)
 . obtain ⟨F,ds,t,_,hl,r,_⟩:=h;rw [r.length,hl,hn]
 . obtain ⟨F,ds,t,Z,hl,r,Y,kq⟩:=h;refine ⟨_,O f cdv A outer s H E hr,?_⟩;unfold ci at Y;split at Y
   . rename_i t' q;cases Y;exact ⟨⟨K,F,H,fun _=>False⟩,_,F,_,rfl,e7 Z r,q,fun v F' H' z=>z.step kq⟩
   . rename_i δ' q;cases Y;exact ⟨⟨K,F,H,fun _=>False⟩,_,F,_,rfl,e7 Z r,q,fun σ' F' H' z=>(z.rt (Step.refl z.fh) (t:=.leaf .non) (S:=fun _=>False) (hX (K:=K) (F:=F')) fun _ y=>y.elim).step kq⟩
   . cases Y
theorem Cf {k:Nat} {g:De->Option Out} {f:Addr} {fd:qp2} (D:Fun K x x st f fd) (S:FnScope N ps (aa st)) (hn:ps.length=n)
 (O:∀ (cdv:Value) (A:qd8) (outer:List Env) (s:qa4) (H:Hp) (E:XK),Room k (A.deeper (qx8 x (aa st) s.heap.objs.size f cdv))->DS (jq CX0 P w K mg base N x (aa st) f cdv A outer s H E).nox (be st) g) :
  FnOk P w K mg base CX0 (k+1) f fd ps (spD K n (ci N.length g)):=by
 refine D.ok S (fun vs H Q E h=>?_) (fun cdv A outer s H vs Q E hr h=>?_)
 . obtain ⟨F,ds,t,_,hl,r,_⟩:=h;rw [r.length,hl,hn]
 . obtain ⟨F,ds,t,Z,hl,r,Y,kq⟩:=h;refine ⟨_,O cdv A outer s H E hr,?_⟩;unfold ci at Y;split at Y
   . rename_i t' q;cases Y;exact ⟨⟨K,F,H,fun _=>False⟩,_,F,_,rfl,e7 Z r,q,fun v F' H' z=>z.step kq⟩
   . rename_i δ' q;cases Y;exact ⟨⟨K,F,H,fun _=>False⟩,_,F,_,rfl,e7 Z r,q,fun σ' F' H' z=>(z.rt (Step.refl z.fh) (t:=.leaf .non) (S:=fun _=>False) (hX (K:=K) (F:=F')) fun _ y=>y.elim).step kq⟩
   . cases Y
end
def SameX (F F':Hp):Prop:=∀ b o,F b=some o->(∀ ob φ,o≠.frz ob (.ext φ))->F' b=some o
section
variable {K:xA9} {F F':Hp}
theorem SameX.rd (e:SameX F F') (h:Rd F a u) (h1:∀ ob φ,u≠.frz ob (.ext φ)) (h2:∀ φ,u≠.ext φ):Rd F' a u:=by
 rcases h with h | ⟨o,h⟩
 . exact .inl (e _ _ h h1)
 . exact .inr ⟨o,e _ _ h fun ob φ z=>h2 φ (by cases z;rfl)⟩
mutual
theorem Rep.sameX (e:SameX F F'):∀ {d:Dt} {v:V},Rep K F d v->Rep K F' d v
 | .non,v,h=>h
 | .bl _,v,h=>h
 | .int _,v,h=>h
 | .str _,v,h=>h
 | .tup l,v,h=>by unfold Rep at h ⊢;obtain ⟨a,vs,h1,h2,h3⟩:=h;exact ⟨a,vs,h1,h2.imp (fun z=>e _ _ z fun _ _ z=>nomatch z) id,Reps.sameX e h3⟩
 | .lst l,v,h=>by unfold Rep at h ⊢;obtain ⟨a,vs,h1,h2,h3⟩:=h;exact ⟨a,vs,h1,h2.imp (fun z=>e.rd z (fun _ _ z=>nomatch z) fun _ z=>nomatch z) id,Reps.sameX e h3⟩
 | .dct ks l,v,h=>by unfold Rep at h ⊢;obtain ⟨a,vs,h1,h2,h3,h4⟩:=h;exact ⟨a,vs,h1,(e.rd h2 (fun _ _ z=>nomatch z) (fun _ z=>nomatch z)),h3,Reps.sameX e h4⟩
 | .dcT ks l,v,h=>by unfold Rep at h ⊢;obtain ⟨a,vs,h1,h2,h3,h4⟩:=h;exact ⟨a,vs,h1,(e.rd h2 (fun _ _ z=>nomatch z) (fun _ z=>nomatch z)),h3,Reps.sameX e h4⟩
theorem Reps.sameX (e:SameX F F'):∀ {l:List Dt} {vs:List V},Reps K F l vs->Reps K F' l vs
 | [],vs,h=>h
 | d::l,vs,h=>by unfold Reps at h ⊢;obtain ⟨v,ws,h1,h2,h3⟩:=h;exact ⟨v,ws,h1,Rep.sameX e h2,Reps.sameX e h3⟩
end
end
def deC (m:Nat) (ds caps:List Dt):De:=ds.map (fun d=>some (T.leaf d))++(qh4 (m-ds.length-caps.length) none++caps.map (fun d=>some (T.leaf d)))
def i4 (m:Nat) (g:De->Option Out) (caps:List Dt):List Dt->Option T:=fun ds=>match g (deC m ds caps) with
 | some (.rt t)=>some t
 | some (.nx _)=>some (.leaf .non)
 | _=>none
theorem rh {F:Hp} {caps:List Dt} {fs:List V} (fh:Same F H) (r:Reps K F ds vs) (rc:Reps K F caps fs):En ⟨K,F,H,fun _=>False⟩ (deC N.length ds caps) (eF N vs fs) F H:=by
 have Z:=r.length;have hc:=rc.length
 have q:∀ (i:Nat) (t:T),(deC N.length ds caps)[i]?=some (some t)->∃ d v,t=T.leaf d/\Rep K F d v/\(eF N vs fs)[i]?=some (some v):=fun i t h=>by
  unfold deC at h;unfold eF;rw [Z,hc];by_cases hi:i<ds.length
  . rw [qc5 (by simpa using hi),qb3] at h;have Y:ds[i]?=some ds[i]:=by simp [hi]
    rw [Y] at h;cases h;obtain ⟨v,hv,O⟩:=r.get Y;refine ⟨_,v,rfl,O,?_⟩;rw [qc5 (by simp;lia),qb3,hv];rfl
  . rw [qe2 (by simpa using hi),qa1] at h;rw [qe2 (by simp;lia),qa1,Z];by_cases hj:i-ds.length<N.length-ds.length-caps.length
    . rw [qc5 (by simpa using hj),qj4] at h;split at h<;>cases h
    . rw [qe2 (by simpa using hj),ql1,qb3] at h;obtain ⟨d,Y,e⟩:=mS h;cases e;obtain ⟨v,hv,O⟩:=rc.get Y;refine ⟨d,v,rfl,O,?_⟩;rw [qe2 (by simpa using hj),ql1,qb3,hv];rfl
 refine ⟨fh,fun b o h _=>h,Same.refl _,fun b o h=>.inl h,?_,fun i t h=>?_,fun _ _=>False,fun i t v h=>?_,fun i b z=>z.elim,fun i j b z _=>z.elim⟩
 . unfold deC eF;simp [Z,hc]
 . obtain ⟨d,v,_,_,e⟩:=q i t h;exact ⟨v,e⟩
 . obtain ⟨h1,h2⟩:=dY h;obtain ⟨d,v',rfl,O,e⟩:=q i t h1;rw [h2] at e;cases e;exact O
section
variable {P:qc2} {w:World} {K:xA9} {mg:Str->Option Value} {base:Heap} {N ps fr:List Str} {name qual:Str} {params:qi3} {body:List Stmt} {scope:Scope} {f c':Addr} {cl:List (Str×Addr)} {H:Hp} {fs:List V} {doc pm ctv:Value} {fo:Obj} {uf:HO} {k:Nat} {g:De->Option Out} {caps ds:List Dt} {F0:Hp} {t:T}
theorem ClAt.up (C:ClAt H f name qual params body scope cl fr fs c' doc pm ctv fo uf) (h:∀ b o u,H b=some (.frz o u)->H' b=some (.frz o u)):ClAt H' f name qual params body scope cl fr fs c' doc pm ctv fo uf:=⟨h _ _ _ C.fn,C.dat,let ⟨oc,z⟩:=C.cod;⟨oc,h _ _ _ z⟩,fun x c q=>let ⟨o,u,g,d⟩:=C.cel x c q;⟨o,u,h _ _ _ g,d⟩,C.inj,C.len,fun i x v h1 h2=>let ⟨c,o,u,e1,e2,e3⟩:=C.val i x v h1 h2;⟨c,o,u,e1,h _ _ _ e2,e3⟩,C.nms⟩
theorem p5 (S:ClScope N ps fr scope) (ndn:∀ x,∀ y∈scope.names,y.1=x->scope.names.lookup x=some y.2) (C:ClAt H f name qual params body scope cl fr fs c' doc pm ctv fo uf) (rc:Reps K F0 caps fs)
  (hbd:∀ (s:qa4) (us:List Value),us.length=ps.length->qz0 s (xG9 name qual params body scope cl .none .none doc pm none (.ref c') ctv) ⟨us,[]⟩ (ps.zip us))
  (hbody:∀ (A:qd8) (outer:List Env) (s:qa4) (H:Hp),Room k (A.deeper (g8 qual scope s.heap.objs.size f (.ref c') cl))->DS (mI CX0 P w K mg base N qual scope f (.ref c') cl A outer s H E0 fun _ _=>False) body g)
  (hl:ds.length=ps.length) (ht:i4 N.length g caps ds=some t) (A:qd8) (outer:List Env) (s:qa4) (H' F:Hp) (us:List Value) (vs:List V) (Q:VK) (hr:Room (k+1) A) (hp:∀ b o u,H b=some (.frz o u)->H' b=some (.frz o u)) (e0:Env0 P w K mg base A outer s H') (h0:Same F0 F) (fh:Same F H') (r:Vals vs us) (rd:Reps K F ds vs) (kq:KO K F H' t Q) :
  qq1 (model P w) A (.call (.ref f) ⟨us,[]⟩) (CR CX0 outer P w H' s Q E0) s:=by
 have C':=C.up hp;have hvl:vs.length=ps.length:=by rw [rd.length,hl]
 have cn:∀ b,b∈cl.map (·.2)->∃ o u,H' b=some (fJ b o)/\o.data=.cell (some u):=fun b O=>by obtain ⟨x,hx⟩:=hJ O;exact C'.cel x b hx
 have hsx:SameX F (cX F cl):=fun b o e hn=>by
  rw [bF fun z=>?_]
  . exact e
  . obtain ⟨ob,u,g,_⟩:=cn b z;have:=fh b o e;rw [g] at this;exact hn _ _ (qd6 this).symm
 have fh':Same (cX F cl) (cX H' cl):=fun b o e=>by obtain ⟨O,e⟩:=kA e;rw [bF O];exact fh b o e
 have fin:∀ v F2 H2,Rt ⟨K,cX F cl,cX H' cl,fun _=>False⟩ t v F2 H2->(∀ b∈cl.map (·.2),H2 b=none)->Q v (eY H' cl H2):=fun v F2 H2 R hn=>by
  obtain ⟨fh2,prot,old,nw,So,o,hs⟩:=R;have sin:∀ {b:Addr},b∈cl.map (·.2)->eY H' cl H2 b=H' b:=fun O=>if_pos O
  have Z:∀ {b:Addr},b∉cl.map (·.2)->eY H' cl H2 b=H2 b:=fun O=>if_neg O
  let F3:Hp:=eY F cl F2;have tin:∀ {b:Addr},b∈cl.map (·.2)->F3 b=F b:=fun O=>if_pos O
  have Y:∀ {b:Addr},b∉cl.map (·.2)->F3 b=F2 b:=fun O=>if_neg O
  have nF2:∀ b,b∈cl.map (·.2)->F2 b=none:=fun b O=>by
   cases z:F2 b with
   | none=>rfl
   | some u=>have:=fh2 b u z;rw [hn b O] at this;cases this
  have h23:Same F2 F3:=fun b u e=>by
   by_cases O:b∈cl.map (·.2)
   . rw [nF2 b O] at e;cases e
   . rw [Y O];exact e
  have hh23:Same H2 (eY H' cl H2):=fun b u e=>by
   by_cases O:b∈cl.map (·.2)
   . rw [hn b O] at e;cases e
   . rw [Z O];exact e
  refine kq v (eY H' cl H2) F3 So ⟨fun b u e=>?_,fun b u e=>?_,fun b u e=>?_,fun b u e=>?_⟩ (Own.step h23 (fun b u _ e=>hh23 b u e) o) fun b z=>?_
  . by_cases O:b∈cl.map (·.2)
    . rw [sin O];exact e
    . rw [Z O];exact prot b u ((bF O).trans e) id
  . by_cases O:b∈cl.map (·.2)
    . rw [tin O];exact e
    . rw [Y O];exact old b u ((bF O).trans e)
  . by_cases O:b∈cl.map (·.2)
    . rw [tin O] at e;rw [sin O];exact fh b u e
    . rw [Y O] at e;rw [Z O];exact fh2 b u e
  . by_cases O:b∈cl.map (·.2)
    . rw [tin O] at e;exact .inl e
    . rw [Y O] at e;rcases nw b u e with y | y | ⟨ws,y⟩
      . exact .inl ((bF O).symm.trans y)
      . exact .inr (.inl ((bF O).symm.trans (y.elim id qg2)))
      . exact .inr (.inr ⟨ws,(bF O).symm.trans y⟩)
  . obtain ⟨h1,⟨u,h2,nt⟩,h3⟩:=hs b z;have O:b∉cl.map (·.2):=fun y=>by rw [hn b y] at h2;cases h2
    exact ⟨by rw [Y O];exact h1,(bF O).symm.trans (h3.elim id qg2),u,by rw [Z O];exact h2,nt⟩
 have hul:us.length=ps.length:=by rw [<- r.length];exact hvl
 refine tj (CX:=CX0) (E:=E0) S C' ndn hr e0 (hbd s us hul) hvl r fun hr2=>⟨_,hbody A outer s (cX H' cl) hr2,?_⟩
 have en:=rh (N:=N) fh' (rd.sameX hsx) ((rc.same h0).sameX hsx);unfold i4 at ht;split at ht
 . rename_i t' q;cases ht;exact ⟨_,_,_,_,rfl,en,q,fun v F2 H2 R=>fin v F2 H2 R⟩
 . rename_i δ' q;cases ht;exact ⟨_,_,_,_,rfl,en,q,fun σ' F2 H2 z=>fin .non F2 H2 (z.rt (Step.refl z.fh) (t:=.leaf .non) (S:=fun _=>False) (hX (K:=K) (F:=F2)) fun _ y=>y.elim)⟩
 . cases ht
end
end L2
namespace L2
open PySem PySem.Spec PyProof.Rows
structure MadeH (H H':Hp) (f c':Addr) (qual:Str) (fo:Obj):Prop where
 fn:H' f=some (.frz fo (.ext fun h=>h.get? f=some fo))
 cod:∃ oc,H' c'=some (.frz oc (.code qual))
 old:Same H H'
 free:H f=none
noncomputable def tDef (P:Addr) (qs:List ((Nat×Nat)×Str)) (i:Nat) (name qual:Str) (params:qi3) (body:List Stmt) (scope:Scope) (clos:List (Str×Addr)):TS:=fun D σ H=>H P=some (.ctab qs)/\∀ (f c':Addr) (doc pm ctv:Value) (H':Hp),MadeH H H' f c' qual {cls:=.type "function",data:=.func (xG9 name qual params body scope clos .none .none doc pm none (.ref c') ctv)}->D.nx (σ.set i (some (.ref f))) H'
section
variable {X:Cx} {c P:Addr} {qs:List ((Nat×Nat)×Str)} {name qual:Str} {params:qi3} {body:List Stmt} {scope:Scope} {clos:List (Str×Addr)} {pos:Pos} {i:Nat}
theorem Ad (hN:X.N.Nodup) (hi:X.N[i]?=some name) (hx:Loc X.env.scope name) (hfn:X.fn name=true∨X.env.scope.names.lookup name=some .local) (B:TabB X.mg X.base c P) (O:X.env.code=.ref c) (Y:qualnameIn X.env name name=qual) (hq:((pos.line,pos.col),qual)∈qs) (hun:∀ q,((pos.line,pos.col),q)∈qs->q=qual) (hcl:zd8 scope X.env=pure clos)
  (Z:params.defaults=[]) (hk0:params.kw_defaults=[]) (ha:annTrees params none X.env=[]):PS X (.FunctionDef name params body [] none [] scope none name pos) (tDef P qs i name qual params body scope clos):=by
 intro pins s σ H D I h;obtain ⟨hP,q⟩:=h;refine PySem.W.nestDef_K Z hk0 ha ?_;rw [Y];refine v7 I B O hP hq hun hcl fun f c' doc pm ctv H' s' M I'=>?_
 exact gW I' hN hi hx (v:=.ref f) rfl (fun s2 I2=>⟨_,H',I2,q f c' doc pm ctv H' ⟨M.fn,M.cod,fun b o e=>M.old b o e,I.hok.fresh M.lof⟩⟩) hfn
end
def bU (X:Cx) (b:Addr):Prop:=∃ x,X.env.cells.lookup x=some b
open Classical in
def iS (X:Cx) (H:Hp):Hp:=fun b=>if bU X b then none else H b
structure PlusC (X:Cx) (σ:St) (H H':Hp):Prop where
 out:∀ b,¬ bU X b->H' b=H b
 fre:∀ b,bU X b->H b=none
 cel:∀ x c,X.env.cells.lookup x=some c->∃ o v,H' c=some (fJ c o)/\o.data=.cell v/\∀ (i:Nat) (val:V),X.N[i]?=some x->σ[i]?=some (some val)->(X.env.kindOf x=some .cell∨X.env.kindOf x=some .free)->∃ u,v=some u/\RelV val u
variable {H':Hp} {u:Value}
section
variable {X:Cx} {pins:List (Addr×Obj)} {σ:St} {H:Hp} {s:qa4}
theorem mM {b:Addr} (h:bU X b):iS X H b=none:=if_pos h
theorem cz {b:Addr} (h:¬ bU X b):iS X H b=H b:=if_neg h
open Classical in
theorem wc (I:Inv X pins σ H s) (O:∀ b,bU X b->b∉frs X.stack/\∀ o,X.base.get? b≠some o):∃ H',PlusC X σ H H'/\Env0 X.prog X.w X.K X.mg X.base X.A X.stack s H':=by
 let H':Hp:=fun b=>if bU X b then (s.heap.get? b).map (fJ b) else H b
 have hin:∀ {b:Addr},bU X b->H' b=(s.heap.get? b).map (fJ b):=fun h=>if_pos h
 have q:∀ {b:Addr},¬ bU X b->H' b=H b:=fun h=>if_neg h
 have e0:=I.env0;refine ⟨H',⟨fun b h=>q h,fun b ⟨x,Z⟩=>I.freeC x b Z,fun x c e=>?_⟩,⟨e0.frames,e0.mod,fun b o e=>⟨(e0.bs b o e).1,?_⟩,e0.bsz,e0.funs,fun b hb=>?_,fun b u e=>?_,e0.bare,fun p hp=>by rw [q fun ⟨x,Z⟩=>by have:=I.freeC x _ Z;rw [e0.tb p hp] at this;cases this];exact e0.tb p hp⟩⟩
 . obtain ⟨v,o,Y,hd⟩:=I.cell x c e;refine ⟨o,v,by rw [hin ⟨x,e⟩,Y];rfl,hd,fun i val h1 h2 h3=>?_⟩;obtain ⟨m,_,hl⟩:=I.loc;have hv:Vis X.env.scope x:=h3.elim (fun z=>.inr (.inl z)) fun z=>.inr (.inr z)
   obtain ⟨u,ru,lk⟩:=hl i x val h1 h2 hv;rcases lk with ⟨k1,_⟩ | ⟨_,c2,k2,o2,k3,k4⟩
   . rcases h3 with z | z<;>(rw [k1] at z;cases z)
   . rw [e] at k2;cases k2;rw [Y] at k3;cases k3;rw [hd] at k4;cases k4;exact ⟨u,rfl,ru⟩
 . have:¬ bU X b:=fun z=>(O b z).2 o e
   rw [q this];exact (e0.bs b o e).2
 . have:¬ bU X b:=fun z=>(O b z).1 hb
   rw [q this];exact e0.frf b hb
 . have up:∀ c u,H c=some u->H' c=some u:=fun c u z=>by
    rw [q]
    . exact z
    . rintro ⟨x,Z⟩;rw [I.freeC x c Z] at z;cases z
   by_cases hb:bU X b
   . rw [hin hb] at e;obtain ⟨o,Y,rfl⟩:=mS e;exact ⟨Y,Y,⟨o,Y⟩,fun h1 h2 z1 z2=>z2 o z1⟩
   . rw [q hb] at e;exact (I.hok b u e).stay (fun _ _ _ z=>z) (fun c z=>up c _ z) (fun c xs z=>up c _ z) fun c ob xs z=>up c _ z
theorem Inv.afterP {Q:VK} {s':qa4} (I:Inv X pins σ H s) (Z:PlusC X σ H H') (ok':HOk X.prog X.w H' s.heap) (h:CE X.stack X.prog X.w H' s (fun v H2=>(∀ c,bU X c->H2 c=H' c)->Q v (iS X H2)) u s'):EP X pins σ Q u s':=by
 obtain ⟨v,H2,os,bare,un,hok,r,q⟩:=h;obtain ⟨hh,g,d,t,os'⟩:=s';obtain rfl:os'=s.os:=os
 have cel:∀ {b:Addr},bU X b->∃ o,H' b=some (fJ b o)/\s.heap.get? b=some o/\H2 b=some (fJ b o)/\hh.get? b=some o:=fun {b} hb=>by obtain ⟨x,Y⟩:=hb;obtain ⟨o,v,e,_⟩:=Z.cel x b Y;have e2:=un.frzs b o _ e;exact ⟨o,e,(ok' b _ e).1,e2,(hok b _ e2).1⟩
 have nc:∀ {b:Addr} {w:HO},H b=some w->¬ bU X b:=fun {b w} z ⟨x,Y⟩=>by rw [I.freeC x b Y] at z;cases z
 refine ⟨v,iS X H2,I.call (h':=hh) (g':=g) (d':=d) (t':=t) (ch:=[]) ⟨fun b o e n hb Y=>?_,fun b o e n hb Y=>?_,fun b o e n Y=>?_,un.there,fun b xs e=>?_,fun b o w e=>?_,fun b ps e=>?_,fun b qs e=>?_⟩ (fun b w e=>?_) bare (fun b z=>absurd z (by simp)),r,q fun c O=>?_⟩
 . by_cases O:bU X b
   . obtain ⟨o',_,h1,_,h2⟩:=cel O;rw [e] at h1;cases h1;exact h2
   . exact un.keep b o e (by rw [Z.out b O];exact n) hb Y
 . by_cases O:bU X b
   . obtain ⟨o',_,h1,_,h2⟩:=cel O;rw [e] at h1;cases h1;exact ⟨o.slots,h2⟩
   . exact un.slot b o e (by rw [Z.out b O];exact n) hb Y
 . by_cases O:bU X b
   . exact mM O
   . rw [cz O];exact un.free b o e (by rw [Z.out b O];exact n) Y
 . rw [cz (nc e)];exact un.tups b xs (by rw [Z.out b (nc e)];exact e)
 . rw [cz (nc e)];exact un.frzs b o w (by rw [Z.out b (nc e)];exact e)
 . rw [cz (nc e)];exact un.tbls b ps (by rw [Z.out b (nc e)];exact e)
 . rw [cz (nc e)];exact un.cts b qs (by rw [Z.out b (nc e)];exact e)
 . by_cases O:bU X b
   . rw [mM O] at e;cases e
   . rw [cz O] at e
     have up:∀ c u,H2 c=some u->(∀ ob φ,u≠.frz ob (.ext φ))->iS X H2 c=some u:=fun c u z hn=>by
      rw [cz]
      . exact z
      . intro hcc;obtain ⟨o',_,_,h1,_⟩:=cel hcc;rw [z] at h1;exact hn _ _ (qd6 h1)
     exact (hok b w e).stay (fun _ _ _ z=>z) (fun c z=>up c _ z fun _ _ y=>nomatch y) (fun c xs z=>up c _ z fun _ _ y=>nomatch y) fun c ob xs z=>up c _ z fun _ _ y=>nomatch y
 . obtain ⟨o',h1,_,h2,_⟩:=cel O;rw [h1,h2]
end
variable {l:List Dt} {vs:List V}
section
variable {K:xA9} {F H:Hp} {Q:VK}
theorem KO.int {i:Int} (k:KO K F H (.leaf (.int i)) Q) (q:Same F H):Q (.int i) H:=k.leaf.here q fw
theorem KO.bl {i:Bool} (k:KO K F H (.leaf (.bl i)) Q) (q:Same F H):Q (.bl i) H:=k.leaf.here q oB
theorem KO.str {i:Str} (k:KO K F H (.leaf (.str i)) Q) (q:Same F H):Q (.str i) H:=k.leaf.here q jd
theorem KO.tup {p:Addr} (k:KO K F H (.leaf (.tup l)) Q) (q:Same F H) (r:Reps K F l vs) (hp:H p=none):Q (.ref p) (upd H p (.tup vs)):=by refine k.leaf _ _ _ (Step.new q hp) ?_;simp only [Rep];exact ⟨p,vs,rfl,SqT.of aV,r.same (Same.upd (q.free hp))⟩
end
def iT (i j:Int):Bool:=(decide (-(2^64)<i)&&decide (i<2^64))||(decide (-(2^64)<j)&&decide (j<2^64))
theorem we {i j:Int} (h:iT i j=true):CMul i j:=by unfold iT at h;simp only [qi1,qb1,decide_eq_true_eq] at h;exact h
theorem wf {i j:Int} (h1:-1000000000000000000<i) (h2:i<1000000000000000000):iT i j=true:=by unfold iT;simp only [qi1,qb1,decide_eq_true_eq];left;lia
theorem wg {i j:Int} (h1:-1000000000000000000<j) (h2:j<1000000000000000000):iT i j=true:=by unfold iT;simp only [qi1,qb1,decide_eq_true_eq];right;lia
def mN (i j:Int):Bool:=decide (0<=j)&&decide (j<=1000000)&&decide (i.natAbs<2^64)
theorem wj {i j:Int} (h:mN i j=true):zC i j:=by unfold mN at h;simp only [qb1,decide_eq_true_eq] at h;exact ⟨h.1.1,h.1.2,h.2⟩
noncomputable def cJ:Dt->Dt->Option T
 | .int i,.int j=>some (.leaf (.int (i+j)))
 | .str a,.str b=>if a.length+b.length<=qb2 then some (.leaf (.str (a++b))) else none
 | .lst l,.lst m=>if l.length+m.length<=qb2 then some (.lst (l++m)) else none
 | .tup l,.tup m=>if l.length+m.length<=qb2/\l≠[]/\m≠[] then some (.leaf (.tup (l++m))) else none
 | _,_=>none
def jD:Dt->Dt->Option T
 | .int i,.int j=>some (.leaf (.int (i-j)))
 | _,_=>none
def f6:Dt->Dt->Option T
 | .int i,.int j=>if iT i j then some (.leaf (.int (i*j))) else none
 | _,_=>none
def bE:Dt->Dt->Option T
 | .int i,.int j=>if 0<j then some (.leaf (.int (i%j))) else none
 | _,_=>none
def tK:Dt->Dt->Option T
 | .int i,.int j=>if mN i j then some (.leaf (.int (i^j.toNat))) else none
 | _,_=>none
def i5 (f:Int->Int->Bool):Dt->Dt->Option T
 | .int i,.int j=>some (.leaf (.bl (f i j)))
 | _,_=>none
variable {K:xA9} {H F':Hp} {b:Bool} {v:V} {e:Expr} {p2:Pos}
section
variable {X:Cx}
theorem wl:OpR X (qm0 .Add) (fun x y H Q=>∃ l b xs zs,x=.ref l/\y=.ref b/\SqL X.K H l xs/\SqL X.K H b zs/\xs.length+zs.length<=qb2/\∀ p,H p=none->Q (.ref p) (upd H p (.lst (xs++zs)))):=by
 intro pins s σ H x y v u Q I rx ry h;obtain ⟨l,b,xs,zs,rfl,rfl,hH,hB,hz,q⟩:=h;cases rx;cases ry;obtain ⟨its,r,pl,_⟩:=I.list hH;obtain ⟨O,r2,pl2,_⟩:=I.list hB;obtain ⟨⟨cls,dd,data,sl⟩,n,ho,hc,hd0,hd⟩:=pl;obtain ⟨⟨cls2,dd2,data2,sl2⟩,n2,ho2,Y,hd02,Z⟩:=pl2;simp only at hc hd Y Z;subst hc hd Y Z;have e:its.toArray++O.toArray=(its++O).toArray:=by simp
 refine qw5 ⟨_,ho,rfl⟩ ⟨_,ho2,rfl⟩ noFill_list_add seq_list_add PySem.F.slot_list_add PySem.F.entry_list_add (PySem.F.args_list_add_2 _ _) (list_addW l b its.toArray O.toArray n n2 dd dd2 sl sl2 (by rw [qb5,qb5,<- r.length,<- r2.length];exact hz)) ⟨ho,ho2,?_⟩;rw [e];exact ⟨.ref _,_,I.lnew (t':=s.toks) (r.append r2) (by rw [qc8];exact hz),rfl,q _ I.fresh⟩
noncomputable abbrev kH (K:xA9):R2:=fun x y H Q=>(rI0 (fun i j=>.int (i+j)) x y H Q)∨(∃ i j,x=.str i/\y=.str j/\i.length+j.length<=qb2/\Q (.str (i++j)) H)∨(∃ l b xs zs,x=.ref l/\y=.ref b/\SqL K H l xs/\SqL K H b zs/\xs.length+zs.length<=qb2/\∀ p,H p=none->Q (.ref p) (upd H p (.lst (xs++zs))))∨xS K x y H Q
theorem bu:OpR X (qm0 .Add) (kH X.K):=OpR.or zD (OpR.or n6 (OpR.or wl vQ))
theorem cK:R2D K (kH K) cJ:=by
 intro F H x y vx vy Q t O rx ry q k;unfold cJ at q;split at q<;>first | (cases q;done) | skip
 . cases q;cases rx;cases ry;exact .inl ⟨_,_,rfl,rfl,k.int O⟩
 . split at q
   . cases q;cases rx;cases ry;exact .inr (.inl ⟨_,_,rfl,rfl,by assumption,k.str O⟩)
   . cases q
 . split at q
   . rename_i Z;cases q;obtain ⟨a,vs,rfl,h1,h2⟩:=rx;obtain ⟨b,ws,rfl,h3,Y⟩:=ry;exact .inr (.inr (.inl ⟨a,b,vs,ws,rfl,rfl,h1,h3,by rw [h2.length,Y.length];exact Z,fun p hp=>dP k O (h2.append Y) hp⟩))
   . cases q
 . split at q
   . rename_i Z;cases q;obtain ⟨a,vs,rfl,h1,h2⟩:=rx;obtain ⟨b,ws,rfl,h3,Y⟩:=ry;obtain ⟨Z,n1,n2⟩:=Z;refine .inr (.inr (.inr ⟨a,b,vs,ws,rfl,rfl,O.tup h1,O.tup h3,fun z=>?_,by rw [h2.length,Y.length];exact Z,fun z=>?_,fun _ p hp=>k.tup O (h2.append Y) hp⟩))
     . subst z;have:=h2.length;exact n1 (qu0 this.symm)
     . subst z;have:=Y.length;exact absurd (qu0 this.symm) n2
   . cases q
theorem ya:R2D K (rI0 fun i j=>.int (i-j)) jD:=by
 intro F H x y vx vy Q t O Y Z q k;unfold jD at q;split at q<;>first | (cases q;done) | skip
 cases q;cases Y;cases Z;exact ⟨_,_,rfl,rfl,k.int O⟩
theorem jE:R2D K (rI CMul fun i j=>.int (i*j)) f6:=by
 intro F H x y vx vy Q t O Y Z q k;unfold f6 at q;split at q<;>first | (cases q;done) | skip
 split at q
 . cases q;cases Y;cases Z;exact ⟨_,_,rfl,rfl,we (by assumption),k.int O⟩
 . cases q
theorem bH:R2D K (rI (fun _ j=>0<j) fun i j=>.int (i%j)) bE:=by
 intro F H x y vx vy Q t O Y Z q k;unfold bE at q;split at q<;>first | (cases q;done) | skip
 split at q
 . cases q;cases Y;cases Z;exact ⟨_,_,rfl,rfl,by assumption,k.int O⟩
 . cases q
theorem Cg:R2D K (rI zC fun i j=>.int (i^j.toNat)) tK:=by
 intro F H x y vx vy Q t O Y Z q k;unfold tK at q;split at q<;>first | (cases q;done) | skip
 split at q
 . cases q;cases Y;cases Z;exact ⟨_,_,rfl,rfl,wj (by assumption),k.int O⟩
 . cases q
theorem ia {f:Int->Int->Bool}:R2D K (rI0 fun i j=>.bl (f i j)) (i5 f):=by
 intro F H x y vx vy Q t O Y Z q k;unfold i5 at q;split at q<;>first | (cases q;done) | skip
 cases q;cases Y;cases Z;exact ⟨_,_,rfl,rfl,k.bl O⟩
noncomputable def eqD:Dt->Dt->Option Bool
 | .non,.non=>some true
 | .non,.int _=>some false
 | .non,.bl _=>some false
 | .non,.str _=>some false
 | .int _,.non=>some false
 | .bl _,.non=>some false
 | .str _,.non=>some false
 | .int i,.int j=>some (decide (i=j))
 | .bl i,.bl j=>some (decide (i=j))
 | .str i,.str j=>some (decide (i=j))
 | .int _,.str _=>some false
 | .str _,.int _=>some false
 | .bl _,.str _=>some false
 | .str _,.bl _=>some false
 | .tup l,.tup m=>if cmpbs l m&&decide (deeps l<=59) then some (peqs l m) else none
 | .lst l,.lst m=>if cmpbs l m&&decide (deeps l<=59) then some (peqs l m) else none
 | _,_=>none
def gEq (neg:Bool) (x y:Dt):Option T:=(eqD x y).map fun b=>.leaf (.bl (if neg then !b else b))
abbrev rEqA (K:xA9):R2:=fun x y H Q=>rEq x y H Q∨v8 K false x y H Q
abbrev rNeA (K:xA9):R2:=fun x y H Q=>rNe x y H Q∨v8 K true x y H Q
theorem bz {k:Nat} (q:Room k X.A):OpR X (qg5 .Eq) (rEqA X.K):=OpR.or BX (zY q rfl)
theorem f7 {k:Nat} (q:Room k X.A):OpR X (qg5 .NotEq) (rNeA X.K):=OpR.or BY (zZ q rfl)
theorem tM {F:Hp} {x y:Dt} {Y O:V} (fh:Same F H) (Z:RepB K F H x Y) (ry:RepB K F H y O) (h:eqD x y=some b) :
  (zG Y O=true/\b=decide (Y=O))∨(((∃ l m,x=.tup l/\y=.tup m)∨∃ l m,x=.lst l/\y=.lst m)/\eT x y=true/\gH x<=60/\b=peq x y):=by
 unfold eqD at h
 split at h<;>first
  | (cases h;done)
  | (cases h;cases Z;cases ry;left;refine ⟨rfl,?_⟩;simp;done)
  | skip
 . right;split at h
   . rename_i q;simp only [qb1,decide_eq_true_eq] at q;cases h;exact ⟨.inl ⟨_,_,rfl,rfl⟩,by simp only [eT];exact q.1,by simp only [gH];lia,by simp only [peq]⟩
   . cases h
 . right;split at h
   . rename_i q;simp only [qb1,decide_eq_true_eq] at q;cases h;exact ⟨.inr ⟨_,_,rfl,rfl⟩,by simp only [eT];exact q.1,by simp only [gH];lia,by simp only [peq]⟩
   . cases h
theorem dj:R2D K (rEqA K) (gEq false):=by
 intro F H x y vx vy Q t q Y Z O k;unfold gEq at O;obtain ⟨b,hb,O⟩:=mS O;cases O;have kk:Q (.bl b) H:=k.bl q;rcases tM q Y Z hb with ⟨h1,rfl⟩ | ⟨h1,h2,h3,rfl⟩
 . exact .inl ⟨h1,kk⟩
 . exact .inr ⟨x,y,h1,Y.rep q,Z.rep q,h2,h3,kk⟩
theorem mO:R2D K (rNeA K) (gEq true):=by
 intro F H x y vx vy Q t q Y Z O k;unfold gEq at O;obtain ⟨b,hb,O⟩:=mS O;cases O;have kk:Q (.bl (!b)) H:=k.bl q;rcases tM q Y Z hb with ⟨h1,rfl⟩ | ⟨h1,h2,h3,rfl⟩
 . exact .inl ⟨h1,kk⟩
 . exact .inr ⟨x,y,h1,Y.rep q,Z.rep q,h2,h3,kk⟩
def tN:Dt->Bool
 | .non=>true
 | _=>false
def gIs (neg:Bool) (x y:Dt):Option T:=match y with
 | .non=>some (.leaf (.bl (if neg then !tN x else tN x)))
 | _=>none
theorem mP {F:Hp} {x:Dt} (r:RepB K F H x v):tN x=decide (v=.non):=by
 cases x<;>first
  | (cases r;rfl)
  | (obtain ⟨a,vs,rfl,_⟩:=r;rfl)
  | (simp only [RepB,Rep] at r;obtain ⟨a,C,dx,fs,rfl,_⟩:=r;rfl)
theorem tP:R2D K (fun x y H Q=>y=.non/\Q (.bl (decide (x=.non))) H) (gIs false):=by
 intro F H x y vx vy Q t O Y Z q k;cases y<;>first | cases q;done | skip
 cases q;cases Z;refine ⟨rfl,?_⟩;rw [<- mP Y];exact k.bl O
theorem wm:R2D K (fun x y H Q=>y=.non/\Q (.bl (!decide (x=.non))) H) (gIs true):=by
 intro F H x y vx vy Q t O Y Z q k;cases y<;>first | cases q;done | skip
 cases q;cases Z;refine ⟨rfl,?_⟩;rw [<- mP Y];exact k.bl O
def cQ:Dt->Bool
 | .non=>true
 | .bl _=>true
 | .int _=>true
 | .str _=>true
 | _=>false
def eqF:Dt->Dt->Bool
 | .non,.non=>true
 | .bl a,.bl b=>a==b
 | .bl a,.int b=>(if a then 1 else 0)==b
 | .int a,.bl b=>a==(if b then 1 else 0)
 | .int a,.int b=>a==b
 | .str a,.str b=>a==b
 | _,_=>false
def inS (j i:Str):Bool:=!(qr5 j i 0 j.length 1).isEmpty
def inD:Dt->Dt->Option Bool
 | .str i,.str j=>some (inS j i)
 | x,.lst l=>if cQ x&&l.all cQ then some (l.any fun y=>eqF y x) else none
 | x,.tup l=>if cQ x&&l.all cQ then some (l.any fun y=>eqF y x) else none
 | _,_=>none
def gIn (neg:Bool) (x y:Dt):Option T:=(inD x y).map fun b=>.leaf (.bl (if neg then !b else b))
theorem lR {F:Hp} {d:Dt} (r:Rep K F d v) (h:cQ d=true):gx v=true:=by
 cases d<;>simp only [Rep] at r<;>first
  | (subst r;rfl)
  | cases h
theorem Ae {F:Hp} {d e:Dt} {w:V} (r:Rep K F d v) (q:Rep K F' e w) (h:cQ d=true) (h':cQ e=true):eqF d e=eqV v w:=by
 cases d<;>first | cases h;done | skip
 all_goals cases e<;>first | cases h';done | skip
 all_goals simp only [Rep] at r q;subst r q;rfl
theorem jF {F:Hp}:∀ {l:List Dt} {vs:List V},Reps K F l vs->l.all cQ=true->vs.all gx=true
 | [],vs,r,_=>by simp only [Reps] at r;subst r;rfl
 | d::l,vs,r,h=>by simp only [Reps] at r;obtain ⟨v,q,rfl,h1,h2⟩:=r;rw [ql2,qb1] at h ⊢;exact ⟨lR h1 h.1,jF h2 h.2⟩
theorem oE {F:Hp} {x:Dt} {w:V} (O:Rep K F' x w) (q:cQ x=true):∀ {l:List Dt} {vs:List V},Reps K F l vs->l.all cQ=true->(l.any fun y=>eqF y x)=inV w vs
 | [],vs,r,_=>by simp only [Reps] at r;subst r;rfl
 | d::l,vs,r,h=>by simp only [Reps] at r;obtain ⟨v,Y,rfl,h1,h2⟩:=r;rw [ql2,qb1] at h;unfold inV;rw [ql3,ql3,Ae h1 O h.1 q,oE O q h2 h.2];rfl
abbrev tQ (K:xA9) (neg:Bool):R2:=fun x y H Q=>(∃ i j,x=.str i/\y=.str j/\Q (.bl (if neg then !inS j i else inS j i)) H)∨rIn K neg x y H Q
theorem tR:OpR X (qg5 .In) (tQ X.K false):=OpR.or qN qS
theorem rj:OpR X (qg5 .NotIn) (tQ X.K true):=OpR.or lG lF
theorem r_in (neg:Bool):R2D K (tQ K neg) (gIn neg):=by
 intro F H x y vx vy Q t Z rx ry hg k;unfold gIn at hg;obtain ⟨b,Y,hg⟩:=mS hg;cases hg;have kk:=k.bl Z;unfold inD at Y;split at Y<;>first | (cases Y;done) | skip
 . cases Y;cases rx;cases ry;exact .inl ⟨_,_,rfl,rfl,kk⟩
 . split at Y
   . rename_i q;rw [qb1] at q;cases Y;obtain ⟨a,vs,rfl,h1,h2⟩:=ry;have O:=rx.rep Z;rw [oE O q.1 h2 q.2] at kk;exact .inr ⟨a,vs,rfl,.inl h1,lR O q.1,jF h2 q.2,kk⟩
   . cases Y
 . split at Y
   . rename_i q;rw [qb1] at q;cases Y;obtain ⟨a,vs,rfl,h1,h2⟩:=ry;have O:=rx.rep Z;rw [oE O q.1 h2 q.2] at kk;exact .inr ⟨a,vs,rfl,.inr (Z.tup h1),lR O q.1,jF h2 q.2,kk⟩
   . cases Y
theorem mQ {F:Hp} {i:Int} {d:Dt} (r:Reps K F l vs) (h:atI l i=some d):∃ v,atI vs i=some v/\Rep K F d v:=by unfold atI at h ⊢;rw [r.length];obtain ⟨j,q,h⟩:=bS h;obtain ⟨v,e,O⟩:=r.get h;exact ⟨v,by rw [q];exact e,O⟩
def gIx:Dt->Dt->Option T
 | .lst l,.int i=>(atI l i).map .leaf
 | .tup l,.int i=>(atI l i).map .leaf
 | .str x,.int i=>if x.length<=qb2 then (atI x.cps.toList i).map fun c=>.leaf (.str ⟨#[c]⟩) else none
 | _,_=>none
theorem r_ix:R2D K (rIx K) gIx:=by
 intro F H x y vx vy Q t O Y ry q k;unfold gIx at q;split at q<;>first | (cases q;done) | skip
 . obtain ⟨d,Z,q⟩:=mS q;cases q;cases ry;obtain ⟨a,vs,rfl,h1,h2⟩:=Y;obtain ⟨v,e,rv⟩:=mQ h2 Z;exact .inl ⟨a,vs,_,v,rfl,rfl,h1,e,k.leaf.here O rv⟩
 . obtain ⟨d,Z,q⟩:=mS q;cases q;cases ry;obtain ⟨a,vs,rfl,h1,h2⟩:=Y;obtain ⟨v,e,rv⟩:=mQ h2 Z;exact .inr (.inl ⟨a,vs,_,v,rfl,rfl,O.tup h1,e,k.leaf.here O rv⟩)
 . split at q
   . rename_i hl;obtain ⟨c,hc,q⟩:=mS q;cases q;cases Y;cases ry;exact .inr (.inr ⟨_,_,c,rfl,rfl,hl,hc,k.str O⟩)
   . cases q
variable {a b c:Expr} {fa fb fc:De->Option Dt} {pos:Pos}
def lS (l:List Dt) (lo hi:Option Int):List Dt:=(l.drop (HT.sIx l.length 0 lo)).take (HT.sIx l.length l.length hi-HT.sIx l.length 0 lo)
noncomputable def gSl:Dt->Option Int->Option Int->Option T
 | .str x,lo,hi=>if x.length<=qb2 then some (.leaf (.str (Txt.slice x lo hi))) else none
 | .lst l,lo,hi=>some (.lst (lS l lo hi))
 | .tup l,lo,hi=>if HT.sIx l.length 0 lo=0/\HT.sIx l.length l.length hi=l.length then none else some (.leaf (.tup (lS l lo hi)))
 | _,_,_=>none
abbrev rSlA (K:xA9):V->Option Int->Option Int->Hp->VK->Prop:=fun x lo hi H Q=>rSlS x lo hi H Q∨rSlL K x lo hi H Q∨rSlT K x lo hi H Q
theorem Af:SlR X (rSlA X.K):=SlR.or zT (SlR.or vS zN)
theorem mR {F:Hp} (r:Reps K F l vs) (lo hi:Option Int):Reps K F (lS l lo hi) (my vs lo hi):=by unfold lS my;rw [r.length];exact (r.drop _).take _
theorem r_sl {F:Hp} {x:Dt} {lo hi:Option Int} {Q:VK} {t:T} (O:Same F H) (Y:RepB K F H x v) (q:gSl x lo hi=some t) (k:KO K F H t Q):rSlA K v lo hi H Q:=by
 unfold gSl at q;split at q<;>first | (cases q;done) | skip
 . split at q
   . cases q;cases Y;exact .inl ⟨_,rfl,by assumption,k.str O⟩
   . cases q
 . obtain ⟨a,vs,rfl,h1,h2⟩:=Y;cases q;exact .inr (.inl ⟨a,vs,rfl,h1,fun p hp=>dP k O (mR h2 _ _) hp⟩)
 . obtain ⟨a,vs,rfl,h1,h2⟩:=Y;split at q
   . cases q
   . rename_i Z;cases q;rw [<- h2.length] at Z;exact .inr (.inr ⟨a,vs,rfl,O.tup h1,Z,fun p hp=>k.tup O (mR h2 _ _) hp⟩)
def tOD (K:xA9) (f:De->Option (Option Int)):TO:=fun σ H Q=>∃ Φ δ F d,Fm.K Φ=K/\En Φ δ σ F H/\f δ=some d/\∀ H' F',Step F H F' H'->Q d H'
def kJ:De->Option (Option Int):=fun _=>some none
def asI:Dt->Option Int
 | .int i=>some i
 | _=>none
def e8 (f:De->Option Dt):De->Option (Option Int):=fun δ=>(f δ).bind fun d=>(asI d).map some
theorem ib {F:Hp} {x:Dt} {b:Int} (h:asI x=some b) (r:RepB K F H x v):v=.int b:=by
 cases x<;>first | cases h;done | skip
 cases h;exact r
def DP (X:Cx) (e:Option Expr) (f:De->Option (Option Int)):Prop:=PO X e (tOD X.K f)
theorem jf:DP X none kJ:=fun pins s σ H Q I h=>vO pins s σ H Q I (by obtain ⟨Φ,δ,F,d,Y,q,O,k⟩:=h;cases O;exact k H F (Step.refl q.fh))
theorem eQ {f:De->Option Dt} (h:DB X e f):DP X (some e) (e8 f):=fun pins s σ H Q I q=>vP h pins s σ H Q I (by obtain ⟨Φ,δ,F,d,Y,en,O,k⟩:=q;unfold e8 at O;obtain ⟨x,Z,O⟩:=bS O;obtain ⟨i,hi,O⟩:=mS O;cases O;exact ⟨Φ,δ,F,x,Y,en,Z,fun v H' F' st r=>⟨i,ib hi r,k H' F' st⟩⟩)
def vSl (fa:De->Option Dt) (q O:De->Option (Option Int)):De->Option T:=fun δ=>(fa δ).bind fun x=>(q δ).bind fun l=>(O δ).bind fun h=>gSl x l h
theorem e9 {lo hi:Option Expr} {f:De->Option Dt} {fl fh:De->Option (Option Int)} (he:DB X e f) (Z:DP X lo fl) (hh:DP X hi fh):DO X (.Subscript e (.Slice lo hi none p2) pos) (vSl f fl fh):=PE.mono (sF Af he Z hh) fun σ H Q ⟨Φ,δ,F,t,hK,en,q,k⟩=>by unfold vSl at q;obtain ⟨x,hx,q⟩:=bS q;obtain ⟨l,Z,q⟩:=bS q;obtain ⟨h,hh,q⟩:=bS q;exact ⟨Φ,δ,F,x,hK,en,hx,fun v H1 F1 s1 r1=>⟨Φ,δ,F1,l,hK,en.step s1,Z,fun H2 F2 O=>⟨Φ,δ,F2,h,hK,en.step (s1.trans O),hh,fun H3 F3 Y=>r_sl Y.fh (r1.step (O.ff.trans Y.ff) (O.hh.trans Y.hh)) q (k.step ((s1.trans O).trans Y))⟩⟩⟩
def mT (f:De->Option Dt):De->Option T:=fun δ=>(f δ).bind fun d=>(asI d).map fun i=>.leaf (.int (-i))
theorem oF (h:DB X a fa):DO X (.UnaryOp .USub a pos) (mT fa):=PE.mono (BW zF h) fun σ H Q ⟨Φ,δ,F,t,O,Z,q,k⟩=>by unfold mT at q;obtain ⟨x,Y,q⟩:=bS q;obtain ⟨i,hi,q⟩:=mS q;cases q;exact ⟨Φ,δ,F,x,O,Z,Y,fun v H' F' st r=>⟨i,ib hi r,(k.step st).int st.fh⟩⟩
def cR:List Dt->Option T
 | [.str x]=>if x.length<=qb2 then some (.leaf (.int x.length)) else none
 | [.tup l]=>some (.leaf (.int l.length))
 | [.lst l]=>some (.leaf (.int l.length))
 | _=>none
theorem c7 {F:Hp} {d:Dt} (r:mL K F H [d] vs):∃ v,vs=[v]/\RepB K F H d v:=by obtain ⟨v,q,rfl,h1,h2⟩:=r;cases h2;exact ⟨v,rfl,h1⟩
theorem db:CRD K (fun xs H Q=>∃ x n,xs=[x]/\LenV K x H n/\Q (.int n) H) cR:=by
 intro F H ds vs Q t Y r q k;unfold cR at q;split at q<;>first | (cases q;done) | skip
 . split at q
   . rename_i Z;cases q;obtain ⟨v,rfl,O⟩:=c7 r;cases O;exact ⟨_,_,rfl,⟨Z,rfl⟩,k.int Y⟩
   . cases q
 . cases q;obtain ⟨v,rfl,O⟩:=c7 r;obtain ⟨a,vs,rfl,h1,h2⟩:=O;rw [<- h2.length] at k;exact ⟨_,_,rfl,.inr ⟨vs,Y.tup h1,rfl⟩,k.int Y⟩
 . cases q;obtain ⟨v,rfl,O⟩:=c7 r;obtain ⟨a,vs,rfl,h1,h2⟩:=O;rw [<- h2.length] at k;exact ⟨_,_,rfl,.inl ⟨vs,h1,rfl⟩,k.int Y⟩
def iU:List Dt->Option (List Bool)
 | []=>some []
 | .bl b::r=>(iU r).map (b::·)
 | _=>none
theorem mU {F:Hp}:∀ {l:List Dt} {vs:List V} {bs:List Bool},Reps K F l vs->iU l=some bs->vs=bs.map V.bl
 | [],vs,bs,r,h=>by cases h;simp only [Reps] at r;exact r
 | d::l,vs,bs,r,h=>by
  cases d<;>first | cases h;done | skip
  simp only [iU] at h;obtain ⟨cs,q,h⟩:=mS h;cases h;simp only [Reps,Rep] at r;obtain ⟨v,Y,rfl,rfl,O⟩:=r;rw [mU O q];rfl
def mV (f:List Bool->Bool):List Dt->Option T
 | [.lst l]=>(iU l).map fun bs=>.leaf (.bl (f bs))
 | _=>none
theorem yb {f:List Bool->Bool}:CRD K (fun xs H Q=>∃ (a:Addr) (bs:List Bool),xs=[.ref a]/\SqL K H a (bs.map V.bl)/\Q (.bl (f bs)) H) (mV f):=by
 intro F H ds vs Q t O r q k;unfold mV at q;split at q<;>first | (cases q;done) | skip
 obtain ⟨bs,Z,q⟩:=mS q;cases q;obtain ⟨v,rfl,Y⟩:=c7 r;obtain ⟨a,vs,rfl,h1,h2⟩:=Y;have:=mU h2 Z;subst this;exact ⟨a,bs,rfl,h1,k.bl O⟩
def tT:List Dt->Option T
 | [.int i]=>some (.leaf (.int i))
 | [.bl b]=>some (.leaf (.int (if b then 1 else 0)))
 | [.str x]=>(PySem.intText? x).bind fun n=>if x.length<=640 then some (.leaf (.int n)) else none
 | _=>none
abbrev yc:List V->Hp->VK->Prop:=fun xs H Q=>((∃ i,xs=[.int i]/\Q (.int i) H)∨∃ k,xs=[.bl k]/\Q (.int (if k then 1 else 0)) H)∨∃ x n,xs=[.str x]/\PySem.intText? x=some n/\x.length<=640/\Q (.int n) H
theorem kK:CallR X (.type "int") yc:=CallR.or qO lM
theorem yd:CRD K yc tT:=by
 intro F H ds vs Q t Y r q k;unfold tT at q;split at q<;>first | (cases q;done) | skip
 . cases q;obtain ⟨v,rfl,O⟩:=c7 r;cases O;exact .inl (.inl ⟨_,rfl,k.int Y⟩)
 . cases q;obtain ⟨v,rfl,O⟩:=c7 r;cases O;exact .inl (.inr ⟨_,rfl,k.int Y⟩)
 . obtain ⟨n,Z,q⟩:=bS q;split at q
   . cases q;obtain ⟨v,rfl,O⟩:=c7 r;cases O;exact .inr ⟨_,n,rfl,Z,by assumption,k.int Y⟩
   . cases q
def dy:List Dt->Option T
 | [.lst l]=>some (.leaf (.tup l))
 | [.tup l]=>some (.leaf (.tup l))
 | _=>none
theorem eR:CRD K (fun xs H Q=>∃ p ys,xs=[.ref p]/\((SqL K H p ys/\∀ l,H l=none->Q (.ref l) (upd H l (.tup ys)))∨(SqT K H p ys/\Q (.ref p) H))) dy:=by
 intro F H ds vs Q t Y r q k;unfold dy at q;split at q<;>first | (cases q;done) | skip
 . cases q;obtain ⟨v,rfl,O⟩:=c7 r;obtain ⟨a,vs,rfl,h1,h2⟩:=O;exact ⟨a,vs,rfl,.inl ⟨h1,fun p hp=>k.tup Y h2 hp⟩⟩
 . cases q;obtain ⟨v,rfl,O⟩:=c7 r;rename_i l;have Z:Rep K F (.tup l) v:=by simp only [Rep];exact O
   obtain ⟨a,vs,rfl,h1,h2⟩:=O;exact ⟨a,vs,rfl,.inr ⟨Y.tup h1,k.leaf.here Y Z⟩⟩
def p6:List Dt->Option T
 | [.lst l]=>some (.lst l)
 | [.tup l]=>some (.lst l)
 | _=>none
theorem Ag:CRD K (fun xs H Q=>∃ p ys,xs=[.ref p]/\(SqL K H p ys∨SqT K H p ys)/\∀ l,H l=none->Q (.ref l) (upd H l (.lst ys))) p6:=by
 intro F H ds vs Q t O r q k;unfold p6 at q;split at q<;>first | (cases q;done) | skip
 . cases q;obtain ⟨v,rfl,Y⟩:=c7 r;obtain ⟨a,vs,rfl,h1,h2⟩:=Y;exact ⟨a,vs,rfl,.inl h1,fun p hp=>dP k O h2 hp⟩
 . cases q;obtain ⟨v,rfl,Y⟩:=c7 r;obtain ⟨a,vs,rfl,h1,h2⟩:=Y;exact ⟨a,vs,rfl,.inr (O.tup h1),fun p hp=>dP k O h2 hp⟩
end
variable {pins:List (Addr×Obj)} {σ:St} {s:qa4} {A:qd8} {E Q:Value->qa4->Prop} {p1:Pos} {Φ:Fm} {δ:De} {N:List Str}
section
variable {X:Cx} {o a b e c:Expr} {es:List Expr} {fa fb fo fe:De->Option Dt} {fs:De->Option (List Dt)} {pos apos cpos p:Pos} {x:Str} {sc:Scope} {i:Nat}
def tU (K:xA9) (mg:Str->Option Value) (x:Str) (d:Dt):Prop:=∃ v,(∃ u,mg x=some u/\RelV v u)/\∀ F,Rep K F d v
theorem wn {d:Dt} (h:aC sc x=true) (q:tU X.K X.mg x d) (e1:cD X sc:=by rfl):DL X (.Name x pos) (kD d):=by obtain ⟨v,h1,h2⟩:=q;exact tq (jz h h1 e1) h2
def mW:Dt->Bool
 | _=>false
def tyD:Dt->String
 | .non=>"NoneType"
 | .bl _=>"bool"
 | .int _=>"int"
 | .str _=>"str"
 | .tup _=>"tuple"
 | .lst _=>"list"
 | .dct _ _=>"dict"
 | .dcT _ _=>"dict"
def ye (c:String):Dt->Bool
 | .non=>c=="NoneType"
 | .bl _=>c=="bool"||c=="int"
 | .int _=>c=="int"
 | .str _=>c=="str"
 | .tup _=>c=="tuple"
 | .lst _=>c=="list"
 | .dct _ _=>c=="dict"
 | .dcT _ _=>c=="dict"
theorem oG {c:Value} {b:Bool} {d:Dt} (I:Inv X pins σ H s) (q:RelV v u) (r:Rep X.K H d v) (hi:mW d=false) (e:xL9 X.K (.type (tyD d)) c=some b) (h:∀ tk,Q (.bool b) {s with toks:=tk}) :
  wpAny (model X.prog X.w) A (call (.builtin "isinstance") [u,c]) Q E s:=by
 cases d with
 | non=>simp only [Rep] at r;subst r;exact gk I q .non e h
 | bl y=>simp only [Rep] at r;subst r;exact gk I q (.bl y) e h
 | int y=>simp only [Rep] at r;subst r;exact gk I q (.int y) e h
 | str y=>simp only [Rep] at r;subst r;exact gk I q (.str y) e h
 | tup l =>simp only [Rep] at r;obtain ⟨a,vs,rfl,h1,h2⟩:=r;cases q;obtain ⟨its,_,Z,_⟩:=I.tuple h1;obtain ⟨o,O,Y,_⟩:=Z;exact xD9 PySem.W.kitx_tuple I.kIn ⟨o,O,Y⟩ e (fun z=>nomatch z) h
 | lst l =>simp only [Rep] at r;obtain ⟨a,vs,rfl,h1,h2⟩:=r;cases q;obtain ⟨its,_,Z,_⟩:=I.list h1;obtain ⟨o,n,O,Y,_⟩:=Z;exact xD9 xQ9 I.kIn ⟨o,O,Y⟩ e (fun z=>nomatch z) h
 | dct ks l =>simp only [Rep] at r;obtain ⟨a,kvs,rfl,h1,_⟩:=r;cases q;obtain ⟨_,_,vs,_,p⟩:=kt I.hok h1;obtain ⟨o,es,ep,O,Y,_⟩:=p;exact xD9 xM9 I.kIn ⟨o,O,Y.1⟩ e (fun z=>nomatch z) h
 | dcT ks l =>simp only [Rep] at r;obtain ⟨a,kvs,rfl,h1,_⟩:=r;cases q;obtain ⟨_,_,xs,_,o,es,ep,O,Y,_⟩:=(show ObjOk X.prog X.w H s.heap a (.dT kvs) from h1.ok I.hok);exact xD9 xM9 I.kIn ⟨o,O,Y.1⟩ e (fun z=>nomatch z) h
def eJ (K:xA9) (c:String):Prop:=∀ d:Dt,mW d=false->xL9 K (.type (tyD d)) (.type c)=some (ye c d)
theorem oH:CallR X (.builtin "isinstance") (fun xs H Q=>∃ v c d b,xs=[v,.ty c]/\Rep X.K H d v/\mW d=false/\xL9 X.K (.type (tyD d)) (.type c)=some b/\Q (.bl b) H):=by intro pins s σ H xs us Q I r h;obtain ⟨v,c,d,b,rfl,rd,hi,e,q⟩:=h;obtain ⟨u,Z,rfl,Y,O⟩:=B1 r;cases O;exact oG I Y rd hi e fun tk=>⟨.bl b,H,I.tok _,rfl,q⟩
def eL (c:String) (f:De->Option Dt):De->Option T:=fun δ=>(f δ).bind fun d=>if mW d then none else some (.leaf (.bl (ye c d)))
theorem dm {q:Str} {cs:String} (h:aC sc "isinstance"=true) (Z:aC sc q=true) (hm:X.mg "isinstance"=none) (hmc:X.mg q=none) (hv:qd7 q=some (.type cs)) (hk:eJ X.K cs) (ha:DB X a fa) (e1:cD X sc:=by rfl)
 (he:qa9 [a,.Name q p2] X.env=(false,eval a X.env)::qa9 [.Name q p2] X.env:=by rfl) (Y:qa9 [.Name q p2] X.env=(false,eval (.Name q p2) X.env)::qa9 [] X.env:=by rfl) (hpl:(qk0 pos (qa9 [.Name q p2] X.env)).any (·.1)=false:=by rfl) :
  DO X (.Call (.Name "isinstance" p1) [a,.Name q p2] [] pos) (eL cs fa):=
 PE.mono (iE h oH hm j9 (dq ha (dq (tm (v:=.ty cs) Z hmc hv rfl e1) fO Y) he) e1 he hpl) fun σ H Q ⟨Φ,δ,F,t,hK,en,O,k⟩=>by
  unfold eL at O;obtain ⟨d,hd,O⟩:=bS O;cases hi:mW d with
  | true=>rw [hi] at O;cases O
  | false =>rw [hi] at O;cases O;exact ⟨Φ,δ,F,d,hK,en,hd,fun v H' F' st r=>⟨v,cs,d,_,rfl,r.rep st.fh,hi,hk d hi,(k.step st).bl st.fh⟩⟩
def MRD (K:xA9) (r:V->List V->Hp->VK->Prop) (g:Dt->List Dt->Option T):Prop:=∀ F H d v ds vs (Q:VK) t,Same F H->RepB K F H d v->mL K F H ds vs->g d ds=some t->KO K F H t Q->r v vs H Q
def p7 (g:Dt->List Dt->Option T) (fo:De->Option Dt) (fs:De->Option (List Dt)):De->Option T:=fun δ=>(fo δ).bind fun d=>(fs δ).bind fun ds=>g d ds
theorem Ah {name:Str} {id:String} {r:V->List V->Hp->VK->Prop} {g:Dt->List Dt->Option T} (slot:Slot "str" name id) (hty:typeOf (.builtin id)=pure (.type "method_descriptor")) (hm:MtR X id r) (hr:MRD X.K r g) (hg:∀ d ds t,g d ds=some t->∃ z,d=.str z)
  (ho:DB X o fo) (ha:DAB X (e::es) fs)
  (Y:qp3 o name X.env (eval o X.env)=eval o X.env:=by rfl)
  (hfew:((qk0 cpos (qa9 (e::es) X.env)).all (fun x=>!x.1)&&(zh0 cpos (qz3 [] X.env)).all (fun x=>x.1.isSome)
   && decide ((e::es).length+([]:List qx1).length+(if ([]:List qx1).isEmpty then 0 else 1)<30))=true:=by rfl)
  (hline:(apos.endLine==cpos.line)=true:=by rfl) (hs:qa9 (e::es) X.env=(false,eval e X.env)::qa9 es X.env:=by rfl) (q:(qk0 cpos (qa9 es X.env)).any (·.1)=false:=by rfl) :
  DO X (.Call (.Attribute o name apos) (e::es) [] cpos) (p7 g fo fs):=PE.mono (sJ PySem.F.plainAttrs_str slot hty hm ho ha.pa Y hfew hline hs q) fun σ H Q ⟨Φ,δ,F,t,hK,en,Z,k⟩=>by
 unfold p7 at Z;obtain ⟨d,hd,Z⟩:=bS Z;obtain ⟨ds,hds,Z⟩:=bS Z;refine ⟨Φ,δ,F,d,hK,en,hd,fun v H1 F1 st rv=>⟨?_,Φ,δ,F1,ds,hK,en.step st,hds,fun vs H2 F2 O rvs=>hr F2 H2 d v ds vs Q t O.fh (rv.step O.ff O.hh) rvs Z (k.step (st.trans O))⟩⟩;obtain ⟨z,rfl⟩:=hg d ds t Z;cases rv;rfl
def fA:List Dt->Option (List Str)
 | []=>some []
 | .str b::r=>(fA r).map (b::·)
 | _=>none
theorem gl {F:Hp}:∀ {l:List Dt} {vs:List V} {bs:List Str},Reps K F l vs->fA l=some bs->vs=bs.map V.str
 | [],vs,bs,r,h=>by cases h;simp only [Reps] at r;exact r
 | d::l,vs,bs,r,h=>by
  cases d<;>first | cases h;done | skip
  simp only [fA] at h;obtain ⟨cs,q,h⟩:=mS h;cases h;simp only [Reps,Rep] at r;obtain ⟨v,Y,rfl,rfl,O⟩:=r;rw [gl O q];rfl
def gK:Dt->List Dt->Option T
 | .str a,[.lst l]=>(fA l).bind fun ts=>if JoinOk a ts then some (.leaf (.str (Txt.join a ts))) else none
 | _,_=>none
theorem wo:MRD K (fun x vs H Q=>∃ (a:Str) (l:Addr) (ts:List Str),x=.str a/\vs=[.ref l]/\SqL K H l (ts.map V.str)/\JoinOk a ts=true/\Q (.str (Txt.join a ts)) H) gK:=by
 intro F H d v ds vs Q t O rd Z q k;unfold gK at q;split at q<;>first | cases q;done | skip
 obtain ⟨ts,Y,q⟩:=bS q;split at q
 . rename_i hj;cases q;cases rd;obtain ⟨v,rfl,rv⟩:=c7 Z;obtain ⟨a,vs,rfl,h1,h2⟩:=rv;have:=gl h2 Y;subst this;exact ⟨_,a,ts,rfl,rfl,h1,hj,k.str O⟩
 . cases q
theorem oI:∀ d ds t,gK d ds=some t->∃ z,d=.str z:=fun d ds t h=>by
 unfold gK at h;split at h
 . exact ⟨_,rfl⟩
 . cases h
theorem wq (ho:DB X o fo) (ha:DAB X (e::es) fs)
  (O:qp3 o "join" X.env (eval o X.env)=eval o X.env:=by rfl)
  (Z:((qk0 cpos (qa9 (e::es) X.env)).all (fun x=>!x.1)&&(zh0 cpos (qz3 [] X.env)).all (fun x=>x.1.isSome)
   && decide ((e::es).length+([]:List qx1).length+(if ([]:List qx1).isEmpty then 0 else 1)<30))=true:=by rfl)
  (Y:(apos.endLine==cpos.line)=true:=by rfl) (hs:qa9 (e::es) X.env=(false,eval e X.env)::qa9 es X.env:=by rfl) (q:(qk0 cpos (qa9 es X.env)).any (·.1)=false:=by rfl) :
  DO X (.Call (.Attribute o "join" apos) (e::es) [] cpos) (p7 gK fo fs):=Ah PySem.F.slot_str_join PySem.F.type_str_join v5 wo oI ho ha O Z Y hs q
def y16 (i:Nat) (f:De->Option Dt):De->Option Out:=fun δ=>match δ[i]? with
 | some (some (.lst l))=>(f δ).bind fun d=>if l.length<qb2 then some (.nx (δ.set i (some (.lst (l++[d]))))) else none
 | _=>none
theorem En.ownL {F:Hp} (O:En Φ δ σ F H) (h:δ[i]?=some (some (.lst l))):∃ a vs,σ[i]?=some (some (.ref a))/\H a=some (.lst vs)/\Reps Φ.K F l vs:=by obtain ⟨v,q⟩:=O.has i _ h;obtain ⟨S,s⟩:=O.sep;obtain ⟨a,vs,rfl,_,h1,h2⟩:=s.own i _ v (cw h q);exact ⟨a,vs,q,h1,h2⟩
theorem cW (hx:PE X o (gY i)) (he:DL X e fe)
  (Y:qp3 o "append" X.env (eval o X.env)=eval o X.env:=by rfl)
  (hfew:((qk0 cpos (qa9 [e] X.env)).all (fun x=>!x.1)&&(zh0 cpos (qz3 [] X.env)).all (fun x=>x.1.isSome)
   && decide ([e].length+([]:List qx1).length+(if ([]:List qx1).isEmpty then 0 else 1)<30))=true:=by rfl)
  (Z:(apos.endLine==cpos.line)=true:=by rfl) (hs:qa9 [e] X.env=(false,eval e X.env)::qa9 [] X.env:=by rfl) (q:(qk0 cpos (qa9 [] X.env)).any (·.1)=false:=by rfl)
  (hsw:qo4 (.Call (.Attribute o "append" apos) [e] [] cpos) none pos.line X.env=pure false:=by rfl) :
  DS1 X (.Expr (.Call (.Attribute o "append" apos) [e] [] cpos) pos) (y16 i fe):=
 PS.mono (pB (sJ PySem.F.plainAttrs_list PySem.F.slot_list_append PySem.F.type_list_append iB hx (dq he fO hs) Y hfew Z hs q) hsw) fun D σ H ⟨Φ,δ,F,ot,hK,en,O,k⟩=>by
  unfold y16 at O;split at O<;>first | cases O;done | skip
  rename_i l hl;obtain ⟨d,hd,O⟩:=bS O;split at O<;>first | cases O;done | skip
  rename_i hz;cases O;obtain ⟨a,vs,hv,h1,h2⟩:=en.ownL hl;refine ⟨.ref a,hv,.inl ⟨rfl,vs,.inl (.inl h1)⟩,Φ,δ,F,d,hK,en,hd,fun v H1 F1 st rv=>?_⟩;have en1:=en.step st;have h1':=st.hh _ _ h1;refine ⟨a,vs,v,rfl,rfl,h1',by rw [h2.length];exact hz,?_⟩;refine k σ F1 _ (en1.poke hl hv rfl fun S sa=>⟨a,vs++[v],rfl,sa,aV,(h2.same st.ff).append (Reps.one (hK▸rv))⟩)
noncomputable def sPutL (i:Nat) (fk fe:De->Option Dt):De->Option Out:=fun δ=>(fe δ).bind fun d=>(fk δ).bind fun k=>match δ[i]?,k with
 | some (some (.lst l)),.int n=>(ixN l.length n).map fun j=>.nx (δ.set i (some (.lst (l.set j d))))
 | _,_=>none
theorem Reps.set {F:Hp} {d:Dt} (h:Rep K F d v):∀ {l:List Dt} {vs:List V} (j:Nat),Reps K F l vs->Reps K F (l.set j d) (vs.set j v)
 | [],vs,j,r=>by simp only [Reps] at r;subst r;simp [Reps]
 | e::l,vs,0,r=>by simp only [Reps] at r;obtain ⟨w,O,rfl,_,q⟩:=r;simp only [qw8,Reps];exact ⟨v,O,rfl,h,q⟩
 | e::l,vs,j+1,r=>by simp only [Reps] at r;obtain ⟨w,O,rfl,Y,q⟩:=r;simp only [qw9,Reps];exact ⟨w,_,rfl,Y,Reps.set h j q⟩
def tV (f:Int->Int->Int) (i:Nat) (fe:De->Option Dt):De->Option Out:=fun δ=>match δ[i]? with
 | some (some (.leaf (.int n)))=>(fe δ).bind fun d=>(asI d).map fun m=>.nx (δ.set i (some (.leaf (.int (f n m)))))
 | _=>none
theorem Ai {f:Int->Int->Int} {D:Ends} (h:tS K (tV f i fe) D σ H):tAug i (tBd K fe) (ipI f) D σ H:=by
 obtain ⟨Φ,δ,F,ot,hK,O,q,k⟩:=h;unfold tV at q;split at q<;>first | cases q;done | skip
 rename_i n Z;obtain ⟨d,hd,q⟩:=bS q;obtain ⟨m,hm,q⟩:=mS q;cases q;obtain ⟨v,hv,Y⟩:=O.leaf Z;simp only [Rep] at Y;subst Y;exact ⟨_,hv,Φ,δ,F,d,hK,O,hd,fun w H1 F1 st r=>⟨n,m,rfl,ib hm r,k _ F1 H1 ((O.step st).name fw i)⟩⟩
theorem oJ {pos':Pos} (h:dv sc N i x=true) (Z:i0 sc x=true) (nd:N.Nodup) (Y:DB X e fe) (e1:cD X sc:=by rfl) (O:X.N=N:=by rfl) (hf:X.fn x=true∨X.env.scope.names.lookup x=some .local:=by exact .inl rfl) :
  DS1 X (.AugAssign (.Name x pos') .Add e pos) (tV (fun i j=>i+j) i fe):=by
 have e1:X.env.scope=sc:=e1;subst e1 O;exact PS.mono (zw nd (gG h) (jx Z) Y zy hf) fun D σ H q=>Ai q
end
def cY {κ:Type} [DecidableEq κ]:List κ->List Dt->κ->Option Dt
 | k'::ks,d::l,k=>if k'=k then some d else cY ks l k
 | _,_,_=>none
theorem gm {κ:Type} [DecidableEq κ] {F:Hp} {k:κ}:∀ {kvs:List (κ×V)} {l:List Dt} {d:Dt},Reps K F l (kvs.map (·.2))->cY (kvs.map (·.1)) l k=some d->∃ v,eX kvs k=some v/\Rep K F d v
 | [],l,d,r,h=>by cases l<;>cases h
 | p::kvs,[],d,r,h=>by cases h
 | p::kvs,e::l,d,r,h=>by
  simp only [qa5,Reps] at r;obtain ⟨v,ws,Y,O,Z⟩:=r;cases Y;simp only [qa5,cY] at h;by_cases q:p.1=k
  . rw [if_pos q] at h;cases h;exact ⟨p.2,g6 q,O⟩
  . rw [if_neg q] at h;rw [fQ q];exact gm Z h
theorem kL {κ:Type} [DecidableEq κ] {F:Hp} {k:κ}:∀ {kvs:List (κ×V)} {l:List Dt},Reps K F l (kvs.map (·.2))->cY (kvs.map (·.1)) l k=none->eX kvs k=none
 | [],l,r,h=>rfl
 | p::kvs,[],r,h=>by simp only [qa5,Reps] at r;cases r
 | p::kvs,e::l,r,h=>by
  simp only [qa5,Reps] at r;obtain ⟨v,ws,O,Z,Y⟩:=r;cases O;simp only [qa5,cY] at h;by_cases q:p.1=k
  . rw [if_pos q] at h;cases h
  . rw [if_neg q] at h;rw [fQ q];exact kL Y h
def ka:Dt->Option Key
 | .int i=>some (.inl i)
 | .str x=>some (.inr x)
 | _=>none
theorem fB {F:Hp} {d:Dt} {k:Key} (r:RepB K F H d v) (h:ka d=some k):v=kV k:=by
 unfold ka at h;split at h<;>first | (cases h;done) | skip
 . cases h;exact r
 . cases h;exact r
def ax:Dt->Dt->Option T
 | .dct ks l,k=>(ka k).bind fun k=>(cY ks l k).map .leaf
 | x,y=>gIx x y
variable {st:Stmt}
section
variable {X:Cx} {o a b e c:Expr} {es:List Expr} {fa fb fo fe fk:De->Option Dt} {fs:De->Option (List Dt)} {pos apos cpos p:Pos} {x:Str} {sc:Scope} {i:Nat}
theorem aq {k:Nat} (hr:Room k X.A) (ha:DB X a fa) (hb:DB X b fb) (hs:pM b:=by exact fun _ _=>rfl) (hn:sM b:=by exact fun _ _=>rfl):DO X (.Subscript a b pos) (d2 ax fa fb):=
 PE.mono (PE.or (B4 zP ha hb hs) (vW (mE hr) ha hb hn)) fun σ H Q ⟨Φ,δ,F,t,hK,en,q,k⟩=>by
  unfold d2 at q;obtain ⟨x,hx,q⟩:=bS q;obtain ⟨y,hy,q⟩:=bS q;unfold ax at q;split at q
  . rename_i ks l _;obtain ⟨kk,hk,q⟩:=bS q;obtain ⟨d,hd,q⟩:=mS q;cases q;refine .inr ⟨Φ,δ,F,_,hK,en,hx,fun v H1 F1 st rv=>⟨Φ,δ,F1,y,hK,en.step st,hy,fun v2 H2 F2 O Z=>?_⟩⟩;obtain ⟨ad,kvs,rfl,h1,h2,h3⟩:=rv;subst h2;obtain ⟨w,hw,Y⟩:=gm h3 hd;have:=fB Z hk;subst this;exact ⟨ad,w,rfl,.inl ⟨kvs,kk,O.hh.rd h1,rfl,hw.symm⟩,(k.step (st.trans O)).leaf.here O.fh (Y.same O.ff)⟩
  . exact .inl (kF r_ix ⟨Φ,δ,F,t,hK,en,by unfold d2;rw [hx,hy];exact q,k⟩)
def cb (neg:Bool):Dt->Dt->Option T
 | k,.dct ks l=>(ka k).map fun k=>.leaf (.bl (if neg then !(cY ks l k).isSome else (cY ks l k).isSome))
 | x,y=>gIn neg x y
theorem lT {κ:Type} [DecidableEq κ] {F:Hp} {k:κ} {kvs:List (κ×V)} (r:Reps K F l (kvs.map (·.2))):(cY (kvs.map (·.1)) l k).isSome=(eX kvs k).isSome:=by
 cases h:cY (kvs.map (·.1)) l k with
 | none=>rw [kL r h];rfl
 | some d =>obtain ⟨v,e,_⟩:=gm r h;rw [e];rfl
theorem yf {Q:VK} (h:tO K (d2 (cb false) fa fb) σ H Q):tOp (tQ K false) (tBd K fa) (tBd K fb) σ H Q∨tDIn (tBd K fa) (tBd K fb) σ H Q:=by
 obtain ⟨Φ,δ,F,t,Z,en,q,k⟩:=h;unfold d2 at q;obtain ⟨x,hx,q⟩:=bS q;obtain ⟨y,hy,q⟩:=bS q;unfold cb at q;split at q
 . rename_i ks l;obtain ⟨kk,hk,q⟩:=mS q;cases q;refine .inr ⟨Φ,δ,F,x,Z,en,hx,fun v H1 F1 st rv=>⟨Φ,δ,F1,_,Z,en.step st,hy,fun v2 H2 F2 O Y=>?_⟩⟩;obtain ⟨ad,kvs,rfl,h1,h2,h3⟩:=Y;subst h2;have:=fB rv hk;subst this;refine ⟨ad,_,rfl,.inl ⟨kvs,kk,h1,rfl,rfl⟩,?_⟩;rw [<- lT h3];exact (k.step (st.trans O)).bl O.fh
 . exact .inl (kF (r_in false) ⟨Φ,δ,F,t,Z,en,by unfold d2;rw [hx,hy];exact q,k⟩)
theorem tW {Q:VK} (h:tO K (d2 (cb true) fa fb) σ H Q):tOp (tQ K true) (tBd K fa) (tBd K fb) σ H Q∨pO (tBd K fa) (tBd K fb) σ H Q:=by
 obtain ⟨Φ,δ,F,t,Z,en,q,k⟩:=h;unfold d2 at q;obtain ⟨x,hx,q⟩:=bS q;obtain ⟨y,hy,q⟩:=bS q;unfold cb at q;split at q
 . rename_i ks l;obtain ⟨kk,hk,q⟩:=mS q;cases q;refine .inr ⟨Φ,δ,F,x,Z,en,hx,fun v H1 F1 st rv=>⟨Φ,δ,F1,_,Z,en.step st,hy,fun v2 H2 F2 O Y=>?_⟩⟩;obtain ⟨ad,kvs,rfl,h1,h2,h3⟩:=Y;subst h2;have:=fB rv hk;subst this;refine ⟨ad,_,rfl,.inl ⟨kvs,kk,h1,rfl,rfl⟩,?_⟩;rw [<- lT h3];exact (k.step (st.trans O)).bl O.fh
 . exact .inl (kF (r_in true) ⟨Φ,δ,F,t,Z,en,by unfold d2;rw [hx,hy];exact q,k⟩)
theorem yg {k:Nat} (Z:Room k X.A) (O:DB X a fa) (q:DB X b fb) (Y:qh9 .In b=false:=by with_unfolding_all rfl):DO X (.Compare a [.In] [b] pos) (d2 (cb false) fa fb):=PE.mono (PE.or (pI tR O q Y) (zg (sN (mE Z) O q) Y)) fun σ H Q h=>yf h
theorem PT.or {t t':TT} (h:PT X e t) (h':PT X e t'):PT X e (fun σ H Q=>t σ H Q∨t' σ H Q):=fun pins s σ H Q I q=>q.elim (h pins s σ H Q I) (h' pins s σ H Q I)
theorem yh {g:Dt->Dt->Option T} {Q:Bool->Hp->Prop} (h:tTr K (tB2 g fa fb) σ H Q):tO K (d2 g fa fb) σ H (fun v H'=>∃ c,v=.bl c/\Q c H'):=by obtain ⟨Φ,δ,F,t,O,Z,q,k⟩:=h;unfold tB2 at q;obtain ⟨z,Y,q⟩:=bS q;exact ⟨Φ,δ,F,z,O,Z,Y,fun v H' F' S st o hs=>⟨t,pV q o,k H' F' st⟩⟩
theorem jG {k:Nat} (Z:Room k X.A) (O:DB X a fa) (q:DB X b fb) (Y:qh9 .In b=false:=by with_unfolding_all rfl):DT X (.Compare a [.In] [b] pos) (tB2 (cb false) fa fb):=PT.mono (PT.or (lB tR O q Y) (nX (sN (mE Z) O q) Y)) fun σ H Q h=>yf (yh h)
theorem dz {k:Nat} (Z:Room k X.A) (O:DB X a fa) (q:DB X b fb) (Y:qh9 .NotIn b=false:=by with_unfolding_all rfl):DT X (.Compare a [.NotIn] [b] pos) (tB2 (cb true) fa fb):=PT.mono (PT.or (lB rj O q Y) (nX (qW (mE Z) O q) Y)) fun σ H Q h=>tW (yh h)
def yi:De->Option T:=fun _=>some (.dct [])
theorem wt:DO X (.Dict [] [] pos) yi:=PE.mono sO fun σ H Q ⟨Φ,δ,F,t,Y,q,O,k⟩=>by
 cases O;intro p hp;refine k _ _ F (fun b=>b=p) (Step.made q.fh hp) ⟨p,[],rfl,rfl,aV,rfl,by simp [Reps]⟩ fun b z=>?_
 subst z;exact ⟨q.fh.free hp,hp,_,aV,nofun⟩
def i6 {κ:Type} [DecidableEq κ]:List (κ×Dt)->κ->Dt->List (κ×Dt)
 | [],k,d=>[(k,d)]
 | p::l,k,d=>if p.1=k then (p.1,d)::l else p::i6 l k d
noncomputable def ke (i:Nat) (fk fe:De->Option Dt):De->Option Out:=fun δ=>(fe δ).bind fun d=>(fk δ).bind fun k=>match δ[i]? with
 | some (some (.lst l))=>(asI k).bind fun n=>(ixN l.length n).map fun j=>.nx (δ.set i (some (.lst (l.set j d))))
 | some (some (.dct l))=>(ka k).bind fun k=>if l.length<qb2/\(l.map (·.1)).Nodup then some (.nx (δ.set i (some (.dct (i6 l k d))))) else none
 | _=>none
theorem wu {κ:Type} [DecidableEq κ] (k:κ) (v:V):∀ (kvs:List (κ×V)) (l:List (κ×Dt)) (d:Dt),(kvs.map (·.1)).Nodup->kvs.map (·.1)=l.map (·.1)->(dU kvs k v).map (·.1)=(i6 l k d).map (·.1)∧
  ∀ (K:xA9) (F:Hp),Rep K F d v->Reps K F (l.map (·.2)) (kvs.map (·.2))->Reps K F ((i6 l k d).map (·.2)) ((dU kvs k v).map (·.2)):=by
 have key:∀ (kvs:List (κ×V)),(kvs.map (·.1)).Nodup->dU kvs k v=match kvs with | []=>[(k,v)] | p::r=>if p.1=k then (p.1,v)::r else p::dU r k v:=fun kvs Y=>by
  cases kvs with
  | nil=>rfl
  | cons p r =>
   dsimp only;by_cases hp:p.1=k
   . rw [if_pos hp];unfold dU;rw [if_pos (by simp [hp])];simp only [qa5,if_pos hp];congr 1
     have hk:∀ q∈r,¬ q.1=k:=fun q hq z=>by have:=(qh3.mp Y).1;exact this (show p.1∈r.map (·.1) by rw [hp,<- z];exact List.mem_map_of_mem hq)
     exact (List.map_congr_left fun q hq=>if_neg (hk q hq)).trans (List.map_id' r)
   . rw [if_neg hp];unfold dU;have e:(p::r).any (fun kv=>decide (kv.1=k))=r.any fun kv=>decide (kv.1=k):=by simp [hp]
     rw [e];split
     . simp only [qa5,if_neg hp]
     . rfl
 intro kvs;induction kvs with
 | nil =>
  intro l d Y O;cases l with
  | nil=>exact ⟨rfl,fun K F r _=>by simpa [i6,dU] using Reps.one r⟩
  | cons q l=>cases O
 | cons p r ih =>
  intro l d Y O;cases l with
  | nil=>cases O
  | cons q l =>
   simp only [qa5,List.cons.injEq] at O;have hn':=(qh3.mp Y).2;rw [key _ Y];simp only [i6];rw [<- O.1];by_cases hp:p.1=k
   . rw [if_pos hp,if_pos hp];refine ⟨by simp [O.2],fun K F rd Z=>?_⟩;simp only [qa5,Reps] at Z ⊢;obtain ⟨w,ws,hw,r1,r2⟩:=Z;cases hw;exact ⟨_,_,rfl,rd,r2⟩
   . rw [if_neg hp,if_neg hp];obtain ⟨i1,i2⟩:=ih l d hn' O.2;refine ⟨by simp [O.1,i1],fun K F rd Z=>?_⟩;simp only [qa5,Reps] at Z ⊢;obtain ⟨w,ws,hw,r1,r2⟩:=Z;cases hw;exact ⟨_,_,rfl,r1,i2 K F rd r2⟩
theorem PS.or {e:Stmt} {t t':TS} (h:PS X e t) (h':PS X e t'):PS X e (fun σ H Q=>t σ H Q∨t' σ H Q):=fun pins s σ H Q I q=>q.elim (h pins s σ H Q I) (h' pins s σ H Q I)
theorem En.ownD {F:Hp} (O:En Φ δ σ F H) {l:List (Key×Dt)} (h:δ[i]?=some (some (.dct l))):∃ a kvs,σ[i]?=some (some (.ref a))/\H a=some (.dK kvs)/\kvs.map (·.1)=l.map (·.1)/\Reps Φ.K F (l.map (·.2)) (kvs.map (·.2)):=by obtain ⟨v,q⟩:=O.has i _ h;obtain ⟨S,s⟩:=O.sep;obtain ⟨a,vs,rfl,_,h1,h2,h3⟩:=s.own i _ v (cw h q);exact ⟨a,vs,q,h1,h2,h3⟩
theorem lU {k:Nat} {ox ik:Expr} (hr:Room k X.A) (hx:PE X ox (gY i)) (hk:DB X ik fk) (he:DL X e fe)
  (hs:qo4 e (some (.Subscript ox ik apos)) pos.line X.env=pure false:=by rfl)
  (hs1:zf4 [.Subscript ox ik apos] e pos.line X.env=pure false:=by rfl) (hw:zf5 [.Subscript ox ik apos] e X.env=pure none:=by rfl)
  (h1:(qm3 [.Subscript ox ik apos] X.env).map (·.2)=[zc0 (.Subscript ox ik apos) X.env]:=by rfl)
  (ha:∀ v,zc0 (.Subscript ox ik apos) X.env v=(do
   let ov <- zc1 [v] (eval ox X.env);let iv <- zc1 [v,ov] (eval ik X.env)
   standAt apos
   zc1 [v,ov,iv] (setItem ov iv v)
   release [v,ov,iv] []):=by intro _;rfl):DS1 X (.Assign [.Subscript ox ik apos] e pos) (ke i fk fe):=
 PS.mono (PS.or (su he (zt hx hk sG ha) hs1 hw h1) (vX (mE hr) hx hk he hs)) fun D σ H ⟨Φ,δ,F,ot,hK,en,O,k⟩=>by
  unfold ke at O;obtain ⟨d,hd,O⟩:=bS O;obtain ⟨kd,hkd,O⟩:=bS O;split at O<;>first | (cases O;done) | skip
  . rename_i l hl;obtain ⟨n,hn,O⟩:=bS O;obtain ⟨j,hj,O⟩:=mS O;cases O;refine .inl ⟨Φ,δ,F,d,hK,en,hd,fun v H1 F1 st rv=>?_⟩;have Y:=en.step st;obtain ⟨a,vs,hv,h1,h2⟩:=Y.ownL hl;refine ⟨.ref a,hv,Φ,δ,F1,kd,hK,Y,hkd,fun w H2 F2 q rw'=>?_⟩;have Z:=Y.step q;refine ⟨a,vs,n,j,rfl,ib hn rw',q.hh _ _ h1,by rw [h2.length];exact hj,?_⟩;exact k σ F2 _ (Z.poke hl hv rfl fun S sa=>⟨a,_,rfl,sa,aV,Reps.set (hK▸rv.same q.ff) j (h2.same q.ff)⟩)
  . rename_i l hl;obtain ⟨kk,hkk,O⟩:=bS O;split at O<;>first | (cases O;done) | skip
    rename_i hc;cases O;refine .inr ⟨Φ,δ,F,d,hK,en,hd,fun v H1 F1 st rv=>?_⟩;have Y:=en.step st;obtain ⟨a,kvs,hv,h1,h2,h3⟩:=Y.ownD hl;refine ⟨.ref a,hv,Φ,δ,F1,kd,hK,Y,hkd,fun w H2 F2 q rw'=>?_⟩;have Z:=Y.step q;have:=fB rw' hkk;subst this;have hlen:kvs.length=l.length:=by simpa using congrArg qq8 h2
    refine ⟨a,_,rfl,.inl ⟨kvs,kk,q.hh _ _ h1,rfl,by rw [hlen];exact hc.1,rfl⟩,?_⟩;obtain ⟨p1,p2⟩:=wu kk v kvs l d (by rw [h2];exact hc.2) h2;exact k σ F2 _ (Z.poke hl hv rfl fun S sa=>⟨a,_,rfl,sa,aV,p1,p2 _ _ (hK▸rv.same q.ff) (h3.same q.ff)⟩)
def cT:De->Option Out:=fun _=>none
theorem cA:DS1 X st cT:=fun pins s σ H D I h=>by obtain ⟨Φ,δ,F,o,O,Y,q,k⟩:=h;cases q
end
section
variable {prog:qc2} {w:World} {A:qd8} {E:Value->qa4->Prop} {s:qa4} {I t:Addr} {j:Nat} {vs:Array Value}
theorem oK {y:Value} (hI:s.heap.IsTupleIter I t j) (hv:s.heap.IsTuple t vs) (hy:vs[j]?=some y)
 (q:∀ h',h'.IsTupleIter I t (j+1)->qn2 I s.heap h'->Q y {s with heap:=h'}):wpAny (model prog w) A (ql7 (.ref I)) Q E s:=by
 obtain ⟨oi,Y,hci,O⟩:=id hI;obtain ⟨ot,Z,_,nt,hdt⟩:=hv;unfold ql7;refine wB (qe7 (name:=qa0 "__next__") hI.typeIs qk6 (qf1 qk6 hI.typeIs qv7 ?_ (qu7 _)));show wpAny _ _ (field (.ref I) 0 >>= _) _ _ s;refine wB (qs7 Y O (x:=.ref t) rfl ?_);show wpAny _ _ (if (qe9 t==qh2)=true then _ else _) _ _ s;rw [if_neg (show ¬ (qe9 t==qh2)=true by exact qb6)];show wpAny _ _ (field (.ref I) 1 >>= _) _ _ s;refine wB (qs7 Y O (x:=.int j 0) rfl ?_);show wpAny _ _ (seqItems? (.ref t) >>= _) _ _ s;refine wB (qt3 Z hdt ?_);simp only [qd5,hy];refine qg9 (qi7 Y O (by simp) (qa2 ⟨y,rfl,qa2 (q _ ?_ (qe5 ..))⟩));exact ⟨_,qe3 _ Y (qh6 (qe0 O _)),(qp6 ..).trans hci,by rw [qe0 O];simp [qf3]⟩
theorem rl (hh:A.handled=none) (hI:s.heap.IsTupleIter I t j) (hv:s.heap.IsTuple t vs) (hy:vs[j]?=none)
 (q:∀ h' e,ze9 I s.heap h'->(∃ o,h'.get? e=some o/\o.cls=.type "StopIteration")->E (.ref e) {s with heap:=h'}):wpAny (model prog w) A (ql7 (.ref I)) Q E s:=by
 obtain ⟨oi,O,hci,Y⟩:=id hI;obtain ⟨ot,Z,_,nt,hdt⟩:=hv;unfold ql7;refine wB (qe7 (name:=qa0 "__next__") hI.typeIs qk6 (qf1 qk6 hI.typeIs qv7 ?_ (qu7 _)));show wpAny _ _ (field (.ref I) 0 >>= _) _ _ s;refine wB (qs7 O Y (x:=.ref t) rfl ?_);show wpAny _ _ (if (qe9 t==qh2)=true then _ else _) _ _ s;rw [if_neg (show ¬ (qe9 t==qh2)=true by exact qb6)];show wpAny _ _ (field (.ref I) 1 >>= _) _ _ s;refine wB (qs7 O Y (x:=.int j 0) rfl ?_);show wpAny _ _ (seqItems? (.ref t) >>= _) _ _ s;refine wB (qt3 Z hdt ?_);simp only [qd5,hy];refine qg9 (zg3 (qg9 (qi7 O Y (by simp) ?_)));show wpAny _ _ (zf8 (.type "StopIteration") [] >>= _) _ _ _;refine wB ?_;simp only [zf8,zh1];refine wB (qd1 ?_ (by first | size_fits | decide));refine qg9 (m:=ql8 _ _) (qz5 (a:=qh2) (by first | rfl | (simp only [ql8]<;>rfl)) ?_);refine qd1 ?_ (by first | size_fits | decide);simp only [zf9];refine wB (qz6 ?_)
 first | rw [hh] | rw [show A.in1.handled=none by exact hh]
 refine wB (qa2 (zf0 ?_));exact q _ _ (((qe5 ..).extBut.push _).push _) ⟨_,qa8 _ rfl,rfl⟩
end
variable {prog:qc2} {w:World}
theorem mX (hh:A.handled=none) (I t:Addr) (q:t≠I) (vs:Array Value):Draws prog w A I [I,t] vs.size (fun i v=>vs[i]?=some v) (fun i h=>h.IsTupleIter I t i/\h.IsTuple t vs) where
 live:=fun _ _ st=>let ⟨o,ho,_⟩:=st.1;⟨o,ho⟩
 frame:=fun _ _ _ st O=>⟨let ⟨o,ho,r⟩:=st.1;⟨o,O I (by simp) o ho,r⟩,let ⟨o,ho,r⟩:=st.2;⟨o,O t (by simp) o ho,r⟩⟩
 item:=fun i s Q E hi st Y=>oK st.1 st.2 (y:=vs[i]) (by simp [hi]) fun h' a b=>Y _ h' s.toks (by simp [hi]) ⟨a,let ⟨o,ho,r⟩:=st.2;⟨o,b.extBut _ _ q ho,r⟩⟩ b
 done:=fun s Q E st Z=>rl hh st.1 st.2 (by simp) Z
def SqB (b:Bool) (K:xA9) (H:Hp) (a:Addr) (xs:List V):Prop:=match b with
 | true=>SqL K H a xs
 | false=>SqT K H a xs
def ItB (b:Bool) (h:Heap) (I a:Addr) (i:Nat):Prop:=match b with
 | true=>h.IsListIter I a i
 | false=>h.IsTupleIter I a i
def CoB (b:Bool) (h:Heap) (a:Addr) (vs:Array Value):Prop:=match b with
 | true=>h.IsList a vs
 | false=>h.IsTuple a vs
variable {h:Heap} {I a:Addr} {i:Nat}
theorem ItB.obj (x:ItB b h I a i):∃ o,h.get? I=some o/\(o.cls=.type "list_iterator"∨o.cls=.type "tuple_iterator")/\∀ v,o.data≠.cell v:=by
 cases b with
 | true=>obtain ⟨o,e,c,d⟩:=x;exact ⟨o,e,.inl c,fun v z=>by rw [d] at z;cases z⟩
 | false=>obtain ⟨o,e,c,d⟩:=x;exact ⟨o,e,.inr c,fun v z=>by rw [d] at z;cases z⟩
variable {h':Heap}
theorem ItB.at (x:ItB b h I a i) (k:∀ o,h.get? I=some o->h'.get? I=some o):ItB b h' I a i:=by
 cases b with
 | true=>obtain ⟨o,e,r⟩:=x;exact ⟨o,k o e,r⟩
 | false=>obtain ⟨o,e,r⟩:=x;exact ⟨o,k o e,r⟩
theorem CoB.obj {vs:Array Value} (x:CoB b h a vs):∃ o,h.get? a=some o/\(o.cls=.type "list"∨o.cls=.type "tuple"):=by
 cases b with
 | true=>obtain ⟨o,e,c,_⟩:=x;exact ⟨o,e,.inl c⟩
 | false=>obtain ⟨o,e,c,_⟩:=x;exact ⟨o,e,.inr c⟩
theorem yj {x y:String} (h:x≠y):qj6 x≠qj6 y:=fun z=>h (by cases z;rfl)
theorem tX {c:Bool} {l:Addr} {vs:Array Value} (x:ItB b h I a i) (y:CoB c h l vs):l≠I:=by obtain ⟨o,Z,O,_⟩:=x.obj;obtain ⟨o',Y,q⟩:=y.obj;rintro rfl;rw [Z] at Y;cases Y;rcases O with O | O<;>rcases q with q | q<;>rw [O] at q<;>exact absurd q (yj (by decide))
variable {t':Nat} {fp:List Addr}
section
variable {X:Cx} {pins:List (Addr×Obj)} {σ:St} {H:Hp} {s:qa4} {a I:Addr} {xs:List V} {b:Bool}
theorem Inv.seqB (J:Inv X pins σ H s) (h:SqB b X.K H a xs):∃ its:List Value,Vals xs its/\CoB b s.heap a its.toArray:=by
 cases b with
 | true=>obtain ⟨its,r,p,_⟩:=J.list h;exact ⟨its,r,p.isList⟩
 | false=>obtain ⟨its,r,p,_⟩:=J.tuple h;exact ⟨its,r,p⟩
theorem Inv.seqB_inj {ys:List V} (J:Inv X pins σ H s) (h:SqB b X.K H a xs) (h':SqB b X.K H a ys):xs=ys:=by
 cases b with
 | true=>exact J.list_inj h h'
 | false=>exact J.tuple_inj h h'
theorem tY (O:A.handled=none) (q:a≠I) (vs:Array Value):Draws prog w A I [I,a] vs.size (fun i v=>vs[i]?=some v) (fun i h=>ItB b h I a i/\CoB b h a vs):=by
 cases b with
 | true=>exact Draws.list O I a q vs
 | false=>exact mX O I a q vs
theorem Inv.turnedL (J:Inv X pins σ H s) (k:∀ b o,b∉fp->s.heap.get? b=some o->h'.get? b=some o) (Y:∀ b∈fp,gu X pins H b):Inv X pins σ H {s with heap:=h',toks:=t'}:=by
 have Z:∀ b u,H b=some u->b∉fp:=fun b u e z=>by rw [(Y b z).1] at e;cases e
 refine J.step (g':=s.gens) (d':=s.drawn) (ch:=fp) (fun b hb=>?_) (fun b o _ _ O e _=>k b o O e) (fun b o _ _ O e _=>⟨o.slots,k b o O e⟩) (fun _ _ _ _ n=>n)
  (fun b o O e=>⟨o,k b o O e⟩) (fun _ _ e=>e) (fun _ _ _ e=>e) (fun b ps e=>⟨#[],by rw [e];simp⟩) (fun _ _ e=>e) (fun m hm=>?_) (fun b u e=>?_) J.bare
 . exact ⟨(Y b hb).2.2.2.1,(Y b hb).2.1,(Y b hb).2.2.2.2.1,(Y b hb).2.2.2.2.2⟩
 . obtain ⟨o,es,ep,ho,r⟩:=hm;exact ⟨o,es,ep,k _ o (fun z=>(Y _ z).2.1 rfl) ho,r⟩
 . refine (J.hok b u e).stay (fun c v O q=>k c v ?_ q) (fun _ q=>q) (fun _ _ q=>q) fun _ _ _ q=>q
   rcases O with z | z
   . rw [z];exact Z b u e
   . exact Z c _ z
end
section
variable {X:Cx} {pins:List (Addr×Obj)} {σ:St} {H:Hp} {s:qa4}
theorem Inv.turnedT {t:Addr} {u:HO} (J:Inv X pins σ H s) (k:∀ b o,b∉fp->s.heap.get? b=some o->h'.get? b=some o) (hf:∀ b∈fp,gu X pins H b) (ht:s.heap.objs.size<=t) (new:ObjOk X.prog X.w (upd H t u) h' t u) :
  Inv X pins σ (upd H t u) {s with heap:=h',toks:=t'}:=by
 have nit:∀ b u,H b=some u->b∉fp:=fun b u e z=>by rw [(hf b z).1] at e;cases e
 have hn:H t=none:=J.hok.fresh ht;have O:∀ b v,H b=some v->b≠t:=fun b v e=>bM e hn
 have nlt:∀ b o,s.heap.get? b=some o->b≠t:=fun b o e z=>by subst z;exact absurd (qa7 e) (qy2.mpr ht)
 refine J.step (g':=s.gens) (d':=s.drawn) (ch:=fp) (fun b Y=>?_) (fun b o _ _ Z e _=>k b o Z e) (fun b o _ _ Z e _=>⟨o.slots,k b o Z e⟩) (fun b o _ e n=>by rw [aH (nlt b o e)];exact n)
  (fun b o Z e=>⟨o,k b o Z e⟩) (fun b xs e=>by rw [aH (O b _ e)];exact e) (fun b o v e=>by rw [aH (O b _ e)];exact e) (fun b ps e=>⟨#[],by rw [aH (O b _ e),e];simp⟩) (fun b xs e=>by rw [aH (O b _ e)];exact e) (fun m hm=>?_) (fun b v e=>?_) J.bare
 . exact ⟨(hf b Y).2.2.2.1,(hf b Y).2.1,(hf b Y).2.2.2.2.1,(hf b Y).2.2.2.2.2⟩
 . obtain ⟨o,es,ep,ho,r⟩:=hm;exact ⟨o,es,ep,k _ o (fun z=>(hf _ z).2.1 rfl) ho,r⟩
 . by_cases Y:b=t
   . subst Y;rw [aV] at e;cases e;exact new
   . rw [aH Y] at e;refine (J.hok b v e).stay (fun c ob Z q=>k c ob ?_ q) (fun c q=>by rw [aH (O c _ q)];exact q) (fun c ys q=>by rw [aH (O c _ q)];exact q) fun c ob ys q=>by rw [aH (O c _ q)];exact q
     rcases Z with z | z
     . rw [z];exact nit b v e
     . exact nit c _ z
end
noncomputable def Ite (b:Bool) (K:xA9) (a:Addr):It:=⟨fun i H=>∃ xs x,SqB b K H a xs/\xs[i]?=some x,fun i H x H'=>∃ t v,H t=none/\x=.ref t/\H'=upd H t (.tup [.int i,v])/\∀ xs,SqB b K H a xs->xs[i]?=some v,fun i H=>∃ xs,SqB b K H a xs/\xs.length=i⟩
variable {P:qc2} {n:Nat} {pos:Pos}
theorem rm {elts:List Expr} (b:Bool) (a e I:Addr) (hne:e≠I) :
  Turn P w K (.Tuple elts n pos) (Ite b K a) [e,I] e (fun i h=>(∃ old,IsEnum h e I i old)/\ItB b h I a i) where
 mem:=by simp
 obj:=fun i h st c hc=>by
  obtain ⟨⟨old,Y⟩,Z⟩:=st;simp only [qa6,qk8,or_false] at hc;rcases hc with rfl | rfl
  . exact ⟨_,Y,fun v z=>nomatch z⟩
  . obtain ⟨o,q,_,d⟩:=Z.obj;exact ⟨o,q,d⟩
 keep:=fun i h h' st k=>by obtain ⟨⟨old,Y⟩,Z⟩:=st;exact ⟨⟨old,k e (by simp) _ Y⟩,Z.at fun o q=>k I (by simp) o q⟩
 item:=by
  intro X hP hw hK hc i pins s σ H E J hf st hg;subst hP hw hK;obtain ⟨⟨old,Y⟩,Z⟩:=st;obtain ⟨xs,x,hq,hx⟩:=hg;obtain ⟨its,rv,co⟩:=J.seqB hq;obtain ⟨u,hu,ru⟩:=rv.get hx;have hi:i<its.toArray.size:=by simpa using (gX hu).1
  have hae:e∉[I,a]:=by simp only [qa6,qk8,or_false,not_or];refine ⟨hne,fun z=>?_⟩;obtain ⟨o,q,c⟩:=co.obj;rw [<- z,Y] at q;cases q;rcases c with c | c<;>exact absurd c (yj (by decide))
  refine wpAny_pyNext_enum_itemD (tY (A:=X.A.in1) (b:=b) (I:=I) (a:=a) (show X.A.in1.handled=none from J.ok.hd hc) (tX Z co) its.toArray) Y ⟨Z,co⟩ hi hne hae fun y h1 tk hy ho hs1 hT hsz hk=>⟨_,rfl,?_⟩
  have ey:y=u:=by rw [show its.toArray[i]?=its[i]? by simp,hu] at hy;exact (qd6 hy).symm
  subst ey;refine wpAny_letOwnedTupleGo_enum ho fun h2 he2 sb2=>?_
  have kk:∀ c o,c∉[e,I]->s.heap.get? c=some o->h2.get? c=some o:=fun c o O q=>by simp only [qa6,qk8,or_false,not_or] at O;exact (sb2.2 c O.1).trans (hk c o O.1 O.2 q)
  have lt:∀ c∈[e,I],c<s.heap.objs.size:=fun c O=>by
   simp only [qa6,qk8,or_false] at O;rcases O with rfl | rfl
   . exact qa7 Y
   . obtain ⟨o,q,_⟩:=Z.obj;exact qa7 q
  -- first the records,then the pair
  have hT2:h2.get? s.heap.objs.size=some {cls:=.type "tuple",data:=.seq #[.int i tk,y]}:=(sb2.2 _ (fun z=>qk9 _ (z▸lt e (by simp)))).trans hT
  have J2:Inv X pins σ (upd H s.heap.objs.size (.tup [.int i,x])) {s with heap:=h2,toks:=tk+1}:=by refine J.turnedT kk hf (nL _) ⟨by show 2<=qb2;decide,[.int i tk,y],.cons ⟨_,rfl⟩ (.cons ru .nil),?_⟩;exact ⟨_,hT2,rfl,_,rfl⟩
  refine ⟨.ref s.heap.objs.size,_,J2,rfl,⟨_,x,J.hok.fresh (qn3 _),rfl,rfl,fun ys hy=>by rw [J.seqB_inj hy hq];exact hx⟩,⟨⟨_,by simpa using he2⟩,hs1.1.at fun o q=>(sb2.2 I (qq0 hne)).trans q⟩,fun c O=>?_⟩;rw [aH (qb8 (lt c O))];exact (hf c O).1
 done:=by
  intro X hP hw hK hc i pins s σ H E J hf st hg;subst hP hw hK;obtain ⟨⟨old,Y⟩,Z⟩:=st;obtain ⟨xs,hq,hx⟩:=hg;obtain ⟨its,rv,co⟩:=J.seqB hq;have hi:i=its.toArray.size:=by rw [<- hx];simpa using rv.length
  refine wpAny_pyNext_enum_endD (tY (A:=X.A.in1) (b:=b) (I:=I) (a:=a) (show X.A.in1.handled=none from J.ok.hd hc) (tX Z co) its.toArray) Y (show ItB b s.heap I a its.toArray.size/\CoB b s.heap a its.toArray from ⟨hi▸Z,co⟩) fun h' eb=>⟨rfl,?_⟩
  exact J.turnedL (t':=s.toks) (fun c o O q=>eb c o (fun z=>O (by simp [z])) q) hf
 self:=fun A i s Q E st h=>by obtain ⟨⟨old,Y⟩,Z⟩:=st;exact wpAny_pyIter_enum Y h
theorem mY (t:Addr) (vs:Array Value) (n:Nat) (dd:Option Addr) (sl:Array (Option Value)) :
  Meets (qj0.«enumerate.__new__» ⟨[.type "enumerate",.ref t],[]⟩) (fun _ R s=>s.heap.get? t=some {cls:=.type "tuple",dict:=dd,data:=.seq vs n,slots:=sl}∧
   R (.ok (.ret (.ref (s.heap.push {cls:=.type "tuple_iterator",data:=.fields #[.ref t,.int 0 0]}).objs.size)))
    {s with heap:=(s.heap.push {cls:=.type "tuple_iterator",data:=.fields #[.ref t,.int 0 0]}).push {cls:=.type "enumerate",data:=.fields #[.none,.bool false,.ref s.heap.objs.size,qf3 0,.none,.none]}}):=
 .of_wp fun prog w A R s h=>by
  obtain ⟨hp,g,d,tk,Z⟩:=s;obtain ⟨q,h⟩:=h;have Y:=sub_enumerate;have O:Heap.IsTuple (qa4.heap ⟨hp,g,d,tk,Z⟩) t vs:=⟨_,q,rfl,n,rfl⟩;wp_walk using qr3 q;refine wpAny_stack_any fun st=>qa2 ?_
  split
  . rename_i c _ _ _ _ _;cases (c==qj6 "enumerate")<;>(wp_walk using qr3 q,qw3 O)<;>exact ⟨_,rfl,h⟩
  . (wp_walk using qr3 q,qw3 O)<;>exact ⟨_,rfl,h⟩
section
variable {prog:qc2} {w:World} {A:qd8} {E:Value->qa4->Prop} {s:qa4}
theorem oM {t:Addr} {vs:Array Value} (hT:s.heap.IsTuple t vs)
 (h:∀ h',IsEnum h' (s.heap.objs.size+1) s.heap.objs.size 0 .none->h'.IsTupleIter s.heap.objs.size t 0->h'.objs.size=s.heap.objs.size+2→
 (∀ c u,s.heap.get? c=some u->h'.get? c=some u)->Q (.ref (s.heap.objs.size+1)) {s with heap:=h'}) :
  wpAny (model prog w) A (call (.type "enumerate") [.ref t]) Q E s:=by
 obtain ⟨⟨c,dct,dt,sl⟩,hl,hc,n,Y⟩:=hT;have hc:c=.type "tuple":=hc;have Y:dt=.seq vs n:=Y;subst hc Y;refine callType_new F.called_enumerate (by decide) (F.typeCall_enumerate_1 _) (F.newCall_enumerate_1 _) (fun obj=>F.args_object_init_2 obj _) F.entry_enumerate_new (mY t vs n dct sl) ⟨hl,?_⟩;have Z:(s.heap.push {cls:=.type "tuple_iterator",data:=.fields #[.ref t,.int 0 0]}).objs.size=s.heap.objs.size+1:=qf6 ..;have O:((s.heap.push {cls:=.type "tuple_iterator",data:=.fields #[.ref t,.int 0 0]}).push {cls:=.type "enumerate",data:=.fields #[.none,.bool false,.ref s.heap.objs.size,qf3 0,.none,.none]}).objs.size=s.heap.objs.size+2:=by rw [qf6,Z]
 rw [Z];have q:=qa8 (s.heap.push {cls:=.type "tuple_iterator",data:=.fields #[.ref t,.int 0 0]}) (o:={cls:=.type "enumerate",data:=.fields #[.none,.bool false,.ref s.heap.objs.size,qf3 0,.none,.none]}) rfl;rw [Z] at q;exact ⟨⟨_,q,rfl⟩,h _ q ⟨_,gP _ (qa8 _ rfl),rfl,rfl⟩ O fun c u z=>gP _ (gP _ z)⟩
theorem oN {t:Addr} {vs:Array Value} (q:CoB b s.heap t vs)
 (h:∀ h',IsEnum h' (s.heap.objs.size+1) s.heap.objs.size 0 .none->ItB b h' s.heap.objs.size t 0->h'.objs.size=s.heap.objs.size+2→
 (∀ c u,s.heap.get? c=some u->h'.get? c=some u)->Q (.ref (s.heap.objs.size+1)) {s with heap:=h'}) :
  wpAny (model prog w) A (call (.type "enumerate") [.ref t]) Q E s:=by
 cases b with
 | true=>exact call_enumerate_list q h
 | false=>exact oM q h
end
variable {ta:TA}
section
variable {X:Cx} {x:Expr} {p pos tpos:Pos} {sc:Scope} {fs:De->Option (List Dt)} {elts:List Expr} {n:Nat}
def Ch (K:xA9) (ta:TA):TI:=fun σ H R=>ta σ H fun vs H1=>∃ b a xs,vs=[.ref a]/\SqB b K H1 a xs/\R (Ite b K a) H1
theorem wv (h:aC sc "enumerate"=true) (hm:X.mg "enumerate"=none) (ha:PA X [x] ta) (e1:cD X sc:=by rfl) (hs:qa9 [x] X.env=[(false,eval x X.env)]:=by rfl) :
  PI X (.Tuple elts n tpos) (.Call (.Name "enumerate" p) [x] [] pos) (Ch X.K ta):=by
 intro pins s σ H R I h';refine Call_ (fq I (glD h e1) hm lN (qf4 (thn (ha pos pins s σ H _ I h') fun us s1 ⟨vs,H1,Y,r1,q1⟩=>?_) hs rfl));obtain ⟨b,a,xs,rfl,hq,q⟩:=q1;obtain ⟨u,rfl,ru⟩:=eD r1;cases ru;obtain ⟨its,rv,co⟩:=Y.seqB hq;refine oN co fun h2 Z hi hz hk=>wpAny_pyIter_enum Z ?_
 have I2:Inv X pins σ H1 {s1 with heap:=h2}:=Y.kept (t':=s1.toks) hk;refine ⟨s1.heap.objs.size+1,[s1.heap.objs.size+1,s1.heap.objs.size],_,_,H1,rfl,I2,rm b a _ _ (ql0 (qn6 _)),⟨⟨_,Z⟩,hi⟩,fun c hc=>?_,q⟩
 have O:s1.heap.objs.size<=c:=by
  simp only [qa6,qk8,or_false] at hc;rcases hc with rfl | rfl
  . exact qs9 _
  . exact nL _
 exact Y.fpOk O (Y.hok.fresh O)
def eM (i:Nat):List Dt->List Dt
 | []=>[]
 | d::r=>.tup [.int i,d]::eM (i+1) r
theorem kM:∀ (l:List Dt) (i:Nat),(eM i l).length=l.length
 | [],_=>rfl
 | _::r,i=>by simp [eM,kM r]
theorem kN:∀ (l:List Dt) (i k:Nat),(eM i l)[k]?=l[k]?.map fun d=>.tup [.int ((i+k:Nat):Int),d]
 | [],i,k=>by simp [eM]
 | d::r,i,0=>by simp [eM]
 | d::r,i,k+1=>by simp [eM,kN r,Nat.add_assoc,Nat.add_comm 1]
def kO:List Dt->Option (List Dt)
 | [.lst l]=>some (eM 0 l)
 | [.tup l]=>some (eM 0 l)
 | _=>none
theorem tZ {F:Hp} {d e:Dt} {w:V} {t:Addr} (h:F t=some (.tup [v,w])) (r:Rep K F d v) (q:Rep K F e w):Rep K F (.tup [d,e]) (.ref t):=by simp only [Rep,Reps];exact ⟨t,_,rfl,SqT.of h,v,[w],rfl,r,w,[],rfl,q,rfl⟩
theorem kP {F:Hp} {xs:List V} (r:Reps K F l xs):pY K F (Ite b K a) (eM 0 l) (fun H=>SqB b K H a xs):=fun i H F2 q O ff=>by have hl:=r.length;rw [kM];refine ⟨fun h=>⟨xs,xs[i],q,by simp [show i<xs.length by lia]⟩,fun h=>⟨xs,q,by lia⟩,fun x H' hi Z=>?_⟩;obtain ⟨t,v,Y,rfl,rfl,hv⟩:=Z;have hx:=hv xs q;obtain ⟨d,hd,rd⟩:=r.same_get hx;refine ⟨_,upd F2 t (.tup [.int i,v]),?_,Step.new O Y,tZ aV fw ((rd.same ff).same (Same.upd (O.free Y)))⟩;rw [kN,hd];simp
theorem ic (h:aC sc "enumerate"=true) (hm:X.mg "enumerate"=none) (ha:DA X [x] fs) (e1:cD X sc:=by rfl) (Z:qa9 [x] X.env=[(false,eval x X.env)]:=by rfl) :
  DIF X (.Tuple elts n tpos) (.Call (.Name "enumerate" p) [x] [] pos) (ej kO fs):=PI.mono (wv h hm ha.pa e1 Z) fun σ H R ⟨Φ,δ,F,ds,hK,en,q,k⟩=>by
 unfold ej at q;obtain ⟨as,O,q⟩:=bS q;refine ⟨Φ,δ,F,as,hK,en,O,fun vs H' F' st r=>?_⟩;unfold kO at q;split at q<;>first | (cases q;done) | skip
 . cases q;simp only [Reps,Rep] at r;obtain ⟨v,Y,rfl,⟨a,xs,rfl,h1,h2⟩,rfl⟩:=r;exact ⟨true,a,xs,rfl,st.fh.seq h1,k _ _ H' F' st (kP (b:=true) h2) fun H2 s=>s.seq h1⟩
 . cases q;simp only [Reps,Rep] at r;obtain ⟨v,Y,rfl,⟨a,xs,rfl,h1,h2⟩,rfl⟩:=r;exact ⟨false,a,xs,rfl,st.fh.tup h1,k _ _ H' F' st (kP (b:=false) h2) fun H2 s=>s.tup h1⟩
end
section
variable {prog:qc2} {w:World} {A:qd8} {E:Value->qa4->Prop} {s:qa4} {z ti tO i1 i2:Addr} {fp1 fp2:List Addr} {n1 n2 k:Nat} {P1 P2:Nat->Value->Prop} {S1 S2:Nat->Heap->Prop} {va vb:Value}
end
section
variable {prog:qc2} {w:World} {A:qd8} {E:Value->qa4->Prop} {s:qa4}
end
section
variable {X:Cx} {pins:List (Addr×Obj)} {σ:St} {H:Hp} {s:qa4} {a:Addr} {xs ys:List V} {b c:Bool}
end
section
variable {X:Cx} {x y:Expr} {p pos tpos:Pos} {sc:Scope} {fs:De->Option (List Dt)} {elts:List Expr} {n:Nat}
end
section
variable {X:Cx} {o a b e c:Expr} {es:List Expr} {fa fb fo fe:De->Option Dt} {fs:De->Option (List Dt)} {pos apos cpos p:Pos} {i:Nat}
end
section
variable {X:Cx} {e:Expr} {es:List Expr} {fs:De->Option (List Dt)} {pos p:Pos} {x:Str} {sc:Scope}
end
noncomputable def ww (P:qc2) (w:World) (K:xA9) (mg:Str->Option Value) (x:Str) (ks:List Key) (l:List Dt):Prop:=∃ (a:Addr) (kvs:List (Key×V)) (vs:List (Key×Value)),mg x=some (.ref a)/\(a==qi2)=false/\kvs.map (·.1)=ks/\(∀ F,Reps K F l (kvs.map (·.2)))/\KV kvs vs/\∀ h:Heap,K.In h->h.DictOf (bK P w) a vs
def gSg (ks:List Key) (l:List Dt):Dt->Option T:=fun k=>(ka k).bind fun k=>(cY ks l k).map .leaf
def vSg (ks:List Key) (l:List Dt) (f:De->Option Dt):De->Option T:=fun δ=>(f δ).bind (gSg ks l)
def gSi (neg:Bool) (ks:List Key) (l:List Dt):Dt->Option Bool:=fun k=>(ka k).map fun k=>if neg then !(cY ks l k).isSome else (cY ks l k).isSome
def fSi (neg:Bool) (ks:List Key) (l:List Dt) (f:De->Option Dt):De->Option Bool:=fun δ=>(f δ).bind (gSi neg ks l)
variable {kvs:List (Key×V)}
section
variable {X:Cx} {b:Expr} {fb:De->Option Dt} {pos p:Pos} {x:Str} {sc:Scope} {ks:List Key} {l:List Dt}
def tSg (kvs:List (Key×V)) (ty:TE):TE:=fun σ H Q=>ty σ H fun y H1=>∃ k v,y=kV k/\eX kvs k=some v/\Q v H1
def tSi (neg:Bool) (kvs:List (Key×V)) (ty:TE):TE:=fun σ H Q=>ty σ H fun y H1=>∃ k,y=kV k/\Q (.bl (if neg then !(eX kvs k).isSome else (eX kvs k).isSome)) H1
theorem Ci {vs:List (Key×Value)} {ty:TE} (h:aC sc x=true) (hg:X.mg x=some (.ref a)) (Y:KV kvs vs) (hD:∀ h:Heap,X.K.In h->h.DictOf (bK X.prog X.w) a vs) (hb:PE X b ty) (hn:sM b) (e1:cD X sc:=by rfl) :
  PE X (.Subscript (.Name x p) b pos) (tSg kvs ty):=by
 intro pins s σ H Q I q;have hx:PE X (.Name x p) (tC (.ref a)):=jz h ⟨_,hg,rfl⟩ e1;refine pN PySem.F.slot_dict_getitem.lookup hn (thn (hx pins s σ H (fun y H1=>y=.ref a/\tSg kvs ty σ H1 Q) I ⟨rfl,q⟩) fun u s1 ⟨y0,H1,I1,rx,e0,q1⟩=>thn (hb pins s1 σ H1 _ I1 q1) fun iv s2 ⟨y,H2,I2,ry,k,v,ey,hv,q2⟩=>?_);subst e0 ey;obtain rfl:u=qe9 a:=rx;have Z:=hD _ I2.kIn;obtain ⟨w',hw,O⟩:=RelO.some_of (v:=v) (o:=ze8 vs k) (by rw [<- hv];exact Y.val k);exact ⟨Z.typeIs,wpAny_getItem_of (iQ ry) Z.mapOf hw ⟨v,H2,I2.tok _,O,q2⟩⟩
theorem Aj {vs:List (Key×Value)} {ty:TE} (h:aC sc x=true) (hg:X.mg x=some (.ref a)) (hs:(a==qi2)=false) (O:KV kvs vs) (hD:∀ h:Heap,X.K.In h->h.DictOf (bK X.prog X.w) a vs) (hb:PE X b ty) (e1:cD X sc:=by rfl) :
  PC X .NotIn b (.Name x p) (tSi true kvs ty):=by
 intro pins s σ H Q I q;have hx:PE X (.Name x p) (tC (.ref a)):=jz h ⟨_,hg,rfl⟩ e1;refine thn (hb pins s σ H _ I q) fun iv s1 ⟨y,H1,I1,ry,k,ey,q1⟩=>thn (hx pins s1 σ H1 (fun y H2=>y=.ref a/\Q (.bl (!(eX kvs k).isSome)) H2) I1 ⟨rfl,q1⟩) fun u s2 ⟨y0,H2,Y,rx,e0,q2⟩=>?_
 subst e0 ey;obtain rfl:u=qe9 a:=rx;have Z:=hD _ Y.kIn;refine wpAny_notIn_of (iQ ry) hs Z.mapOf ?_;rw [<- (O.val k).isSome_eq];exact ⟨.bl (!(eX kvs k).isSome),H2,Y.tok _,rfl,q2⟩
theorem Cj (h:aC sc x=true) (hm:ww X.prog X.w X.K X.mg x ks l) (hb:DB X b fb) (e1:cD X sc:=by rfl) (hn:sM b:=by exact fun _ _=>rfl):DO X (.Subscript (.Name x p) b pos) (vSg ks l fb):=by
 obtain ⟨a,kvs,vs,hg,hs,rfl,hR,Y,hD⟩:=hm;refine PE.mono (Ci h hg Y hD hb hn e1) fun σ H Q ⟨Φ,δ,F,t,hK,en,q,k⟩=>?_
 unfold vSg at q;obtain ⟨y,Z,q⟩:=bS q;obtain ⟨kk,hk,q⟩:=bS q;obtain ⟨d,hd,q⟩:=mS q;cases q;refine ⟨Φ,δ,F,y,hK,en,Z,fun v H1 F1 st rv=>?_⟩;obtain ⟨w,hw,O⟩:=gm (hR F1) hd;exact ⟨kk,w,fB rv hk,hw,(k.step st).leaf.here st.fh O⟩
theorem Ck {neg:Bool} (hR:∀ F,Reps K F l (kvs.map (·.2))) {Q:Bool->Hp->Prop} (h:tTr K (fSi neg (kvs.map (·.1)) l fb) σ H Q):tSi neg kvs (tBd K fb) σ H (fun v H'=>∃ c,v=.bl c/\Q c H'):=by obtain ⟨Φ,δ,F,t,Z,en,q,k⟩:=h;unfold fSi at q;obtain ⟨y,Y,q⟩:=bS q;obtain ⟨kk,O,q⟩:=mS q;subst q;refine ⟨Φ,δ,F,y,Z,en,Y,fun v H1 F1 st rv=>⟨kk,fB rv O,_,rfl,?_⟩⟩;rw [<- lT (hR F1)];exact k H1 F1 st
theorem Ak (h:aC sc x=true) (hm:ww X.prog X.w X.K X.mg x ks l) (hb:DB X b fb) (e1:cD X sc:=by rfl) (Y:qh9 .NotIn (.Name x p)=false:=by with_unfolding_all rfl):DT X (.Compare b [.NotIn] [.Name x p] pos) (fSi true ks l fb):=by obtain ⟨a,kvs,vs,hg,hs,rfl,Z,O,hD⟩:=hm;exact PT.mono (nX (Aj h hg hs O hD hb e1) Y) fun σ H Q q=>Ck Z q
end
def sEnt (p:Params) (q:Str×Tok×V×Value):zh6:=⟨qj5 p q.1,.str q.1 q.2.1,q.2.2.2⟩
variable {mg:Str->Option Value} {x:Str} {o:Obj} {ep:Nat}
theorem wx (O:List (Str×Tok×V×Value)) (hm:mg x=some (.ref a)) (hl:K.lookup a=some o) (hc:o.ExactDict) (Z:o.data=.dict (O.map (sEnt w.params)).toArray ep)
 (hs:(a==qi2)=false) (Y:(O.map (·.1)).Nodup) (hv:∀ r∈O,RelV r.2.2.1 r.2.2.2) (hR:∀ F,Reps K F l (O.map (·.2.2.1))):ww P w K mg x (O.map fun r=>.inr r.1) l:=by
 refine ⟨a,O.map fun r=>(.inr r.1,r.2.2.1),O.map fun r=>(.inr r.1,r.2.2.2),hm,hs,by rw [qc9];rfl,fun F=>by rw [qc9];exact hR F,?_,fun h X=>⟨o,_,ep,X a o hl,hc,Z,?_,?_,?_⟩⟩
 . clear Z Y hR;induction O with
   | nil=>exact .nil
   | cons r O ih=>exact .cons ⟨rfl,hv r qd4⟩ (ih fun r hr=>hv r (qc3 _ hr))
 . intro e he;obtain ⟨r,_,rfl⟩:=qd2.mp (List.mem_toArray.mp he);exact ⟨.inr r.1,fN P w r.1 r.2.1,rfl⟩
 . show Pairs (bK P w) (O.map (sEnt w.params)) _;clear Z Y hR hv;induction O with
   | nil=>exact .nil
   | cons r O ih=>exact .cons (fN P w r.1 r.2.1) rfl ih
 . rw [qc9];have:(O.map ((fun x:Key×Value=>x.1) ∘ fun r=>((qx0 r.1:Key),r.2.2.2)))=(O.map (·.1)).map qx0:=by rw [qc9];rfl
   rw [this];exact List.Pairwise.map _ (fun a b h q=>h (qx0.inj q)) Y
variable {its:Array Value} {ds:List Dt}
theorem dA {xs:List V} (Z:K.lookup a=some o) (Y:o.cls=.type "tuple") (hd:o.data=.seq its n) (q:Vals xs its.toList) (O:xs.length<=qb2) {F:Hp} (hx:Reps K F ds xs):Rep K F (.tup ds) (.ref a):=by simp only [Rep];exact ⟨a,xs,rfl,.inr ⟨o,its,n,Z,Y,hd,by rw [<- qe1,<- q.length];exact O,q⟩,hx⟩
theorem t8 {xs:List V} (hm:mg x=some (.ref a)) (Z:K.lookup a=some o) (Y:o.cls=.type "tuple") (hd:o.data=.seq its n) (O:Vals xs its.toList) (q:xs.length<=qb2) (hx:∀ F,Reps K F ds xs):tU K mg x (.tup ds):=⟨.ref a,⟨_,hm,rfl⟩,fun F=>dA Z Y hd O q (hx F)⟩
inductive RepsI (K:xA9) (F:Hp):List Dt->List V->Prop
 | nil:RepsI K F [] []
 | cons {d:Dt} {v:V} {l:List Dt} {vs:List V}:Rep K F d v->RepsI K F l vs->RepsI K F (d::l) (v::vs)
theorem wz {F:Hp} (h:RepsI K F l vs):Reps K F l vs:=by
 induction h with
 | nil=>simp [Reps]
 | cons h _ q=>simp only [Reps];exact ⟨_,_,rfl,h,q⟩
variable {y:Str} {py spos:Pos}
section
variable {X:Cx} {elt tg iter:Expr} {ifs:List Expr} {scope:Scope} {pos:Pos} {M:List Str} {src:List (Option Nat)} {wi:TI} {g:TG} {tt:TT} {te:TE}
theorem rn {Q:VK} {cpos:Pos} {use:Option (Value->Sem Unit)} {QQ:Value->qa4->Prop} (S:CmpScope X.N X.env.scope scope M src) (hc:X.calm=true) (hi:PI X tg iter wi) (hg:M.Nodup->∀ C s H ex,PG (cxC X M scope C s H ex) tg g) (ht:∀ C s H ex,PTs (cxC X M scope C s H ex) ifs tt)
 (he:∀ C s H ex,PE (cxC X M scope C s H ex) elt te) (hs:∀ x,qi4 iter X.env x=pure x) (I:Inv X pins σ H s) (h:mG src wi g tt te σ H Q)
 (hfin:∀ (D C:Addr) (H':Hp) (s':qa4) (m:Str->Option Value),Inv X pins σ H' s'->gu X pins H' C->s'.heap.Ns C m->Q (.ref D) H'->zd9 (model X.prog X.w) X.A X.xe use QQ (.ref D) C (.ok .next) s') :
  wpAny (model X.prog X.w) X.A (comprehension (.ListComp elt [⟨tg,iter,ifs,0⟩] scope pos) scope X.env cpos (newList []) false (eval iter X.env) use) QQ X.xe s:=by
 have hcells:∀ x∈scope.names,x.2=.free->∃ c,X.env.cells.lookup x.1=some c:=fun x hx hfr=>I.ok.has x.1 (S.free x hx hfr)
 refine qy1 (use:=use) rfl hs (gE hcells) S.kind S.names (thn (hi pins s σ H _ I h) fun v s1 h1=>thn h1 fun itv s2 h2=>?_);obtain ⟨it,fp,tn,J,H2,rfl,I2,T,st2,f2,hq⟩:=h2;refine qd1 ?_;have I3:Inv X pins σ (upd H2 s2.heap.objs.size (.lst [])) {s2 with heap:=s2.heap.push {cls:=.type "list",dict:=none,data:=.seq ([]:List Value).toArray},toks:=s2.toks}:=I2.lnew (its:=[]) (ys:=[]) (t':=s2.toks) .nil (by simp);have hD:H2 s2.heap.objs.size=none:=I2.fresh;obtain ⟨W,⟨m0,w0⟩,turn⟩:=hq _ hD;generalize hDn:s2.heap.objs.size=D at*
 generalize hs3:({s2 with heap:=s2.heap.push {cls:=.type "list",dict:=none,data:=.seq ([]:List Value).toArray},toks:=s2.toks}:qa4)=s3 at*
 have f3:∀ b∈fp,gu X pins (upd H2 D (.lst [])) b:=fun b Y=>⟨by obtain ⟨o,e,_⟩:=T.obj _ _ st2 b Y;rw [aH (by rw [<- hDn];exact qb8 (qa7 e))];exact (f2 b Y).1,(f2 b Y).2⟩
 have k23:∀ b o,s2.heap.get? b=some o->s3.heap.get? b=some o:=fun b o e=>by rw [<- hs3];exact gP _ e
 have st3:tn 0 s3.heap:=T.keep _ _ _ st2 fun b _ o e=>k23 b o e
 have fl3:∀ b∈fp,b<s3.heap.objs.size:=fun b Y=>by obtain ⟨o,e,_⟩:=T.obj _ _ st3 b Y;exact qa7 e
 refine wpAny_newFunctionEnv S.nocell (by intro y hy;simp at hy) (fun h₁ hns₁ hsb₁=>?_) S.kind;have k34:∀ b o,s3.heap.get? b=some o->h₁.get? b=some o:=fun b o e=>hsb₁.extBut b o (qb8 (qa7 e)) (gP _ e)
 generalize hs4:({s3 with heap:=h₁,toks:=s3.toks+([]:List (Str×Value)).length}:qa4)=s4
 have I4:Inv (cxC X M scope s3.heap.objs.size s3 (upd H2 D (.lst [])) fp) [] (stC src σ) (upd H2 D (.lst [])) s4:=by rw [<- hs4];exact mH S I3 f3 fl3 hns₁ k34 rfl rfl
 have st4:tn 0 s4.heap:=T.keep _ _ _ st3 fun b _ o e=>by rw [<- hs4];exact k34 b o e
 generalize O:cxC X M scope s3.heap.objs.size s3 (upd H2 D (.lst [])) fp=Z at*
 have hg':PG Z tg g:=by rw [<- O];exact hg S.nd _ _ _ _
 have ht':PTs Z ifs tt:=by rw [<- O];exact ht _ _ _ _
 have he':PE Z elt te:=by rw [<- O];exact he _ _ _ _
 have eP:Z.prog=X.prog:=by rw [<- O];rfl
 have eW:Z.w=X.w:=by rw [<- O];rfl
 have eK:Z.K=X.K:=by rw [<- O];rfl
 have eA:Z.A=X.A:=by rw [<- O];rfl
 have ex':Z.xe=fun _ _=>False:=by rw [<- O];rfl
 have ec:Z.calm=true:=by rw [<- O];exact hc
 have eE:Z.env=compEnvC scope (fu scope.names X.env.cells) s3.heap.objs.size X.env:=by rw [<- O];rfl
 have stat:∀ {H':Hp},(∀ b∈fp,H' b=none)->∀ b∈fp,gu Z [] H' b:=fun hn b Y=>by
  rw [<- O];refine ⟨hn b Y,qb8 (fl3 b Y),fun z=>?_,.inl Y,fun x c h=>(f3 b Y).2.2.2.2.1 x c (fU hcells h),fun p hp=>absurd hp (by simp [cxC])⟩;rcases qa6.mp (I3.stkSub b z) with q | q
  . exact (f3 b Y).2.1 q
  . exact (f3 b Y).2.2.1 q
 -- behind the block
 have fin:∀ (H':Hp) (s':qa4),Inv Z [] (stC src σ) H' s'->Q (.ref D) H'->zd9 (model X.prog X.w) X.A X.xe use QQ (.ref D) s3.heap.objs.size (.ok .next) s':=by
  intro H' s' J' q;rw [<- O] at J';obtain ⟨m,hn,_⟩:=id J'.loc;have hC:H' s3.heap.objs.size=none:=J'.free;have un:Un (frs X.stack) fp (upd H2 D (.lst [])) H' s3.heap s'.heap:=J'.base;have IA:Inv X pins σ H' s':=I3.call' (s':=s') (show s'.os=s3.os from J'.os) un J'.hok J'.bare fun b Y=>⟨(f3 b Y).2.2.2.1,(f3 b Y).2.1,(f3 b Y).2.2.2.2.1,(f3 b Y).2.2.2.2.2⟩
  exact hfin D _ H' s' m IA (I3.fpOk (nL _) hC) hn q
 have loop:∀ s4':qa4,s4'=s4->qq1 (model X.prog X.w) X.A (.compLoop (.ListComp elt [⟨tg,iter,ifs,0⟩] scope pos) 0 (.ref it) (.ref D) Z.env) (zd9 (model X.prog X.w) X.A X.xe use QQ (.ref D) s3.heap.objs.size) s4':=by
  rintro _ rfl;refine g7 (fun n s'=>∃ i H',Inv Z [] (stC src σ) H' s'/\tn i s'.heap/\(∀ b∈fp,H' b=none)/\W i n H') ?_ m0 ⟨0,_,I4,st4,fun b Y=>(f3 b Y).1,w0⟩;rintro n s5 ⟨i,H5,I5,st5,fr5,w5⟩;rcases turn i n H5 w5 with ⟨stop,qn⟩ | ⟨go,N,hN,step⟩
  . have:=T.done Z eP eW eK ec i [] s5 (stC src σ) H5 (fun _ _=>False) I5 (stat fr5) st5 stop;rw [eA] at this;refine thn this fun r s6 ⟨hr,I6⟩=>?_
    subst hr;exact fin H5 s6 I6 qn
  . have:=T.item Z eP eW eK ec i [] s5 (stC src σ) H5 (fun _ _=>False) I5 (stat fr5) st5 go;rw [eA] at this;refine thn this fun r s6 ⟨u,hr,h6⟩=>?_
    subst hr;refine thn h6 fun _ s7 ⟨x,H7,I7,r7,y7,st7,fr7⟩=>?_
    have I7':=I7.pinned (stat fr7) (T.obj _ _ st7);have a1:=hg' _ s7 (stC src σ) H7 x u _ I7' r7 (step x H7 y7);rw [ex',eP,eW,eA] at a1;refine thn a1 fun _ s8 ⟨σ8,H8,I8,wk8,q8⟩=>?_
    have a2:=ht' _ s8 σ8 H8 _ I8 q8;rw [ex',eP,eW,eA] at a2;refine thn a2 fun ok s9 ⟨H9,I9,q9⟩=>?_
    have again:∀ {H7':Hp} {s':qa4},Inv Z ([]++iu fp s7.heap) σ8 H7' s'->N H7'->∃ m,m<n/\∃ i H',Inv Z [] (stC src σ) H' s'/\tn i s'.heap/\(∀ b∈fp,H' b=none)/\W i m H':=fun {H7' s'} J7 n7=>by obtain ⟨m',hm,w7⟩:=hN H7' n7;refine ⟨m',hm,i+1,H7',J7.unpinned.weak wk8.1 wk8.2,T.keep _ _ _ st7 fun b Y o e=>(J7.pin (b,o) (qc1 _ (qc1 _ (dG Y e)))).1,fun b Y=>?_,w7⟩;obtain ⟨o,e,d⟩:=T.obj _ _ st7 b Y;exact (J7.pin (b,o) (qc1 _ (qc1 _ (dG Y e)))).2.1
    cases ok with
    | false=>exact again I9 q9
    | true =>
     have a3:=he' _ s9 σ8 H9 _ I9 q9;rw [ex',eP,eW,eA] at a3;refine thn a3 fun v s10 ⟨y,H10,I10,r10,ys,hl,hz,q10⟩=>?_
     have a4:=iB (X:=Z) _ s10 σ8 H10 (.ref D) [y] (.ref D) [v] (fun _ H'=>N H') I10 rfl (.cons r10 .nil) ⟨D,ys,y,rfl,rfl,hl,hz,q10⟩;rw [ex',eP,eW,eA] at a4;refine thn a4 fun _ s11 ⟨_,H11,I11,_,q11⟩=>?_
     exact again I11 q11
 have e4:∀ c:Env,c=Z.env->qq1 (model X.prog X.w) X.A (.compStart (.ListComp elt [⟨tg,iter,ifs,0⟩] scope pos) 0 (.ref it) (.ref D) c) (zd9 (model X.prog X.w) X.A X.xe use QQ (.ref D) s3.heap.objs.size) s4:=by rintro _ rfl;exact za9 (loop _ rfl) (T.self _ _ _ _ _ st4 (loop _ rfl))
 exact e4 _ (by rw [eE];rfl)
theorem wA (hN:X.N.Nodup) (hi':X.N[i]?=some y) (O:Loc X.env.scope y) (hf:X.fn y=true∨X.env.scope.names.lookup y=some .local)
 (S:CmpScope X.N X.env.scope scope M src) (hc:X.calm=true) (hi:PI X tg iter wi) (hg:M.Nodup->∀ C s H ex,PG (cxC X M scope C s H ex) tg g) (ht:∀ C s H ex,PTs (cxC X M scope C s H ex) ifs tt)
 (he:∀ C s H ex,PE (cxC X M scope C s H ex) elt te) (hs:∀ x,qi4 iter X.env x=pure x)
 (hsw:qo4 (.ListComp elt [⟨tg,iter,ifs,0⟩] scope pos) (some (.Name y py)) spos.line X.env=pure true) :
  PS X (.Assign [.Name y py] (.ListComp elt [⟨tg,iter,ifs,0⟩] scope pos) spos) (vI (mG src wi g tt te) (jm i)):=by
 intro pins s σ H D I h;rw [exec_Assign_Name_used _ _ _ _ hsw];refine wB (zf3 (wB ?_));show wpAny _ X.A (do let _ <- comprehension (.ListComp elt [⟨tg,iter,ifs,0⟩] scope pos) scope X.env _ (newList []) false (eval iter X.env) (some (zc0 (.Name y py) X.env))) _ _ s;refine wB (qj7 (rn (use:=some (zc0 (.Name y py) X.env)) (QQ:=fun _ s'=>∃ σ' H',Inv X pins σ' H' s'/\D.nx σ' H') S hc hi hg ht he hs I h ?_) (fun _ s' hq=>qa2 (qa2 hq)) fun _ _ e=>e);intro Dd C H' s' m IA Y hn q;show wpAny _ X.A (zc0 (.Name y py) X.env (.ref Dd)) _ _ s';refine wpAny_assign_Name (kl IA hN hi' O (v:=.ref Dd) rfl (fun s2 I2 hsb=>?_) hf);obtain ⟨a,sb,ha⟩:=hsb
 have ne:C≠a:=by
  rcases ha with rfl | ha
  . exact Y.2.1
  . exact qq0 (Y.2.2.2.2.1 y a ha)
 refine ⟨m,hn.sameBut sb ne,fun h3 sb3=>⟨_,H',?_,q⟩⟩;have kC:∀ b o,b≠C->s2.heap.get? b=some o->h3.get? b=some o:=fun b o Z e=>sb3.extBut b o Z e
 have nm:∀ {b:Addr},b∉[C]->b≠C:=fun Z z=>Z (by rw [z];exact qd4)
 refine I2.call' (s':={s2 with heap:=h3}) (ch:=[C]) rfl ⟨fun b o e n Z O=>kC b o (nm O) e,fun b o e n Z O=>⟨o.slots,kC b o (nm O) e⟩,fun b o e n O=>n,fun b o e O=>⟨o,kC b o (nm O) e⟩,fun b xs e=>e,fun b o u e=>e,fun b ps e=>⟨#[],by rw [Array.append_empty];exact e⟩,fun b qs e=>e⟩ ?_ I2.bare fun b Z=>?_
 . intro b u e;have nb:b≠C:=fun z=>by rw [z,Y.1] at e;cases e
   refine (I2.hok b u e).stay (fun c v hc' q=>kC c v ?_ q) (fun _ q=>q) (fun _ _ q=>q) fun _ _ _ q=>q
   rcases hc' with z | z
   . rw [z];exact nb
   . intro w;rw [w,Y.1] at z;cases z
 . cases qb0.mp Z;exact ⟨Y.2.2.2.1,Y.2.1,Y.2.2.2.2.1,Y.2.2.2.2.2⟩
end
variable {sc:Scope}
section
variable {X:Cx} {elt tg iter:Expr} {ifs:List Expr} {scope:Scope} {pos:Pos} {M:List Str} {src:List (Option Nat)} {fi:De->Option (List Dt)} {ft:De->Option Bool} {fe:De->Option Dt} {i:Nat}
theorem Al {f:De->Option T} {Q:VK} (h:tO K (toT (toD f)) σ H Q):tO K f σ H Q:=by obtain ⟨Φ,δ,F,t,Y,Z,hf,k⟩:=h;obtain ⟨d,q,rfl⟩:=mS hf;obtain ⟨u,O,q⟩:=bS q;exact ⟨Φ,δ,F,u,Y,Z,O,KL.to q k.leaf⟩
theorem f8 {ts:List Nat} {bb:Dt->De->Option De} (h:dv sc N i y=true) (hl:i0 sc y=true) (Z:N.Nodup) (S:CmpScope X.N X.env.scope scope M src) (hc:X.calm=true) (hi:DIB X tg iter fi) (hg:M.Nodup->∀ C s H ex,DG (cxC X M scope C s H ex) tg ts bb)
 (ht:∀ C s H ex,DTs (cxC X M scope C s H ex) ifs ft) (he:∀ C s H ex,DL (cxC X M scope C s H ex) elt fe) (hts:(ts.all fun k=>decide (src[k]?=some none))=true) (Y:∀ x,qi4 iter X.env x=pure x:=by intro _;rfl)
 (e1:cD X sc:=by rfl) (e2:X.N=N:=by rfl) (hf:X.fn y=true∨X.env.scope.names.lookup y=some .local:=by exact .inl rfl) (O:qo4 (.ListComp elt [⟨tg,iter,ifs,0⟩] scope pos) (some (.Name y py)) spos.line X.env=pure true:=by rfl) :
  DS1 X (.Assign [.Name y py] (.ListComp elt [⟨tg,iter,ifs,0⟩] scope pos) spos) (aE i (toT (toD (bj src fi bb ft fe)))):=by
 have e1:X.env.scope=sc:=e1;subst e1 e2;refine PS.mono (wA (g:=gD X.K ts bb) (tt:=tTr X.K ft) (te:=tL X.K fe) Z (gG h) (jx hl) hf S hc hi (fun Z C s H ex=>hg Z C s H ex) (fun C s H ex=>ht C s H ex) (fun C s H ex=>he C s H ex) Y O) fun D σ H ⟨Φ,δ,F,o,hK,en,q,k⟩=>?_
 unfold aE at q;obtain ⟨t,ht',q⟩:=mS q;cases q;exact p0 S hts σ H _ (Al ⟨Φ,δ,F,t,hK,en,ht',fun v H' F' S st o Y=>k _ F' H' (en.put st (hK▸o) Y i)⟩)
end
def mZ (neg:Bool):Dt->Dt->Option T
 | .bl a,.bl b=>some (.leaf (.bl (if neg then !decide (a=b) else decide (a=b))))
 | _,_=>none
section
variable {X:Cx}
theorem t9:OpR X (qg5 .Is) (fun x y H Q=>∃ a b,x=.bl a/\y=.bl b/\Q (.bl (decide (a=b))) H):=by intro pins s σ H x y v u Q I O Y h;obtain ⟨a,b,rfl,rfl,q⟩:=h;cases O;cases Y;refine wpAny_is_plain rfl (bp I q ?_);cases a<;>cases b<;>rfl
theorem yk:R2D K (fun x y H Q=>∃ a b,x=.bl a/\y=.bl b/\Q (.bl (decide (a=b))) H) (mZ false):=by
 intro F H x y vx vy Q t O Y Z q k;unfold mZ at q;split at q<;>first | (cases q;done) | skip
 cases q;cases Y;cases Z;exact ⟨_,_,rfl,rfl,k.bl O⟩
def m6 (K:xA9):R2:=fun x y H Q=>∃ a b ys,x=.ref a/\y=.ref b/\SqT K H a []/\SqT K H b ys/\Q (.ref b) H
theorem wC:OpR X (qm0 .Add) (m6 X.K):=by
 intro pins s σ H x y v u Q I rx ry h;obtain ⟨a,b,ys,rfl,rfl,ha,hb,q⟩:=h;cases rx;cases ry;obtain ⟨its,r1,p1,_⟩:=I.tuple ha;obtain ⟨O,r2,p2,_⟩:=I.tuple hb;cases r1;obtain ⟨⟨cls,dd,data,sl⟩,ho,hc,n,hd⟩:=id p1;obtain ⟨⟨cls2,dd2,data2,sl2⟩,ho2,Y,n2,Z⟩:=id p2;simp only at hc hd Y Z;subst hc hd Y Z
 exact qw5 ⟨_,ho,rfl⟩ ⟨_,ho2,rfl⟩ qt7 qz1 PySem.F.slot_tuple_add PySem.F.entry_tuple_add (PySem.F.args_tuple_add_2 _ _)
  (tuple_addW0 a b #[] O.toArray n n2 dd dd2 sl sl2 rfl) ⟨ho,ho2,⟨.ref b,H,I,rfl,q⟩⟩
def ua:Dt->Dt->Option T
 | .tup [],.tup m=>some (.leaf (.tup m))
 | .tup (d::l),.tup (e::m)=>cJ (.tup (d::l)) (.tup (e::m))
 | _,_=>none
theorem wD:OpR X (qm0 .Add) (fun x y H Q=>m6 X.K x y H Q∨kH X.K x y H Q):=OpR.or wC bu
theorem Am:R2D K (fun x y H Q=>m6 K x y H Q∨kH K x y H Q) ua:=by
 intro F H x y vx vy Q t O Y ry q k;unfold ua at q;split at q<;>first | (cases q;done) | skip
 . rename_i m;cases q;obtain ⟨a,vs,rfl,h1,h2⟩:=Y;obtain ⟨b,Z,rfl,h3,h4⟩:=ry;simp only [Reps] at h2;subst h2;refine .inl ⟨a,b,Z,rfl,rfl,O.tup h1,O.tup h3,k.leaf.here O ?_⟩;simp only [Rep];exact ⟨b,Z,rfl,h3,h4⟩
 . exact .inr (cK F H _ _ vx vy Q t O Y ry q k)
end
def ub:De->Option (List (Key×Dt)):=fun _=>some []
def lV (fk fv:De->Option Dt) (g:De->Option (List (Key×Dt))):De->Option (List (Key×Dt)):=fun δ=>(fk δ).bind fun k=>(ka k).bind fun k=>(fv δ).bind fun v=>(g δ).map fun l=>(k,v)::l
def p8 (g:De->Option (List (Key×Dt))):De->Option T:=fun δ=>(g δ).bind fun l=>if l.length<=15/\(l.map (·.1)).Nodup then some (.dct l) else none
theorem kQ:∀ (more acc:List (Key×V)),((acc++more).map (·.1)).Nodup->fS acc more=acc++more
 | [],acc,_=>by simp [fS]
 | p::more,acc,h=>by
  have hp:dU acc p.1 p.2=acc++[(p.1,p.2)]:=by unfold dU;rw [if_neg];rw [qg0,qm8] at h;intro z;obtain ⟨q,O,e⟩:=qu1.mp z;exact h.2.2 q.1 (List.mem_map_of_mem O) p.1 (by simp) (of_decide_eq_true e)
  show fS (dU acc p.1 p.2) more=_;rw [hp,kQ more (acc++[(p.1,p.2)]) (by simpa using h)];simp
noncomputable def tPP (K:xA9) (g:De->Option (List (Key×Dt))) (σ:St) (H:Hp) (Q:List (V×V)->Hp->Prop):Prop:=∃ Φ δ F l,Fm.K Φ=K/\En Φ δ σ F H/\g δ=some l∧∀ (kvs:List (Key×V)) H' F',Step F H F' H'->kvs.map (·.1)=l.map (·.1)->Reps K F' (l.map (·.2)) (kvs.map (·.2))->Q (kvs.map fun kv=>(kV kv.1,kv.2)) H'
structure DPPs (X:Cx) (pos:Pos) (keys:List (Option Expr)) (values:List Expr) (g:De->Option (List (Key×Dt))):Prop where
 ex:∃ trs,PPs X pos keys values trs/\∀ σ H Q,tPP X.K g σ H Q->lJ trs σ H Q
section
variable {X:Cx} {pos:Pos} {k v:Expr} {ks:List (Option Expr)} {vs:List Expr} {fk fv:De->Option Dt} {g:De->Option (List (Key×Dt))}
theorem wE:DPPs X pos [] [] ub:=⟨[],vY,fun σ H Q ⟨Φ,δ,F,l,Z,O,Y,q⟩=>by cases Y;exact q [] H F (Step.refl O.fh) rfl (by simp [Reps])⟩
theorem uc (hk:DL X k fk) (hv:DL X v fv) (h:DPPs X pos ks vs g):DPPs X pos (some k::ks) (v::vs) (lV fk fv g):=by obtain ⟨trs,h1,h2⟩:=h.ex;refine ⟨_,sP hk hv h1,fun σ H Q ⟨Φ,δ,F,l,hK,en,hg,q⟩=>?_⟩;unfold lV at hg;obtain ⟨kd,hkd,Z⟩:=bS hg;obtain ⟨kk,hkk,hg2⟩:=bS Z;obtain ⟨d,hd,hg3⟩:=bS hg2;obtain ⟨r,hr,hg4⟩:=mS hg3;subst hg4;refine ⟨Φ,δ,F,kd,hK,en,hkd,fun x H1 F1 st rx=>⟨Φ,δ,F1,d,hK,en.step st,hd,fun y H2 F2 Y ry=>h2 _ _ _ ⟨Φ,δ,F2,r,hK,(en.step st).step Y,hr,fun kvs H3 F3 O e1 r3=>?_⟩⟩⟩;have:=fB (RepB.of st.fh rx) hkk;subst this;refine q ((kk,y)::kvs) H3 F3 ((st.trans Y).trans O) (by simp [e1]) ?_;simp only [qa5,Reps];exact ⟨y,_,rfl,ry.same O.ff,r3⟩
theorem wF (h:DPPs X pos ks vs g) (Y:ks.all (·.isSome)=true) (hl:ks.length=vs.length) (h0:ks≠[]) (h15:ks.length<=15):DO X (.Dict ks vs pos) (p8 g):=by
 obtain ⟨trs,h1,h2⟩:=h.ex;refine PE.mono (vZ h1 Y hl h0 h15) fun σ H Q ⟨Φ,δ,F,t,hK,en,hg,q⟩ p hp=>h2 _ _ _ ?_
 unfold p8 at hg;obtain ⟨l,hl,O⟩:=bS hg;split at O<;>first | (cases O;done) | skip
 rename_i hc;cases O;have st0:=Step.made (o:=.dK []) en.fh hp;refine ⟨Φ,δ,F,l,hK,en.step st0,hl,fun kvs H2 F2 st e1 r=>?_⟩;have hp2:H2 p=some (.dK []):=st.hh _ _ aV;have len:kvs.length=l.length:=by simpa using congrArg qq8 e1
 have fp:F2 p=none:=st.keepN (en.fh.free hp) aV;refine ⟨hp2,kvs,rfl,by lia,?_⟩;rw [kQ kvs [] (by rw [qo8,e1];exact hc.2),qo8];refine q _ _ F2 (fun b=>b=p) ⟨fun b o e=>?_,st.ff,fun b o e=>?_,fun b o e=>?_⟩ ⟨p,kvs,rfl,rfl,aV,e1,r⟩ fun b z=>?_
 . have Z:=bM e hp;rw [aH Z];exact st.hh _ _ (by rw [aH Z];exact e)
 . rw [aH (bM e fp)];exact st.fh _ _ e
 . rcases st.nw b o e with y | y
   . exact .inl y
   . by_cases Z:b=p
     . subst Z;exact .inr (.inl hp)
     . rw [aH Z] at y;exact .inr y
 . subst z;exact ⟨fp,hp,_,aV,nofun⟩
end
theorem wG {k:Key} (h:(bK P w).is k u=true):RelV (kV k) u:=by
 rcases bX (show jj k u=true from h) with ⟨i,t,rfl,rfl⟩ | ⟨x,t,rfl,rfl⟩
 . exact ⟨t,rfl⟩
 . exact ⟨t,rfl⟩
section
variable {X:Cx}
end
def cE (sc:Scope) (N:List Str):Bool:=(qc0 N.length).all fun i=>match N[i]? with
 | some x=>dv sc N i x&&i0 sc x
 | none=>false
theorem nsB (h:cE sc N=true) (e:N[i]?=some x):dv sc N i x=true/\i0 sc x=true:=by have h1:=qk7.mp h i (qd0.mpr (gX e).1);rw [e] at h1;exact qu4.mp h1
theorem nsN (h:cE sc N=true) (i:Nat) (e:N[i]?=some x:=by rfl):dv sc N i x=true:=(nsB h e).1
theorem nsL (h:cE sc N=true) (i:Nat) (e:N[i]?=some x:=by rfl):i0 sc x=true:=(nsB h e).2
variable {X:Cx}
theorem pvN (i:Nat) (h:cE sc N=true) (e:N[i]?=some x:=by rfl) (e1:cD X sc:=by rfl) (q:X.N=N:=by rfl):PE X (.Name x pos) (gY i):=pvD i (nsN h i e) e1 q
def gMin:List Dt->Option T
 | [.int i,.int j]=>some (.leaf (.int (if j<i then j else i)))
 | _=>none
def p9:Key->Dt
 | .inl i=>.int i
 | .inr x=>.str x
theorem wH {F:Hp} (k:Key):Rep K F (p9 k) (kV k):=by
 cases k with
 | inl i=>exact fw
 | inr x=>exact jd
def yl (i j:Int):Prop:=0<j/\j<18446744073709551616
theorem aQ:OpR X (qm0 .FloorDiv) (rI yl fun i j=>.int (i/j)):=opI fun i j _ _ _ _ _ O q=>by
 have h1:(0:Int)<j:=O.1;have h2:j<18446744073709551616:=O.2;refine floordiv_int (by lia) (by rw [Int.fdiv_eq_ediv_of_nonneg i (by lia)];exact q) (.inl (PyProof.noPylong_of_log2 ?_));have h3:j.natAbs≠0:=by lia
 exact qw6 ((Nat.log2_lt h3).mpr (show j.natAbs<2^64 by lia)) (by decide)
def bc:Dt->Dt->Option T
 | .int i,.int j=>if 0<j/\j<18446744073709551616 then some (.leaf (.int (i/j))) else none
 | _,_=>none
theorem bD:R2D K (rI yl fun i j=>.int (i/j)) bc:=by
 intro F H x y vx vy Q t O Y ry q k;unfold bc at q;split at q<;>first | (cases q;done) | skip
 split at q
 . rename_i Z;cases q;cases Y;cases ry;exact ⟨_,_,rfl,rfl,Z,k.int O⟩
 . cases q
abbrev Orc:=Addr->Hp->List Dt->Option T
noncomputable def ud (P:qc2) (w:World) (K:xA9) (mg:Str->Option Value) (base:Heap) (kk:Nat) (H:Hp) (G:Orc):Prop:=∀ (f:Addr) (F0:Hp) (ds:List Dt) (t:T),G f F0 ds=some t→
 (∃ fo uf fd,H f=some (.frz fo uf)/\fo.data=.func fd)/\∀ (A:qd8) (outer:List Env) (s:qa4) (H' F:Hp) (us:List Value) (vs:List V) (Q:VK),Room kk A->(∀ b o u,H b=some (.frz o u)->H' b=some (.frz o u))->Env0 P w K mg base A outer s H'->Same F0 F->Same F H'->Vals vs us->Reps K F ds vs->KO K F H' t Q→
  qq1 (model P w) A (.call (.ref f) ⟨us,[]⟩) (CR CX0 outer P w H' s Q E0) s
def vCl (G:Orc) (i:Nat) (fs:De->Option (List Dt)):De->Option T:=fun δ=>match δ[i]? with
 | some (some (.fn a F0))=>(fs δ).bind (G a F0)
 | _=>none
section
variable {X:Cx} {e:Expr} {es:List Expr} {fs:De->Option (List Dt)} {p pos:Pos} {x:Str} {i kk:Nat} {G:Orc}
theorem qa (hx:PE X (.Name x p) (gY i)) (hG:ud X.prog X.w X.K X.mg X.base kk X.H₀ G) (hr:Room kk X.A) (ha:DA X (e::es) fs)
  (he:qa9 (e::es) X.env=(false,eval e X.env)::qa9 es X.env:=by rfl) (hpl:(qk0 pos (qa9 es X.env)).any (·.1)=false:=by rfl):DO X (.Call (.Name x p) (e::es) [] pos) (vCl G i fs):=by
 intro pins s σ H Q I h;obtain ⟨Φ,δ,F,t,hK,en,Y,k⟩:=h;unfold vCl at Y;split at Y<;>first | (cases Y;done) | skip
 rename_i a F0 hi;obtain ⟨ds,hd,ht⟩:=bS Y;obtain ⟨v,hv⟩:=en.has i _ hi;obtain ⟨S,sp⟩:=en.sep;obtain ⟨rfl,hF0⟩:=sp.own i _ _ (cw hi hv);obtain ⟨⟨fo,uf,fd,g1,g2⟩,run⟩:=hG a F0 ds t ht
 have q:∀ {pins:List (Addr×Obj)} {σ:St} {H:Hp} {s:qa4},Inv X pins σ H s->PySem.W.FnAt a s.heap:=fun {pins σ H s} J=>by have e1:=(J.hok a _ (J.base.frzs a fo uf g1)).1;obtain ⟨oc,od,dt,sl⟩:=fo;cases (show dt=.func fd from g2);exact ⟨oc,od,fd,sl,e1⟩
 refine qo1 (thn (hx pins s σ H (fun v H'=>v=.ref a/\H'=H) I ⟨.ref a,hv,rfl,rfl⟩) fun u s1 h1=>?_);obtain ⟨v1,H1,I1,r1,rfl,rfl⟩:=h1;cases r1;refine PySem.W.callWith_F (q I1) (thn (ha.pa pos pins s1 σ _ (fun vs H'=>∃ F',Step F _ F' H'/\Reps X.K F' ds vs) I1 ⟨Φ,δ,F,ds,hK,en,hd,fun vs H' F' st r=>⟨F',st,r⟩⟩) fun us s2 h2=>?_) he hpl;obtain ⟨vs,H2,Z,r2,F2,st,rc⟩:=h2;refine ⟨q Z,zg1 (qr0 (run X.A X.stack s2 H2 F2 us vs Q hr (fun b o u z=>Z.base.frzs b o u z) Z.env0 (hF0.trans st.ff) st.fh r2 rc (k.step st)) fun r s' O=>?_)⟩;cases r with
 | error e=>exact O.elim
 | ok fl =>
  cases fl with
  | ret u=>exact Z.after O
  | next=>exact qg2 O
  | brk=>exact qg2 O
  | cont=>exact qg2 O
end
def deR (m:Nat) (d:Dt) (f1 f2:Addr) (F0:Hp):De:=some (.leaf d)::some (.fn f1 F0)::some (.fn f2 F0)::qh4 (m-3) none
def ue (m:Nat) (g:De->Option Out) (d:Dt) (f1 f2:Addr) (F0:Hp):Option T:=match g (deR m d f1 f2 F0) with
 | some (.rt t)=>some t
 | some (.nx _)=>some (.leaf .non)
 | _=>none
noncomputable def spR (P:qc2) (w:World) (K:xA9) (mg:Str->Option Value) (base:Heap) (kk:Nat) (FR:Orc->Dt->Addr->Addr->Hp->Option T):Sp:=fun vs H Q _=>∃ G F d f1 f2 t v,ud P w K mg base kk H G/\Same F H/\vs=[v,.ref f1,.ref f2]/\Rep K F d v/\FR G d f1 f2 F=some t/\KO K F H t Q
variable {f1 f2:Addr}
theorem kR {F:Hp} {d:Dt} (Y:Same F H) (r:Rep K F d v):En ⟨K,F,H,fun _=>False⟩ (deR N.length d f1 f2 F) (start N [v,.ref f1,.ref f2]) F H:=by
 have O:∀ (i:Nat) (t:T),(deR N.length d f1 f2 F)[i]?=some (some t)->∃ q,(start N [v,.ref f1,.ref f2])[i]?=some (some q)/\Own K F H t q fun _=>False:=fun i t h=>by
  unfold deR at h
  match i with
  | 0=>cases h;exact ⟨v,rfl,r⟩
  | 1=>cases h;exact ⟨_,rfl,rfl,Same.refl _⟩
  | 2=>cases h;exact ⟨_,rfl,rfl,Same.refl _⟩
  | i+3 =>rw [qn4,qn4,qn4,qj4] at h;split at h<;>cases h
 refine ⟨Y,fun b o h _=>h,Same.refl _,fun b o h=>.inl h,by simp [start,deR],fun i t h=>?_,fun _ _=>False,fun i t q h=>?_,fun _ _ z=>z.elim,fun _ _ _ z=>z.elim⟩
 . obtain ⟨q,e,_⟩:=O i t h;exact ⟨q,e⟩
 . obtain ⟨h1,h2⟩:=dY h;obtain ⟨w,e,o⟩:=O i t h1;rw [h2] at e;cases e;exact o
variable {ps:List Str} {kk:Nat}
section
variable {P:qc2} {w:World} {K:xA9} {mg:Str->Option Value} {base:Heap}
theorem An {k:Nat} {g:Orc->De->Option Out} (D:DefF K mg x st ps) (S:FnScope N ps (aa st)) (hn:ps.length=3)
 (O:∀ (f:Addr) (cdv:Value) (A:qd8) (outer:List Env) (s:qa4) (H:Hp) (E:XK),Room k (A.deeper (qx8 x (aa st) s.heap.objs.size f cdv))->∀ G:Orc,ud P w K mg base kk H G->DS (jq CX0 P w K mg base N x (aa st) f cdv A outer s H E).nox (be st) (g G)) :
  OkF P w K mg base x (k+1) ps (spR P w K mg base kk fun G=>ue N.length (g G)):=by
 refine D.ok S (fun vs H Q E h=>?_) (fun f cdv A outer s H vs Q E hr h=>?_)
 . obtain ⟨G,F,d,f1,f2,t,v,_,_,rfl,_⟩:=h;exact hn.symm
 . obtain ⟨G,F,d,f1,f2,t,v,hG,Z,rfl,r,Y,kq⟩:=h;refine ⟨_,O f cdv A outer s H E hr G hG,?_⟩;unfold ue at Y;dsimp only at Y;split at Y
   . rename_i t' q;cases Y;exact ⟨⟨K,F,H,fun _=>False⟩,_,F,_,rfl,kR Z r,q,fun v F' H' z=>z.step kq⟩
   . rename_i δ' q;cases Y;exact ⟨⟨K,F,H,fun _=>False⟩,_,F,_,rfl,kR Z r,q,fun σ' F' H' z=>(z.rt (Step.refl z.fh) (t:=.leaf .non) (S:=fun _=>False) (hX (K:=K) (F:=F')) fun _ y=>y.elim).step kq⟩
   . cases Y
end
section
variable {X:Cx} {x:Str} {p pos:Pos} {e:Expr} {es:List Expr} {t:TA} {f:Addr} {fd:qp2} {ps:List Str} {sp:Sp} {k:Nat}
def Ao (X:Cx) (sp:Sp) (t:TA):TE:=fun σ H Q=>t σ H fun vs H1=>∀ H',PlusC X σ H1 H'->sp vs H' (fun v H2=>(∀ c,bU X c->H2 c=H' c)->Q v (iS X H2)) E0
theorem ug (I:Inv X pins σ H s) (O:∀ x,X.fn x=true):∀ b,bU X b->b∉frs X.stack/\∀ o,X.base.get? b≠some o:=fun b ⟨x,Y⟩=>by
 have q:=I.ok.cab x b (O x) Y;refine ⟨fun z=>?_,fun o e=>?_⟩
 . rcases qa6.mp (I.stkSub b z) with y | y
   . exact I.cne x b Y y
   . obtain ⟨_,o,Z,_⟩:=I.ok.funs.mem y;exact absurd (qa7 Z) (qy2.mpr q)
 . exact absurd (qb7 (qa7 e) I.ok.bsz) (qy2.mpr q)
theorem uh (F:FnOk X.prog X.w X.K X.mg X.base CX0 k f fd ps sp) (hr:Room k X.A) (hg:Gl X x) (hm:X.mg x=some (.ref f)) (hk:xF9 X.K (.ref f)=true) (hb:Binds X.K fd ps []) (hfn:∀ x,X.fn x=true)
  (ha:PA X (e::es) t) (Z:(x==("__debug__":Str))=false:=by decide) (he:qa9 (e::es) X.env=(false,eval e X.env)::qa9 es X.env:=by rfl) (hpl:(qk0 pos (qa9 es X.env)).any (·.1)=false:=by rfl) :
  PE X (.Call (.Name x p) (e::es) [] pos) (Ao X sp t):=by
 intro pins s σ H Q I h;refine qo1 (lA I hg hm ?_ Z);refine PySem.W.callWith_K (h₀:=X.base) I.ok.mod.kin hk (thn (ha pos pins s σ H _ I h) fun us s1 ⟨vs,H1,O,r,q⟩=>⟨O.kIn,?_⟩) he hpl;obtain ⟨H',pc,e0⟩:=wc O (ug O hfn);have hs:=q H' pc;have hl:(us++[]).length=ps.length:=by rw [qk1,<- r.length];exact F.len _ _ _ _ hs
 refine zg1 (qr0 (F.run X.A X.stack s1 H' ⟨us,[]⟩ (us++[]) vs _ E0 hr e0 (hb s1 us O.kIn hl) (by rw [qk1];exact r) hs) fun r s' Y=>?_);cases r with
 | error e=>exact Y.elim
 | ok fl =>
  cases fl with
  | ret u=>exact O.afterP pc e0.hok Y
  | next=>exact qg2 Y
  | brk=>exact qg2 Y
  | cont=>exact qg2 Y
end
open Classical in
def rp (f1 f2:Addr) (F1:Hp) (g1 g2:List Dt->Option T):Orc:=fun a F0 ds=>if a=f1/\F0=F1/\ds.length=1 then g1 ds else if a=f2/\F0=F1/\ds.length=1 then g2 ds else none
variable {F1:Hp} {g1 g2:List Dt->Option T}
theorem Ap {d:Dt}:rp f1 f2 F1 g1 g2 f1 F1 [d]=g1 [d]:=if_pos ⟨rfl,rfl,rfl⟩
theorem Aq {d:Dt} (h:f1≠f2):rp f1 f2 F1 g1 g2 f2 F1 [d]=g2 [d]:=(if_neg fun z=>h z.1.symm).trans (if_pos ⟨rfl,rfl,rfl⟩)
noncomputable def FnIn (H:Hp) (f:Addr) (name qual:Str) (params:qi3) (body:List Stmt) (scope:Scope) (cl:List (Str×Addr)):Prop:=∃ fo uf c' doc pm ctv,H f=some (.frz fo uf)/\fo.data=.func (xG9 name qual params body scope cl .none .none doc pm none (.ref c') ctv)/\∃ oc,H c'=some (.frz oc (.code qual))
variable {f:Addr} {qual:Str} {params:qi3} {body:List Stmt} {scope:Scope}
theorem FnIn.up {name:Str} {cl:List (Str×Addr)} (h:FnIn H f name qual params body scope cl) (s:∀ b o u,H b=some (.frz o u)->H' b=some (.frz o u)):FnIn H' f name qual params body scope cl:=by obtain ⟨fo,uf,c',doc,pm,ctv,h1,h2,oc,h3⟩:=h;exact ⟨fo,uf,c',doc,pm,ctv,s _ _ _ h1,h2,oc,s _ _ _ h3⟩
def fC (δ:De):List Nat->Option (List Dt)
 | []=>some []
 | j::js=>match δ[j]? with
  | some (some (.leaf d))=>(fC δ js).map (d::·)
  | _=>none
structure NestD (X:Cx) (name qual:Str) (params:qi3) (body:List Stmt) (scope:Scope) (N ps fr:List Str) (js:List Nat) (g:De->Option Out) (kk:Nat):Prop where
 S:ClScope N ps fr scope
 ndn:∀ x,∀ y∈scope.names,y.1=x->scope.names.lookup x=some y.2
 one:ps.length=1
 fre:∀ x∈scope.names,x.2=.free->X.env.kindOf x.1=some .cell
 jl:js.length=fr.length
 nm:∀ (i j:Nat) (x:Str),fr[i]?=some x->js[i]?=some j->X.N[j]?=some x/\X.env.kindOf x=some .cell
 bd:∀ (s:qa4) (cl:List (Str×Addr)) (doc pm ctv cd:Value) (us:List Value),us.length=ps.length->qz0 s (xG9 name qual params body scope cl .none .none doc pm none cd ctv) ⟨us,[]⟩ (ps.zip us)
 body:∀ (f c':Addr) (cl:List (Str×Addr)) (A:qd8) (outer:List Env) (s:qa4) (H:Hp),Room kk (A.deeper (g8 qual scope s.heap.objs.size f (.ref c') cl))->DS (mI CX0 X.prog X.w X.K X.mg X.base N qual scope f (.ref c') cl A outer s H E0 fun _ _=>False) body g
variable {names:List (Str×qo2)} {cells:List (Str×Addr)} {js:List Nat} {g:De->Option Out}
section
variable {X:Cx}
theorem jH {c:Addr} (h:(x,c)∈fu names cells):(x,qd9)∈names/\c=(cells.lookup x).getD 0:=by
 have O:∀ (names:List (Str×qo2)) (acc:List (Str×Addr)),(x,c)∈names.foldl (fun cs Y=>if Y.2==qd9 then (Y.1,(cells.lookup Y.1).getD 0)::cs else cs) acc->(x,c)∈acc∨((x,qd9)∈names/\c=(cells.lookup x).getD 0):=fun names=>by
  induction names with
  | nil=>intro acc h;exact .inl h
  | cons y r Z =>
   intro acc h;rw [qj1] at h;rcases Z _ h with z | z
   . split at z
     . rename_i q;rcases qa6.mp z with e | z
       . obtain ⟨a,k⟩:=y;cases e;have q:k=qd9:=by simpa using q
         subst q;exact .inr ⟨.head _,rfl⟩
       . exact .inl z
     . exact .inl z
   . exact .inr ⟨.tail _ z.1,z.2⟩
 rcases O names [] h with z | z
 . cases z
 . exact z
theorem rq (h:(x,qd9)∈names):∃ c,(fu names cells).lookup x=some c:=by
 have q:∀ (names:List (Str×qo2)) (acc:List (Str×Addr)),((x,qd9)∈names∨∃ c,acc.lookup x=some c)->∃ c,(names.foldl (fun cs O=>if O.2==qd9 then (O.1,(cells.lookup O.1).getD 0)::cs else cs) acc).lookup x=some c:=fun names=>by
  induction names with
  | nil =>
   intro acc h;rcases h with h | h
   . cases h
   . exact h
  | cons y r Y =>
   intro acc h;rw [qj1];refine Y _ ?_;rcases h with h | ⟨c,h⟩
   . rcases qa6.mp h with e | h
     . subst e;right;simp
     . exact .inl h
   . right;split
     . rw [qg8];cases x==y.1 with
       | true=>exact ⟨_,rfl⟩
       | false=>exact ⟨c,h⟩
     . exact ⟨c,h⟩
 exact q names [] (.inl h)
theorem jI {F:Hp} (O:En Φ δ σ F H):∀ {js:List Nat} {caps:List Dt},fC δ js=some caps->∃ fs:List V,Reps Φ.K F caps fs/\fs.length=js.length/\∀ (i j:Nat) (v:V),js[i]?=some j->fs[i]?=some v->σ[j]?=some (some v)
 | [],caps,h=>by cases h;exact ⟨[],by simp only [Reps],rfl,fun i j v h=>by simp at h⟩
 | j::js,caps,h=>by
  simp only [fC] at h;split at h<;>first | (cases h;done) | skip
  rename_i d Z;obtain ⟨cs,q,rfl⟩:=mS h;obtain ⟨v,hv,rv⟩:=O.leaf Z;obtain ⟨fs,h1,h2,h3⟩:=jI O q;refine ⟨v::fs,by simp only [Reps];exact ⟨v,fs,rfl,rv,h1⟩,by simp [h2],fun i j' Y q1 q2=>?_⟩;cases i with
  | zero =>simp at q1 q2;subst q1 q2;exact hv
  | succ i=>exact h3 i j' Y (by simpa using q1) (by simpa using q2)
theorem NestD.at {name:Str} {fr:List Str} (D:NestD X name qual params body scope N ps fr js g kk) (Z:∀ x y c,X.env.cells.lookup x=some c->X.env.cells.lookup y=some c->x=y) (hhas:∀ x,X.env.kindOf x=some .cell->∃ c,X.env.cells.lookup x=some c)
 (pc:PlusC X σ H H') (fi:FnIn H' f name qual params body scope (fu scope.names X.env.cells)) {fs:List V} (hl:fs.length=js.length) (hv:∀ (i j:Nat) (v:V),js[i]?=some j->fs[i]?=some v->σ[j]?=some (some v)) (hall:∀ x∈scope.names,x.2=.free->x.1∈fr) :
  ∃ c' doc pm ctv fo uf,ClAt H' f name qual params body scope (fu scope.names X.env.cells) fr fs c' doc pm ctv fo uf:=by
 obtain ⟨fo,uf,c',doc,pm,ctv,h1,h2,h3⟩:=fi;have cells:∀ x,(x,qd9)∈scope.names->∃ c,X.env.cells.lookup x=some c:=fun x hx=>hhas x (D.fre (x,.free) hx rfl)
 have look:∀ x c,(x,c)∈fu scope.names X.env.cells->X.env.cells.lookup x=some c:=fun x c h=>by obtain ⟨a,b⟩:=jH h;obtain ⟨c2,e⟩:=cells x a;rw [e] at b;rw [e,b];rfl
 have Y:∀ x c,(x,c)∈fu scope.names X.env.cells->∃ (i:Nat) (o:Obj) (v:V) (u:Value),fr[i]?=some x/\fs[i]?=some v/\H' c=some (fJ c o)/\o.data=.cell (some u)/\RelV v u:=fun x c h=>by obtain ⟨a,_⟩:=jH h;obtain ⟨i,hi⟩:=qm1 (hall _ a rfl);have hif:i<fr.length:=(gX hi).1;have hjl:=D.jl;have q:js[i]?=some js[i]:=gQ (by lia);have hiv:fs[i]?=some fs[i]:=gQ (by lia);obtain ⟨n1,n2⟩:=D.nm i _ x hi q;obtain ⟨o,v,g1,g2,g3⟩:=pc.cel x c (look x c h);obtain ⟨u,rfl,ru⟩:=g3 _ _ n1 (hv i _ _ q hiv) (.inl n2);exact ⟨i,o,_,u,hi,hiv,g1,g2,ru⟩
 refine ⟨c',doc,pm,ctv,fo,uf,⟨h1,h2,h3,fun x c h=>?_,fun x y c O e2=>?_,?_,fun i x v O e2=>?_,fun x c e=>?_⟩⟩
 . obtain ⟨_,o,_,u,_,_,g1,g2,_⟩:=Y x c h;exact ⟨o,u,g1,g2⟩
 . exact Z x y c (look x c (PySem.mem_of_lookup O)) (look y c (PySem.mem_of_lookup e2))
 . rw [hl,D.jl]
 . have hx:=D.S.frk x (qc7 O);obtain ⟨c,e⟩:=rq (cells:=X.env.cells) (PySem.mem_of_lookup hx);have hif:i<fr.length:=(gX O).1;have hjl:=D.jl;have q:js[i]?=some js[i]:=gQ (by lia);obtain ⟨n1,n2⟩:=D.nm i _ x O q;obtain ⟨o,w,g1,g2,g3⟩:=pc.cel x c (look x c (PySem.mem_of_lookup e));obtain ⟨u,rfl,ru⟩:=g3 _ _ n1 (hv i _ _ q e2) (.inl n2);exact ⟨c,o,u,e,g1,g2,ru⟩
 . obtain ⟨a,_⟩:=jH (PySem.mem_of_lookup e);exact D.ndn x _ a rfl
end
variable {Hp':Hp}
section
variable {X:Cx} {K:xA9}
theorem Step.hide {F H1:Hp} (fh:Same F H) (q:PlusC X σ H Hp') (a:Step F Hp' F1 H1):Step F H F1 (iS X H1):=by
 have cel:∀ {b:Addr},bU X b->∃ o,Hp' b=some (fJ b o):=fun {b} ⟨x,hx⟩=>by obtain ⟨o,v,e,_⟩:=q.cel x b hx;exact ⟨o,e⟩
 have Z:∀ {b:Addr} {o:HO},F1 b=some o->¬ bU X b:=fun {b o} e Y=>by
  obtain ⟨ob,g1⟩:=cel Y;rcases a.nw b o e with z | z | ⟨xs,z⟩
  . have:=fh b o z;rw [q.fre b Y] at this;cases this
  . rw [g1] at z;cases z
  . rw [g1] at z;cases z
 refine ⟨fun b o e=>?_,a.ff,fun b o e=>?_,fun b o e=>?_⟩
 . have O:¬ bU X b:=fun z=>by rw [q.fre b z] at e;cases e
   rw [cz O];exact a.hh b o (by rw [q.out b O];exact e)
 . rw [cz (Z e)];exact a.fh b o e
 . rw [<- q.out b (Z e)];exact a.nw b o e
theorem KO.hide {F:Hp} {t:T} {Q:VK} (Z:Same F H) (q:PlusC X σ H Hp') (k:KO K F H t Q):KO K F Hp' t fun v H2=>Q v (iS X H2):=fun v H2 F2 S st o Y=>by
 have O:∀ b,S b->¬ bU X b:=fun b z ⟨x,hx⟩=>by obtain ⟨ob,_,e,_⟩:=q.cel x b hx;rw [(Y b z).2.1] at e;cases e
 refine k v _ F2 S (Step.hide Z q st) (o.step (Same.refl _) fun b u z e=>by rw [cz (O b z)];exact e) fun b z=>?_
 obtain ⟨h1,h2,u,h3,h4⟩:=Y b z;exact ⟨h1,by rw [<- q.out b (O b z)];exact h2,u,by rw [cz (O b z)];exact h3,h4⟩
end
section
variable {X:Cx} {e0:Expr} {p p1 p2 pos:Pos} {x n1 n2 q1 q2:Str} {par1 par2:qi3} {bod1 bod2:List Stmt} {sc1 sc2:Scope} {N1 ps1 fr1 N2 ps2 fr2:List Str} {js1 js2:List Nat} {g1 g2:De->Option Out} {k kk i1 i2:Nat} {ps:List Str} {FR:Orc->Dt->Addr->Addr->Hp->Option T} {f0:De->Option Dt}
noncomputable def ui (X:Cx) (i1 i2:Nat) (n1 n2 q1 q2:Str) (par1 par2:qi3) (bod1 bod2:List Stmt) (sc1 sc2:Scope) (σ:St) (H:Hp) (f1 f2:Addr):Prop:=σ[i1]?=some (some (.ref f1))/\σ[i2]?=some (some (.ref f2))/\f1≠f2/\FnIn H f1 n1 q1 par1 bod1 sc1 (fu sc1.names X.env.cells)/\FnIn H f2 n2 q2 par2 bod2 sc2 (fu sc2.names X.env.cells)
noncomputable def tRt (X:Cx) (i1 i2:Nat) (n1 n2 q1 q2:Str) (par1 par2:qi3) (bod1 bod2:List Stmt) (sc1 sc2:Scope) (N1 N2:List Str) (js1 js2:List Nat) (g1 g2:De->Option Out) (f0:De->Option Dt) (FR:Orc->Dt->Addr->Addr->Hp->Option T):TE:=fun σ H Q =>∃ Φ δ F f1 f2 d0 q O t,Fm.K Φ=X.K/\En Φ δ σ F H/\ui X i1 i2 n1 n2 q1 q2 par1 par2 bod1 bod2 sc1 sc2 σ H f1 f2/\f0 δ=some d0/\fC δ js1=some q/\fC δ js2=some O/\(∀ F0,FR (rp f1 f2 F0 (i4 N1.length g1 q) (i4 N2.length g2 O)) d0 f1 f2 F0=some t)/\KO X.K F H t Q
theorem Cl (F:OkF X.prog X.w X.K X.mg X.base x k ps (spR X.prog X.w X.K X.mg X.base (kk+1) FR)) (hr:Room k X.A) (hg:Gl X x) (hfn:∀ x,X.fn x=true) (h0:DL X e0 f0) (hv1:PE X (.Name n1 p1) (gY i1)) (hv2:PE X (.Name n2 p2) (gY i2))
  (D1:NestD X n1 q1 par1 bod1 sc1 N1 ps1 fr1 js1 g1 kk) (D2:NestD X n2 q2 par2 bod2 sc2 N2 ps2 fr2 js2 g2 kk) (ha1:∀ x∈sc1.names,x.2=.free->x.1∈fr1) (ha2:∀ x∈sc2.names,x.2=.free->x.1∈fr2) (hdb:(x==("__debug__":Str))=false:=by decide)
  (s0:qa9 [e0,.Name n1 p1,.Name n2 p2] X.env=(false,eval e0 X.env)::qa9 [.Name n1 p1,.Name n2 p2] X.env:=by rfl) (s1:qa9 [.Name n1 p1,.Name n2 p2] X.env=(false,eval (.Name n1 p1) X.env)::qa9 [.Name n2 p2] X.env:=by rfl) (s2:qa9 [.Name n2 p2] X.env=(false,eval (.Name n2 p2) X.env)::qa9 [] X.env:=by rfl)
  (hpl:(qk0 pos (qa9 [.Name n1 p1,.Name n2 p2] X.env)).any (·.1)=false:=by rfl) :
  PE X (.Call (.Name x p) [e0,.Name n1 p1,.Name n2 p2] [] pos) (tRt X i1 i2 n1 n2 q1 q2 par1 par2 bod1 bod2 sc1 sc2 N1 N2 js1 js2 g1 g2 f0 FR):=by
 obtain ⟨f,fd,hm,hk,hb,FF⟩:=F.ex;intro pins s σ H Q I h;refine (uh FF hr hg hm hk hb hfn (dq h0 (dq hv1 (dq hv2 fO s2) s1) s0) hdb s0 hpl) pins s σ H Q I ?_;obtain ⟨Φ,δ,F,f1,f2,d0,Y,caps2,t,hK,en,⟨v1,v2,hne,fi1,fi2⟩,hf0,hc1,hc2,hrun,kq⟩:=h;refine ⟨Φ,δ,F,d0,hK,en,hf0,fun v H1 F1 st r1=>⟨.ref f1,v1,.ref f2,v2,fun H' pc=>?_⟩⟩
 have up1:∀ b o,H1 b=some o->H' b=some o:=fun b o z=>by rw [pc.out b fun y=>by rw [pc.fre b y] at z;cases z];exact z
 have up:∀ b o u,H b=some (.frz o u)->H' b=some (.frz o u):=fun b o u z=>up1 _ _ (st.hh _ _ z)
 obtain ⟨fs1,rc1,hl1,hs1⟩:=jI en hc1;obtain ⟨fs2,rc2,hl2,hs2⟩:=jI en hc2;rw [hK] at rc1 rc2;have q:∀ x,X.env.kindOf x=some .cell->∃ c,X.env.cells.lookup x=some c:=fun x hx=>I.ok.has x (.inl hx)
 obtain ⟨c1',doc1,pm1,ctv1,fo1,uf1,C1⟩:=D1.at I.ok.inj q pc (fi1.up up) hl1 hs1 ha1
 obtain ⟨c2',doc2,pm2,ctv2,fo2,uf2,C2⟩:=D2.at I.ok.inj q pc (fi2.up up) hl2 hs2 ha2
 refine ⟨rp f1 f2 F1 (i4 N1.length g1 Y) (i4 N2.length g2 caps2),F1,d0,f1,f2,t,v,fun f F0 ds t hG=>?_,fun b o z=>up1 b o (st.fh b o z),rfl,r1,hrun F1,fun v' H2 F2 S st2 o hs _=>KO.hide st.fh pc (kq.step st) v' H2 F2 S st2 o hs⟩;unfold rp at hG;split at hG
 . rename_i hh;obtain ⟨rfl,rfl,hd⟩:=hh;refine ⟨⟨fo1,uf1,_,C1.fn,C1.dat⟩,fun A outer s H2 F2 us vs Q2 Z hp e0 h0 fh r rd O=>?_⟩;exact p5 D1.S D1.ndn C1 (rc1.same st.ff) (fun s us hu=>D1.bd s _ _ _ _ _ us hu) (fun A outer s H hr=>D1.body _ _ _ A outer s H hr) (by rw [hd,D1.one]) hG A outer s H2 F2 us vs Q2 Z hp e0 h0 fh r rd O
 . split at hG
   . rename_i hh;obtain ⟨rfl,rfl,hd⟩:=hh;refine ⟨⟨fo2,uf2,_,C2.fn,C2.dat⟩,fun A outer s H2 F2 us vs Q2 Z hp e0 h0 fh r rd O=>?_⟩;exact p5 D2.S D2.ndn C2 (rc2.same st.ff) (fun s us hu=>D2.bd s _ _ _ _ _ us hu) (fun A outer s H hr=>D2.body _ _ _ A outer s H hr) (by rw [hd,D2.one]) hG A outer s H2 F2 us vs Q2 Z hp e0 h0 fh r rd O
   . cases hG
end
noncomputable def qb (i:Nat) (name qual:Str) (params:qi3) (body:List Stmt) (scope:Scope) (clos:List (Str×Addr)):TS:=fun D σ H=>∀ (f c':Addr) (doc pm ctv:Value) (H':Hp),MadeH H H' f c' qual {cls:=.type "function",data:=.func (xG9 name qual params body scope clos .none .none doc pm none (.ref c') ctv)}->D.nx (σ.set i (some (.ref f))) H'
section
variable {X:Cx} {c P:Addr} {qs:List ((Nat×Nat)×Str)} {name qual:Str} {params:qi3} {body:List Stmt} {scope:Scope} {clos:List (Str×Addr)} {pos:Pos} {i:Nat}
theorem wI (hN:X.N.Nodup) (hi:X.N[i]?=some name) (hx:Loc X.env.scope name) (Z:X.fn name=true∨X.env.scope.names.lookup name=some .local) (B:TabB X.mg X.base c P) (O:X.env.code=.ref c) (hT:(P,qs)∈dE X.K) (Y:qualnameIn X.env name name=qual) (hq:((pos.line,pos.col),qual)∈qs) (hun:∀ q,((pos.line,pos.col),q)∈qs->q=qual) (hcl:zd8 scope X.env=pure clos)
  (hd0:params.defaults=[]) (hk0:params.kw_defaults=[]) (ha:annTrees params none X.env=[]):PS X (.FunctionDef name params body [] none [] scope none name pos) (qb i name qual params body scope clos):=fun pins s σ H D I h =>
 Ad hN hi hx Z B O Y hq hun hcl hd0 hk0 ha pins s σ H D I ⟨I.base.cts _ _ (I.ok.tb _ hT),h⟩
end
section
variable {X:Cx} {e0:Expr} {pos:Pos} {n1 n2 q1 q2:Str} {par1 par2:qi3} {bod1 bod2:List Stmt} {sc1 sc2:Scope} {N1 N2:List Str} {js1 js2:List Nat} {g1 g2:De->Option Out} {i1 i2:Nat} {FR:Orc->Dt->Addr->Addr->Hp->Option T} {f0:De->Option Dt} {K:xA9}
noncomputable def tG2 (X:Cx) (i1 i2:Nat) (n1 n2 q1 q2:Str) (par1 par2:qi3) (bod1 bod2:List Stmt) (sc1 sc2:Scope) (g:De->Option Out):TS:=fun D σ H =>∃ Φ δ F f1 f2 o,Fm.K Φ=X.K/\En Φ δ σ F H/\ui X i1 i2 n1 n2 q1 q2 par1 par2 bod1 bod2 sc1 sc2 σ H f1 f2/\g δ=some o/\Post Φ D o
theorem En.clear {F:Hp} (e:En Φ δ σ F H) (i:Nat) (v:V):En Φ (δ.set i none) (σ.set i (some v)) F H:=by
 obtain ⟨S,s⟩:=e.sep;refine ⟨e.fh,e.prot,e.old,e.nw,by simp [e.len],fun j t h=>?_,S,fun j t u h=>?_,s.out,s.dis⟩
 . rcases dO h with ⟨_,z⟩ | ⟨q,z⟩
   . cases z
   . obtain ⟨w,O⟩:=e.has j t z;exact ⟨w,by rw [gN q];exact O⟩
 . obtain ⟨h1,h2⟩:=dY h;rcases dO h1 with ⟨_,z⟩ | ⟨q,z⟩
   . cases z
   . rw [gN q] at h2;exact s.own j t u (cw z h2)
def oO (i1 i2:Nat) (δ:De):De:=(δ.set i1 none).set i2 none
theorem uj {ss:List Stmt} (hne:i1≠i2) (hl1:∀ σ:St,σ.length=X.N.length->i1<σ.length/\i2<σ.length)
 (h1:PS X (.FunctionDef n1 par1 bod1 [] none [] sc1 none n1 p1) (qb i1 n1 q1 par1 bod1 sc1 (fu sc1.names X.env.cells))) (h2:PS X (.FunctionDef n2 par2 bod2 [] none [] sc2 none n2 p2) (qb i2 n2 q2 par2 bod2 sc2 (fu sc2.names X.env.cells)))
 (hs:PSs X ss (tG2 X i1 i2 n1 n2 q1 q2 par1 par2 bod1 bod2 sc1 sc2 g)) :
  DS X (.FunctionDef n1 par1 bod1 [] none [] sc1 none n1 p1::.FunctionDef n2 par2 bod2 [] none [] sc2 none n2 p2::ss) fun δ=>g (oO i1 i2 δ):=by
 intro pins s σ H D I h;refine jk h1 (jk h2 hs) pins s σ H D I ?_;obtain ⟨Φ,δ,F,o,hK,en,hg,k⟩:=h;obtain ⟨l1,l2⟩:=hl1 σ I.len;intro f1 c1 O pm1 ctv1 H1 M1 f2 c2 Z pm2 Y H2 q
 have hf:f1≠f2:=fun z=>by have:=q.free;rw [<- z,M1.fn] at this;cases this
 have sm:Same H H2:=fun b o e=>q.old b o (M1.old b o e)
 refine ⟨Φ,oO i1 i2 δ,F,f1,f2,o,hK,((en.step ⟨sm,Same.refl _,en.fh.trans sm,fun _ _ e=>.inl e⟩).clear i1 (.ref f1)).clear i2 (.ref f2),⟨?_,?_,hf,?_,?_⟩,hg,k⟩
 . rw [gN (qq0 hne)];exact qf0 l1
 . exact qf0 (by simpa using l2)
 . obtain ⟨oc,hc⟩:=M1.cod;exact ⟨_,_,c1,O,pm1,ctv1,q.old _ _ M1.fn,rfl,oc,q.old _ _ hc⟩
 . obtain ⟨oc,hc⟩:=q.cod;exact ⟨_,_,c2,Z,pm2,Y,q.fn,rfl,oc,hc⟩
noncomputable def Ar (N1 N2:List Str) (g1 g2:De->Option Out) (FR:Orc->Dt->Addr->Addr->Hp->Option T) (d0:Dt) (q O:List Dt) (r:T):Prop:=∀ f1 f2 F0,f1≠f2->FR (rp f1 f2 F0 (i4 N1.length g1 q) (i4 N2.length g2 O)) d0 f1 f2 F0=some r
open Classical in
noncomputable def fRt (js1 js2:List Nat) (N1 N2:List Str) (g1 g2:De->Option Out) (f0:De->Option Dt) (FR:Orc->Dt->Addr->Addr->Hp->Option T):De->Option T:=fun δ=>(f0 δ).bind fun d=>(fC δ js1).bind fun a=>(fC δ js2).bind fun b =>if h:∃ r,Ar N1 N2 g1 g2 FR d a b r then some h.choose else none
theorem As {d0:Dt} {a b:List Dt} {r:T} (Y:f0 δ=some d0) (Z:fC δ js1=some a) (O:fC δ js2=some b) (h:Ar N1 N2 g1 g2 FR d0 a b r):fRt js1 js2 N1 N2 g1 g2 f0 FR δ=some r:=by
 have q:∃ r,Ar N1 N2 g1 g2 FR d0 a b r:=⟨r,h⟩
 have e:q.choose=r:=by have h1:=q.choose_spec 0 1 (fun _=>none) (by decide);have h2:=h 0 1 (fun _=>none) (by decide);exact qd6 (h1.symm.trans h2)
 unfold fRt;rw [Y,Z,O];simp only [qa3];rw [dif_pos q,e]
theorem At {F:Hp} {t:T} {Q:VK} (hK:Φ.K=X.K) (Z:En Φ δ σ F H) (fs:ui X i1 i2 n1 n2 q1 q2 par1 par2 bod1 bod2 sc1 sc2 σ H f1 f2) (h:fRt js1 js2 N1 N2 g1 g2 f0 FR δ=some t) (k:KO X.K F H t Q) :
  tRt X i1 i2 n1 n2 q1 q2 par1 par2 bod1 bod2 sc1 sc2 N1 N2 js1 js2 g1 g2 f0 FR σ H Q:=by
 unfold fRt at h;obtain ⟨d0,O,h⟩:=bS h;obtain ⟨a,Y,h⟩:=bS h;obtain ⟨b,q,h⟩:=bS h;split at h
 . rename_i hx;cases h;exact ⟨Φ,δ,F,f1,f2,d0,a,b,_,hK,Z,fs,O,Y,q,fun F0=>hx.choose_spec f1 f2 F0 fs.2.2.1,k⟩
 . cases h
theorem wJ (Z:PE X e (tRt X i1 i2 n1 n2 q1 q2 par1 par2 bod1 bod2 sc1 sc2 N1 N2 js1 js2 g1 g2 f0 FR)):PS X (.Return (some e) pos) (tG2 X i1 i2 n1 n2 q1 q2 par1 par2 bod1 bod2 sc1 sc2 (bi (fRt js1 js2 N1 N2 g1 g2 f0 FR))):=PS.mono (nY Z) fun D σ H ⟨Φ,δ,F,f1,f2,o,q,O,fs,hg,k⟩=>by obtain ⟨t,Y,rfl⟩:=mS hg;exact At q O fs Y fun v H' F' S st o hs=>k v F' H' (O.rt st (q▸o) hs)
end
def oP (mg:Str->Option Value) (base:Heap):Prop:=∃ q ob,mg "__builtins__"=some (.ref q)/\q≠qv0/\base.get? q=some ob/\ob.cls=.type "module"/\ob.dict=some qv0/\ob.data=.plain
theorem TabB.mk' {base:Heap} {c P:Addr} (q:K.In base) (h:xJ9 K c P=true) (b:oP mg base):TabB mg base c P:=⟨xS9 q h,b⟩
def qc (H:Hp):Prop:=∀ b,H b=none∨(∃ o xs,H b=some (.frz o (.lst xs)))∨∃ qs,H b=some (.ctab qs)
def gz (K:xA9):Hp:=fun b=>((dE K).find? fun p=>p.1==b).map fun p=>.ctab p.2
theorem fD {b:Addr} {u:HO} (h:gz K b=some u):∃ p∈dE K,p.1=b/\u=.ctab p.2:=by obtain ⟨p,hp,rfl⟩:=mS h;exact ⟨p,qx4 hp,by simpa using List.find?_some hp,rfl⟩
theorem uk (O:∀ p∈dE K,∀ q∈dE K,p.1=q.1->p=q) {p:Addr×List ((Nat×Nat)×Str)} (hp:p∈dE K):gz K p.1=some (.ctab p.2):=by
 unfold gz;cases q:(dE K).find? fun x=>x.1==p.1 with
 | none =>have:=List.find?_eq_none.mp q p hp;simp at this
 | some r =>
  have h1:r.1=p.1:=by simpa using List.find?_some q
  rw [O r (qx4 q) p hp h1];rfl
def TabsIn (K:xA9) (h:Heap):Prop:=(∀ p∈dE K,K.lookup p.1=none/\(∃ c,xN9 h c p.1)/\h.get? p.1=some (xI9 #[]))/\∀ p∈dE K,∀ q∈dE K,p.1=q.1->p=q
theorem rz {mb:Str->Option Value} {CX:CXT} {k:Nat} {fa:Addr} {fd:qp2} {sp:Sp} {s₁:qa4} {vs:List Value} {ns:List Int}
 (KX:K.In s₁.heap) (hns:s₁.heap.Ns qb9 mg) (hb:s₁.heap.Ns qv0 mb) (hbb:∀ x:Str,x≠"__name__"->mb x=qd7 x) (hlim:s₁.heap.NoLimit) (hg:s₁.gens=#[]) (hbm:oP mg s₁.heap) (hT:TabsIn K s₁.heap)
 (ha:s₁.heap.get? a=some {cls:=.type "list",data:=.seq vs.toArray}) (hi:IntsAre vs ns) (hl:ns.length<=qb2) (hr:Room k zg2)
 (F:∀ base:Heap,K.In base->base.Ns qb9 mg->oP mg base->FnOk P w K mg base CX k fa fd [x] sp) (hbind:∀ (s:qa4) (u:Value),qz0 s fd ⟨[u],[]⟩ [(x,u)])
 (hsp:∀ H:Hp,qc H->SqL K H a (ns.map V.int)->sp [.ref a] H (fun v _=>v=.bl true) fun _ _ _=>False)
 (hCX:∀ H e s',CX [] H s₁ (fun _ _ _=>False) e s'->False) :
  qq1 (model P w) zg2 (.call (.ref fa) ⟨[.ref a],[]⟩) (fun r s'=>r=.ok (.ret (.bool true))/\OldK s₁.heap s'.heap/\s'.os=s₁.os/\zb6 s'.gens) s₁:=by
 have rv:=ku hi;have lenV:=hi.length;obtain ⟨hT,hnd⟩:=hT
 have tb:∀ {b:Addr} {u:HO},gz K b=some u->s₁.heap.get? b=some (xI9 #[])/\K.lookup b=none/\∃ c,xN9 s₁.heap c b:=fun {b u} e=>by obtain ⟨p,hp,rfl,_⟩:=fD e;obtain ⟨h1,h2,h3⟩:=hT p hp;exact ⟨h3,h1,h2⟩
 have taN:gz K a=none:=by
  cases q:gz K a with
  | none=>rfl
  | some u =>have:=(tb q).1;rw [ha] at this;cases this
 -- H: the script,if it is none of the module's own,and the tables
 have core:∀ H:Hp,SqL K H a (ns.map V.int)->(∀ b,b≠a->H b=gz K b)->(H a=none∨(K.lookup a=none/\H a=some (.frz {cls:=.type "list",data:=.seq vs.toArray} (.lst (ns.map V.int)))))→
     qq1 (model P w) zg2 (.call (.ref fa) ⟨[.ref a],[]⟩) (fun r s'=>r=.ok (.ret (.bool true))/\OldK s₁.heap s'.heap/\s'.os=s₁.os/\zb6 s'.gens) s₁:=by
  intro H hS hH hA
  have Y:∀ {b:Addr} {u:HO},H b=some u->(b=a/\K.lookup a=none/\u=.frz {cls:=.type "list",data:=.seq vs.toArray} (.lst (ns.map V.int)))∨(b≠a/\gz K b=some u):=fun {b u} e=>by
   by_cases hb:b=a
   . subst hb;rcases hA with z | ⟨z1,z2⟩
     . rw [z] at e;cases e
     . rw [z2] at e;cases e;exact .inl ⟨rfl,z1,rfl⟩
   . rw [hH b hb] at e;exact .inr ⟨hb,e⟩
  have hO:qc H:=fun b=>by
   cases q:H b with
   | none=>exact .inl rfl
   | some u =>
    rcases Y q with ⟨_,_,rfl⟩ | ⟨_,z⟩
    . exact .inr (.inl ⟨_,_,rfl⟩)
    . obtain ⟨p,_,_,rfl⟩:=fD z;exact .inr (.inr ⟨_,rfl⟩)
  have hok:HOk P w H s₁.heap:=fun b u e=>by
   rcases Y e with ⟨rfl,_,rfl⟩ | ⟨_,z⟩
   . exact ⟨ha,by rw [qa1];exact hl,vs,_,rv,ha⟩
   . obtain ⟨p,_,_,rfl⟩:=fD z;refine ⟨#[],(tb z).1,trivial,fun pos q v _ h=>?_⟩;cases h
  have O:∀ {b:Addr} {o:Obj},s₁.heap.get? b=some o->H b=none->(j7 s₁.heap H).get? b=some o:=fun e n=>sk e n
  have noH:∀ {b:Addr} {o:Obj},s₁.heap.get? b=some o->o.data≠.seq vs.toArray->o≠xI9 #[]->H b=none:=fun {b o} e d1 d2=>by
   cases q:H b with
   | none=>rfl
   | some u =>
    rcases Y q with ⟨rfl,_,rfl⟩ | ⟨_,z⟩
    . rw [ha] at e;cases e;exact absurd rfl d1
    . have:=(tb z).1;rw [e] at this;cases this;exact absurd rfl d2
  have Z:∀ {b:Addr} {m:Str->Option Value},s₁.heap.Ns b m->(j7 s₁.heap H).Ns b m:=fun {b m} ⟨o,es,ep,e,d,r⟩=>⟨o,es,ep,O e (noH e (by rw [d];intro z;cases z) (fun z=>by rw [z] at d;cases d)),d,r⟩
  have hKb:K.In (j7 s₁.heap H):=fun b o e=>O (KX b o e) (by
   cases q:H b with
   | none=>rfl
   | some u =>
    rcases Y q with ⟨rfl,z,_⟩ | ⟨_,z⟩
    . rw [z] at e;cases e
    . rw [(tb z).2.1] at e;cases e)
  have hbmB:oP mg (j7 s₁.heap H):=by obtain ⟨bm,ob,b1,b2,b3,b4,b5,b6⟩:=hbm;exact ⟨bm,ob,b1,b2,O b3 (noH b3 (by rw [b6];intro z;cases z) fun z=>by rw [z] at b4;cases b4),b4,b5,b6⟩
  have hM:Mod K mg (j7 s₁.heap H):=⟨hKb,Z hns,⟨mb,Z hb,hbb⟩,let ⟨mc,h1,h2⟩:=hlim;⟨mc,Z h1,h2⟩⟩
  have e0:Env0 P w K mg (j7 s₁.heap H) zg2 [] s₁ H:=⟨rfl,hM,fun b o e=>vA e,Nat.le_of_eq (qI _ _),trivial,fun b hb=>absurd (show b∈([]:List Addr) from hb) (by simp),hok,.of_eq hg,fun p hp=>by have h:=uk hnd hp;rw [hH p.1 fun z=>by rw [z,taN] at h;cases h];exact h⟩
  refine qr0 ((F _ hKb (Z hns) hbmB).run zg2 [] s₁ H ⟨[.ref a],[]⟩ [.ref a] [.ref a] _ _ hr e0 (hbind s₁ (.ref a)) (.cons rfl .nil) (hsp H hO hS)) fun r s' h=>?_
  cases r with
  | error e=>exact (hCX H e s' h).elim
  | ok fl =>
   cases fl with
   | next=>exact qg2 h
   | brk=>exact qg2 h
   | cont=>exact qg2 h
   | ret u =>
    obtain ⟨v,H',os,bare,un,hok',r',q⟩:=h;have q':v=.bl true:=q;subst q';obtain rfl:u=qq9 true:=r';refine ⟨rfl,⟨fun b o e=>?_,fun b o e=>un.there b o e (by simp)⟩,os,bare⟩;cases q:H b with
    | none=>exact .inl (un.keep b o e q (by intro z;exact absurd (show b∈([]:List Addr) from z) (by simp)) (by simp))
    | some u =>
     rcases Y q with ⟨rfl,_,rfl⟩ | ⟨_,z⟩
     . have z2:=un.frzs b _ _ q;obtain ⟨e1,_⟩:=hok b _ q;obtain ⟨e2,_⟩:=hok' b _ z2;rw [e] at e1;cases e1
       exact .inl e2
     . obtain ⟨g1,_,c,g2⟩:=tb z;obtain ⟨p,_,_,rfl⟩:=fD z;obtain ⟨ps,g3,_⟩:=hok' b _ (un.cts b _ q);rw [e] at g1;cases g1;refine .inr (.inl ⟨(g2.tab e).isCodeTable,rfl,#[],ps,rfl,?_⟩);rw [g3];simp [xI9]
 cases hk:K.lookup a with
 | some o =>have e:=KX a o hk;rw [ha] at e;cases e;exact core (gz K) (.inr ⟨_,vs.toArray,_,hk,rfl,rfl,rfl,by rw [qb5,lenV];exact hl,by simpa using rv⟩) (fun _ _=>rfl) (.inl taN)
 | none =>exact core (fun b=>if b=a then some (.frz {cls:=.type "list",data:=.seq vs.toArray} (.lst (ns.map V.int))) else gz K b) (.inl (.inr ⟨{cls:=.type "list",data:=.seq vs.toArray},if_pos rfl⟩)) (fun b hb=>if_neg hb) (.inr ⟨hk,if_pos rfl⟩)
theorem Cm {l:xT9} {k:Nat} {q:qc2} {loose:List Str} {XP:(Str->Option Value)->Heap->Prop} {YP:World->Heap->Prop} {d:DefRec} {K:Params->xA9} {CX:World->CXT} {sp:World->Sp} 
 (hn:l.most=some n) (hn2:n<=qb2) (hdf:d.params.defaults=[]) (hr:Room k zg2)
 (hY:∀ (w:World) (h:Heap),YP w h->(K w.params).In h) (hT:∀ (w:World) (h:Heap),YP w h->TabsIn (K w.params) h)
 (F:∀ (w:World) (mg:Str->Option Value) (fa:Addr) (h:Heap),(K w.params).In h->h.Ns qb9 mg->mg d.name=some (.ref fa)→
 ∃ fd:qp2,(∀ (s:qa4) (u:Value),qz0 s fd ⟨[u],[]⟩ [(x,u)])∧
 ∀ base:Heap,(K w.params).In base->base.Ns qb9 mg->oP mg base->FnOk l.prog w (K w.params) mg base (CX w) k fa fd [x] (sp w))
 (hsp:∀ (w:World) (H:Hp) (a:Addr) (ns:List Int),ns.length<=n->qc H->SqL (K w.params) H a (ns.map V.int)->sp w [.ref a] H (fun v _=>v=.bl true) fun _ _ _=>False)
 (hCX:∀ (w:World) (H:Hp) (s:qa4) (e:Value) (s':qa4),CX w [] H s (fun _ _ _=>False) e s'->False) :
  PySem.W.WalkO q loose XP YP l.row.toRowW d [] (fun f vs=>PySem.call f vs):=by
 refine Att.xV hn hdf fun w s₀ s₁ mg mb fa o pm cd doc a vs ns G Y ho hd hcd hmg hobj Z O hg=>?_
 have KX:=hY w _ Y;obtain ⟨fd,hb,hF⟩:=F w mg fa _ KX G.T.g hmg;exact rz KX G.T.g G.T.b G.T.builtins G.T.nolimit hg G.T.bmain (hT w _ Y) hobj Z (qc4 O hn2) hr hF hb (fun H hO hS=>hsp w H a ns O hO hS) fun H e s'=>hCX w H s₁ e s'
def wK (lo st:Int) (n:Nat):It:=⟨fun i _=>i<n,fun i H x H'=>H'=H/\x=.int (lo+i*st),fun i _=>n<=i⟩
theorem m7 {w:World} {tg:Expr} (it:Addr) (lo st:Int) (n:Nat):Turn P w K tg (wK lo st n) [it] it (fun i h=>ze4 h it (lo+(i:Nat)*st) ((n:Int)-(i:Nat)) st) where
 mem:=by simp
 obj:=fun i h q b O=>by
  have e:b=it:=by simpa using O
  subst e
  exact ⟨_,q,fun v z=>by have z':Data.fields _=Data.cell v:=z;cases z'⟩
 keep:=fun i h h' q k=>k it (by simp) _ q
 item:=by
  intro X hP hw hK hc i pins s σ H E I Y q hg;subst hP hw hK;obtain ⟨f0,f1,f2,f3,Z,f5⟩:=Y it (by simp);have W:=Walks.range (prog:=X.prog) (w:=X.w) (I.ok.hd hc) it lo st n;refine W.item i s _ _ hg q fun v h' tk hv q' kk=>?_
  obtain ⟨t,rfl⟩:=hv;have I1:Inv X pins σ H {s with heap:=h',toks:=tk}:=I.turned (fun b o O e=>kk b o (by simpa using O) e) f0 f1 f3 Z f5;exact ⟨_,rfl,km (s:={s with heap:=h',toks:=tk}) (n:="range_iterator") q' rfl rfl (by decide) ⟨.int (lo+i*st),H,I1,⟨t,rfl⟩,⟨rfl,rfl⟩,q',fun b O=>(Y b O).1⟩⟩
 done:=by intro X hP hw hK hc i pins s σ H E I Y q hg;subst hP hw hK;obtain ⟨f0,f1,f2,f3,Z,f5⟩:=Y it (by simp);exact za5 (I.ok.hd hc) q (by have:n<=i:=hg;lia) fun h' eb=>⟨rfl,I.turned (t':=s.toks) (fun b o O e=>eb b o O e) f0 f1 f3 Z f5⟩
 self:=fun _ _ _ _ _ q h=>za6 q h
def ul (a b c:Int):Bool:=decide (-1000000<=a)&&decide (a<=1000000)&&decide (-1000000<=b)&&decide (b<=1000000)&&decide (-1000000<=c)&&decide (c<=1000000)&&decide (c≠0)
structure R3 (a b c:Int):Prop where
 a0:-1000000<=a
 a1:a<=1000000
 b0:-1000000<=b
 b1:b<=1000000
 c0:-1000000<=c
 c1:c<=1000000
 c:c≠0
variable {c:Int}
theorem Cn {a b:Int} (h:ul a b c=true):R3 a b c:=by unfold ul at h;simp only [qb1,decide_eq_true_eq] at h;obtain ⟨⟨⟨⟨⟨⟨h1,h2⟩,h3⟩,q⟩,Z⟩,O⟩,Y⟩:=h;exact ⟨h1,h2,h3,q,Z,O,Y⟩
theorem R3.size {a b:Int} (h:R3 a b c):0<=qc6 a b c/\qc6 a b c<=2000001:=by
 obtain ⟨h1,h2,h3,Y,h5,Z,h7⟩:=h;unfold qc6;split
 . rename_i hc;split
   . have q:0<=(b-a-1)/c:=Int.ediv_nonneg (by lia) (by lia);have O:(b-a-1)/c<=b-a-1:=Int.ediv_le_self _ (by lia);lia
   . lia
 . split
   . have q:0<=(a-b-1) / -c:=Int.ediv_nonneg (by lia) (by lia);have O:(a-b-1) / -c<=a-b-1:=Int.ediv_le_self _ (by lia);lia
   . lia
theorem fits {a:Int} (q:-9000000<=a) (h1:a<=9000000):qv8 a=true:=by unfold qv8;simp;lia
theorem R3.small {a b:Int} (h:R3 a b c):qj0.Range.small a b c=true:=by
 have Z:=h.size;obtain ⟨h1,h2,h3,q,h5,O,Y⟩:=h;unfold qj0.Range.small;rw [fits (a:=a) (by lia) (by lia),fits (a:=b) (by lia) (by lia),fits (a:=c) (by lia) (by lia),fits (a:=qc6 a b c) (by lia) (by lia)];simp only [qz4,qr7,qi1];right;split
 . exact fits (by lia) (by lia)
 . exact fits (by lia) (by lia)
section
variable {X:Cx} {tg:Expr}
theorem rA {R:It->Hp->Prop} {a b:Int} {t u v:Tok} {tk:Nat} (I:Inv X pins σ H s) (h:R3 a b c)
 (q:R (wK a c (qc6 a b c).toNat) H):wpAny (model X.prog X.w) X.A (zg6 (.ref s.heap.objs.size)) (PIE X pins σ tg R) E {s with heap:=s.heap.push {cls:=.type "range",data:=.fields #[.int a t,.int b u,.int c v]},toks:=tk}:=by
 refine wpAny_pyIter_range (IsRange.new ..) h.small ?_;have O:Inv X pins σ H {s with heap:=s.heap.push {cls:=.type "range",data:=.fields #[.int a t,.int b u,.int c v]},toks:=tk}:=I.kept fun b o e=>gP _ e
 refine ⟨(s.heap.push {cls:=.type "range",data:=.fields #[.int a t,.int b u,.int c v]}).objs.size,[(s.heap.push {cls:=.type "range",data:=.fields #[.int a t,.int b u,.int c v]}).objs.size],_,_,H,rfl,O.kept (t':=tk) fun b o e=>gP _ e,m7 _ a c (qc6 a b c).toNat,?_,fun bb Z=>?_,q⟩
 . have Y:a+((0:Nat):Int)*c=a:=by simp
   have e2:(((qc6 a b c).toNat:Nat):Int)-((0:Nat):Int)=qc6 a b c:=by have:=h.size;lia
   show ze4 _ _ (a+((0:Nat):Int)*c) ((((qc6 a b c).toNat:Nat):Int)-((0:Nat):Int)) c;rw [Y,e2];exact qa8 _ rfl
 . have e:bb=(s.heap.push {cls:=.type "range",data:=.fields #[.int a t,.int b u,.int c v]}).objs.size:=by simpa using Z
   subst e;exact O.fpOk (nL _) (O.hok.fresh (nL _))
def Co (ta:TA):TI:=fun σ H R=>ta σ H fun vs H1=>∃ a b c:Int,vs=[.int a,.int b,.int c]/\R3 a b c/\R (wK a c (qc6 a b c).toNat) H1
theorem rB {a b c:Expr} {p:Pos} (hg:Gl X "range") (hm:X.mg "range"=none) (ha:PA X [a,b,c] ta) (hs:qa9 [a,b,c] X.env=[(false,eval a X.env),(false,eval b X.env),(false,eval c X.env)]:=by rfl) (O:qa9 [b,c] X.env=[(false,eval b X.env),(false,eval c X.env)]:=by rfl) :
  PI X tg (.Call (.Name "range" p) [a,b,c] [] pos) (Co ta):=by
 intro pins s σ H R I h;refine Call_ (fq I hg hm boot_range (qf4 (thn (ha pos pins s σ H _ I h) fun us s1 ⟨vs,H1,I1,r1,q1⟩=>?_) (by rw [hs,O]) (by rw [O];rfl)));obtain ⟨i,j,k,e,Z,q⟩:=q1;subst e;cases r1 with
 | cons r Y =>
  cases Y with
  | cons r' Y =>
   cases Y with
   | cons r'' Y =>cases Y;obtain ⟨t,rfl⟩:=r;obtain ⟨t',rfl⟩:=r';obtain ⟨t'',rfl⟩:=r'';refine call_range_3 Z.c (rA I1 Z q) (.inl (PyProof.noPylong_small ?_));have:=Z.c0;have:=Z.c1;lia
def ie (lo st:Int) (n:Nat):List V:=(qc0 n).map fun (i:Nat)=>V.int (lo+i*st)
theorem plain_rangeS {lo st:Int}:Plain (wK lo st n) (ie lo st n) (fun _=>True):=fun i H h=>by
 refine ⟨fun hi=>?_,fun e=>?_,fun x H' hi y=>?_⟩
 . show i<n;simpa [ie] using hi
 . show n<=i;simp [ie] at e;lia
 . obtain ⟨e,rfl⟩:=y;refine ⟨e,?_⟩;unfold ie at hi ⊢;rw [qa1,qj9] at hi;rw [qb3,List.getElem?_range hi];rfl
def oQ (lo st:Int) (n:Nat):List Dt:=(qc0 n).map fun (i:Nat)=>.int (lo+i*st)
theorem m8 {F:Hp} (lo st:Int) (n:Nat):Reps K F (oQ lo st n) (ie lo st n):=Reps.map (fun _=>fw) _
def rC:List Dt->Option (List Dt)
 | [.int a,.int b,.int c]=>if ul a b c then some (oQ a c (qc6 a b c).toNat) else none
 | _=>none
variable {p pos:Pos} {sc:Scope} {x y z:Expr} {fs:De->Option (List Dt)}
theorem rD (h:aC sc "range"=true) (hm:X.mg "range"=none) (ha:DA X [x,y,z] fs) (e1:cD X sc:=by rfl) (hs:qa9 [x,y,z] X.env=[(false,eval x X.env),(false,eval y X.env),(false,eval z X.env)]:=by rfl) (O:qa9 [y,z] X.env=[(false,eval y X.env),(false,eval z X.env)]:=by rfl) :
  DIF X tg (.Call (.Name "range" p) [x,y,z] [] pos) (ej rC fs):=
 PI.mono (rB (glD h e1) hm ha.pa hs O) fun σ H R ⟨Φ,δ,F,ds,hK,en,q,k⟩=>by
  unfold ej at q;obtain ⟨as,Z,q⟩:=bS q;refine ⟨Φ,δ,F,as,hK,en,Z,fun vs H' F' st r=>?_⟩;unfold rC at q;split at q
  . rename_i i j l;split at q
    . rename_i hj;cases q;simp only [Reps,Rep] at r;obtain ⟨v,ws,rfl,rfl,w,us,rfl,rfl,w',Y,rfl,rfl,rfl⟩:=r;exact ⟨i,j,l,rfl,Cn hj,k _ _ H' F' st (plain_rangeS.walk (m8 _ _ _)) fun _ _=>trivial⟩
    . cases q
  . cases q
end
theorem qd:∀ a b:List Nat,ltCps a b=false->ltCps b a=false->a=b
 | [],[],_,_=>rfl
 | [],_::_,h,_=>by simp [ltCps] at h
 | _::_,[],_,h=>by simp [ltCps] at h
 | x::r,y::t,h,h'=>by
  simp only [ltCps,qu5,decide_eq_false_iff_not,qt5,beq_iff_eq] at h h';have e:x=y:=by lia
  subst e;rw [qd r t (h.2 rfl) (h'.2 rfl)]
theorem qe:∀ a b:List Nat,ltCps a b=true->ltCps b a=false
 | [],[],h=>by simp [ltCps] at h
 | [],_::_,_=>rfl
 | _::_,[],h=>by simp [ltCps] at h
 | x::r,y::t,h=>by
  simp only [ltCps,qi1,decide_eq_true_eq,qb1,beq_iff_eq] at h;simp only [ltCps,qu5,decide_eq_false_iff_not,qt5,beq_iff_eq];rcases h with h | ⟨rfl,h⟩
  . exact ⟨by lia,fun e=>by lia⟩
  . exact ⟨by lia,fun _=>qe r t h⟩
theorem kS:∀ a b c:List Nat,ltCps b a=false->ltCps c b=false->ltCps c a=false
 | [],b,c,h1,h2=>by
  cases b with
  | nil=>exact h2
  | cons y t =>
   cases c with
   | nil=>simp [ltCps] at h2
   | cons z u=>rfl
 | x::r,[],c,h1,h2=>by simp [ltCps] at h1
 | x::r,y::t,[],h1,h2=>by simp [ltCps] at h2
 | x::r,y::t,z::u,h1,h2=>by
  simp only [ltCps,qu5,decide_eq_false_iff_not,qt5,beq_iff_eq] at h1 h2 ⊢;refine ⟨by lia,fun e=>?_⟩;subst e;have e:y=z:=by lia
  subst e;exact kS r t u (h1.2 rfl) (h2.2 rfl)
def leS (a b:Str):Bool:=!ltCps b.cps.toList a.cps.toList
theorem leS_iff {a b:Str}:leS a b=true↔ltCps b.cps.toList a.cps.toList=false:=by simp [leS]
theorem kT (a b c:Str) (h:leS a b=true) (h':leS b c=true):leS a c=true:=leS_iff.mpr (kS _ _ _ (leS_iff.mp h) (leS_iff.mp h'))
theorem rE (a b:Str):(leS a b||leS b a)=true:=by
 cases h:leS a b with
 | true=>rfl
 | false =>
  have h1:ltCps b.cps.toList a.cps.toList=true:=by simpa [leS] using h
  simp [leS_iff.mpr (qe _ _ h1)]
theorem m9 {a b:Str} (h:leS a b=true) (h':leS b a=true):a=b:=by
 have e:=qd _ _ (leS_iff.mp h') (leS_iff.mp h);cases a with
 | mk a=>cases b with
  | mk b=>simp only at e;rw [Array.toList_inj.mp e]
def dn (ss:List Str):List Str:=ss.mergeSort leS
theorem cU (ss:List Str):(dn ss).Perm ss:=List.mergeSort_perm ss leS
theorem f9 (ss:List Str):(dn ss).Pairwise fun a b=>leS a b=true:=List.pairwise_mergeSort kT rE ss
theorem kU:∀ (p:Str) (l:List Str),risingS p l=true->(p::l).Pairwise fun a b=>leS a b=true
 | p,[],_=>by simp
 | p,x::r,h=>by
  simp only [risingS,qb1] at h;have O:=kU x r h.2;have h1:leS p x=true:=h.1;refine qh1.mpr ⟨fun y q=>?_,O⟩;rcases qa6.mp q with rfl | q
  . exact h1
  . exact kT _ _ _ h1 ((qh1.mp O).1 y q)
theorem kW:∀ l:List Str,sortedS l=true->l.Pairwise fun a b=>leS a b=true
 | [],_=>qp5
 | x::r,h=>kU x r h
theorem gn:∀ {a b:List Str},a.Perm b->(a.Pairwise fun a b=>leS a b=true)->(b.Pairwise fun a b=>leS a b=true)->a=b
 | [],_,p,_,_=>p.nil_eq
 | x::r,b,p,O,q=>by
  cases b with
  | nil=>exact absurd p.length_eq (by simp)
  | cons y t =>
   have Z:x∈y::t:=p.mem_iff.mp (.head _);have Y:y∈x::r:=p.mem_iff.mpr (.head _)
   have e:x=y:=by
    rcases qa6.mp Z with h | h
    . exact h
    . rcases qa6.mp Y with h' | h'
      . exact h'.symm
      . exact m9 ((qh1.mp O).1 y h') ((qh1.mp q).1 x h)
   subst e;rw [gn (zh7.cons_inv p) (qh1.mp O).2 (qh1.mp q).2]
theorem jJ:∀ {ss:List Str} {its:List Value},Vals (ss.map V.str) its->StrsAre its ss
 | [],_,h=>by cases h;exact .nil
 | x::ss,_,h=>by
  cases h with
  | cons h1 h2 =>obtain ⟨t,rfl⟩:=h1;exact .cons x t (jJ h2)
theorem kX:∀ {its:List Value} {ss:List Str},StrsAre its ss->Vals (ss.map V.str) its
 | _,_,.nil=>.nil
 | _,_,.cons x t h=>.cons ⟨t,rfl⟩ (kX h)
section
variable {X:Cx}
theorem fE:CallR X (.builtin "sorted") (fun xs H Q=>∃ p ss,xs=[.ref p]/\SqL X.K H p (ss.map V.str)/\ss.length<64/\∀ l,H l=none->Q (.ref l) (upd H l (.lst ((dn ss).map V.str)))):=by
 intro pins s σ H xs us Q I r h;obtain ⟨p,ss,rfl,hq,hz,q⟩:=h;obtain ⟨u,rfl,rx⟩:=eD r;cases rx;obtain ⟨its,r',pl,hz'⟩:=I.list hq;have hS:=jJ r';have Z:its.length=ss.length:=by have:=r'.length;simpa using this.symm
 refine sorted_strs pl.isList hS (by lia) fun O Y a1 a2 a3=>?_
 have e:Y=dn ss:=gn (a2.trans (cU ss).symm) (kW Y a3) (f9 ss);subst e;obtain ⟨c,hc⟩:=sortedAll_at s.heap its O;refine ⟨.ref (s.heap.objs.size+1),_,I.laid (t':=s.toks) (fun _ _=>sortedAll_old) (qs9 _) (show ObjOk X.prog X.w _ _ _ (.lst ((dn ss).map V.str)) from ⟨?_,O.toList,c,kX a1,hc⟩),rfl,q _ (I.hok.fresh (qs9 _))⟩;rw [qa1,(cU ss).length_eq];exact qc4 (qh5 hz) (by decide)
def eS:List Dt->Option T
 | [.lst ds]=>(fA ds).bind fun ss=>if ss.length<64 then some (.lst ((dn ss).map .str)) else none
 | _=>none
theorem iG {F:Hp}:∀ ss:List Str,Reps K F (ss.map .str) (ss.map V.str)
 | []=>by simp only [qt4,Reps]
 | x::ss=>by simp only [qa5,Reps];exact ⟨_,_,rfl,by simp only [Rep],iG ss⟩
theorem jK:CRD K (fun xs H Q=>∃ p ss,xs=[.ref p]/\SqL K H p (ss.map V.str)/\ss.length<64/\∀ l,H l=none->Q (.ref l) (upd H l (.lst ((dn ss).map V.str)))) eS:=by
 intro F H ds vs Q t O r q k;unfold eS at q;split at q<;>first | (cases q;done) | skip
 obtain ⟨ss,hs,q⟩:=bS q;split at q<;>cases q
 rename_i Z;obtain ⟨v,rfl,Y⟩:=c7 r;obtain ⟨a,vs,rfl,h1,h2⟩:=Y;have:=gl h2 hs;subst this;exact ⟨a,ss,rfl,h1,Z,fun p hp=>dP k O (iG _) hp⟩
end
def EntA (h:Heap) (d:Addr) (ks:List Value) (ep:Nat):Prop:=∃ o es,h.get? d=some o/\o.ExactDict/\o.data=.dict es ep/\es.toList.map (·.key)=ks
theorem EntA.upTo {d:Addr} {ks:List Value} (q:EntA h d ks ep) (k:∀ o,h.get? d=some o->h'.get? d=some o):EntA h' d ks ep:=let ⟨o,es,h1,r⟩:=q;⟨o,es,k o h1,r⟩
theorem EntA.ty {d:Addr} {ks:List Value} (q:EntA s.heap d ks ep):s.TypeIs (.ref d) "dict":=let ⟨o,_,h1,h2,_⟩:=q;⟨o,h1,h2.1⟩
theorem EntA.lt {d:Addr} {ks:List Value} (q:EntA h d ks ep):d<h.objs.size:=let ⟨_,_,h1,_⟩:=q;qa7 h1
section
variable {prog:qc2} {w:World} {A:qd8} {E:Value->qa4->Prop} {s:qa4} {d it:Addr} {ks:List Value} {i ep:Nat}
theorem um (lo:(d==qi2)=false) (q:EntA s.heap d ks ep)
 (k:Q (.ref s.heap.objs.size) {s with heap:=s.heap.push {cls:=.type "dict_keyiterator",data:=.fields #[.ref d,.int 0 0,.int ks.length 0,.int ep 0]}}):wpAny (model prog w) A (zg6 (.ref d)) Q E s:=by
 obtain ⟨o,es,Y,e2,O,e4⟩:=id q;refine qy5 q.ty F.slot_dict_iter (qf1 F.slot_dict_iter q.ty F.entry_dict_iter ?_ (F.args_dict_iter_1 _));unfold qj0.«dict.__iter__»;refine wB ?_;unfold qj0.Dict.dictSlotNone;refine wB (wpAny_notOrdered_dict q.ty ?_);show wpAny _ _ (pure (qe9 d)) _ _ s;refine qa2 ?_;show wpAny _ _ (zc9 d >>= _) _ _ s;unfold zc9;rw [if_neg (by rw [lo];exact qb6)];refine wB (qa2 ?_);refine wB (qy6 Y O (wB (zd0 Y O ?_)));have Z:es.size=ks.length:=by rw [<- e4];simp
 refine wB (qd1 (qa2 ⟨_,rfl,"dict_keyiterator",_,⟨_,qa8 _ rfl,rfl⟩,qh8.lookup,?_⟩));simpa [qf3,Z] using k
theorem uo {key:Value} {Q:Option Value->qa4->Prop} (st:s.heap.IsKeyIter it d i ks.length ep) (q:EntA s.heap d ks ep) (hk:ks[i]?=some key)
  (k:∀ h',h'.IsKeyIter it d (i+1) ks.length ep->qn2 it s.heap h'->Q (some key) {s with heap:=h'}):wpAny (model prog w) A (qw2 (.ref it)) Q E s:=by
 obtain ⟨oi,i1,i2,Z⟩:=id st;obtain ⟨o,es,e1,e2,e3,e4⟩:=id q;unfold qw2;refine wB (qr8 (qe7 (name:=qa0 "__next__") st.typeIs qh8 (qf1 qh8 st.typeIs qu2 ?_ (qt6 _))));refine wB (qa2 (wB (wB ?_)))
 first | refine wB (qj3 st.typeIs (qa2 ?_)) | refine wB (qm9 st.typeIs (qa2 ?_))
 refine wB (qq5 i1 Z ?_);have ow:qu8 "dict_keyiterator"=false:=by decide
 simp only [ow,qi0,if_false];show wpAny _ _ (if (qe9 d==qh2)=true then _ else _) _ _ s;rw [if_neg (show ¬ ((qe9 d==qh2)=true) from qb6)];refine wB (qa2 (wB (qy6 e1 e3 ?_)));have ez:es.size=ks.length:=by rw [<- e4];simp
 rw [if_neg (by rw [ez];simp)];refine wB (qa2 (wB (zd0 e1 e3 ?_)));rw [if_neg (by simp)];refine qa2 ?_;have li:i<es.size:=by rw [ez];exact (gX hk).1
 have O:es[i].key=key:=by rw [<- e4,qb3,ql4,qg3 li] at hk;exact qd6 hk
 simp only [show ¬ ((i:Int)<0) from by lia,if_false,qd5,qg3 li];refine wB ?_
 first | refine wB (qj3 st.typeIs (qa2 ?_)) | refine wB (qm9 st.typeIs (qa2 ?_))
 refine wB (zd1 st.typeIs ?_);show wpAny _ _ (qz7 (.ref it) 1 (qf3 ((i:Int)+1)) >>= _) _ _ s;refine qg9 (qi7 i1 Z (by simp) ?_)
 have Y:(s.heap.update it (qp7 (·.setIfInBounds 1 (qf3 ((i:Int)+1))))).IsKeyIter it d (i+1) ks.length ep:=⟨_,qe3 _ i1 (qh6 (qe0 Z _)),(qp6 ..).trans i2,by rw [qe0 Z];simp [qf3]⟩
 refine wB (qi6 (wB (zd1 (s:={s with heap:=s.heap.update it (qp7 (·.setIfInBounds 1 (qf3 ((i:Int)+1))))}) Y.typeIs ?_)));show wpAny _ _ (pure es[i].key) _ _ _;rw [O];exact qa2 (qa2 ⟨_,rfl,qa2 (k _ Y (qe5 ..))⟩)
theorem wL {Q:Option Value->qa4->Prop} (nh:A.handled=none) (st:s.heap.IsKeyIter it d i ks.length ep) (q:EntA s.heap d ks ep) (hi:i=ks.length)
  (k:∀ h',ze9 it s.heap h'->Q none {s with heap:=h'}):wpAny (model prog w) A (qw2 (.ref it)) Q E s:=by
 obtain ⟨oi,i1,i2,i3⟩:=id st;obtain ⟨o,es,O,e2,Z,e4⟩:=id q;unfold qw2;refine wB (qr8 (qe7 (name:=qa0 "__next__") st.typeIs qh8 (qf1 qh8 st.typeIs qu2 ?_ (qt6 _))));refine wB (qa2 (wB (wB ?_)))
 first | refine wB (qj3 st.typeIs (qa2 ?_)) | refine wB (qm9 st.typeIs (qa2 ?_))
 refine wB (qq5 i1 i3 ?_);have ow:qu8 "dict_keyiterator"=false:=by decide
 simp only [ow,qi0,if_false];show wpAny _ _ (if (qe9 d==qh2)=true then _ else _) _ _ s;rw [if_neg (show ¬ ((qe9 d==qh2)=true) from qb6)];refine wB (qa2 (wB (qy6 O Z ?_)));have Y:es.size=ks.length:=by rw [<- e4];simp
 rw [if_neg (by rw [Y];simp)];refine wB (qa2 (wB (zd0 O Z ?_)));rw [if_neg (by simp)];refine qa2 ?_;have ge:es.size<=i:=by rw [Y];lia
 simp only [show ¬ ((i:Int)<0) from by lia,if_false,qd5,qo0 ge];refine wB ?_
 first | refine wB (qj3 st.typeIs (qa2 ?_)) | refine wB (qm9 st.typeIs (qa2 ?_))
 show wpAny _ _ (qz7 (.ref it) 0 .none >>= _) _ _ s;refine qg9 (qi7 i1 i3 (by simp) ?_);show wpAny _ _ (zf8 (.type "StopIteration") [] >>= _) _ _ _;refine wB ?_;simp only [zf8,zh1];refine wB (qd1 ?_ (by size_fits));refine qg9 (m:=ql8 _ _) (qz5 (a:=qh2) (by first | rfl | (simp only [ql8];rfl)) (qd1 ?_ (by size_fits)));simp only [zf9];refine wB (qz6 ?_);rw [show A.in1.handled=none from nh];refine wB (qa2 (zf0 ?_));refine wB (qq6 (b:=true) (T:="StopIteration") ⟨_,qa8 _ rfl,rfl⟩ ze2 ?_);exact qa2 (k _ (((qe5 ..).extBut.push _).push _))
theorem rF (nh:A.handled=none) (Y:d≠it):Walks prog w A it [it,d] [it] ks.length (fun i v=>ks[i]?=some v) (fun i h=>h.IsKeyIter it d i ks.length ep/\EntA h d ks ep) where
 sub:=fun b q=>by simp at q;simp [q]
 frame:=fun _ _ _ st hk=>⟨let ⟨o,h1,r⟩:=st.1;⟨o,hk it (by simp) o h1,r⟩,st.2.upTo fun o e=>hk d (by simp) o e⟩
 item:=fun i s Q E hi st O=>uo st.1 st.2 (key:=ks[i]) (by simp [hi]) fun h' Z sb=>O _ h' s.toks (by simp [hi]) ⟨Z,st.2.upTo fun o e=>sb.extBut d o Y e⟩ fun b o q e=>sb.extBut b o (fun z=>q (by simp [z])) e
 done:=fun s Q E st O=>wL nh st.1 st.2 rfl fun h' eb=>O h' s.toks fun b o q e=>eb b o (fun z=>q (by simp [z])) e
 self:=fun _ _ _ _ st O=>wpAny_pyIter_keyiter st.1 O
theorem qf (lo:(d==qi2)=false):PySem.W.KdlSrc prog w "dict" d d ks.length (fun i v=>ks[i]?=some v) (fun h=>EntA h d ks ep) where
 type:=fun _ q=>q.ty
 there:=fun _ q=>⟨q.lt,q.lt⟩
 keep:=fun _ _ q Y=>q.upTo fun o e=>Y d (.inl rfl) o e
 notList:=by decide
 notTuple:=by decide
 hint:=fun _ _ _ _ q O=>PySem.W.kdl_hint_dict q.ty O
 iter:=fun _ _ Z q=>⟨_,_,(fun _ _ O=>um lo q O),rF Z (qb8 q.lt),⟨⟨_,qa8 _ rfl,rfl,rfl⟩,q.upTo fun o e=>gP _ e⟩⟩
end
set_option maxRecDepth 20000
def Rs (xs:Array Nat):Prop:=xs.toList.Pairwise (· < ·)
variable {xs:Array Nat}
theorem Rs.lt (h:Rs xs) {k:Nat} (hi:i<k) (q:k<xs.size):xs[i]<xs[k]:=by have:=qx5.mp h i k (by simp;lia) (by simpa using q) hi;simpa using this
def Cut (xs:Array Nat) (j p:Nat):Prop:=p<=xs.size/\(∀ i (q:i<xs.size),i<p->xs[i]<j)/\∀ i (q:i<xs.size),p<=i->j<=xs[i]
variable {j:Nat}
theorem oR (h:Rs xs):∀ n lo hi,hi<=xs.size->lo<=hi->hi-lo<=n->(∀ i (q:i<xs.size),i<lo->xs[i]<j)->(∀ i (q:i<xs.size),hi<=i->j<=xs[i])->Cut xs j (qf7.go xs j n lo hi)
 | 0,lo,hi,h1,h2,h3,O,Y=>by
  have e:lo=hi:=by lia
  subst e;exact ⟨h1,O,Y⟩
 | n+1,lo,hi,h1,h2,h3,O,Y=>by
  rw [qf7.go];by_cases c:lo<hi
  . rw [if_pos c];have hm:(lo+hi)/2<xs.size:=by lia
    dsimp only;rw [Array.getD_eq_getD_getElem?,qg3 hm,Option.getD_some];by_cases d:xs[(lo+hi)/2]<j
    . rw [if_pos d];refine oR h n _ hi h1 (by lia) (by lia) (fun i q Z=>?_) Y;by_cases e:i=(lo+hi)/2
      . subst e;exact d
      . exact qw6 (h.lt (by lia:i<(lo+hi)/2) hm) d
    . rw [if_neg d];refine oR h n lo _ (by lia) (by lia) (by lia) O fun i q Z=>?_
      by_cases e:i=(lo+hi)/2
      . subst e;lia
      . have:=h.lt (by lia:(lo+hi)/2<i) q;lia
  . rw [if_neg c];have e:lo=hi:=by lia
    subst e;exact ⟨h1,O,Y⟩
theorem iH (h:Rs xs) (j:Nat):Cut xs j (qf7 xs j):=oR h _ _ _ (nL _) (qj2 _) (nL _) (fun i _ z=>absurd z (zd2 _)) fun i q z=>absurd q (qy2.mpr z)
variable {p:Nat}
theorem Cut.uniq {q:Nat} (a:Cut xs j p) (b:Cut xs j q):p=q:=by
 obtain ⟨a1,a2,Y⟩:=a;obtain ⟨b1,O,Z⟩:=b;rcases Nat.lt_trichotomy p q with h | h | h
 . have x:=O p (by lia) h;have y:=Y p (by lia) (nL _);lia
 . exact h
 . have x:=a2 q (by lia) h;have y:=Z q (by lia) (nL _);lia
theorem na (h:Rs xs):qf7 xs 0=0:=(iH h 0).uniq ⟨qj2 _,fun i _ z=>absurd z (zd2 _),fun _ _ _=>qj2 _⟩
theorem oS (h:Rs xs) (hi:i<xs.size):qf7 xs (xs[i]+1)=i+1:=(iH h _).uniq ⟨hi,fun k q O=>by
 by_cases e:k=i
 . subst e;lia
 . exact qh7 (h.lt (by lia:k<i) hi),fun k q O=>h.lt O q⟩
theorem uq {α:Type} (xs:Array α) (p:Nat) (x:α):(qy7 xs p x).toList=xs.toList.take p++x::xs.toList.drop p:=by simp only [qy7,qv6,qy8,Array.toList_extract,qm7,List.singleton_append];simp;rw [List.take_of_length_le (by simp)]
theorem Au (h:Rs xs) (hj:xs[qf7 xs j]?≠some j):Rs (qy7 xs (qf7 xs j) j):=by
 obtain ⟨c1,c2,c3⟩:=iH h j;generalize qf7 xs j=p at*
 have Z:∀ a∈xs.toList.take p,a<j:=fun a O=>by
  obtain ⟨i,hi,rfl⟩:=List.mem_iff_getElem.mp O;have q:i<p/\i<xs.size:=by simp at hi;lia
  simpa using c2 i q.2 q.1
 have hg:∀ a∈xs.toList.drop p,j<a:=fun a O=>by
  obtain ⟨i,hi,rfl⟩:=List.mem_iff_getElem.mp O;have q:p+i<xs.size:=by simp at hi;lia
  have:=c3 (p+i) q (by lia)
  have hne:xs[p+i]≠j:=fun e=>by
   by_cases z:i=0
   . subst z;exact hj (by rw [qg3 (by simpa using q)];simpa using e)
   . have y:=c3 p (by lia) (nL _);have w:=h.lt (by lia:p<p+i) q;lia
  simp;lia
 unfold Rs;rw [uq,List.pairwise_append];refine ⟨h.sublist (qy0 _ _),qh1.mpr ⟨hg,h.sublist (List.drop_sublist _ _)⟩,fun a O b Y=>?_⟩;rcases qa6.mp Y with rfl | Y
 . exact Z a O
 . exact qw6 (Z a O) (hg b Y)
def Fre (t:qf8) (j:Nat):Prop:=t.place[qf7 t.place j]?≠some j
theorem ng {t:qf8} (h:∀ i,t.slot j≠.live i):Fre t j:=fun z=>by refine h (qf7 t.place j) ?_;unfold qf8.slot;dsimp only;rw [if_pos (by rw [z];simp)]
theorem kY (t:qf8) (p:qf8.Probe):(t.advance p).dummy=p.dummy:=by unfold qf8.advance;split<;>rfl
theorem iI {t:qf8} {g:Nat->Int} {h:Int}:∀ n p,(∀ d,p.dummy=some d->Fre t d)->∀ j d,qf8.probe.go t g h n p=some (.empty j d)->Fre t j/\∀ k,d=some k->Fre t k
 | 0,p,hp,j,d,e=>by cases e
 | n+1,p,hp,j,d,e=>by
  rw [qf8.probe.go] at e;split at e
  . rename_i O;cases e;exact ⟨ng fun i z=>(by rw [O] at z;cases z),hp⟩
  . rename_i O;refine iI n _ (fun k q=>?_) j d e;rw [kY] at q;cases q;exact ng fun i z=>by rw [O] at z;cases z
  . split at e
    . cases e
    . exact iI n _ (fun k q=>hp k (by rw [kY] at q;exact q)) j d e
theorem ur {t:qf8} {h:Int} (e:t.freeSlot h=some (j,b)):Fre t j:=by
 unfold qf8.freeSlot at e;split at e
 . rename_i k d q;obtain ⟨h1,h2⟩:=iI _ _ (fun d z=>by cases z) k d q;cases e;cases d with
   | none=>exact h1
   | some x=>exact h2 x rfl
 . cases e
theorem ig (n:Nat):Rs (Array.range n):=by unfold Rs;rw [Array.toList_range];exact zb0
theorem oT {t:qf8} (n:Nat) (h:Rs t.place):Rs (t.orStandIn n).place:=by
 unfold qf8.orStandIn;split
 . exact h
 . exact ig n
theorem rG {t:qf8} (h:Rs t.place) (es:Array (Int×Value)) (k:Int) (x:Value):Rs (layNew t es k x).2.1.place:=by
 unfold layNew;split
 . rename_i j b e;exact oT _ (Au h (ur e))
 . exact ig _
theorem ut (t:qf8) (es:Array (Int×Value)) (n:Nat):Rs (qz8 t es n).2.1.place:=by
 unfold qz8;split
 . rename_i t' q e;dsimp only;split
   . unfold qf8.relaid qf8.laid at e;simp only [Option.bind_eq_bind,qr4,qs4] at e;obtain ⟨_,_,e⟩:=e;cases e;unfold Rs;dsimp only;rw [qt0,List.pairwise_filterMap];refine qt1 (fun {a b} O x Z y Y=>?_) zb0;obtain ⟨_,_,rfl⟩:=mS Z;obtain ⟨_,_,rfl⟩:=mS Y;exact O
   . exact ig _
 . exact ig _
theorem oU (t:qf8) (es:Array (Int×Value)) (h:Int) (x:Value):(layNew t es h x).2.1.led=t.led:=by
 unfold layNew;split
 . dsimp only;unfold qf8.orStandIn;split<;>rfl
 . rfl
theorem rH (t:qf8) (es:Array (Int×Value)) (n:Nat):(qz8 t es n).2.1.led=t.led:=by
 unfold qz8;split
 . rename_i t' q e;dsimp only;split
   . unfold qf8.relaid qf8.laid at e;simp only [Option.bind_eq_bind,qr4,qs4] at e;obtain ⟨_,_,e⟩:=e;cases e;rfl
   . rfl
 . rfl
structure SK (P:qc2) (u:World) (K:Type) [DecidableEq K] where
 knd:PySem.KeyKind P u K
 put:K->Tok->Value
 of:Value->K
 is:∀ k t,knd.is k (put k t)=true
 ofmk:∀ k t,of (put k t)=k
 shape:∀ {k v},knd.is k v=true->∃ t,v=put k t
 scan:∀ k t,(put k t).scannable=true
noncomputable def rJ (P:qc2) (u:World):SK P u Str where
 knd:=PySem.strKind P u
 put:=.str
 of v:=match v with | .str k _=>k | _=>""
 is:=strKind_is P u
 ofmk _ _:=rfl
 shape {k v} h:=by
  cases v<;>simp [PySem.strKind,zf1] at h
  subst h;exact ⟨_,rfl⟩
 scan _ _:=rfl
section
variable {P:qc2} {u:World} {K:Type} [DecidableEq K] {κ:SK P u K}
structure Tx (κ:SK P u K) (l:List (Int×Value)) (ss:List K):Prop where
 all:∀ e∈l,∃ k t,e.2=κ.put k t/\e.1=κ.knd.hash k
 per:(l.map fun e=>κ.of e.2).Perm ss
 nd:ss.Nodup
theorem Tx.elems {l:List (Int×Value)} {ss:List K} (x:Tx κ l ss):ElemsOf κ.knd l:=fun e q=>by obtain ⟨k,t,h1,h2⟩:=x.all e q;rw [h1];exact ⟨⟨k,κ.is k t,h2⟩,κ.scan k t⟩
theorem Tx.perm {l m:List (Int×Value)} {ss:List K} (x:Tx κ l ss) (p:m.Perm l):Tx κ m ss:=⟨fun e q=>x.all e (p.mem_iff.mp q),(p.map _).trans x.per,x.nd⟩
theorem Tx.mem {l:List (Int×Value)} {ss:List K} (x:Tx κ l ss) (k:K):k∈ss↔∃ e∈l,κ.knd.is k e.2=true:=by
 rw [<- x.per.mem_iff];constructor
 . intro h;obtain ⟨e,q,O⟩:=qd2.mp h;obtain ⟨k',t,h1,_⟩:=x.all e q;rw [h1,κ.ofmk] at O;refine ⟨e,q,?_⟩;rw [h1,<- O];exact κ.is k' t
 . rintro ⟨e,q,h⟩;obtain ⟨t,h1⟩:=κ.shape h;exact qd2.mpr ⟨e,q,by rw [h1,κ.ofmk]⟩
theorem Tx.push {l:List (Int×Value)} {ss:List K} (x:Tx κ l ss) {k:K} {t:Tok} (O:k∉ss):Tx κ (l++[(κ.knd.hash k,κ.put k t)]) (ss++[k]):=⟨fun e q=>by
 rcases qf9.mp q with q | q
 . exact x.all e q
 . rw [qb0.mp q];exact ⟨k,t,rfl,rfl⟩,by
 rw [qg0];have:List.map (fun e=>κ.of e.2) [(κ.knd.hash k,κ.put k t)]=[k]:=by simp [κ.ofmk]
 rw [this];exact x.per.append_right _,by
 refine qm8.mpr ⟨x.nd,by simp,fun a Z b Y e=>?_⟩;rw [qb0.mp Y] at e;exact O (e▸Z)⟩
structure TxS (κ:SK P u K) (h:Heap) (a:Addr) (ss:List K) (led:Bool):Prop where
 ex:∃ o es ep t,h.get? a=some o/\o.ExactSet/\o.data=.set es ep t/\Tx κ es.toList ss/\es.size<qn0/\t.fits es.size=true/\t.led=led/\Rs t.place
end
variable {hp:Heap}
section
variable {P:qc2} {u:World} {K:Type} [DecidableEq K] {κ:SK P u K} {A:qd8} {E:Value->qa4->Prop} {s:qa4} {a:Addr} {ss:List K} {led:Bool}
theorem kZ {es fs:Array (Int×Value)} {tb tc:qf8} (g1:hp.get? a=some o) (g2:o.ExactSet) (Z:o.data=.set es ep tb) (x:Tx κ fs.toList ss) (q:fs.size<qn0) (O:tc.fits fs.size=true) (Y:tc.led=led) (hq:Rs tc.place) :
  (hp.update a (Obj.putSet fs tc)).get? a=some {o with data:=.set fs (ep+1) tc}/\TxS κ (hp.update a (Obj.putSet fs tc)) a ss led:=by
 have e:=(SetOf_store (knd:=κ.knd) (S':=fun k=>decide (k∈ss)) g1 g2 Z x.elems (fun k=>by rw [decide_eq_true_eq];exact x.mem k) q O).1;exact ⟨e,⟨_,fs,ep+1,tc,e,g2,rfl,x,q,O,Y,hq⟩⟩
theorem wM {k:K} {t:Tok} {Q:Bool->qa4->Prop} (hS:TxS κ s.heap a ss led) (room:ss.length+1<qn0)
  (q:∀ hp,qn2 a s.heap hp->TxS κ hp a (if k∈ss then ss else ss++[k]) led->∀ b,Q b {s with heap:=hp}):wpAny (model P u) A (setAddHashed a (κ.put k t) (κ.knd.hash k)) Q E s:=by
 obtain ⟨o,es,ep,tb,g1,g2,g3,x,hb,hf,hl,hpl⟩:=hS.ex;have hn:es.size=ss.length:=by rw [<- x.per.length_eq,qa1,qe1]
 have big:es.size+1<qn0:=by rw [hn];exact room
 unfold setAddHashed setAddHashedIn;refine qi6 (wB (qe6 g1 g3 hf ?_));dsimp only;rw [byScan_of (knd:=κ.knd) (κ.scan k t) hb x.elems];simp only [↓reduceIte];unfold setAddByScan;refine wB (wB (zg3 (wB (wpAny_setScan_of (κ.is k t) g1 g3 hf x.elems ?_))));cases hr:List.findIdx? (fun e=>κ.knd.is k e.2) es.toList with
 | some j =>dsimp only;obtain ⟨hj,hpj,_⟩:=List.findIdx?_eq_some_iff_getElem.mp hr;have hm:k∈ss:=(x.mem k).mpr ⟨es.toList[j],qu3 hj,hpj⟩;refine qa2 (qa2 ?_);have:=q s.heap (qn2.refl a s.heap) (by rw [if_pos hm];exact hS) false;rw [show s={s with heap:=s.heap} by cases s;rfl];exact this
 | none =>
  dsimp only
  have hm:k∉ss:=fun z=>by obtain ⟨e,he,hp⟩:=(x.mem k).mp z;have:=List.findIdx?_eq_none_iff.mp hr e he;rw [hp] at this;exact Bool.noConfusion this
  rw [if_neg hm] at q;have perm:=layNew_perm tb es (κ.knd.hash k) (κ.put k t);have fits:=layNew_fits tb es (κ.knd.hash k) (κ.put k t);have ledd:=And.intro (oU tb es (κ.knd.hash k) (κ.put k t)) (rG hpl es (κ.knd.hash k) (κ.put k t));generalize layNew tb es (κ.knd.hash k) (κ.put k t)=L at perm fits ledd ⊢;obtain ⟨fs,tc,wasD,gave⟩:=L;dsimp only at perm fits ledd ⊢;rw [qy8] at perm;have y:Tx κ fs.toList (ss++[k]):=(x.push hm).perm perm;have hb2:fs.size<qn0:=by rw [<- qe1,perm.length_eq,qc8,qe1];simpa using big
  have gw:∀ (b:Bool) {s1:qa4} {Q1:Unit->qa4->Prop},Q1 () s1->wpAny (model P u) A (match b with | true=>rule "set.scan.the-table-gave-way" | false=>pure ()) Q1 E s1:=fun b s1 Q1 z=>by
   cases b
   . exact qa2 z
   . exact zg3 z
  refine wB (gw _ ?_)
  have tail:∀ tc2:qf8,tc2.fits fs.size=true->tc2.led=led->Rs tc2.place->wpAny (model P u) A (do
      storeSet a fs tc2
      if (!wasD&&tc2.tooFull)=true then do
          (match (qz8 tc2 fs (ql9 fs.size)).2.2 with | true=>rule "set.scan.the-table-gave-way" | false=>pure ())
          storeSet a (qz8 tc2 fs (ql9 fs.size)).1 (qz8 tc2 fs (ql9 fs.size)).2.1
          pure (some true)
       else pure (some true)) (fun r s1=>wpAny (model P u) A (match r with | some added=>pure added | none=>setAddHashedIn a (κ.put k t) (κ.knd.hash k) 99999) Q E s1) E s:=fun tc2 h1 h2 h3=>by
   refine wB (wpAny_storeSet_of g1 g3 ?_ (qt2 hb2));obtain ⟨e1,T1⟩:=kZ g1 g2 g3 y hb2 h1 h2 h3;have sb:=qe5 s.heap a (Obj.putSet fs tc2);split
   . have p2:=relayAll_perm tc2 fs (ql9 fs.size);have f2:=relayAll_fits tc2 fs (ql9 fs.size);have l2:=And.intro (rH tc2 fs (ql9 fs.size)) (ut tc2 fs (ql9 fs.size));generalize qz8 tc2 fs (ql9 fs.size)=M at p2 f2 l2 ⊢;obtain ⟨gs,td,gave2⟩:=M;dsimp only at p2 f2 l2 ⊢;have sz:gs.size=fs.size:=by rw [<- qe1,p2.length_eq,qe1]
     have hb3:gs.size<qn0:=by rw [sz];exact hb2
     refine wB (gw _ (wB (wpAny_storeSet_of e1 rfl ?_ (qt2 hb3))));obtain ⟨_,T2⟩:=kZ e1 g2 rfl (y.perm p2) hb3 f2 (l2.1.trans h2) l2.2;exact qa2 (qa2 (q _ (sb.trans (qe5 _ a _)) T2 true))
   . exact qa2 (qa2 (q _ sb T1 true))
  split
  . refine wB ?_;rw [hashByValue_scannable 8 (κ.scan k t)];refine qa2 ?_;split
    . exact tail tc fits (ledd.1.trans hl) ledd.2
    . exact tail {tc with plain:=false} (qf8.fits_plain_off fits) (ledd.1.trans hl) ledd.2
  . refine wB (qa2 ?_);exact tail tc fits (ledd.1.trans hl) ledd.2
end
def gv {K:Type} [DecidableEq K] (acc:List K) (k:K):List K:=if k∈acc then acc else acc++[k]
def met {K:Type} [DecidableEq K] (val:Nat->K) (i:Nat):List K:=((qc0 i).map val).foldl gv []
theorem ni {K:Type} [DecidableEq K] (val:Nat->K) (i:Nat):met val (i+1)=gv (met val i) (val i):=by unfold met;rw [List.range_succ,qg0,List.foldl_append];rfl
theorem lW {K:Type} [DecidableEq K] (val:Nat->K):∀ i,(met val i).length<=i
 | 0=>nL _
 | i+1=>by
  rw [ni];have:=lW val i;unfold gv;split
  . lia
  . rw [qc8,qo5];lia
section
variable {P:qc2} {u:World} {K:Type} [DecidableEq K] {κ:SK P u K} {A:qd8} {R:Result->qa4->Prop} {I:Addr} {fp wr:List Addr} {G:Array GenState->Array GenState->Prop} {n:Nat} {Pv:Nat->Value->Prop} {St:Nat->qa4->Prop} {led:Bool}
theorem TxS.moved {ss:List K} (x:TxS κ h a ss led) (e:∀ o,h.get? a=some o->h'.get? a=some o):TxS κ h' a ss led:=by obtain ⟨o,es,ep,t,g,r⟩:=x.ex;exact ⟨o,es,ep,t,e o g,r⟩
theorem uu (W:WalksS P u A.in1 I fp wr G n Pv St) (S:Addr) (out:S∉fp) (val:Nat->K) (hval:∀ i v,Pv i v->∃ t,v=κ.put (val i) t) (O:n+1<qn0) :
  ∀ (m i:Nat) (s:qa4),n-i=m->i<=n->St i s->TxS κ s.heap S (met val i) led->(∀ s',Moved (S::wr) G s s'->TxS κ s'.heap S (met val n) led->R (.ok (.ret .none)) s')→
   qq1 (model P u) A (.builtin "set.update.loop" ⟨[.ref S,.ref I],[]⟩) R s:=by
 have nw:S∉wr:=fun h=>out (W.sub _ h)
 have sub:∀ b∈wr,b∈S::wr:=fun b O=>qc3 _ O
 intro m;induction m with
 | zero =>
  intro i s hm hi q hS hR;obtain rfl:i=n:=by lia
  refine qo9 qz9 ?_;rw [qm2 qr9 _];refine wB (W.done s _ _ q fun s1 Z=>?_);exact qa2 (hR s1 (Z.mono sub) (hS.moved fun o e=>Z.heap S _ nw e))
 | succ m ih =>
  intro i s hm hi q hS hR;have lt:i<n:=by lia
  refine qo9 qz9 ?_;rw [qm2 qr9 _];refine wB (W.item i s _ _ lt q fun v s1 hP Y Z=>?_);obtain ⟨t,rfl⟩:=hval i v hP;have hS1:TxS κ s1.heap S (met val i) led:=hS.moved fun o e=>Z.heap S _ nw e
  show wpAny _ A.in1 (zc1 [κ.put (val i) t] (setAdd S (κ.put (val i) t)) >>= _) _ _ s1;refine wB (qi6 ?_);unfold setAdd;refine qi6 (wB (κ.knd.pyHash (k:=val i) (κ.is _ _) ?_));have room:(met val i).length+1<qn0:=by have:=lW val i;lia
  refine wM (s:={s1 with toks:=s1.toks+1}) hS1 room fun h2 sb hS2 b=>?_
  have hS3:TxS κ h2 S (met val (i+1)) led:=by rw [ni];exact hS2
  refine qa2 ⟨qu9 qr9 _,ih (i+1) _ (by lia) lt (W.frame _ s1 _ _ Y (qs9 _) fun b O o e=>?_) hS3 fun s2 mv2 hS4=>?_⟩
  . rw [sb.2 b (fun h:b=S=>out (by rw [<- h];exact O))];exact e
  . refine hR s2 (Moved.trans W.gtrans ((Z.mono sub).then_heap (qs9 _) fun b o O e=>?_) mv2) hS4;rw [sb.2 b (fun h:b=S=>O (by rw [h];exact qd4))];exact e
end
def dB (u:World):Bool:=!(u.params.followText "set-order")
section
variable {P:qc2} {u:World} {K:Type} [DecidableEq K] {κ:SK P u K} {A:qd8} {E:Value->qa4->Prop} {s:qa4}
theorem wN (v:Value) {Q1:Value->qa4->Prop} (q:Q1 (.ref s.heap.objs.size) {s with heap:=s.heap.push {cls:=.type "set",dict:=none,data:=.set #[] 0 (.fresh 0 0 (dB u))}}) :
  qq1 (model P u) A (.call (.builtin "set.__new__") ⟨[.type "set",v],[]⟩) (wants Q1 E) s:=by
 refine codeAny_of_tree ?_;show wpAny _ A.in1 (do checkBuiltinCall "set.__new__" ⟨[.type "set",v],[]⟩;again (.builtin "set.__new__" ⟨[.type "set",v],[]⟩)) _ _ s;refine wB (qz5 (F.newCall_set_1 v) (qa2 ⟨qu9 F.plain_set_new _,qo9 F.entry_set_new ?_⟩));rw [qm2 F.plain_set_new _];unfold qj0.«set.__new__» qj0.Frozenset.newClass;have z:=sub_set_self;obtain ⟨hp,g,d,tk,O⟩:=s;dsimp only;wp_walk;refine qn7 (qa2 ?_);dsimp only;simp only [newObj];refine wB (wpAny_alloc (qa2 ?_));exact qa2 q
end
variable {led:Bool}
section
variable {P:qc2} {u:World} {K:Type} [DecidableEq K] {κ:SK P u K} {A:qd8} {E:Value->qa4->Prop} {s:qa4}
theorem rK (e:hp.get? a=some {cls:=.type "set",dict:=none,data:=.set #[] 0 (.fresh 0 0 led)}):TxS κ hp a [] led:=⟨_,#[],0,.fresh 0 0 led,e,⟨rfl,rfl,rfl⟩,rfl,⟨(fun e q=>by cases q),qx6 _,List.nodup_nil⟩,(by unfold qn0;decide),(by cases led<;>rfl),rfl,.nil⟩
theorem uv {l:Addr} {vs:Array Value} {val:Nat->K} (Z:A.handled=none) (hl:s.heap.IsList l vs) (hi:∀ (i:Nat) (v:Value),vs[i]?=some v->∃ t,v=κ.put (val i) t) (hb:vs.size+1<qn0)
 (q:∀ (hp:Heap) (tk:Nat),TxS κ hp s.heap.objs.size (met val vs.size) (dB u)->(∀ b o,b<s.heap.objs.size->s.heap.get? b=some o->hp.get? b=some o)->Q (.ref s.heap.objs.size) {s with heap:=hp,toks:=tk}) :
  wpAny (model P u) A (call (.type "set") [.ref l]) Q E s:=by
 obtain ⟨c0,tl0,m0⟩:=qp0.mro;have m1:=qp0.made;have m2:=qp0.sub;refine zg1 (codeAny_of_tree ?_);show wpAny _ _ (callAny (.type "set") _) _ _ _;refine qa2 ⟨Code.quiet_builtin _ (by decide +kernel),qo9 F.entry_type_call ?_⟩;rw [qd8.under_plain (weight_type_call_type "set" [.ref l] []) rfl];have m3:=qp0.notType;have m4:=qp0.canCreate;have m5:=F.typeCall_set_1 (.ref l)
 repeat (any_goals (first | assumption | wp_step))
 refine qr0 (wN (.ref l) (E:=E) (Q1:=fun x s1=>x=.ref s.heap.objs.size/\s1={s with heap:=s.heap.push {cls:=.type "set",dict:=none,data:=.set #[] 0 (.fresh 0 0 (dB u))}}) ⟨rfl,rfl⟩) fun r s1 hr=>?_
 cases r with
 | error e=>exact hr
 | ok fl =>
  cases fl with
  | ret x =>
   obtain ⟨rfl,rfl⟩:=hr;have gS:(s.heap.push {cls:=.type "set",dict:=none,data:=.set #[] 0 (.fresh 0 0 (dB u))}).get? s.heap.objs.size=some {cls:=.type "set",dict:=none,data:=.set #[] 0 (.fresh 0 0 (dB u))}:=qa8 _ rfl;have tS:zg0 {s with heap:=s.heap.push {cls:=.type "set",dict:=none,data:=.set #[] 0 (.fresh 0 0 (dB u))}} (.ref s.heap.objs.size) "set":=⟨_,gS,rfl⟩;have n1:=qp0.init.lookup;have n2:=qp0.init.bind (.ref s.heap.objs.size)
   repeat (any_goals (first | assumption | wp_step))
   refine qr0 (codeAny_call_builtin (R:=wants (fun r s2=>r=.none/\∃ hp tk,s2={s with heap:=hp,toks:=tk}/\TxS κ hp s.heap.objs.size (met val vs.size) (dB u)/\(∀ b o,b<s.heap.objs.size->s.heap.get? b=some o->hp.get? b=some o)) E) qp0.init.plain F.entry_set_init (check_set_init_1 tS ?_)) fun r2 s2 Y=>?_
   . obtain ⟨ol,hol,hcl,nl,hdl⟩:=hl;obtain ⟨oc,od,oda,osl⟩:=ol;simp only at hcl hdl;subst hcl hdl;have hol2:(s.heap.push {cls:=.type "set",dict:=none,data:=.set #[] 0 (.fresh 0 0 (dB u))}).get? l=some {cls:=.type "list",dict:=od,data:=.seq vs nl,slots:=osl}:=gP _ hol;have k1:=F.sub_list_set;have k2:=F.sub_list_frozenset;have k3:(qj6 "list"==qj6 "dict")=false:=by decide
     have hl1:(s.heap.push {cls:=.type "set",dict:=none,data:=.set #[] 0 (.fresh 0 0 (dB u))}).IsList l vs:=⟨_,hol2,rfl,nl,rfl⟩;unfold qj0.«set.__init__» noKeywords qj0.Frozenset.updateFrom;generalize hPI:zg6=PI;wp_walk;subst hPI;refine qs6 hl1 (wB (wpAny_runValue ?_));have ls:l<s.heap.objs.size:=qa7 hol;have c3:A.in1.in1.in1.handled=none:=by simp [Z]
     have ne1:l≠(s.heap.push {cls:=.type "set",dict:=none,data:=.set #[] 0 (.fresh 0 0 (dB u))}).objs.size:=by rw [qf6];exact qb8 (qh7 ls)
     have ne2:s.heap.objs.size∉[(s.heap.push {cls:=.type "set",dict:=none,data:=.set #[] 0 (.fresh 0 0 (dB u))}).objs.size,l]:=by rw [qf6];simp only [qa6,qb0,qk8,or_false,not_or];exact ⟨qb8 (qn6 _),ql0 ls⟩
     refine uu ((Walks.list c3 _ l ne1 vs).toS) s.heap.objs.size ne2 val hi hb (vs.size-0) 0 _ (by lia) (qj2 _) ⟨⟨_,qa8 _ rfl,rfl,rfl⟩,(hl1.push _)⟩ (rK (gP _ gS)) fun s3 mv O=>?_
     obtain ⟨hp,g3,d3,tk3,o3⟩:=s3;have eg:g3=s.gens:=mv.gens;have ed:d3=s.drawn:=mv.drawn;have eo:o3=s.os:=mv.os;subst eg ed eo;show wpAny _ _ _ _ _ _;refine qa2 ?_;show wpAny _ _ (ret qh2) _ _ _;refine qa2 ⟨rfl,hp,tk3,rfl,O,fun b o hb e=>?_⟩;have b1:b≠s.heap.objs.size:=qb8 hb
     have b2:b≠(s.heap.push {cls:=.type "set",dict:=none,data:=.set #[] 0 (.fresh 0 0 (dB u))}).objs.size:=by rw [qf6];exact qb8 (qh7 hb)
     exact mv.heap b o (by simp only [qa6,qb0,qk8,or_false,not_or];exact ⟨b1,b2⟩) (qk4 _ (qk4 _ e))
   . cases r2 with
     | error e=>exact Y
     | ok f2 =>
      cases f2 with
      | ret r =>
       obtain ⟨rfl,hp,tk,rfl,O,kept⟩:=Y
       repeat (any_goals (first | assumption | wp_step))
       exact q _ _ O kept
      | _=>exact Y.elim
  | _=>exact hr.elim
end
theorem iJ {α:Type}:∀ {l:List α} {i:Nat} (h:i<l.length),(l[i]::l.eraseIdx i).Perm l
 | x::l,0,h=>qx6 _
 | x::l,i+1,h=>by have:=iJ (l:=l) (i:=i) (by simpa using h);exact (zh7.swap _ _ _).trans (this.cons x)
section
variable {M:Model} {A:qd8} {E:Value->qa4->Prop}
theorem oV {src:Source} {Q:Nat->qa4->Prop} (O:n≠0) (q:∀ i d,i<n->Q i {s with drawn:=d}):wpAny M A (choose src n) Q E s:=fun G p Y=>by show Sem.wp M G (.choose src n .pure) _ _ p s;rw [Sem.wp_choose];refine ⟨O,?_⟩;rw [Sem.wp_pure];exact q _ _ (Nat.mod_lt _ (Nat.pos_of_ne_zero O))
theorem gA {α:Type}:∀ (n:Nat) (xs:List α) {Q:List α->qa4->Prop} {s:qa4},xs.length=n->(∀ ys d,ys.Perm xs->Q ys {s with drawn:=d})->wpAny M A (drawOrder n xs) Q E s
 | 0,xs,Q,s,O,q=>by have e:xs=[]:=za0.mp O;subst e;show wpAny M A (pure []) Q E s;refine qa2 ?_;have:=q [] s.drawn (qx6 _);cases s;exact this
 | n+1,[],Q,s,O,q=>by cases O
 | n+1,x::xs,Q,s,O,q=>by show wpAny M A (choose .order (x::xs).length >>= fun i=>match (x::xs)[i]? with | some y=>(drawOrder n ((x::xs).eraseIdx i)) >>= fun ys=>pure (y::ys) | none=>unsupported "internal:drawOrder") Q E s;refine qg9 (oV (by simp) fun i d hi=>?_);rw [gQ hi];dsimp only;refine wB (gA n ((x::xs).eraseIdx i) (by rw [qw1 hi];lia) fun ys d2 p=>qa2 (q _ d2 ?_));exact (p.cons _).trans (iJ hi)
end
theorem lX:entryFor table "set.__iter__"=some qj0.«frozenset.__iter__»:=entryFor_alias (id':="frozenset.__iter__") (by kernel_rfl) rfl (by decide +kernel) (by kernel_rfl)
theorem iV:zd7 (.type "set_iterator") "__next__"=pure (some (.builtin "set_iterator.__next__")):=by rw [qs0,ql5];kernel_rfl
section
variable {P:qc2} {u:World} {A:qd8} {E:Value->qa4->Prop} {s:qa4} {a:Addr} {o:Obj} {es:Array (Int×Value)} {ep:Nat} {t:qf8}
def jL (first:Value) (i:Int) (a:Addr) (n ep:Nat):Obj:={cls:=.type "set_iterator",data:=.fields #[first,qf3 i,.ref a,qf3 n,qf3 ep]}
theorem nj (g1:s.heap.get? a=some o) (g2:o.ExactSet) (Y:o.data=.set es ep t) (Z:t.fits es.size=true) (hb:es.size<qn0)
 (q1:∀ (ys:List Nat) d,dB u=true->(t.plain=false/\1<es.size)->ys.Perm (qc0 es.size)->Q (.ref (s.heap.objs.size+1)) {s with drawn:=d,heap:=(s.heap.push {cls:=.type "tuple",data:=.seq (ys.map fun (i:Nat)=>qf3 i).toArray}).push (jL (.ref s.heap.objs.size) 0 a es.size ep)})
 (q2:(dB u=false∨¬ (t.plain=false/\1<es.size))->Q (.ref s.heap.objs.size) {s with heap:=s.heap.push (jL (qf3 0) 0 a es.size ep)}):wpAny (model P u) A (zg6 (.ref a)) Q E s:=by
 have hT:s.TypeIs (.ref a) "set":=⟨o,g1,g2.1⟩;refine qy5 hT F.slot_set_iter (qf1 F.slot_set_iter hT lX ?_ (F.args_set_iter_1 _));unfold qj0.«frozenset.__iter__»;refine wB (wB (qa2 (qa2 ?_)));unfold qj0.Frozenset.sizeOf ze0;refine wB (wB (wB (qe6 g1 Y Z (qa2 (qa2 ?_)))));unfold setDrawn zg4;refine wB (wB (qe6 g1 Y Z (wB (wB (qn7 (qa2 (qa2 ?_)))))));have hl:(!(u.params.followText "set-order"))=dB u:=rfl;show wpAny (model P u) A.in1 (if (!(u.params.followText "set-order")&&(!t.plain&&decide (es.size > 1)))=true then (drawOrder es.size (qc0 es.size) >>= fun ys=>zh1 (ys.map fun (i:Nat)=>qf3 i) >>= fun first=>setEpoch a >>= fun e=>newFields "set_iterator" [first,qf3 0,.ref a,qf3 es.size,qf3 e] >>= fun v=>ret v) else (pure (qf3 0) >>= fun first=>setEpoch a >>= fun e=>newFields "set_iterator" [first,qf3 0,.ref a,qf3 es.size,qf3 e] >>= fun v=>ret v)) _ _ s;rw [hl];by_cases q:(dB u&&(!t.plain&&decide (es.size > 1)))=true
 . rw [if_pos q];simp only [qb1,qi5,decide_eq_true_eq] at q;refine qg9 (gA _ _ (by simp) fun ys d p=>?_);have O:ys.length=es.size:=by rw [p.length_eq,qj9]
   refine wB ?_;refine wpAny_newTuple ?_ (by rw [qa1,O];exact qt2 hb);unfold setEpoch;refine wB (wB (qe6 (s:={s with drawn:=d,heap:=s.heap.push {cls:=.type "tuple",data:=.seq (ys.map fun (i:Nat)=>qf3 i).toArray}}) (gP _ g1) Y Z (qa2 ?_)));refine wB (qd1 (qa2 ⟨_,rfl,"set_iterator",_,⟨_,qa8 _ rfl,rfl⟩,iV,?_⟩));have:=q1 ys d q.1 q.2 p;rw [qf6];exact this
 . rw [if_neg q];refine wB (qa2 ?_);unfold setEpoch;refine wB (wB (qe6 g1 Y Z (qa2 ?_)));refine wB (qd1 (qa2 ⟨_,rfl,"set_iterator",_,⟨_,qa8 _ rfl,rfl⟩,iV,?_⟩));refine q2 ?_;by_cases h1:dB u=true
   . right;intro z;exact q (by rw [h1,z.1];simp;exact z.2)
   . left;simpa using h1
end
theorem k5:Manifest.owners.lookup (String.ofList ['r','o','t','a','r','e','t','i','_','t','e','s'].reverse)=some Manifest.sig_set_iterator:=by kernel_rfl
theorem slot_setit:Slot "set_iterator" "__next__" "set_iterator.__next__":=.of (owner:="set_iterator") (n:="__next__") (by rw [qs0,ql5];kernel_rfl) (by decide +kernel) (by decide +kernel) (by decide +kernel) (by first | exact .inl (by decide +kernel) | exact .inr (by decide +kernel)) (by rw [ze3];kernel_rfl)
theorem gp:entryFor table "set_iterator.__next__"=some qj0.«set_iterator.__next__»:=entryFor_of_tree (by kernel_rfl)
theorem fF (v:Value):argsOk "set_iterator.__next__" ⟨[v],[]⟩:=by unfold argsOk;rw [signature?_of (id:="set_iterator.__next__") (n:=['_','_','t','x','e','n','_','_']) (o:=['r','o','t','a','r','e','t','i','_','t','e','s']) (by kernel_rfl) k5];kernel_rfl
variable {first:Value} {ot:Obj} {m:Nat}
section
variable {P:qc2} {u:World} {A:qd8} {E:Value->qa4->Prop} {s:qa4} {a I:Addr} {o:Obj} {es:Array (Int×Value)} {ep n:Nat} {t:qf8}
def ItAt (h:Heap) (I:Addr) (first:Value) (i:Nat) (a:Addr) (n ep:Nat):Prop:=∃ q,h.get? I=some q/\q.cls=.type "set_iterator"/\q.data=.fields #[first,qf3 i,.ref a,qf3 n,qf3 ep]
theorem ItAt.ty (x:ItAt s.heap I first i a n ep):s.TypeIs (.ref I) "set_iterator":=let ⟨q,h,c,_⟩:=x;⟨q,h,c⟩
theorem jM {T:Addr} {ps:Array Value} {hx:Int} {x:Value} {Q:Option Value->qa4->Prop} (O:ItAt s.heap I (.ref T) i a es.size ep) (g1:s.heap.get? a=some o) (g3:o.data=.set es ep t) (hf:t.fits es.size=true) (k1:s.heap.get? T=some ot) (k2:ot.data=.seq ps m) (hp:ps[i]?=some (qf3 p)) (hx:es[p]?=some (hx,x))
 (q:∀ h',ItAt h' I (.ref T) (i+1) a es.size ep->qn2 I s.heap h'->Q (some x) {s with heap:=h'}):wpAny (model P u) A (qw2 (.ref I)) Q E s:=by
 obtain ⟨oi,hi,hc,Z⟩:=id O;unfold qw2;refine wB (qr8 (qe7 (name:=qa0 "__next__") O.ty slot_setit (qf1 slot_setit O.ty gp ?_ (fF _))));unfold qj0.«set_iterator.__next__»;refine wB (qa2 (wB (qq5 hi Z ?_)));unfold ze0;refine wB (wB (qe6 g1 g3 hf (qa2 ?_)));rw [if_neg (by simp)];refine wB (qt3 k1 k2 ?_);dsimp only;rw [qd5,hp];show wpAny _ _ (setNextDrawn a ((p:Int)).toNat ((ep:Int)).toNat >>= fun x=>qz7 (.ref I) 1 (qf3 ((i:Int)+1)) >>= fun _=>ret x) _ _ s;rw [qd5,qd5];unfold setNextDrawn;refine wB (wB (qe6 g1 g3 hf ?_));dsimp only;rw [if_neg (by simp),hx];refine qa2 ?_;refine qg9 (qi7 hi Z (by simp) ?_)
 have Y:ItAt (s.heap.update I (qp7 (·.setIfInBounds 1 (qf3 ((i:Int)+1))))) I (.ref T) (i+1) a es.size ep:=⟨_,qe3 _ hi (qh6 (qe0 Z _)),(qp6 ..).trans hc,by rw [qe0 Z];simp [qf3]⟩
 exact qa2 ⟨_,rfl,qa2 (q _ Y (qe5 ..))⟩
end
set_option maxHeartbeats 400000
section
variable {P:qc2} {u:World} {A:qd8} {E:Value->qa4->Prop} {s:qa4} {a I:Addr} {o:Obj} {es:Array (Int×Value)} {ep n:Nat} {t:qf8}
theorem kf {T:Addr} {ps:Array Value} {m:Nat} {Q:Option Value->qa4->Prop} (Y:A.handled=none) (O:ItAt s.heap I (.ref T) es.size a es.size ep) (g1:s.heap.get? a=some o) (g3:o.data=.set es ep t) (hf:t.fits es.size=true) (k1:s.heap.get? T=some ot) (k2:ot.data=.seq ps m) (hp:ps.size=es.size)
 (q:∀ h',ze9 I s.heap h'->Q none {s with heap:=h'}):wpAny (model P u) A (qw2 (.ref I)) Q E s:=by
 obtain ⟨oi,hi,hc,Z⟩:=id O;unfold qw2;refine wB (qr8 (qe7 (name:=qa0 "__next__") O.ty slot_setit (qf1 slot_setit O.ty gp ?_ (fF _))));unfold qj0.«set_iterator.__next__»;refine wB (qa2 (wB (qq5 hi Z ?_)));unfold ze0;refine wB (wB (qe6 g1 g3 hf (qa2 ?_)));rw [if_neg (by simp)];refine wB (qt3 k1 k2 ?_);dsimp only;rw [qd5,qo0 (by lia)];show wpAny _ _ (qz7 (.ref I) 0 (qf3 0) >>= fun _=>qz7 (.ref I) 2 .none >>= fun _=>zf8 (.type "StopIteration") [] >>= fun e=>zf9 e) _ _ s;refine qg9 (qi7 hi Z (by simp) ?_);refine qg9 (qi7 (qe3 _ hi (qh6 (qe0 Z _))) (qe0 Z _) (by simp) ?_);show wpAny _ _ (zf8 (.type "StopIteration") [] >>= _) _ _ _;refine wB ?_;simp only [zf8,zh1];refine wB (qd1 ?_ (by size_fits));refine qg9 (m:=ql8 _ _) (qz5 (a:=qh2) (by first | rfl | (simp only [ql8];rfl)) ?_);refine qd1 ?_ (by size_fits);simp only [zf9];refine wB (qz6 ?_);rw [show A.in1.handled=none from Y];refine wB (qa2 (zf0 ?_));refine wB (qq6 (T:="StopIteration") (b:=true) ⟨_,qa8 _ rfl,rfl⟩ ze2 ?_);exact qa2 (q _ (((qe5 ..).trans (qe5 ..)).extBut.push _ |>.push _))
end
theorem qg {α:Type} (f:Nat->Nat):∀ (n k:Nat) (l:List α) (q:Array α),l.length=n->(zg9 f n k l q).toList.Perm (q.toList++l)
 | 0,k,l,q,Y=>by have e:l=[]:=za0.mp Y;subst e;rw [zg9,qk1]
 | n+1,k,l,q,Y=>by have O:f k%l.length<l.length:=Nat.mod_lt _ (by lia);rw [zg9,gQ O];dsimp only;refine (qg f n (k+1) (l.eraseIdx (f k%l.length)) (q.push l[f k%l.length]) (by rw [qw1 O];lia)).trans ?_;rw [qy8,qm7];exact zh7.append_left _ (iJ O)
theorem qh {α:Type} (f:Nat->Nat) (xs:Array α):(zd3 f xs).toList.Perm xs.toList:=by have:=qg f xs.size 0 xs.toList #[] (by simp);simpa [zd3] using this
section
variable {P:qc2} {u:World} {A:qd8} {E:Value->qa4->Prop} {s:qa4} {a I:Addr} {o:Obj} {es:Array (Int×Value)} {ep n:Nat} {t:qf8}
theorem fg {Q:Option (Value×Nat)->qa4->Prop} (O:dB u=false) (g1:s.heap.get? a=some o) (Y:o.data=.set es ep t) (hf:t.fits es.size=true)
 (q:Q (((zd3 (u.params.setOrder a ep) es)[i]?).map fun e=>(e.2,j)) s):wpAny (model P u) A (za1 a j i ep) Q E s:=by
 have Z:u.params.followText "set-order"=true:=by unfold dB at O;simpa using O
 unfold za1 zg4;refine wB (qe6 g1 Y hf (wB (wB (qn7 (qa2 ?_)))));show wpAny (model P u) A (if u.params.followText "set-order"=true then _ else _) Q E s;rw [if_pos Z,if_neg (by simp)];unfold setWalk zg4;refine wB (wB (qe6 g1 Y hf (wB (wB (qn7 (qa2 ?_))))));show wpAny (model P u) A (if u.params.followText "set-order"=true then _ else _) _ E s;rw [if_pos Z];refine wB (qn7 (qa2 ?_));exact qa2 q
end
section
variable {P:qc2} {u:World} {A:qd8} {E:Value->qa4->Prop} {s:qa4} {a I:Addr} {o:Obj} {es:Array (Int×Value)} {ep n:Nat} {t:qf8}
theorem fL {Q:Option (Value×Nat)->qa4->Prop} (O:dB u=true) (Y:t.led=true) (one:¬ (t.plain=false/\1<es.size)) (g1:s.heap.get? a=some o) (g3:o.data=.set es ep t) (hf:t.fits es.size=true)
 (q:Q (match es[qf7 t.place j]?,t.place[qf7 t.place j]? with | some (_,x),some k=>some (x,k+1) | _,_=>none) s):wpAny (model P u) A (za1 a j i ep) Q E s:=by
 have Z:u.params.followText "set-order"=false:=by unfold dB at O;simpa using O
 unfold za1 zg4;refine wB (qe6 g1 g3 hf (wB (wB (qn7 (qa2 ?_)))));show wpAny (model P u) A (if u.params.followText "set-order"=true then _ else if (!t.plain&&decide (es.size > 1))=true then _ else (if (!t.led&&!es.isEmpty)=true then unsupported "set:maker-not-led" else pure ()) >>= fun _=>pure (match es[qf7 t.place j]?,t.place[qf7 t.place j]? with | some (_,x),some k=>some (x,k+1) | _,_=>none)) Q E s;rw [Z,if_neg (by decide),if_neg (by simpa using one),if_neg (by simp [Y])];exact wB (qa2 (qa2 q))
theorem jN {next:Nat} {x:Value} {Q:Option Value->qa4->Prop} (O:ItAt s.heap I (qf3 j) i a es.size ep) (g1:s.heap.get? a=some o) (g3:o.data=.set es ep t) (hf:t.fits es.size=true) (hn:∀ {A':qd8} {Q':Option (Value×Nat)->qa4->Prop} {E':Value->qa4->Prop},Q' (some (x,next)) s->wpAny (model P u) A' (za1 a j i ep) Q' E' s)
 (q:∀ h',ItAt h' I (qf3 next) (i+1) a es.size ep->qn2 I s.heap h'->Q (some x) {s with heap:=h'}):wpAny (model P u) A (qw2 (.ref I)) Q E s:=by
 obtain ⟨oi,hi,hc,Y⟩:=id O;unfold qw2;refine wB (qr8 (qe7 (name:=qa0 "__next__") O.ty slot_setit (qf1 slot_setit O.ty gp ?_ (fF _))));unfold qj0.«set_iterator.__next__»;refine wB (qa2 (wB (qq5 hi Y ?_)));unfold ze0;refine wB (wB (qe6 g1 g3 hf (qa2 ?_)));rw [if_neg (by simp)];show wpAny _ _ (za1 a ((j:Int)).toNat ((i:Int)).toNat ((ep:Int)).toNat >>= _) _ _ s;rw [qd5,qd5,qd5];refine wB (hn ?_);show wpAny _ _ (qz7 (.ref I) 0 (qf3 next) >>= fun _=>qz7 (.ref I) 1 (qf3 ((i:Int)+1)) >>= fun _=>ret x) _ _ s;refine qg9 (qi7 hi Y (by simp) ?_);refine qg9 (qi7 (qe3 _ hi (qh6 (qe0 Y _))) (qe0 Y _) (by simp) ?_);have e1:(s.heap.update I (qp7 (·.setIfInBounds 0 (qf3 next)))).get? I=some (qp7 (·.setIfInBounds 0 (qf3 next)) oi):=qe3 _ hi (qh6 (qe0 Y _));have d1:=qe0 Y (·.setIfInBounds 0 (qf3 next))
 have Z:ItAt ((s.heap.update I (qp7 (·.setIfInBounds 0 (qf3 next)))).update I (qp7 (·.setIfInBounds 1 (qf3 ((i:Int)+1))))) I (qf3 next) (i+1) a es.size ep:=⟨_,qe3 _ e1 (qh6 (qe0 d1 _)),(qp6 ..).trans ((qp6 ..).trans hc),by rw [qe0 d1];simp [qf3]⟩
 exact qa2 ⟨_,rfl,qa2 (q _ Z ((qe5 ..).trans (qe5 ..)))⟩
theorem kg {Q:Option Value->qa4->Prop} (Y:A.handled=none) (O:ItAt s.heap I (qf3 j) i a es.size ep) (g1:s.heap.get? a=some o) (g3:o.data=.set es ep t) (hf:t.fits es.size=true) (hn:∀ {A':qd8} {Q':Option (Value×Nat)->qa4->Prop} {E':Value->qa4->Prop},Q' none s->wpAny (model P u) A' (za1 a j i ep) Q' E' s)
 (q:∀ h',ze9 I s.heap h'->Q none {s with heap:=h'}):wpAny (model P u) A (qw2 (.ref I)) Q E s:=by
 obtain ⟨oi,hi,hc,Z⟩:=id O;unfold qw2;refine wB (qr8 (qe7 (name:=qa0 "__next__") O.ty slot_setit (qf1 slot_setit O.ty gp ?_ (fF _))));unfold qj0.«set_iterator.__next__»;refine wB (qa2 (wB (qq5 hi Z ?_)));unfold ze0;refine wB (wB (qe6 g1 g3 hf (qa2 ?_)));rw [if_neg (by simp)];show wpAny _ _ (za1 a ((j:Int)).toNat ((i:Int)).toNat ((ep:Int)).toNat >>= _) _ _ s;rw [qd5,qd5,qd5];refine wB (hn ?_);show wpAny _ _ (qz7 (.ref I) 2 .none >>= fun _=>zf8 (.type "StopIteration") [] >>= fun e=>zf9 e) _ _ s;refine qg9 (qi7 hi Z (by simp) ?_);show wpAny _ _ (zf8 (.type "StopIteration") [] >>= _) _ _ _;refine wB ?_;simp only [zf8,zh1];refine wB (qd1 ?_ (by size_fits));refine qg9 (m:=ql8 _ _) (qz5 (a:=qh2) (by first | rfl | (simp only [ql8];rfl)) ?_);refine qd1 ?_ (by size_fits);simp only [zf9];refine wB (qz6 ?_);rw [show A.in1.handled=none from Y];refine wB (qa2 (zf0 ?_));refine wB (qq6 (T:="StopIteration") (b:=true) ⟨_,qa8 _ rfl,rfl⟩ ze2 ?_);exact qa2 (q _ ((qe5 ..).extBut.push _ |>.push _))
end
theorem fM:Slot "set_iterator" "__iter__" "set_iterator.__iter__":=.of (owner:="set_iterator") (n:="__iter__") (by rw [qs0,ql5];kernel_rfl) (by decide +kernel) (by decide +kernel) (by decide +kernel) (by first | exact .inl (by decide +kernel) | exact .inr (by decide +kernel)) (by rw [ze3];kernel_rfl)
theorem jO:entryFor table "set_iterator.__iter__"=some qj0.«dict_keyiterator.__iter__»:=entryFor_alias (id':="dict_keyiterator.__iter__") (by kernel_rfl) rfl (by decide +kernel) (by kernel_rfl)
theorem i7 (v:Value):argsOk "set_iterator.__iter__" ⟨[v],[]⟩:=by unfold argsOk;rw [signature?_of (id:="set_iterator.__iter__") (n:=['_','_','r','e','t','i','_','_']) (o:=['r','o','t','a','r','e','t','i','_','t','e','s']) (by kernel_rfl) k5];kernel_rfl
variable {ord:Nat->Value}
section
variable {P:qc2} {u:World} {A:qd8} {E:Value->qa4->Prop} {s:qa4} {a I:Addr} {o:Obj} {es:Array (Int×Value)} {ep n:Nat} {t:qf8}
theorem ga (O:ItAt s.heap I first i a n ep) (q:Q (.ref I) s):wpAny (model P u) A (zg6 (.ref I)) Q E s:=by refine qy5 O.ty fM (qf1 fM O.ty jO ?_ (i7 _));show wpAny _ _ (ret (.ref I)) _ _ s;exact qa2 ⟨_,rfl,"set_iterator",_,O.ty,slot_setit.lookup,q⟩
theorem lY {Q:Bool->qa4->Prop} (Y:s.TypeIs (.ref a) "set") (q:Q false s):wpAny (model P u) A (qk2 (.ref a)) Q E s:=by
 unfold qk2;refine wB (qv5 Y PySem.F.slot_set_len.lookup ?_);generalize O:("set.__len__":String)=Z
 wp_delta
 rw [show splitId Z=some ("set","__len__") from by subst O;decide +kernel];subst O;refine wB (qq6 (T:="set") (b:=true) Y sub_set_self ?_);refine qk3 (fun z=>absurd z (by decide)) (fun _=>?_);refine qk3 (fun _=>wB (zc4 Y (qa2 q))) (fun z=>absurd (by decide +kernel) z)
theorem ItAt.keep (x:ItAt h I first i a n ep) (e:∀ q,h.get? I=some q->h'.get? I=some q):ItAt h' I first i a n ep:=let ⟨q,g,r⟩:=x;⟨q,e q g,r⟩
theorem oW {T:Addr} {ps:Array Value} (O:A.handled=none) (g3:o.data=.set es ep t) (hf:t.fits es.size=true) (k2:ot.data=.seq ps m) (hps:ps.size=es.size) (hI:I≠a) (hIT:I≠T) (Y:∀ i,i<es.size->∃ p hx,ps[i]?=some (qf3 (p:Nat))/\es[p]?=some (hx,ord i)) :
  WalksS P u A I [I,a,T] [I] (fun x y=>y=x) es.size (fun i v=>v=ord i) (fun i s=>ItAt s.heap I (.ref T) i a es.size ep/\s.heap.get? a=some o/\s.heap.get? T=some ot) where
 sub:=fun b Z=>by rw [qb0.mp Z];exact .head _
 grefl:=fun _=>rfl
 gtrans:=fun _ _ _ h1 h2=>h2.trans h1
 frame:=fun i s h' tk ⟨x,y,z⟩ _ e=>⟨x.keep fun q g=>e I (.head _) q g,e a (.tail _ (.head _)) _ y,e T (.tail _ (.tail _ (.head _))) _ z⟩
 item:=fun i s Q E hi ⟨x,y,z⟩ q=>by
  obtain ⟨p,hx,h1,h2⟩:=Y i hi;refine jM x y g3 hf z k2 h1 h2 fun h' it sb=>q _ _ rfl ⟨it,(sb.2 a (qq0 hI)).trans y,(sb.2 T (qq0 hIT)).trans z⟩ ⟨fun b ob Z e=>?_,rfl,rfl,rfl,nL _⟩
  exact (sb.2 b (fun w=>Z (by rw [w];exact .head _))).trans e
 done:=fun s Q E ⟨x,y,z⟩ q=>kf O x y g3 hf z k2 hps fun h' eb=>q _ ⟨fun b ob Z e=>eb b ob (fun w=>Z (by rw [w];exact .head _)) e,rfl,rfl,rfl,nL _⟩
 self:=fun i s Q E ⟨x,_⟩ q=>ga x q
end
section
variable {P:qc2} {u:World} {K:Type} [DecidableEq K] {κ:SK P u K} {A:qd8} {E:Value->qa4->Prop} {s:qa4} {a I:Addr} {o:Obj} {es:Array (Int×Value)} {ep n:Nat} {t:qf8}
theorem jP {sl:Nat->Nat} (O:A.handled=none) (g3:o.data=.set es ep t) (hf:t.fits es.size=true) (hI:I≠a)
 (hn:∀ i,i<es.size->∀ (s:qa4),s.heap.get? a=some o->∀ {A':qd8} {Y:Option (Value×Nat)->qa4->Prop} {E':Value->qa4->Prop},Y (some (ord i,sl (i+1))) s->wpAny (model P u) A' (za1 a (sl i) i ep) Y E' s)
 (he:∀ (s:qa4),s.heap.get? a=some o->∀ {A':qd8} {Y:Option (Value×Nat)->qa4->Prop} {E':Value->qa4->Prop},Y none s->wpAny (model P u) A' (za1 a (sl es.size) es.size ep) Y E' s) :
  WalksS P u A I [I,a] [I] (fun x y=>y=x) es.size (fun i v=>v=ord i) (fun i s=>ItAt s.heap I (qf3 (sl i)) i a es.size ep/\s.heap.get? a=some o) where
 sub:=fun b Z=>by rw [qb0.mp Z];exact .head _
 grefl:=fun _=>rfl
 gtrans:=fun _ _ _ h1 h2=>h2.trans h1
 frame:=fun i s h' tk ⟨x,y⟩ _ e=>⟨x.keep fun q g=>e I (.head _) q g,e a (.tail _ (.head _)) _ y⟩
 item:=fun i s Q E hi ⟨x,y⟩ q=>jN x y g3 hf (hn i hi s y) fun h' it sb=>q _ _ rfl ⟨it,(sb.2 a (qq0 hI)).trans y⟩ ⟨fun b ob Z e=>(sb.2 b (fun w=>Z (by rw [w];exact .head _))).trans e,rfl,rfl,rfl,nL _⟩
 done:=fun s Q E ⟨x,y⟩ q=>kg O x y g3 hf (he s y) fun h' eb=>q _ ⟨fun b ob Z e=>eb b ob (fun w=>Z (by rw [w];exact .head _)) e,rfl,rfl,rfl,nL _⟩
 self:=fun i s Q E ⟨x,_⟩ q=>ga x q
inductive AreK (κ:SK P u K):List Value->List K->Prop
 | nil:AreK κ [] []
 | cons (k:K) (t:Tok) {vs:List Value} {ks:List K}:AreK κ vs ks->AreK κ (κ.put k t::vs) (k::ks)
theorem AreK.len {vs:List Value} {ks:List K} (h:AreK κ vs ks):vs.length=ks.length:=by
 induction h with
 | nil=>rfl
 | cons y tk _ q=>simp [q]
theorem nn {ss:List K} {l m:List (Int×Value)} (x:Tx κ l ss) (p:m.Perm l):∃ ks,AreK κ (m.map (·.2)) ks/\ks.Perm ss:=by
 have y:=x.perm p;refine ⟨m.map fun e=>κ.of e.2,?_,y.per⟩
 have q:∀ m:List (Int×Value),(∀ e∈m,∃ k t,e.2=κ.put k t/\e.1=κ.knd.hash k)->AreK κ (m.map (·.2)) (m.map fun e=>κ.of e.2):=fun m=>by
  induction m with
  | nil=>intro _;exact .nil
  | cons e m Y =>intro h;obtain ⟨k,tk,h1,_⟩:=h e (by simp);rw [qa5,qa5,h1,κ.ofmk];exact .cons k tk (Y fun z O=>h z (by simp [O]))
 exact q m y.all
theorem lZ {ss:List K} (hS:TxS κ s.heap a ss (dB u))
 (q:∀ (I:Addr) (fp:List Addr) (vs:List Value) (ks:List K) (St:Nat->qa4->Prop) (d:Drawn) (h':Heap),(∀ Z:qd8,Z.handled=none->WalksS P u Z I fp [I] (fun x y=>y=x) vs.length (fun i v=>v=vs.getD i .none) St)->St 0 {s with drawn:=d,heap:=h'}->(∀ b∈fp,b<h'.objs.size/\(b=a∨s.heap.objs.size<=b))->(∀ b ob,s.heap.get? b=some ob->h'.get? b=some ob)->s.heap.objs.size<=I->AreK κ vs ks->ks.Perm ss->Q (.ref I) {s with drawn:=d,heap:=h'}) :
  wpAny (model P u) A (zg6 (.ref a)) Q E s:=by
 obtain ⟨o,es,ep,t,g1,g2,g3,x,hb,hf,hl,hp⟩:=hS.ex;have la:a<s.heap.objs.size:=qa7 g1;refine nj g1 g2 g3 hf hb (fun ys d byP hd p=>?_) (fun hm=>?_)
 . -- drawn
   have hyl:ys.length=es.size:=by rw [p.length_eq,qj9]
   have perm:(ys.map fun i=>es.toList.getD i (0,.none)).Perm es.toList:=by
    refine (p.map _).trans ?_
    have e:(qc0 es.size).map (fun i=>es.toList.getD i (0,.none))=es.toList:=by
     apply qt9
     . simp
     . intro i h1 h2;simp at h1 h2;simp [h2]
    rw [e]
   obtain ⟨ks,k1,k2⟩:=nn x perm;have hlen:((ys.map fun i=>es.toList.getD i (0,.none)).map (·.2)).length=es.size:=by rw [qa1,qa1,hyl]
   refine q (s.heap.objs.size+1) [s.heap.objs.size+1,a,s.heap.objs.size] ((ys.map fun i=>es.toList.getD i (0,.none)).map (·.2)) ks (fun i s'=>ItAt s'.heap (s.heap.objs.size+1) (.ref s.heap.objs.size) i a es.size ep/\s'.heap.get? a=some o/\s'.heap.get? s.heap.objs.size=some {cls:=.type "tuple",data:=.seq (ys.map fun (i:Nat)=>qf3 i).toArray}) d _ (fun Z O=>?_) ⟨⟨jL (.ref s.heap.objs.size) 0 a es.size ep,?_,rfl,rfl⟩,?_,?_⟩ ?_ ?_ (qs9 _) k1 k2
   . rw [hlen];refine oW O g3 hf rfl (by simp [hyl]) (ql0 (qh7 la)) (Nat.succ_ne_self _) fun i hi=>?_
     have Y:i<ys.length:=by lia
     have hy:ys[i]<es.size:=qd0.mp (p.mem_iff.mp (qu3 Y));refine ⟨ys[i],es[ys[i]].1,by simp [Y],?_⟩;simp [Y,hy]
   . have:=qa8 (s.heap.push {cls:=.type "tuple",data:=.seq (ys.map fun (i:Nat)=>qf3 i).toArray}) (o:=jL (.ref s.heap.objs.size) 0 a es.size ep) rfl;rw [qf6] at this;exact this
   . exact gP _ (gP _ g1)
   . exact gP _ (qa8 _ rfl)
   . intro b hb;rw [qf6,qf6];rcases qa6.mp hb with rfl | hb
     . exact ⟨qn6 _,.inr (qs9 _)⟩
     . rcases qa6.mp hb with rfl | hb
       . exact ⟨qh7 (qh7 la),.inl rfl⟩
       . rw [qb0.mp hb];exact ⟨qh7 (qn6 _),.inr (nL _)⟩
   . exact fun b ob e=>gP _ (gP _ e)
 . -- by the world's text,or one at most
   have fin:∀ (m:List (Int×Value)) (sl:Nat->Nat),m.Perm es.toList->sl 0=0->(∀ Z:qd8,Z.handled=none->WalksS P u Z s.heap.objs.size [s.heap.objs.size,a] [s.heap.objs.size] (fun x y=>y=x) es.size (fun i v=>v=(m.map (·.2)).getD i .none) (fun i s'=>ItAt s'.heap s.heap.objs.size (qf3 (sl i)) i a es.size ep/\s'.heap.get? a=some o))->Q (.ref s.heap.objs.size) {s with heap:=s.heap.push (jL (qf3 0) 0 a es.size ep)}:=fun m sl p h0 W=>by
    obtain ⟨ks,k1,k2⟩:=nn x p;have hlen:(m.map (·.2)).length=es.size:=by rw [qa1,p.length_eq,qe1]
    have:=q s.heap.objs.size [s.heap.objs.size,a] (m.map (·.2)) ks (fun i s'=>ItAt s'.heap s.heap.objs.size (qf3 (sl i)) i a es.size ep/\s'.heap.get? a=some o) s.drawn (s.heap.push (jL (qf3 0) 0 a es.size ep)) (by rw [hlen];exact W) ⟨⟨jL (qf3 0) 0 a es.size ep,qa8 _ rfl,rfl,by rw [h0];rfl⟩,gP _ g1⟩ (fun b hb=>by
     rw [qf6];rcases qa6.mp hb with rfl | hb
     . exact ⟨qn6 _,.inr (nL _)⟩
     . rw [qb0.mp hb];exact ⟨qh7 la,.inl rfl⟩) (fun b ob e=>gP _ e) (nL _) k1 k2
    exact this
   have ne:s.heap.objs.size≠a:=ql0 la;by_cases byT:dB u=false
   . refine fin (zd3 (u.params.setOrder a ep) es).toList (fun _=>0) (qh _ _) rfl fun Z O=>?_
     have hsz:(zd3 (u.params.setOrder a ep) es).size=es.size:=by have:=(qh (u.params.setOrder a ep) es).length_eq;simpa using this
     refine jP O g3 hf ne (fun i hi s' gs Z Q' E' q'=>fg byT gs g3 hf ?_) (fun s' gs Z Q' E' q'=>fg byT gs g3 hf ?_)
     . have Y:i<(zd3 (u.params.setOrder a ep) es).size:=by lia
       rw [qg3 Y];simpa [Y] using q'
     . rw [qo0 (by lia)];exact q'
   . have byP:dB u=true:=by simpa using byT
     have one:¬ (t.plain=false/\1<es.size):=by
      rcases hm with h1 | h1
      . exact absurd h1 byT
      . exact h1
     have hpl:t.place.size=es.size:=by unfold qf8.fits at hf;simp at hf;exact hf.1
     refine fin es.toList (fun i=>if h:0<i/\i<=t.place.size then t.place[i-1]+1 else 0) (qx6 _) (by simp) fun Z O=>?_
     have low:∀ i,i<=es.size->qf7 t.place (if h:0<i/\i<=t.place.size then t.place[i-1]+1 else 0)=i:=fun i hi=>by
      by_cases h0:i=0
      . subst h0;simp [na hp]
      . rw [dif_pos ⟨by lia,by lia⟩,oS hp (by lia)];lia
     refine jP O g3 hf ne (fun i hi s' gs Z Q' E' q'=>fL byP (hl.trans byP) one gs g3 hf ?_) (fun s' gs Z Q' E' q'=>fL byP (hl.trans byP) one gs g3 hf ?_)
     . rw [low i (qh5 hi),qg3 hi,qg3 (by lia)];rw [dif_pos ⟨by lia,by lia⟩] at q';simpa [hi] using q'
     . rw [low _ (nL _),qo0 (by lia)];exact q'
end
section
variable {P:qc2} {u:World} {K:Type} [DecidableEq K] {κ:SK P u K} {A:qd8} {E:Value->qa4->Prop} {s:qa4} {a:Addr}
theorem TxS.small {ss:List K} (x:TxS κ h a ss led):ss.length<qn0/\∃ o,h.get? a=some o/\o.cls=.type "set":=by obtain ⟨o,es,ep,t,g1,g2,O,y,q,_⟩:=x.ex;refine ⟨?_,o,g1,g2.1⟩;rw [<- y.per.length_eq,qa1,qe1];exact q
theorem i8 {ss:List K} {Q:List Value->qa4->Prop} (Y:A.handled=none) (hS:TxS κ s.heap a ss (dB u))
  (q:∀ (vs:List Value) (ks:List K) (d:Drawn) (h':Heap) (tk:Nat),AreK κ vs ks->ks.Perm ss->s.heap.objs.size<=h'.objs.size->(∀ b ob,s.heap.get? b=some ob->h'.get? b=some ob)->Q vs {s with drawn:=d,heap:=h',toks:=tk}):wpAny (model P u) A (collect (.ref a)) Q E s:=by
 obtain ⟨hsz,o,g1,gc⟩:=hS.small;have la:a<s.heap.objs.size:=qa7 g1;unfold collect;refine wB (wpAny_runValue (qo9 PySem.F.entry_proto_collect ?_));rw [qm2 PySem.F.plain_proto_collect _];show wpAny _ A.in1 (newList [] >>= fun l=>again (.builtin "list.__iadd__" ⟨[l,.ref a],[]⟩)) _ _ s;refine wB (qd1 ?_);refine qa2 ⟨qu9 PySem.F.plain_list_iadd _,qo9 PySem.F.entry_list_iadd ?_⟩;rw [qm2 PySem.F.plain_list_iadd _];show wpAny _ A.in1 (qg6 (.ref s.heap.objs.size) (.ref a) (.ref s.heap.objs.size)) _ _ _;have hS1:TxS κ (s.heap.push {cls:=.type "list",data:=.seq ([]:List Value).toArray}) a ss (dB u):=hS.moved fun ob e=>gP _ e
 have hT1:zg0 {s with heap:=s.heap.push {cls:=.type "list",data:=.seq ([]:List Value).toArray}} (.ref a) "set":=⟨o,gP _ g1,gc⟩;have gL:(s.heap.push {cls:=.type "list",data:=.seq ([]:List Value).toArray}).get? s.heap.objs.size=some {cls:=.type "list",data:=.seq ([]:List Value).toArray}:=qa8 _ rfl;unfold qg6;refine wB (zc4 hT1 ?_);have h1:qn1 (.ref s.heap.objs.size) (.ref a)=false:=by simp [qn1,ql0 la]
 have h2:(qj6 "set"==qj6 "list")=false:=by decide
 have h3:(qj6 "set"==qj6 "tuple")=false:=by decide
 simp only [h1,h2,h3,qz2,qi0,if_false];refine wB (lZ (s:={s with heap:=s.heap.push {cls:=.type "list",data:=.seq ([]:List Value).toArray}}) hS1 fun I fp vs ks St d h' W st hfp keep hI k1 k2=>?_);have hTI:zg0 {s with drawn:=d,heap:=h'} (.ref a) "set":=⟨o,keep a o (gP _ g1),gc⟩;refine wB (qi6 (lY hTI ?_));show wpAny _ A.in1 (rule "list.extend.makes-room" >>= fun _=>qj0.List.listTouch (.ref s.heap.objs.size) >>= fun _=>again (.builtin "list.extend.loop" ⟨[.ref s.heap.objs.size,.ref I,.ref s.heap.objs.size],[]⟩)) _ _ _;refine wB (zg3 (wB ?_));have gL1:=keep _ _ gL;show wpAny _ A.in1 (updateSeq s.heap.objs.size (·.push .none) >>= fun _=>updateSeq s.heap.objs.size (·.pop)) _ _ _;refine wB (zd4 gL1 rfl ?_);have gL2:=qe3 (qn9 (·.push qh2)) gL1 rfl;refine zd4 gL2 rfl ?_;have gL3:=qe3 (qn9 (·.pop)) gL2 rfl;have oth:∀ b ob,b≠s.heap.objs.size->h'.get? b=some ob->((h'.update s.heap.objs.size (qn9 (·.push qh2))).update s.heap.objs.size (qn9 (·.pop))).get? b=some ob:=fun b ob hb e=>(qk5 _ _ (qq0 hb)).trans ((qk5 _ _ (qq0 hb)).trans e)
 have Z:s.heap.objs.size∉fp:=fun hm=>by
  rcases (hfp _ hm).2 with z | z
  . exact ql0 la z
  . have z:(s.heap.push {cls:=.type "list",data:=.seq ([]:List Value).toArray}).objs.size<=s.heap.objs.size:=z;rw [qf6] at z;exact Nat.not_succ_le_self _ z
 have W1:=W A.in1 (by simp [Y])
 have hvl:vs.length<=qb2:=by
  have e:vs.length=ss.length:=by rw [<- k2.length_eq];exact k1.len
  rw [e];exact qt2 hsz
 refine qa2 ⟨qu9 PySem.F.plain_extend_loop _,codeAny_extend_loopS W1 hvl _ Z _ vs.length 0 _ _ _ rfl (qj2 _) (W1.frame 0 ({s with drawn:=d,heap:=h'}:qa4) _ s.toks st (nL _) fun b hb ob e=>oth b ob (fun h=>Z (h▸hb)) e) gL3 (ItemsOf.nil _) fun s2 acc c2 mv gS2 O=>?_⟩;show wpAny _ A (load s.heap.objs.size >>= _) _ _ s2;refine wB (wpAny_load gS2 ?_)
 have hav:acc.toList=vs:=by
  apply qt9
  . simpa using O.1
  . intro i h1 h2;have:=O.2 i acc.toList[i] (by simp);rw [this];simp [h2]
 rw [<- hav] at k1;obtain ⟨h2',g2',d2',tk2',o2'⟩:=s2;have eg:g2'=s.gens:=mv.gens;have ed:d2'=d:=mv.drawn;have eo:o2'=s.os:=mv.os;subst eg ed eo;refine qa2 (q acc.toList ks d2' h2' tk2' k1 k2 (qh5 (qa7 gS2)) fun b ob e=>?_);have nb:b≠s.heap.objs.size:=qb8 (qa7 e);refine mv.heap b ob (fun hm=>?_) (oth b ob nb (keep b ob (gP _ e)));rcases qa6.mp hm with z | z
 . exact nb z
 . rw [qb0.mp z] at e;have z2:(s.heap.push {cls:=.type "list",data:=.seq ([]:List Value).toArray}).objs.size<=I:=hI;rw [qf6] at z2;exact absurd (qa7 e) (qy2.mpr (Nat.le_of_succ_le z2))
end
section
variable {P:qc2} {u:World} {K:Type} [DecidableEq K] {κ:SK P u K} {A:qd8} {E:Value->qa4->Prop} {s:qa4} {a:Addr}
noncomputable def jg (κ:SK P u K) (O:List K->List K):Prop:=∀ {A:qd8} {E:Value->qa4->Prop} {s:qa4} {a:Addr} {vs:List Value} {ks:List K} {n:Nat} {Q:Fin->qa4->Prop},s.heap.get? a=some (seqObj "list" vs.toArray n)->AreK κ vs ks->vs.length<64→ (∀ q:Array Value,AreK κ q.toList (O ks)->Q (.done (.ret .none)) {s with heap:=sortedHeap s.heap a vs q})->wpAny (model P u) A (qj0.«list.sort» ⟨[.ref a],[]⟩) Q E s
theorem jQ {ss:List K} {O:List K->List K} (hs:jg κ O) (pm:∀ {ks},ks.Perm ss->O ks=O ss) (calm:A.handled=none) (hS:TxS κ s.heap a ss (dB u)) (few:ss.length<64)
 (q:∀ (l:Addr) (Z:Array Value) (d:Drawn) (h':Heap) (tk:Nat),AreK κ Z.toList (O ss)->(∃ e,h'.get? l=some (seqObj "list" Z e))->s.heap.objs.size<=l->(∀ b ob,s.heap.get? b=some ob->h'.get? b=some ob)->Q (.ref l) {s with drawn:=d,heap:=h',toks:=tk}):wpAny (model P u) A (call (.builtin "sorted") [.ref a]) Q E s:=by
 refine Calls.call_function_entry kind_sorted plain_sorted entry_sorted (args_sorted1 _) ?_;unfold qj0.«sorted»;refine wB (m:=checkCount "sorted" 1 1 _) (qa2 ?_);refine qg9 (i8 (by simp [calm]) hS fun vs ks d h' tk k1 k2 le keep=>?_);have Y:vs.length<64:=by rw [k1.len,k2.length_eq];exact few
 refine wB (wpAny_newList ?_ (qc4 (qh5 Y) (by decide)));have gL:(h'.push (seqObj "list" vs.toArray 0)).get? h'.objs.size=some (seqObj "list" vs.toArray 0):=qa8 _ rfl;show wpAny _ _ _ _ _ {s with drawn:=d,toks:=tk,heap:=h'.push (seqObj "list" vs.toArray 0)};refine wB (qi6 (qf1 slot_list_sort ⟨_,gL,rfl⟩ entry_list_sort (hs gL k1 Y fun Z a1=>⟨_,rfl,?_⟩) (args_list_sort _)));refine qa2 ⟨_,rfl,?_⟩;refine q _ _ d _ tk (pm k2▸a1) (sortedHeap_at gL) le fun b ob e=>?_
 have lt:b<h'.objs.size:=qa7 (keep b ob e);rw [sortedHeap_old (qb8 lt) (by rw [size_push'];exact qh7 lt)];exact gP _ (keep b ob e)
end
section
variable {P:qc2} {u:World}
theorem uw {vs:List Value} {ks:List Str} (h:AreK (rJ P u) vs ks):StrsAre vs ks:=by
 induction h with
 | nil=>exact .nil
 | cons k t _ q=>exact .cons k t q
theorem ux {vs:List Value} {ks:List Str} (h:StrsAre vs ks):AreK (rJ P u) vs ks:=by
 induction h with
 | nil=>exact .nil
 | cons k t _ q=>exact AreK.cons (κ:=rJ P u) k t q
theorem uy:jg (rJ P u) dn:=fun {A E s a vs ks n Q} g k O q=>by
 have Z:=uw k;refine list_sort_treeK strKind_oneLt g Z.keysOf (fun v1 v2 r e=>keyKind_strs (by rw [<- e];exact Z)) O fun st a1 a2=>?_
 obtain ⟨Y,e1,e2,e3⟩:=sorted_out_str Z a1 a2;have e:Y=dn ks:=gn (e2.trans (cU ks).symm) (kW Y e3) (f9 ks);exact q _ (ux (e▸e1))
theorem uz {ss ks:List Str} (p:ks.Perm ss):dn ks=dn ss:=gn ((cU ks).trans (p.trans (cU ss).symm)) (f9 ks) (f9 ss)
end
section
variable {K:Type} [DecidableEq K]
def d9 (ss:List K):List K:=ss.foldl gv []
theorem k6 [Inhabited K] (ss:List K):met (fun i=>ss.getD i default) ss.length=d9 ss:=by
 unfold met d9;congr 1;apply qt9
 . simp
 . intro i h1 h2;simp at h1;simp [h1]
theorem k7 [Inhabited K] (ss:List K):(d9 ss).length<=ss.length:=by rw [<- k6];exact lW _ _
end
theorem Inv.dr (I:Inv X pins σ H s) (d:Drawn):Inv X pins σ H {s with drawn:=d}:=⟨I.ok,I.os,I.bare,I.base,I.loc,I.cell,I.free,I.freeC,I.pin,I.hok,I.len⟩
section
variable {X:Cx} {K:Type} [DecidableEq K] [Inhabited K] {κ:SK X.prog X.w K} {kv:K->V}
theorem uA:∀ {vs:List Value} {ss:List K},AreK κ vs ss->∀ (i:Nat) (v:Value),vs[i]?=some v->∃ t,v=κ.put (ss.getD i default) t
 | _,_,.nil,i,v,h=>by simp at h
 | _,_,.cons y t r,0,v,h=>by simp at h;exact ⟨t,by rw [<- h];rfl⟩
 | _,_,.cons y t r,i+1,v,h=>uA r i v (by simpa using h)
abbrev uB (κ:SK X.prog X.w K) (l:Addr) (ss:List K):HO:=.ext fun h=>TxS κ h l ss (dB X.w)
def rL (κ:SK X.prog X.w K) (kv:K->V):Prop:=∀ k v,RelV (kv k) v↔∃ t,v=κ.put k t
theorem np (q:rL κ kv):∀ {ss:List K} {its:List Value},Vals (ss.map kv) its->AreK κ its ss
 | [],_,h=>by cases h;exact .nil
 | x::ss,_,h=>by
  cases h with
  | cons h1 h2 =>obtain ⟨t,rfl⟩:=(q x _).mp h1;exact .cons x t (np q h2)
theorem nq (q:rL κ kv):∀ {its:List Value} {ss:List K},AreK κ its ss->Vals (ss.map kv) its
 | _,_,.nil=>.nil
 | _,_,.cons x t h=>.cons ((q x _).mpr ⟨t,rfl⟩) (nq q h)
theorem rM (hk:rL κ kv) (Y:X.calm=true):CallR X (.type "set") (fun xs H Q=>∃ p ss,xs=[.ref p]/\SqL X.K H p (ss.map kv)/\ss.length<4000/\∀ l,H l=none->Q (.ref l) (upd H l (uB κ l (d9 ss)))):=by
 intro pins s σ H xs us Q I r h;obtain ⟨p,ss,rfl,hq,hz,q⟩:=h;obtain ⟨u,rfl,rx⟩:=eD r;cases rx;obtain ⟨its,r',pl,hz'⟩:=I.list hq;have hS:=np hk r';have O:its.length=ss.length:=by have:=r'.length;simpa using this.symm
 have hi:∀ (i:Nat) (v:Value),its.toArray[i]?=some v->∃ t,v=κ.put (ss.getD i default) t:=fun i v hv=>uA hS i v (by simpa using hv)
 have hb:its.toArray.size+1<qn0:=by
  have:its.toArray.size=ss.length:=by simpa using O
  rw [this];unfold qn0;lia
 refine uv (I.ok.hd Y) pl.isList hi hb fun hp tk Z kept=>?_
 have e:met (fun i=>ss.getD i default) its.toArray.size=d9 ss:=by rw [show its.toArray.size=ss.length by simpa using O];exact k6 ss
 rw [e] at Z;refine ⟨.ref s.heap.objs.size,_,I.laid (t':=tk) (fun b o g=>kept b o (qa7 g) g) (nL _) (show ObjOk X.prog X.w _ _ _ (uB κ s.heap.objs.size (d9 ss)) from ⟨Z,?_,fun h1 h2 x g=>x.moved g⟩),rfl,q _ (I.hok.fresh (nL _))⟩;obtain ⟨_,o,g,_⟩:=Z.small;exact ⟨o,g⟩
theorem l3 {O:List K->List K} (hk:rL κ kv) (hs:jg κ O) (pm:∀ {ss ks},ks.Perm ss->O ks=O ss) (pl:∀ ss,(O ss).length=ss.length) (Y:X.calm=true):CallR X (.builtin "sorted") (fun xs H Q=>∃ p ss,xs=[.ref p]/\H p=some (uB κ p ss)/\ss.length<64/\∀ l,H l=none->Q (.ref l) (upd H l (.lst ((O ss).map kv)))):=by
 intro pins s σ H xs us Q I r h;obtain ⟨p,ss,rfl,hq,hz,q⟩:=h;obtain ⟨u,rfl,rx⟩:=eD r;cases rx;have hT:TxS κ s.heap p ss (dB X.w):=(show ObjOk X.prog X.w H s.heap p (uB κ p ss) from I.hok p _ hq).1;refine jQ hs pm (I.ok.hd Y) hT hz fun l Z d h' tk a1 hc le kept=>?_
 obtain ⟨c,hc⟩:=hc;refine ⟨.ref l,_,(I.laid (t':=tk) kept le (show ObjOk X.prog X.w _ _ _ (.lst ((O ss).map kv)) from ⟨?_,Z.toList,c,nq hk a1,hc⟩)).dr d,rfl,q _ (I.hok.fresh le)⟩;rw [qa1,pl];exact qc4 (qh5 hz) (by decide)
end
theorem kvS {X:Cx}:rL (X:=X) (rJ X.prog X.w) V.str:=fun _ _=>Iff.rfl
noncomputable def wO {K:Type} [DecidableEq K] (rd:List Dt->Option (List K)) (q:List K->List K) (wr:K->Dt):List Dt->Option T
 | [.lst ds]=>(rd ds).bind fun ss=>if ss.length<4000/\(d9 ss).length<64 then some (.lst ((q (d9 ss)).map wr)) else none
 | _=>none
def ii:List Dt->Option T:=wO fA dn .str
section
variable {X:Cx} {e:Expr} {pos pos2 p p2:Pos} {sc:Scope} {fs:De->Option (List Dt)}
theorem Av {K:Type} [DecidableEq K] [Inhabited K] {rd:List Dt->Option (List K)} {q:List K->List K} {wr:K->Dt} (κ:SK X.prog X.w K) {kv:K->V} (hk:rL κ kv) (hs:jg κ q) (pm:∀ {ss ks},ks.Perm ss->q ks=q ss) (pl:∀ ss,(q ss).length=ss.length)
  (hr:∀ {F:Hp} {l:List Dt} {vs:List V} {bs:List K},Reps X.K F l vs->rd l=some bs->vs=bs.map kv) (hw:∀ {F:Hp} (ns:List K),Reps X.K F (ns.map wr) (ns.map kv))
  (h1:aC sc "sorted"=true) (h2:aC sc "set"=true) (hc:X.calm=true) (m1:X.mg "sorted"=none) (m2:X.mg "set"=none) (ha:DAB X [e] fs) (e1:cD X sc)
  (s1:qa9 [.Call (.Name "set" p2) [e] [] pos2] X.env=(false,eval (.Call (.Name "set" p2) [e] [] pos2) X.env)::qa9 [] X.env) (n1:(qk0 pos (qa9 [] X.env)).any (·.1)=false)
  (s2:qa9 [e] X.env=(false,eval e X.env)::qa9 [] X.env) (n2:(qk0 pos2 (qa9 [] X.env)).any (·.1)=false):DO X (.Call (.Name "sorted" p) [.Call (.Name "set" p2) [e] [] pos2] [] pos) (ao (wO rd q wr) fs):=
 PE.mono (iE h1 (l3 hk hs pm pl hc) m1 (by rfl) (dq (jA h2 (rM hk hc) m2 (by rfl) ha.pa e1 s2 n2) fO s1) e1 s1 n1) fun σ H Q ⟨Φ,δ,F,t,hK,en,hf,k⟩=>by
  unfold ao at hf;obtain ⟨ds,hd,O⟩:=bS hf;refine ⟨Φ,δ,F,ds,hK,en,hd,fun vs H1 F1 st r=>?_⟩;unfold wO at O;split at O<;>first | (cases O;done) | skip
  obtain ⟨ss,hs,O⟩:=bS O;split at O<;>cases O
  rename_i hz;obtain ⟨v,rfl,rv⟩:=c7 r;obtain ⟨b,ws,rfl,g1,g2⟩:=rv;have:=hr g2 hs;subst this;refine ⟨b,ss,rfl,g1,hz.1,fun l hl=>?_⟩;have Y:Step F1 H1 F1 (upd H1 l (uB κ l (d9 ss))):=Step.made st.fh hl;refine ⟨l,d9 ss,rfl,aV,hz.2,fun l2 Z=>?_⟩;exact dP (k.step (st.trans Y)) Y.fh (hw _) Z
theorem oX (h1:aC sc "sorted"=true) (h2:aC sc "set"=true) (Y:X.calm=true) (q:X.mg "sorted"=none) (Z:X.mg "set"=none) (ha:DAB X [e] fs) (e1:cD X sc:=by rfl)
  (s1:qa9 [.Call (.Name "set" p2) [e] [] pos2] X.env=(false,eval (.Call (.Name "set" p2) [e] [] pos2) X.env)::qa9 [] X.env:=by rfl) (n1:(qk0 pos (qa9 [] X.env)).any (·.1)=false:=by rfl)
  (O:qa9 [e] X.env=(false,eval e X.env)::qa9 [] X.env:=by rfl) (n2:(qk0 pos2 (qa9 [] X.env)).any (·.1)=false:=by rfl):DO X (.Call (.Name "sorted" p) [.Call (.Name "set" p2) [e] [] pos2] [] pos) (ao ii fs):=
 Av (rJ X.prog X.w) kvS uy uz (fun ss=>(cU ss).length_eq) (fun g h=>gl g h) (fun ss=>iG ss) h1 h2 Y q Z ha e1 s1 n1 O n2
end
section
variable {P:qc2} {u:World} {A:qd8} {E:Value->qa4->Prop} {s:qa4} {Ty:String} {r d:Addr} {n:Nat} {Pr:Nat->Value->Prop} {OK:Heap->Prop}
end
section
variable {X:Cx}
variable {e o:Expr} {es:List Expr} {fo:De->Option Dt} {fs:De->Option (List Dt)} {apos cpos pos:Pos}
noncomputable def y71 (i:Nat) (f:De->Option T):De->Option Out:=fun δ=>match δ[i]? with
 | some (some (.lst l))=>(f δ).bind fun t=>match t with
  | .lst m=>if l.length+m.length<=qb2 then some (.nx (δ.set i (some (.lst (l++m))))) else none
  | _=>none
 | _=>none
theorem rN {fe:De->Option T} (hx:PE X o (gY i)) (he:DO X e fe)
 (Y:qp3 o "extend" X.env (eval o X.env)=eval o X.env:=by rfl)
 (hfew:((qk0 cpos (qa9 [e] X.env)).all (fun x=>!x.1)&&(zh0 cpos (qz3 [] X.env)).all (fun x=>x.1.isSome)
 && decide ([e].length+([]:List qx1).length+(if ([]:List qx1).isEmpty then 0 else 1)<30))=true:=by rfl)
 (Z:(apos.endLine==cpos.line)=true:=by rfl) (hs:qa9 [e] X.env=(false,eval e X.env)::qa9 [] X.env:=by rfl) (O:(qk0 cpos (qa9 [] X.env)).any (·.1)=false:=by rfl)
 (hsw:qo4 (.Call (.Attribute o "extend" apos) [e] [] cpos) none pos.line X.env=pure false:=by rfl) :
  DS1 X (.Expr (.Call (.Attribute o "extend" apos) [e] [] cpos) pos) (y71 i fe):=
 PS.mono (pB (sJ PySem.F.plainAttrs_list PySem.F.slot_list_extend PySem.F.type_list_extend qT hx (dq he fO hs) Y hfew Z hs O) hsw) fun D σ H ⟨Φ,δ,F,ot,hK,en,q,k⟩=>by
  unfold y71 at q;split at q<;>first | cases q;done | skip
  rename_i l hl;obtain ⟨t,hd,q⟩:=bS q;split at q<;>first | cases q;done | skip
  rename_i m;split at q<;>first | cases q;done | skip
  rename_i hz;cases q;obtain ⟨a,vs,hv,h1,h2⟩:=en.ownL hl;refine ⟨.ref a,hv,.inl ⟨rfl,vs,.inl (.inl h1)⟩,Φ,δ,F,.lst m,hK,en,hd,fun v H1 F1 S st ov hS=>?_⟩;have en1:=en.step st;have h1':=st.hh _ _ h1;obtain ⟨b,ws,rfl,sb,g1,g2⟩:=ov;refine ⟨a,b,vs,ws,rfl,rfl,h1',g1,by rw [h2.length,g2.length];exact hz,?_⟩;refine k σ F1 _ (en1.poke hl hv rfl fun S sa=>⟨a,vs++ws,rfl,sa,aV,(h2.same st.ff).append (hK▸g2)⟩)
end
noncomputable def ym (outer:Scope) (NX N ps fr:List Str) (js:List Nat) (sc:Scope):Bool:=
 (match sc.kind with | .function=>true | _=>false)&&!sc.isCoroutine&&!sc.isGenerator&&decide N.Nodup&&decide (N.take ps.length=ps)&&decide (N.drop (N.length-fr.length)=fr)&&decide (ps.length+fr.length<=N.length)&&
 ps.all (fun x=>decide (sc.names.lookup x=some .local)||decide (sc.names.lookup x=some .cell))&&
 fr.all (fun x=>decide (sc.names.lookup x=some .free))&&
 sc.names.all (fun y=>!decide (y.2=.free)||decide (y.1∈fr))&&
 sc.names.all (fun y=>decide (sc.names.lookup y.1=some y.2))&&
 decide (ps.length=1)&&
 sc.names.all (fun y=>!decide (y.2=.free)||decide (outer.names.lookup y.1=some .cell))&&
 decide (js.length=fr.length)&&
 (fr.zip js).all (fun p=>decide (NX[p.2]?=some p.1)&&decide (outer.names.lookup p.1=some .cell))
structure NsC (outer:Scope) (NX N ps fr:List Str) (js:List Nat) (sc:Scope):Prop where
 S:ClScope N ps fr sc
 nd:N.Nodup
 ndn:∀ x,∀ y∈sc.names,y.1=x->sc.names.lookup x=some y.2
 one:ps.length=1
 fre:∀ x∈sc.names,x.2=.free->outer.names.lookup x.1=some .cell
 jl:js.length=fr.length
 nm:∀ (i j:Nat) (x:Str),fr[i]?=some x->js[i]?=some j->NX[j]?=some x/\outer.names.lookup x=some .cell
 all:∀ x∈sc.names,x.2=.free->x.1∈fr
theorem NsC.of {outer:Scope} {NX fr:List Str} (h:ym outer NX N ps fr js sc=true):NsC outer NX N ps fr js sc:=by
 unfold ym at h;simp only [qb1,qk7,qi1,qi5,decide_eq_true_eq,decide_eq_false_iff_not] at h;obtain ⟨⟨⟨⟨⟨⟨⟨⟨⟨⟨⟨⟨⟨⟨h1,h2⟩,h3⟩,h4⟩,h5⟩,h6⟩,h7⟩,h8⟩,h9⟩,h10⟩,h11⟩,Z⟩,O⟩,h14⟩,h15⟩:=h;have q:∀ x∈sc.names,x.2=.free->x.1∈fr:=fun x Y e=>(h10 x Y).resolve_left fun z=>z e
 have hk:sc.kind=.function:=by revert h1;cases sc.kind<;>simp
 refine ⟨⟨hk,h2,h3,h4,h5,h6,h7,h8,h9,fun x e=>q _ (PySem.mem_of_lookup e) rfl⟩,h4,fun x y hy e=>by rw [<- e];exact h11 y hy,Z,fun x Y e=>(O x Y).resolve_left fun z=>z e,h14,fun i j x e1 e2=>?_,q⟩;have hm:(x,j)∈fr.zip js:=qc7 (i:=i) (by rw [qq4];exact ⟨e1,e2⟩);exact h15 (x,j) hm
variable {qs:List ((Nat×Nat)×Str)}
section
variable {X:Cx} {name qual:Str} {params:qi3} {body:List Stmt} {scope outer:Scope} {NX N ps fr:List Str} {js:List Nat} {g:De->Option Out} {kk i:Nat} {pos:Pos}
theorem NestD.of (C:NsC outer NX N ps fr js scope) (Z:∀ (s:qa4) (cl:List (Str×Addr)) (doc pm ctv q:Value) (us:List Value),us.length=ps.length->qz0 s (xG9 name qual params body scope cl .none .none doc pm none q ctv) ⟨us,[]⟩ (ps.zip us))
  (Y:∀ (f c':Addr) (cl:List (Str×Addr)) (A:qd8) (outer:List Env) (s:qa4) (H:Hp),Room kk (A.deeper (g8 qual scope s.heap.objs.size f (.ref c') cl))->DS (mI CX0 X.prog X.w X.K X.mg X.base N qual scope f (.ref c') cl A outer s H E0 fun _ _=>False) body g)
  (e1:cD X outer:=by rfl) (O:X.N=NX:=by rfl):NestD X name qual params body scope N ps fr js g kk:=by
 have e1:X.env.scope=outer:=e1;subst e1 O;exact ⟨C.S,C.ndn,C.one,C.fre,C.jl,C.nm,Z,Y⟩
def hasQ (qs:List ((Nat×Nat)×Str)) (pos:Pos) (qual:Str):Bool:=decide (((pos.line,pos.col),qual)∈qs)&&qs.all fun p=>!decide (p.1=(pos.line,pos.col))||decide (p.2=qual)
theorem qi {c P:Addr} (h:dv outer NX i name=true) (hl:i0 outer name=true) (nd:NX.Nodup) (C:NsC outer NX N ps fr js scope) (B:TabB X.mg X.base c P) (hT:(P,qs)∈dE X.K) (Y:hasQ qs pos qual=true)
 (O:X.env.code=.ref c:=by rfl) (Z:qualnameIn X.env name name=qual:=by rfl) (hd0:params.defaults=[]:=by rfl) (hk0:params.kw_defaults=[]:=by rfl) (ha:annTrees params none X.env=[]:=by rfl)
 (e1:cD X outer:=by rfl) (e2:X.N=NX:=by rfl) (hfn:X.fn name=true:=by rfl):PS X (.FunctionDef name params body [] none [] scope none name pos) (qb i name qual params body scope (fu scope.names X.env.cells)):=fun pins s σ H D I hh=>by
 have e1:X.env.scope=outer:=e1;subst e1 e2;unfold hasQ at Y;simp only [qb1,qk7,qi1,qi5,decide_eq_true_eq,decide_eq_false_iff_not] at Y;exact wI nd (gG h) (jx hl) (.inl hfn) B O hT Z Y.1 (fun q hm=>(Y.2 _ hm).resolve_left fun z=>z rfl) (gE fun x hx e=>I.ok.has x.1 (.inl (C.fre x hx e))) hd0 hk0 ha pins s σ H D I hh
theorem Aw {i1 i2:Nat} (h:decide (i1<NX.length/\i2<NX.length)=true) (q:X.N=NX:=by rfl):∀ σ:St,σ.length=X.N.length->i1<σ.length/\i2<σ.length:=fun σ e=>by rw [e,q];exact of_decide_eq_true h
end
structure DefC (K:xA9) (mg:Str->Option Value) (x:Str) (st:Stmt) (ps:List Str) (c:Addr):Prop where
 ex:∃ (f:Addr) (oc:Value) (od:Option Addr) (kV doc pm:Value) (an:Option Addr) (ct:Value) (osl:Array (Option Value)),mg x=some (.ref f)/\xF9 K (.ref f)=true/\Binds K (xC9 x x (cg st) (be st) (aa st) .none kV doc pm an (.ref c) ct) ps []∧K.lookup f=some ⟨oc,od,.func (xC9 x x (cg st) (be st) (aa st) .none kV doc pm an (.ref c) ct),osl⟩/\xH9 K (.ref c) x=true
section
variable {P:qc2} {w:World} {K:xA9} {mg:Str->Option Value} {base:Heap} {x:Str} {st:Stmt} {N ps:List Str} {c:Addr}
theorem DefC.mk' {oc:Value} {od an:Option Addr} {osl:Array (Option Value)} {kV doc pm ct:Value} (X:K.In h) (G:h.Ns qb9 mg)
 (a:xB9 K qb9 x=some (some (.ref f)))
 (l:K.lookup f=some ⟨oc,od,.func (xC9 x x (cg st) (be st) (aa st) .none kV doc pm an (.ref c) ct),osl⟩) (q:xH9 K (.ref c) x=true) (k:xF9 K (.ref f)=true)
 (O:∀ (kV doc pm:Value) (an:Option Addr) (cdv ct:Value) (us:List Value),us.length=ps.length->zf6 (xC9 x x (cg st) (be st) (aa st) .none kV doc pm an cdv ct) ⟨us,[]⟩=pure (ps.zip us)):DefC K mg x st ps c:=
 ⟨f,oc,od,kV,doc,pm,an,ct,osl,xK9 X G a,k,(lK l q k).binds O,l,q⟩
theorem Ax {k:Nat} (D:DefC K mg x st ps c) (S:FnScope N ps (aa st)) (hn:ps.length=n)
 (O:∀ (f:Addr) (A:qd8) (outer:List Env) (s:qa4) (H:Hp) (E:XK),Room k (A.deeper (qx8 x (aa st) s.heap.objs.size f (.ref c)))->DS (jq CX0 P w K mg base N x (aa st) f (.ref c) A outer s H E).nox (be st) g) :
  OkF P w K mg base x (k+1) ps (spD K n (ci N.length g)):=by
 obtain ⟨f,oc,od,kV,doc,pm,an,ct,osl,h1,h2,h3,lk,Z⟩:=D.ex;refine ⟨f,_,h1,h2,h3,xR lk Z S (fun vs H Q E h=>?_) fun A outer s H vs Q E hr h=>?_⟩
 . obtain ⟨F,ds,t,_,hl,r,_⟩:=h;rw [r.length,hl,hn]
 . obtain ⟨F,ds,t,fh,hl,r,Y,kq⟩:=h;refine ⟨_,PSs.nox (O f A outer s H E hr),?_⟩;unfold ci at Y;split at Y
   . rename_i t' q;cases Y;exact ⟨⟨K,F,H,fun _=>False⟩,_,F,_,rfl,e7 fh r,q,fun v F' H' z=>z.step kq⟩
   . rename_i δ' q;cases Y;exact ⟨⟨K,F,H,fun _=>False⟩,_,F,_,rfl,e7 fh r,q,fun σ' F' H' z=>(z.rt (Step.refl z.fh) (t:=.leaf .non) (S:=fun _=>False) (hX (K:=K) (F:=F')) fun _ y=>y.elim).step kq⟩
   . cases Y
theorem wP {P:Addr} (q:decide (x∈nestNames)=true) (h:nW K x=some (P,qs)):(P,qs)∈dE K:=qw4.mpr ⟨x,of_decide_eq_true q,h⟩
end
variable {R:Result->qa4->Prop}
section
variable {P:qc2} {u:World} {B:qd8} {Ex:Value->qa4->Prop} {s:qa4} {it l:Addr} {xs:Array Value}
theorem l4:zd7 (.type "list_reverseiterator") "__len__"=pure none:=by rw [qs0,ql5];kernel_rfl
theorem kh:zd7 (.type "list_reverseiterator") "__length_hint__"=pure (some (.builtin "list_reverseiterator.__length_hint__")):=by rw [qs0,ql5];kernel_rfl
theorem uC {W:Bool->qa4->Prop} (O:s.TypeIs (.ref it) "list_reverseiterator") (q:W false s):wpAny (model P u) B (qk2 (.ref it)) W Ex s:=by
 unfold qk2;refine wB (qv5 O l4 ?_)
 wp_delta
 refine qk3 (fun z=>absurd z (by decide)) fun _=>?_
 refine qk3 (fun z=>absurd z (by decide)) fun _=>?_
 refine wB (qv5 O kh ?_);generalize hi:("list_reverseiterator.__length_hint__":String)=j
 wp_delta
 rw [show splitId j=some ("list_reverseiterator","__length_hint__") from by subst hi;decide +kernel];subst hi;refine wB (qq6 (T:="list_reverseiterator") (b:=true) O (by rw [ze3];kernel_rfl) ?_);refine qk3 (fun z=>absurd z (by decide)) fun _=>?_
 refine qk3 (fun _=>?_) fun z=>absurd (by decide +kernel) z
 refine qk3 (fun z=>absurd z (by decide +kernel)) fun _=>?_
 exact qa2 q
abbrev qj (xs:Array Value):Nat->Value->Prop:=fun i v=>xs[xs.size-1-i]?=some v
theorem oY (O:B.handled=none) (hi:s.heap.IsRevIter it l ((xs.size:Int)-1)) (hl:s.heap.IsList l xs) (Z:l≠it) (t:Addr) (n1:t≠it) (n2:t≠l) (Y:Value) (c0:Nat) (ht:s.heap.get? t=some {cls:=.type "list",data:=.seq #[] c0}) (fits:xs.size<=qb2)
 (q:∀ (h':Heap) (tk:Nat) (ys:Array Value) (c:Nat),(∀ b o,b≠t->b≠it->s.heap.get? b=some o->h'.get? b=some o)->h'.get? t=some {cls:=.type "list",dict:=none,data:=.seq ys c,slots:=#[]}->ItemsOf (qj xs) ys xs.size->R (.ok (.ret Y)) {s with heap:=h',toks:=tk}) :
  wpAny (model P u) B.in1 (qg6 (.ref t) (.ref it) Y) (fun fin s'=>match fin with | .done f=>R (.ok f) s' | .again c'=>c'.quiet=true/\qq1 (model P u) B c' R s') (fun e s'=>R (.error e) s') s:=by
 have tn:t∉[it,l]:=by
  intro z;rcases qa6.mp z with z | z
  . exact n1 z
  . exact n2 (qb0.mp z)
 have Wk:=Walks.listRev (prog:=P) (w:=u) (A:=B.in1) (by simpa using O) it l Z xs
 have go:qq1 (model P u) B (.builtin "list.extend.loop" ⟨[.ref t,.ref it,Y],[]⟩) R s:=by
  refine codeAny_extend_loopS Wk.toS fits t tn Y xs.size 0 _ #[] c0 rfl (qj2 _) ⟨qj2 _,by simpa using hi,hl⟩ ht (ItemsOf.nil _) fun s' ys c mv ht' its=>?_
  rw [Moved.eq_with mv];refine q s'.heap s'.toks ys c (fun b o b1 b2 e=>mv.heap b o (fun z=>?_) e) ht' its;rcases qa6.mp z with z | z
  . exact b1 z
  . exact b2 (qb0.mp z)
 unfold qg6;refine wB (zc4 (T:="list_reverseiterator") hi.typeIs ?_);have e1:qn1 (.ref t) (.ref it)=false:=by simp [qn1,n1]
 have e2:(qj6 "list_reverseiterator"==qj6 "list")=false:=by decide +kernel
 have e3:(qj6 "list_reverseiterator"==qj6 "tuple")=false:=by decide +kernel
 simp only [e1,e2,e3,qz2,qi0,if_false];refine wB (wpAny_pyIter_revIter hi ?_);refine wB (qi6 (uC hi.typeIs ?_));refine qk3 (fun z=>absurd z (by decide +kernel)) fun _=>?_
 exact qa2 ⟨qu9 PySem.F.plain_extend_loop _,go⟩
theorem uD (Y:B.handled=none) (hi:s.heap.IsRevIter it l ((xs.size:Int)-1)) (hl:s.heap.IsList l xs) (hne:l≠it) (t:Addr) (n1:t≠it) (n2:t≠l) (Z:s.heap.get? t=some {cls:=.type "list",data:=.seq #[]}) (fits:xs.size<=qb2)
 (q:∀ (h':Heap) (tk:Nat) (ys:Array Value) (c:Nat),(∀ b o,b≠t->b≠it->s.heap.get? b=some o->h'.get? b=some o)->h'.get? t=some {cls:=.type "list",dict:=none,data:=.seq ys c,slots:=#[]}->ItemsOf (qj xs) ys xs.size->R (.ok (.ret .none)) {s with heap:=h',toks:=tk}) :
  wpAny (model P u) B.in1 (qj0.«list.__init__» ⟨[.ref t,.ref it],[]⟩) (fun fin s'=>match fin with | .done f=>R (.ok f) s' | .again c'=>c'.quiet=true/\qq1 (model P u) B c' R s') (fun e s'=>R (.error e) s') s:=by
 show wpAny _ _ (do let was <- zb1 (.ref t);qj0.List.listUpdate (.ref t) (fun _=>#[]);letGo was.toList.reverse;qg6 (.ref t) (.ref it) .none) _ _ s;refine wB ?_;unfold zb1;refine wB (qt3 Z rfl (qa2 ?_));show wpAny _ _ (updateSeq t (fun _=>#[]) >>= fun _=>letGo (#[]:Array Value).toList.reverse >>= fun _=>qg6 (.ref t) (.ref it) .none) _ _ s;refine wB (zd4 Z rfl ?_);have ht2:=qe3 (qn9 (fun _=>(#[]:Array Value))) Z rfl;have O:∀ b o,b≠t->s.heap.get? b=some o->(s.heap.update t (qn9 (fun _=>(#[]:Array Value)))).get? b=some o:=fun b o hb e=>(qk5 _ _ (qq0 hb)).trans e
 refine wB (wpAny_letGo ?_);exact oY Y (hi.at fun o e=>O _ o n1.symm e) (hl.at fun o e=>O _ o n2.symm e) hne t n1 n2 .none _ ht2 fits fun h' tk ys c k k2 k3=>q h' tk ys c (fun b o b1 b2 e=>k b o b1 b2 (O b o b1 e)) k2 k3
theorem uE {W:Value->qa4->Prop} (Y:B.handled=none) (hi:s.heap.IsRevIter it l ((xs.size:Int)-1)) (hl:s.heap.IsList l xs) (hne:l≠it) (fits:xs.size<=qb2)
  (q:∀ (h':Heap) (tk:Nat) (ys:Array Value) (c:Nat),(∀ b o,b≠it->s.heap.get? b=some o->h'.get? b=some o)->h'.get? s.heap.objs.size=some {cls:=.type "list",dict:=none,data:=.seq ys c,slots:=#[]}->ItemsOf (qj xs) ys xs.size->W (.ref s.heap.objs.size) {s with heap:=h',toks:=tk}) :
  wpAny (model P u) B (call (.type "list") [.ref it]) W Ex s:=by
 refine callType_codes (Q₁:=fun z O=>z=.ref s.heap.objs.size/\O={s with heap:=s.heap.push {cls:=.type "list",data:=.seq #[]}}) PySem.F.called_list (PySem.F.typeCall_list_1 _) PySem.F.entry_list_init (code_list_new _ ⟨rfl,rfl⟩) fun z O Z=>?_
 obtain ⟨rfl,rfl⟩:=Z;have ht:(s.heap.push {cls:=.type "list",data:=.seq #[]}).get? s.heap.objs.size=some {cls:=.type "list",data:=.seq #[]}:=qa8 _ rfl;have l1:it<s.heap.objs.size:=let ⟨_,e,_⟩:=hi;qa7 e;have l2:l<s.heap.objs.size:=let ⟨_,e,_⟩:=hl;qa7 e;refine ⟨⟨_,ht,rfl⟩,PySem.F.args_list_init_2 _ _,uD (B:=B.in1) (by simpa using Y) (hi.at fun o e=>qk4 _ e) (hl.at fun o e=>qk4 _ e) hne _ (ql0 l1) (ql0 l2) ht fits fun h' tk ys c k k2 k3=>?_⟩;exact ⟨rfl,q h' tk ys c (fun b o b1 e=>k b o (qb8 (qa7 e)) b1 (gP _ e)) k2 k3⟩
theorem uF {its ys:List Value} (r:Vals vs its) (q:ys.length=its.length) (h:∀ (i:Nat) (v:Value),ys[i]?=some v->its[its.length-1-i]?=some v):ys=its.reverse:=by
 apply qy9;intro i;by_cases hi:i<ys.length
 . have e:=h i ys[i] (gQ hi);rw [List.getElem?_reverse (by lia),e,gQ hi]
 . rw [zd5 (by lia),zd5 (by simp;lia)]
end
def tLR (X:Cx) (ta:TA):TE:=fun σ H Q=>ta σ H fun xs H1=>∃ p vs,xs=[.ref p]/\SqL X.K H1 p vs/\∀ l,H1 l=none->Q (.ref l) (upd H1 l (.lst vs.reverse))
section
variable {X:Cx} {e:Expr} {ta:TA} {p1 p2 pos1 pos2:Pos} {sc:Scope}
theorem nr:qd7 "reversed"=some (.type "reversed"):=by decide +kernel
theorem ij:∀ {vs:List V} {us:List Value},Vals vs us->Vals vs.reverse us.reverse
 | _,_,.nil=>.nil
 | _,_,.cons h r=>by rw [qp8,qp8];exact (ij r).append (.cons h .nil)
theorem oZ (h1:aC sc "list"=true) (h2:aC sc "reversed"=true) (hm1:X.mg "list"=none) (hm2:X.mg "reversed"=none) (hc:X.calm=true) (ha:PA X [e] ta) (e1:cD X sc:=by rfl) (hs:qa9 [e] X.env=[(false,eval e X.env)]:=by rfl)
  (hs2:qa9 [.Call (.Name "reversed" p2) [e] [] pos2] X.env=[(false,eval (.Call (.Name "reversed" p2) [e] [] pos2) X.env)]:=by rfl) :
  PE X (.Call (.Name "list" p1) [.Call (.Name "reversed" p2) [e] [] pos2] [] pos1) (tLR X ta):=by
 intro pins s σ H Q I h'
 have Z:wpAny (model X.prog X.w) X.A (eval (.Call (.Name "reversed" p2) [e] [] pos2) X.env) (fun u s2=>∃ it p vs H1,u=.ref it/\Inv X pins σ H1 s2/\gu X pins H1 it/\p≠it/\SqL X.K H1 p vs/\s2.heap.IsRevIter it p ((vs.length:Int)-1)/\(∀ l,H1 l=none->Q (.ref l) (upd H1 l (.lst vs.reverse)))) X.xe s:=by
  refine Call_ (fq I (glD h2 e1) hm2 nr (qf4 (thn (ha pos2 pins s σ H _ I h') fun us s1 ⟨vs,H1,I1,r1,q1⟩=>?_) hs rfl));obtain ⟨p,vs,rfl,hq,q⟩:=q1;obtain ⟨u,rfl,ru⟩:=eD r1;cases ru;obtain ⟨its,r',pl,Y⟩:=I1.list hq;have O:its.toArray.size=vs.length:=by have:=r'.length;simpa using this.symm
  refine call_reversed_list pl.isList ?_;have I2:=I1.kept (t':=s1.toks) (h':=s1.heap.push (revObj p ((its.toArray.size:Int)-1))) fun b o g=>gP _ g
  have fp:=I1.fpOk (b:=s1.heap.objs.size) (nL _) (I1.hok.fresh (nL _));refine ⟨s1.heap.objs.size,p,vs,H1,rfl,I2,fp,?_,hq,⟨_,qa8 _ rfl,rfl,by rw [<- O];rfl⟩,q⟩;obtain ⟨_,g,_⟩:=pl.isList;exact qb8 (qa7 g)
 have key:wpAny (model X.prog X.w) X.A (spliced (qk0 pos1 (qa9 [.Call (.Name "reversed" p2) [e] [] pos2] X.env))) (fun vs s₁=>wpAny (model X.prog X.w) X.A (call (.type "list") vs) (EP X pins σ Q) X.xe s₁) X.xe s:=?key
 . exact Call_ (fq I (glD h1 e1) hm1 ja (qf4 key hs2 rfl))
 rw [hs2];show wpAny _ _ (spliced ((false,eval (.Call (.Name "reversed" p2) [e] [] pos2) X.env)::[])) _ _ s;refine Calls.spliced_cons (thn Z fun u s2 w=>Calls.spliced_nil ?_);obtain ⟨it,p,vs,H1,rfl,I2,fp,hne,hq,hR,q⟩:=w;obtain ⟨its,r',pl,Y⟩:=I2.list hq;have O:its.toArray.size=vs.length:=by have:=r'.length;simpa using this.symm
 have fits:its.toArray.size<=qb2:=by first | exact Y | (rw [O];exact Y) | simpa using Y
 refine uE (I2.ok.hd hc) (by rw [O];exact hR) pl.isList hne fits fun h3 tk ys c k k2 k3=>?_
 have ey:ys.toList=its.reverse:=uF r' (by have:=k3.1;simpa using this) fun i v hv=>by have:=k3.2 i v (by simpa using hv);simpa [qj] using this
 refine ⟨.ref s2.heap.objs.size,_,I2.turnedT (fp:=[it]) (t:=s2.heap.objs.size) (u:=.lst vs.reverse) (t':=tk) (fun b o hb g=>k b o (fun z=>hb (by simp [z])) g) (fun b hb=>?_) (qn3 _) ⟨?_,its.reverse,c,ij r',?_⟩,rfl,q _ (I2.hok.fresh (qn3 _))⟩
 . cases qb0.mp hb;exact fp
 . rw [List.length_reverse,<- O];exact fits
 . rw [k2,<- ey]
end
def l5 (ks:List Key):Dt:=.tup (ks.map p9)
theorem iK {F:Hp}:∀ ks:List Key,Reps K F (ks.map p9) (ks.map kV)
 | []=>by simp only [qt4,Reps]
 | k::ks=>by simp only [qa5,Reps];exact ⟨_,_,rfl,wH k,iK ks⟩
theorem uG {F:Hp} {b:Addr} {ks:List Key} (h:F b=some (.tup (ks.map kV))):Rep K F (l5 ks) (.ref b):=by unfold l5;simp only [Rep];exact ⟨b,_,rfl,SqT.of h,iK ks⟩
theorem k8 {α β:Type} {R:α->β->Prop}:∀ {l:List α} {m:List β},Paired R l m->∀ {i:Nat} {a:α},l[i]?=some a->∃ b,m[i]?=some b/\R a b
 | _,_,.nil,i,a,h=>by simp at h
 | _,_,.cons r t,0,a,h=>by simp at h;subst h;exact ⟨_,rfl,r⟩
 | _,_,.cons r t,i+1,a,h=>by simpa using k8 t (by simpa using h)
theorem jR {α β:Type} {R:α->β->Prop}:∀ {l:List α} {m:List β},Paired R l m->l.length=m.length
 | _,_,.nil=>rfl
 | _,_,.cons r t=>by simp [jR t]
theorem Ay {kvs:List (List Key×V)} (x:ObjOk P w H h a (.dT kvs)):kvs.length<=qb2/\(a==qi2)=false/\∃ (bs:List Addr) (ob:Obj) (es:Array zh6) (ep:Nat),h.get? a=some ob/\ob.data=.dict es ep/\EntA h a (bs.map .ref) ep/\bs.length=kvs.length∧
  ∀ (j:Nat) (p:List Key×V),kvs[j]?=some p->∃ b,bs[j]?=some b/\H b=some (.tup (p.1.map kV)):=by
 obtain ⟨z,y,xs,r,o,es,ep,h1,h2,h3,O,h5⟩:=x;refine ⟨z,y,xs.map (·.2.1),o,es,ep,h1,h3,⟨o,es,h1,h2,h3,?_⟩,by rw [qa1,<- jR r],fun j p hp=>?_⟩
 . rw [O,qc9,qc9];rfl
 . obtain ⟨q,Y,_,Z,_⟩:=k8 r hp;exact ⟨q.2.1,by rw [qb3,Y];rfl,Z⟩
section
variable {X:Cx} {tg:Expr}
theorem yn {u:HO} (I:Inv X pins σ H s) (h:Rd H a u):ObjOk X.prog X.w H s.heap a u:=by
 rcases h with h | ⟨o,h⟩
 . exact I.hok a _ h
 . exact (I.hok a _ h).2
theorem o0 (hc:X.calm=true):CallR X (.type "list") (fun xs H Q=>∃ a kvs,xs=[.ref a]/\Rd H a (.dT kvs)/\∀ bs:List Addr,bs.length=kvs.length->(∀ (j:Nat) (b:Addr) (p:List Key×V),bs[j]?=some b->kvs[j]?=some p->H b=some (.tup (p.1.map kV)))->∀ l,H l=none->Q (.ref l) (upd H l (.lst (bs.map V.ref)))):=by
 intro pins s σ H xs us Q I r h;obtain ⟨a,kvs,rfl,hq,q⟩:=h;obtain ⟨u,rfl,rx⟩:=eD r;cases rx;obtain ⟨z,y,bs,ob,es,ep,e1,e2,en,hl,hk⟩:=Ay (yn I hq);have hz:(bs.map qe9).length<=qb2:=by rw [qa1,hl];exact z
 refine PySem.W.kdl_call (qf y) (I.ok.hd hc) en hz fun h' tk acc c kp hD O=>?_
 have Y:acc.toList=bs.map qe9:=by
  apply qy9;intro j;cases hj:acc.toList[j]? with
  | none =>have h1:=qi8.mp hj;rw [qe1,O.1] at h1;rw [qi8.mpr h1]
  | some v=>exact (O.2 j v (by rw [<- ql4];exact hj)).symm
 have rv:Vals (bs.map V.ref) acc.toList:=by
  rw [Y];clear Y hk hl en hz q O;induction bs with
  | nil=>exact .nil
  | cons b bs ih=>exact .cons rfl ih
 refine ⟨.ref s.heap.objs.size,_,I.laid (t':=tk) kp (nL _) (show ObjOk X.prog X.w _ h' _ (.lst (bs.map V.ref)) from ⟨by rw [qa1,hl];exact z,acc.toList,c,rv,by rw [Array.toArray_toList];exact hD⟩),rfl,q bs hl (fun j b p h1 h2=>?_) _ (I.hok.fresh (nL _))⟩;obtain ⟨b',Z,hH⟩:=hk j p h2;rw [h1] at Z;cases Z;exact hH
end
end L2
namespace HT
open PySem PySem.Spec PyProof.Rows
end HT
namespace L2
open PySem PySem.Spec PyProof.Rows
section
variable {X:Cx} {a:Expr} {fa:Fg} {p pos:Pos} {sc:Scope}
theorem k9 {P:qc2} {w:World}:∀ {kvs:List (Key×V)} {vs:List (Key×Value)} {es:List zh6},KV kvs vs->Pairs (bK P w) es vs->Vals (kvs.map fun p=>kV p.1) (es.map (·.key))
 | [],_,_,.nil,.nil=>.nil
 | _::_,_,_,.cons r t,.cons h _ m=>.cons (by dsimp only;rw [r.1];exact wG h) (k9 t m)
theorem o4 (hc:X.calm=true):CallR X (.type "list") (fun xs H Q=>∃ a kvs,xs=[.ref a]/\Rd H a (.dK kvs)/\∀ l,H l=none->Q (.ref l) (upd H l (.lst (kvs.map fun p=>kV p.1)))):=by
 intro pins s σ H xs us Q I r h;obtain ⟨a,kvs,rfl,hq,q⟩:=h;obtain ⟨u,rfl,rx⟩:=eD r;cases rx;obtain ⟨z,y,vs,Z,ob,es,ep,e1,e2,e3,e4,e5,e6⟩:=yn I hq;have en:EntA s.heap a (es.toList.map (·.key)) ep:=⟨ob,es,e1,e2,e3,rfl⟩;have kv:=k9 Z e5;have hz:(es.toList.map (·.key)).length<=qb2:=by rw [<- kv.length,qa1];exact z
 refine PySem.W.kdl_call (qf y) (I.ok.hd hc) en hz fun h' tk acc c kp hD O=>?_
 have Y:acc.toList=es.toList.map (·.key):=by
  apply qy9;intro j;cases hj:acc.toList[j]? with
  | none =>have h1:=qi8.mp hj;rw [qe1,O.1] at h1;rw [qi8.mpr h1]
  | some v=>exact (O.2 j v (by rw [<- ql4];exact hj)).symm
 exact ⟨.ref s.heap.objs.size,_,I.laid (t':=tk) kp (nL _) (show ObjOk X.prog X.w _ h' _ (.lst (kvs.map fun p=>kV p.1)) from ⟨by rw [qa1];exact z,acc.toList,c,by rw [Y];exact kv,by rw [Array.toArray_toList];exact hD⟩),rfl,q _ (I.hok.fresh (nL _))⟩
end
section
variable {X:Cx} {a b:Expr} {ta:TA} {p1 p2 pos1 pos2:Pos} {sc:Scope} {fs:De->Option (List Dt)}
end
section
variable {X:Cx} {pins:List (Addr×Obj)} {s:qa4} {σ:St} {H:Hp}
end
theorem TabsIn.two {K:xA9} {h:Heap} {c P c' P':Addr} {qs qs':List ((Nat×Nat)×Str)} (kb:K.In h) (e:dE K=[(P,qs),(P',qs')]) (hne:P≠P') (n:K.lookup P=none) (n':K.lookup P'=none) (hc:xJ9 K c P=true) (hc':xJ9 K c' P'=true) (t:h.get? P=some (xI9 #[])) (t':h.get? P'=some (xI9 #[])):TabsIn K h:=by
 unfold TabsIn;rw [e];refine ⟨fun p hp=>?_,fun p hp q hq z=>?_⟩
 . rcases qa6.mp hp with rfl | hp
   . exact ⟨n,⟨c,xS9 kb hc⟩,t⟩
   . cases qb0.mp hp;exact ⟨n',⟨c',xS9 kb hc'⟩,t'⟩
 . rcases qa6.mp hp with rfl | hp<;>rcases qa6.mp hq with rfl | hq
   . rfl
   . cases qb0.mp hq;exact absurd z hne
   . cases qb0.mp hp;exact absurd z.symm hne
   . cases qb0.mp hp;cases qb0.mp hq;rfl
def isK:Dt->Option (List Key)
 | .tup [.int n,.str s]=>some [.inl n,.inr s]
 | _=>none
section
variable {X:Cx} {o a b e ox ik:Expr} {fa fb fk fe:De->Option Dt} {pos apos cpos p1 p2 pos1 pos2:Pos} {sc:Scope} {i j m:Nat} {K:xA9}
noncomputable def sPutT (i:Nat) (fk fe:De->Option Dt):De->Option Out:=fun δ=>(fe δ).bind fun d=>(fk δ).bind fun k=>match δ[i]? with
 | some (some (.dcT l))=>(isK k).bind fun k=>if l.length<qb2/\(l.map (·.1)).Nodup then some (.nx (δ.set i (some (.dcT (i6 l k d))))) else none
 | _=>none
def o5:List Dt->Option T
 | [.dcT ks _]=>some (.lst (ks.map l5))
 | [.dct ks _]=>some (.lst (ks.map p9))
 | _=>none
noncomputable abbrev uH:List V->Hp->VK->Prop:=fun xs H Q=>(∃ a kvs,xs=[.ref a]/\Rd H a (.dT kvs)/\∀ bs:List Addr,bs.length=kvs.length->(∀ (j:Nat) (b:Addr) (p:List Key×V),bs[j]?=some b->kvs[j]?=some p->H b=some (.tup (p.1.map kV)))->∀ l,H l=none->Q (.ref l) (upd H l (.lst (bs.map V.ref))))∨∃ a kvs,xs=[.ref a]/\Rd H a (.dK kvs)/\∀ l,H l=none->Q (.ref l) (upd H l (.lst (kvs.map fun p=>kV p.1)))
theorem o6 (q:X.calm=true):CallR X (.type "list") uH:=fun pins s σ H xs us Q I r h=>h.elim (o0 q pins s σ H xs us Q I r) (o4 q pins s σ H xs us Q I r)
theorem qk {F:Hp}:∀ {O:List (List Key)} {bs:List Addr},bs.length=O.length->(∀ (j:Nat) (b:Addr) (k:List Key),bs[j]?=some b->O[j]?=some k->F b=some (.tup (k.map kV)))->Reps K F (O.map l5) (bs.map V.ref)
 | [],[],_,_=>by simp [Reps]
 | [],_::_,h,_=>by cases h
 | _::_,[],h,_=>by cases h
 | k::O,b::bs,h,q=>by simp only [qa5,Reps];exact ⟨_,_,rfl,uG (q 0 b k rfl rfl),qk (by simpa using h) fun j b k h1 h2=>q (j+1) b k (by simpa using h1) (by simpa using h2)⟩
theorem wQ:CRD K uH o5:=fun F H ds vs Q t fh r hg k=>by
 unfold o5 at hg;split at hg<;>cases hg
 . obtain ⟨v,rfl,a,kvs,rfl,h1,rfl,h3⟩:=c7 r;refine .inl ⟨a,kvs,rfl,h1,fun bs hl hb l hn=>?_⟩
   have hb':∀ (j:Nat) (b:Addr) (k:List Key),bs[j]?=some b->(kvs.map (·.1))[j]?=some k->H b=some (.tup (k.map kV)):=fun j b k h1 h2=>by rw [qb3] at h2;obtain ⟨p,hp,rfl⟩:=mS h2;exact hb j b p h1 hp
   have hin:∀ b∈bs,∃ vs,H b=some (.tup vs):=fun b hm=>by
    obtain ⟨j,hj⟩:=qm1 hm;have Z:j<kvs.length:=by rw [<- hl];exact (gX hj).1
    exact ⟨_,hb j b _ hj (gQ Z)⟩
   let F':Hp:=fun b=>if b∈bs then H b else F b
   have O:∀ {b:Addr},b∈bs->F' b=H b:=fun h=>if_pos h
   have q:∀ {b:Addr},b∉bs->F' b=F b:=fun h=>if_neg h
   have ff:Same F F':=fun b o e=>by
    by_cases h:b∈bs
    . rw [O h];exact fh _ _ e
    . rw [q h];exact e
   have Y:Same F' H:=fun b o e=>by
    by_cases h:b∈bs
    . rw [O h] at e;exact e
    . rw [q h] at e;exact fh _ _ e
   have st:Step F H F' H:=⟨Same.refl _,ff,Y,fun b o e=>by
    by_cases h:b∈bs
    . exact .inr (.inr (hin b h))
    . rw [q h] at e;exact .inl e⟩
   exact dP (k.step st) Y (qk (by simpa using hl) fun j b k h1 h2=>by rw [O (qc7 h1)];exact hb' j b k h1 h2) hn
 . obtain ⟨v,rfl,a,kvs,rfl,h1,rfl,h3⟩:=c7 r;refine .inr ⟨a,kvs,rfl,h1,fun l hn=>dP k fh ?_ hn⟩;rw [show (kvs.map fun p=>kV p.1)=(kvs.map (·.1)).map kV by rw [qc9];rfl];exact iK _
def vLR (fa:De->Option Dt):De->Option T:=fun δ=>(fa δ).bind fun d=>match d with
 | .lst l=>some (.lst l.reverse)
 | _=>none
theorem Reps.rev {F:Hp}:∀ {l:List Dt} {vs:List V},Reps K F l vs->Reps K F l.reverse vs.reverse
 | [],_,h=>by simp only [Reps] at h;subst h;simp [Reps]
 | d::l,_,h=>by simp only [Reps] at h;obtain ⟨v,q,rfl,h1,h2⟩:=h;rw [qp8,qp8];exact (Reps.rev h2).append (Reps.one h1)
theorem o7 (h1:aC sc "list"=true) (h2:aC sc "reversed"=true) (Z:X.mg "list"=none) (hm2:X.mg "reversed"=none) (hc:X.calm=true) (ha:DB X a fa) (e1:cD X sc:=by rfl) (he:qa9 [a] X.env=(false,eval a X.env)::qa9 [] X.env:=by rfl) (hs:qa9 [a] X.env=[(false,eval a X.env)]:=by rfl)
  (Y:qa9 [.Call (.Name "reversed" p2) [a] [] pos2] X.env=[(false,eval (.Call (.Name "reversed" p2) [a] [] pos2) X.env)]:=by rfl) :
  DO X (.Call (.Name "list" p1) [.Call (.Name "reversed" p2) [a] [] pos2] [] pos1) (vLR fa):=
 PE.mono (oZ h1 h2 Z hm2 hc (dq ha fO he) e1 hs Y) fun σ H Q ⟨Φ,δ,F,t,hK,en,O,k⟩=>by
  obtain ⟨d,hd,O⟩:=bS O;split at O<;>cases O
  refine ⟨Φ,δ,F,_,hK,en,hd,fun v H1 F1 st rv=>?_⟩;obtain ⟨a,vs,rfl,g1,g2⟩:=rv;exact ⟨a,vs,rfl,g1,fun q hq=>dP (k.step st) st.fh (g2.rev) hq⟩
def rO (j i:Nat):De->Option Out:=fun δ=>match δ[i]? with
 | some (some (.lst l))=>l.getLast?.map fun d=>.nx ((δ.set i (some (.lst l.dropLast))).set j (some (.leaf d)))
 | _=>none
theorem Az {N:List Str} {x:Str} {pos':Pos} (h:dv sc N j x=true) (Y:i0 sc x=true) (nd:N.Nodup) (hx:PE X o (gY i)) (e1:cD X sc:=by rfl) (e2:X.N=N:=by rfl) (hf:X.fn x=true∨X.env.scope.names.lookup x=some .local:=by exact .inl rfl)
  (q:qp3 o "pop" X.env (eval o X.env)=eval o X.env:=by rfl) (O:(apos.endLine==cpos.line)=true:=by rfl) (hs:qo4 (.Call (.Attribute o "pop" apos) [] [] cpos) (some (.Name x pos')) pos.line X.env=pure false:=by rfl) :
  DS1 X (.Assign [.Name x pos'] (.Call (.Attribute o "pop" apos) [] [] cpos) pos) (rO j i):=
 PS.mono (pT h Y nd (zQ PySem.F.plainAttrs_list PySem.F.slot_list_pop PySem.F.type_list_pop zR hx q O) e1 e2 hf hs) fun D σ H ⟨Φ,δ,F,ot,hK,en,Z,k⟩=>by
  unfold rO at Z;split at Z<;>first | (cases Z;done) | skip
  rename_i l Y;obtain ⟨d,hd,rfl⟩:=mS Z;obtain ⟨a,vs,hv,h1,h2⟩:=en.ownL Y;rw [List.getLast?_eq_getElem?] at hd;obtain ⟨y,hy,ry⟩:=h2.get hd;rw [<- h2.length] at hy;refine ⟨.ref a,hv,.inl ⟨rfl,vs,.inl (.inl h1)⟩,a,vs,y,rfl,rfl,h1,hy,k _ F _ ?_⟩
  have hr:Reps Φ.K F l.dropLast vs.dropLast:=by rw [zd6,zd6,h2.length];exact h2.take _
  exact (en.poke (o:=.lst vs.dropLast) (t':=.lst l.dropLast) Y hv rfl fun S sa=>⟨a,_,rfl,sa,aV,hr⟩).name ry j
end
noncomputable def AtF (K:xA9) (x:Str) (st:Stmt):Prop:=∃ (f:Addr) (oc:Value) (od an:Option Addr) (sl:Array (Option Value)) (kV dc pm q ct:Value),xB9 K qb9 x=some (some (.ref f))/\K.lookup f=some ⟨oc,od,.func (xC9 x x (cg st) (be st) (aa st) .none kV dc pm an q ct),sl⟩/\xH9 K q x=true/\xF9 K (.ref f)=true
noncomputable def AtC (K:xA9) (x:Str) (st:Stmt) (c P:Addr):Prop:=∃ (f:Addr) (oc:Value) (od an:Option Addr) (sl:Array (Option Value)) (kV dc pm ct:Value) (O:Value) (xd:Option Addr) (q:Array Value) (xs:Array (Option Value)),
 xB9 K qb9 x=some (some (.ref f))/\K.lookup f=some ⟨oc,od,.func (xC9 x x (cg st) (be st) (aa st) .none kV dc pm an (.ref c) ct),sl⟩/\xH9 K (.ref c) x=true/\xF9 K (.ref f)=true∧
 K.lookup c=some ⟨O,xd,.fields q,xs⟩/\q[11]?=some (.ref P)
variable {f:Addr} {oc dc pm:Value} {od an:Option Addr}
section
variable {K:xA9} {mg:Str->Option Value} {h:Heap} {x:Str} {st:Stmt} {ps:List Str} {c P:Addr}
theorem AtF.mk {sl:Array (Option Value)} {kV q ct:Value} (a:xB9 K qb9 x=some (some (.ref f))) (l:K.lookup f=some ⟨oc,od,.func (xC9 x x (cg st) (be st) (aa st) .none kV dc pm an q ct),sl⟩) (c:xH9 K q x=true) (k:xF9 K (.ref f)=true):AtF K x st:=⟨f,oc,od,an,sl,kV,dc,pm,q,ct,a,l,c,k⟩
theorem AtC.mk {sl:Array (Option Value)} {kV ct O:Value} {xd:Option Addr} {q:Array Value} {xs:Array (Option Value)} (a:xB9 K qb9 x=some (some (.ref f))) (l:K.lookup f=some ⟨oc,od,.func (xC9 x x (cg st) (be st) (aa st) .none kV dc pm an (.ref c) ct),sl⟩) (Z:xH9 K (.ref c) x=true) (k:xF9 K (.ref f)=true) (cl:K.lookup c=some ⟨O,xd,.fields q,xs⟩) (Y:q[11]?=some (.ref P)):AtC K x st c P:=⟨f,oc,od,an,sl,kV,dc,pm,ct,O,xd,q,xs,a,l,Z,k,cl,Y⟩
theorem AtF.df (A:AtF K x st) (X:K.In h) (G:h.Ns qb9 mg) (q:∀ (kV doc pm:Value) (an:Option Addr) (cdv ct:Value) (us:List Value),us.length=ps.length->zf6 (xC9 x x (cg st) (be st) (aa st) .none kV doc pm an cdv ct) ⟨us,[]⟩=pure (ps.zip us)):DefF K mg x st ps:=by obtain ⟨f,oc,od,an,sl,kV,dc,pm,O,ct,a,l,c,k⟩:=A;exact DefF.mk' X G a l c k q
theorem AtC.df (A:AtC K x st c P) (X:K.In h) (G:h.Ns qb9 mg) (q:∀ (kV doc pm:Value) (an:Option Addr) (cdv ct:Value) (us:List Value),us.length=ps.length->zf6 (xC9 x x (cg st) (be st) (aa st) .none kV doc pm an cdv ct) ⟨us,[]⟩=pure (ps.zip us)):DefC K mg x st ps c:=by obtain ⟨f,oc,od,an,sl,kV,dc,pm,ct,Y,xd,O,xs,a,l,c,k,_⟩:=A;exact DefC.mk' X G a l c k q
end
section
variable {X:Cx} {e:Expr} {es:List Expr} {x:Str} {p pos:Pos} {fs:De->Option (List Dt)} {i:Nat}
theorem pvX (h:dv X.env.scope X.N i x=true):PE X (.Name x pos) (gY i):=pvD i h rfl rfl
end
end L2
namespace HT
open PySem PySem.Spec PyProof.Rows
end HT
namespace L2
open PySem PySem.Spec PyProof.Rows
section
variable {X:Cx}
def gSlW:Dt->Option Int->Option Int->Option T
 | .tup l,lo,hi=>if HT.sIx l.length 0 lo=0/\HT.sIx l.length l.length hi=l.length then some (.leaf (.tup l)) else some (.leaf (.tup (lS l lo hi)))
 | x,lo,hi=>gSl x lo hi
def uI (K:xA9):R2:=fun x y H Q=>∃ a b z xs,x=.ref a/\y=.ref b/\SqT K H a (z::xs)/\SqT K H b []/\Q (.ref a) H
theorem wR:OpR X (qm0 .Add) (uI X.K):=by
 intro pins s σ H x y v u Q I rx ry h;obtain ⟨a,b,z,xs,rfl,rfl,ha,hb,q⟩:=h;cases rx;cases ry;obtain ⟨its,r1,p1,_⟩:=I.tuple ha;obtain ⟨its2,r2,p2,_⟩:=I.tuple hb;cases r2;obtain ⟨⟨cls,dd,data,sl⟩,ho,hc,n,hd⟩:=id p1;obtain ⟨⟨cls2,dd2,data2,sl2⟩,Z,O,n2,Y⟩:=id p2;simp only at hc hd O Y;subst hc hd O Y
 exact qw5 ⟨_,ho,rfl⟩ ⟨_,Z,rfl⟩ qt7 qz1 PySem.F.slot_tuple_add PySem.F.entry_tuple_add (PySem.F.args_tuple_add_2 _ _)
  (tuple_addW1 a b its.toArray #[] n n2 dd dd2 sl sl2 (by cases r1;simp) rfl) ⟨ho,Z,⟨.ref a,H,I,rfl,q⟩⟩
def ql:Dt->Dt->Option T
 | .tup (d::l),.tup []=>some (.leaf (.tup (d::l)))
 | x,y=>ua x y
theorem wS:OpR X (qm0 .Add) (fun x y H Q=>(m6 X.K x y H Q∨kH X.K x y H Q)∨uI X.K x y H Q):=OpR.or wD wR
theorem AA {K:xA9}:R2D K (fun x y H Q=>(m6 K x y H Q∨kH K x y H Q)∨uI K x y H Q) ql:=by
 intro F H x y vx vy Q t O rx ry Y k;unfold ql at Y;split at Y
 . rename_i d l;cases Y;obtain ⟨a,vs,rfl,h1,h2⟩:=rx;obtain ⟨b,ws,rfl,h3,Z⟩:=ry;simp only [Reps] at Z;subst Z;have q:=h2;simp only [Reps] at q;obtain ⟨v,us,rfl,_,_⟩:=q;refine .inr ⟨a,b,v,us,rfl,rfl,O.tup h1,O.tup h3,k.leaf.here O ?_⟩;simp only [Rep];exact ⟨a,_,rfl,h1,h2⟩
 . exact .inl (Am F H _ _ vx vy Q t O rx ry Y k)
end
abbrev Hk3:=Str×Int×Bool
def h3 (k:Hk3):Dt:=.tup [.str k.1,.int k.2.1,.bl k.2.2]
section
variable {X:Cx} {pins:List (Addr×Obj)} {s:qa4} {σ:St} {H:Hp}
end
section
variable {X:Cx}
end
section
variable {P:qc2} {u:World} {A:qd8} {R:Result->qa4->Prop} {I:Addr} {fp wr:List Addr} {n:Nat} {Pv:Nat->Value->Prop} {St:Nat->Heap->Prop}
end
section
variable {P:qc2} {u:World} {A:qd8} {E:Value->qa4->Prop} {s:qa4} {l:Addr} {xs:Array (Int×Tok)} {d:Value}
end
section
variable {X:Cx} {e:Expr} {pos p kp kq:Pos} {sc:Scope} {fs:De->Option (List Dt)} {d:Int} {t:TA} {i:Nat}
end
open PySem
section
variable {K:Type} [DecidableEq K]
end
section
variable {X:Cx} {K:Type} [DecidableEq K] [Inhabited K] {κ:SK X.prog X.w K}
end
section
variable {X:Cx} {e:Expr} {pos pos2 p p2:Pos} {sc:Scope} {fs:De->Option (List Dt)}
end
section
variable {X:Cx} {e o:Expr} {es:List Expr} {fo:De->Option Dt} {fs:De->Option (List Dt)} {apos cpos pos:Pos}
end
section
variable {X:Cx}
end
seal L2.PE L2.PS L2.PSs L2.PT L2.PW L2.PA L2.PI L2.PG L2.PTs L2.PO L2.PGs L2.CallR L2.OpR L2.IxR L2.SlR L2.MtR L2.UnR L2.DO L2.DL L2.DB L2.DT L2.DW L2.DS L2.DS1 L2.R2D L2.CRD L2.MRD L2.DG L2.DGs L2.DIF L2.DIB L2.DTs L2.DP
theorem el1 {α:Type} {p:List α->Prop} (h:∀ a,p [a]):∀ us:List α,us.length=1->p us
 | [a],_=>h a
theorem el2 {α:Type} {p:List α->Prop} (h:∀ a b,p [a,b]):∀ us:List α,us.length=2->p us
 | [a,b],_=>h a b
theorem el3 {α:Type} {p:List α->Prop} (h:∀ a b c,p [a,b,c]):∀ us:List α,us.length=3->p us
 | [a,b,c],_=>h a b c
theorem el4 {α:Type} {p:List α->Prop} (h:∀ a b c d,p [a,b,c,d]):∀ us:List α,us.length=4->p us
 | [a,b,c,d],_=>h a b c d
theorem el5 {α:Type} {p:List α->Prop} (h:∀ a b c d e,p [a,b,c,d,e]):∀ us:List α,us.length=5->p us
 | [a,b,c,d,e],_=>h a b c d e
end L2
namespace P42
open PySem L2
def top (i:Nat):Stmt:=PySem.Challenge.pw_dimhouse_k42_boxes_lost.main.body.getD i (.Pass ⟨0,0,0,0⟩)
noncomputable section
def k_A:List Key:=[.inr "copy",.inr "op",.inr "store",.inr "take",.inr "lay",.inr "say",.inr "if",.inr "end"]
noncomputable def eV:List Dt:=[(.tup [(.int 2),(.int 3)]),(.tup [(.int 3),(.int 5)]),(.tup [(.int 2),(.int 3)]),(.tup [(.int 3),(.int 4)]),(.tup [(.int 2),(.int 4)]),(.tup [(.int 1),(.int 2)]),(.tup [(.int 1),(.int 2)]),(.tup [(.int 1),(.int 2)])]
def lb:Dt:=(.tup [(.str "copy"),(.str "op"),(.str "load"),(.str "take"),(.str "hear")])
def q58:De->Option Bool:=(tB2 (gEq true) (vB 0) (toD (d2 ax (vB 2) (toD (d2 bE (toD (d2 bc (vB 1) (kD (.int 4)))) (toD (ao cR (ab (vB 2) ak))))))))
noncomputable def q17:List Dt->Option T:=ci 2 ((ay (sIf (tB2 (gEq false) (toD (d2 bE (vB 0) (kD (.int 4)))) (kD (.int 0))) (bi (ao dy (ab (toD (ao eS (ab (toD (vSl (vB 1) kJ (e8 (toD (d2 bE (toD (d2 bc (vB 0) (kD (.int 4)))) (toD (d2 cJ (toD (ao cR (ab (vB 1) ak))) (kD (.int 1))))))))) ak))) ak))) bC)
  (ay (sIf (tB2 (gEq false) (toD (d2 bE (vB 0) (kD (.int 4)))) (kD (.int 1))) (bi (ao dy (ab (toD (ao eS (ab (toD (bj [none,some 0,some 1] (fIt (vB 1)) (ap 0) q58 (vL 0))) ak))) ak))) bC)
  (bi (ao dy (ab (toD (ao eS (ab (vB 1) ak))) ak))))))
def y1:List Dt->Option T:=ci 2 ((ay (sIf (tB2 (i5 fun i j=>decide (i<j)) (vB 1) (toD (ao cR (ab (vB 0) ak)))) (bi (d2 ax (vB 0) (vB 1))) bC) (bi (toT (kD (.int 0))))))
noncomputable def y15:List Dt->Option T:=ci 2 ((ay (sIf (tB2 (gEq false) (toD (d2 ax (toD (d2 ax (vB 0) (vB 1))) (kD (.int 0)))) (kD (.str "end"))) (bi (cy ak)) bC)
  (ay (sIf (tB2 (gEq false) (toD (d2 ax (toD (d2 ax (vB 0) (vB 1))) (kD (.int 0)))) (kD (.str "go"))) (bi (cy (ab (toD (d2 ax (toD (d2 ax (vB 0) (vB 1))) (kD (.int 1)))) ak))) bC)
  (ay (sIf (tB2 (gEq false) (toD (d2 ax (toD (d2 ax (vB 0) (vB 1))) (kD (.int 0)))) (kD (.str "if"))) (bi (cy (ab (toD (d2 ax (toD (d2 ax (vB 0) (vB 1))) (kD (.int 2)))) (ab (toD (d2 cJ (vB 1) (kD (.int 1)))) ak)))) bC)
  (bi (cy (ab (toD (d2 cJ (vB 1) (kD (.int 1)))) ak)))))))
def q69:De->Option Bool:=(cN (toD (eL "str" (vB 0))))
noncomputable def y11:List Dt->Option T:=ci 2 ((ay (aE 1 (toT (toD (cy ak))))
  (ay (sIf (tB2 (cb false) (toD (d2 ax (vB 0) (kD (.int 0)))) (toD (cr (ab (kD (.str "copy")) (ab (kD (.str "store")) ak))))) (aE 1 (toT (toD (cy (ab (toD (d2 ax (vB 0) (kD (.int 2)))) ak))))) bC)
  (ay (sIf (tB2 (gEq false) (toD (d2 ax (vB 0) (kD (.int 0)))) (kD (.str "op"))) (aE 1 (toT (toD (cy (ab (toD (d2 ax (vB 0) (kD (.int 3)))) (ab (toD (d2 ax (vB 0) (kD (.int 4)))) ak)))))) bC)
  (ay (sIf (tB2 (gEq false) (toD (d2 ax (vB 0) (kD (.int 0)))) (kD (.str "take"))) (aE 1 (toT (toD (cy (ab (toD (d2 ax (vB 0) (kD (.int 3)))) ak))))) bC)
  (ay (sIf (tB2 (gEq false) (toD (d2 ax (vB 0) (kD (.int 0)))) (kD (.str "lay"))) (aE 1 (toT (toD (cy (ab (toD (d2 ax (vB 0) (kD (.int 2)))) (ab (toD (d2 ax (vB 0) (kD (.int 3)))) ak)))))) bC)
  (ay (sIf (tB2 (cb false) (toD (d2 ax (vB 0) (kD (.int 0)))) (toD (cr (ab (kD (.str "say")) (ab (kD (.str "if")) (ab (kD (.str "end")) ak)))))) (aE 1 (toT (toD (cy (ab (toD (d2 ax (vB 0) (kD (.int 1)))) ak))))) bC)
  (bi (bj [none] (fIt (vB 1)) (ap 0) q69 (vL 0))))))))))
noncomputable def y17:List Dt->Option T:=ci 1 ((ay (sIf (tB2 (cb false) (toD (d2 ax (vB 0) (kD (.int 0)))) (toD (cr (ab (kD (.str "copy")) (ab (kD (.str "op")) (ab (kD (.str "load")) (ab (kD (.str "take")) (ab (kD (.str "hear")) ak)))))))) (bi (d2 ax (vB 0) (kD (.int 1)))) bC) (bi (toT (kD .non)))))
def z70:List Dt->Option T:=ci 1 ((bi (mK (toD (eL "int" (vB 0))) (z0 (toD (eL "bool" (vB 0)))))))
def z45:De->Option Dt:=(toD (ao z70 (ab (vL 0) ak)))
def z29:De->Option Bool:=(tB2 (gEq false) (vB 0) (toD (d2 ax (vB 2) (kD (.int 0)))))
def y35:De->Option Bool:=(tB2 (gEq false) (toD (d2 ax (vB 1) (kD (.int 0)))) (kD (.int 0)))
noncomputable def q28:De->Option Out:=(sIf (fOr (tB2 (cb true) (toD (d2 ax (vB 4) (toD (d2 cJ (vB 7) (kD (.int 1)))))) (toD (ao y15 (ab (vL 0) (ab (toD (d2 ax (vB 4) (vB 7))) ak))))) (tB2 (gEq false) (toD (ao y17 (ab (toD (d2 ax (vB 0) (toD (d2 ax (vB 4) (vB 7))))) ak))) (vB 3))) cT bC)
noncomputable def q22:List Dt->Option T:=ci 8 ((ay (sIf (fOr (tB2 (gEq true) (toD (ao cR (ab (vB 2) ak))) (kD (.int 4))) (fOr (ei (cN (toD (eL "str" (toD (d2 ax (vB 2) (kD (.int 1)))))))) (fOr (ei (cN (toD (eL "list" (toD (d2 ax (vB 2) (kD (.int 2)))))))) (tB2 (gEq false) (toD (d2 ax (vB 2) (kD (.int 2)))) (toD (cy ak)))))) cT bC)
  (ay (oC (toD (vSl (vB 2) (e8 (kD (.int 1))) kJ)) (d7 3 (aU (ap 3) (aU (ap 4) (aU (ap 5) d6)))))
  (ay (sIf (fOr (ei (cN (toD (ao (mV fun bs=>bs.all id) (ab (toD (bj [none] (fIt (vB 4)) (ap 0) bN z45)) ak))))) (ei (cN (toD (eL "bool" (vB 5)))))) cT bC)
  (ay (aE 6 (toT (toD (bj [none,none,some 4] (fIt (toD (d2 ax (vB 1) (kD (.int 1))))) (d7 2 (aU (ap 0) (aU (ap 1) d6))) z29 (vL 1)))))
  (ay (sIf (cN (vB 5)) (aE 6 (toT (toD (bj [none,some 4] (fIt (toD (cy (ab (toD (d2 ax (vB 1) (kD (.int 0)))) ak)))) (ap 0) y35 (vL 0))))) bC)
  (ay (sIf (fOr (tB2 (gEq false) (vB 6) (toD (cy ak))) (fOr (tB2 (cb false) (vB 3) (toD (d2 ax (vB 6) (kD (.int 0))))) (tB2 (cb true) (vB 3) (toD (ao y11 (ab (toD (d2 ax (vB 0) (toD (d2 ax (vB 4) (toD (mT (kD (.int 1)))))))) ak)))))) cT bC)
  (ay (dZ (ej gJ (ab (toD (d2 jD (toD (ao cR (ab (vB 4) ak))) (kD (.int 1)))) ak)) (ap 7) q28)
  (bi (toT (kD (.bl true))))))))))))
def y22:De->Option Out:=(sIf (tB2 (cb true) (vB 6) (vB 3)) (ay (ke 3 (vB 6) (kD (.bl true))) (y16 4 (vL 6))) bC)
noncomputable def z15:De->Option Out:=(ay (rO 5 4)
  (ay (sIf (tB2 (cb false) (vB 2) (toD (ao y11 (ab (toD (d2 ax (vB 0) (vB 5))) ak)))) (bi (toT (kD (.bl true)))) bC)
  (sIf (tB2 (gEq true) (toD (ao y17 (ab (toD (d2 ax (vB 0) (vB 5))) ak))) (vB 2)) (dZ (fIt (toD (ao y15 (ab (vL 0) (ab (vL 5) ak))))) (ap 6) y22) bC)))
def z23:De->Option Bool:=(tB2 (i5 fun i j=>decide (j<i)) (toD (ao cR (ab (vB 4) ak))) (kD (.int 0)))
def q14:List Dt->Option T:=ci 7 ((ay (aE 3 (p8 (lV (vL 1) (kD (.bl true)) ub)))
  (ay (aE 4 (cy (ab (vL 1) ak)))
  (ay (bG z23 z15 100000)
  (bi (toT (kD (.bl false))))))))
def y33:De->Option Bool:=(oz (tB2 (cb true) (vB 0) (vB 3)) (cN (toD (ao q14 (ab (vL 1) (ab (vL 2) (ab (vL 0) ak)))))))
def z14:De->Option Out:=(sIf (tB2 (gEq true) (toD (bj [none,some 0,some 3,some 4] (fIt (vB 2)) (ap 0) y33 (vL 0))) (toD (cy ak))) (bi (toT (kD (.bl true)))) bC)
noncomputable def y20:List Dt->Option T:=ci 5 ((ay (dZ (fIt (toD (d2 cJ (toD (cy (ab (toD (cr (ab (kD (.int 0)) (ab (toD (d2 ax (vB 1) (kD (.int 0)))) ak)))) ak))) (toD (ao p6 (ab (toD (d2 ax (vB 1) (kD (.int 1)))) ak)))))) (d7 2 (aU (ap 3) (aU (ap 4) d6))) z14) (bi (toT (kD (.bl false))))))
def z43:De->Option Dt:=(toD (d2 ax (vB 2) (toD (d2 bE (toD (d2 bc (toD (d2 bE (toD (d2 f6 (vB 1) (toD (d2 cJ (kD (.int 48271)) (toD (d2 f6 (kD (.int 2)) (vB 0))))))) (kD (.int 2147483647)))) (kD (.int 9)))) (kD (.int 26))))))
def z44:De->Option Dt:=(toD (d2 cJ (toD (d2 cJ (toD (vSl (vB 3) kJ (e8 (vB 4)))) (toD (d2 ax (vB 2) (toD (d2 bE (toD (d2 cJ (toD (d2 bc (vB 1) (kD (.int 36)))) (vB 0))) (kD (.int 26)))))))) (toD (vSl (vB 3) (e8 (vB 4)) kJ))))
noncomputable def q15:List Dt->Option T:=ci 6 ((ay (aE 2 (toT (kD (.str "abcdefghijklmnopqrstuvwxyz"))))
  (ay (aE 3 (toT (toD (d2 bE (vB 0) (kD (.int 6))))))
  (ay (aE 4 (toT (toD (p7 gK (kD (.str "")) (ab (toD (bj [none,some 0,some 2] (ej gJ (ab (vL 3) ak)) (ap 0) bN z43)) ak)))))
  (ay (aE 5 (toT (toD (d2 bE (toD (d2 bc (vB 0) (kD (.int 6)))) (toD (d2 cJ (vB 3) (kD (.int 1))))))))
  (bi (bj [none,some 0,some 2,some 4,some 5] (ej gJ (ab (vL 1) ak)) (ap 0) bN z44)))))))
def q42:De->Option Bool:=(tB2 (cb false) (vB 2) (toD (ao y15 (ab (vL 1) (ab (vL 0) ak)))))
noncomputable def y41:De->Option Out:=(ay (aE 4 (toT (toD (bj [none,some 0,some 3] (ej oD (ab (vL 3) (ab (toD (ao cR (ab (vB 0) ak))) ak))) (ap 0) q42 (vL 0))))) (sIf (fOr (cN (vB 1)) (fOr (tB2 (gEq false) (toD (d2 ax (toD (d2 ax (vB 0) (vB 3))) (kD (.int 0)))) (kD (.str "end"))) (tB2 (gEq true) (vB 4) (toD (cy ak))))) (y16 2 (vL 3)) bC))
def z24:List Dt->Option T:=ci 5 ((ay (aE 2 (cy ak))
  (ay (dZ (ej gJ (ab (toD (ao cR (ab (vB 0) ak))) ak)) (ap 3) y41)
  (jB 2))))
noncomputable def z19:List Dt->Option T:=ci 2 ((ay (sIf (tB2 (gEq false) (toD (d2 bE (vB 0) (kD (.int 4)))) (kD (.int 0))) (bi (d2 ax (toD (cy (ab (toD (d2 bE (toD (d2 bc (vB 0) (kD (.int 8)))) (toD (d2 tK (kD (.int 2)) (kD (.int 40)))))) (ab (toD (d2 bE (toD (d2 bc (vB 0) (kD (.int 8)))) (kD (.int 3)))) ak)))) (toD (d2 bE (toD (d2 bc (vB 0) (kD (.int 4)))) (kD (.int 2)))))) bC) (bi (d2 ax (vB 1) (toD (d2 bE (toD (d2 bc (vB 0) (kD (.int 4)))) (toD (ao cR (ab (vB 1) ak)))))))))
noncomputable def y52:List Dt->Option T:=ci 10 ((ay (aE 5 (toT (toD (d2 bc (toD (d2 bE (toD (d2 f6 (vB 0) (kD (.int 48271)))) (kD (.int 2147483647)))) (kD (.int 3))))))
  (ay (aE 6 (toT (toD (d2 ax (vB 1) (toD (d2 bE (vB 5) (toD (ao cR (ab (vB 1) ak)))))))))
  (ay (aE 7 (toT (toD (ao z19 (ab (toD (d2 bc (vB 0) (kD (.int 14)))) (ab (vL 1) ak))))))
  (ay (aE 8 (toT (toD (ao z19 (ab (toD (d2 bc (vB 5) (kD (.int 11)))) (ab (vL 1) ak))))))
  (ay (aE 9 (toT (toD (d2 bE (vB 0) (kD (.int 14))))))
  (ay (sIf (tB2 (gEq false) (toD (d2 bE (toD (d2 bc (vB 5) (kD (.int 7)))) (kD (.int 24)))) (kD (.int 0))) (bi (cr (ab (kD (.str "end")) (ab (vL 7) ak)))) bC)
  (ay (sIf (tB2 (gEq false) (vB 9) (kD (.int 0))) (bi (cr (ab (kD (.str "copy")) (ab (vL 6) (ab (vL 7) ak))))) bC)
  (ay (sIf (tB2 (i5 fun i j=>decide (i<j)) (vB 9) (kD (.int 3))) (bi (cr (ab (kD (.str "op")) (ab (vL 6) (ab (toD (d2 ax (kD (.str "+-*<=&|^")) (toD (d2 bE (toD (d2 bc (vB 5) (kD (.int 24)))) (kD (.int 8)))))) (ab (vL 7) (ab (vL 8) ak))))))) bC)
  (ay (sIf (tB2 (i5 fun i j=>decide (i<j)) (vB 9) (kD (.int 5))) (bi (cr (ab (kD (.str "load")) (ab (vL 6) (ab (toD (d2 ax (vB 2) (toD (d2 bE (toD (d2 bc (vB 5) (kD (.int 8)))) (toD (ao cR (ab (vB 2) ak))))))) ak))))) bC)
  (ay (sIf (tB2 (i5 fun i j=>decide (i<j)) (vB 9) (kD (.int 7))) (bi (cr (ab (kD (.str "store")) (ab (toD (d2 ax (vB 2) (toD (d2 bE (toD (d2 bc (vB 5) (kD (.int 8)))) (toD (ao cR (ab (vB 2) ak))))))) (ab (vL 7) ak))))) bC)
  (ay (sIf (tB2 (gEq false) (vB 9) (kD (.int 7))) (bi (cr (ab (kD (.str "take")) (ab (vL 6) (ab (toD (d2 ax (vB 3) (toD (d2 bE (toD (d2 bc (vB 5) (kD (.int 8)))) (toD (ao cR (ab (vB 3) ak))))))) (ab (vL 7) ak)))))) bC)
  (ay (sIf (tB2 (gEq false) (vB 9) (kD (.int 8))) (bi (cr (ab (kD (.str "lay")) (ab (toD (d2 ax (vB 3) (toD (d2 bE (toD (d2 bc (vB 5) (kD (.int 8)))) (toD (ao cR (ab (vB 3) ak))))))) (ab (vL 7) (ab (vL 8) ak)))))) bC)
  (ay (sIf (tB2 (gEq false) (vB 9) (kD (.int 9))) (bi (cr (ab (kD (.str "hear")) (ab (vL 6) ak)))) bC)
  (ay (sIf (tB2 (gEq false) (vB 9) (kD (.int 10))) (bi (cr (ab (kD (.str "say")) (ab (vL 7) ak)))) bC)
  (ay (sIf (tB2 (i5 fun i j=>decide (i<j)) (vB 9) (kD (.int 13))) (bi (cr (ab (kD (.str "if")) (ab (vL 7) (ab (toD (d2 bE (toD (d2 bc (vB 5) (kD (.int 13)))) (vB 4))) ak))))) bC)
  (bi (cr (ab (kD (.str "go")) (ab (toD (d2 bE (toD (d2 bc (vB 5) (kD (.int 13)))) (vB 4))) ak))))))))))))))))))))
noncomputable def q37:De->Option Dt:=(toD (cr (ab (toD (d2 ax (vB 1) (vB 0))) (ab (toD (d2 cJ (toD (d2 bE (toD (d2 bc (vB 2) (kD (.int 64)))) (kD (.int 5)))) (vB 0))) (ab (toD (d2 (gEq false) (toD (d2 bE (toD (d2 bc (vB 2) (toD (d2 ax (toD (cy (ab (kD (.int 1)) (ab (kD (.int 2)) (ab (kD (.int 4)) (ab (kD (.int 8)) ak)))))) (toD (d2 bE (vB 0) (kD (.int 4)))))))) (kD (.int 3)))) (kD (.int 0)))) ak)))))
noncomputable def q30:De->Option Out:=(y16 7 (toD (cr (ab (toD (d2 ax (vB 2) (toD (d2 cJ (kD (.int 8)) (vB 8))))) (ab (toD (d2 cJ (kD (.int 1)) (toD (d2 bE (toD (d2 bc (vB 5) (kD (.int 5)))) (kD (.int 8)))))) (ab (toD (d2 (gEq false) (toD (d2 bE (toD (d2 bc (vB 5) (toD (d2 ax (toD (cy (ab (kD (.int 16)) (ab (kD (.int 32)) ak)))) (toD (d2 bE (vB 8) (kD (.int 2)))))))) (kD (.int 3)))) (kD (.int 0)))) ak))))))
def q46:De->Option Dt:=(toD (d2 ax (vB 0) (kD (.int 0))))
def y46:De->Option Dt:=(toD (d2 ax (vB 0) (kD (.int 0))))
noncomputable def z28:De->Option Out:=(ay (aE 13 (toT (toD (cr (ab (toD (bj [none] (fIt (vB 6)) (ap 0) bN y46)) (ab (toD (bj [none] (fIt (vB 7)) (ap 0) bN q46)) ak)))))) (y16 11 (toD (ao y52 (ab (vL 12) (ab (vL 9) (ab (toD (d2 ax (vB 13) (kD (.int 0)))) (ab (toD (d2 ax (vB 13) (kD (.int 1)))) (ab (toD (d2 cJ (toD (ao cR (ab (vB 10) ak))) (kD (.int 1)))) ak)))))))))
noncomputable def z27:List Dt->Option T:=ci 14 ((ay (aE 2 (toT (toD (ao q15 (ab (toD (ao y1 (ab (vL 0) (ab (toD (ao tT (ab (toD (d2 (i5 fun i j=>decide (j<i)) (toD (d2 bE (toD (ao y1 (ab (vL 0) (ab (kD (.int 1)) ak)))) (kD (.int 3)))) (kD (.int 0)))) ak))) ak)))) (ab (kD (.int 12)) ak))))))
  (ay (aE 3 (toT (toD (d2 cJ (kD (.int 1)) (toD (ao tT (ab (toD (d2 (gEq false) (toD (d2 bE (toD (d2 bc (toD (ao y1 (ab (vL 0) (ab (kD (.int 2)) ak)))) (kD (.int 44)))) (kD (.int 6)))) (kD (.int 1)))) ak)))))))
  (ay (aE 4 (toT (toD (d2 cJ (kD (.int 1)) (toD (d2 bE (toD (ao y1 (ab (vL 0) (ab (kD (.int 2)) ak)))) (toD (d2 f6 (kD (.int 4)) (vB 3)))))))))
  (ay (aE 5 (toT (toD (ao y1 (ab (vL 0) (ab (kD (.int 3)) ak))))))
  (ay (aE 6 (toT (toD (ao dy (ab (toD (bj [none,some 2,some 5] (ej gJ (ab (vL 4) ak)) (ap 0) bN q37)) ak)))))
  (ay (aE 7 (cy ak))
  (ay (dZ (ej gJ (ab (toD (d2 cJ (kD (.int 1)) (toD (d2 bE (vB 5) (toD (d2 f6 (kD (.int 2)) (vB 3))))))) ak)) (ap 8) q30)
  (ay (aE 7 (ao dy (ab (vB 7) ak)))
  (ay (aE 9 (toT (toD (ao q15 (ab (toD (ao y1 (ab (vL 0) (ab (kD (.int 0)) ak)))) (ab (toD (d2 cJ (kD (.int 2)) (toD (d2 bE (toD (d2 bc (toD (ao y1 (ab (vL 0) (ab (kD (.int 2)) ak)))) (kD (.int 4)))) (kD (.int 11)))))) ak))))))
  (ay (aE 10 (toT (toD (vSl (vB 0) (e8 (kD (.int 6))) (e8 (toD (d2 cJ (kD (.int 6)) (vB 1))))))))
  (ay (aE 11 (cy ak))
  (ay (dZ (fIt (vL 10)) (ap 12) z28)
  (ay (y16 11 (toD (cr (ab (kD (.str "end")) (ab (toD (ao z19 (ab (toD (ao y1 (ab (vL 0) (ab (kD (.int 4)) ak)))) (ab (vL 9) ak)))) ak)))))
  (tF 7 (bi (cr (ab (vL 6) (ab (vL 7) (ab (toD (ao dy (ab (vB 11) ak))) ak))))))))))))))))))))
def z81:De->Option Dt:=(toD (d2 ax (vB 0) (kD (.int 0))))
def z22:List Dt->Option T:=ci 1 ((bi (bj [none] (fIt (toD (d2 ax (vB 0) (kD (.int 1))))) (ap 0) bN z81)))
def y38:De->Option Out:=(sIf (oz (tB2 (gEq false) (toD (d2 ax (vB 4) (kD (.int 0)))) (kD (.str "end"))) (tB2 (cb true) (vB 3) (vB 2))) cT bC)
def z40:List Dt->Option T:=ci 5 ((ay (aE 2 (toT (toD (ao z22 (ab (vL 1) ak)))))
  (ay (dZ (ej kO (ab (toD (d2 ax (vB 0) (kD (.int 2)))) ak)) (d7 2 (aU (ap 3) (aU (ap 4) d6))) y38)
  (bi (toT (kD .non))))))
def y50:List Dt->Option T:=ci 1 ((bi (vIf (tB2 (cb false) (toD (d2 ax (vB 0) (kD (.int 0)))) (kD lb)) (d2 ax (vB 0) (kD (.int 1))) (toT (kD .non)))))
noncomputable def q89:List Dt->Option T:=ci 2 ((ay (sIf (fSi true k_A eV (toD (d2 ax (vB 0) (kD (.int 0))))) (bi (cr ak)) bC)
  (ay (aE 1 (toT (toD (vSg k_A eV (toD (d2 ax (vB 0) (kD (.int 0))))))))
  (bi (vSl (vB 0) (e8 (toD (d2 ax (vB 1) (kD (.int 0))))) (e8 (toD (d2 ax (vB 1) (kD (.int 1))))))))))
def q74:De->Option Out:=(sIf (oz (cN (toD (eL "str" (vB 2)))) (tB2 (cb true) (vB 2) (vB 1))) (y16 1 (vL 2)) bC)
def y49:List Dt->Option T:=ci 3 ((ay (aE 1 (cy ak))
  (ay (dZ (fIt (toD (ao q89 (ab (vL 0) ak)))) (ap 2) q74)
  (jB 1))))
def y45:De->Option Bool:=(tB2 (gEq true) (vB 0) (toD (ao y50 (ab (vL 1) ak))))
def q47:De->Option Out:=(y71 2 (bj [none,some 0] (fIt (vB 3)) (ap 0) y45 (vL 0)))
def y21:List Dt->Option T:=ci 4 ((ay (aE 2 (ao y49 (ab (vL 0) ak)))
  (ay (dZ (fIt (vL 1)) (ap 3) q47)
  (bi (ao ii (ab (vB 2) ak))))))
noncomputable def q73:List Dt->Option T:=ci 2 ((ay (sIf (tB2 (gEq false) (toD (d2 ax (vB 1) (kD (.int 0)))) (kD (.str "go"))) (bi (cr (ab (toD (d2 ax (vB 1) (kD (.int 1)))) ak))) bC)
  (ay (sIf (tB2 (gEq false) (toD (d2 ax (vB 1) (kD (.int 0)))) (kD (.str "if"))) (bi (cr (ab (toD (d2 ax (vB 1) (kD (.int 2)))) (ab (toD (d2 cJ (vB 0) (kD (.int 1)))) ak)))) bC)
  (ay (sIf (tB2 (gEq false) (toD (d2 ax (vB 1) (kD (.int 0)))) (kD (.str "end"))) (bi (cr ak)) bC)
  (bi (cr (ab (toD (d2 cJ (vB 0) (kD (.int 1)))) ak)))))))
def q109:De->Option Dt:=(toD (ao q73 (ab (vL 0) (ab (vL 1) ak))))
def dD:List Dt->Option T:=ci 1 ((bi (bj [none,none] (ej kO (ab (toD (d2 ax (vB 0) (kD (.int 2)))) ak)) (d7 2 (aU (ap 0) (aU (ap 1) d6))) bN q109)))
def q32:De->Option Dt:=(toD (cy ak))
def z65:De->Option Dt:=(toD (d2 ax (vB 1) (vB 0)))
noncomputable def y65:De->Option Out:=(ay (aE 6 (toT (toD (ao y21 (ab (toD (d2 ax (vB 1) (vB 5))) (ab (toD (bj [none,some 3] (fIt (toD (d2 ax (vB 2) (vB 5)))) (ap 0) bN z65)) ak))))))
  (sIf (tB2 (gEq true) (vB 6) (toD (d2 ax (vB 3) (vB 5)))) (ay (ke 3 (vB 5) (vL 6))
  (aE 4 (toT (kD (.bl true))))) bC))
def q66:De->Option Out:=(ay (aE 4 (toT (kD (.bl false)))) (dZ (ej rC (ab (toD (d2 jD (toD (ao cR (ab (vB 1) ak))) (kD (.int 1)))) (ab (toD (mT (kD (.int 1)))) (ab (toD (mT (kD (.int 1)))) ak)))) (ap 5) y65))
def z95:De->Option Bool:=(cN (vB 4))
noncomputable def q48:List Dt->Option T:=ci 7 ((ay (aE 1 (toT (toD (d2 ax (vB 0) (kD (.int 2))))))
  (ay (aE 2 (toT (toD (ao dD (ab (vL 0) ak)))))
  (ay (aE 3 (bj [none] (fIt (vB 1)) (ap 0) bN q32))
  (ay (aE 4 (toT (kD (.bl true))))
  (ay (bG z95 q66 100000)
  (jB 3)))))))
def y64:De->Option Out:=(ay (y16 2 (vL 3)) (aE 3 (toT (toD (d2 ax (vB 0) (vB 3))))))
def q94:De->Option Bool:=(tB2 (gIs true) (vB 3) (kD .non))
def y48:List Dt->Option T:=ci 4 ((ay (aE 2 (cy ak))
  (ay (aE 3 (toT (vL 1)))
  (ay (bG q94 y64 100000)
  (bi (vLR (vB 2)))))))
def z74 (G:Orc):De->Option Out:=(ke 3 (vB 4) (kD .non))
def q59 (G:Orc):De->Option Out:=(sIf (tB2 (cb true) (vB 8) (vB 3)) (ay (ke 3 (vB 8) (vL 7)) (y16 5 (vL 8))) bC)
noncomputable def z60 (G:Orc):De->Option Out:=(ay (aE 7 (toT (toD (d2 ax (vB 5) (vB 6)))))
  (ay (tV (fun i j=>i+j) 6 (kD (.int 1)))
  (ay (sIf (cN (toD (vCl G 2 (ab (vL 7) ak)))) (tF 3 (bi (ao y48 (ab (vL 3) (ab (vL 7) ak))))) bC)
  (dZ (fIt (toD (vCl G 1 (ab (vL 7) ak)))) (ap 8) (q59 G)))))
def q88 (G:Orc):De->Option Bool:=(tB2 (i5 fun i j=>decide (i<j)) (vB 6) (toD (ao cR (ab (vB 5) ak))))
def q79 (G:Orc):Dt->Addr->Addr->Hp->Option T:=ue 9 ((ay (aE 3 yi)
  (ay (dZ (fIt (vL 0)) (ap 4) (z74 G))
  (ay (aE 5 (ao o5 (ab (vB 3) ak)))
  (ay (aE 6 (toT (kD (.int 0))))
  (ay (bG (q88 G) (z60 G) 100000)
  cT))))))
def bA:De->Option Out:=(bi (vIf (tB2 (gEq false) (toD (ao y50 (ab (toD (d2 ax (vB 2) (vB 0))) ak))) (vB 1)) (cy ak) (d2 ax (vB 3) (vB 0))))
def bL:De->Option Out:=(bi (d2 (cb false) (vB 1) (toD (ao y49 (ab (toD (d2 ax (vB 2) (vB 0))) ak)))))
def q60:De->Option Dt:=(toD (cy (ab (vL 1) ak)))
noncomputable def z18:List Dt->Option T:=ci 7 ((ay (aE 3 (toT (toD (d2 ax (vB 0) (kD (.int 2))))))
  (ay (aE 4 (toT (toD (ao dD (ab (vL 0) ak)))))
  (fun δ=>(bi (fRt [2,3,4] [2,3] ["row","box","rows","onward"] ["row","box","rows"] bA bL q60 q79)) (oO 5 6 δ)))))
def z77:De->Option Dt:=(toD (cr (ab (toD (d2 ax (vB 0) (kD (.int 0)))) (ab (toD (d2 ax (vB 0) (kD (.int 1)))) (ab (kD (.bl false)) ak)))))
def q12:De->Option Out:=(sIf (tB2 (cb true) (vB 7) (vB 5)) (bi (cr (ab (kD (.str "lost")) (ab (vL 7) (ab (toD (ao z18 (ab (vL 0) (ab (vL 4) (ab (vL 7) ak))))) (ab (vL 6) ak)))))) bC)
def y14:De->Option Out:=(dZ (fIt (toD (d2 ax (vB 2) (vB 4)))) (ap 7) q12)
noncomputable def y23:List Dt->Option T:=ci 8 ((ay (aE 2 (toT (toD (ao q48 (ab (vL 0) ak)))))
  (ay (aE 3 (toT (toD (d2 cJ (toD (cy (ab (toD (cr (ab (kD (.int 0)) (ab (toD (d2 ax (vB 1) (kD (.int 0)))) (ab (kD (.bl true)) ak))))) ak))) (toD (bj [none] (fIt (toD (d2 ax (vB 1) (kD (.int 1))))) (ap 0) bN z77))))))
  (ay (dZ (fIt (vL 3)) (d7 3 (aU (ap 4) (aU (ap 5) (aU (ap 6) d6)))) y14)
  (bi (toT (kD .non)))))))
def q35:De->Option Dt:=(toD (d2 (cb false) (vB 0) (vB 1)))
def y18:De->Option Bool:=(cN (toD (ao (mV fun bs=>bs.any id) (ab (toD (bj [none,some 2] (fIt (toD (d2 ax (vB 1) (vB 0)))) (ap 0) bN q35)) ak))))
noncomputable def z36:De->Option Out:=(ay (aE 4 (toT (toD (bj [none,some 0,some 2] (fIt (vB 2)) (ap 0) y18 (vL 0)))))
  (ay (aE 3 (toT (toD (d2 (i5 fun i j=>decide (i<j)) (toD (ao cR (ab (vB 4) ak))) (toD (ao cR (ab (vB 2) ak)))))))
  (aE 2 (toT (vL 4)))))
def z48:De->Option Bool:=(cN (vB 3))
def z26:List Dt->Option T:=ci 5 ((ay (aE 2 (toT (vL 1)))
  (ay (aE 3 (toT (kD (.bl true))))
  (ay (bG z48 z36 100000)
  (jB 2)))))
def z57:De->Option Bool:=(tB2 (cb true) (vB 0) (vB 1))
noncomputable def q34:List Dt->Option T:=ci 7 ((ay (aE 2 (toT (toD (ao z22 (ab (vL 1) ak)))))
  (ay (aE 3 (toT (toD (ao dD (ab (vL 0) ak)))))
  (ay (aE 4 (toT (toD (ao z26 (ab (vL 3) (ab (toD (bj [none,some 2] (ej gJ (ab (toD (ao cR (ab (vB 3) ak))) ak)) (ap 0) z57 (vL 0))) ak))))))
  (ay (sIf (tB2 (gEq false) (toD (ao cR (ab (vB 4) ak))) (kD (.int 0))) (bi (toT (kD .non))) bC)
  (ay cT
  (ay cT
  (ay cT
  cT))))))))
def y74:De->Option Bool:=(ei (cN (toD (d2 ax (vB 0) (kD (.int 2))))))
def y73:De->Option Dt:=(toD (d2 ax (vB 0) (kD (.int 0))))
def z38:List Dt->Option T:=ci 1 ((bi (bj [none] (fIt (toD (d2 ql (toD (d2 ax (vB 0) (kD (.int 0)))) (toD (d2 ax (vB 0) (kD (.int 1))))))) (ap 0) y74 y73)))
def z94:De->Option Out:=(ay cT
  cT)
def q31:List Dt->Option T:=ci 4 ((ay (dZ (fIt (toD (ao z38 (ab (vL 0) ak)))) (ap 2) z94) (bi (toT (kD .non)))))
noncomputable def z33:List Dt->Option T:=ci 3 ((ay (aE 2 (toT (toD (ao z40 (ab (vL 0) (ab (vL 1) ak))))))
  (ay (sIf (tB2 (gIs false) (vB 2) (kD .non)) (aE 2 (toT (toD (ao q34 (ab (vL 0) (ab (vL 1) ak)))))) bC)
  (ay (sIf (tB2 (gIs false) (vB 2) (kD .non)) (aE 2 (toT (toD (ao q31 (ab (vL 0) (ab (vL 1) ak)))))) bC)
  (ay (sIf (tB2 (gIs false) (vB 2) (kD .non)) (aE 2 (toT (toD (ao y23 (ab (vL 0) (ab (vL 1) ak)))))) bC)
  (jB 2))))))
def q40:List Dt->Option T:=ci 2 ((bi (d2 (gIs false) (toD (ao z33 (ab (vL 0) (ab (vL 1) ak)))) (kD .non))))
def q110:De->Option Dt:=(toD (cr (ab (toD (d2 ax (vB 0) (kD (.int 0)))) (ab (toD (d2 ax (vB 0) (kD (.int 1)))) (ab (kD (.bl true)) ak)))))
def q78:De->Option Dt:=(toD (ao dy (ab (toD (bj [none] (fIt (vB 0)) (ap 0) bN q110)) ak)))
noncomputable def z78:De->Option Out:=(ay (aE 9 (toT (toD (d2 bE (toD (d2 f6 (toD (d2 cJ (toD (d2 bc (toD (ao y1 (ab (vL 0) (ab (kD (.int 5)) ak)))) (kD (.int 3)))) (toD (d2 f6 (kD (.int 7919)) (vB 8))))) (kD (.int 69621)))) (kD (.int 2147483629)))))) (y16 7 (toD (cr (ab (vL 8) (ab (toD (ao q17 (ab (toD (d2 bc (vB 9) (kD (.int 5)))) (ab (vL 6) ak)))) ak))))))
noncomputable def qm:List Dt->Option T:=ci 12 ((ay (oC (toD (ao z27 (ab (vL 0) (ab (kD (.int 30)) ak)))) (d7 3 (aU (ap 1) (aU (ap 2) (aU (ap 3) d6)))))
  (ay (aE 4 (toT (toD (bj [none] (fIt (toD (cr (ab (vL 1) (ab (vL 2) ak))))) (ap 0) bN q78))))
  (ay (aE 5 (toT (toD (cr (ab (toD (d2 ax (vB 4) (kD (.int 0)))) (ab (toD (d2 ax (vB 4) (kD (.int 1)))) (ab (vL 3) ak)))))))
  (ay (aE 6 (toT (toD (ao q15 (ab (toD (ao y1 (ab (vL 0) (ab (kD (.int 0)) ak)))) (ab (toD (d2 cJ (kD (.int 2)) (toD (d2 bE (toD (d2 bc (toD (ao y1 (ab (vL 0) (ab (kD (.int 2)) ak)))) (kD (.int 4)))) (kD (.int 11)))))) ak))))))
  (ay (aE 7 (cy ak))
  (ay (dZ (fIt (toD (ao z24 (ab (vL 3) (ab (toD (d2 (gEq false) (toD (d2 bE (toD (ao y1 (ab (vL 0) (ab (kD (.int 5)) ak)))) (kD (.int 3)))) (kD (.int 0)))) ak))))) (ap 8) z78)
  (ay (aE 10 (toT (toD (cr (ab (toD (ao q17 (ab (toD (d2 bc (toD (ao y1 (ab (vL 0) (ab (kD (.int 5)) ak)))) (kD (.int 12)))) (ab (vL 6) ak)))) (ab (toD (ao dy (ab (vB 7) ak))) ak))))))
  (ay (aE 11 (toT (toD (ao z33 (ab (vL 5) (ab (vL 10) ak))))))
  (ay (sIf (ei (cN (toD (ao y20 (ab (vL 3) (ab (vL 10) (ab (vL 6) ak))))))) (bi (mK (toD (d2 (gIs false) (vB 11) (kD .non))) (d2 (mZ false) (toD (ao q40 (ab (vL 5) (ab (vL 10) ak)))) (kD (.bl true))))) bC)
  (ay (sIf (fOr (ei (cN (toD (eL "tuple" (vB 11))))) (fOr (tB2 (gEq true) (toD (d2 ax (vB 11) (kD (.int 0)))) (kD (.str "lost"))) (ei (cN (toD (ao q22 (ab (vL 3) (ab (vL 10) (ab (vL 11) ak))))))))) cT bC)
  (bi (d2 (mZ false) (toD (ao q40 (ab (vL 5) (ab (vL 10) ak)))) (kD (.bl false)))))))))))))))
end
structure Txt (P:qc2) (w:World) (K:xA9) (mg:Str->Option Value):Prop where
 n_all:mg "all"=none
 n_any:mg "any"=none
 n_bool:mg "bool"=none
 n_enumerate:mg "enumerate"=none
 n_int:mg "int"=none
 n_isinstance:mg "isinstance"=none
 n_len:mg "len"=none
 n_list:mg "list"=none
 n_range:mg "range"=none
 n_reversed:mg "reversed"=none
 n_set:mg "set"=none
 n_sorted:mg "sorted"=none
 n_str:mg "str"=none
 n_tuple:mg "tuple"=none
 g_A:ww P w K mg "ATOM_PLACES" k_A eV
 g_B:tU K mg "SETTING" lb
 k_str:eJ K "str"
 k_bool:eJ K "bool"
 k_int:eJ K "int"
 k_list:eJ K "list"
 k_tuple:eJ K "tuple"
variable {X:Cx} {pos:Pos} {sc:Scope} {N:List Str} {x:Str}
theorem dsN {e:Expr} {f:De->Option T} {i:Nat} {pos':Pos} (h:cE sc N=true) (nd:N.Nodup) (O:DO X e f) (e0:N[i]?=some x:=by rfl) (e1:cD X sc:=by rfl) (q:X.N=N:=by rfl) (Z:X.fn x=true∨X.env.scope.names.lookup x=some .local:=by exact .inl rfl) (Y:qo4 e (some (.Name x pos')) pos.line X.env=pure false:=by rfl):DS1 X (.Assign [.Name x pos'] e pos) (aE i f):=Ab (nsN h i e0) (nsL h i e0) nd O e1 q Z Y
theorem doC {p:Pos} {iter elt:Expr} {ifs:List Expr} {scope:Scope} {src:List (Option Nat)} {fi:De->Option (List Dt)} {ft:De->Option Bool} {fe:De->Option Dt} (M:List Str) (h:(sX X.N X.env.scope scope M src&&dv (jw scope X.env.scope) M 0 x&&loOk (jw scope X.env.scope) x&&decide (src[0]?=some none))=true) (hi:DIB X (.Name x p) iter fi) (q:∀ C s H ex,DTs (cxC X M scope C s H ex) ifs ft) (O:∀ C s H ex,DL (cxC X M scope C s H ex) elt fe) (Y:X.calm=true:=by rfl) (Z:∀ x,qi4 iter X.env x=pure x:=by intro _;rfl):DO X (.ListComp elt [⟨.Name x p,iter,ifs,0⟩] scope pos) (bj src fi (ap 0) ft fe):=by simp only [qb1] at h;exact je (ts:=[0]) (CmpScope.of h.1.1.1) Y hi (fun nd C s H ex=>aO (cS h.1.1.2 h.1.2 nd (scC rfl))) q O (by simp only [ql2,List.all_nil,qu6];exact h.2) Z
theorem fnS {P:List Str} (h:N.Nodup/\N.take P.length=P/\(∀ x∈P,sc.names.lookup x=some .local∨sc.names.lookup x=some .cell)/\∀ y∈sc.names,y.2≠.free) (a:sc.kind=.function:=by rfl) (b:sc.isCoroutine=false:=by rfl) (c:sc.isGenerator=false:=by rfl):FnScope N P sc:=⟨a,b,c,h.1,h.2.1,h.2.2.1,h.2.2.2⟩
section
variable {P:qc2} {w:World} {K:xA9} {mg:Str->Option Value} {base:Heap}
abbrev y19:Stmt:=top 46
theorem q102:FnScope ["_law_cell","_law_boxes_here"] ["_law_cell","_law_boxes_here"] (aa y19):=fnS (by decide +kernel)
theorem ck:cE (aa y19) ["_law_cell","_law_boxes_here"]=true:=by decide +kernel
theorem y89:aC (aa y19) "len"=true:=by decide +kernel
theorem z35:aC (aa y19) "sorted"=true:=by decide +kernel
theorem z41:aC (aa y19) "tuple"=true:=by decide +kernel
theorem y104 (T:Txt P w K mg) (D:DefF K mg "_law_boxes" y19 ["_law_cell","_law_boxes_here"]):OkF P w K mg base "_law_boxes" 1 ["_law_cell","_law_boxes_here"] (spD K 2 q17):=
 b7 D q102 rfl fun f cdv A outer s H E q=>(ah (bf (aP (bz q) dj (DO.toB (au aY bH (ae (pvN 0 ck)) (DL.toB af))) (DL.toB af) (aF _)) (ar (aG (cI z41 bY eR T.n_tuple du (aD (DO.toB (aX z35 fE jK T.n_sorted iC (aD (DO.toB (e9 (ae (pvN 1 ck)) jf (eQ (DO.toB (au aY bH (DO.toB (au aQ bD (ae (pvN 0 ck)) (DL.toB af))) (DO.toB (au bu cK (DO.toB (aX y89 bt db T.n_len cj (aD (ae (pvN 1 ck)) aI))) (DL.toB af)))))))) aI))) aI)))) aK)
     (ah (bf (aP (bz q) dj (DO.toB (au aY bH (ae (pvN 0 ck)) (DL.toB af))) (DL.toB af) (aF _)) (ar (aG (cI z41 bY eR T.n_tuple du (aD (DO.toB (aX z35 fE jK T.n_sorted iC (aD (DO.toB (doC ["_law_box","_law_cell","_law_boxes_here"] (by kernel_rfl) (b9 (ae (pvN 1 ck))) (fun _ _ _ _=>dQ (aP (f7 q) mO (ae (pvX (by kernel_rfl))) (DO.toB (aq q (ae (pvX (by kernel_rfl))) (DO.toB (au aY bH (DO.toB (au aQ bD (ae (pvX (by kernel_rfl))) (DL.toB af))) (DO.toB (aX (by decide +kernel) bt db T.n_len cj (aD (ae (pvX (by kernel_rfl))) aI) (e1:=(scC (outer:=aa y19) rfl)))))))) (aF _))) (fun _ _ _ _=>(al (pvX (by kernel_rfl)))))) aI))) aI)))) aK)
     (ar (aG (cI z41 bY eR T.n_tuple du (aD (DO.toB (aX z35 fE jK T.n_sorted iC (aD (ae (pvN 1 ck)) aI))) aI))))))
abbrev y26:Stmt:=top 33
theorem z96:FnScope ["_law_script","_law_k"] ["_law_script","_law_k"] (aa y26):=fnS (by decide +kernel)
theorem dh:cE (aa y26) ["_law_script","_law_k"]=true:=by decide +kernel
theorem q83:aC (aa y26) "len"=true:=by decide +kernel
theorem q97 (T:Txt P w K mg) (D:DefF K mg "_law_cell_at" y26 ["_law_script","_law_k"]):OkF P w K mg base "_law_cell_at" 1 ["_law_script","_law_k"] (spD K 2 y1):=
 b7 D z96 rfl fun f cdv A outer s H E q=>(ah (bf (aP jn ia (ae (pvN 1 dh)) (DO.toB (aX q83 bt db T.n_len cj (aD (ae (pvN 0 dh)) aI))) (aF _)) (ar (aG (aq q (ae (pvN 0 dh)) (ae (pvN 1 dh))))) aK)
     (ar (aG (DL.toO af))))
abbrev z42:Stmt:=top 38
theorem y102:FnScope ["_law_rows","_law_at"] ["_law_rows","_law_at"] (aa z42):=fnS (by decide +kernel)
theorem bn:cE (aa z42) ["_law_rows","_law_at"]=true:=by decide +kernel
theorem q103 (T:Txt P w K mg) (D:DefF K mg "_law_exits" z42 ["_law_rows","_law_at"]):OkF P w K mg base "_law_exits" 1 ["_law_rows","_law_at"] (spD K 2 y15):=
 b7 D y102 rfl fun f cdv A outer s H E q=>(ah (bf (aP (bz q) dj (DO.toB (aq q (DO.toB (aq q (ae (pvN 0 bn)) (ae (pvN 1 bn)))) (DL.toB af))) (DL.toB aZ) (aF _)) (ar (aG (bB ai))) aK)
     (ah (bf (aP (bz q) dj (DO.toB (aq q (DO.toB (aq q (ae (pvN 0 bn)) (ae (pvN 1 bn)))) (DL.toB af))) (DL.toB aZ) (aF _)) (ar (aG (bB (ac (DO.toL (aq q (DO.toB (aq q (ae (pvN 0 bn)) (ae (pvN 1 bn)))) (DL.toB af))) ai)))) aK)
     (ah (bf (aP (bz q) dj (DO.toB (aq q (DO.toB (aq q (ae (pvN 0 bn)) (ae (pvN 1 bn)))) (DL.toB af))) (DL.toB aZ) (aF _)) (ar (aG (bB (ac (DO.toL (aq q (DO.toB (aq q (ae (pvN 0 bn)) (ae (pvN 1 bn)))) (DL.toB af))) (ac (DO.toL (au bu cK (ae (pvN 1 bn)) (DL.toB af))) ai))))) aK)
     (ar (aG (bB (ac (DO.toL (au bu cK (ae (pvN 1 bn)) (DL.toB af))) ai)))))))
abbrev q27:Stmt:=top 39
theorem z20:FnScope ["_law_row_here","_law_atoms"] ["_law_row_here"] (aa q27):=fnS (by decide +kernel)
theorem aB:cE (aa q27) ["_law_row_here","_law_atoms"]=true:=by decide +kernel
theorem q95 (T:Txt P w K mg) (D:DefF K mg "_law_read_by" q27 ["_law_row_here"]):OkF P w K mg base "_law_read_by" 1 ["_law_row_here"] (spD K 1 y11):=
 b7 D z20 rfl fun f cdv A outer s H E q=>(ah (dsN aB z20.nd (DL.toO (DO.toL (bB ai))))
     (ah (bf (jG q (DO.toB (aq q (ae (pvN 0 aB)) (DL.toB af))) (DO.toB (bq (ac aZ (ac aZ ai))))) (ar (dsN aB z20.nd (DL.toO (DO.toL (bB (ac (DO.toL (aq q (ae (pvN 0 aB)) (DL.toB af))) ai)))))) aK)
     (ah (bf (aP (bz q) dj (DO.toB (aq q (ae (pvN 0 aB)) (DL.toB af))) (DL.toB aZ) (aF _)) (ar (dsN aB z20.nd (DL.toO (DO.toL (bB (ac (DO.toL (aq q (ae (pvN 0 aB)) (DL.toB af))) (ac (DO.toL (aq q (ae (pvN 0 aB)) (DL.toB af))) ai))))))) aK)
     (ah (bf (aP (bz q) dj (DO.toB (aq q (ae (pvN 0 aB)) (DL.toB af))) (DL.toB aZ) (aF _)) (ar (dsN aB z20.nd (DL.toO (DO.toL (bB (ac (DO.toL (aq q (ae (pvN 0 aB)) (DL.toB af))) ai)))))) aK)
     (ah (bf (aP (bz q) dj (DO.toB (aq q (ae (pvN 0 aB)) (DL.toB af))) (DL.toB aZ) (aF _)) (ar (dsN aB z20.nd (DL.toO (DO.toL (bB (ac (DO.toL (aq q (ae (pvN 0 aB)) (DL.toB af))) (ac (DO.toL (aq q (ae (pvN 0 aB)) (DL.toB af))) ai))))))) aK)
     (ah (bf (jG q (DO.toB (aq q (ae (pvN 0 aB)) (DL.toB af))) (DO.toB (bq (ac aZ (ac aZ (ac aZ ai)))))) (ar (dsN aB z20.nd (DL.toO (DO.toL (bB (ac (DO.toL (aq q (ae (pvN 0 aB)) (DL.toB af))) ai)))))) aK)
     (ar (aG (doC ["_law_atom_here"] (by kernel_rfl) (b9 (ae (pvN 1 aB))) (fun _ _ _ _=>dQ (bQ (DO.toB (dm (by decide +kernel) (by decide +kernel) T.n_isinstance T.n_str om T.k_str (ae (pvX (by kernel_rfl))) (e1:=(scC (outer:=aa q27) rfl)))) (fun _=>rfl))) (fun _ _ _ _=>(al (pvX (by kernel_rfl)))))))))))))
abbrev z37:Stmt:=top 40
theorem y98:FnScope ["_law_row_here"] ["_law_row_here"] (aa z37):=fnS (by decide +kernel)
theorem gb:cE (aa z37) ["_law_row_here"]=true:=by decide +kernel
theorem q100 (T:Txt P w K mg) (D:DefF K mg "_law_set_by" z37 ["_law_row_here"]):OkF P w K mg base "_law_set_by" 1 ["_law_row_here"] (spD K 1 y17):=
 b7 D y98 rfl fun f cdv A outer s H E q=>(ah (bf (jG q (DO.toB (aq q (ae (pvN 0 gb)) (DL.toB af))) (DO.toB (bq (ac aZ (ac aZ (ac aZ (ac aZ (ac aZ ai)))))))) (ar (aG (aq q (ae (pvN 0 gb)) (DL.toB af)))) aK)
     (ar (aG (DL.toO dJ))))
abbrev q23:Stmt:=top 41
theorem y103:FnScope ["_law_found"] ["_law_found"] (aa q23):=fnS (by decide +kernel)
theorem gB:cE (aa q23) ["_law_found"]=true:=by decide +kernel
theorem y42:aC (aa q23) "isinstance"=true:=by decide +kernel
theorem q87:aC (aa q23) "bool"=true:=by decide +kernel
theorem y90:aC (aa q23) "int"=true:=by decide +kernel
theorem z102 (T:Txt P w K mg) (D:DefF K mg "_law_whole" q23 ["_law_found"]):OkF P w K mg base "_law_whole" 1 ["_law_found"] (spD K 1 z70):=b7 D y103 rfl fun f cdv A outer s H E q=>(ar (aG (tD (DO.toB (dm y42 y90 T.n_isinstance T.n_int oj T.k_int (ae (pvN 0 gB)))) (tz (Aa (DO.toB (dm y42 q87 T.n_isinstance T.n_bool pR T.k_bool (ae (pvN 0 gB)))))))))
abbrev y2:Stmt:=top 44
theorem q20:FnScope ["_law_rows","_law_code","_law_found","_law_box","_law_way","_law_begin","_law_places_here","_law_k"] ["_law_rows","_law_code","_law_found"] (aa y2):=fnS (by decide +kernel)
theorem am:cE (aa y2) ["_law_rows","_law_code","_law_found","_law_box","_law_way","_law_begin","_law_places_here","_law_k"]=true:=by decide +kernel
theorem q25:aC (aa y2) "isinstance"=true:=by decide +kernel
theorem y80:aC (aa y2) "list"=true:=by decide +kernel
theorem y81:aC (aa y2) "str"=true:=by decide +kernel
theorem y54:aC (aa y2) "len"=true:=by decide +kernel
theorem z80:aC (aa y2) "bool"=true:=by decide +kernel
theorem y82:aC (aa y2) "all"=true:=by decide +kernel
theorem z56:aC (aa y2) "_law_read_by"=true:=by decide +kernel
theorem y78:aC (aa y2) "range"=true:=by decide +kernel
theorem y58:aC (aa y2) "_law_set_by"=true:=by decide +kernel
theorem z61:aC (aa y2) "_law_exits"=true:=by decide +kernel
theorem y93 (T:Txt P w K mg) (D:DefF K mg "_law_is_lost" y2 ["_law_rows","_law_code","_law_found"]) (q21:OkF P w K mg base "_law_exits" 1 ["_law_rows","_law_at"] (spD K 2 (y15))) (Z:OkF P w K mg base "_law_read_by" 1 ["_law_row_here"] (spD K 1 (y11))) (z30:OkF P w K mg base "_law_set_by" 1 ["_law_row_here"] (spD K 1 (y17))) (Y:OkF P w K mg base "_law_whole" 1 ["_law_found"] (spD K 1 (z70))):OkF P w K mg base "_law_is_lost" 2 ["_law_rows","_law_code","_law_found"] (spD K 3 q22):=
 b7 D q20 rfl fun f cdv A outer s H E q=>(ah (bf (DW.t (fY (aP (f7 q) mO (DO.toB (aX y54 bt db T.n_len cj (aD (ae (pvN 2 am)) aI))) (DL.toB af) (aF _)) (fY (fX (bQ (DO.toB (dm q25 y81 T.n_isinstance T.n_str om T.k_str (DO.toB (aq q (ae (pvN 2 am)) (DL.toB af))))) (fun _=>rfl))) (fY (fX (bQ (DO.toB (dm q25 y80 T.n_isinstance T.n_list ja T.k_list (DO.toB (aq q (ae (pvN 2 am)) (DL.toB af))))) (fun _=>rfl))) (iF (aP (bz q) dj (DO.toB (aq q (ae (pvN 2 am)) (DL.toB af))) (DO.toB (bB ai)) (aF _))))))) (ar cA) aK)
     (ah (tG (DO.toL (e9 (ae (pvN 2 am)) (eQ (DL.toB af)) jf)) (gI rfl (bR (aO (aW (nsN am 3) (nsL am 3) q20.nd)) (bR (aO (aW (nsN am 4) (nsL am 4) q20.nd)) (bR (aO (aW (nsN am 5) (nsL am 5) q20.nd)) fz)))))
     (ah (bf (DW.t (fY (fX (bQ (DO.toB (aX y82 (sU rfl) (yb (f:=fun bs=>bs.all id)) T.n_all zU (aD (DO.toB (doC ["_law_at"] (by kernel_rfl) (b9 (ae (pvN 4 am))) (fun _ _ _ _=>cP) (fun _ _ _ _=>(DO.toL (aw (by decide +kernel) Y (q.mono (by decide)) (ac (al (pvX (by kernel_rfl))) ai) (e1:=(scC (outer:=aa y2) rfl))))))) aI))) (fun _=>rfl))) (iF (fX (bQ (DO.toB (dm q25 z80 T.n_isinstance T.n_bool pR T.k_bool (ae (pvN 5 am)))) (fun _=>rfl)))))) (ar cA) aK)
     (ah (f8 (nsN am 6) (nsL am 6) q20.nd (M:=["_law_at","_law_told","_law_way"]) (src:=[none,none,some 4]) (ts:=[0,1]) (CmpScope.of (by kernel_rfl)) rfl (b9 (DO.toB (aq q (ae (pvN 1 am)) (DL.toB af)))) (fun O _ _ _ _=>(gI rfl (bR (aO (cS (N:=["_law_at","_law_told","_law_way"]) (i:=0) (by decide +kernel) (by decide +kernel) O (scC (outer:=aa y2) (by exact rfl)))) (bR (aO (cS (N:=["_law_at","_law_told","_law_way"]) (i:=1) (by decide +kernel) (by decide +kernel) O (scC (outer:=aa y2) (by exact rfl)))) fz)))) (fun _ _ _ _=>dQ (aP (bz q) dj (ae (pvX (by kernel_rfl))) (DO.toB (aq q (ae (pvX (by kernel_rfl))) (DL.toB af))) (aF _))) (fun _ _ _ _=>(al (pvX (by kernel_rfl)))) (by decide +kernel))
     (ah (bf (bQ (ae (pvN 5 am)) (fun _=>rfl)) (ar (f8 (nsN am 6) (nsL am 6) q20.nd (M:=["_law_told","_law_way"]) (src:=[none,some 4]) (ts:=[0]) (CmpScope.of (by kernel_rfl)) rfl (b9 (DO.toB (bB (ac (DO.toL (aq q (ae (pvN 1 am)) (DL.toB af))) ai)))) (fun O _ _ _ _=>(aO (cS (N:=["_law_told","_law_way"]) (i:=0) (by decide +kernel) (by decide +kernel) O (scC (outer:=aa y2) (by exact rfl))))) (fun _ _ _ _=>dQ (aP (bz q) dj (DO.toB (aq q (ae (pvX (by kernel_rfl))) (DL.toB af))) (DL.toB af) (aF _))) (fun _ _ _ _=>(al (pvX (by kernel_rfl)))) (by decide +kernel))) aK)
     (ah (bf (DW.t (fY (aP (bz q) dj (ae (pvN 6 am)) (DO.toB (bB ai)) (aF _)) (fY (jG q (ae (pvN 3 am)) (DO.toB (aq q (ae (pvN 6 am)) (DL.toB af)))) (iF (dz q (ae (pvN 3 am)) (DO.toB (aw z56 Z (q.mono (by decide)) (ac (DO.toL (aq q (ae (pvN 0 am)) (DO.toB (aq q (ae (pvN 4 am)) (DO.toB (oF (DL.toB af))))))) ai)))))))) (ar cA) aK)
     (ah (c6 qd3 rfl (dL y78 T.n_range (ac (DO.toL (au sy ya (DO.toB (aX y54 bt db T.n_len cj (aD (ae (pvN 4 am)) aI))) (DL.toB af))) ai)) (aO (aW (nsN am 7) (nsL am 7) q20.nd)) (ar (bf (DW.t (fY (dz q (DO.toB (aq q (ae (pvN 4 am)) (DO.toB (au bu cK (ae (pvN 7 am)) (DL.toB af))))) (DO.toB (aw z61 q21 (q.mono (by decide)) (ac (al (pvN 0 am)) (ac (DO.toL (aq q (ae (pvN 4 am)) (ae (pvN 7 am)))) ai))))) (iF (aP (bz q) dj (DO.toB (aw y58 z30 (q.mono (by decide)) (ac (DO.toL (aq q (ae (pvN 0 am)) (DO.toB (aq q (ae (pvN 4 am)) (ae (pvN 7 am)))))) ai))) (ae (pvN 3 am)) (aF _))))) (ar cA) aK)))
     (ar (aG (DL.toO d8))))))))))
abbrev q13:Stmt:=top 42
theorem y25:FnScope ["_law_rows","_law_at","_law_box","_law_seen","_law_left","_law_here","_law_to"] ["_law_rows","_law_at","_law_box"] (aa q13):=fnS (by decide +kernel)
theorem av:cE (aa q13) ["_law_rows","_law_at","_law_box","_law_seen","_law_left","_law_here","_law_to"]=true:=by decide +kernel
theorem q77:aC (aa q13) "len"=true:=by decide +kernel
theorem z52:aC (aa q13) "_law_read_by"=true:=by decide +kernel
theorem y53:aC (aa q13) "_law_set_by"=true:=by decide +kernel
theorem z58:aC (aa q13) "_law_exits"=true:=by decide +kernel
theorem z90 (T:Txt P w K mg) (D:DefF K mg "_law_is_needed" q13 ["_law_rows","_law_at","_law_box"]) (O:OkF P w K mg base "_law_exits" 1 ["_law_rows","_law_at"] (spD K 2 (y15))) (Y:OkF P w K mg base "_law_read_by" 1 ["_law_row_here"] (spD K 1 (y11))) (Z:OkF P w K mg base "_law_set_by" 1 ["_law_row_here"] (spD K 1 (y17))):OkF P w K mg base "_law_is_needed" 2 ["_law_rows","_law_at","_law_box"] (spD K 3 q14):=
 b7 D y25 rfl fun f cdv A outer s H E q=>(ah (dsN av y25.nd (wF (uc (al (pvN 1 av)) d8 wE) rfl rfl (by decide) (by decide)))
     (ah (dsN av y25.nd (bB (ac (al (pvN 1 av)) ai)))
     (ah (fZ 100000 qd3 (aP xQ ia (DO.toB (aX q77 bt db T.n_len cj (aD (ae (pvN 4 av)) aI))) (DL.toB af) (aF _)) (ah (Az (nsN av 5) (nsL av 5) y25.nd (pvN 4 av))
     (ah (bf (jG q (ae (pvN 2 av)) (DO.toB (aw z52 Y (q.mono (by decide)) (ac (DO.toL (aq q (ae (pvN 0 av)) (ae (pvN 5 av)))) ai)))) (ar (aG (DL.toO d8))) aK)
     (ar (bf (aP (f7 q) mO (DO.toB (aw y53 Z (q.mono (by decide)) (ac (DO.toL (aq q (ae (pvN 0 av)) (ae (pvN 5 av)))) ai))) (ae (pvN 2 av)) (aF _)) (ar (c6 qd3 rfl (eI (DO.toL (aw z58 O (q.mono (by decide)) (ac (al (pvN 0 av)) (ac (al (pvN 5 av)) ai))))) (aO (aW (nsN av 6) (nsL av 6) y25.nd)) (ar (bf (dz q (ae (pvN 6 av)) (ae (pvN 3 av))) (ah (lU q (pvN 3 av) (ae (pvN 6 av)) d8)
     (ar (cW (pvN 4 av) (al (pvN 6 av))))) aK)))) aK)))))
     (ar (aG (DL.toO d8))))))
abbrev y29:Stmt:=top 43
theorem q61:FnScope ["_law_rows","_law_code","_law_boxes_here","_law_at","_law_told"] ["_law_rows","_law_code","_law_boxes_here"] (aa y29):=fnS (by decide +kernel)
theorem cq:cE (aa y29) ["_law_rows","_law_code","_law_boxes_here","_law_at","_law_told"]=true:=by decide +kernel
theorem y85:aC (aa y29) "list"=true:=by decide +kernel
theorem q105 (T:Txt P w K mg) (D:DefF K mg "_law_lacks" y29 ["_law_rows","_law_code","_law_boxes_here"]) (O:OkF P w K mg base "_law_is_needed" 2 ["_law_rows","_law_at","_law_box"] (spD K 3 (q14))):OkF P w K mg base "_law_lacks" 3 ["_law_rows","_law_code","_law_boxes_here"] (spD K 3 y20):=
 b7 D q61 rfl fun f cdv A outer s H E q=>(ah (c6 qd3 rfl (eI (DO.toL (au bu cK (DO.toB (bB (ac (DO.toL (bq (ac af (ac (DO.toL (aq q (ae (pvN 1 cq)) (DL.toB af))) ai)))) ai))) (DO.toB (cI y85 lH Ag T.n_list ja (aD (DO.toB (aq q (ae (pvN 1 cq)) (DL.toB af))) aI)))))) (gI rfl (bR (aO (aW (nsN cq 3) (nsL cq 3) q61.nd)) (bR (aO (aW (nsN cq 4) (nsL cq 4) q61.nd)) fz))) (ar (bf (aP (f7 q) mO (DO.toB (doC ["_law_box","_law_rows","_law_at","_law_told"] (by kernel_rfl) (b9 (ae (pvN 2 cq))) (fun _ _ _ _=>dQ (DW.t (oA (dz q (ae (pvX (by kernel_rfl))) (ae (pvX (by kernel_rfl)))) (lQ (bQ (DO.toB (aw (by decide +kernel) O (q.mono (by decide)) (ac (al (pvX (by kernel_rfl))) (ac (al (pvX (by kernel_rfl))) (ac (al (pvX (by kernel_rfl))) ai))) (e1:=(scC (outer:=aa y29) rfl)))) (fun _=>rfl)))))) (fun _ _ _ _=>(al (pvX (by kernel_rfl)))))) (DO.toB (bB ai)) (aF _)) (ar (aG (DL.toO d8))) aK)))
     (ar (aG (DL.toO d8))))
abbrev z34:Stmt:=top 34
theorem y37:FnScope ["_law_cell","_law_many","_law_letters","_law_size","_law_word","_law_at"] ["_law_cell","_law_many"] (aa z34):=fnS (by decide +kernel)
theorem bO:cE (aa z34) ["_law_cell","_law_many","_law_letters","_law_size","_law_word","_law_at"]=true:=by decide +kernel
theorem q55:aC (aa z34) "range"=true:=by decide +kernel
theorem y105 (T:Txt P w K mg) (D:DefF K mg "_law_names" z34 ["_law_cell","_law_many"]):OkF P w K mg base "_law_names" 1 ["_law_cell","_law_many"] (spD K 2 q15):=
 b7 D y37 rfl fun f cdv A outer s H E q=>(ah (dsN bO y37.nd (DL.toO aZ))
     (ah (dsN bO y37.nd (DL.toO (DO.toL (au aY bH (ae (pvN 0 bO)) (DL.toB af)))))
     (ah (dsN bO y37.nd (DL.toO (DO.toL (wq (DL.toB aZ) (aD (DO.toB (doC ["_law_k","_law_cell","_law_letters"] (by kernel_rfl) (DIF.toB (dL q55 T.n_range (ac (al (pvN 3 bO)) ai))) (fun _ _ _ _=>cP) (fun _ _ _ _=>(DO.toL (aq q (ae (pvX (by kernel_rfl))) (DO.toB (au aY bH (DO.toB (au aQ bD (DO.toB (au aY bH (DO.toB (au gC jE (ae (pvX (by kernel_rfl))) (DO.toB (au bu cK (DL.toB af) (DO.toB (au gC jE (DL.toB af) (ae (pvX (by kernel_rfl))))))))) (DL.toB af))) (DL.toB af))) (DL.toB af)))))))) aI)))))
     (ah (dsN bO y37.nd (DL.toO (DO.toL (au aY bH (DO.toB (au aQ bD (ae (pvN 0 bO)) (DL.toB af))) (DO.toB (au bu cK (ae (pvN 3 bO)) (DL.toB af)))))))
     (ar (aG (doC ["_law_k","_law_cell","_law_letters","_law_word","_law_at"] (by kernel_rfl) (DIF.toB (dL q55 T.n_range (ac (al (pvN 1 bO)) ai))) (fun _ _ _ _=>cP) (fun _ _ _ _=>(DO.toL (au bu cK (DO.toB (au bu cK (DO.toB (e9 (ae (pvX (by kernel_rfl))) jf (eQ (ae (pvX (by kernel_rfl)))))) (DO.toB (aq q (ae (pvX (by kernel_rfl))) (DO.toB (au aY bH (DO.toB (au bu cK (DO.toB (au aQ bD (ae (pvX (by kernel_rfl))) (DL.toB af))) (ae (pvX (by kernel_rfl))))) (DL.toB af))))))) (DO.toB (e9 (ae (pvX (by kernel_rfl))) (eQ (ae (pvX (by kernel_rfl)))) jf))))))))))))
abbrev q18:Stmt:=top 45
theorem y43:FnScope ["_law_rows","_law_every","_law_found","_law_at","_law_into"] ["_law_rows","_law_every"] (aa q18):=fnS (by decide +kernel)
theorem aM:cE (aa q18) ["_law_rows","_law_every","_law_found","_law_at","_law_into"]=true:=by decide +kernel
theorem y59:aC (aa q18) "len"=true:=by decide +kernel
theorem q52:aC (aa q18) "range"=true:=by decide +kernel
theorem y97 (T:Txt P w K mg) (D:DefF K mg "_law_places" q18 ["_law_rows","_law_every"]) (O:OkF P w K mg base "_law_exits" 1 ["_law_rows","_law_at"] (spD K 2 (y15))):OkF P w K mg base "_law_places" 2 ["_law_rows","_law_every"] (spD K 2 z24):=
 b7 D y43 rfl fun f cdv A outer s H E q=>(ah (dsN aM y43.nd (bB ai))
     (ah (c6 qd3 rfl (dL q52 T.n_range (ac (DO.toL (aX y59 bt db T.n_len cj (aD (ae (pvN 0 aM)) aI))) ai)) (aO (aW (nsN aM 3) (nsL aM 3) y43.nd)) (ah (f8 (nsN aM 4) (nsL aM 4) y43.nd (M:=["_law_k","_law_rows","_law_at"]) (src:=[none,some 0,some 3]) (ts:=[0]) (CmpScope.of (by kernel_rfl)) rfl (DIF.toB (rf q52 T.n_range (ac (al (pvN 3 aM)) (ac (DO.toL (aX y59 bt db T.n_len cj (aD (ae (pvN 0 aM)) aI))) ai)))) (fun Y _ _ _ _=>(aO (cS (N:=["_law_k","_law_rows","_law_at"]) (i:=0) (by decide +kernel) (by decide +kernel) Y (scC (outer:=aa q18) (by exact rfl))))) (fun _ _ _ _=>dQ (jG q (ae (pvX (by kernel_rfl))) (DO.toB (aw (by decide +kernel) O (q.mono (by decide)) (ac (al (pvX (by kernel_rfl))) (ac (al (pvX (by kernel_rfl))) ai)) (e1:=(scC (outer:=aa q18) rfl)))))) (fun _ _ _ _=>(al (pvX (by kernel_rfl)))) (by decide +kernel))
     (ar (bf (DW.t (fY (bQ (ae (pvN 1 aM)) (fun _=>rfl)) (fY (aP (bz q) dj (DO.toB (aq q (DO.toB (aq q (ae (pvN 0 aM)) (ae (pvN 3 aM)))) (DL.toB af))) (DL.toB aZ) (aF _)) (iF (aP (f7 q) mO (ae (pvN 4 aM)) (DO.toB (bB ai)) (aF _)))))) (ar (cW (pvN 2 aM) (al (pvN 3 aM)))) aK))))
     (ar (hZ (pvN 2 aM)))))
abbrev q41:Stmt:=top 35
theorem y108:FnScope ["_law_cell","_law_boxes_here"] ["_law_cell","_law_boxes_here"] (aa q41):=fnS (by decide +kernel)
theorem cF:cE (aa q41) ["_law_cell","_law_boxes_here"]=true:=by decide +kernel
theorem z93:aC (aa q41) "len"=true:=by decide +kernel
theorem q107 (T:Txt P w K mg) (D:DefF K mg "_law_atom" q41 ["_law_cell","_law_boxes_here"]):OkF P w K mg base "_law_atom" 1 ["_law_cell","_law_boxes_here"] (spD K 2 z19):=
 b7 D y108 rfl fun f cdv A outer s H E q=>(ah (bf (aP (bz q) dj (DO.toB (au aY bH (ae (pvN 0 cF)) (DL.toB af))) (DL.toB af) (aF _)) (ar (aG (aq q (DO.toB (bB (ac (DO.toL (au aY bH (DO.toB (au aQ bD (ae (pvN 0 cF)) (DL.toB af))) (DO.toB (au zE Cg (DL.toB af) (DL.toB af))))) (ac (DO.toL (au aY bH (DO.toB (au aQ bD (ae (pvN 0 cF)) (DL.toB af))) (DL.toB af))) ai)))) (DO.toB (au aY bH (DO.toB (au aQ bD (ae (pvN 0 cF)) (DL.toB af))) (DL.toB af)))))) aK)
     (ar (aG (aq q (ae (pvN 1 cF)) (DO.toB (au aY bH (DO.toB (au aQ bD (ae (pvN 0 cF)) (DL.toB af))) (DO.toB (aX z93 bt db T.n_len cj (aD (ae (pvN 1 cF)) aI)))))))))
abbrev y36:Stmt:=top 36
theorem y39:FnScope ["_law_cell","_law_boxes_here","_law_cells","_law_shelves","_law_many","_law_number","_law_x","_law_one","_law_other","_law_kind"] ["_law_cell","_law_boxes_here","_law_cells","_law_shelves","_law_many"] (aa y36):=fnS (by decide +kernel)
theorem aj:cE (aa y36) ["_law_cell","_law_boxes_here","_law_cells","_law_shelves","_law_many","_law_number","_law_x","_law_one","_law_other","_law_kind"]=true:=by decide +kernel
theorem y31:aC (aa y36) "len"=true:=by decide +kernel
theorem q50:aC (aa y36) "_law_atom"=true:=by decide +kernel
theorem y109 (T:Txt P w K mg) (D:DefF K mg "_law_row" y36 ["_law_cell","_law_boxes_here","_law_cells","_law_shelves","_law_many"]) (O:OkF P w K mg base "_law_atom" 1 ["_law_cell","_law_boxes_here"] (spD K 2 (z19))):OkF P w K mg base "_law_row" 2 ["_law_cell","_law_boxes_here","_law_cells","_law_shelves","_law_many"] (spD K 5 y52):=
 b7 D y39 rfl fun f cdv A outer s H E q=>(ah (dsN aj y39.nd (DL.toO (DO.toL (au aQ bD (DO.toB (au aY bH (DO.toB (au gC jE (ae (pvN 0 aj)) (DL.toB af))) (DL.toB af))) (DL.toB af)))))
     (ah (dsN aj y39.nd (DL.toO (DO.toL (aq q (ae (pvN 1 aj)) (DO.toB (au aY bH (ae (pvN 5 aj)) (DO.toB (aX y31 bt db T.n_len cj (aD (ae (pvN 1 aj)) aI)))))))))
     (ah (dsN aj y39.nd (DL.toO (DO.toL (aw q50 O (q.mono (by decide)) (ac (DO.toL (au aQ bD (ae (pvN 0 aj)) (DL.toB af))) (ac (al (pvN 1 aj)) ai))))))
     (ah (dsN aj y39.nd (DL.toO (DO.toL (aw q50 O (q.mono (by decide)) (ac (DO.toL (au aQ bD (ae (pvN 5 aj)) (DL.toB af))) (ac (al (pvN 1 aj)) ai))))))
     (ah (dsN aj y39.nd (DL.toO (DO.toL (au aY bH (ae (pvN 0 aj)) (DL.toB af)))))
     (ah (bf (aP (bz q) dj (DO.toB (au aY bH (DO.toB (au aQ bD (ae (pvN 5 aj)) (DL.toB af))) (DL.toB af))) (DL.toB af) (aF _)) (ar (aG (bq (ac aZ (ac (al (pvN 7 aj)) ai))))) aK)
     (ah (bf (aP (bz q) dj (ae (pvN 9 aj)) (DL.toB af) (aF _)) (ar (aG (bq (ac aZ (ac (al (pvN 6 aj)) (ac (al (pvN 7 aj)) ai)))))) aK)
     (ah (bf (aP jn ia (ae (pvN 9 aj)) (DL.toB af) (aF _)) (ar (aG (bq (ac aZ (ac (al (pvN 6 aj)) (ac (DO.toL (aq q (DL.toB aZ) (DO.toB (au aY bH (DO.toB (au aQ bD (ae (pvN 5 aj)) (DL.toB af))) (DL.toB af))))) (ac (al (pvN 7 aj)) (ac (al (pvN 8 aj)) ai)))))))) aK)
     (ah (bf (aP jn ia (ae (pvN 9 aj)) (DL.toB af) (aF _)) (ar (aG (bq (ac aZ (ac (al (pvN 6 aj)) (ac (DO.toL (aq q (ae (pvN 2 aj)) (DO.toB (au aY bH (DO.toB (au aQ bD (ae (pvN 5 aj)) (DL.toB af))) (DO.toB (aX y31 bt db T.n_len cj (aD (ae (pvN 2 aj)) aI))))))) ai)))))) aK)
     (ah (bf (aP jn ia (ae (pvN 9 aj)) (DL.toB af) (aF _)) (ar (aG (bq (ac aZ (ac (DO.toL (aq q (ae (pvN 2 aj)) (DO.toB (au aY bH (DO.toB (au aQ bD (ae (pvN 5 aj)) (DL.toB af))) (DO.toB (aX y31 bt db T.n_len cj (aD (ae (pvN 2 aj)) aI))))))) (ac (al (pvN 7 aj)) ai)))))) aK)
     (ah (bf (aP (bz q) dj (ae (pvN 9 aj)) (DL.toB af) (aF _)) (ar (aG (bq (ac aZ (ac (al (pvN 6 aj)) (ac (DO.toL (aq q (ae (pvN 3 aj)) (DO.toB (au aY bH (DO.toB (au aQ bD (ae (pvN 5 aj)) (DL.toB af))) (DO.toB (aX y31 bt db T.n_len cj (aD (ae (pvN 3 aj)) aI))))))) (ac (al (pvN 7 aj)) ai))))))) aK)
     (ah (bf (aP (bz q) dj (ae (pvN 9 aj)) (DL.toB af) (aF _)) (ar (aG (bq (ac aZ (ac (DO.toL (aq q (ae (pvN 3 aj)) (DO.toB (au aY bH (DO.toB (au aQ bD (ae (pvN 5 aj)) (DL.toB af))) (DO.toB (aX y31 bt db T.n_len cj (aD (ae (pvN 3 aj)) aI))))))) (ac (al (pvN 7 aj)) (ac (al (pvN 8 aj)) ai))))))) aK)
     (ah (bf (aP (bz q) dj (ae (pvN 9 aj)) (DL.toB af) (aF _)) (ar (aG (bq (ac aZ (ac (al (pvN 6 aj)) ai))))) aK)
     (ah (bf (aP (bz q) dj (ae (pvN 9 aj)) (DL.toB af) (aF _)) (ar (aG (bq (ac aZ (ac (al (pvN 7 aj)) ai))))) aK)
     (ah (bf (aP jn ia (ae (pvN 9 aj)) (DL.toB af) (aF _)) (ar (aG (bq (ac aZ (ac (al (pvN 7 aj)) (ac (DO.toL (au aY bH (DO.toB (au aQ bD (ae (pvN 5 aj)) (DL.toB af))) (ae (pvN 4 aj)))) ai)))))) aK)
     (ar (aG (bq (ac aZ (ac (DO.toL (au aY bH (DO.toB (au aQ bD (ae (pvN 5 aj)) (DL.toB af))) (ae (pvN 4 aj)))) ai))))))))))))))))))))
abbrev z11:Stmt:=top 37
theorem y10:FnScope ["_law_script","_law_most","_law_things","_law_wide","_law_many","_law_bits","_law_cells","_law_shelves","_law_k","_law_boxes_here","_law_told","_law_rows","_law_cell","_law_names_here"] ["_law_script","_law_most"] (aa z11):=fnS (by decide +kernel)
theorem ag:cE (aa z11) ["_law_script","_law_most","_law_things","_law_wide","_law_many","_law_bits","_law_cells","_law_shelves","_law_k","_law_boxes_here","_law_told","_law_rows","_law_cell","_law_names_here"]=true:=by decide +kernel
theorem z10:aC (aa z11) "_law_cell_at"=true:=by decide +kernel
theorem q54:aC (aa z11) "int"=true:=by decide +kernel
theorem z39:aC (aa z11) "_law_names"=true:=by decide +kernel
theorem q49:aC (aa z11) "range"=true:=by decide +kernel
theorem y34:aC (aa z11) "tuple"=true:=by decide +kernel
theorem y84:aC (aa z11) "len"=true:=by decide +kernel
theorem z69:aC (aa z11) "_law_row"=true:=by decide +kernel
theorem q65:aC (aa z11) "_law_atom"=true:=by decide +kernel
theorem y95 (T:Txt P w K mg) (D:DefF K mg "_law_program" z11 ["_law_script","_law_most"]) (Z:OkF P w K mg base "_law_atom" 1 ["_law_cell","_law_boxes_here"] (spD K 2 (z19))) (O:OkF P w K mg base "_law_cell_at" 1 ["_law_script","_law_k"] (spD K 2 (y1))) (Y:OkF P w K mg base "_law_names" 1 ["_law_cell","_law_many"] (spD K 2 (q15))) (y79:OkF P w K mg base "_law_row" 2 ["_law_cell","_law_boxes_here","_law_cells","_law_shelves","_law_many"] (spD K 5 (y52))):OkF P w K mg base "_law_program" 3 ["_law_script","_law_most"] (spD K 2 z27):=
 b7 D y10 rfl fun f cdv A outer s H E q=>(ah (dsN ag y10.nd (DL.toO (DO.toL (aw z39 Y (q.mono (by decide)) (ac (DO.toL (aw z10 O (q.mono (by decide)) (ac (al (pvN 0 ag)) (ac (DO.toL (cI q54 kK yd T.n_int oj (aD (DO.toB (eU xQ ia (DO.toB (au aY bH (DO.toB (aw z10 O (q.mono (by decide)) (ac (al (pvN 0 ag)) (ac af ai)))) (DL.toB af))) (DL.toB af) (aF _))) aI))) ai)))) (ac af ai))))))
     (ah (dsN ag y10.nd (DL.toO (DO.toL (au bu cK (DL.toB af) (DO.toB (cI q54 kK yd T.n_int oj (aD (DO.toB (eU (bz q) dj (DO.toB (au aY bH (DO.toB (au aQ bD (DO.toB (aw z10 O (q.mono (by decide)) (ac (al (pvN 0 ag)) (ac af ai)))) (DL.toB af))) (DL.toB af))) (DL.toB af) (aF _))) aI)))))))
     (ah (dsN ag y10.nd (DL.toO (DO.toL (au bu cK (DL.toB af) (DO.toB (au aY bH (DO.toB (aw z10 O (q.mono (by decide)) (ac (al (pvN 0 ag)) (ac af ai)))) (DO.toB (au gC jE (DL.toB af) (ae (pvN 3 ag))))))))))
     (ah (dsN ag y10.nd (DL.toO (DO.toL (aw z10 O (q.mono (by decide)) (ac (al (pvN 0 ag)) (ac af ai))))))
     (ah (dsN ag y10.nd (DL.toO (DO.toL (cI y34 bY eR T.n_tuple du (aD (DO.toB (doC ["_law_k","_law_things","_law_bits"] (by kernel_rfl) (DIF.toB (dL q49 T.n_range (ac (al (pvN 4 ag)) ai))) (fun _ _ _ _=>cP) (fun _ _ _ _=>(DO.toL (bq (ac (DO.toL (aq q (ae (pvX (by kernel_rfl))) (ae (pvX (by kernel_rfl))))) (ac (DO.toL (au bu cK (DO.toB (au aY bH (DO.toB (au aQ bD (ae (pvX (by kernel_rfl))) (DL.toB af))) (DL.toB af))) (ae (pvX (by kernel_rfl))))) (ac (DO.toL (eU (bz q) dj (DO.toB (au aY bH (DO.toB (au aQ bD (ae (pvX (by kernel_rfl))) (DO.toB (aq q (DO.toB (bB (ac af (ac af (ac af (ac af ai)))))) (DO.toB (au aY bH (ae (pvX (by kernel_rfl))) (DL.toB af))))))) (DL.toB af))) (DL.toB af) (aF _))) ai)))))))) aI)))))
     (ah (dsN ag y10.nd (bB ai))
     (ah (c6 qd3 rfl (dL q49 T.n_range (ac (DO.toL (au bu cK (DL.toB af) (DO.toB (au aY bH (ae (pvN 5 ag)) (DO.toB (au gC jE (DL.toB af) (ae (pvN 3 ag)))))))) ai)) (aO (aW (nsN ag 8) (nsL ag 8) y10.nd)) (ar (cW (pvN 7 ag) (DO.toL (bq (ac (DO.toL (aq q (ae (pvN 2 ag)) (DO.toB (au bu cK (DL.toB af) (ae (pvN 8 ag)))))) (ac (DO.toL (au bu cK (DL.toB af) (DO.toB (au aY bH (DO.toB (au aQ bD (ae (pvN 5 ag)) (DL.toB af))) (DL.toB af))))) (ac (DO.toL (eU (bz q) dj (DO.toB (au aY bH (DO.toB (au aQ bD (ae (pvN 5 ag)) (DO.toB (aq q (DO.toB (bB (ac af (ac af ai)))) (DO.toB (au aY bH (ae (pvN 8 ag)) (DL.toB af))))))) (DL.toB af))) (DL.toB af) (aF _))) ai))))))))
     (ah (dsN ag y10.nd (cI y34 bY eR T.n_tuple du (aD (ae (pvN 7 ag)) aI)))
     (ah (dsN ag y10.nd (DL.toO (DO.toL (aw z39 Y (q.mono (by decide)) (ac (DO.toL (aw z10 O (q.mono (by decide)) (ac (al (pvN 0 ag)) (ac af ai)))) (ac (DO.toL (au bu cK (DL.toB af) (DO.toB (au aY bH (DO.toB (au aQ bD (DO.toB (aw z10 O (q.mono (by decide)) (ac (al (pvN 0 ag)) (ac af ai)))) (DL.toB af))) (DL.toB af))))) ai))))))
     (ah (dsN ag y10.nd (DL.toO (DO.toL (e9 (ae (pvN 0 ag)) (eQ (DL.toB af)) (eQ (DO.toB (au bu cK (DL.toB af) (ae (pvN 1 ag)))))))))
     (ah (dsN ag y10.nd (bB ai))
     (ah (c6 qd3 rfl (eI (al (pvN 10 ag))) (aO (aW (nsN ag 12) (nsL ag 12) y10.nd)) (ah (dsN ag y10.nd (DL.toO (DO.toL (bq (ac (DO.toL (doC ["_law_one"] (by kernel_rfl) (b9 (ae (pvN 6 ag))) (fun _ _ _ _=>cP) (fun _ _ _ _=>(DO.toL (aq q (ae (pvX (by kernel_rfl))) (DL.toB af)))))) (ac (DO.toL (doC ["_law_one"] (by kernel_rfl) (b9 (ae (pvN 7 ag))) (fun _ _ _ _=>cP) (fun _ _ _ _=>(DO.toL (aq q (ae (pvX (by kernel_rfl))) (DL.toB af)))))) ai))))))
     (ar (cW (pvN 11 ag) (DO.toL (aw z69 y79 (q.mono (by decide)) (ac (al (pvN 12 ag)) (ac (al (pvN 9 ag)) (ac (DO.toL (aq q (ae (pvN 13 ag)) (DL.toB af))) (ac (DO.toL (aq q (ae (pvN 13 ag)) (DL.toB af))) (ac (DO.toL (au bu cK (DO.toB (aX y84 bt db T.n_len cj (aD (ae (pvN 10 ag)) aI))) (DL.toB af))) ai)))))))))))
     (ah (cW (pvN 11 ag) (DO.toL (bq (ac aZ (ac (DO.toL (aw q65 Z (q.mono (by decide)) (ac (DO.toL (aw z10 O (q.mono (by decide)) (ac (al (pvN 0 ag)) (ac af ai)))) (ac (al (pvN 9 ag)) ai)))) ai)))))
     (ar (pX (i:=7) (aG (bq (ac (al (pvN 6 ag)) (ac (al (pvN 7 ag)) (ac (DO.toL (cI y34 bY eR T.n_tuple du (aD (ae (pvN 11 ag)) aI))) ai))))))))))))))))))))
abbrev y44:Stmt:=top 19
theorem z108:FnScope ["code"] ["code"] (aa y44):=fnS (by decide +kernel)
theorem l6:cE (aa y44) ["code"]=true:=by decide +kernel
theorem z106 (T:Txt P w K mg) (D:DefF K mg "kept_rows" y44 ["code"]):OkF P w K mg base "kept_rows" 1 ["code"] (spD K 1 z22):=b7 D z108 rfl fun f cdv A outer s H E q=>(ar (aG (doC ["keep"] (by kernel_rfl) (b9 (DO.toB (aq q (ae (pvN 0 l6)) (DL.toB af)))) (fun _ _ _ _=>cP) (fun _ _ _ _=>(DO.toL (aq q (ae (pvX (by kernel_rfl))) (DL.toB af)))))))
abbrev y32:Stmt:=top 24
theorem y51:FnScope ["program","code","kept","number","row"] ["program","code"] (aa y32):=fnS (by decide +kernel)
theorem bP:cE (aa y32) ["program","code","kept","number","row"]=true:=by decide +kernel
theorem q76:aC (aa y32) "kept_rows"=true:=by decide +kernel
theorem y75:aC (aa y32) "enumerate"=true:=by decide +kernel
theorem q108 (T:Txt P w K mg) (D:DefF K mg "end_fault" y32 ["program","code"]) (O:OkF P w K mg base "kept_rows" 1 ["code"] (spD K 1 (z22))):OkF P w K mg base "end_fault" 2 ["program","code"] (spD K 2 z40):=
 b7 D y51 rfl fun f cdv A outer s H E q=>(ah (dsN bP y51.nd (DL.toO (DO.toL (aw q76 O (q.mono (by decide)) (ac (al (pvN 1 bP)) ai)))))
     (ah (c6 qd3 rfl (ic y75 T.n_enumerate (ac (DO.toL (aq q (ae (pvN 0 bP)) (DL.toB af))) ai)) (gI rfl (bR (aO (aW (nsN bP 3) (nsL bP 3) y51.nd)) (bR (aO (aW (nsN bP 4) (nsL bP 4) y51.nd)) fz))) (ar (bf (DW.t (oA (aP (bz q) dj (DO.toB (aq q (ae (pvN 4 bP)) (DL.toB af))) (DL.toB aZ) (aF _)) (lQ (dz q (ae (pvN 3 bP)) (ae (pvN 2 bP)))))) (ar cA) aK)))
     (ar (aG (DL.toO dJ)))))
abbrev q68:Stmt:=top 10
theorem q112:FnScope ["row"] ["row"] (aa q68):=fnS (by decide +kernel)
theorem nu:cE (aa q68) ["row"]=true:=by decide +kernel
theorem z92:aC (aa q68) "SETTING"=true:=by decide +kernel
theorem q113 (T:Txt P w K mg) (D:DefF K mg "gives" q68 ["row"]):OkF P w K mg base "gives" 1 ["row"] (spD K 1 y50):=b7 D q112 rfl fun f cdv A outer s H E q=>(ar (aG (xZ (jG q (DO.toB (aq q (ae (pvN 0 nu)) (DL.toB af))) (DL.toB (wn z92 T.g_B))) (aq q (ae (pvN 0 nu)) (DL.toB af)) (DL.toO dJ))))
abbrev y67:Stmt:=top 8
theorem z109:FnScope ["row","bounds"] ["row"] (aa y67):=fnS (by decide +kernel)
theorem fj:cE (aa y67) ["row","bounds"]=true:=by decide +kernel
theorem z53:aC (aa y67) "ATOM_PLACES"=true:=by decide +kernel
theorem y111 (T:Txt P w K mg) (D:DefF K mg "atoms" y67 ["row"]):OkF P w K mg base "atoms" 1 ["row"] (spD K 1 q89):=
 b7 D z109 rfl fun f cdv A outer s H E q=>(ah (bf (Ak z53 T.g_A (DO.toB (aq q (ae (pvN 0 fj)) (DL.toB af)))) (ar (aG (bq ai))) aK)
     (ah (dsN fj z109.nd (DL.toO (DO.toL (Cj z53 T.g_A (DO.toB (aq q (ae (pvN 0 fj)) (DL.toB af)))))))
     (ar (aG (e9 (ae (pvN 0 fj)) (eQ (DO.toB (aq q (ae (pvN 1 fj)) (DL.toB af)))) (eQ (DO.toB (aq q (ae (pvN 1 fj)) (DL.toB af)))))))))
abbrev z50:Stmt:=top 9
theorem q92:FnScope ["row","boxes","atom"] ["row"] (aa z50):=fnS (by decide +kernel)
theorem de:cE (aa z50) ["row","boxes","atom"]=true:=by decide +kernel
theorem q101:aC (aa z50) "atoms"=true:=by decide +kernel
theorem z82:aC (aa z50) "isinstance"=true:=by decide +kernel
theorem q106:aC (aa z50) "str"=true:=by decide +kernel
theorem y113 (T:Txt P w K mg) (D:DefF K mg "reads" z50 ["row"]) (q:OkF P w K mg base "atoms" 1 ["row"] (spD K 1 (q89))):OkF P w K mg base "reads" 2 ["row"] (spD K 1 y49):=
 b7 D q92 rfl fun f cdv A outer s H E O=>(ah (dsN de q92.nd (bB ai))
     (ah (c6 qd3 rfl (eI (DO.toL (aw q101 q (O.mono (by decide)) (ac (al (pvN 0 de)) ai)))) (aO (aW (nsN de 2) (nsL de 2) q92.nd)) (ar (bf (DW.t (oA (bQ (DO.toB (dm z82 q106 T.n_isinstance T.n_str om T.k_str (ae (pvN 2 de)))) (fun _=>rfl)) (lQ (dz O (ae (pvN 2 de)) (ae (pvN 1 de)))))) (ar (cW (pvN 1 de) (al (pvN 2 de)))) aK)))
     (ar (hZ (pvN 1 de)))))
abbrev z16:Stmt:=top 11
theorem q51:FnScope ["row","behind","boxes","later"] ["row","behind"] (aa z16):=fnS (by decide +kernel)
theorem bJ:cE (aa z16) ["row","behind","boxes","later"]=true:=by decide +kernel
theorem y77:aC (aa z16) "reads"=true:=by decide +kernel
theorem y76:aC (aa z16) "sorted"=true:=by decide +kernel
theorem z83:aC (aa z16) "set"=true:=by decide +kernel
theorem z97 (T:Txt P w K mg) (D:DefF K mg "needed_ahead" z16 ["row","behind"]) (O:OkF P w K mg base "gives" 1 ["row"] (spD K 1 (y50))) (Y:OkF P w K mg base "reads" 2 ["row"] (spD K 1 (y49))):OkF P w K mg base "needed_ahead" 3 ["row","behind"] (spD K 2 y21):=
 b7 D q51 rfl fun f cdv A outer s H E q=>(ah (dsN bJ q51.nd (aw y77 Y (q.mono (by decide)) (ac (al (pvN 0 bJ)) ai)))
     (ah (c6 qd3 rfl (eI (al (pvN 1 bJ))) (aO (aW (nsN bJ 3) (nsL bJ 3) q51.nd)) (ar (rN (pvN 2 bJ) (doC ["box","row"] (by kernel_rfl) (b9 (ae (pvN 3 bJ))) (fun _ _ _ _=>dQ (aP (f7 q) mO (ae (pvX (by kernel_rfl))) (DO.toB (aw (by decide +kernel) O (q.mono (by decide)) (ac (al (pvX (by kernel_rfl))) ai) (e1:=(scC (outer:=aa z16) rfl)))) (aF _))) (fun _ _ _ _=>(al (pvX (by kernel_rfl))))))))
     (ar (aG (oX y76 z83 rfl T.n_sorted T.n_set (aD (ae (pvN 2 bJ)) aI))))))
abbrev z59:Stmt:=top 1
theorem y110:FnScope ["number","row"] ["number","row"] (aa z59):=fnS (by decide +kernel)
theorem dk:cE (aa z59) ["number","row"]=true:=by decide +kernel
theorem z110 (T:Txt P w K mg) (D:DefF K mg "ways_of" z59 ["number","row"]):OkF P w K mg base "ways_of" 1 ["number","row"] (spD K 2 q73):=
 b7 D y110 rfl fun f cdv A outer s H E q=>(ah (bf (aP (bz q) dj (DO.toB (aq q (ae (pvN 1 dk)) (DL.toB af))) (DL.toB aZ) (aF _)) (ar (aG (bq (ac (DO.toL (aq q (ae (pvN 1 dk)) (DL.toB af))) ai)))) aK)
     (ah (bf (aP (bz q) dj (DO.toB (aq q (ae (pvN 1 dk)) (DL.toB af))) (DL.toB aZ) (aF _)) (ar (aG (bq (ac (DO.toL (aq q (ae (pvN 1 dk)) (DL.toB af))) (ac (DO.toL (au bu cK (ae (pvN 0 dk)) (DL.toB af))) ai))))) aK)
     (ah (bf (aP (bz q) dj (DO.toB (aq q (ae (pvN 1 dk)) (DL.toB af))) (DL.toB aZ) (aF _)) (ar (aG (bq ai))) aK)
     (ar (aG (bq (ac (DO.toL (au bu cK (ae (pvN 0 dk)) (DL.toB af))) ai)))))))
abbrev fG:Stmt:=top 2
theorem z114:FnScope ["program"] ["program"] (aa fG):=fnS (by decide +kernel)
theorem wT:cE (aa fG) ["program"]=true:=by decide +kernel
theorem q91:aC (aa fG) "enumerate"=true:=by decide +kernel
theorem q115 (T:Txt P w K mg) (D:DefF K mg "ways" fG ["program"]) (q:OkF P w K mg base "ways_of" 1 ["number","row"] (spD K 2 (q73))):OkF P w K mg base "ways" 2 ["program"] (spD K 1 dD):=b7 D z114 rfl fun f cdv A outer s H E O=>(ar (aG (je (M:=["number","row"]) (src:=[none,none]) (ts:=[0,1]) (CmpScope.of (by kernel_rfl)) rfl (DIF.toB (ic q91 T.n_enumerate (ac (DO.toL (aq O (ae (pvN 0 wT)) (DL.toB af))) ai))) (fun Y _ _ _ _=>(gI rfl (bR (aO (cS (N:=["number","row"]) (i:=0) (by decide +kernel) (by decide +kernel) Y (scC (outer:=aa fG) (by exact rfl)))) (bR (aO (cS (N:=["number","row"]) (i:=1) (by decide +kernel) (by decide +kernel) Y (scC (outer:=aa fG) (by exact rfl)))) fz)))) (fun _ _ _ _=>cP) (fun _ _ _ _=>(DO.toL (aw (by decide +kernel) q (O.mono (by decide)) (ac (al (pvX (by kernel_rfl))) (ac (al (pvX (by kernel_rfl))) ai)) (e1:=(scC (outer:=aa fG) rfl))))) (by decide +kernel))))
abbrev q36:Stmt:=top 12
theorem z31:FnScope ["program","rows","onward","found","changed","number","boxes"] ["program"] (aa q36):=fnS (by decide +kernel)
theorem aR:cE (aa q36) ["program","rows","onward","found","changed","number","boxes"]=true:=by decide +kernel
theorem y100:aC (aa q36) "ways"=true:=by decide +kernel
theorem z105:aC (aa q36) "len"=true:=by decide +kernel
theorem y94:aC (aa q36) "range"=true:=by decide +kernel
theorem z75:aC (aa q36) "needed_ahead"=true:=by decide +kernel
theorem q111 (T:Txt P w K mg) (D:DefF K mg "needed" q36 ["program"]) (Y:OkF P w K mg base "needed_ahead" 3 ["row","behind"] (spD K 2 (y21))) (O:OkF P w K mg base "ways" 2 ["program"] (spD K 1 (dD))):OkF P w K mg base "needed" 4 ["program"] (spD K 1 q48):=
 b7 D z31 rfl fun f cdv A outer s H E q=>(ah (dsN aR z31.nd (DL.toO (DO.toL (aq q (ae (pvN 0 aR)) (DL.toB af)))))
     (ah (dsN aR z31.nd (DL.toO (DO.toL (aw y100 O (q.mono (by decide)) (ac (al (pvN 0 aR)) ai)))))
     (ah (dsN aR z31.nd (doC ["row"] (by kernel_rfl) (b9 (ae (pvN 1 aR))) (fun _ _ _ _=>cP) (fun _ _ _ _=>(DO.toL (bB ai)))))
     (ah (dsN aR z31.nd (DL.toO d8))
     (ah (fZ 100000 qd3 (bQ (ae (pvN 4 aR)) (fun _=>rfl)) (ah (dsN aR z31.nd (DL.toO d8))
     (ar (c6 qd3 rfl (rD y94 T.n_range (ac (DO.toL (au sy ya (DO.toB (aX z105 bt db T.n_len cj (aD (ae (pvN 1 aR)) aI))) (DL.toB af))) (ac (DO.toL (oF (DL.toB af))) (ac (DO.toL (oF (DL.toB af))) ai)))) (aO (aW (nsN aR 5) (nsL aR 5) z31.nd)) (ah (dsN aR z31.nd (DL.toO (DO.toL (aw z75 Y (q.mono (by decide)) (ac (DO.toL (aq q (ae (pvN 1 aR)) (ae (pvN 5 aR)))) (ac (DO.toL (doC ["way","found"] (by kernel_rfl) (b9 (DO.toB (aq q (ae (pvN 2 aR)) (ae (pvN 5 aR))))) (fun _ _ _ _=>cP) (fun _ _ _ _=>(DO.toL (aq q (ae (pvX (by kernel_rfl))) (ae (pvX (by kernel_rfl)))))))) ai))))))
     (ar (bf (aP (f7 q) mO (ae (pvN 6 aR)) (DO.toB (aq q (ae (pvN 3 aR)) (ae (pvN 5 aR)))) (aF _)) (ah (lU q (pvN 3 aR) (ae (pvN 5 aR)) (al (pvN 6 aR)))
     (ar (dsN aR z31.nd (DL.toO d8)))) aK)))))))
     (ar (hZ (pvN 3 aR))))))))
abbrev z46:Stmt:=top 3
theorem z73:FnScope ["came_from","last","places","here"] ["came_from","last"] (aa z46):=fnS (by decide +kernel)
theorem cL:cE (aa z46) ["came_from","last","places","here"]=true:=by decide +kernel
theorem z99:aC (aa z46) "list"=true:=by decide +kernel
theorem z85:aC (aa z46) "reversed"=true:=by decide +kernel
theorem z111 (T:Txt P w K mg) (D:DefF K mg "traced" z46 ["came_from","last"]):OkF P w K mg base "traced" 1 ["came_from","last"] (spD K 2 y48):=
 b7 D z73 rfl fun f cdv A outer s H E q=>(ah (dsN cL z73.nd (bB ai))
     (ah (dsN cL z73.nd (DL.toO (al (pvN 1 cL))))
     (ah (fZ 100000 qd3 (aP vJ wm (ae (pvN 3 cL)) (DL.toB dJ) (aF _)) (ah (cW (pvN 2 cL) (al (pvN 3 cL)))
     (ar (dsN cL z73.nd (DL.toO (DO.toL (aq q (ae (pvN 0 cL)) (ae (pvN 3 cL)))))))))
     (ar (aG (o7 z99 z85 T.n_list T.n_reversed rfl (ae (pvN 2 cL))))))))
abbrev z49:Stmt:=top 4
theorem q43:FnScope ["starts","behind","fits","came_from","start","queue","looked","here","there"] ["starts","behind","fits"] (aa z49):=fnS (by decide +kernel)
theorem aN:cE (aa z49) ["starts","behind","fits","came_from","start","queue","looked","here","there"]=true:=by decide +kernel
theorem q104:aC (aa z49) "list"=true:=by decide +kernel
theorem y106:aC (aa z49) "len"=true:=by decide +kernel
theorem y96:aC (aa z49) "traced"=true:=by decide +kernel
theorem z112 (T:Txt P w K mg) (D:DefF K mg "route" z49 ["starts","behind","fits"]) (O:OkF P w K mg base "traced" 1 ["came_from","last"] (spD K 2 (y48))):OkF P w K mg base "route" 4 ["starts","behind","fits"] (spR P w K mg base 3 q79):=
 An D q43 rfl fun f cdv A outer s H E q G Y=>(ah (dsN aN q43.nd wt)
     (ah (c6 qd3 rfl (eI (al (pvN 0 aN))) (aO (aW (nsN aN 4) (nsL aN 4) q43.nd)) (ar (lU q (pvN 3 aN) (ae (pvN 4 aN)) dJ)))
     (ah (dsN aN q43.nd (cI q104 (o6 rfl) wQ T.n_list ja (aD (ae (pvN 3 aN)) aI)))
     (ah (dsN aN q43.nd (DL.toO af))
     (ah (fZ 100000 qd3 (aP jn ia (ae (pvN 6 aN)) (DO.toB (aX y106 bt db T.n_len cj (aD (ae (pvN 5 aN)) aI))) (aF _)) (ah (dsN aN q43.nd (DL.toO (DO.toL (aq q (ae (pvN 5 aN)) (ae (pvN 6 aN))))))
     (ah (oJ (nsN aN 6) (nsL aN 6) q43.nd (DL.toB af))
     (ah (bf (bQ (DO.toB (qa (pvN 2 aN) Y (q.mono (by decide)) (ac (al (pvN 7 aN)) ai))) (fun _=>rfl)) (ar (pX (i:=3) (aG (aw y96 O (q.mono (by decide)) (ac (al (pvN 3 aN)) (ac (al (pvN 7 aN)) ai)))))) aK)
     (ar (c6 qd3 rfl (eI (DO.toL (qa (pvN 1 aN) Y (q.mono (by decide)) (ac (al (pvN 7 aN)) ai)))) (aO (aW (nsN aN 8) (nsL aN 8) q43.nd)) (ar (bf (dz q (ae (pvN 8 aN)) (ae (pvN 3 aN))) (ah (lU q (pvN 3 aN) (ae (pvN 8 aN)) (al (pvN 7 aN)))
     (ar (cW (pvN 5 aN) (al (pvN 8 aN))))) aK))))))))
     (ar cA))))))
abbrev q5:Stmt:=top 28
theorem z25:FnScope ["program","start","box","rows","onward","behind","fits"] ["program","start","box"] (aa q5):=fnS (by decide +kernel)
theorem aT:cE (aa q5) ["program","start","box","rows","onward","behind","fits"]=true:=by decide +kernel
theorem q75:aC (aa q5) "ways"=true:=by decide +kernel
theorem y72:aC (aa q5) "route"=true:=by decide +kernel
abbrev z12:Stmt:=(be q5).getD 2 (.Pass ⟨0,0,0,0⟩)
theorem q29:NsC (aa q5) ["program","start","box","rows","onward","behind","fits"] ["row","box","rows","onward"] ["row"] ["box","rows","onward"] [2,3,4] (aa z12):=NsC.of (by decide +kernel)
theorem q39:dv (aa z12) ["row","box","rows","onward"] 0 "row"=true:=by decide +kernel
theorem y61:dv (aa z12) ["row","box","rows","onward"] 1 "box"=true:=by decide +kernel
theorem q63:dv (aa z12) ["row","box","rows","onward"] 2 "rows"=true:=by decide +kernel
theorem y60:dv (aa z12) ["row","box","rows","onward"] 3 "onward"=true:=by decide +kernel
theorem q53:aC (aa z12) "gives"=true:=by decide +kernel
abbrev q19:Stmt:=(be q5).getD 3 (.Pass ⟨0,0,0,0⟩)
theorem q33:NsC (aa q5) ["program","start","box","rows","onward","behind","fits"] ["row","box","rows"] ["row"] ["box","rows"] [2,3] (aa q19):=NsC.of (by decide +kernel)
theorem q72:dv (aa q19) ["row","box","rows"] 0 "row"=true:=by decide +kernel
theorem y68:dv (aa q19) ["row","box","rows"] 1 "box"=true:=by decide +kernel
theorem q70:dv (aa q19) ["row","box","rows"] 2 "rows"=true:=by decide +kernel
theorem y57:aC (aa q19) "reads"=true:=by decide +kernel
theorem y91 {c Pt:Addr} (T:Txt P w K mg) (D:DefC K mg "way_to_reading" q5 ["program","start","box"] c) (B:TabB mg base c Pt) (hT:(Pt,mt "way_to_reading" (be q5))∈dE K) (Z:OkF P w K mg base "gives" 1 ["row"] (spD K 1 (y50))) (z67:OkF P w K mg base "reads" 2 ["row"] (spD K 1 (y49))) (Y:OkF P w K mg base "route" 4 ["starts","behind","fits"] (spR P w K mg base 3 q79)) (O:OkF P w K mg base "ways" 2 ["program"] (spD K 1 (dD))):OkF P w K mg base "way_to_reading" 5 ["program","start","box"] (spD K 3 (z18)):=
 Ax D z25 rfl fun f A outer s H E q=>(ah (dsN aT z25.nd (DL.toO (DO.toL (aq q (ae (pvN 0 aT)) (DL.toB af)))))
     (ah (dsN aT z25.nd (DL.toO (DO.toL (aw q75 O (q.mono (by decide)) (ac (al (pvN 0 aT)) ai)))))
     (uj (i1:=5) (i2:=6) (by decide) (Aw (NX:=["program","start","box","rows","onward","behind","fits"]) rfl) (qi (qual:="way_to_reading.<locals>.behind") (nsN aT 5) (nsL aT 5) z25.nd q29 B hT (by decide +kernel)) (qi (qual:="way_to_reading.<locals>.fits") (nsN aT 6) (nsL aT 6) z25.nd q33 B hT (by decide +kernel))
     (pA (wJ (Cl (i1:=5) (i2:=6) Y (q.mono (by decide)) (glD y72) (fun _=>rfl) (DO.toL (bB (ac (al (pvN 1 aT)) ai))) (pvN 5 aT) (pvN 6 aT) (NestD.of q29 (fun s cl doc pm ctv cd us hl=>match us,hl with | [_],_=>.of_eq rfl) fun f c' cl A outer s H q=>(ar (aG (xZ (aP (bz q) dj (DO.toB (aw q53 Z (q.mono (by decide)) (ac (DO.toL (aq q (ae (pvD 2 q63)) (ae (pvD 0 q39)))) ai))) (ae (pvD 1 y61)) (aF _)) (bB ai) (aq q (ae (pvD 3 y60)) (ae (pvD 0 q39))))))) (NestD.of q33 (fun s cl doc pm ctv cd us hl=>match us,hl with | [_],_=>.of_eq rfl) fun f c' cl A outer s H q=>(ar (aG (yg q (ae (pvD 1 y68)) (DO.toB (aw y57 z67 (q.mono (by decide)) (ac (DO.toL (aq q (ae (pvD 2 q70)) (ae (pvD 0 q72)))) ai))))))) q29.all q33.all))))))
abbrev y28:Stmt:=top 29
theorem y24:FnScope ["program","code","wanted","places","start","boxes","begin","box"] ["program","code"] (aa y28):=fnS (by decide +kernel)
theorem aA:cE (aa y28) ["program","code","wanted","places","start","boxes","begin","box"]=true:=by decide +kernel
theorem q81:aC (aa y28) "needed"=true:=by decide +kernel
theorem y55:aC (aa y28) "way_to_reading"=true:=by decide +kernel
theorem z103 (T:Txt P w K mg) (D:DefF K mg "lost_fault" y28 ["program","code"]) (O:OkF P w K mg base "needed" 4 ["program"] (spD K 1 (q48))) (Y:OkF P w K mg base "way_to_reading" 5 ["program","start","box"] (spD K 3 (z18))):OkF P w K mg base "lost_fault" 6 ["program","code"] (spD K 2 y23):=
 b7 D y24 rfl fun f cdv A outer s H E q=>(ah (dsN aA y24.nd (DL.toO (DO.toL (aw q81 O (q.mono (by decide)) (ac (al (pvN 0 aA)) ai)))))
     (ah (dsN aA y24.nd (DL.toO (DO.toL (au bu cK (DO.toB (bB (ac (DO.toL (bq (ac af (ac (DO.toL (aq q (ae (pvN 1 aA)) (DL.toB af))) (ac d8 ai))))) ai))) (DO.toB (doC ["keep"] (by kernel_rfl) (b9 (DO.toB (aq q (ae (pvN 1 aA)) (DL.toB af)))) (fun _ _ _ _=>cP) (fun _ _ _ _=>(DO.toL (bq (ac (DO.toL (aq q (ae (pvX (by kernel_rfl))) (DL.toB af))) (ac (DO.toL (aq q (ae (pvX (by kernel_rfl))) (DL.toB af))) (ac d8 ai))))))))))))
     (ah (c6 qd3 rfl (eI (al (pvN 3 aA))) (gI rfl (bR (aO (aW (nsN aA 4) (nsL aA 4) y24.nd)) (bR (aO (aW (nsN aA 5) (nsL aA 5) y24.nd)) (bR (aO (aW (nsN aA 6) (nsL aA 6) y24.nd)) fz)))) (ar (c6 qd3 rfl (eI (DO.toL (aq q (ae (pvN 2 aA)) (ae (pvN 4 aA))))) (aO (aW (nsN aA 7) (nsL aA 7) y24.nd)) (ar (bf (dz q (ae (pvN 7 aA)) (ae (pvN 5 aA))) (ar (aG (bq (ac aZ (ac (al (pvN 7 aA)) (ac (DO.toL (aw y55 Y (q.mono (by decide)) (ac (al (pvN 0 aA)) (ac (al (pvN 4 aA)) (ac (al (pvN 7 aA)) ai))))) (ac (al (pvN 6 aA)) ai))))))) aK)))))
     (ar (aG (DL.toO dJ))))))
abbrev q16:Stmt:=top 25
theorem q24:FnScope ["onward","rows","left","fewer","staying"] ["onward","rows"] (aa q16):=fnS (by decide +kernel)
theorem aS:cE (aa q16) ["onward","rows","left","fewer","staying"]=true:=by decide +kernel
theorem z54:aC (aa q16) "len"=true:=by decide +kernel
theorem q96 (T:Txt P w K mg) (D:DefF K mg "endless_rows" q16 ["onward","rows"]):OkF P w K mg base "endless_rows" 1 ["onward","rows"] (spD K 2 z26):=
 b7 D q24 rfl fun f cdv A outer s H E O=>(ah (dsN aS q24.nd (DL.toO (al (pvN 1 aS))))
     (ah (dsN aS q24.nd (DL.toO d8))
     (ah (fZ 100000 qd3 (bQ (ae (pvN 3 aS)) (fun _=>rfl)) (ah (f8 (nsN aS 4) (nsL aS 4) q24.nd (M:=["row","onward","left"]) (src:=[none,some 0,some 2]) (ts:=[0]) (CmpScope.of (by kernel_rfl)) rfl (b9 (ae (pvN 2 aS))) (fun q _ _ _ _=>(aO (cS (N:=["row","onward","left"]) (i:=0) (by decide +kernel) (by decide +kernel) q (scC (outer:=aa q16) (by exact rfl))))) (fun _ _ _ _=>dQ (bQ (DO.toB (aX (by decide +kernel) (sV rfl) (yb (f:=fun bs=>bs.any id)) T.n_any zV (aD (DO.toB (je (M:=["way","left"]) (src:=[none,some 2]) (ts:=[0]) (CmpScope.of (by kernel_rfl)) rfl (b9 (DO.toB (aq O (ae (pvX (by kernel_rfl))) (ae (pvX (by kernel_rfl)))))) (fun q _ _ _ _=>(aO (cS (N:=["way","left"]) (i:=0) (by decide +kernel) (by decide +kernel) q (scC (scC (outer:=aa q16) (by exact rfl)))))) (fun _ _ _ _=>cP) (fun _ _ _ _=>(DO.toL (yg O (ae (pvX (by kernel_rfl))) (ae (pvX (by kernel_rfl)))))) (by decide +kernel))) aI) (e1:=(scC (outer:=aa q16) rfl)))) (fun _=>rfl))) (fun _ _ _ _=>(al (pvX (by kernel_rfl)))) (by decide +kernel))
     (ah (dsN aS q24.nd (DL.toO (DO.toL (eU jn ia (DO.toB (aX z54 bt db T.n_len cj (aD (ae (pvN 4 aS)) aI))) (DO.toB (aX z54 bt db T.n_len cj (aD (ae (pvN 2 aS)) aI))) (aF _)))))
     (ar (dsN aS q24.nd (DL.toO (al (pvN 4 aS))))))))
     (ar (hZ (pvN 2 aS))))))
abbrev z17:Stmt:=top 26
theorem q45:FnScope ["program","code","kept","onward","endless","walked","here"] ["program","code"] (aa z17):=fnS (by decide +kernel)
theorem bZ:cE (aa z17) ["program","code","kept","onward","endless","walked","here"]=true:=by decide +kernel
theorem z72:aC (aa z17) "kept_rows"=true:=by decide +kernel
theorem z88:aC (aa z17) "ways"=true:=by decide +kernel
theorem z64:aC (aa z17) "len"=true:=by decide +kernel
theorem q84:aC (aa z17) "range"=true:=by decide +kernel
theorem y62:aC (aa z17) "endless_rows"=true:=by decide +kernel
theorem z104 (T:Txt P w K mg) (D:DefF K mg "ring_fault" z17 ["program","code"]) (Y:OkF P w K mg base "endless_rows" 1 ["onward","rows"] (spD K 2 (z26))) (Z:OkF P w K mg base "kept_rows" 1 ["code"] (spD K 1 (z22))) (q:OkF P w K mg base "ways" 2 ["program"] (spD K 1 (dD))):OkF P w K mg base "ring_fault" 3 ["program","code"] (spD K 2 q34):=
 b7 D q45 rfl fun f cdv A outer s H E O=>(ah (dsN bZ q45.nd (DL.toO (DO.toL (aw z72 Z (O.mono (by decide)) (ac (al (pvN 1 bZ)) ai)))))
     (ah (dsN bZ q45.nd (DL.toO (DO.toL (aw z88 q (O.mono (by decide)) (ac (al (pvN 0 bZ)) ai)))))
     (ah (dsN bZ q45.nd (DL.toO (DO.toL (aw y62 Y (O.mono (by decide)) (ac (al (pvN 3 bZ)) (ac (DO.toL (doC ["row","kept"] (by kernel_rfl) (DIF.toB (dL q84 T.n_range (ac (DO.toL (aX z64 bt db T.n_len cj (aD (ae (pvN 3 bZ)) aI))) ai))) (fun _ _ _ _=>dQ (dz O (ae (pvX (by kernel_rfl))) (ae (pvX (by kernel_rfl))))) (fun _ _ _ _=>(al (pvX (by kernel_rfl)))))) ai))))))
     (ah (bf (aP (bz O) dj (DO.toB (aX z64 bt db T.n_len cj (aD (ae (pvN 4 bZ)) aI))) (DL.toB af) (aF _)) (ar (aG (DL.toO dJ))) aK)
     (ah cA
     (ah cA
     (ah cA
     (ar cA))))))))
abbrev q38:Stmt:=top 18
theorem z100:FnScope ["program"] ["program"] (aa q38):=fnS (by decide +kernel)
theorem gd:cE (aa q38) ["program"]=true:=by decide +kernel
theorem y99 (T:Txt P w K mg) (D:DefF K mg "plain_names" q38 ["program"]):OkF P w K mg base "plain_names" 1 ["program"] (spD K 1 z38):=b7 D z100 rfl fun f cdv A outer s H E q=>(ar (aG (doC ["head"] (by kernel_rfl) (b9 (DO.toB (au wS AA (DO.toB (aq q (ae (pvN 0 gd)) (DL.toB af))) (DO.toB (aq q (ae (pvN 0 gd)) (DL.toB af)))))) (fun _ _ _ _=>dQ (fX (bQ (DO.toB (aq q (ae (pvX (by kernel_rfl))) (DL.toB af))) (fun _=>rfl)))) (fun _ _ _ _=>(DO.toL (aq q (ae (pvX (by kernel_rfl))) (DL.toB af)))))))
abbrev y30:Stmt:=top 27
theorem z79:FnScope ["program","code","name","rows"] ["program","code"] (aa y30):=fnS (by decide +kernel)
theorem eN:cE (aa y30) ["program","code","name","rows"]=true:=by decide +kernel
theorem q62:aC (aa y30) "plain_names"=true:=by decide +kernel
theorem q98 (T:Txt P w K mg) (D:DefF K mg "spoil_fault" y30 ["program","code"]) (q:OkF P w K mg base "plain_names" 1 ["program"] (spD K 1 (z38))):OkF P w K mg base "spoil_fault" 2 ["program","code"] (spD K 2 q31):=
 b7 D z79 rfl fun f cdv A outer s H E O=>(ah (c6 qd3 rfl (eI (DO.toL (aw q62 q (O.mono (by decide)) (ac (al (pvN 0 eN)) ai)))) (aO (aW (nsN eN 2) (nsL eN 2) z79.nd)) (ah cA
     (ar cA)))
     (ar (aG (DL.toO dJ))))
abbrev q44:Stmt:=top 30
theorem q71:FnScope ["program","code","found"] ["program","code"] (aa q44):=fnS (by decide +kernel)
theorem bV:cE (aa q44) ["program","code","found"]=true:=by decide +kernel
theorem y87:aC (aa q44) "end_fault"=true:=by decide +kernel
theorem y83:aC (aa q44) "ring_fault"=true:=by decide +kernel
theorem q80:aC (aa q44) "spoil_fault"=true:=by decide +kernel
theorem q82:aC (aa q44) "lost_fault"=true:=by decide +kernel
theorem z113 (T:Txt P w K mg) (D:DefF K mg "fault" q44 ["program","code"]) (Z:OkF P w K mg base "end_fault" 2 ["program","code"] (spD K 2 (z40))) (y70:OkF P w K mg base "lost_fault" 6 ["program","code"] (spD K 2 (y23))) (Y:OkF P w K mg base "ring_fault" 3 ["program","code"] (spD K 2 (q34))) (O:OkF P w K mg base "spoil_fault" 2 ["program","code"] (spD K 2 (q31))):OkF P w K mg base "fault" 7 ["program","code"] (spD K 2 z33):=
 b7 D q71 rfl fun f cdv A outer s H E q=>(ah (dsN bV q71.nd (DL.toO (DO.toL (aw y87 Z (q.mono (by decide)) (ac (al (pvN 0 bV)) (ac (al (pvN 1 bV)) ai))))))
     (ah (bf (aP jo tP (ae (pvN 2 bV)) (DL.toB dJ) (aF _)) (ar (dsN bV q71.nd (DL.toO (DO.toL (aw y83 Y (q.mono (by decide)) (ac (al (pvN 0 bV)) (ac (al (pvN 1 bV)) ai))))))) aK)
     (ah (bf (aP jo tP (ae (pvN 2 bV)) (DL.toB dJ) (aF _)) (ar (dsN bV q71.nd (DL.toO (DO.toL (aw q80 O (q.mono (by decide)) (ac (al (pvN 0 bV)) (ac (al (pvN 1 bV)) ai))))))) aK)
     (ah (bf (aP jo tP (ae (pvN 2 bV)) (DL.toB dJ) (aF _)) (ar (dsN bV q71.nd (DL.toO (DO.toL (aw q82 y70 (q.mono (by decide)) (ac (al (pvN 0 bV)) (ac (al (pvN 1 bV)) ai))))))) aK)
     (ar (hZ (pvN 2 bV)))))))
abbrev z66:Stmt:=top 31
theorem q114:FnScope ["program","code"] ["program","code"] (aa z66):=fnS (by decide +kernel)
theorem ns_holds:cE (aa z66) ["program","code"]=true:=by decide +kernel
theorem z101:aC (aa z66) "fault"=true:=by decide +kernel
theorem y112 (T:Txt P w K mg) (D:DefF K mg "holds" z66 ["program","code"]) (q:OkF P w K mg base "fault" 7 ["program","code"] (spD K 2 (z33))):OkF P w K mg base "holds" 8 ["program","code"] (spD K 2 q40):=b7 D q114 rfl fun f cdv A outer s H E O=>(ar (aG (eU jo tP (DO.toB (aw z101 q (O.mono (by decide)) (ac (al (pvN 0 ns_holds)) (ac (al (pvN 1 ns_holds)) ai)))) (DL.toB dJ) (aF _))))
abbrev cZ:Stmt:=top 47
theorem sc_law:FnScope ["_law_script","_law_cells","_law_shelves","_law_rows","_law_things","_law_program_here","_law_boxes_here","_law_keeps","_law_at","_law_number","_law_code","_law_found"] ["_law_script"] (aa cZ):=fnS (by decide +kernel)
theorem aJ:cE (aa cZ) ["_law_script","_law_cells","_law_shelves","_law_rows","_law_things","_law_program_here","_law_boxes_here","_law_keeps","_law_at","_law_number","_law_code","_law_found"]=true:=by decide +kernel
theorem z84:aC (aa cZ) "_law_program"=true:=by decide +kernel
theorem z21:aC (aa cZ) "_law_cell_at"=true:=by decide +kernel
theorem z89:aC (aa cZ) "_law_names"=true:=by decide +kernel
theorem y86:aC (aa cZ) "_law_places"=true:=by decide +kernel
theorem q64:aC (aa cZ) "_law_boxes"=true:=by decide +kernel
theorem z86:aC (aa cZ) "tuple"=true:=by decide +kernel
theorem z107:aC (aa cZ) "fault"=true:=by decide +kernel
theorem q90:aC (aa cZ) "_law_lacks"=true:=by decide +kernel
theorem q86:aC (aa cZ) "holds"=true:=by decide +kernel
theorem q85:aC (aa cZ) "_law_is_lost"=true:=by decide +kernel
theorem z91:aC (aa cZ) "isinstance"=true:=by decide +kernel
theorem AB {f:Addr} {fd:qp2} (T:Txt P w K mg) (D:Fun K "law" "law" cZ f fd) (O:OkF P w K mg base "_law_boxes" 1 ["_law_cell","_law_boxes_here"] (spD K 2 (q17))) (Z:OkF P w K mg base "_law_cell_at" 1 ["_law_script","_law_k"] (spD K 2 (y1))) (q57:OkF P w K mg base "_law_is_lost" 2 ["_law_rows","_law_code","_law_found"] (spD K 3 (q22))) (z68:OkF P w K mg base "_law_lacks" 3 ["_law_rows","_law_code","_law_boxes_here"] (spD K 3 (y20))) (y27:OkF P w K mg base "_law_names" 1 ["_law_cell","_law_many"] (spD K 2 (q15))) (z62:OkF P w K mg base "_law_places" 2 ["_law_rows","_law_every"] (spD K 2 (z24))) (q56:OkF P w K mg base "_law_program" 3 ["_law_script","_law_most"] (spD K 2 (z27))) (y66:OkF P w K mg base "fault" 7 ["program","code"] (spD K 2 (z33))) (Y:OkF P w K mg base "holds" 8 ["program","code"] (spD K 2 (q40))):FnOk P w K mg base CX0 9 f fd ["_law_script"] (spD K 1 qm):=
 Cf D sc_law rfl fun cdv A outer s H E q=>(ah (tG (DO.toL (aw z84 q56 (q.mono (by decide)) (ac (al (pvN 0 aJ)) (ac af ai)))) (gI rfl (bR (aO (aW (nsN aJ 1) (nsL aJ 1) sc_law.nd)) (bR (aO (aW (nsN aJ 2) (nsL aJ 2) sc_law.nd)) (bR (aO (aW (nsN aJ 3) (nsL aJ 3) sc_law.nd)) fz)))))
     (ah (f8 (nsN aJ 4) (nsL aJ 4) sc_law.nd (M:=["_law_some"]) (src:=[none]) (ts:=[0]) (CmpScope.of (by kernel_rfl)) rfl (b9 (DO.toB (bq (ac (al (pvN 1 aJ)) (ac (al (pvN 2 aJ)) ai))))) (fun nd _ _ _ _=>(aO (cS (N:=["_law_some"]) (i:=0) (by decide +kernel) (by decide +kernel) nd (scC (outer:=aa cZ) (by exact rfl))))) (fun _ _ _ _=>cP) (fun _ _ _ _=>(DO.toL (cI (by decide +kernel) bY eR T.n_tuple du (aD (DO.toB (je (M:=["_law_one"]) (src:=[none]) (ts:=[0]) (CmpScope.of (by kernel_rfl)) rfl (b9 (ae (pvX (by kernel_rfl)))) (fun nd _ _ _ _=>(aO (cS (N:=["_law_one"]) (i:=0) (by decide +kernel) (by decide +kernel) nd (scC (scC (outer:=aa cZ) (by exact rfl)))))) (fun _ _ _ _=>cP) (fun _ _ _ _=>(DO.toL (bq (ac (DO.toL (aq q (ae (pvX (by kernel_rfl))) (DL.toB af))) (ac (DO.toL (aq q (ae (pvX (by kernel_rfl))) (DL.toB af))) (ac d8 ai)))))) (by decide +kernel))) aI) (e1:=(scC (outer:=aa cZ) rfl))))) (by decide +kernel))
     (ah (dsN aJ sc_law.nd (DL.toO (DO.toL (bq (ac (DO.toL (aq q (ae (pvN 4 aJ)) (DL.toB af))) (ac (DO.toL (aq q (ae (pvN 4 aJ)) (DL.toB af))) (ac (al (pvN 3 aJ)) ai)))))))
     (ah (dsN aJ sc_law.nd (DL.toO (DO.toL (aw z89 y27 (q.mono (by decide)) (ac (DO.toL (aw z21 Z (q.mono (by decide)) (ac (al (pvN 0 aJ)) (ac af ai)))) (ac (DO.toL (au bu cK (DL.toB af) (DO.toB (au aY bH (DO.toB (au aQ bD (DO.toB (aw z21 Z (q.mono (by decide)) (ac (al (pvN 0 aJ)) (ac af ai)))) (DL.toB af))) (DL.toB af))))) ai))))))
     (ah (dsN aJ sc_law.nd (bB ai))
     (ah (c6 qd3 rfl (eI (DO.toL (aw y86 z62 (q.mono (by decide)) (ac (al (pvN 3 aJ)) (ac (DO.toL (eU (bz q) dj (DO.toB (au aY bH (DO.toB (aw z21 Z (q.mono (by decide)) (ac (al (pvN 0 aJ)) (ac af ai)))) (DL.toB af))) (DL.toB af) (aF _))) ai))))) (aO (aW (nsN aJ 8) (nsL aJ 8) sc_law.nd)) (ah (dsN aJ sc_law.nd (DL.toO (DO.toL (au aY bH (DO.toB (au gC jE (DO.toB (au bu cK (DO.toB (au aQ bD (DO.toB (aw z21 Z (q.mono (by decide)) (ac (al (pvN 0 aJ)) (ac af ai)))) (DL.toB af))) (DO.toB (au gC jE (DL.toB af) (ae (pvN 8 aJ)))))) (DL.toB af))) (DL.toB af)))))
     (ar (cW (pvN 7 aJ) (DO.toL (bq (ac (al (pvN 8 aJ)) (ac (DO.toL (aw q64 O (q.mono (by decide)) (ac (DO.toL (au aQ bD (ae (pvN 9 aJ)) (DL.toB af))) (ac (al (pvN 6 aJ)) ai)))) ai))))))))
     (ah (dsN aJ sc_law.nd (DL.toO (DO.toL (bq (ac (DO.toL (aw q64 O (q.mono (by decide)) (ac (DO.toL (au aQ bD (DO.toB (aw z21 Z (q.mono (by decide)) (ac (al (pvN 0 aJ)) (ac af ai)))) (DL.toB af))) (ac (al (pvN 6 aJ)) ai)))) (ac (DO.toL (cI z86 bY eR T.n_tuple du (aD (ae (pvN 7 aJ)) aI))) ai))))))
     (ah (dsN aJ sc_law.nd (DL.toO (DO.toL (aw z107 y66 (q.mono (by decide)) (ac (al (pvN 5 aJ)) (ac (al (pvN 10 aJ)) ai))))))
     (ah (bf (fX (bQ (DO.toB (aw q90 z68 (q.mono (by decide)) (ac (al (pvN 3 aJ)) (ac (al (pvN 10 aJ)) (ac (al (pvN 6 aJ)) ai))))) (fun _=>rfl))) (ar (aG (tD (DO.toB (eU jo tP (ae (pvN 11 aJ)) (DL.toB dJ) (aF _))) (tz (eU t9 yk (DO.toB (aw q86 Y (q.mono (by decide)) (ac (al (pvN 5 aJ)) (ac (al (pvN 10 aJ)) ai)))) (DL.toB d8) (aF _)))))) aK)
     (ah (bf (DW.t (fY (fX (bQ (DO.toB (dm z91 z86 T.n_isinstance T.n_tuple du T.k_tuple (ae (pvN 11 aJ)))) (fun _=>rfl))) (fY (aP (f7 q) mO (DO.toB (aq q (ae (pvN 11 aJ)) (DL.toB af))) (DL.toB aZ) (aF _)) (iF (fX (bQ (DO.toB (aw q85 q57 (q.mono (by decide)) (ac (al (pvN 3 aJ)) (ac (al (pvN 10 aJ)) (ac (al (pvN 11 aJ)) ai))))) (fun _=>rfl))))))) (ar cA) aK)
     (ar (aG (eU t9 yk (DO.toB (aw q86 Y (q.mono (by decide)) (ac (al (pvN 5 aJ)) (ac (al (pvN 10 aJ)) ai)))) (DL.toB d8) (aF _))))))))))))))
end
end P42
namespace L2
open PySem PySem.Spec PyProof.Rows
variable {i j:Int}
theorem uJ:cJ (.int i) (.int j)=some (.leaf (.int (i+j))):=rfl
variable {x y:Str}
theorem AC (h:x.length+y.length<=qb2):cJ (.str x) (.str y)=some (.leaf (.str (x++y))):=if_pos h
variable {l m:List Dt}
theorem AD (h:l.length+m.length<=qb2):cJ (.lst l) (.lst m)=some (.lst (l++m)):=if_pos h
theorem uK (h:iT i j=true):f6 (.int i) (.int j)=some (.leaf (.int (i*j))):=if_pos h
theorem eO (h:0<j):bE (.int i) (.int j)=some (.leaf (.int (i%j))):=if_pos h
theorem AE (h:mN i j=true):tK (.int i) (.int j)=some (.leaf (.int (i^j.toNat))):=if_pos h
theorem uL:mN 2 40=true:=by decide
@[irreducible] def wide:Int:=1099511627776
theorem qo:wide=1099511627776:=by unfold wide;rfl
theorem CV:tK (.int 2) (.int 40)=some (.leaf (.int wide)):=by rw [AE uL,qo];rfl
theorem uM:(0:Int)<wide:=by rw [qo];decide
theorem gMod_w:bE (.int i) (.int wide)=some (.leaf (.int (i%wide))):=eO uM
theorem gCmp_i {f:Int->Int->Bool}:i5 f (.int i) (.int j)=some (.leaf (.bl (f i j))):=rfl
theorem Cp (h:(cmpbs l m&&decide (deeps l<=59))=true):eqD (.lst l) (.lst m)=some (peqs l m):=if_pos h
variable {neg b:Bool}
theorem o8 {x y:Dt} (h:eqD x y=some b):gEq neg x y=some (.leaf (.bl (if neg then !b else b))):=by unfold gEq;rw [h];rfl
theorem o9:gEq false (.int i) (.int j)=some (.leaf (.bl (decide (i=j)))):=rfl
theorem pb {i j:Str}:gEq false (.str i) (.str j)=some (.leaf (.bl (decide (i=j)))):=rfl
theorem AF {i j:Str}:gEq true (.str i) (.str j)=some (.leaf (.bl (!decide (i=j)))):=rfl
theorem il:ax (.lst l) (.int i)=(atI l i).map .leaf:=rfl
theorem uN:ax (.tup l) (.int i)=(atI l i).map .leaf:=rfl
theorem yo (h:x.length<=qb2):ax (.str x) (.int i)=(atI x.cps.toList i).map fun c=>.leaf (.str ⟨#[c]⟩):=if_pos h
theorem Cq {ks:List Key} {k:Dt}:cb neg k (.dct ks l)=(ka k).map fun k=>.leaf (.bl (if neg then !(cY ks l k).isSome else (cY ks l k).isSome)):=rfl
theorem Cr {x:Dt} (h:(cQ x&&l.all cQ)=true):cb neg x (.lst l)=some (.leaf (.bl (if neg then !(l.any fun y=>eqF y x) else l.any fun y=>eqF y x))):=by cases x<;>simp only [cb,gIn,inD]<;>first | rw [if_pos h];rfl | cases h
theorem Cs {x:Dt} (h:(cQ x&&l.all cQ)=true):cb neg x (.tup l)=some (.leaf (.bl (if neg then !(l.any fun y=>eqF y x) else l.any fun y=>eqF y x))):=by cases x<;>simp only [cb,gIn,inD]<;>first | rw [if_pos h];rfl | cases h
theorem gLen_l:cR [.lst l]=some (.leaf (.int l.length)):=rfl
theorem gLen_t:cR [.tup l]=some (.leaf (.int l.length)):=rfl
theorem gInt_b {i:Bool}:tT [.bl i]=some (.leaf (.int (if i then 1 else 0))):=rfl
theorem Ct:dy [.lst l]=some (.leaf (.tup l)):=rfl
theorem CW:p6 [.tup l]=some (.lst l):=rfl
theorem pd (h:fK j=true):gJ [.int j]=some (di 0 j.toNat):=if_pos h
theorem jS (q:-1000000000<=j) (h1:j<=1000000000):fK j=true:=by unfold fK;simp only [qb1,decide_eq_true_eq];lia
variable {n:Nat}
theorem AG (h:n<=1000000000):gJ [.int n]=some (di 0 n):=by rw [pd (jS (by lia) (by lia))];rfl
theorem itD_l:itD (.lst l)=some l:=rfl
theorem itD_t:itD (.tup l)=some l:=rfl
theorem truD_b:tu (.bl b)=some b:=rfl
theorem asB_b:asB (.leaf (.bl b))=some b:=rfl
theorem Cu {b:Int}:asI (.int b)=some b:=rfl
theorem small (h:n<=1000000):n<=qb2:=qc4 h (by decide)
theorem jT (h:n<1000000):n<qb2:=qb7 h (by decide)
variable {g1 g2:De->Option Out} {δ:De}
theorem br {δ':De} (h:g1 δ=some (.nx δ')):ay g1 g2 δ=g2 δ':=by unfold ay;rw [h];rfl
theorem l7 {t:T} (h:g1 δ=some (.rt t)):ay g1 g2 δ=some (.rt t):=by unfold ay;rw [h];rfl
variable {bb:Dt->De->Option De} {ft:De->Option Bool} {fe:De->Option Dt}
theorem lc {f:Dt->Dt}:∀ {ds:List Dt},(∀ d∈ds,∃ δ1,bb d δ=some δ1/\ft δ1=some true/\fe δ1=some (f d))->bw bb ft fe δ ds=some (ds.map f)
 | [],_=>rfl
 | d::r,h=>by obtain ⟨δ1,h1,h2,h3⟩:=h d qd4;unfold bw;rw [h1,qa3,h2,qa3,if_pos rfl,h3,qa3,lc fun e q=>h e (qc3 _ q)];rfl
theorem ny {P:Dt->Dt->Prop}:∀ {ds:List Dt},(∀ d∈ds,∃ δ1 y,bb d δ=some δ1/\ft δ1=some true/\fe δ1=some y/\P d y)->∃ ys,bw bb ft fe δ ds=some ys/\Paired P ds ys
 | [],_=>⟨[],rfl,.nil⟩
 | d::r,h=>by
  obtain ⟨δ1,y,h1,h2,h3,q⟩:=h d qd4;obtain ⟨ys,Y,Z⟩:=ny fun e O=>h e (qc3 _ O)
  refine ⟨y::ys,?_,.cons q Z⟩;unfold bw;rw [h1,qa3,h2,qa3,if_pos rfl,h3,qa3,Y];rfl
variable {lo:Int}
theorem mem_range {d:Dt} (h:d∈di lo n):∃ i:Nat,i<n/\d=.int (lo+i):=by unfold di at h;obtain ⟨i,hi,rfl⟩:=qd2.mp h;exact ⟨i,qd0.mp hi,rfl⟩
theorem rP:(di lo n).length=n:=by simp [di]
variable {src:List (Option Nat)} {fi:De->Option (List Dt)} {ds:List Dt}
theorem uO {ys:List Dt} (h1:fi δ=some ds) (h2:bw bb ft fe (dC src δ) ds=some ys) (h3:ys.length<=1000000):bj src fi bb ft fe δ=some (.lst ys):=by unfold bj;rw [h1,qa3,h2,qa3];exact if_pos (small h3)
variable {g:De->Option Out}
theorem bI {d:Dt} {r:List Dt} {δ1 δ2:De} (h1:bb d δ=some δ1) (h2:g δ1=some (.nx δ2)):ca bb g (d::r) δ=ca bb g r δ2:=by show ((bb d δ).bind fun δ1=>(g δ1).bind fun o=>match o with | .nx δ2=>ca bb g r δ2 | .ct δ2=>ca bb g r δ2 | .bk δ2=>some (.nx δ2) | .rt t=>some (.rt t))=_;rw [h1,qa3,h2];rfl
theorem bT {α:Type} {l:List α} {k:Nat}:atI l (k:Int)=l[k]?:=by
 unfold atI ixN;rw [if_pos (by lia)];by_cases h:k<l.length
 . rw [if_pos (by lia)];simp
 . rw [if_neg (by lia)];simp;lia
theorem AH (h1:-1000000000000000000<i) (h2:i<1000000000000000000):f6 (.int i) (.int j)=some (.leaf (.int (i*j))):=uK (wf h1 h2)
theorem uP (h1:-1000000000000000000<j) (h2:j<1000000000000000000):f6 (.int i) (.int j)=some (.leaf (.int (i*j))):=uK (wg h1 h2)
def im (o:Option Out) (g:De->Option Out):Option Out:=o.bind fun o=>match o with
 | .nx q=>g q
 | o=>some o
theorem bW:ay g1 g2 δ=im (g1 δ) g2:=rfl
theorem bh:im (some (.nx δ)) g=g δ:=rfl
theorem Cv {t:T}:im (some (.rt t)) g=some (.rt t):=rfl
def pe:Option Out->Option T
 | some (.rt t)=>some t
 | some (.nx _)=>some (.leaf .non)
 | _=>none
theorem uQ {m:Nat}:ci m g ds=pe (g (ds.map (fun d=>some (.leaf d))++qh4 (m-ds.length) none)):=rfl
theorem CY {t:T}:pe (some (.rt t))=some t:=rfl
def iW {α:Type} (b:Option Bool) (f g:De->Option α) (δ:De):Option α:=b.bind fun b=>if b then f δ else g δ
theorem l8 {α:Type} {f g:De->Option α}:iW (some true) f g δ=f δ:=rfl
theorem l9 {α:Type} {f g:De->Option α}:iW (some false) f g δ=g δ:=rfl
theorem qp {α:Type} {f g:De->Option α} (h:b=true):iW (some b) f g δ=f δ:=by subst h;rfl
theorem qq {α:Type} {f g:De->Option α} (h:b=false):iW (some b) f g δ=g δ:=by subst h;rfl
variable {c:De->Option Bool}
theorem iX:sIf c g1 g2 δ=iW (c δ) g1 g2 δ:=rfl
theorem Cw {g1 g2:De->Option T}:vIf c g1 g2 δ=iW (c δ) g1 g2 δ:=rfl
def kB (b:Bool):De->Option Bool:=fun _=>some b
theorem kB_d:kB b δ=some b:=rfl
variable {f:De->Option Bool}
theorem AI {g:De->Option Bool}:oz f g δ=iW (f δ) g (kB false) δ:=rfl
theorem Cy {g:De->Option Bool}:fOr f g δ=iW (f δ) (kB true) g δ:=rfl
def mkL (ds:List Dt):Option T:=if ds.length<=qb2 then some (.lst ds) else none
def mkTp (ds:List Dt):Option T:=if ds.length<=qb2 then some (.leaf (.tup ds)) else none
theorem c8 (h:ds.length<=1000000):mkL ds=some (.lst ds):=if_pos (small h)
theorem CZ (h:ds.length<=1000000):mkTp ds=some (.leaf (.tup ds)):=if_pos (small h)
theorem ma {f:De->Option (List Dt)}:cy f δ=(f δ).bind mkL:=rfl
theorem vTup_d {f:De->Option (List Dt)}:cr f δ=(f δ).bind mkTp:=rfl
theorem C0:bj src fi bb ft fe δ=(fi δ).bind fun ds=>(bw bb ft fe (dC src δ) ds).bind mkL:=rfl
def appL (l:List Dt) (i:Nat) (δ:De) (d:Dt):Option Out:=if l.length<qb2 then some (.nx (δ.set i (some (.lst (l++[d]))))) else none
theorem gq {i:Nat} {d:Dt} (h:l.length<1000000):appL l i δ d=some (.nx (δ.set i (some (.lst (l++[d]))))):=if_pos (jT h)
theorem ld {i:Nat} {f:De->Option Dt} (h:δ[i]?=some (some (.lst l))):y16 i f δ=(f δ).bind (appL l i δ):=by unfold y16;rw [h];rfl
theorem pf (cs:List Nat):Txt.join "" (cs.map fun c=>(⟨#[c]⟩:Str))=⟨cs.toArray⟩:=by
 have e0:("":Str).cps=#[]:=by decide +kernel
 have q:∀ (l:List Nat) (acc:Array Nat),(l.map fun c=>(⟨#[c]⟩:Str)).foldl (fun acc p=>acc++("":Str).cps++p.cps) acc=acc++l.toArray:=by
  intro l;induction l with
  | nil=>intro acc;simp
  | cons c l O =>intro acc;rw [qa5,qj1,O,e0];simp
 unfold Txt.join qj0.Str.glued;cases cs with
 | nil=>rfl
 | cons c r =>show (⟨(r.map fun c=>(⟨#[c]⟩:Str)).foldl (fun acc p=>acc++("":Str).cps++p.cps) (#[c]:Array Nat)⟩:Str)=_;rw [q];simp
theorem md (cs:List Nat) (h:cs.length<=1000):JoinOk "" (cs.map fun c=>(⟨#[c]⟩:Str))=true:=by
 unfold JoinOk
 have h1:∀ y∈cs.map (fun c=>(⟨#[c]⟩:Str)),y.length<=1:=fun y q=>by obtain ⟨c,_,rfl⟩:=qd2.mp q;exact nL _
 rw [StrLaws.joinFits h1 (by rw [qa1,show ("":Str).length=0 by decide +kernel];lia)];rfl
theorem fH:∀ ts:List Str,fA (ts.map .str)=some ts
 | []=>rfl
 | t::r=>by show (fA (r.map .str)).map (t::·)=_;rw [fH r];rfl
def sgD (cs:List Nat):List Dt:=cs.map fun c=>.str ⟨#[c]⟩
theorem uR {cs:List Nat} (h:cs.length<=1000):gK (.str "") [.lst (sgD cs)]=some (.leaf (.str ⟨cs.toArray⟩)):=by
 have e:sgD cs=(cs.map fun c=>(⟨#[c]⟩:Str)).map .str:=by unfold sgD;rw [qc9];rfl
 show (fA (sgD cs)).bind _=_;rw [e,fH,qa3,if_pos (md cs h),pf]
theorem lg:∀ {ds ys:List Dt},Paired (fun _ y=>∃ c:Nat,y=.str ⟨#[c]⟩) ds ys->∃ cs:List Nat,ys=sgD cs/\cs.length=ds.length
 | _,_,.nil=>⟨[],rfl,rfl⟩
 | _,_,.cons ⟨c,e⟩ t=>by obtain ⟨cs,q,O⟩:=lg t;exact ⟨c::cs,by rw [e,q];rfl,by simp [O]⟩
theorem AJ {α:Type} {xs:List α} (O:0<=i) (h1:i<xs.length):∃ v,atI xs i=some v/\v∈xs:=by
 obtain ⟨n,rfl⟩:=Int.eq_ofNat_of_zero_le O;have q:n<xs.length:=by lia
 exact ⟨xs[n],vR (by simp [q]),qu3 q⟩
theorem wU (x:Str):x.length=x.cps.toList.length:=by show x.cps.size=_;simp
theorem qr (q:x.length<=1000000) (O:0<=i) (h1:i<x.length):∃ c,ax (.str x) (.int i)=some (.leaf (.str ⟨#[c]⟩))/\c∈x.cps.toList:=by obtain ⟨c,e,Y⟩:=AJ (xs:=x.cps.toList) O (by rw [<- wU];exact h1);refine ⟨c,?_,Y⟩;rw [yo (small q),e];rfl
theorem qt (h:l.length+m.length<=1000000):cJ (.lst l) (.lst m)=some (.lst (l++m)):=AD (small h)
theorem C3:cQ (.str x)=true:=rfl
theorem eqF_s:eqF (.str x) (.str y)=decide (x=y):=by show (x==y)=_;rw [qi9];simp
theorem jU:∀ {l m:List Dt},l.all cQ=true->m.all cQ=true->cmpbs l m=true
 | [],m,_,_=>by cases m<;>simp [cmpbs]
 | _::_,[],_,_=>by simp [cmpbs]
 | d::l,e::m,h,h'=>by
  simp only [ql2,qb1] at h h';simp only [cmpbs,jU h.2 h'.2,qu6];cases d<;>first | (cases h.1;done) | skip
  all_goals cases e<;>first | (cases h'.1;done) | rfl
theorem jV:∀ {l:List Dt},l.all cQ=true->deeps l=0
 | [],_=>by simp [deeps]
 | d::l,h=>by simp only [ql2,qb1] at h;simp only [deeps,jV h.2];cases d<;>first | (cases h.1;done) | rfl
theorem nz (q:l.all cQ=true) (O:m.all cQ=true):gEq neg (.lst l) (.lst m)=some (.leaf (.bl (if neg then !peqs l m else peqs l m))):=o8 (Cp (by rw [jU q O,jV q];rfl))
theorem sFor_d:dZ fi bb g δ=(fi δ).bind fun ds=>ca bb g ds δ:=rfl
theorem atI_0 {α:Type} {l:List α}:atI l 0=l[0]?:=bT (k:=0)
theorem atI_1 {α:Type} {l:List α}:atI l 1=l[1]?:=bT (k:=1)
theorem atI_2 {α:Type} {l:List α}:atI l 2=l[2]?:=bT (k:=2)
theorem atI_3 {α:Type} {l:List α}:atI l 3=l[3]?:=bT (k:=3)
theorem atI_4 {α:Type} {l:List α}:atI l 4=l[4]?:=bT (k:=4)
open PySem
theorem AK:(qa0 "copy"=qa0 "op")=False:=eq_false (by decide +kernel)
theorem wV:(qa0 "copy"=qa0 "load")=False:=eq_false (by decide +kernel)
theorem vn:(qa0 "copy"=qa0 "store")=False:=eq_false (by decide +kernel)
theorem wW:(qa0 "copy"=qa0 "take")=False:=eq_false (by decide +kernel)
theorem yp:(qa0 "copy"=qa0 "lay")=False:=eq_false (by decide +kernel)
theorem wX:(qa0 "copy"=qa0 "hear")=False:=eq_false (by decide +kernel)
theorem yq:(qa0 "copy"=qa0 "say")=False:=eq_false (by decide +kernel)
theorem AL:(qa0 "copy"=qa0 "if")=False:=eq_false (by decide +kernel)
theorem AM:(qa0 "copy"=qa0 "go")=False:=eq_false (by decide +kernel)
theorem yr:(qa0 "copy"=qa0 "end")=False:=eq_false (by decide +kernel)
theorem AN:(qa0 "op"=qa0 "copy")=False:=eq_false (by decide +kernel)
theorem AO:(qa0 "op"=qa0 "load")=False:=eq_false (by decide +kernel)
theorem yt:(qa0 "op"=qa0 "store")=False:=eq_false (by decide +kernel)
theorem AQ:(qa0 "op"=qa0 "take")=False:=eq_false (by decide +kernel)
theorem Bt:(qa0 "op"=qa0 "lay")=False:=eq_false (by decide +kernel)
theorem AR:(qa0 "op"=qa0 "hear")=False:=eq_false (by decide +kernel)
theorem Bu:(qa0 "op"=qa0 "say")=False:=eq_false (by decide +kernel)
theorem Cz:(qa0 "op"=qa0 "if")=False:=eq_false (by decide +kernel)
theorem CA:(qa0 "op"=qa0 "go")=False:=eq_false (by decide +kernel)
theorem Bv:(qa0 "op"=qa0 "end")=False:=eq_false (by decide +kernel)
theorem wY:(qa0 "load"=qa0 "copy")=False:=eq_false (by decide +kernel)
theorem AS:(qa0 "load"=qa0 "op")=False:=eq_false (by decide +kernel)
theorem vo:(qa0 "load"=qa0 "store")=False:=eq_false (by decide +kernel)
theorem wZ:(qa0 "load"=qa0 "take")=False:=eq_false (by decide +kernel)
theorem yu:(qa0 "load"=qa0 "lay")=False:=eq_false (by decide +kernel)
theorem w4:(qa0 "load"=qa0 "hear")=False:=eq_false (by decide +kernel)
theorem yv:(qa0 "load"=qa0 "say")=False:=eq_false (by decide +kernel)
theorem AT:(qa0 "load"=qa0 "if")=False:=eq_false (by decide +kernel)
theorem AU:(qa0 "load"=qa0 "go")=False:=eq_false (by decide +kernel)
theorem yw:(qa0 "load"=qa0 "end")=False:=eq_false (by decide +kernel)
theorem vp:(qa0 "store"=qa0 "copy")=False:=eq_false (by decide +kernel)
theorem yx:(qa0 "store"=qa0 "op")=False:=eq_false (by decide +kernel)
theorem vq:(qa0 "store"=qa0 "load")=False:=eq_false (by decide +kernel)
theorem vt:(qa0 "store"=qa0 "take")=False:=eq_false (by decide +kernel)
theorem w6:(qa0 "store"=qa0 "lay")=False:=eq_false (by decide +kernel)
theorem vv:(qa0 "store"=qa0 "hear")=False:=eq_false (by decide +kernel)
theorem w8:(qa0 "store"=qa0 "say")=False:=eq_false (by decide +kernel)
theorem yy:(qa0 "store"=qa0 "if")=False:=eq_false (by decide +kernel)
theorem yz:(qa0 "store"=qa0 "go")=False:=eq_false (by decide +kernel)
theorem w9:(qa0 "store"=qa0 "end")=False:=eq_false (by decide +kernel)
theorem xa:(qa0 "take"=qa0 "copy")=False:=eq_false (by decide +kernel)
theorem AV:(qa0 "take"=qa0 "op")=False:=eq_false (by decide +kernel)
theorem xb:(qa0 "take"=qa0 "load")=False:=eq_false (by decide +kernel)
theorem vw:(qa0 "take"=qa0 "store")=False:=eq_false (by decide +kernel)
theorem yA:(qa0 "take"=qa0 "lay")=False:=eq_false (by decide +kernel)
theorem xc:(qa0 "take"=qa0 "hear")=False:=eq_false (by decide +kernel)
theorem yB:(qa0 "take"=qa0 "say")=False:=eq_false (by decide +kernel)
theorem AW:(qa0 "take"=qa0 "if")=False:=eq_false (by decide +kernel)
theorem AX:(qa0 "take"=qa0 "go")=False:=eq_false (by decide +kernel)
theorem yC:(qa0 "take"=qa0 "end")=False:=eq_false (by decide +kernel)
theorem Bw:(qa0 "lay"=qa0 "op")=False:=eq_false (by decide +kernel)
theorem yD:(qa0 "lay"=qa0 "take")=False:=eq_false (by decide +kernel)
theorem Bx:(qa0 "lay"=qa0 "if")=False:=eq_false (by decide +kernel)
theorem By:(qa0 "lay"=qa0 "go")=False:=eq_false (by decide +kernel)
theorem AY:(qa0 "lay"=qa0 "end")=False:=eq_false (by decide +kernel)
theorem xf:(qa0 "hear"=qa0 "copy")=False:=eq_false (by decide +kernel)
theorem AZ:(qa0 "hear"=qa0 "op")=False:=eq_false (by decide +kernel)
theorem xg:(qa0 "hear"=qa0 "load")=False:=eq_false (by decide +kernel)
theorem vz:(qa0 "hear"=qa0 "store")=False:=eq_false (by decide +kernel)
theorem xh:(qa0 "hear"=qa0 "take")=False:=eq_false (by decide +kernel)
theorem yE:(qa0 "hear"=qa0 "lay")=False:=eq_false (by decide +kernel)
theorem yF:(qa0 "hear"=qa0 "say")=False:=eq_false (by decide +kernel)
theorem A0:(qa0 "hear"=qa0 "if")=False:=eq_false (by decide +kernel)
theorem A1:(qa0 "hear"=qa0 "go")=False:=eq_false (by decide +kernel)
theorem yG:(qa0 "hear"=qa0 "end")=False:=eq_false (by decide +kernel)
theorem yH:(qa0 "say"=qa0 "copy")=False:=eq_false (by decide +kernel)
theorem Bz:(qa0 "say"=qa0 "op")=False:=eq_false (by decide +kernel)
theorem yI:(qa0 "say"=qa0 "load")=False:=eq_false (by decide +kernel)
theorem xi:(qa0 "say"=qa0 "store")=False:=eq_false (by decide +kernel)
theorem yJ:(qa0 "say"=qa0 "take")=False:=eq_false (by decide +kernel)
theorem A2:(qa0 "say"=qa0 "lay")=False:=eq_false (by decide +kernel)
theorem yK:(qa0 "say"=qa0 "hear")=False:=eq_false (by decide +kernel)
theorem BA:(qa0 "say"=qa0 "if")=False:=eq_false (by decide +kernel)
theorem BB:(qa0 "say"=qa0 "go")=False:=eq_false (by decide +kernel)
theorem A3:(qa0 "say"=qa0 "end")=False:=eq_false (by decide +kernel)
theorem A4:(qa0 "if"=qa0 "copy")=False:=eq_false (by decide +kernel)
theorem CB:(qa0 "if"=qa0 "op")=False:=eq_false (by decide +kernel)
theorem A5:(qa0 "if"=qa0 "load")=False:=eq_false (by decide +kernel)
theorem yL:(qa0 "if"=qa0 "store")=False:=eq_false (by decide +kernel)
theorem A6:(qa0 "if"=qa0 "take")=False:=eq_false (by decide +kernel)
theorem BC:(qa0 "if"=qa0 "lay")=False:=eq_false (by decide +kernel)
theorem A7:(qa0 "if"=qa0 "hear")=False:=eq_false (by decide +kernel)
theorem BD:(qa0 "if"=qa0 "say")=False:=eq_false (by decide +kernel)
theorem CC:(qa0 "if"=qa0 "go")=False:=eq_false (by decide +kernel)
theorem BE:(qa0 "if"=qa0 "end")=False:=eq_false (by decide +kernel)
theorem CD:(qa0 "go"=qa0 "op")=False:=eq_false (by decide +kernel)
theorem A8:(qa0 "go"=qa0 "take")=False:=eq_false (by decide +kernel)
theorem BF:(qa0 "go"=qa0 "lay")=False:=eq_false (by decide +kernel)
theorem BG:(qa0 "go"=qa0 "end")=False:=eq_false (by decide +kernel)
theorem yM:(qa0 "end"=qa0 "copy")=False:=eq_false (by decide +kernel)
theorem BH:(qa0 "end"=qa0 "op")=False:=eq_false (by decide +kernel)
theorem yN:(qa0 "end"=qa0 "load")=False:=eq_false (by decide +kernel)
theorem xj:(qa0 "end"=qa0 "store")=False:=eq_false (by decide +kernel)
theorem yO:(qa0 "end"=qa0 "take")=False:=eq_false (by decide +kernel)
theorem A9:(qa0 "end"=qa0 "lay")=False:=eq_false (by decide +kernel)
theorem yP:(qa0 "end"=qa0 "hear")=False:=eq_false (by decide +kernel)
theorem Ba:(qa0 "end"=qa0 "say")=False:=eq_false (by decide +kernel)
theorem BJ:(qa0 "end"=qa0 "if")=False:=eq_false (by decide +kernel)
theorem BK:(qa0 "end"=qa0 "go")=False:=eq_false (by decide +kernel)
variable {acc:List Str}
theorem uS {k:Str}:x∈gv acc k↔x∈acc∨x=k:=by
 unfold gv;split
 . rename_i h;exact ⟨.inl,fun z=>z.elim id fun e=>e▸h⟩
 . simp
theorem gh:∀ {ss acc:List Str},x∈ss.foldl gv acc↔x∈acc∨x∈ss
 | [],acc=>by simp
 | s::ss,acc=>by rw [qj1,gh,uS,qa6,or_assoc]
variable {ss:List Str}
theorem onces_mem:x∈d9 ss↔x∈ss:=by unfold d9;rw [gh];simp
theorem ph {k:Str} (h:acc.Nodup):(gv acc k).Nodup:=by
 unfold gv;split
 . exact h
 . rename_i O;rw [qm8];exact ⟨h,by simp,fun a Y b q e=>O (by rw [qb0.mp q] at e;exact e▸Y)⟩
theorem fm:∀ {ss acc:List Str},acc.Nodup->(ss.foldl gv acc).Nodup
 | [],acc,h=>h
 | s::ss,acc,h=>by rw [qj1];exact fm (ph h)
theorem nA (ss:List Str):(d9 ss).Nodup:=fm List.nodup_nil
def Sd (l:List Str):Prop:=l.Pairwise fun a b=>leS a b=true/\a≠b
theorem xk (q:ss.Nodup):Sd (dn ss):=by
 have h1:=f9 ss;have h2:(dn ss).Pairwise fun a b=>a≠b:=(cU ss).nodup_iff.mpr q
 exact h1.and h2
theorem Sd.nodup {l:List Str} (h:Sd l):l.Nodup:=qt1 (fun z=>z.2) h
theorem uT:∀ {l m:List Str},Sd l->Sd m->(∀ x,x∈l↔x∈m)->l=m
 | [],[],_,_,_=>rfl
 | [],b::m,_,_,h=>by simpa using (h b).mpr (.head _)
 | a::l,[],_,_,h=>by simpa using (h a).mp (.head _)
 | a::l,b::m,Z,hm,h=>by
  have O:=qh1.mp Z;have q:=qh1.mp hm
  have e:a=b:=by
   rcases qa6.mp ((h a).mp (.head _)) with z | z
   . exact z
   . rcases qa6.mp ((h b).mpr (.head _)) with y | y
     . exact y.symm
     . exact m9 (O.1 b y).1 (q.1 a z).1
  subst e;congr 1;refine uT O.2 q.2 fun x=>⟨fun Y=>?_,fun Y=>?_⟩
  . rcases qa6.mp ((h x).mp (.tail _ Y)) with z | z
    . exact absurd z.symm (O.1 x Y).2
    . exact z
  . rcases qa6.mp ((h x).mpr (.tail _ Y)) with z | z
    . exact absurd z.symm (q.1 x Y).2
    . exact z
theorem cM {α:Type} [DecidableEq α]:∀ {l m:List α},l.Nodup->(∀ x∈l,x∈m)->l.length<=m.length
 | [],m,_,_=>qj2 _
 | a::l,m,h,O=>by
  obtain ⟨h1,h2⟩:=qh3.mp h;have Y:a∈m:=O a (.head _);have:=cM (m:=m.erase a) h2 fun x q=>(List.mem_erase_of_ne (show x≠a from fun e=>h1 (by rw [<- e];exact q))).mpr (O x (.tail _ q))
  rw [List.length_erase_of_mem Y] at this;have hp:=List.length_pos_of_mem Y;rw [qg7];lia
theorem CG {l m:List Str} (Y:Sd l) (hm:Sd m) (h:∀ x∈l,x∈m) (Z:l≠m):l.length<m.length:=by
 by_cases z:∃ x,x∈m/\x∉l
 . obtain ⟨x,h1,h2⟩:=z
   have:=cM (l:=x::l) (m:=m) (qh3.mpr ⟨h2,Y.nodup⟩) fun y O=>by
    rcases qa6.mp O with rfl | O
    . exact h1
    . exact h y O
   rw [qg7] at this;lia
 . exact absurd (uT Y hm fun x=>⟨h x,fun hx=>qx3 fun q=>z ⟨x,hx,q⟩⟩) Z
inductive Atm where
 | nm (x:Str) | vl (i:Int)
inductive Rw where
 | copy (x:Str) (a:Atm) | op (x s:Str) (a b:Atm) | load (x c:Str) | store (c:Str) (a:Atm) | take (x f:Str) (a:Atm) | lay (f:Str) (a b:Atm) | hear (x:Str) | say (a:Atm) | iff (a:Atm) (g:Nat) | go (g:Nat) | fin (a:Atm)
def Rw.atoms:Rw->List Atm
 | .copy _ a=>[a] | .op _ _ a b=>[a,b] | .load _ _=>[] | .store _ a=>[a] | .take _ _ a=>[a] | .lay _ a b=>[a,b] | .hear _=>[] | .say a=>[a] | .iff a _=>[a] | .go _=>[] | .fin a=>[a]
def nms:List Atm->List Str
 | []=>[]
 | .nm x::r=>x::nms r
 | .vl _::r=>nms r
def Rw.reads (r:Rw):List Str:=d9 (nms r.atoms)
def Rw.sets:Rw->Option Str
 | .copy x _=>some x | .op x _ _ _=>some x | .load x _=>some x | .take x _ _=>some x | .hear x=>some x
 | _=>none
def Rw.outs (n:Nat):Rw->List Nat
 | .go g=>[g] | .iff _ g=>[g,n+1] | .fin _=>[]
 | _=>[n+1]
theorem jh:∀ l:List Atm,(nms l).length<=l.length
 | []=>nL _
 | .nm x::r=>Nat.succ_le_succ (jh r)
 | .vl _::r=>Nat.le_succ_of_le (jh r)
theorem Rw.reads_len (r:Rw):r.reads.length<=2:=by
 have h1:=k7 (nms r.atoms);have h2:=jh r.atoms;have h3:r.atoms.length<=2:=by cases r<;>simp [Rw.atoms]
 unfold Rw.reads;lia
theorem Rw.outs_len (r:Rw) (n:Nat):(r.outs n).length<=2:=by cases r<;>simp [Rw.outs]
def iY (r:Rw) (ls:List (List Str)):List Str:=ls.flatMap fun l=>l.filter fun b=>decide (r.sets≠some b)
def NA (r:Rw) (ls:List (List Str)):List Str:=dn (d9 (r.reads++iY r ls))
theorem rQ:x∈dn ss↔x∈ss:=(cU ss).mem_iff
variable {r:Rw}
theorem Bb {ls:List (List Str)} {b:Str}:b∈NA r ls↔b∈r.reads∨(r.sets≠some b/\∃ l∈ls,b∈l):=by
 unfold NA iY;rw [rQ,onces_mem,qf9,List.mem_flatMap];constructor
 . rintro (h | ⟨l,O,q⟩)
   . exact .inl h
   . rw [qf2,decide_eq_true_eq] at q;exact .inr ⟨q.2,l,O,q.1⟩
 . rintro (h | ⟨h,l,O,q⟩)
   . exact .inl h
   . exact .inr ⟨l,O,qf2.mpr ⟨q,decide_eq_true_eq.mpr h⟩⟩
theorem CH (r:Rw) (ls:List (List Str)):Sd (NA r ls):=xk (nA _)
inductive Needs (rows:List Rw):Nat->Str->Prop
 | here {i:Nat} {r:Rw} {b:Str}:rows[i]?=some r->b∈r.reads->Needs rows i b
 | on {i j:Nat} {r:Rw} {b:Str}:rows[i]?=some r->r.sets≠some b->j∈r.outs i->Needs rows j b->Needs rows i b
def nw (rows:List Rw) (found:List (List Str)) (i:Nat):List Str:=match rows[i]? with
 | some r=>NA r ((r.outs i).map fun j=>found.getD j [])
 | none=>[]
variable {rows:List Rw}
theorem jW {found:List (List Str)} {i:Nat} {b:Str} (h:rows[i]?=some r):b∈nw rows found i↔b∈r.reads∨(r.sets≠some b/\∃ j∈r.outs i,b∈found.getD j []):=by
 unfold nw;rw [h];show b∈NA r _↔_;rw [Bb];simp only [qd2];constructor
 . rintro (h | ⟨h,l,⟨j,O,rfl⟩,q⟩)
   . exact .inl h
   . exact .inr ⟨h,j,O,q⟩
 . rintro (h | ⟨h,j,O,q⟩)
   . exact .inl h
   . exact .inr ⟨h,_,⟨j,O,rfl⟩,q⟩
theorem yQ (rows:List Rw) (found:List (List Str)) (i:Nat):Sd (nw rows found i):=by
 unfold nw;split
 . exact CH _ _
 . exact qp5
theorem me {α:Type} {l:List (List α)} {j:Nat} {b:α} (h:b∈l.getD j []):∃ m,l[j]?=some m/\b∈m:=by
 rw [qb4] at h;cases q:l[j]? with
 | none=>rw [q] at h;simp at h
 | some m=>rw [q] at h;exact ⟨m,rfl,h⟩
theorem ji {α:Type} {l:List (List α)} {j:Nat} {m:List α} (h:l[j]?=some m):l.getD j []=m:=by rw [qb4,h];rfl
structure Fnd (rows:List Rw) (B:List Str) (found:List (List Str)):Prop where
 len:found.length=rows.length
 sd:∀ (i:Nat) (l:List Str),found[i]?=some l->Sd l
 sub:∀ (i:Nat) (l:List Str) (b:Str),found[i]?=some l->b∈l->b∈B
 nd:∀ (i:Nat) (l:List Str) (b:Str),found[i]?=some l->b∈l->Needs rows i b
 inc:∀ (i:Nat) (l:List Str) (b:Str),found[i]?=some l->b∈l->b∈nw rows found i
def tot (found:List (List Str)):Nat:=(found.map qq8).sum
theorem Fnd.start {B:List Str}:Fnd rows B (rows.map fun _=>[]):=by
 have O:∀ (i:Nat) (l:List Str),(rows.map fun _=>([]:List Str))[i]?=some l->l=[]:=fun i l h=>by rw [qb3] at h;obtain ⟨r,_,e⟩:=mS h;exact e.symm
 refine ⟨by simp,fun i l h=>?_,fun i l b h q=>?_,fun i l b h q=>?_,fun i l b h q=>?_⟩
 . rw [O i l h];exact qp5
 all_goals (rw [O i l h] at q;cases q)
section
variable {rows:List Rw} {B:List Str} {found:List (List Str)}
theorem qu {f g:List (List Str)} (h:∀ j b,b∈f.getD j []->b∈g.getD j []) {i:Nat} {b:Str} (O:b∈nw rows f i):b∈nw rows g i:=by
 cases q:rows[i]? with
 | none=>unfold nw at O;rw [q] at O;cases O
 | some r =>rw [jW q] at O ⊢;exact O.imp id fun ⟨h1,j,Y,O⟩=>⟨h1,j,Y,h j b O⟩
theorem Fnd.step (F:Fnd rows B found) (hB:∀ (i:Nat) (r:Rw) (b:Str),rows[i]?=some r->b∈r.reads->b∈B) {i:Nat} (hi:i<rows.length):Fnd rows B (found.set i (nw rows found i)):=by
 have Z:i<found.length:=by rw [F.len];exact hi
 obtain ⟨r,hr⟩:∃ r,rows[i]?=some r:=⟨rows[i],by simp [hi]⟩
 have mono:∀ j b,b∈found.getD j []->b∈(found.set i (nw rows found i)).getD j []:=fun j b q=>by
  obtain ⟨m,O,Y⟩:=me q;by_cases e:i=j
  . subst e;rw [ji (qf0 Z)];exact F.inc i m b O Y
  . rw [ji (l:=found.set i (nw rows found i)) (m:=m) (by rw [gN e];exact O)];exact Y
 refine ⟨by simp [F.len],fun j l h=>?_,fun j l b h q=>?_,fun j l b h q=>?_,fun j l b h q=>?_⟩
 . by_cases e:i=j
   . subst e;rw [qf0 Z] at h;cases h;exact yQ _ _ _
   . rw [gN e] at h;exact F.sd j l h
 . by_cases e:i=j
   . subst e;rw [qf0 Z] at h;cases h;rcases (jW hr).mp q with z | ⟨_,j,_,z⟩
     . exact hB i r b hr z
     . obtain ⟨m,O,q⟩:=me z;exact F.sub j m b O q
   . rw [gN e] at h;exact F.sub j l b h q
 . by_cases e:i=j
   . subst e;rw [qf0 Z] at h;cases h;rcases (jW hr).mp q with z | ⟨h1,j,hj,z⟩
     . exact .here hr z
     . obtain ⟨m,O,q⟩:=me z;exact .on hr h1 hj (F.nd j m b O q)
   . rw [gN e] at h;exact F.nd j l b h q
 . by_cases e:i=j
   . subst e;rw [qf0 Z] at h;cases h;exact qu mono q
   . rw [gN e] at h;exact qu mono (F.inc j l b h q)
theorem qv:∀ {found:List (List Str)} {i:Nat} {l m:List Str},found[i]?=some l->tot (found.set i m)+l.length=tot found+m.length
 | [],i,l,m,h=>by simp at h
 | x::f,0,l,m,h=>by simp at h;subst h;simp only [tot,qw8,qa5,qs1];lia
 | x::f,i+1,l,m,h=>by have:=qv (found:=f) (i:=i) (l:=l) (m:=m) (by simpa using h);simp only [tot,qw9,qa5,qs1] at this ⊢;lia
theorem tot_le:∀ {found:List (List Str)},(∀ l∈found,l.length<=n)->tot found<=found.length*n
 | [],_=>by simp [tot]
 | x::f,h=>by
  have:=tot_le (found:=f) fun l q=>h l (.tail _ q)
  have h1:=h x (.head _);simp only [tot,qa5,qs1,qg7,Nat.succ_mul] at this ⊢;lia
theorem Fnd.short (F:Fnd rows B found) {i:Nat} {l:List Str} (h:found[i]?=some l):l.length<=B.length:=cM (F.sd i l h).nodup fun b q=>F.sub i l b h q
theorem Fnd.tot_le (F:Fnd rows B found):tot found<=rows.length*B.length:=by
 rw [<- F.len];refine L2.tot_le fun l q=>?_
 obtain ⟨i,h⟩:=qm1 q;exact F.short h
theorem Fnd.more (F:Fnd rows B found) {i:Nat} {l:List Str} (h:found[i]?=some l) (q:nw rows found i≠l):tot found<tot (found.set i (nw rows found i)):=by have h1:=qv (m:=nw rows found i) h;have h2:=CG (F.sd i l h) (yQ rows found i) (fun x O=>F.inc i l x h O) (qq0 q);lia
def Fix (rows:List Rw) (found:List (List Str)):Prop:=∀ (i:Nat) (l:List Str),found[i]?=some l->nw rows found i=l
theorem Fix.all (F:Fnd rows B found) (x:Fix rows found) (hO:∀ (i:Nat) (r:Rw) (j:Nat),rows[i]?=some r->j∈r.outs i->j<rows.length) {i:Nat} {b:Str} (h:Needs rows i b):∀ l,found[i]?=some l->b∈l:=by
 induction h with
 | here q hb=>exact fun l Y=>by rw [<- x _ l Y,jW q];exact .inl hb
 | @on i j r b q h1 Z _ ih =>
  intro l Y;rw [<- x _ l Y,jW q];have O:j<found.length:=by rw [F.len];exact hO i r j q Z
  have e:found[j]?=some found[j]:=by simp [O]
  exact .inr ⟨h1,j,Z,by rw [ji e];exact ih _ e⟩
theorem Fnd.iff (F:Fnd rows B found) (x:Fix rows found) (O:∀ (i:Nat) (r:Rw) (j:Nat),rows[i]?=some r->j∈r.outs i->j<rows.length) {i:Nat} {l:List Str} (q:found[i]?=some l) (b:Str):b∈l↔Needs rows i b:=⟨F.nd i l b q,fun h=>Fix.all F x O h l q⟩
end
def Atm.d:Atm->Dt
 | .nm x=>.str x
 | .vl i=>.int i
noncomputable def Rw.d:Rw->Dt
 | .copy x a=>.tup [.str "copy",.str x,a.d]
 | .op x s a b=>.tup [.str "op",.str x,.str s,a.d,b.d]
 | .load x c=>.tup [.str "load",.str x,.str c]
 | .store c a=>.tup [.str "store",.str c,a.d]
 | .take x f a=>.tup [.str "take",.str x,.str f,a.d]
 | .lay f a b=>.tup [.str "lay",.str f,a.d,b.d]
 | .hear x=>.tup [.str "hear",.str x]
 | .say a=>.tup [.str "say",a.d]
 | .iff a g=>.tup [.str "if",a.d,.int g]
 | .go g=>.tup [.str "go",.int g]
 | .fin a=>.tup [.str "end",a.d]
def dI (j:Nat):Dt:=.int (j:Int)
def dS (l:List Str):Dt:=.lst (l.map .str)
def dF (f:List (List Str)):Dt:=.lst (f.map dS)
def dR (rows:List Rw):Dt:=.tup (rows.map Rw.d)
theorem b8 {α:Type} {f h:α->Dt}:∀ {l:List α},(∀ a∈l,∃ δ1,bb (f a) δ=some δ1/\ft δ1=some true/\fe δ1=some (h a))->bw bb ft fe δ (l.map f)=some (l.map h)
 | [],_=>rfl
 | a::l,q=>by obtain ⟨δ1,h1,h2,h3⟩:=q a qd4;rw [qa5];unfold bw;rw [h1,qa3,h2,qa3,if_pos rfl,h3,qa3,b8 fun e O=>q e (qc3 _ O)];rfl
theorem cG {α:Type} {f h:α->Dt} {p:α->Bool}:∀ {l:List α},(∀ a∈l,∃ δ1,bb (f a) δ=some δ1/\ft δ1=some (p a)/\(p a=true->fe δ1=some (h a)))->bw bb ft fe δ (l.map f)=some ((l.filter p).map h)
 | [],_=>rfl
 | a::l,q=>by
  obtain ⟨δ1,h1,h2,h3⟩:=q a qd4;have O:=cG (l:=l) fun e Y=>q e (qc3 _ Y)
  rw [qa5];unfold bw;rw [h1,qa3,h2,qa3];cases hp:p a with
  | true =>rw [if_pos rfl,h3 hp,qa3,O,qs2 hp];rfl
  | false =>rw [if_neg (by simp),O,qs3 (by simp [hp])]
theorem rR {α:Type} {f:α->Dt}:∀ (l:List α) (i:Nat),eM i (l.map f)=(l.mapIdx fun k a=>Dt.tup [.int ((i+k:Nat):Int),f a])
 | [],_=>rfl
 | a::l,i=>by rw [qa5,eM,rR l (i+1),List.mapIdx_cons];congr 1;congr 1;funext k a;rw [show i+1+k=i+(k+1) by lia]
theorem jX {α:Type} {f:α->Dt} {h:Nat->α->Dt}:∀ {l:List α} (i:Nat),(∀ k a,∃ δ1,bb (.tup [.int ((k:Nat):Int),f a]) δ=some δ1/\fe δ1=some (h k a))->bw bb bN fe δ (eM i (l.map f))=some (l.mapIdx fun k a=>h (i+k) a)
 | [],_,_=>rfl
 | a::l,i,q=>by obtain ⟨δ1,h1,h3⟩:=q i a;rw [qa5,eM];unfold bw;rw [h1,qa3];show ((fe δ1).bind fun y=>_)=_;rw [h3,qa3,jX (i+1) q,List.mapIdx_cons];show some _=some _;congr 1;congr 1;congr 1;funext k a;rw [show i+1+k=i+(k+1) by lia]
theorem em (l:List Str):(l.map Dt.str).all cQ=true:=by rw [qk7];intro x q;obtain ⟨y,_,rfl⟩:=qd2.mp q;rfl
theorem qw (l:List Str) (x:Str):((l.map Dt.str).any fun y=>eqF y (.str x))=decide (x∈l):=by
 induction l with
 | nil=>rfl
 | cons a l q =>
  rw [qa5,ql3,q,show eqF (.str a) (.str x)=decide (a=x) from rfl];by_cases h:a=x
  . simp [h]
  . have:¬ x=a:=fun z=>h z.symm
    simp [h,this]
theorem gIn_strs {l:List Str}:cb neg (.str x) (.lst (l.map .str))=some (.leaf (.bl (if neg then !decide (x∈l) else decide (x∈l)))):=by rw [Cr (by rw [em];rfl),qw]
theorem nB {l:List Str} (h:l.length<64):ii [.lst (l.map .str)]=some (.lst ((dn (d9 l)).map .str)):=by unfold ii wO;dsimp only;rw [fH,qa3,if_pos ⟨by lia,Nat.lt_of_le_of_lt (k7 l) h⟩]
theorem pi {l:List Str} (h:l.length<64):eS [.lst (l.map .str)]=some (.lst ((dn l).map .str)):=by unfold eS;dsimp only;rw [fH,qa3,if_pos h]
def extL (l m:List Dt) (i:Nat) (δ:De):Option Out:=if l.length+m.length<=qb2 then some (.nx (δ.set i (some (.lst (l++m))))) else none
theorem xl {i:Nat} (h:l.length+m.length<=1000000):extL l m i δ=some (.nx (δ.set i (some (.lst (l++m))))):=if_pos (small h)
theorem CI {i:Nat} {f:De->Option T} (h:δ[i]?=some (some (.lst l))) (q:f δ=some (.lst m)):y71 i f δ=extL l m i δ:=by unfold y71;rw [h];dsimp only;rw [q];rfl
theorem lh:∀ {l m:List Str},peqs (l.map .str) (m.map .str)=decide (l=m)
 | [],[]=>rfl
 | [],_::_=>rfl
 | _::_,[]=>rfl
 | a::l,b::m=>by rw [qa5,qa5];show (decide (a=b)&&peqs (l.map .str) (m.map .str))=_;rw [lh];by_cases h1:a=b<;>by_cases h2:l=m<;>simp [h1,h2]
theorem nC {l m:List Str}:gEq neg (.lst (l.map .str)) (.lst (m.map .str))=some (.leaf (.bl (if neg then !decide (l=m) else decide (l=m)))):=by rw [nz (em l) (em m),lh]
end L2
local macro_rules | `(tactic| walk_at "k") => `(tactic| simp -implicitDefEqProofs only [L2.uQ, L2.CY, L2.bW, L2.bh, L2.Cv, L2.bC, L2.aE, L2.bi, L2.jB, L2.iX, L2.l8, L2.l9, L2.kB_d, L2.sFor_d, L2.tF, L2.oC, L2.tV, L2.ke, L2.toT, L2.toD, L2.T.d, L2.kD, L2.vL, L2.vB, L2.d2, L2.tB2, L2.cN, L2.ei, L2.AI, L2.Cy, L2.z0, L2.Cw, L2.ak, L2.ab, L2.vTup_d, L2.ma, L2.c8, L2.CZ, L2.gq, L2.ao, L2.p7, L2.C0, L2.vSl, L2.kJ, L2.e8, L2.eL, L2.ye, L2.mW, L2.mT, L2.fIt, L2.ej, L2.ap, L2.dC, L2.bN, L2.uJ, L2.atI_0, L2.atI_1, L2.atI_2, L2.atI_3, L2.atI_4, L2.qt, L2.Cr, L2.Cs, L2.C3, L2.eqF_s, ql2, List.all_nil, ql3, List.any_nil, L2.AH, L2.uP, L2.eO, L2.CV, L2.gMod_w, L2.gCmp_i, L2.o9, L2.pb, L2.AF, L2.tN, L2.il, L2.uN, L2.Cq, L2.gLen_l, L2.gLen_t, L2.gInt_b, L2.Ct, L2.CW, L2.itD_l, L2.itD_t, L2.truD_b, L2.asB_b, L2.Cu, qa5, qt4, qg7, zc6, za4, qo8, qh4, List.getElem?_cons_zero, qn4, qw8, qw9, qa3, Option.bind_none, qo3, Option.map_none, qt8, Option.join_none, Nat.reduceAdd, Nat.reduceSub, Nat.reduceLeDiff, Int.reduceLT, Int.reduceEq, eq_self, Int.reduceNeg, Int.reduceLE, if_true, if_false, ite_true, ite_false, qi0, decide_true, decide_false, Bool.not_true, Bool.not_false, qu6, qr7, Bool.or_true, Bool.true_or, qz2, Bool.false_or, qx2, Bool.false_and, String.reduceBEq, reduceCtorEq, L2.AK, L2.wV, L2.vn, L2.wW, L2.yp, L2.wX, L2.yq, L2.AL, L2.AM, L2.yr, L2.AN, L2.AO, L2.yt, L2.AQ, L2.Bt, L2.AR, L2.Bu, L2.Cz, L2.CA, L2.Bv, L2.wY, L2.AS, L2.vo, L2.wZ, L2.yu, L2.w4, L2.yv, L2.AT, L2.AU, L2.yw, L2.vp, L2.yx, L2.vq, L2.vt, L2.w6, L2.vv, L2.w8, L2.yy, L2.yz, L2.w9, L2.xa, L2.AV, L2.xb, L2.vw, L2.yA, L2.xc, L2.yB, L2.AW, L2.AX, L2.yC, L2.Bw, L2.yD, L2.Bx, L2.By, L2.AY, L2.xf, L2.AZ, L2.xg, L2.vz, L2.xh, L2.yE, L2.yF, L2.A0, L2.A1, L2.yG, L2.yH, L2.Bz, L2.yI, L2.xi, L2.yJ, L2.A2, L2.yK, L2.BA, L2.BB, L2.A3, L2.A4, L2.CB, L2.A5, L2.yL, L2.A6, L2.BC, L2.A7, L2.BD, L2.CC, L2.BE, L2.CD, L2.A8, L2.BF, L2.BG, L2.yM, L2.BH, L2.yN, L2.xj, L2.yO, L2.A9, L2.yP, L2.Ba, L2.BJ, L2.BK])
namespace P42
open PySem L2
theorem pj (n:Nat) (r:Rw):q73 [.int n,r.d]=some (.leaf (.tup ((r.outs n).map dI))):=by cases r<;>kernel_rfl
def dW (rows:List Rw):Dt:=.lst (rows.mapIdx fun k r=>.tup ((r.outs k).map dI))
theorem mf (c s:Dt) (rows:List Rw) (h:rows.length<=1000):dD [.tup [c,s,dR rows]]=some (.lst (rows.mapIdx fun k r=>.tup ((r.outs k).map dI))):=by
 unfold dD;walk_at "k";unfold kO dR;walk_at "k"
 rw [jX (h:=fun k r=>.tup ((r.outs k).map dI)) 0 fun k a=>⟨_,rfl,by unfold q109;walk_at "k";rw [pj];walk_at "k"⟩]
 walk_at "k";rw [c8 (by rw [List.length_mapIdx];lia)];walk_at "k";simp
theorem nD (r:Rw):y50 [r.d]=some (.leaf (match r.sets with | some x=>.str x | none=>.non)):=by cases r<;>kernel_rfl
theorem uU (r:Rw):q89 [r.d]=some (.leaf (.tup (r.atoms.map Atm.d))):=by cases r<;>kernel_rfl
theorem gM (x0:Option T):∀ (q:List Atm) (acc:List Str) (x2:Option T),acc.length+q.length<=10->∃ y,ca (ap 2) q74 (q.map Atm.d) [x0,some (.lst (acc.map .str)),x2]=some (.nx [x0,some (.lst (((nms q).foldl gv acc).map .str)),y])
 | [],acc,x2,_=>⟨x2,rfl⟩
 | .vl i::q,acc,x2,h=>by obtain ⟨y,e⟩:=gM x0 q acc (some (.leaf (.int i))) (by simp at h ⊢;lia);refine ⟨y,?_⟩;rw [qa5,bI (δ1:=[x0,some (.lst (acc.map .str)),some (.leaf (.int i))]) (δ2:=[x0,some (.lst (acc.map .str)),some (.leaf (.int i))]) rfl (by unfold q74;walk_at "k"<;>rfl)];exact e
 | .nm x::q,acc,x2,h=>by
  have Y:acc.length<10:=by simp at h;lia
  obtain ⟨y,e⟩:=gM x0 q (gv acc x) (some (.leaf (.str x))) (by
   have:(gv acc x).length<=acc.length+1:=by unfold gv;split<;>simp
   simp at h ⊢;lia)
  refine ⟨y,?_⟩;rw [qa5,bI (δ1:=[x0,some (.lst (acc.map .str)),some (.leaf (.str x))]) (δ2:=[x0,some (.lst ((gv acc x).map .str)),some (.leaf (.str x))]) rfl ?_]
  . exact e
  . unfold q74 gv;walk_at "k";rw [gIn_strs];walk_at "k";by_cases O:x∈acc
    . rw [qq (by simp [O]),if_pos O];rfl
    . rw [qp (by simp [O]),if_neg O,ld rfl];walk_at "k";rw [gq (by rw [qa1];lia)];simp
theorem nE (r:Rw):y49 [r.d]=some (.lst (r.reads.map .str)):=by
 have q:r.atoms.length<=2:=by cases r<;>simp [Rw.atoms]
 obtain ⟨y,e⟩:=gM (some (.leaf r.d)) r.atoms [] none (by simp;lia);unfold y49;walk_at "k";rw [uU];walk_at "k";rw [show ([]:List Dt)=([]:List Str).map .str from rfl,e];walk_at "k";rfl
theorem rS (r:Rw) (l:List Str):bw (ap 0) y45 (vL 0) [none,some (.leaf r.d)] (l.map .str)=some ((l.filter fun b=>decide (r.sets≠some b)).map .str):=
 cG fun b _=>⟨[some (.leaf (.str b)),some (.leaf r.d)],rfl,by
  unfold y45;walk_at "k";rw [nD];walk_at "k";cases q:r.sets with
  | none =>walk_at "k";rw [show gEq true (Dt.str b) Dt.non=some (.leaf (.bl true)) from rfl];simp [asB]
  | some x =>
   walk_at "k";by_cases h:b=x
   . simp [h]
   . have:¬ x=b:=fun z=>h z.symm
     simp [h,this],fun _=>rfl⟩
theorem jY (r:Rw) (x1:Option T):∀ (ls:List (List Str)) (acc:List Str) (x3:Option T),acc.length+(ls.map qq8).sum<=1000->∃ y,ca (ap 3) q47 (ls.map dS) [some (.leaf r.d),x1,some (.lst (acc.map .str)),x3]=some (.nx [some (.leaf r.d),x1,some (.lst ((acc++iY r ls).map .str)),y])
 | [],acc,x3,_=>⟨x3,by unfold iY;simp [ca]⟩
 | l::ls,acc,x3,h=>by
  simp only [qa5,qs1] at h;have q:=qe8 (fun b=>decide (r.sets≠some b)) l;obtain ⟨y,e⟩:=jY r x1 ls (acc++l.filter fun b=>decide (r.sets≠some b)) (some (.leaf (dS l))) (by rw [qc8];lia);refine ⟨y,?_⟩;rw [qa5,bI (δ1:=[some (.leaf r.d),x1,some (.lst (acc.map .str)),some (.leaf (dS l))]) (δ2:=[some (.leaf r.d),x1,some (.lst ((acc++l.filter fun b=>decide (r.sets≠some b)).map .str)),some (.leaf (dS l))]) rfl ?_]
  . rw [e];unfold iY;simp
  . unfold q47;rw [CI (l:=acc.map .str) (m:=(l.filter fun b=>decide (r.sets≠some b)).map .str) rfl (uO (ds:=l.map .str) rfl (rS r l) (by rw [qa1];lia)),xl (by rw [qa1,qa1];lia)];simp
theorem uV (r:Rw) (ls:List (List Str)) (h:(ls.map qq8).sum<=60):y21 [r.d,.lst (ls.map dS)]=some (.lst ((NA r ls).map .str)):=by
 have q:=r.reads_len
 have Y:(iY r ls).length<=(ls.map qq8).sum:=by
  clear h q;induction ls with
  | nil=>simp [iY]
  | cons l ls O =>have Z:=qe8 (fun b=>decide (r.sets≠some b)) l;unfold iY at O ⊢;simp only [List.flatMap_cons,qc8,qa5,qs1];lia
 obtain ⟨y,e⟩:=jY r (some (.leaf (.lst (ls.map dS)))) ls r.reads none (by lia);unfold y21;walk_at "k";rw [nE];walk_at "k";rw [e];walk_at "k";rw [nB (by rw [qc8];lia)];rfl
theorem jZ (rows:List Rw) (n:Nat) (r:Rw) (h:rows[n]?=some r):y15 [dR rows,.int n]=some (.lst ((r.outs n).map dI)):=by
 have e:ax (dR rows) (.int n)=some (.leaf r.d):=by unfold dR;rw [uN,bT,qb3,h];rfl
 cases r<;>(unfold y15;simp only [Rw.d] at e;walk_at "k";repeat (rw [e];walk_at "k"))<;>rfl
def sv (r:Rw):Dt:=match r.sets with | some x=>.str x | none=>.non
theorem lj (r:Rw):y17 [r.d]=some (.leaf (sv r)):=by cases r<;>(unfold y17 sv;simp only [Rw.d,Rw.sets];walk_at "k")<;>rfl
theorem iL:∀ q:List Atm,bw (ap 0) q69 (vL 0) [none] (q.map Atm.d)=some ((nms q).map .str)
 | []=>rfl
 | .nm x::q=>by rw [qa5];unfold bw;rw [iL q];rfl
 | .vl i::q=>by rw [qa5];unfold bw;rw [iL q];rfl
theorem gO (r:Rw):y11 [r.d]=some (.lst ((nms r.atoms).map .str)):=by have q:(nms r.atoms).length<=2:=qc4 (jh _) (by cases r<;>simp [Rw.atoms]);have e:=iL r.atoms;cases r<;>(simp only [Rw.atoms,List.map] at e q ⊢;unfold y11;simp only [Rw.d];walk_at "k";first | rw [e] | skip)<;>(try walk_at "k")<;>(try rw [c8 (by rw [qa1];lia)])<;>rfl
end P42
namespace L2
open PySem PySem.Spec PyProof.Rows
variable {i:Nat} {δ:De}
theorem cO {f:De->Option T} {t:T} (h:f δ=some t):aE i f δ=some (.nx (δ.set i (some t))):=by unfold aE;rw [h];rfl
variable {c:De->Option Bool} {g1 g2:De->Option Out}
theorem rT (h:c δ=some true):sIf c g1 g2 δ=g1 δ:=by unfold sIf;rw [h];rfl
theorem rV (h:c δ=some false):sIf c g1 g2 δ=g2 δ:=by unfold sIf;rw [h];rfl
variable {g:De->Option Out} {n:Nat}
theorem io {δ1:De} (h:c δ=some true) (q:g δ=some (.nx δ1)):bG c g (n+1) δ=bG c g n δ1:=by
 conv=>lhs;unfold bG
 rw [h,qa3,if_pos rfl,q];rfl
theorem nG {t:T} (h:c δ=some true) (q:g δ=some (.rt t)):bG c g (n+1) δ=some (.rt t):=by
 conv=>lhs;unfold bG
 rw [h,qa3,if_pos rfl,q];rfl
theorem mh (h:c δ=some false):bG c g (n+1) δ=some (.nx δ):=by
 conv=>lhs;unfold bG
 rw [h];rfl
theorem ip {m:Nat} {ds:List Dt} {t:T} (h:g (ds.map (fun d=>some (T.leaf d))++qh4 (m-ds.length) none)=some (.rt t)):ci m g ds=some t:=by unfold ci;rw [h]
theorem Bc {k:Nat} (h:k<n):ixN n (k:Int)=some k:=by unfold ixN;rw [if_pos (by lia),if_pos (by lia)];simp
variable {fk fe:De->Option Dt} {l:List Dt}
theorem CJ {k:Nat} {d:Dt} (h:δ[i]?=some (some (.lst l))) (Y:fk δ=some (dI k)) (q:fe δ=some d) (O:k<l.length):ke i fk fe δ=some (.nx (δ.set i (some (.lst (l.set k d))))):=by
 unfold ke dI at*
 rw [q,Y,qa3,qa3,h];simp only [Cu,qa3,Bc O,qo3]
theorem uW {l:List (Key×Dt)} {kd d:Dt} {k:Key} (h:δ[i]?=some (some (.dct l))) (O:fk δ=some kd) (q:ka kd=some k) (Y:fe δ=some d) (Z:l.length<1000000) (nd:(l.map (·.1)).Nodup):ke i fk fe δ=some (.nx (δ.set i (some (.dct (i6 l k d))))):=by unfold ke;rw [Y,O,qa3,qa3,h];dsimp only;rw [q,qa3,if_pos ⟨jT Z,nd⟩]
theorem pk {f:De->Option Dt} {d:Dt} (h:δ[i]?=some (some (.lst l))) (q:f δ=some d) (O:l.length<1000000):y16 i f δ=some (.nx (δ.set i (some (.lst (l++[d]))))):=by unfold y16;rw [h];dsimp only;rw [q,qa3,if_pos (jT O)]
theorem Bd {j:Nat} {d:Dt} (h:δ[i]?=some (some (.lst (l++[d])))):rO j i δ=some (.nx ((δ.set i (some (.lst l))).set j (some (.leaf d)))):=by unfold rO;rw [h];simp
theorem rW (h:n<=1000):rC [.int ((n:Int)-1),.int (-1),.int (-1)]=some (((qc0 n).map fun i=>n-1-i).map dI):=by
 unfold rC
 have e:(qc6 ((n:Int)-1) (-1) (-1)).toNat=n:=by
  unfold qc6;rw [if_neg (by decide)];by_cases q:(n:Int)-1 > -1
  . rw [if_pos q];have:((n:Int)-1 - -1-1)/(- -1)=(n:Int)-1:=by rw [show (- -1:Int)=1 by decide,Int.ediv_one];lia
    rw [this];lia
  . rw [if_neg q];lia
 dsimp only;rw [if_pos (show ul ((n:Int)-1) (-1) (-1)=true by unfold ul;simp;lia),e];congr 1;unfold oQ;rw [qc9];refine List.map_congr_left fun i hi=>?_
 have:=qd0.mp hi;show Dt.int _=Dt.int ((n-1-i:Nat):Int);congr 1;lia
end L2
namespace P42
open PySem L2
theorem uX {found:List (List Str)} (q:∀ l∈found,l.length<=12):∀ js:List Nat,((js.map fun j=>found.getD j []).map qq8).sum<=12*js.length
 | []=>qj2 _
 | j::js=>by
  have O:=uX q js
  have:(found.getD j []).length<=12:=by
   rw [qb4];cases h:found[j]? with
   | none=>simp
   | some l=>exact q l (qc7 h)
  simp only [qa5,qs1,qg7];lia
variable {i:Nat} {r:Rw} {l:List Str}
section
variable {P:Dt} {rows:List Rw} {B:List Str} {found:List (List Str)}
theorem mi (h:rows[i]?=some r):ax (dW rows) (.int i)=some (.leaf (.tup ((r.outs i).map dI))):=by unfold dW;rw [il,bT,List.getElem?_mapIdx,h];rfl
theorem mj (h:rows[i]?=some r):ax (dR rows) (.int i)=some (.leaf r.d):=by unfold dR;rw [uN,bT,qb3,h];rfl
theorem Be (h:found[i]?=some l):ax (dF found) (.int i)=some (.leaf (dS l)):=by unfold dF;rw [il,bT,qb3,h];rfl
theorem rX (Y:rows[i]?=some r) (hs:∀ l∈found,l.length<=12) (hj:∀ j∈r.outs i,j<found.length) (y4 Z:Option T) :
  ao y21 (ab (toD (d2 ax (vB 1) (vB 5))) (ab (toD (bj [none,some 3] (fIt (toD (d2 ax (vB 2) (vB 5)))) (ap 0) bN z65)) ak)) [some (.leaf P),some (.leaf (dR rows)),some (.leaf (dW rows)),some (.lst (found.map dS)),y4,some (.leaf (.int i)),Z]=some (.lst ((nw rows found i).map .str)):=by
 walk_at "k";rw [mj Y,mi Y];walk_at "k"
 rw [b8 (h:=fun j=>dS (found.getD j [])) fun j O=>⟨[some (.leaf (dI j)),some (.lst (found.map dS))],rfl,rfl,by have q:=hj j O;unfold z65 dI;walk_at "k";rw [bT,qb3,qx7 q,ji (m:=found[j]) (by simp [q])];rfl⟩]
 walk_at "k";have ho:=r.outs_len i;rw [c8 (by rw [qa1];lia)];walk_at "k";have e:(r.outs i).map (fun j=>dS (found.getD j []))=((r.outs i).map fun j=>found.getD j []).map dS:=by rw [qc9];rfl
 rw [e,uV r _ (qc4 (uX hs _) (by lia))];unfold nw;rw [Y]
def sl (P:Dt) (rows:List Rw) (found:List (List Str)) (c:Bool) (x5 x6:Option T):De:=[some (.leaf P),some (.leaf (dR rows)),some (.leaf (dW rows)),some (.lst (found.map dS)),some (.leaf (.bl c)),x5,x6]
theorem xm (Z:rows[i]?=some r) (Y:found[i]?=some l) (hs:∀ l∈found,l.length<=12) (hj:∀ j∈r.outs i,j<found.length) (c:Bool) (x6:Option T) :
  ∃ q c' y6,y65 (sl P rows found c (some (.leaf (dI i))) x6)=some (.nx (sl P rows q c' (some (.leaf (dI i))) y6))∧((nw rows found i=l/\q=found/\c'=c)∨(nw rows found i≠l/\q=found.set i (nw rows found i)/\c'=true)):=by
 have h1:aE 6 (toT (toD (ao y21 (ab (toD (d2 ax (vB 1) (vB 5))) (ab (toD (bj [none,some 3] (fIt (toD (d2 ax (vB 2) (vB 5)))) (ap 0) bN z65)) ak))))) (sl P rows found c (some (.leaf (dI i))) x6)=some (.nx (sl P rows found c (some (.leaf (dI i))) (some (.leaf (dS (nw rows found i)))))):=by exact cO ((congrArg (fun z:Option T=>(z.bind T.d).map T.leaf) (rX (P:=P) Z hs hj (some (.leaf (.bl c))) x6)).trans rfl)
 have h2:tB2 (gEq true) (vB 6) (toD (d2 ax (vB 3) (vB 5))) (sl P rows found c (some (.leaf (dI i))) (some (.leaf (dS (nw rows found i)))))=some (!decide (nw rows found i=l)):=by unfold sl;walk_at "k";have:=Be Y;unfold dF at this;unfold dI;rw [this];walk_at "k";unfold dS;rw [nC];rfl
 unfold y65;rw [br h1];by_cases O:nw rows found i=l
 . refine ⟨found,c,some (.leaf (dS (nw rows found i))),?_,.inl ⟨O,rfl,rfl⟩⟩;rw [decide_eq_true O] at h2;rw [rV h2];rfl
 . have hi:i<(found.map dS).length:=by rw [qa1];exact (gX Y).1
   refine ⟨found.set i (nw rows found i),true,some (.leaf (dS (nw rows found i))),?_,.inr ⟨O,rfl,rfl⟩⟩;rw [decide_eq_false O] at h2;rw [rT h2,br (CJ (k:=i) (d:=dS (nw rows found i)) rfl rfl rfl hi),cO rfl];unfold sl;rw [List.map_set];rfl
theorem pass (hB:∀ (i:Nat) (r:Rw) (b:Str),rows[i]?=some r->b∈r.reads->b∈B) (hO:∀ (i:Nat) (r:Rw) (j:Nat),rows[i]?=some r->j∈r.outs i->j<rows.length) (hb:B.length<=12) :
  ∀ (js:List Nat) (found:List (List Str)) (c:Bool) (x5 x6:Option T),Fnd rows B found->(∀ j∈js,j<rows.length)→
  ∃ O c' y5 y6,ca (ap 5) y65 (js.map dI) (sl P rows found c x5 x6)=some (.nx (sl P rows O c' y5 y6))/\Fnd rows B O∧tot found<=tot O/\(c'=true->c=true∨tot found<tot O)/\(c'=false->c=false/\O=found/\∀ j∈js,∀ l,found[j]?=some l->nw rows found j=l)
 | [],found,c,x5,x6,F,_=>⟨found,c,x5,x6,rfl,F,nL _,.inl,fun h=>⟨h,rfl,fun j hj=>by cases hj⟩⟩
 | j::js,found,c,x5,x6,F,hj=>by
  have Z:=hj j (.head _);have hr:rows[j]?=some rows[j]:=by simp [Z]
  have hlt:j<found.length:=by rw [F.len];exact Z
  have hl:found[j]?=some found[j]:=by simp [hlt]
  have hs:∀ l∈found,l.length<=12:=fun l hl=>by obtain ⟨i,h⟩:=qm1 hl;exact qc4 (F.short h) hb
  obtain ⟨found1,c1,z6,e1,q1⟩:=xm (P:=P) hr hl hs (fun k hk=>by rw [F.len];exact hO j _ k hr hk) c x6
  have F1:Fnd rows B found1:=by
   rcases q1 with ⟨_,rfl,_⟩ | ⟨_,rfl,_⟩
   . exact F
   . exact F.step hB Z
  obtain ⟨Y,c2,y5,y6,e2,F2,t2,q2,q3⟩:=pass hB hO hb js found1 c1 (some (.leaf (dI j))) z6 F1 fun k hk=>hj k (.tail _ hk)
  refine ⟨Y,c2,y5,y6,?_,F2,?_,?_,?_⟩
  . rw [qa5,bI rfl e1];exact e2
  . rcases q1 with ⟨_,rfl,_⟩ | ⟨ne,rfl,_⟩
    . exact t2
    . exact qc4 (qh5 (F.more hl ne)) t2
  . intro h;rcases q1 with ⟨_,rfl,rfl⟩ | ⟨ne,rfl,_⟩
    . exact q2 h
    . exact .inr (qb7 (F.more hl ne) t2)
  . intro h;obtain ⟨h1,h2,h3⟩:=q3 h;rcases q1 with ⟨q,rfl,rfl⟩ | ⟨ne,rfl,rfl⟩
    . refine ⟨h1,h2,fun k hk l hl2=>?_⟩;rcases qa6.mp hk with rfl | hk
      . rw [hl] at hl2;cases hl2;exact q
      . exact h3 k hk l hl2
    . cases h1
theorem loop (hB:∀ (i:Nat) (r:Rw) (b:Str),rows[i]?=some r->b∈r.reads->b∈B) (hO:∀ (i:Nat) (r:Rw) (j:Nat),rows[i]?=some r->j∈r.outs i->j<rows.length) (hb:B.length<=12) (hn:rows.length<=1000) :
  ∀ (m:Nat) (found:List (List Str)) (x5 x6:Option T),Fnd rows B found->rows.length*B.length+2<=m+tot found→
  ∃ q y5 Z,bG z95 q66 m (sl P rows found true x5 x6)=some (.nx (sl P rows q false y5 Z))/\Fnd rows B q/\Fix rows q
 | 0,found,x5,x6,F,hm=>by have:=F.tot_le;lia
 | m+1,found,x5,x6,F,hm=>by
  obtain ⟨O,c1,y5,Z,e1,F1,t1,q1,q2⟩:=pass (P:=P) hB hO hb ((qc0 rows.length).map fun i=>rows.length-1-i) found false x5 x6 F fun j hj=>by obtain ⟨i,hi,rfl⟩:=qd2.mp hj;have:=qd0.mp hi;lia
  have hb1:q66 (sl P rows found true x5 x6)=some (.nx (sl P rows O c1 y5 Z)):=by unfold q66;rw [br (δ':=sl P rows found false x5 x6) (cO rfl)];show (rC [.int (((rows.map Rw.d).length:Int)-1),.int (-1),.int (-1)]).bind _=_;rw [qa1,rW hn,qa3];exact e1
  rw [io rfl hb1];cases c1 with
  | true =>
   rcases q1 rfl with h | h
   . cases h
   . obtain ⟨Y,z5,z6,e2,F2,x2⟩:=loop hB hO hb hn m O y5 Z F1 (by lia);exact ⟨Y,z5,z6,e2,F2,x2⟩
  | false =>
   obtain ⟨_,rfl,q3⟩:=q2 rfl
   have hm2:∃ m',m=m'+1:=by have:=F1.tot_le;exact ⟨m-1,by lia⟩
   obtain ⟨m',rfl⟩:=hm2;refine ⟨O,y5,Z,mh rfl,F1,fun i l hl=>?_⟩;have hi:i<rows.length:=by rw [<- F1.len];exact (gX hl).1
   exact q3 i (qd2.mpr ⟨rows.length-1-i,qd0.mpr (by lia),by lia⟩) l hl
end
theorem nH:∀ ds:List Dt,bw (ap 0) bN q32 [none] ds=some (ds.map fun _=>.lst [])
 | []=>rfl
 | d::ds=>by unfold bw ap;rw [qa3];show ((q32 [some (.leaf d)]).bind fun y=>(bw (ap 0) bN q32 [none] ds).bind fun r=>some (y::r))=_;rw [nH ds,show q32 [some (.leaf d)]=some (.lst []) by unfold q32;walk_at "k"];rfl
variable {s:Dt} {rows:List Rw}
theorem pp {c:Dt} {B:List Str} (hB:∀ (i:Nat) (r:Rw) (b:Str),rows[i]?=some r->b∈r.reads->b∈B) (hO:∀ (i:Nat) (r:Rw) (j:Nat),rows[i]?=some r->j∈r.outs i->j<rows.length) (O:B.length<=12) (q:rows.length<=1000) :
  ∃ found,q48 [.tup [c,s,dR rows]]=some (.lst (found.map dS))/\Fnd rows B found/\Fix rows found:=by
 have Y:rows.length*B.length<=1000*12:=Nat.mul_le_mul q O;obtain ⟨found,y5,y6,e,F,x⟩:=loop (P:=.tup [c,s,dR rows]) hB hO O q 100000 _ none none Fnd.start (by lia);refine ⟨found,?_,F,x⟩;unfold q48;refine ip ?_
 have Z:aE 2 (toT (toD (ao dD (ab (vL 0) ak)))) [some (.leaf (.tup [c,s,dR rows])),some (.leaf (dR rows)),none,none,none,none,none]=some (.nx [some (.leaf (.tup [c,s,dR rows])),some (.leaf (dR rows)),some (.leaf (dW rows)),none,none,none,none]):=by refine cO ?_;show (((dD [.tup [c,s,dR rows]]).bind T.d).map T.leaf)=_;rw [mf c s rows q];rfl
 have s3:aE 3 (bj [none] (fIt (vB 1)) (ap 0) bN q32) [some (.leaf (.tup [c,s,dR rows])),some (.leaf (dR rows)),some (.leaf (dW rows)),none,none,none,none]=some (.nx [some (.leaf (.tup [c,s,dR rows])),some (.leaf (dR rows)),some (.leaf (dW rows)),some (.lst ((rows.map fun _=>[]).map dS)),none,none,none]):=by refine cO ?_;show ((bw (ap 0) bN q32 [none] (rows.map Rw.d)).bind fun ys=>if ys.length<=qb2 then some (T.lst ys) else none)=_;rw [nH,qa3,if_pos (small (by simp;lia)),qc9,qc9];rfl
 show ay _ _ [some (.leaf (.tup [c,s,dR rows])),none,none,none,none,none,none]=_;rw [br (cO rfl)];show ay _ _ [some (.leaf (.tup [c,s,dR rows])),some (.leaf (dR rows)),none,none,none,none,none]=_;rw [br Z,br s3,br (δ':=sl (.tup [c,s,dR rows]) rows (rows.map fun _=>[]) true none none) (cO rfl),br e];rfl
theorem xn (l:List Nat) (x:Nat):((l.map dI).any fun y=>eqF y (dI x))=decide (x∈l):=by
 rw [qi9,qu1];constructor
 . rintro ⟨y,O,e⟩;obtain ⟨z,q,rfl⟩:=qd2.mp O;have:(z:Int)=x:=by simpa [dI,eqF] using e
   have:z=x:=by lia
   subst this;exact decide_eq_true q
 . intro h;exact ⟨dI x,qd2.mpr ⟨x,of_decide_eq_true h,rfl⟩,by simp [dI,eqF]⟩
theorem nI (l:List Nat):(l.map dI).all cQ=true:=by rw [qk7];intro y q;obtain ⟨z,O,rfl⟩:=qd2.mp q;rfl
theorem gIn_ints {neg:Bool} {l:List Nat} {x:Nat}:cb neg (dI x) (.lst (l.map dI))=some (.leaf (.bl (if neg then !decide (x∈l) else decide (x∈l)))):=by
 show gIn neg (dI x) (.lst (l.map dI))=_;unfold gIn
 have:inD (dI x) (.lst (l.map dI))=some (decide (x∈l)):=by show (if cQ (dI x)&&(l.map dI).all cQ then some ((l.map dI).any fun y=>eqF y (dI x)) else none)=_;rw [nI,xn];rfl
 rw [this];rfl
def kpD (k:Nat×List Str):Dt:=.tup [dI k.1,.tup (k.2.map .str)]
theorem qx (b:Dt) (ks:List (Nat×List Str)) (h:ks.length<=1000):z22 [.tup [b,.tup (ks.map kpD)]]=some (.lst ((ks.map (·.1)).map dI)):=by unfold z22;walk_at "k";rw [b8 (h:=fun p:Nat×List Str=>dI p.1) fun p hp=>⟨_,rfl,rfl,by unfold z81 kpD;walk_at "k"⟩];walk_at "k";rw [c8 (by rw [qa1];lia),qc9];walk_at "k";rfl
abbrev kcD (b:Dt) (ks:List (Nat×List Str)):Dt:=.tup [b,.tup (ks.map kpD)]
abbrev pcD (c s:Dt) (rows:List Rw):Dt:=.tup [c,s,dR rows]
def gT (rows:List Rw) (i:Nat):List Nat:=match rows[i]? with
 | some r=>r.outs i
 | none=>[]
theorem qy (h:rows[i]?=some r):gT rows i=r.outs i:=by unfold gT;rw [h]
def stay (rows:List Rw) (l:List Nat):List Nat:=l.filter fun i=>(gT rows i).any fun j=>decide (j∈l)
theorem ll:∀ bs:List Bool,iU (bs.map .bl)=some bs
 | []=>rfl
 | b::bs=>by rw [qa5];unfold iU;rw [ll bs];rfl
theorem uY (l js:List Nat):bw (ap 0) bN q35 [none,some (.leaf (.lst (l.map dI)))] (js.map dI)=some ((js.map fun j=>decide (j∈l)).map .bl):=by
 have:=b8 (f:=dI) (h:=fun j=>Dt.bl (decide (j∈l))) (bb:=ap 0) (ft:=bN) (fe:=q35) (δ:=[none,some (.leaf (.lst (l.map dI)))]) (l:=js) fun j _=>⟨[some (.leaf (dI j)),some (.leaf (.lst (l.map dI)))],rfl,rfl,by unfold q35;show (cb false (dI j) (.lst (l.map dI))).bind T.d=_;rw [gIn_ints];rfl⟩
 rw [this,qc9];rfl
theorem rY (rows:List Rw) (l:List Nat) (i:Nat) (hi:i<rows.length):y18 [some (.leaf (dI i)),some (.leaf (dW rows)),some (.leaf (.lst (l.map dI)))]=some ((gT rows i).any fun j=>decide (j∈l)):=by
 have q:rows[i]?=some rows[i]:=by simp [hi]
 have e:=mi q;have O:((rows[i]).outs i).length<=2:=Rw.outs_len _ _;unfold y18;rw [show dI i=Dt.int (i:Nat) from rfl];walk_at "k";rw [e];walk_at "k";rw [uY,qa3,c8 (by simp;lia)];walk_at "k";unfold mV;dsimp only;rw [ll,qy q];walk_at "k";simp [List.any_map,Function.comp_def]
theorem rZ (rows:List Rw) (l:List Nat) (q:∀ i∈l,i<rows.length):bw (ap 0) y18 (vL 0) [none,some (.leaf (dW rows)),some (.leaf (.lst (l.map dI)))] (l.map dI)=some ((stay rows l).map dI):=cG fun i hi=>⟨_,rfl,rY rows l i (q i hi),fun _=>rfl⟩
variable {c:De->Option Bool} {g:De->Option Out} {n:Nat} {δ:De}
theorem CK {δ2:De} (h:c δ=some true) (q:g δ=some (.nx δ2)):bG c g (n+1) δ=bG c g n δ2:=by rw [bG,h,qa3,if_pos rfl,q];rfl
theorem CL (h:c δ=some false):bG c g (n+1) δ=some (.nx δ):=by rw [bG,h,qa3,if_neg (by decide)]
theorem j0 {l:List Nat} (h:i∈stay rows l):i∈l:=(qf2.mp h).1
theorem j1 (rows:List Rw) (l:List Nat):(stay rows l).length<=l.length:=qe8 _ _
theorem uZ {l:List Nat} (h:¬ (stay rows l).length<l.length):stay rows l=l:=by have:=j1 rows l;exact (qn5 (p:=fun i=>(gT rows i).any fun j=>decide (j∈l))).eq_of_length (by unfold stay at *;lia)
theorem u0 (rows:List Rw) (l:List Nat) (Y:∀ i∈l,i<rows.length) (Z:l.length<=1000) (x1 x3 x4:Option T) :
  z36 [some (.leaf (dW rows)),x1,some (.leaf (.lst (l.map dI))),x3,x4]=some (.nx [some (.leaf (dW rows)),x1,some (.leaf (.lst ((stay rows l).map dI))),some (.leaf (.bl (decide ((stay rows l).length<l.length)))),some (.leaf (.lst ((stay rows l).map dI)))]):=by
 have q:=rZ rows l Y;have hs:=j1 rows l
 have O:toD (bj [none,some 0,some 2] (fIt (vB 2)) (ap 0) y18 (vL 0)) [some (.leaf (dW rows)),x1,some (.leaf (.lst (l.map dI))),x3,x4]=some (.lst ((stay rows l).map dI)):=by show T.d =<< ((bw (ap 0) y18 (vL 0) [none,some (.leaf (dW rows)),some (.leaf (.lst (l.map dI)))] (l.map dI)).bind mkL)=_;rw [q,qa3,c8 (by rw [qa1];lia)];rfl
 have s1:aE 4 (toT (toD (bj [none,some 0,some 2] (fIt (vB 2)) (ap 0) y18 (vL 0)))) [some (.leaf (dW rows)),x1,some (.leaf (.lst (l.map dI))),x3,x4]=some (.nx [some (.leaf (dW rows)),x1,some (.leaf (.lst (l.map dI))),x3,some (.leaf (.lst ((stay rows l).map dI)))]):=by unfold aE toT;rw [O];rfl
 unfold z36;rw [bW,s1,bh];walk_at "k";simp
theorem j2 (rows:List Rw) (hn:rows.length<=500) (x1:Option T):∀ (f:Nat) (l:List Nat) (x4:Option T),l.length<f->(∀ i∈l,i<rows.length)->l.Nodup->l.length<=1000→
  ∃ (E:List Nat) (Z:Option T),bG z48 z36 (f+1) [some (.leaf (dW rows)),x1,some (.leaf (.lst (l.map dI))),some (.leaf (.bl true)),x4]=some (.nx [some (.leaf (dW rows)),x1,some (.leaf (.lst (E.map dI))),some (.leaf (.bl false)),Z])/\stay rows E=E/\E.Nodup/\(∀ i∈E,i∈l)/\∀ C:Nat->Prop,(∀ i,C i->i∈l)->(∀ i,C i->∃ j∈gT rows i,C j)->∀ i,C i->i∈E
 | 0,l,x4,h,_,_,_=>absurd h (zd2 _)
 | f+1,l,x4,h,hl,nd,h1=>by
  have hb:=u0 rows l hl h1 x1 (some (.leaf (.bl true))) x4;have hc:z48 [some (.leaf (dW rows)),x1,some (.leaf (.lst (l.map dI))),some (.leaf (.bl true)),x4]=some true:=rfl;have hs:=j1 rows l
  have keep:∀ C:Nat->Prop,(∀ i,C i->i∈l)->(∀ i,C i->∃ j∈gT rows i,C j)->∀ i,C i->i∈stay rows l:=fun C q O i hi=>by obtain ⟨j,hj,Y⟩:=O i hi;refine qf2.mpr ⟨q i hi,?_⟩;rw [qu1];exact ⟨j,hj,decide_eq_true (q j Y)⟩
  rw [CK hc hb];by_cases z:(stay rows l).length<l.length
  . rw [decide_eq_true z];obtain ⟨E,Z,e,g1,g2,g3,g4⟩:=j2 rows hn x1 f (stay rows l) (some (.leaf (.lst ((stay rows l).map dI)))) (by lia) (fun i hi=>hl i (j0 hi)) (nd.sublist qn5) (by lia);exact ⟨E,Z,e,g1,g2,fun i hi=>j0 (g3 i hi),fun C q O=>g4 C (keep C q O) O⟩
  . rw [decide_eq_false z];have hf:=uZ z;refine ⟨stay rows l,_,CL rfl,by rw [hf];exact hf,nd.sublist qn5,fun i hi=>j0 hi,keep⟩
theorem pr (rows:List Rw) (l:List Nat) (Y:rows.length<=500) (q:∀ i∈l,i<rows.length) (O:l.Nodup) :
  ∃ E:List Nat,z26 [dW rows,.lst (l.map dI)]=some (.leaf (.lst (E.map dI)))/\stay rows E=E/\E.Nodup/\(∀ i∈E,i∈l)/\∀ C:Nat->Prop,(∀ i,C i->i∈l)->(∀ i,C i->∃ j∈gT rows i,C j)->∀ i,C i->i∈E:=by
 have h1:l.length<=rows.length:=by
  have:=cM O (m:=qc0 rows.length) fun x Z=>qd0.mpr (q x Z)
  simpa using this
 obtain ⟨E,y4,e,g⟩:=j2 rows Y (some (.leaf (.lst (l.map dI)))) 99999 l none (by lia) q O (by lia);refine ⟨E,?_,g⟩;unfold z26;walk_at "k";rw [show (100000:Nat)=99999+1 from rfl,e];walk_at "k"
variable {fa fb:De->Option Dt} {x y:Dt}
theorem bx {g:Dt->Dt->Option T} (h1:fa δ=some x) (h2:fb δ=some y):d2 g fa fb δ=g x y:=by unfold d2;rw [h1,h2];rfl
theorem az {f:De->Option T} {t:T} (h:f δ=some t):toD f δ=t.d:=by unfold toD;rw [h];rfl
variable {bb:Dt->De->Option De} {fe:De->Option Dt} {ds:List Dt}
theorem dg {src:List (Option Nat)} {fi:De->Option (List Dt)} {ft:De->Option Bool} {ys:List Dt} (h1:fi δ=some ds) (h2:bw bb ft fe (dC src δ) ds=some ys) (h3:ys.length<=1000000):bj src fi bb ft fe δ=some (.lst ys):=by unfold bj;rw [h1,qa3,h2,qa3,if_pos (small h3)]
variable {f:De->Option Dt}
theorem cB {F:List Dt->Option T} (h:f δ=some x):ao F (ab f ak) δ=F [x]:=by unfold ao ab ak;rw [h];rfl
theorem cC {F:List Dt->Option T} {g:De->Option Dt} (h:f δ=some x) (h2:g δ=some y):ao F (ab f (ab g ak)) δ=F [x,y]:=by unfold ao ab ak;rw [h,h2];rfl
theorem r6 (kept:List Nat) (n:Nat):bw (ap 0) z57 (vL 0) [none,some (.leaf (.lst (kept.map dI)))] ((qc0 n).map dI)=some (((qc0 n).filter fun i=>!decide (i∈kept)).map dI):=cG fun j _=>⟨[some (.leaf (dI j)),some (.leaf (.lst (kept.map dI)))],rfl,by unfold z57;show ((cb true (dI j) (.lst (kept.map dI))).bind asB)=_;rw [gIn_ints];rfl,fun _=>rfl⟩
theorem j3 (n:Nat) (h:n<=1000000):gJ [.int n]=some ((qc0 n).map dI):=by rw [AG (by lia)];unfold di dI;simp
theorem xp {E kept:List Nat} (hE:stay rows E=E) (Y:∀ i∈E,i∉kept) (hf:∀ (i j:Nat),j∈gT rows i->j<=i->j∈kept) (Z:∀ i∈E,i<rows.length):E=[]:=by
 have O:∀ (d i:Nat),rows.length<=i+d->i∉E:=fun d=>by
  induction d with
  | zero=>exact fun i h z=>absurd (Z i z) (by lia)
  | succ d ih =>
   intro i h z;have hz:=z;rw [<- hE] at z;obtain ⟨j,hj,e⟩:=qu1.mp (qf2.mp z).2;have q:j∈E:=of_decide_eq_true e;by_cases c:j<=i
   . exact Y j q (hf i j hj c)
   . exact ih j (by lia) q
 cases E with
 | nil=>rfl
 | cons a l=>exact absurd (.head _) (O rows.length a (by lia))
theorem xq {c b:Dt} {ks:List (Nat×List Str)} (hn:rows.length<=500) (Y:ks.length<=1000) (hf:∀ (i j:Nat),j∈gT rows i->j<=i->j∈ks.map (·.1)):q34 [pcD c s rows,kcD b ks]=some (.leaf .non):=by
 have ek:=qx b ks Y;have ew:=mf c s rows (by lia);generalize ks.map (·.1)=kept at ek hf ⊢;have nd0:((qc0 rows.length).filter fun i=>!decide (i∈kept)).Nodup:=List.nodup_range.sublist qn5
 have q:∀ i,i∈(qc0 rows.length).filter (fun i=>!decide (i∈kept))↔i<rows.length/\i∉kept:=fun i=>by rw [qf2,qd0];simp
 obtain ⟨E,ee,hE,ndE,O,maxE⟩:=pr rows ((qc0 rows.length).filter fun i=>!decide (i∈kept)) hn (fun i hi=>((q i).mp hi).1) nd0
 have lE:E.length<=rows.length:=by
  have:=cM ndE (m:=qc0 rows.length) fun x hx=>qd0.mpr ((q x).mp (O x hx)).1
  simpa using this
 have Z:E=[]:=xp hE (fun i hi=>((q i).mp (O i hi)).2) hf fun i hi=>((q i).mp (O i hi)).1
 subst Z;unfold q34;walk_at "k";rw [show z22 [kcD b ks]=_ from ek];walk_at "k";rw [show dD [pcD c s rows]=_ from ew];walk_at "k"
 rw [List.length_mapIdx,j3 _ (by lia),qa3,r6,qa3,c8 (by rw [qa1];exact qc4 (qe8 _ _) (by simp;lia))]
 walk_at "k";rw [show z26 [.lst (rows.mapIdx fun k r=>.tup ((r.outs k).map dI)),.lst (((qc0 rows.length).filter fun i=>!decide (i∈kept)).map dI)]=_ from ee];rfl
variable {m:Nat}
theorem dRt {t:T} (h:g (ds.map (fun d=>some (T.leaf d))++qh4 (m-ds.length) none)=some (.rt t)):ci m g ds=some t:=by rw [uQ,h];rfl
variable {g1:De->Option Out}
theorem lm {r:De->Option Out} {t:T} (h:c δ=some true) (h1:g1 δ=some (.rt t)):ay (sIf c g1 bC) r δ=some (.rt t):=by rw [bW,iX,h,l8,h1];rfl
theorem iq {r:De->Option Out} (h:c δ=some false):ay (sIf c g1 bC) r δ=r δ:=by rw [bW,iX,h,l9];rfl
theorem cH {g:Dt->Dt->Option T} {b:Bool} (h1:fa δ=some x) (h2:fb δ=some y) (h:g x y=some (.leaf (.bl b))):tB2 g fa fb δ=some b:=by unfold tB2;rw [bx h1 h2,h];rfl
theorem bv {f:De->Option T} {t:T} (h:f δ=some t):bi f δ=some (.rt t):=by unfold bi;rw [h];rfl
def fnB:Rw->Bool
 | .fin _=>true
 | _=>false
theorem u1 (P C:Option T) (kept:List Nat) (k:Nat) (r:Rw) (h:(fnB r&&!decide (k∈kept))=false):y38 [P,C,some (.leaf (.lst (kept.map dI))),some (.leaf (dI k)),some (.leaf r.d)]=some (.nx [P,C,some (.leaf (.lst (kept.map dI))),some (.leaf (dI k)),some (.leaf r.d)]):=by
 unfold y38;cases r<;>(simp only [Rw.d];walk_at "k")<;>try rfl
 rw [gIn_ints];walk_at "k";have:k∈kept:=by simpa [fnB] using h
 simp [this];rfl
theorem u2 (P C:Option T) (kept:List Nat):∀ (O:List Rw) (k:Nat) (x3 x4:Option T),(∀ (i:Nat) (r:Rw),O[i]?=some r->fnB r=true->k+i∈kept)->∃ Y Z,ca (d7 2 (aU (ap 3) (aU (ap 4) d6))) y38 (eM k (O.map Rw.d)) [P,C,some (.leaf (.lst (kept.map dI))),x3,x4]=some (.nx [P,C,some (.leaf (.lst (kept.map dI))),Y,Z])
 | [],k,x3,x4,_=>⟨x3,x4,rfl⟩
 | r::O,k,x3,x4,h=>by
  obtain ⟨Y,Z,e⟩:=u2 P C kept O (k+1) (some (.leaf (dI k))) (some (.leaf r.d)) fun i q hi hq=>by
   have:=h (i+1) q hi hq
   rwa [show k+1+i=k+(i+1) by lia]
  refine ⟨Y,Z,?_⟩
  have hc:(fnB r&&!decide (k∈kept))=false:=by
   cases hr:fnB r with
   | false=>rfl
   | true =>have:k∈kept:=h 0 r rfl hr;simp [this]
  have hb:=u1 P C kept k r hc;show ((y38 [P,C,some (.leaf (.lst (kept.map dI))),some (.leaf (dI k)),some (.leaf r.d)]).bind _)=_;rw [hb];exact e
theorem Bf {c b:Dt} {ks:List (Nat×List Str)} (q:ks.length<=1000) (O:∀ (i:Nat) (r:Rw),rows[i]?=some r->fnB r=true->i∈ks.map (·.1)) :
  z40 [pcD c s rows,kcD b ks]=some (.leaf .non):=by
 unfold z40;walk_at "k";rw [show z22 [kcD b ks]=_ from qx b ks q];walk_at "k";unfold kO dR;walk_at "k"
 obtain ⟨Z,Y,e⟩:=u2 (some (.leaf (pcD c s rows))) (some (.leaf (kcD b ks))) (ks.map (·.1)) rows 0 none none fun i r h1 h2=>by rw [Nat.zero_add];exact O i r h1 h2
 rw [e];rfl
structure Hd where
 x:Str
 n:Int
 b:Bool
def hdD (h:Hd):Dt:=.tup [.str h.x,.int h.n,.bl h.b]
theorem xr {α:Type} (f:α->Dt) (cs ss:List α) (q:cs.length+ss.length<=1000):ql (.tup (cs.map f)) (.tup (ss.map f))=some (.leaf (.tup ((cs++ss).map f))):=by
 cases cs with
 | nil=>rfl
 | cons a cs =>
  cases ss with
  | nil=>rw [qk1];rfl
  | cons b ss =>show (if ((a::cs).map f).length+((b::ss).map f).length<=qb2/\(a::cs).map f≠[]/\(b::ss).map f≠[] then _ else none)=_;rw [if_pos ⟨by rw [qa1,qa1];exact small (by lia),by simp,by simp⟩,qg0];rfl
theorem u3 (cs ss:List Hd) (R:Dt) (q:cs.length+ss.length<=1000):z38 [.tup [.tup (cs.map hdD),.tup (ss.map hdD),R]]=some (.lst ((((cs++ss).filter fun h=>!h.b).map (·.x)).map .str)):=by
 unfold z38;walk_at "k";rw [xr hdD cs ss q];walk_at "k"
 rw [cG (h:=fun h:Hd=>Dt.str h.x) (p:=fun h=>!h.b) fun h _=>⟨_,rfl,by
  unfold y74 hdD;walk_at "k"
  try rfl,fun _=>by unfold y73 hdD;walk_at "k"⟩]
 walk_at "k";rw [c8 (by rw [qa1];exact qc4 (qe8 _ _) (by rw [qc8];lia)),qc9];walk_at "k";rfl
variable {cs ss:List Hd}
theorem u4 {R c:Dt} (q:cs.length+ss.length<=1000) (O:∀ h∈cs++ss,h.b=true):q31 [.tup [.tup (cs.map hdD),.tup (ss.map hdD),R],c]=some (.leaf .non):=by
 have e:(cs++ss).filter (fun h=>!h.b)=[]:=zb2.mpr fun h Y=>by simp [O h Y]
 unfold q31;walk_at "k";rw [u3 cs ss R q,e];rfl
theorem ev {i j:Int} (q:0<j) (h1:j<10000000000000):bc (.int i) (.int j)=some (.leaf (.int (i/j))):=if_pos ⟨q,by lia⟩
local macro_rules | `(tactic| walk_at "w") => `(tactic| (walk_at "k"; repeat (rw [P42.ev (by decide) (by decide)]; walk_at "k")))
theorem u5 {α β:Type} (f:α->β) (l:List α) (k:Nat) (h:k<l.length) (d:α):atI (l.map f) (k:Int)=some (f (l.getD k d)):=by unfold atI ixN;rw [if_pos (by lia),qa1,if_pos (by lia)];simp [h]
theorem gr (ns:List Int) (k:Nat):y1 [.lst (ns.map .int),.int k]=some (.leaf (.int (ns.getD k 0))):=by
 unfold y1;walk_at "k";by_cases h:k<ns.length
 . rw [qp (by simpa using h)];walk_at "k";rw [u5 Dt.int ns k h 0];rfl
 . rw [qq (by simpa using h)];walk_at "k";simp [List.getD,show ns.length<=k by lia]
def letters:Str:="abcdefghijklmnopqrstuvwxyz"
theorem gi:letters.length=26:=by decide +kernel
theorem xt (c:Int) (i:Nat) (hi:i<10):∃ g:Nat,z43 [some (.leaf (.int (0+(i:Int)))),some (.leaf (.int c)),some (.leaf (.str letters))]=some (.str ⟨#[g]⟩):=by unfold z43;walk_at "w";rw [uP (i:=c) (j:=48271+2*(0+(i:Int))) (by lia) (by lia)];walk_at "w";obtain ⟨g,e,_⟩:=qr (x:=letters) (i:=c*(48271+2*(0+(i:Int)))%2147483647/9%26) (by rw [gi];decide) (qf5 _ (by decide)) (by rw [gi];exact qe4 _ (by decide));rw [e];exact ⟨g,rfl⟩
theorem nJ {x:Str} {lo hi:Option Int} (h:x.length<=1000):∃ y,gSl (.str x) lo hi=some (.leaf (.str y))/\y.length<=x.length:=⟨_,if_pos (small (by lia)),Txt.slice_le x lo hi⟩
theorem qz {x y:Str} (h:x.length+y.length<=1000000):cJ (.str x) (.str y)=some (.leaf (.str (x++y))):=AC (small h)
theorem xu (x y:Str):(x++y).length=x.length+y.length:=by show (x.cps++y.cps).size=_;rw [Array.size_append];rfl
def sgn (i:Int):Nat:=letters.cps.toList.getD i.toNat 0
theorem Bg (i:Int) (O:0<=i) (h1:i<26):ax (.str letters) (.int i)=some (.leaf (.str ⟨#[sgn i]⟩)):=by
 have q:letters.cps.toList.length=26:=by decide +kernel
 rw [yo (by rw [gi];exact small (by decide))];unfold atI ixN;rw [if_pos O,q,if_pos (by lia)];simp only [qa3];unfold sgn;rw [qb4,gQ (by lia)];rfl
theorem xw:∀ i<26,∀ j<26,letters.cps.toList.getD i 0=letters.cps.toList.getD j 0->i=j:=by decide +kernel
theorem xx (c p:Int) (m:Str) (hm:m.length<=6):∃ y z:Str,∀ i:Nat,z44 [some (.leaf (.int (0+(i:Int)))),some (.leaf (.int c)),some (.leaf (.str letters)),some (.leaf (.str m)),some (.leaf (.int p))]=some (.str (y++⟨#[sgn ((c/36+(0+(i:Int)))%26)]⟩++z)):=by obtain ⟨y,O,Y⟩:=nJ (x:=m) (lo:=none) (hi:=some p) (by lia);obtain ⟨z,q,Z⟩:=nJ (x:=m) (lo:=some p) (hi:=none) (by lia);refine ⟨y,z,fun i=>?_⟩;unfold z44;walk_at "w";have e:=Bg ((c/36+(0+(i:Int)))%26) (qf5 _ (by decide)) (qe4 _ (by decide));have hg:(⟨#[sgn ((c/36+(0+(i:Int)))%26)]⟩:Str).length=1:=rfl;rw [O];walk_at "w";rw [e];walk_at "w";rw [qz (by lia)];walk_at "w";rw [q];walk_at "w";rw [qz (by rw [xu];lia)];rfl
theorem xy (x y:Str):(x++y).cps.toList=x.cps.toList++y.cps.toList:=by show (x.cps++y.cps).toList=_;simp
variable {j:Nat}
theorem Bh {c:Int} {y z:Str} (hi:i<26) (q:j<26) (h:y++⟨#[sgn ((c/36+(0+(i:Int)))%26)]⟩++z=y++⟨#[sgn ((c/36+(0+(j:Int)))%26)]⟩++z):i=j:=by
 have e:=congrArg (fun s:Str=>s.cps.toList) h;simp only [xy] at e;have e:=List.append_cancel_left (List.append_cancel_right e);have e:sgn ((c/36+(0+(i:Int)))%26)=sgn ((c/36+(0+(j:Int)))%26):=by simpa using e
 have:=xw _ (by lia) _ (by lia) e;lia
theorem nK (c:Int) (q:Nat) (hmm:q<=20):∃ xs:List Str,q15 [.int c,.int q]=some (.lst (xs.map .str))/\xs.length=q/\xs.Nodup:=by
 have b0:=qf5 c (show (6:Int)≠0 by decide);have b1:=qe4 c (show (0:Int)<6 by decide);unfold q15;walk_at "w"
 obtain ⟨ys,e,hp⟩:=ny (bb:=ap 0) (ft:=bN) (fe:=z43) (ds:=di 0 (c%6).toNat) (δ:=[none,some (.leaf (.int c)),some (.leaf (.str letters))]) (P:=fun _ y=>∃ c:Nat,y=.str ⟨#[c]⟩) fun d O=>by obtain ⟨i,hi,rfl⟩:=mem_range O;obtain ⟨g,e⟩:=xt c i (by lia);exact ⟨_,_,rfl,rfl,e,g,rfl⟩
 obtain ⟨cs,rfl,hl⟩:=lg hp;rw [rP] at hl;rw [pd (jS (by lia) (by lia)),qa3,show qa0 "abcdefghijklmnopqrstuvwxyz"=letters from rfl,e,qa3,c8 (by unfold sgD;rw [qa1];lia)];walk_at "w";rw [show qa0 ""=("":Str) from rfl,uR (by lia)];walk_at "w";rw [eO (by lia)];walk_at "w"
 have hm:(⟨cs.toArray⟩:Str).length<=6:=by show cs.toArray.size<=6;simp;lia
 obtain ⟨y,z,Y⟩:=xx c (c/6%(c%6+1)) ⟨cs.toArray⟩ hm
 have e:=lc (bb:=ap 0) (ft:=bN) (fe:=z44) (ds:=di 0 ((q:Nat):Int).toNat) (δ:=[none,some (.leaf (.int c)),some (.leaf (.str letters)),some (.leaf (.str ⟨cs.toArray⟩)),some (.leaf (.int (c/6%(c%6+1))))]) (f:=fun d=>match d with
  | .int k=>.str (y++⟨#[sgn ((c/36+k)%26)]⟩++z)
  | d=>d) fun d O=>by
  obtain ⟨i,hi,rfl⟩:=mem_range O;exact ⟨_,rfl,rfl,Y i⟩
 have hr:(di 0 ((q:Nat):Int).toNat).map (fun d=>match d with
  | Dt.int k=>Dt.str (y++⟨#[sgn ((c/36+k)%26)]⟩++z)
  | d=>d)=((qc0 q).map fun i:Nat=>y++⟨#[sgn ((c/36+(0+(i:Int)))%26)]⟩++z).map Dt.str:=by
  unfold di;rw [qd5,qc9,qc9];rfl
 rw [hr] at e;refine ⟨(qc0 q).map fun i:Nat=>y++⟨#[sgn ((c/36+(0+(i:Int)))%26)]⟩++z,?_,by simp,?_⟩
 . rw [pd (jS (by lia) (by lia)),qa3,e,qa3,c8 (by rw [qa1,qa1,qj9];lia)];walk_at "w"
 . rw [qp9,qt0];refine qx5.mpr fun i j hi Z hij h=>?_
   simp only [qj9] at hi Z;simp only [List.getElem_range] at h;have:=Bh (qb7 hi (by lia)) (qb7 Z (by lia)) h;lia
local macro_rules | `(tactic| walk_at "w") => `(tactic| (walk_at "k"; repeat (rw [P42.ev (by decide) (by decide)]; walk_at "k")))
theorem aL {fs:De->Option (List Dt)} {d:Dt} (h1:f δ=some d) (h2:fs δ=some ds):ab f fs δ=some (d::ds):=by unfold ab;rw [h1,qa3,h2];rfl
theorem cu {fs:De->Option (List Dt)} (h:fs δ=some ds) (q:ds.length<=1000):cr fs δ=some (.leaf (.tup ds)):=by unfold cr;rw [h];exact if_pos (small (by lia))
theorem xz (h:0<l.length) (m:Int):∃ x∈l,atI (l.map Dt.str) (m%(l.length:Int))=some (.str x):=by
 have O:=qf5 m (show (l.length:Int)≠0 by lia);have h1:=qe4 m (show (0:Int)<l.length by lia);obtain ⟨k,q⟩:∃ k:Nat,m%(l.length:Int)=k:=⟨(m%(l.length:Int)).toNat,by lia⟩;rw [q] at O h1 ⊢;have Y:k<l.length:=by lia
 refine ⟨l[k],qu3 _,?_⟩;rw [bT,qb3,gQ Y];rfl
theorem yR {num:Int} (h:0<l.length) (q:vB 5 δ=some (.int num)) (hi:vB i δ=some (.lst (l.map .str))):∃ x∈l,toD (d2 ax (vB i) (toD (d2 bE (toD (d2 bc (vB 5) (kD (.int 8)))) (toD (ao cR (ab (vB i) ak)))))) δ=some (.str x):=by
 obtain ⟨x,O,e⟩:=xz h (num/8);refine ⟨x,O,az (t:=.leaf (.str x)) ((bx hi (y:=.int (num/8%(l.length:Int))) (az (t:=.leaf (.int (num/8%(l.length:Int)))) ((bx (x:=.int (num/8)) (y:=.int l.length) (az ((bx q rfl).trans (ev (by decide) (by decide)))) (az (t:=.leaf (.int l.length)) ((cB hi).trans ?_))).trans (eO (by lia))))).trans ?_)⟩
 . show some (T.leaf (.int (l.map Dt.str).length))=_;rw [qa1]
 . rw [il,e];rfl
def AtB (B:List Str) (a:Atm):Prop:=∀ x,a=.nm x->x∈B
theorem ml {B:List Str} (Y:0<B.length) (c:Int):∃ a:Atm,z19 [.int c,.lst (B.map .str)]=some (.leaf a.d)/\AtB B a:=by
 unfold z19;by_cases h:c%4=0
 . have m0:=qf5 (c/4) (show (2:Int)≠0 by decide);have m1:=qe4 (c/4) (show (0:Int)<2 by decide)
   have O:tB2 (gEq false) (toD (d2 bE (vB 0) (kD (.int 4)))) (kD (.int 0)) [some (.leaf (.int c)),some (.leaf (.lst (B.map .str)))]=some true:=by walk_at "w";simp [h]
   have:c/4%2=0∨c/4%2=1:=by lia
   rcases this with z | z
   . refine ⟨.vl (c/8%wide),dRt (lm O (bv ?_)),fun x q=>by cases q⟩;walk_at "w";rw [z];rfl
   . refine ⟨.vl (c/8%3),dRt (lm O (bv ?_)),fun x q=>by cases q⟩;walk_at "w";rw [z];rfl
 . have O:tB2 (gEq false) (toD (d2 bE (vB 0) (kD (.int 4)))) (kD (.int 0)) [some (.leaf (.int c)),some (.leaf (.lst (B.map .str)))]=some false:=by walk_at "w";simp [h]
   obtain ⟨x,Z,e⟩:=xz Y (c/4);refine ⟨.nm x,dRt ((iq O).trans (bv ?_)),fun y q=>by cases q;exact Z⟩;walk_at "w";rw [qa1,eO (by lia)];walk_at "w";rw [e];rfl
def RwB (B:List Str) (q:Nat) (r:Rw):Prop:=(∀ a∈r.atoms,AtB B a)/\∀ g,(∃ a,r=.iff a g)∨r=.go g->g<q
variable {P:Rw->Prop}
theorem ki {r:De->Option Out} {b:Bool} (O:c δ=some b) (h1:b=true->∃ q:Rw,g1 δ=some (.rt (.leaf q.d))/\P q) (h2:b=false->∃ q:Rw,r δ=some (.rt (.leaf q.d))/\P q):∃ q:Rw,ay (sIf c g1 bC) r δ=some (.rt (.leaf q.d))/\P q:=by
 cases b with
 | true =>obtain ⟨q,e,p⟩:=h1 rfl;exact ⟨q,lm O e,p⟩
 | false =>obtain ⟨q,e,p⟩:=h2 rfl;exact ⟨q,(iq O).trans e,p⟩
theorem qA {d:Dt} (h:f δ=some d):ay (aE i (toT f)) g δ=g (δ.set i (some (.leaf d))):=by unfold ay aE toT;rw [h];rfl
theorem u6 {d:Dt} (h:f δ=some d) (h2:∃ q:Rw,g (δ.set i (some (.leaf d)))=some (.rt (.leaf q.d))/\P q):∃ q:Rw,ay (aE i (toT f)) g δ=some (.rt (.leaf q.d))/\P q:=by rw [qA h];exact h2
theorem runE (h:∃ q:Rw,g (ds.map (fun d=>some (T.leaf d))++qh4 (m-ds.length) none)=some (.rt (.leaf q.d))/\P q):∃ q:Rw,ci m g ds=some (.leaf q.d)/\P q:=by obtain ⟨q,e,p⟩:=h;exact ⟨q,dRt e,p⟩
theorem Bi {B cs ss:List Str} (hB:0<B.length) (hc:0<cs.length) (hs:0<ss.length) (c:Int) (many:Nat) (hm:0<many):∃ r:Rw,y52 [.int c,.lst (B.map .str),.lst (cs.map .str),.lst (ss.map .str),.int many]=some (.leaf r.d)/\RwB B many r:=by
 have e1:toD (d2 bc (toD (d2 bE (toD (d2 f6 (vB 0) (kD (.int 48271)))) (kD (.int 2147483647)))) (kD (.int 3))) [some (.leaf (.int c)),some (.leaf (.lst (B.map .str))),some (.leaf (.lst (cs.map .str))),some (.leaf (.lst (ss.map .str))),some (.leaf (.int many)),none,none,none,none,none]=some (.int (c*48271%2147483647/3)):=by walk_at "w"
 have n0:0<=c*48271%2147483647/3:=by have:=qf5 (c*48271) (show (2147483647:Int)≠0 by decide);lia
 generalize c*48271%2147483647/3=num at e1 n0;obtain ⟨x,hx,ex⟩:=xz hB num
 have e2:toD (d2 ax (vB 1) (toD (d2 bE (vB 5) (toD (ao cR (ab (vB 1) ak)))))) [some (.leaf (.int c)),some (.leaf (.lst (B.map .str))),some (.leaf (.lst (cs.map .str))),some (.leaf (.lst (ss.map .str))),some (.leaf (.int many)),some (.leaf (.int num)),none,none,none,none]=some (.str x):=by walk_at "w";rw [qa1,eO (by lia)];walk_at "w";rw [ex];rfl
 obtain ⟨one,eo,ho⟩:=ml hB (c/14);obtain ⟨q,et,ht⟩:=ml hB (num/11)
 have e3:toD (ao z19 (ab (toD (d2 bc (vB 0) (kD (.int 14)))) (ab (vL 1) ak))) [some (.leaf (.int c)),some (.leaf (.lst (B.map .str))),some (.leaf (.lst (cs.map .str))),some (.leaf (.lst (ss.map .str))),some (.leaf (.int many)),some (.leaf (.int num)),some (.leaf (.str x)),none,none,none]=some one.d:=by walk_at "w";rw [eo];rfl
 have e4:toD (ao z19 (ab (toD (d2 bc (vB 5) (kD (.int 11)))) (ab (vL 1) ak))) [some (.leaf (.int c)),some (.leaf (.lst (B.map .str))),some (.leaf (.lst (cs.map .str))),some (.leaf (.lst (ss.map .str))),some (.leaf (.int many)),some (.leaf (.int num)),some (.leaf (.str x)),some (.leaf one.d),none,none]=some q.d:=by walk_at "w";rw [et];rfl
 have e5:toD (d2 bE (vB 0) (kD (.int 14))) [some (.leaf (.int c)),some (.leaf (.lst (B.map .str))),some (.leaf (.lst (cs.map .str))),some (.leaf (.lst (ss.map .str))),some (.leaf (.int many)),some (.leaf (.int num)),some (.leaf (.str x)),some (.leaf one.d),some (.leaf q.d),none]=some (.int (c%14)):=by walk_at "w"
 have k0:=qf5 c (show (14:Int)≠0 by decide);have k1:=qe4 c (show (0:Int)<14 by decide);generalize c%14=Z at e5 k0 k1;have O:∀ r:Rw,r.atoms=[one]->∀ a∈r.atoms,AtB B a:=fun r e a ha=>by rw [e] at ha;rw [qb0.mp ha];exact ho
 have atB2:∀ r:Rw,r.atoms=[one,q]->∀ a∈r.atoms,AtB B a:=fun r e a ha=>by
  rw [e] at ha;rcases qa6.mp ha with rfl | ha
  . exact ho
  . rw [qb0.mp ha];exact ht
 have atB0:∀ r:Rw,r.atoms=[]->∀ a∈r.atoms,AtB B a:=fun r e a ha=>by rw [e] at ha;cases ha
 have Y:∀ r:Rw,(∀ g,¬ ((∃ a,r=.iff a g)∨r=.go g))->∀ g,(∃ a,r=.iff a g)∨r=.go g->g<many:=fun r h g z=>absurd z (h g)
 obtain ⟨cx,_,ecx⟩:=yR (i:=2) (δ:=[some (.leaf (.int c)),some (.leaf (.lst (B.map .str))),some (.leaf (.lst (cs.map .str))),some (.leaf (.lst (ss.map .str))),some (.leaf (.int many)),some (.leaf (.int num)),some (.leaf (.str x)),some (.leaf one.d),some (.leaf q.d),some (.leaf (.int Z))]) hc (num:=num) rfl rfl;obtain ⟨fx,_,efx⟩:=yR (i:=3) (δ:=[some (.leaf (.int c)),some (.leaf (.lst (B.map .str))),some (.leaf (.lst (cs.map .str))),some (.leaf (.lst (ss.map .str))),some (.leaf (.int many)),some (.leaf (.int num)),some (.leaf (.str x)),some (.leaf one.d),some (.leaf q.d),some (.leaf (.int Z))]) hs (num:=num) rfl rfl
 obtain ⟨sg,esg,_⟩:=qr (x:=qa0 "+-*<=&|^") (i:=num/24%8) (by decide +kernel) (qf5 _ (by decide)) (by
  have:(qa0 "+-*<=&|^").length=8:=by decide +kernel
  rw [this];exact qe4 _ (by decide))
 have esg2:toD (d2 ax (kD (.str "+-*<=&|^")) (toD (d2 bE (toD (d2 bc (vB 5) (kD (.int 24)))) (kD (.int 8))))) [some (.leaf (.int c)),some (.leaf (.lst (B.map .str))),some (.leaf (.lst (cs.map .str))),some (.leaf (.lst (ss.map .str))),some (.leaf (.int many)),some (.leaf (.int num)),some (.leaf (.str x)),some (.leaf one.d),some (.leaf q.d),some (.leaf (.int Z))]=some (.str ⟨#[sg]⟩):=az ((bx (y:=.int (num/24%8)) rfl (by walk_at "w")).trans esg);have g0:=qf5 (num/13) (show (many:Int)≠0 by lia);have g1:=qe4 (num/13) (show (0:Int)<many by lia);obtain ⟨g,hg⟩:∃ g:Nat,num/13%(many:Int)=g:=⟨(num/13%(many:Int)).toNat,by lia⟩
 have eg:toD (d2 bE (toD (d2 bc (vB 5) (kD (.int 13)))) (vB 4)) [some (.leaf (.int c)),some (.leaf (.lst (B.map .str))),some (.leaf (.lst (cs.map .str))),some (.leaf (.lst (ss.map .str))),some (.leaf (.int many)),some (.leaf (.int num)),some (.leaf (.str x)),some (.leaf one.d),some (.leaf q.d),some (.leaf (.int Z))]=some (dI g):=by walk_at "w";rw [eO (by lia),hg];rfl
 have hgm:g<many:=by lia
 unfold y52;refine runE (u6 e1 (u6 e2 (u6 e3 (u6 e4 (u6 e5 ?_)))));refine ki (δ:=[some (.leaf (.int c)),some (.leaf (.lst (B.map .str))),some (.leaf (.lst (cs.map .str))),some (.leaf (.lst (ss.map .str))),some (.leaf (.int many)),some (.leaf (.int num)),some (.leaf (.str x)),some (.leaf one.d),some (.leaf q.d),some (.leaf (.int Z))]) (b:=decide (num/7%24=0)) (by walk_at "w") (fun _=>⟨.fin one,bv (cu rfl (by simp)),O _ rfl,Y _ (by simp)⟩) (fun _=>?_);refine ki (b:=decide (Z=0)) rfl (fun _=>⟨.copy x one,bv (cu rfl (by simp)),O _ rfl,Y _ (by simp)⟩) (fun _=>?_);refine ki (b:=decide (Z<3)) rfl (fun _=>⟨.op x ⟨#[sg]⟩ one q,bv (cu (aL rfl (aL rfl (aL esg2 rfl))) (by simp)),atB2 _ rfl,Y _ (by simp)⟩) (fun _=>?_);refine ki (b:=decide (Z<5)) rfl (fun _=>⟨.load x cx,bv (cu (aL rfl (aL rfl (aL ecx rfl))) (by simp)),atB0 _ rfl,Y _ (by simp)⟩) (fun _=>?_);refine ki (b:=decide (Z<7)) rfl (fun _=>⟨.store cx one,bv (cu (aL rfl (aL ecx rfl)) (by simp)),O _ rfl,Y _ (by simp)⟩) (fun _=>?_);refine ki (b:=decide (Z=7)) rfl (fun _=>⟨.take x fx one,bv (cu (aL rfl (aL rfl (aL efx rfl))) (by simp)),O _ rfl,Y _ (by simp)⟩) (fun _=>?_);refine ki (b:=decide (Z=8)) rfl (fun _=>⟨.lay fx one q,bv (cu (aL rfl (aL efx rfl)) (by simp)),atB2 _ rfl,Y _ (by simp)⟩) (fun _=>?_);refine ki (b:=decide (Z=9)) rfl (fun _=>⟨.hear x,bv (cu rfl (by simp)),atB0 _ rfl,Y _ (by simp)⟩) (fun _=>?_);refine ki (b:=decide (Z=10)) rfl (fun _=>⟨.say one,bv (cu rfl (by simp)),O _ rfl,Y _ (by simp)⟩) (fun _=>?_);refine ki (b:=decide (Z<13)) rfl (fun _=>⟨.iff one g,bv (cu (aL rfl (aL rfl (aL eg rfl))) (by simp)),O _ rfl,fun g' h=>by rcases h with ⟨a,h⟩ | h<;>cases h;exact hgm⟩) (fun _=>?_);exact ⟨.go g,bv (cu (aL rfl (aL eg rfl)) (by simp)),atB0 _ rfl,fun g' h=>by rcases h with ⟨a,h⟩ | h<;>cases h;exact hgm⟩
local macro_rules | `(tactic| walk_at "w") => `(tactic| (walk_at "k"; repeat (rw [P42.ev (by decide) (by decide)]; walk_at "k")))
theorem lp {α β:Type} {f:α->Dt} {h:β->Dt} {P:β->Prop}:∀ {l:List α},(∀ a∈l,∃ δ1 y,bb (f a) δ=some δ1/\fe δ1=some (h y)/\P y)->∃ ys:List β,bw bb bN fe δ (l.map f)=some (ys.map h)/\ys.length=l.length/\∀ y∈ys,P y
 | [],_=>⟨[],rfl,rfl,fun y Z=>by cases Z⟩
 | a::l,q=>by
  obtain ⟨δ1,y,h1,h2,h3⟩:=q a qd4;obtain ⟨ys,e,el,hp⟩:=lp (l:=l) fun e Y=>q e (qc3 _ Y)
  refine ⟨y::ys,?_,by simp [el],fun z O=>?_⟩
  . rw [qa5];unfold bw;rw [h1,qa3];show ((fe δ1).bind fun y=>_)=_;rw [h2,qa3,e];rfl
  . rcases qa6.mp O with rfl | O
    . exact h3
    . exact hp z O
theorem RwB.outs {B:List Str} (h:RwB B m r) (hi:i+1<m) (q:j∈r.outs i):j<m:=by
 cases r<;>simp [Rw.outs] at q<;>first | lia | skip
 . rcases q with rfl | rfl
   . exact h.2 _ (.inl ⟨_,rfl⟩)
   . exact hi
 . subst q;exact h.2 _ (.inr rfl)
variable {b:Str}
theorem RwB.reads {B:List Str} (h:RwB B m r) (Y:b∈r.reads):b∈B:=by
 have Y:=onces_mem.mp Y
 have O:∀ l:List Atm,(∀ a∈l,AtB B a)->b∈nms l->b∈B:=fun l=>by
  induction l with
  | nil=>intro _ z;cases z
  | cons a l ih =>
   intro q z;cases a with
   | nm x =>
    rcases qa6.mp z with rfl | z
    . exact q _ (.head _) _ rfl
    . exact ih (fun a Z=>q a (.tail _ Z)) z
   | vl i=>exact ih (fun a Z=>q a (.tail _ Z)) z
 exact O _ h.1 Y
structure Prg (B:List Str) (rows:List Rw):Prop where
 l0:0<rows.length
 l1:rows.length<=31
 hB:∀ (i:Nat) (r:Rw) (b:Str),rows[i]?=some r->b∈r.reads->b∈B
 hO:∀ (i:Nat) (r:Rw) (j:Nat),rows[i]?=some r->j∈r.outs i->j<rows.length
theorem xA (ns:List Int):∃ ls:List Int,gSl (.lst (ns.map .int)) (some 6) (some 36)=some (.lst (ls.map .int))/\ls.length<=30:=by
 refine ⟨(ns.drop (HT.sIx (ns.map Dt.int).length 0 (some 6))).take (HT.sIx (ns.map Dt.int).length (ns.map Dt.int).length (some 36)-HT.sIx (ns.map Dt.int).length 0 (some 6)),?_,?_⟩
 . show some (T.lst (lS (ns.map Dt.int) (some 6) (some 36)))=_;unfold lS;rw [List.map_take,List.map_drop]
 . have q:=HT.CU (ns.map Dt.int).length 0 6;have O:=HT.CU (ns.map Dt.int).length (ns.map Dt.int).length 36;rw [show (some (6:Int))=some (((6:Nat):Int)) from rfl,show (some (36:Int))=some (((36:Nat):Int)) from rfl,q,O];simp;lia
theorem u7 {k:Nat} (h:k<l.length):atI (l.map Dt.str) (k:Int)=some (.str l[k]):=by rw [bT,qb3,gQ h];rfl
variable {th:List Str}
theorem u8 (ht:th.length=12) (O:Int) (k:Nat) (hk:k<8):∃ h:Hd,q37 [some (.leaf (dI k)),some (.leaf (.lst (th.map .str))),some (.leaf (.int O))]=some (hdD h)/\True:=by
 have e:=u7 (l:=th) (k:=k) (by lia);have m0:=qf5 (k:Int) (show (4:Int)≠0 by decide);have m1:=qe4 (k:Int) (show (0:Int)<4 by decide)
 obtain ⟨q,Z,Y⟩:∃ q:Int,0<q/\q<10000000000000/\atI [Dt.int 1,.int 2,.int 4,.int 8] ((k:Int)%4)=some (.int q):=by
  generalize (k:Int)%4=z at m0 m1;have:z=0∨z=1∨z=2∨z=3:=by lia
  rcases this with rfl | rfl | rfl | rfl
  . exact ⟨1,by decide,by decide,rfl⟩
  . exact ⟨2,by decide,by decide,rfl⟩
  . exact ⟨4,by decide,by decide,rfl⟩
  . exact ⟨8,by decide,by decide,rfl⟩
 refine ⟨⟨th[k],O/64%5+k,decide (O/q%3=0)⟩,?_,trivial⟩;unfold q37 dI;walk_at "w";rw [e];walk_at "w";rw [Y.2];walk_at "w";rw [ev Z Y.1];walk_at "w";rfl
variable {x0 x1 x3 x4 x9 x10 x11 x12 x13:Option T}
theorem pv {x6:Option T} (ht:th.length=12) (O:Int) (done:List Hd) (hd:done.length<=100) (k:Nat) (hk:k<4):∃ h:Hd,q30 [x0,x1,some (.leaf (.lst (th.map .str))),x3,x4,some (.leaf (.int O)),x6,some (.lst (done.map hdD)),some (.leaf (dI k)),x9,x10,x11,x12,x13]=some (.nx [x0,x1,some (.leaf (.lst (th.map .str))),x3,x4,some (.leaf (.int O)),x6,some (.lst ((done++[h]).map hdD)),some (.leaf (dI k)),x9,x10,x11,x12,x13]):=by
 have e:=u7 (l:=th) (k:=8+k) (by lia);have m0:=qf5 (k:Int) (show (2:Int)≠0 by decide);have m1:=qe4 (k:Int) (show (0:Int)<2 by decide)
 obtain ⟨q,Z,Y⟩:∃ q:Int,0<q/\q<10000000000000/\atI [Dt.int 16,.int 32] ((k:Int)%2)=some (.int q):=by
  generalize (k:Int)%2=z at m0 m1;have:z=0∨z=1:=by lia
  rcases this with rfl | rfl
  . exact ⟨16,by decide,by decide,rfl⟩
  . exact ⟨32,by decide,by decide,rfl⟩
 refine ⟨⟨th[8+k],1+O/5%8,decide (O/q%3=0)⟩,?_⟩;unfold q30 dI;rw [ld rfl];walk_at "w";rw [show (8:Int)+(k:Int)=((8+k:Nat):Int) by lia,e];walk_at "w";rw [Y.2];walk_at "w";rw [ev Z Y.1];walk_at "w";rw [gq (by rw [qa1];lia),qg0];rfl
theorem j4 {x0 x1 x3 x4 x6 x9 x10 x11 x12 x13:Option T} (Y:th.length=12) (q:Int):∀ (d t:Nat) (done:List Hd) (x8:Option T),t+d<=4->done.length=t->∃ (all:List Hd) (O:Option T),all.length=t+d/\ca (ap 8) q30 ((List.range' t d).map dI) [x0,x1,some (.leaf (.lst (th.map .str))),x3,x4,some (.leaf (.int q)),x6,some (.lst (done.map hdD)),x8,x9,x10,x11,x12,x13]=some (.nx [x0,x1,some (.leaf (.lst (th.map .str))),x3,x4,some (.leaf (.int q)),x6,some (.lst (all.map hdD)),O,x9,x10,x11,x12,x13])
 | 0,t,done,x8,_,h=>⟨done,x8,h,rfl⟩
 | d+1,t,done,x8,h1,h2=>by obtain ⟨h,e⟩:=pv (x0:=x0) (x1:=x1) (x3:=x3) (x4:=x4) (x6:=x6) (x9:=x9) (x10:=x10) (x11:=x11) (x12:=x12) (x13:=x13) Y q done (by lia) t (by lia);obtain ⟨all,O,g1,g2⟩:=j4 (x0:=x0) (x1:=x1) (x3:=x3) (x4:=x4) (x6:=x6) (x9:=x9) (x10:=x10) (x11:=x11) (x12:=x12) (x13:=x13) Y q d (t+1) (done++[h]) (some (.leaf (dI t))) (by lia) (by simp;lia);refine ⟨all,O,by lia,?_⟩;rw [List.range'_succ,qa5,bI rfl e,g2]
abbrev pgD (cs ss:List Hd) (rows:List Rw):Dt:=.tup [.tup (cs.map hdD),.tup (ss.map hdD),dR rows]
local macro_rules | `(tactic| walk_at "w") => `(tactic| (walk_at "k"; repeat (rw [P42.ev (by decide) (by decide)]; walk_at "k")))
variable {x2 x8:Option T} {ls:List Int}
theorem u9 {x5:Option T} {B:List Str} {cs ss:List Hd} (Z:0<B.length) (hc:0<cs.length) (hc2:cs.length<=100) (hs:0<ss.length) (O:ss.length<=100) (hl:ls.length<=30) (done:List Rw) (hd:done.length<=100) (c:Int):∃ (r:Rw) (q:Option T),RwB B (ls.length+1) r/\z28 [x0,x1,x2,x3,x4,x5,some (.leaf (.tup (cs.map hdD))),some (.leaf (.tup (ss.map hdD))),x8,some (.leaf (.lst (B.map .str))),some (.leaf (.lst (ls.map .int))),some (.lst (done.map Rw.d)),some (.leaf (.int c)),x13]=some (.nx [x0,x1,x2,x3,x4,x5,some (.leaf (.tup (cs.map hdD))),some (.leaf (.tup (ss.map hdD))),x8,some (.leaf (.lst (B.map .str))),some (.leaf (.lst (ls.map .int))),some (.lst ((done++[r]).map Rw.d)),some (.leaf (.int c)),q]):=by
 obtain ⟨r,er,hr⟩:=Bi (B:=B) (cs:=cs.map (·.x)) (ss:=ss.map (·.x)) Z (by simpa using hc) (by simpa using hs) c (ls.length+1) (by lia)
 have n2:bw (ap 0) bN y46 [none] (cs.map hdD)=some ((cs.map (·.x)).map .str):=by rw [b8 (h:=fun h:Hd=>Dt.str h.x) fun h _=>⟨[some (.leaf (hdD h))],rfl,rfl,rfl⟩,qc9];rfl
 have n1:bw (ap 0) bN q46 [none] (ss.map hdD)=some ((ss.map (·.x)).map .str):=by rw [b8 (h:=fun h:Hd=>Dt.str h.x) fun h _=>⟨[some (.leaf (hdD h))],rfl,rfl,rfl⟩,qc9];rfl
 have Y:toD (bj [none] (fIt (vB 6)) (ap 0) bN y46) [x0,x1,x2,x3,x4,x5,some (.leaf (.tup (cs.map hdD))),some (.leaf (.tup (ss.map hdD))),x8,some (.leaf (.lst (B.map .str))),some (.leaf (.lst (ls.map .int))),some (.lst (done.map Rw.d)),some (.leaf (.int c)),x13]=some (.lst ((cs.map (·.x)).map .str)):=az (dg rfl n2 (by simp;lia));have v1:toD (bj [none] (fIt (vB 7)) (ap 0) bN q46) [x0,x1,x2,x3,x4,x5,some (.leaf (.tup (cs.map hdD))),some (.leaf (.tup (ss.map hdD))),x8,some (.leaf (.lst (B.map .str))),some (.leaf (.lst (ls.map .int))),some (.lst (done.map Rw.d)),some (.leaf (.int c)),x13]=some (.lst ((ss.map (·.x)).map .str)):=az (dg rfl n1 (by simp;lia));refine ⟨r,some (.leaf (.tup [.lst ((cs.map (·.x)).map .str),.lst ((ss.map (·.x)).map .str)])),hr,?_⟩;unfold z28;rw [qA (az (cu (aL Y (aL v1 rfl)) (by simp)))];show y16 11 _ [x0,x1,x2,x3,x4,x5,some (.leaf (.tup (cs.map hdD))),some (.leaf (.tup (ss.map hdD))),x8,some (.leaf (.lst (B.map .str))),some (.leaf (.lst (ls.map .int))),some (.lst (done.map Rw.d)),some (.leaf (.int c)),some (.leaf (.tup [.lst ((cs.map (·.x)).map .str),.lst ((ss.map (·.x)).map .str)]))]=_;rw [ld rfl];walk_at "w";rw [qa1,show ((ls.length:Int)+1)=((ls.length+1:Nat):Int) by lia,er];walk_at "w";rw [gq (by rw [qa1];lia),qg0];rfl
theorem lq {x0 x1 x2 x3 x4 x5 x8:Option T} {B:List Str} (hB:0<B.length) (hc:0<cs.length) (hc2:cs.length<=100) (hs:0<ss.length) (Z:ss.length<=100) (hl:ls.length<=30):∀ (rest:List Int) (done:List Rw) (x12 x13:Option T),done.length+rest.length<=30->(∀ r∈done,RwB B (ls.length+1) r)->∃ (all:List Rw) (Y O:Option T),all.length=done.length+rest.length/\(∀ r∈all,RwB B (ls.length+1) r)/\ca (ap 12) z28 (rest.map .int) [x0,x1,x2,x3,x4,x5,some (.leaf (.tup (cs.map hdD))),some (.leaf (.tup (ss.map hdD))),x8,some (.leaf (.lst (B.map .str))),some (.leaf (.lst (ls.map .int))),some (.lst (done.map Rw.d)),x12,x13]=some (.nx [x0,x1,x2,x3,x4,x5,some (.leaf (.tup (cs.map hdD))),some (.leaf (.tup (ss.map hdD))),x8,some (.leaf (.lst (B.map .str))),some (.leaf (.lst (ls.map .int))),some (.lst (all.map Rw.d)),Y,O])
 | [],done,x12,x13,_,h=>⟨done,x12,x13,rfl,h,rfl⟩
 | c::rest,done,x12,x13,h1,h=>by
  obtain ⟨r,z13,hr,e⟩:=u9 (x0:=x0) (x1:=x1) (x2:=x2) (x3:=x3) (x4:=x4) (x5:=x5) (x8:=x8) (x13:=x13) hB hc hc2 hs Z hl done (by simp at h1;lia) c
  obtain ⟨all,Y,O,g1,g2,g3⟩:=lq (x0:=x0) (x1:=x1) (x2:=x2) (x3:=x3) (x4:=x4) (x5:=x5) (x8:=x8) hB hc hc2 hs Z hl rest (done++[r]) (some (.leaf (.int c))) z13 (by simp at h1 ⊢;lia) (fun q hq=>by
   rcases qf9.mp hq with z | z
   . exact h q z
   . rw [qb0.mp z];exact hr)
  refine ⟨all,Y,O,by simp at g1 ⊢;lia,g2,?_⟩;rw [qa5,bI rfl e,g3]
def cnt (ns:List Int):Nat:=(2+ns.getD 2 0/4%11).toNat
theorem yS (ns:List Int):(2+ns.getD 2 0/4%11)=((cnt ns:Nat):Int)/\2<=cnt ns/\cnt ns<=12:=by have q:=qf5 (ns.getD 2 0/4) (show (11:Int)≠0 by decide);have h1:=qe4 (ns.getD 2 0/4) (show (0:Int)<11 by decide);unfold cnt;lia
theorem xB (ns:List Int) {B:List Str} (eB:q15 [.int (ns.getD 0 0),.int (cnt ns)]=some (.lst (B.map .str))) (hB:B.length=cnt ns) :
  ∃ (cs ss:List Hd) (rows:List Rw),z27 [.lst (ns.map .int),.int 30]=some (.leaf (pgD cs ss rows))/\0<cs.length/\cs.length<=8/\ss.length<=4/\Prg B rows:=by
 obtain ⟨ce,c0,c1⟩:=yS ns;have k0:y1 [.lst (ns.map .int),.int 0]=some (.leaf (.int (ns.getD 0 0))):=gr ns 0;have k1:y1 [.lst (ns.map .int),.int 1]=some (.leaf (.int (ns.getD 1 0))):=gr ns 1;have k2:y1 [.lst (ns.map .int),.int 2]=some (.leaf (.int (ns.getD 2 0))):=gr ns 2;have k3:y1 [.lst (ns.map .int),.int 3]=some (.leaf (.int (ns.getD 3 0))):=gr ns 3;have k4:y1 [.lst (ns.map .int),.int 4]=some (.leaf (.int (ns.getD 4 0))):=gr ns 4;obtain ⟨ls,els,hls⟩:=xA ns
 -- the first names
 obtain ⟨nv,env⟩:∃ nv,∀ b:Bool,b=decide (0<ns.getD 1 0%3)->y1 [.lst (ns.map .int),.int (if b then 1 else 0)]=some (.leaf (.int nv)):=by
  by_cases h:0<ns.getD 1 0%3
  . exact ⟨_,fun b O=>by rw [O,decide_eq_true h];exact k1⟩
  . exact ⟨_,fun b O=>by rw [O,decide_eq_false h];exact k0⟩
 obtain ⟨th,Z,hth,_⟩:=nK nv 12 (by decide);have Z:q15 [.int nv,.int 12]=some (.lst (th.map .str)):=Z
 -- how wide,and how q
 obtain ⟨w,hw1,hw2,ew⟩:∃ w:Int,1<=w/\w<=2/\∀ b:Bool,b=decide (ns.getD 2 0/44%6=1)->1+(if b then (1:Int) else 0)=w:=by
  by_cases h:ns.getD 2 0/44%6=1
  . exact ⟨2,by decide,by decide,fun b O=>by rw [O,decide_eq_true h];rfl⟩
  . exact ⟨1,by decide,by decide,fun b O=>by rw [O,decide_eq_false h];rfl⟩
 have m0:=qf5 (ns.getD 2 0) (show 4*w≠0 by lia);have m1:=qe4 (ns.getD 2 0) (show 0<4*w by lia);obtain ⟨q,hm,hm0,hm1⟩:∃ q:Nat,1+ns.getD 2 0%(4*w)=q/\1<=q/\q<=8:=⟨(1+ns.getD 2 0%(4*w)).toNat,by lia,by lia,by lia⟩;have s0:=qf5 (ns.getD 3 0) (show 2*w≠0 by lia);have s1:=qe4 (ns.getD 3 0) (show 0<2*w by lia);obtain ⟨sm,hs,hs0,hs1⟩:∃ sm:Nat,1+ns.getD 3 0%(2*w)=sm/\1<=sm/\sm<=4:=⟨(1+ns.getD 3 0%(2*w)).toNat,by lia,by lia,by lia⟩
 obtain ⟨cs,ecs,lcs,_⟩:=lp (bb:=ap 0) (fe:=q37) (δ:=[none,some (.leaf (.lst (th.map .str))),some (.leaf (.int (ns.getD 3 0)))]) (f:=dI) (h:=hdD) (P:=fun _=>True) (l:=qc0 q) fun k hk=>by have hk:=qd0.mp hk;obtain ⟨h,e,_⟩:=u8 hth (ns.getD 3 0) k (by lia);exact ⟨_,h,rfl,e,trivial⟩
 rw [qj9] at lcs;obtain ⟨ss,y8,lss,Y⟩:=j4 (x0:=some (.leaf (.lst (ns.map .int)))) (x1:=some (.leaf (.int 30))) (x3:=some (.leaf (.int w))) (x4:=some (.leaf (.int q))) (x6:=some (.leaf (.tup (cs.map hdD)))) (x9:=none) (x10:=none) (x11:=none) (x12:=none) (x13:=none) hth (ns.getD 3 0) sm 0 [] none (by lia) rfl;obtain ⟨rows,y12,y13,lr,hr,er⟩:=lq (x0:=some (.leaf (.lst (ns.map .int)))) (x1:=some (.leaf (.int 30))) (x2:=some (.leaf (.lst (th.map .str)))) (x3:=some (.leaf (.int w))) (x4:=some (.leaf (.int q))) (x5:=some (.leaf (.int (ns.getD 3 0)))) (x8:=y8) (B:=B) (cs:=cs) (ss:=ss) (by lia) (by lia) (by lia) (by lia) (by lia) hls ls [] none none (by simp;lia) (by simp);have lr:rows.length=ls.length:=by simpa using lr
 obtain ⟨at1,ea,ha⟩:=ml (B:=B) (by lia) (ns.getD 4 0);have hlb:RwB B (ls.length+1) (.fin at1):=⟨fun b O=>by rw [qb0.mp O];exact ha,fun g z=>by simp at z⟩;refine ⟨cs,ss,rows++[.fin at1],?_,by lia,by lia,by lia,⟨by simp,by simp;lia,fun i r b h O=>?_,fun i r j h hj=>?_⟩⟩
 . unfold z27;walk_at "w";rw [k1];walk_at "w";rw [env _ rfl];walk_at "w";rw [Z];walk_at "w";rw [k2];walk_at "w";rw [ew _ rfl]
   try walk_at "w"
   try rw [k2]
   walk_at "w";rw [eO (by lia)];walk_at "w";rw [hm,k3];walk_at "w";rw [j3 _ (by lia),qa3,ecs,qa3,c8 (by rw [qa1];lia)];walk_at "w";rw [eO (by lia)];walk_at "w";rw [hs,j3 _ (by lia),qa3,List.range_eq_range'];have Y:ca (ap 8) q30 ((List.range' 0 sm).map dI) [some (.leaf (.lst (ns.map .int))),some (.leaf (.int 30)),some (.leaf (.lst (th.map .str))),some (.leaf (.int w)),some (.leaf (.int q)),some (.leaf (.int (ns.getD 3 0))),some (.leaf (.tup (cs.map hdD))),some (.lst []),none,none,none,none,none,none]=_:=Y;rw [Y,bh];walk_at "w";rw [k0,k2];walk_at "w";rw [ce,eB];walk_at "w";rw [show gSl (Dt.lst (ns.map Dt.int)) (some 6) (some (6+30))=_ from els];walk_at "w";have er:ca (ap 12) z28 (ls.map .int) [some (.leaf (.lst (ns.map .int))),some (.leaf (.int 30)),some (.leaf (.lst (th.map .str))),some (.leaf (.int w)),some (.leaf (.int q)),some (.leaf (.int (ns.getD 3 0))),some (.leaf (.tup (cs.map hdD))),some (.leaf (.tup (ss.map hdD))),y8,some (.leaf (.lst (B.map .str))),some (.leaf (.lst (ls.map .int))),some (.lst []),none,none]=_:=er;rw [er,bh];walk_at "w";rw [ld rfl];walk_at "w";rw [k4];walk_at "w";rw [ea];walk_at "w";rw [gq (by rw [qa1];lia)];walk_at "w";unfold pgD dR;rw [qg0];rfl
 . by_cases hi:i<rows.length
   . rw [qc5 hi] at h;exact (hr r (qc7 h)).reads O
   . rw [gR (by lia)] at h;have:=qc7 h;rw [qb0.mp this] at O;exact hlb.reads O
 . rw [qc8,qo5];by_cases hi:i<rows.length
   . rw [qc5 hi] at h;have:=(hr r (qc7 h)).outs (i:=i) (j:=j) (by lia) hj;lia
   . rw [gR (by lia)] at h;have:=qc7 h;rw [qb0.mp this] at hj;cases hj
def kI (j:Nat):Key:=.inl (j:Int)
theorem iM {a:Nat} (z:kI a=kI j):a=j:=by unfold kI at z;have:=zb4.inj z;lia
noncomputable def d2L (rows:List Rw) (n:Nat) (b:Str) (seen left:List Nat) (x5 x6:Option Dt):De:=[some (.leaf (dR rows)),some (.leaf (.int n)),some (.leaf (.str b)),some (.dct (seen.map fun j=>(kI j,.bl true))),some (.lst (left.map dI)),x5.map .leaf,x6.map .leaf]
theorem lu (j:Nat):∀ seen:List Nat,(cY (seen.map fun j=>kI j) (seen.map fun _=>Dt.bl true) (kI j)).isSome=decide (j∈seen)
 | []=>rfl
 | a::seen=>by
  simp only [qa5,cY];by_cases h:a=j
  . subst h;rw [if_pos rfl];simp
  . have h':¬ j=a:=fun z=>h z.symm
    rw [if_neg (fun z=>h (iM z)),lu j seen];simp [h']
theorem lv (j:Nat):∀ seen:List Nat,j∉seen->i6 (seen.map fun j=>(kI j,Dt.bl true)) (kI j) (.bl true)=(seen++[j]).map fun j=>(kI j,.bl true)
 | [],_=>rfl
 | a::seen,h=>by
  have h1:¬ a=j:=fun z=>h (z▸.head _)
  simp only [qa5,za4];unfold i6;rw [if_neg (fun z=>h1 (iM z)),lv j seen fun z=>h (.tail _ z)]
theorem xC {seen:List Nat} (h:seen.Nodup):((seen.map fun j=>(kI j,Dt.bl true)).map (·.1)).Nodup:=by rw [qc9,qp9,qt0];exact qt1 (fun {a b} (z:a≠b) e=>z (iM e)) h
variable {left:List Nat} {x5:Option Dt}
theorem xD {seen:List Nat} (O:seen.Nodup) (Z:seen.length<1000) (Y:left.length<1000) (j:Nat) :
  y22 (d2L rows n b seen left x5 (some (dI j)))=some (.nx (if j∈seen then d2L rows n b seen left x5 (some (dI j)) else d2L rows n b (seen++[j]) (left++[j]) x5 (some (dI j)))):=by
 have q:tB2 (cb true) (vB 6) (vB 3) (d2L rows n b seen left x5 (some (dI j)))=some (!decide (j∈seen)):=by unfold d2L;show ((cb true (dI j) (.dct ((seen.map fun j=>(kI j,Dt.bl true)).map (·.1)) ((seen.map fun j=>(kI j,Dt.bl true)).map (·.2)))).bind asB)=_;rw [Cq,qc9,qc9];unfold dI;show some (!(cY (seen.map fun j=>kI j) (seen.map fun _=>Dt.bl true) (kI j)).isSome)=_;rw [lu]
 unfold y22;by_cases h:j∈seen
 . rw [decide_eq_true h] at q;rw [rV q,if_pos h];rfl
 . rw [decide_eq_false h] at q;rw [rT q,if_neg h,br (uW (i:=3) (kd:=dI j) (k:=kI j) (d:=.bl true) (l:=seen.map fun j=>(kI j,.bl true)) rfl rfl rfl rfl (by rw [qa1];lia) (xC O)),lv j seen h];refine (pk (l:=left.map dI) (d:=dI j) rfl rfl (by rw [qa1];lia)).trans ?_;unfold d2L;rw [qg0 (f:=dI)];rfl
theorem iN {rows:List Rw} {n:Nat} {b:Str} {x5:Option Dt} {N:Nat}:∀ (js seen left:List Nat) (x6:Option Dt),seen.Nodup->(∀ j∈js,j<N)->(∀ j∈seen,j<N)->N<=500->left.length<=seen.length→
  ∃ O Y y6,ca (ap 6) y22 (js.map dI) (d2L rows n b seen left x5 x6)=some (.nx (d2L rows n b O Y x5 y6))/\O.Nodup/\(∀ j∈O,j<N)/\(∀ j,j∈O↔j∈seen∨j∈js)/\(∀ j,j∈Y↔j∈left∨(j∈js/\j∉seen))/\O.length+left.length=seen.length+Y.length/\seen.length<=O.length
 | [],seen,left,x6,nd,_,hs,_,_=>⟨seen,left,x6,rfl,nd,hs,by simp,by simp,rfl,qn3 _⟩
 | j::js,seen,left,x6,nd,hj,hs,hN,hl=>by
  have hlen:seen.length<=N:=by
   have:=cM (m:=qc0 N) nd fun x hx=>qd0.mpr (hs x hx)
   simpa using this
  have e1:=xD (rows:=rows) (n:=n) (b:=b) (x5:=x5) nd (by lia) (by lia:left.length<1000) j;by_cases h:j∈seen
  . rw [if_pos h] at e1;obtain ⟨O,Y,y6,e,Z,hs',m1,m2,h1,h2⟩:=iN (rows:=rows) (n:=n) (b:=b) (x5:=x5) js seen left (some (dI j)) nd (fun k hk=>hj k (.tail _ hk)) hs hN hl;refine ⟨O,Y,y6,?_,Z,hs',fun k=>?_,fun k=>?_,h1,h2⟩
    . rw [qa5,bI rfl e1];exact e
    . rw [m1,qa6];exact ⟨fun z=>z.imp id .inr,fun z=>z.elim .inl fun z=>z.elim (fun e=>.inl (e▸h)) .inr⟩
    . rw [m2,qa6];exact ⟨fun z=>z.imp id fun y=>⟨.inr y.1,y.2⟩,fun z=>z.imp id fun y=>⟨y.1.elim (fun e=>absurd (e▸h) y.2) id,y.2⟩⟩
  . rw [if_neg h] at e1
    obtain ⟨O,Y,y6,e,Z,hs',m1,m2,h1,h2⟩:=iN (rows:=rows) (n:=n) (b:=b) (x5:=x5) js (seen++[j]) (left++[j]) (some (dI j)) (by
     rw [qm8];exact ⟨nd,by simp,fun a ha c hc e=>h (by rw [qb0.mp hc] at e;exact e▸ha)⟩) (fun k hk=>hj k (.tail _ hk)) (fun k hk=>by
     rcases qf9.mp hk with z | z
     . exact hs k z
     . rw [qb0.mp z];exact hj j (.head _)) hN (by simp;lia)
    refine ⟨O,Y,y6,?_,Z,hs',fun k=>?_,fun k=>?_,by simp at h1;lia,by simp at h2;lia⟩
    . rw [qa5,bI rfl e1];exact e
    . rw [m1,qa6,qf9,qb0,or_assoc]
    . rw [m2,qa6];simp only [qf9,qb0];constructor
      . rintro ((z | rfl) | ⟨z,y⟩)
        . exact .inl z
        . exact .inr ⟨.inl rfl,h⟩
        . exact .inr ⟨.inr z,fun q=>y (.inl q)⟩
      . rintro (z | ⟨rfl | z,y⟩)
        . exact .inl (.inl z)
        . exact .inl (.inr rfl)
        . by_cases q:k=j
          . exact .inl (.inr q)
          . exact .inr ⟨z,fun w=>w.elim y q⟩
structure Srch (rows:List Rw) (n:Nat) (b:Str) (seen left:List Nat):Prop where
 nd:seen.Nodup
 lt:∀ j∈seen,j<rows.length
 sub:∀ j∈left,j∈seen
 len:left.length<=seen.length
 home:n∈seen
 way:∀ j∈seen,Needs rows j b->Needs rows n b
 done:∀ j r,j∈seen->j∉left->rows[j]?=some r->b∉r.reads/\(r.sets=some b∨∀ k∈r.outs j,k∈seen)
variable {x6:Option Dt}
theorem C_at {seen:List Nat}:z23 (d2L rows n b seen left x5 x6)=some (decide (0<left.length)):=by
 unfold z23 d2L;walk_at "k";show some (decide ((0:Int)<((left.map dI).length:Int)))=_;rw [qa1];congr 1;by_cases h:0<left.length
 . rw [decide_eq_true h,decide_eq_true (by lia)]
 . rw [decide_eq_false h,decide_eq_false (by lia)]
theorem popL {seen:List Nat}:rO 5 4 (d2L rows n b seen (left++[j]) x5 x6)=some (.nx (d2L rows n b seen left (some (dI j)) x6)):=(Bd (l:=left.map dI) (d:=dI j) (by unfold d2L;rw [qg0];rfl)).trans rfl
theorem vc {seen:List Nat} (Y:rows[j]?=some r) (q:b∈r.reads):z15 (d2L rows n b seen (left++[j]) x5 x6)=some (.rt (.leaf (.bl true))):=by
 have Z:b∈nms r.atoms:=onces_mem.mp q;unfold z15;rw [br popL]
 have O:(tB2 (cb false) (vB 2) (toD (ao y11 (ab (toD (d2 ax (vB 0) (vB 5))) ak)))) (d2L rows n b seen left (some (dI j)) x6)=some true:=by unfold d2L dI;walk_at "k";rw [mj Y];walk_at "k";rw [gO];walk_at "k";rw [gIn_strs];simp [asB,Z]
 exact l7 (by rw [rT O];rfl)
theorem xE {rows:List Rw} {n:Nat} {b:Str} {seen:List Nat} {x5:Option Dt} (hr:rows[j]?=some r) (hb:b∉r.reads) (hN:rows.length<=500) (hO:∀ (i:Nat) (r:Rw) (j:Nat),rows[i]?=some r->j∈r.outs i->j<rows.length) (S:Srch rows n b seen (left++[j])) :
  ∃ O Y y6,z15 (d2L rows n b seen (left++[j]) x5 x6)=some (.nx (d2L rows n b O Y (some (dI j)) y6))/\Srch rows n b O Y/\2*seen.length+Y.length<2*O.length+(left++[j]).length/\seen.length<=O.length:=by
 have hm:b∉nms r.atoms:=fun z=>hb (onces_mem.mpr z)
 unfold z15;rw [br popL]
 have ht:(tB2 (cb false) (vB 2) (toD (ao y11 (ab (toD (d2 ax (vB 0) (vB 5))) ak)))) (d2L rows n b seen left (some (dI j)) x6)=some false:=by unfold d2L dI;walk_at "k";rw [mj hr];walk_at "k";rw [gO];walk_at "k";rw [gIn_strs];simp [asB,hm]
 rw [br (δ':=d2L rows n b seen left (some (dI j)) x6) (by rw [rV ht];rfl)]
 have hq:gEq true (sv r) (.str b)=some (.leaf (.bl (decide (r.sets≠some b)))):=by
  unfold sv;cases r.sets with
  | none=>simp;rfl
  | some x =>show gEq true (.str x) (.str b)=_;rw [AF];by_cases h:x=b<;>simp [h]
 have ht2:(tB2 (gEq true) (toD (ao y17 (ab (toD (d2 ax (vB 0) (vB 5))) ak))) (vB 2)) (d2L rows n b seen left (some (dI j)) x6)=some (decide (r.sets≠some b)):=by unfold d2L dI;walk_at "k";rw [mj hr];walk_at "k";rw [lj];walk_at "k";rw [hq];rfl
 have hl:=S.len;rw [qc8,qo5] at hl;by_cases hs:r.sets=some b
 . rw [decide_eq_false (by simp [hs])] at ht2;refine ⟨seen,left,x6,by rw [rV ht2];rfl,⟨S.nd,S.lt,fun k hk=>S.sub k (qh0 _ hk),by lia,S.home,S.way,fun k r' hk hk2 Z=>?_⟩,by simp,qn3 _⟩;by_cases e:k=j
   . subst e;rw [hr] at Z;cases Z;exact ⟨hb,.inl hs⟩
   . exact S.done k r' hk (fun z=>by
      rcases qf9.mp z with z | z
      . exact hk2 z
      . exact e (qb0.mp z)) Z
 . rw [decide_eq_true (by simpa using hs)] at ht2;obtain ⟨O,Y,y6,e,nd',hs',m1,m2,h1,h2⟩:=iN (rows:=rows) (n:=n) (b:=b) (x5:=some (dI j)) (r.outs j) seen left x6 S.nd (fun k hk=>hO j r k hr hk) S.lt hN (by lia);refine ⟨O,Y,y6,?_,⟨nd',hs',fun k hk=>?_,by lia,(m1 n).mpr (.inl S.home),fun k hk hn=>?_,fun k r' hk hk2 Z=>?_⟩,by simp;lia,h2⟩
   . rw [rT ht2];show ((((y15 [dR rows,.int j]).bind T.d).bind itD).bind fun ds=>ca (ap 6) y22 ds (d2L rows n b seen left (some (dI j)) x6))=_;rw [jZ rows j r hr];exact e
   . rw [m1];rcases (m2 k).mp hk with z | z
     . exact .inl (S.sub k (qh0 _ z))
     . exact .inr z.1
   . rcases (m1 k).mp hk with z | z
     . exact S.way k z hn
     . exact S.way j (S.sub j (by simp)) (.on hr hs z hn)
   . by_cases ek:k=j
     . subst ek;rw [hr] at Z;cases Z;exact ⟨hb,.inr fun i hi=>(m1 i).mpr (.inr hi)⟩
     . rcases (m1 k).mp hk with z | z
       . obtain ⟨q1,q2⟩:=S.done k r' z (fun w=>by
          rcases qf9.mp w with w | w
          . exact hk2 ((m2 k).mpr (.inl w))
          . exact ek (qb0.mp w)) Z
         exact ⟨q1,q2.imp id fun q i hi=>(m1 i).mpr (.inl (q i hi))⟩
       . by_cases w:k∈seen
         . obtain ⟨q1,q2⟩:=S.done k r' w (fun w=>by
            rcases qf9.mp w with w | w
            . exact hk2 ((m2 k).mpr (.inl w))
            . exact ek (qb0.mp w)) Z
           exact ⟨q1,q2.imp id fun q i hi=>(m1 i).mpr (.inl (q i hi))⟩
         . exact absurd ((m2 k).mpr (.inr ⟨z,w⟩)) hk2
theorem r8 {seen:List Nat} (S:Srch rows n b seen []):¬ Needs rows n b:=by
 have q:∀ i,Needs rows i b->i∈seen->False:=fun i h=>by
  induction h with
  | here O Y=>exact fun hi=>(S.done _ _ hi (by simp) O).1 Y
  | on O h1 hj _ Z =>
   intro hi;rcases (S.done _ _ hi (by simp) O).2 with z | z
   . exact h1 z
   . exact Z S (z _ hj)
 exact fun h=>q n h S.home
theorem vd {rows:List Rw} {n:Nat} {b:Str} (hN:rows.length<=500) (hO:∀ (i:Nat) (r:Rw) (j:Nat),rows[i]?=some r->j∈r.outs i->j<rows.length):∀ (m:Nat) (seen left:List Nat) (x5 x6:Option Dt),Srch rows n b seen left->2*rows.length+left.length<m+2*seen.length→
  (bG z23 z15 m (d2L rows n b seen left x5 x6)=some (.rt (.leaf (.bl true)))/\Needs rows n b)∨((∃ δ,bG z23 z15 m (d2L rows n b seen left x5 x6)=some (.nx δ))/\¬ Needs rows n b)
 | 0,seen,left,x5,x6,S,hm=>by
  have hlen:seen.length<=rows.length:=by
   have:=cM (m:=qc0 rows.length) S.nd fun x hx=>qd0.mpr (S.lt x hx)
   simpa using this
  lia
 | m+1,seen,left,x5,x6,S,hm=>by
  rcases List.eq_nil_or_concat left with rfl | ⟨left,j,rfl⟩
  . have Y:=C_at (rows:=rows) (n:=n) (b:=b) (seen:=seen) (left:=[]) (x5:=x5) (x6:=x6);exact .inr ⟨⟨_,mh Y⟩,r8 S⟩
  . rw [List.concat_eq_append] at S hm ⊢;have Y:=C_at (rows:=rows) (n:=n) (b:=b) (seen:=seen) (left:=left++[j]) (x5:=x5) (x6:=x6);rw [decide_eq_true (by simp)] at Y;have Z:=S.lt j (S.sub j (by simp));have hr:rows[j]?=some rows[j]:=by simp [Z]
    by_cases hb:b∈(rows[j]).reads
    . exact .inl ⟨nG Y (vc hr hb),S.way j (S.sub j (by simp)) (.here hr hb)⟩
    . obtain ⟨q,O,y6,e,S',h1,h2⟩:=xE (x5:=x5) (x6:=x6) hr hb hN hO S;rw [io Y e];exact vd hN hO m q O _ _ S' (by lia)
theorem mn (Z:rows.length<=500) (q:n<rows.length) (hO:∀ (i:Nat) (r:Rw) (j:Nat),rows[i]?=some r->j∈r.outs i->j<rows.length) :
  ∃ bo,q14 [dR rows,.int n,.str b]=some (.leaf (.bl bo))/\(bo=true↔Needs rows n b):=by
 have S:Srch rows n b [n] [n]:=⟨by simp,fun j O=>by rw [qb0.mp O];exact q,fun j O=>O,qn3 _,by simp,fun j O h=>by rw [qb0.mp O] at h;exact h,fun j r h1 h2=>absurd h1 h2⟩;have h:=vd Z hO 100000 [n] [n] none none S (by simp;lia)
 have s1:aE 3 (p8 (lV (vL 1) (kD (.bl true)) ub)) [some (.leaf (dR rows)),some (.leaf (.int n)),some (.leaf (.str b)),none,none,none,none]=some (.nx [some (.leaf (dR rows)),some (.leaf (.int n)),some (.leaf (.str b)),some (.dct [(kI n,.bl true)]),none,none,none]):=by refine cO ?_;show (if [(kI n,Dt.bl true)].length<=15/\([(kI n,Dt.bl true)].map (·.1)).Nodup then some (T.dct [(kI n,.bl true)]) else none)=_;rw [if_pos ⟨by simp,by simp⟩]
 have Y:aE 4 (cy (ab (vL 1) ak)) [some (.leaf (dR rows)),some (.leaf (.int n)),some (.leaf (.str b)),some (.dct [(kI n,.bl true)]),none,none,none]=some (.nx (d2L rows n b [n] [n] none none)):=by refine cO ?_;rw [ma];show mkL [.int n]=_;rw [c8 (by simp)];rfl
 rcases h with ⟨h,q⟩ | ⟨⟨δ,h⟩,q⟩
 . refine ⟨true,?_,by simp [q]⟩;unfold q14;refine ip ?_;show ay _ _ [some (.leaf (dR rows)),some (.leaf (.int n)),some (.leaf (.str b)),none,none,none,none]=_;rw [br s1,br Y];exact l7 h
 . refine ⟨false,?_,by simp [q]⟩;unfold q14;refine ip ?_;show ay _ _ [some (.leaf (dR rows)),some (.leaf (.int n)),some (.leaf (.str b)),none,none,none,none]=_;rw [br s1,br Y,br h];rfl
end P42
namespace L2
section
variable {α:Type} [DecidableEq α]
abbrev CF (α:Type):=List (α×Option α)
def ks (cf:CF α):List α:=cf.map (·.1)
def gU (h:α) (cf:CF α) (t:α):CF α:=if t∈ks cf then cf else cf++[(t,some h)]
def cV (h:α) (cf:CF α) (ts:List α):CF α:=ts.foldl (gU h) cf
def gj (cf:CF α) (s:α):CF α:=if s∈ks cf then cf else cf++[(s,none)]
structure BI (beh:α->List α) (fit:α->Bool) (starts:List α) (cf:CF α) (k:Nat):Prop where
 nd:(ks cf).Nodup
 sub:∀ s∈starts,s∈ks cf
 par:∀ (i:Nat) (t p:α),cf[i]?=some (t,some p)->∃ j q,j<i/\cf[j]?=some (p,q)/\t∈beh p/\fit p=false
 st:∀ (i:Nat) (t:α),cf[i]?=some (t,none)->t∈starts
 done:∀ (i:Nat) (t:α) (q:Option α),i<k->cf[i]?=some (t,q)->fit t=false/\∀ u∈beh t,u∈ks cf
variable {beh:α->List α} {fit:α->Bool} {starts:List α}
theorem fI (cf cf':CF α):ks (cf++cf')=ks cf++ks cf':=qg0
theorem iO {cf:CF α} {t:α} (h:t∈ks cf):∃ (i:Nat) (q:Option α),cf[i]?=some (t,q):=by obtain ⟨p,hp,rfl⟩:=qd2.mp h;obtain ⟨i,hi,e⟩:=List.getElem_of_mem hp;exact ⟨i,p.2,by rw [gQ hi,e]⟩
theorem gt {cf:CF α} {t:α} {i:Nat} {q:Option α} (h:cf[i]?=some (t,q)):t∈ks cf:=qd2.mpr ⟨(t,q),qc7 h,rfl⟩
theorem dM (h:α):∀ (ts:List α) (cf:CF α),∃ e,cV h cf ts=cf++e/\(∀ p∈e,p.2=some h/\p.1∈ts)/\((ks cf).Nodup->(ks (cV h cf ts)).Nodup)/\∀ t∈ts,t∈ks (cV h cf ts)
 | [],cf=>⟨[],by simp [cV],by simp,fun z=>z,by simp⟩
 | t::ts,cf=>by
  obtain ⟨e,h1,h2,h3,h4⟩:=dM h ts (gU h cf t);have e0:cV h cf (t::ts)=cV h (gU h cf t) ts:=rfl;rw [e0]
  have Y:t∈ks (cV h (gU h cf t) ts):=by
   rw [h1,fI];refine qh0 _ ?_;unfold gU;split
   . assumption
   . rw [fI];exact qc1 _ (by simp [ks])
  have O:∀ u∈t::ts,u∈ks (cV h (gU h cf t) ts):=fun u Z=>by
   rcases qa6.mp Z with rfl | Z
   . exact Y
   . exact h4 u Z
  by_cases q:t∈ks cf
  . have:gU h cf t=cf:=if_pos q;rw [this] at h1 h3 ⊢;refine ⟨e,h1,fun p hp=>⟨(h2 p hp).1,qc3 _ (h2 p hp).2⟩,h3,?_⟩;rw [this] at O;exact O
  . have:gU h cf t=cf++[(t,some h)]:=if_neg q;rw [this] at h1 h3 ⊢;refine ⟨(t,some h)::e,by rw [h1,qm7];rfl,fun p hp=>?_,fun nd=>h3 ?_,?_⟩
    . rcases qa6.mp hp with rfl | hp
      . exact ⟨rfl,qd4⟩
      . exact ⟨(h2 p hp).1,qc3 _ (h2 p hp).2⟩
    . rw [fI];refine qm8.mpr ⟨nd,by simp [ks],fun a ha b hb=>?_⟩;simp [ks] at hb;subst hb;rintro rfl;exact q ha
    . rw [this] at O;exact O
theorem BI.step {cf:CF α} {k:Nat} {h:α} {q:Option α} (B:BI beh fit starts cf k) (Z:cf[k]?=some (h,q)) (hf:fit h=false):BI beh fit starts (cV h cf (beh h)) (k+1):=by
 obtain ⟨e,h1,h2,h3,h4⟩:=dM h (beh h) cf
 have keep:∀ {i:Nat} {x:α×Option α},cf[i]?=some x->(cV h cf (beh h))[i]?=some x:=fun {i x} z=>by rw [h1,qc5 (gX z).1];exact z
 have O:∀ {i:Nat} {x:α×Option α},(cV h cf (beh h))[i]?=some x->cf[i]?=some x∨(x.2=some h/\x.1∈beh h/\cf.length<=i):=fun {i x} z=>by
  rw [h1] at z;by_cases hi:i<cf.length
  . rw [qc5 hi] at z;exact .inl z
  . rw [gR (by lia)] at z;have:=h2 _ (qc7 z);exact .inr ⟨this.1,this.2,by lia⟩
 have Y:∀ {t:α},t∈ks cf->t∈ks (cV h cf (beh h)):=fun {t} z=>by rw [h1,fI];exact qh0 _ z
 refine ⟨h3 B.nd,fun s hs=>Y (B.sub s hs),fun i t p z=>?_,fun i t z=>?_,fun i t q' hi z=>?_⟩
 . rcases O z with z | ⟨z1,z2,z3⟩
   . obtain ⟨j,q',g1,g2,g3⟩:=B.par i t p z;exact ⟨j,q',g1,keep g2,g3⟩
   . cases z1;exact ⟨k,q,qb7 (gX Z).1 z3,keep Z,z2,hf⟩
 . rcases O z with z | ⟨z1,_,_⟩
   . exact B.st i t z
   . cases z1
 . have hk':=(gX Z).1;rcases O z with z | ⟨_,_,z3⟩
   . by_cases hik:i=k
     . subst hik;rw [Z] at z;cases z;exact ⟨hf,fun u hu=>h4 u hu⟩
     . obtain ⟨g1,g2⟩:=B.done i t q' (by lia) z;exact ⟨g1,fun u hu=>Y (g2 u hu)⟩
   . lia
theorem j5 {U:List α} {h:α} {ts:List α} {cf:CF α} (O:∀ t∈ks cf,t∈U) (q:∀ t∈ts,t∈U):∀ t∈ks (cV h cf ts),t∈U:=fun t z=>by
 obtain ⟨e,h1,h2,_,_⟩:=dM h ts cf;rw [h1,fI] at z;rcases qf9.mp z with z | z
 . exact O t z
 . obtain ⟨p,hp,rfl⟩:=qd2.mp z;exact q _ (h2 p hp).2
theorem BI.start:BI beh fit starts (starts.foldl gj []) 0:=by
 have Z:∀ (ss:List α) (cf:CF α),(ks cf).Nodup->(∀ p∈cf,p.2=none/\p.1∈starts)->(∀ s∈ss,s∈starts)->(ks (ss.foldl gj cf)).Nodup/\(∀ p∈ss.foldl gj cf,p.2=none/\p.1∈starts)/\∀ s,(s∈ss∨s∈ks cf)->s∈ks (ss.foldl gj cf):=fun ss=>by
  induction ss with
  | nil=>intro cf h1 h2 _;exact ⟨h1,h2,fun s Y=>Y.elim (fun z=>nomatch z) id⟩
  | cons s ss ih =>
   intro cf h1 h2 h3;rw [qj1]
   have Y:s∈ks (gj cf s):=by
    unfold gj;split
    . assumption
    . rw [fI];exact qc1 _ (by simp [ks])
   have hm:∀ t∈ks cf,t∈ks (gj cf s):=fun t O=>by
    unfold gj;split
    . exact O
    . rw [fI];exact qh0 _ O
   obtain ⟨a,b,c⟩:=ih (gj cf s) (by
    unfold gj;split
    . exact h1
    . rename_i q;rw [fI];refine qm8.mpr ⟨h1,by simp [ks],fun a ha b hb=>?_⟩;simp [ks] at hb;subst hb;rintro rfl;exact q ha) (fun p hp=>by
    unfold gj at hp;split at hp
    . exact h2 p hp
    . rcases qf9.mp hp with hp | hp
      . exact h2 p hp
      . cases qb0.mp hp;exact ⟨rfl,h3 _ qd4⟩) fun t O=>h3 t (qc3 _ O)
   refine ⟨a,b,fun t O=>c t ?_⟩;rcases O with O | O
   . rcases qa6.mp O with rfl | O
     . exact .inr Y
     . exact .inl O
   . exact .inr (hm t O)
 obtain ⟨a,b,c⟩:=Z starts [] (by simp [ks]) (by simp) fun s Y=>Y
 exact ⟨a,fun s Y=>c s (.inl Y),fun i t p z=>(by have:=(b _ (qc7 z)).1;cases this),fun i t z=>(b _ (qc7 z)).2,fun i t q hi=>by lia⟩
def look (cf:CF α) (t:α):Option (Option α):=(cf.find? fun p=>decide (p.1=t)).map (·.2)
theorem mo:∀ {cf:CF α} {i:Nat} {t:α} {q:Option α},(ks cf).Nodup->cf[i]?=some (t,q)->look cf t=some q
 | [],i,t,q,_,h=>by simp at h
 | p::cf,0,t,q,O,h=>by simp at h;subst h;simp [look]
 | p::cf,i+1,t,q,O,h=>by
  have h:cf[i]?=some (t,q):=by simpa using h
  have O:(p.1::ks cf).Nodup:=O;have Y:p.1≠t:=fun z=>(qh3.mp O).1 (z▸gt h)
  have:=mo (qh3.mp O).2 h;unfold look at this ⊢;rw [zb3 (by simpa using Y)];exact this
inductive Tr (cf:CF α):α->List α->Prop
 | one {t:α} (h:look cf t=some none):Tr cf t [t]
 | more {t p:α} {r:List α} (h:look cf t=some (some p)) (r':Tr cf p r):Tr cf t (t::r)
inductive Wy (beh:α->List α) (fit:α->Bool) (starts:List α):α->List α->Prop
 | one {t:α} (h:t∈starts):Wy beh fit starts t [t]
 | more {t p:α} {r:List α} (h:t∈beh p) (hf:fit p=false) (w:Wy beh fit starts p r):Wy beh fit starts t (t::r)
theorem BI.trace {cf:CF α} {k:Nat} (B:BI beh fit starts cf k):∀ (i:Nat) (t:α) (q:Option α),cf[i]?=some (t,q)->∃ r,Tr cf t r/\Wy beh fit starts t r/\r.length<=i+1:=fun i=>by
 induction i using Nat.strongRecOn with
 | ind i Y =>
  intro t q h;cases q with
  | none=>exact ⟨[t],.one (mo B.nd h),.one (B.st i t h),by simp⟩
  | some p =>obtain ⟨j,Z,h1,h2,h3,O⟩:=B.par i t p h;obtain ⟨r,g1,g2,g3⟩:=Y j h1 p Z h2;exact ⟨t::r,.more (mo B.nd h) g1,.more h3 O g2,by simp;lia⟩
inductive Rch (beh:α->List α) (starts:List α):α->Prop
 | one {t:α} (h:t∈starts):Rch beh starts t
 | more {t p:α} (w:Rch beh starts p) (h:t∈beh p):Rch beh starts t
theorem BI.none {cf:CF α} (B:BI beh fit starts cf cf.length) {t:α} (h:Rch beh starts t):fit t=false:=by
 have O:t∈ks cf:=by
  induction h with
  | one h=>exact B.sub _ h
  | more w h Y =>obtain ⟨i,q,e⟩:=iO Y;exact (B.done i _ q (gX e).1 e).2 _ h
 obtain ⟨i,q,e⟩:=iO O;exact (B.done i t q (gX e).1 e).1
end
end L2
namespace P42
open PySem L2
def pD:Option Nat->Dt
 | none=>.non
 | some h=>dI h
def cfT (cf:CF Nat):T:=.dct (cf.map fun p=>(kI p.1,pD p.2))
def cfD (cf:CF Nat):Dt:=.dct (cf.map fun p=>kI p.1) (cf.map fun p=>pD p.2)
theorem yT (cf:CF Nat):(cfT cf).d=some (cfD cf):=by unfold cfT T.d;dsimp only;rw [qc9,qc9];rfl
theorem mq (t:Nat):∀ cf:CF Nat,cY (cf.map fun p=>kI p.1) (cf.map fun p=>pD p.2) (kI t)=(look cf t).map pD
 | []=>rfl
 | p::cf=>by
  simp only [qa5,cY];unfold look;by_cases h:p.1=t
  . rw [if_pos (by rw [h]),List.find?_cons_of_pos (by simpa using h)];rfl
  . rw [if_neg fun z=>h (iM z),zb3 (by simpa using h),mq t cf];rfl
theorem CM (cf:CF Nat) (t:Nat) {q:Option Nat} (h:look cf t=some q):ax (cfD cf) (dI t)=some (.leaf (pD q)):=by show (cY (cf.map fun p=>kI p.1) (cf.map fun p=>pD p.2) (kI t)).map T.leaf=_;rw [mq,h];rfl
theorem CN (cf:CF Nat) (t:Nat):(look cf t).isSome=decide (t∈ks cf):=by unfold look ks;rw [qp4,qi9,List.find?_isSome];simp
theorem CO (cf:CF Nat) (t:Nat):cb true (dI t) (cfD cf)=some (.leaf (.bl (!decide (t∈ks cf)))):=by show some (T.leaf (.bl (!(cY (cf.map fun p=>kI p.1) (cf.map fun p=>pD p.2) (kI t)).isSome)))=_;rw [mq,qp4,CN]
def sT (cf:CF Nat) (q:Dt) (acc:List Nat) (h:Dt):De:=[some (.leaf (cfD cf)),some (.leaf q),some (.lst (acc.map dI)),some (.leaf h)]
variable {cf:CF Nat}
theorem xF {Z:Dt}:∀ {t:Nat} {O:List Nat},Tr cf t O->∀ (n:Nat) (acc:List Nat),O.length<n->acc.length+O.length<100000→
  bG q94 y64 n (sT cf Z acc (dI t))=some (.nx (sT cf Z (acc++O) .non)):=by
 intro t O tr
 have one:∀ (t:Nat) (acc:List Nat) (q:Option Nat),look cf t=some q->acc.length<100000->y64 (sT cf Z acc (dI t))=some (.nx (sT cf Z (acc++[t]) (pD q))):=by
  intro t acc q hq Y;unfold y64
  rw [br (pk (l:=acc.map dI) (d:=dI t) rfl rfl (by rw [qa1];lia)),cO (t:=.leaf (pD q)) (by show ((ax (cfD cf) (dI t)).bind T.d).map T.leaf=_;rw [CM cf t hq];rfl)]
  unfold sT;rw [qg0];rfl
 induction tr with
 | @one t h =>intro n acc hn Y;obtain ⟨n,rfl⟩:∃ m,n=m+2:=⟨n-2,by simp at hn;lia⟩;rw [io rfl (one t acc none h (by lia))];exact mh rfl
 | @more t p r h r' ih =>intro n acc hn Y;obtain ⟨n,rfl⟩:∃ m,n=m+1:=⟨n-1,by lia⟩;rw [io rfl (one t acc (some p) h (by simp at Y;lia))];have:=ih n (acc++[t]) (by simp at hn;lia) (by simp at Y ⊢;lia);rw [show pD (some p)=dI p from rfl,this,qm7];rfl
theorem r9 {t:Nat} {q:List Nat} (O:Tr cf t q) (Y:q.length<10000):y48 [cfD cf,dI t]=some (.lst (q.reverse.map dI)):=by unfold y48;refine ip ?_;show ay _ _ [some (.leaf (cfD cf)),some (.leaf (dI t)),none,none]=_;rw [br (cO (t:=.lst []) (by rw [ma];show ((some []).bind mkL)=_;rw [qa3,c8 (by simp)])),br (δ':=sT cf (dI t) [] (dI t)) (cO rfl),br (xF O 100000 [] (by lia) (by simp;lia)),qo8];show some (Out.rt (.lst (q.map dI).reverse))=_;rw [List.map_reverse]
variable {f1 f2:Addr} {F0:Hp} {G:Orc}
def sR (st:Dt) (f1 f2:Addr) (F0:Hp) (cf:CF Nat) (x4 x6 x7 x8:Option T):De:=[some (.leaf st),some (.fn f1 F0),some (.fn f2 F0),some (cfT cf),x4,some (.lst ((ks cf).map dI)),x6,x7,x8]
theorem qB (t:Nat) (q:Option Nat):∀ {cf:CF Nat},t∉ks cf->i6 (cf.map fun p=>(kI p.1,pD p.2)) (kI t) (pD q)=(cf++[(t,q)]).map fun p=>(kI p.1,pD p.2)
 | [],_=>rfl
 | p::cf,h=>by have h:t∉p.1::ks cf:=h;rw [qa5,i6,if_neg fun z=>h (by rw [iM z];exact .head _),qB t q fun z=>h (.tail _ z)];rfl
theorem CP (h:(ks cf).Nodup):((cf.map fun p=>(kI p.1,pD p.2)).map (·.1)).Nodup:=by
 have:((ks cf).map kI).Nodup:=by rw [qp9,qt0];exact qt1 (fun {a b} (z:a≠b) e=>z (iM e)) h
 rw [qc9];unfold ks at this;rw [qc9] at this;exact this
theorem j6 (cf:CF Nat):(ks cf).length=cf.length:=qa1 ..
variable {st:Dt} {x4 x6:Option T} {h:Nat}
theorem CQ {t:Nat} (Y:(ks cf).Nodup) (Z:cf.length<100000) :
  q59 G (sR st f1 f2 F0 cf x4 x6 (some (.leaf (dI h))) (some (.leaf (dI t))))=some (.nx (sR st f1 f2 F0 (gU h cf t) x4 x6 (some (.leaf (dI h))) (some (.leaf (dI t))))):=by
 have O:tB2 (cb true) (vB 8) (vB 3) (sR st f1 f2 F0 cf x4 x6 (some (.leaf (dI h))) (some (.leaf (dI t))))=some (!decide (t∈ks cf)):=cH (x:=dI t) rfl (yT cf) (CO cf t);unfold q59;by_cases q:t∈ks cf
 . rw [decide_eq_true q] at O;rw [rV O,show gU h cf t=cf from if_pos q];rfl
 . rw [decide_eq_false q] at O;rw [rT O,show gU h cf t=cf++[(t,some h)] from if_neg q,br (uW (i:=3) (kd:=dI t) (k:=kI t) (d:=pD (some h)) (l:=cf.map fun p=>(kI p.1,pD p.2)) rfl rfl rfl rfl (by rw [qa1];lia) (CP Y)),qB t (some h) q];refine (pk (i:=5) (l:=(ks cf).map dI) (d:=dI t) rfl rfl (by rw [qa1,j6];lia)).trans ?_;unfold sR;rw [fI,qg0 (f:=dI)];rfl
theorem xG {t:Nat} (q:(ks cf).Nodup):(ks (gU h cf t)).Nodup:=by obtain ⟨_,_,_,h3,_⟩:=dM h [t] cf;exact h3 q
theorem ve (h t:Nat) (cf:CF Nat):(gU h cf t).length<=cf.length+1:=by unfold gU;split<;>simp
theorem yU:∀ (ts:List Nat) (cf:CF Nat) (x8:Option T),(ks cf).Nodup->cf.length+ts.length<100000→
  ∃ q,ca (ap 8) (q59 G) (ts.map dI) (sR st f1 f2 F0 cf x4 x6 (some (.leaf (dI h))) x8)=some (.nx (sR st f1 f2 F0 (cV h cf ts) x4 x6 (some (.leaf (dI h))) q))
 | [],cf,x8,_,_=>⟨x8,rfl⟩
 | t::ts,cf,x8,O,Y=>by rw [qg7] at Y;obtain ⟨q,e⟩:=yU ts (gU h cf t) (some (.leaf (dI t))) (xG O) (by have:=ve h t cf;lia);refine ⟨q,?_⟩;rw [qa5,bI rfl (CQ O (by lia))];exact e
noncomputable def bfI (beh:Nat->List Nat) (fit:Nat->Bool):Nat->CF Nat->Nat->Option (Nat×CF Nat)
 | 0,_,_=>none
 | n+1,cf,k=>match cf[k]? with
  | none=>none
  | some (h,_)=>if fit h then some (h,cf) else bfI beh fit n (cV h cf (beh h)) (k+1)
variable {beh:Nat->List Nat} {fit:Nat->Bool} {U:List Nat}
theorem nM {starts:List Nat} (hU:∀ t∈U,∀ u∈beh t,u∈U) (Z:∃ t,Rch beh starts t/\fit t=true):∀ (n:Nat) (cf:CF Nat) (k:Nat),BI beh fit starts cf k->(∀ t∈ks cf,t∈U)->k<=cf.length->U.length<n+k→
  ∃ h O k',bfI beh fit n cf k=some (h,O)/\BI beh fit starts O k'/\(∀ t∈ks O,t∈U)/\fit h=true/\h∈ks O
 | 0,cf,k,B,Y,hk,hn=>by have:=cM B.nd Y;rw [j6] at this;lia
 | n+1,cf,k,B,Y,hk,hn=>by
  unfold bfI;cases q:cf[k]? with
  | none =>
   have:=qi8.mp q;have e:k=cf.length:=by lia
   subst e;obtain ⟨t,h1,h2⟩:=Z;rw [B.none h1] at h2;cases h2
  | some x =>
   obtain ⟨h,p⟩:=x;dsimp only;cases hf:fit h with
   | true=>exact ⟨h,cf,k,rfl,B,Y,hf,gt q⟩
   | false =>have hk':=(gX q).1;obtain ⟨e,h1,_⟩:=dM h (beh h) cf;exact nM hU Z n _ (k+1) (B.step q hf) (j5 Y (hU h (Y h (gt q)))) (by rw [h1,qc8];lia) (by lia)
theorem yV {st:Dt} {x4:Option T} (hU:∀ t∈U,∀ u∈beh t,u∈U) (hUl:U.length<=10000) (hbl:∀ t∈U,(beh t).length<=1000) (h1:∀ t∈U,((G f1 F0 [dI t]).bind T.d).bind itD=some ((beh t).map dI)) (h2:∀ t∈U,G f2 F0 [dI t]=some (.leaf (.bl (fit t)))) :
  ∀ (n:Nat) (cf:CF Nat) (k:Nat) (x7 x8:Option T) (h:Nat) (Y:CF Nat),(ks cf).Nodup->(∀ t∈ks cf,t∈U)->bfI beh fit n cf k=some (h,Y)→
   ∀ c,y48 [cfD Y,dI h]=some c->bG (q88 G) (z60 G) n (sR st f1 f2 F0 cf x4 (some (.leaf (.int k))) x7 x8)=some (.rt c)
 | 0,cf,k,x7,x8,h,Y,nd,hc,O=>by cases O
 | n+1,cf,k,x7,x8,h',Y,nd,hc,O=>by
  intro c ht
  have hcl:cf.length<=10000:=by have:=cM nd hc;rw [j6] at this;lia
  have Z:q88 G (sR st f1 f2 F0 cf x4 (some (.leaf (.int k))) x7 x8)=some (decide ((k:Int)<cf.length)):=by refine cH (x:=.int k) rfl (y:=.int (cf.length:Nat)) ?_ rfl;show some (Dt.int (((ks cf).map dI).length:Nat))=_;rw [qa1,j6]
  unfold bfI at O;cases q:cf[k]? with
  | none =>rw [q] at O;cases O
  | some x =>
   obtain ⟨h,pq⟩:=x;rw [q] at O;dsimp only at O;have hkl:=(gX q).1;have hhU:h∈U:=hc h (gt q);rw [decide_eq_true (by lia)] at Z
   have s1:aE 7 (toT (toD (d2 ax (vB 5) (vB 6)))) (sR st f1 f2 F0 cf x4 (some (.leaf (.int k))) x7 x8)=some (.nx (sR st f1 f2 F0 cf x4 (some (.leaf (.int k))) (some (.leaf (dI h))) x8)):=by
    refine (cO (t:=.leaf (dI h)) ?_).trans rfl;show ((ax (.lst ((ks cf).map dI)) (.int k)).bind T.d).map T.leaf=_;rw [il,bT,qb3];have:(ks cf)[k]?=some h:=by unfold ks;rw [qb3,q];rfl
    rw [this];rfl
   have s2:tV (fun i j=>i+j) 6 (kD (.int 1)) (sR st f1 f2 F0 cf x4 (some (.leaf (.int k))) (some (.leaf (dI h))) x8)=some (.nx (sR st f1 f2 F0 cf x4 (some (.leaf (.int ((k+1:Nat):Int)))) (some (.leaf (dI h))) x8)):=by show some (Out.nx _)=some (Out.nx _);rw [show ((k+1:Nat):Int)=(k:Int)+1 by lia];rfl
   have tf:cN (toD (vCl G 2 (ab (vL 7) ak))) (sR st f1 f2 F0 cf x4 (some (.leaf (.int ((k+1:Nat):Int)))) (some (.leaf (dI h))) x8)=some (fit h):=by show (((G f2 F0 [dI h]).bind T.d).bind tu)=_;rw [h2 h hhU];rfl
   cases hf:fit h with
   | true =>rw [hf] at O tf;cases O;refine nG Z ?_;unfold z60;rw [br s1,br s2];refine l7 ?_;rw [rT tf];show ((cfT cf).d.bind fun d=>bi (ao y48 (ab (vL 3) (ab (vL 7) ak))) ((sR st f1 f2 F0 cf x4 (some (.leaf (.int ((k+1:Nat):Int)))) (some (.leaf (dI h'))) x8).set 3 (some (.leaf d))))=_;rw [yT,qa3];exact bv ht
   | false =>
    rw [hf] at O tf;simp only [qi0,if_false] at O;obtain ⟨e,p1,p2,p3,p4⟩:=dM h (beh h) cf;obtain ⟨y8,hpE⟩:=yU (G:=G) (st:=st) (f1:=f1) (f2:=f2) (F0:=F0) (x4:=x4) (x6:=some (.leaf (.int ((k+1:Nat):Int)))) (h:=h) (beh h) cf x8 nd (by have:=hbl h hhU;lia)
    have body:z60 G (sR st f1 f2 F0 cf x4 (some (.leaf (.int k))) x7 x8)=some (.nx (sR st f1 f2 F0 (cV h cf (beh h)) x4 (some (.leaf (.int ((k+1:Nat):Int)))) (some (.leaf (dI h))) y8)):=by unfold z60;rw [br s1,br s2,br (by rw [rV tf];rfl)];show ((((G f1 F0 [dI h]).bind T.d).bind itD).bind fun ds=>ca (ap 8) (q59 G) ds (sR st f1 f2 F0 cf x4 (some (.leaf (.int ((k+1:Nat):Int)))) (some (.leaf (dI h))) x8))=_;rw [h1 h hhU];exact hpE
    rw [io Z body];exact yV hU hUl hbl h1 h2 n (cV h cf (beh h)) (k+1) (some (.leaf (dI h))) y8 h' Y (p3 nd) (j5 hc (hU h hhU)) O c ht
theorem Bj {s0:Nat} (hU:∀ t∈U,∀ u∈beh t,u∈U) (hUl:U.length<=9000) (Z:∀ t∈U,(beh t).length<=1000) (hs:s0∈U) (hx:∃ t,Rch beh [s0] t/\fit t=true) :
  ∃ (t:Nat) (O:List Nat),Wy beh fit [s0] t O/\fit t=true/\O.length<=9001/\∀ (G:Orc) (f1 f2:Addr) (F0:Hp),(∀ t∈U,((G f1 F0 [dI t]).bind T.d).bind itD=some ((beh t).map dI))->(∀ t∈U,G f2 F0 [dI t]=some (.leaf (.bl (fit t))))→
      q79 G (.lst [dI s0]) f1 f2 F0=some (.lst (O.reverse.map dI)):=by
 have B0:BI beh fit [s0] [(s0,none)] 0:=BI.start (starts:=[s0])
 have h0:∀ t∈ks [(s0,(none:Option Nat))],t∈U:=fun t Y=>by
  have:t=s0:=by simpa [ks] using Y
  rw [this];exact hs
 obtain ⟨t,cf,k',e,B,hc,hf,Y⟩:=nM hU hx 100000 [(s0,none)] 0 B0 h0 (qj2 _) (by lia);obtain ⟨i,q,eq⟩:=iO Y;obtain ⟨O,tr,wy,hl⟩:=B.trace i t q eq;have hi:=(gX eq).1
 have hcl:cf.length<=9000:=by have:=cM B.nd hc;rw [j6] at this;lia
 refine ⟨t,O,wy,hf,by lia,fun G f1 f2 F0 g1 g2=>?_⟩;have hw:=yV (st:=.lst [dI s0]) (x4:=some (.leaf (dI s0))) hU (by lia) Z g1 g2 100000 [(s0,none)] 0 none none t cf (by simp [ks]) h0 e _ (r9 tr (by lia))
 have hg:∀ {g:De->Option Out} {r:T},g (deR 9 (.lst [dI s0]) f1 f2 F0)=some (.rt r)->ue 9 g (.lst [dI s0]) f1 f2 F0=some r:=fun {g r} z=>by unfold ue;rw [z]
 unfold q79;refine hg ?_
 have e2:dZ (fIt (vL 0)) (ap 4) (z74 G) [some (.leaf (.lst [dI s0])),some (.fn f1 F0),some (.fn f2 F0),some (.dct []),none,none,none,none,none]=some (.nx [some (.leaf (.lst [dI s0])),some (.fn f1 F0),some (.fn f2 F0),some (cfT [(s0,none)]),some (.leaf (dI s0)),none,none,none,none]):=by show ca (ap 4) (z74 G) [dI s0] [some (.leaf (.lst [dI s0])),some (.fn f1 F0),some (.fn f2 F0),some (.dct []),none,none,none,none,none]=_;rw [bI rfl (by unfold z74;exact uW (kd:=dI s0) (k:=kI s0) (d:=.non) (l:=[]) rfl rfl rfl rfl (by simp) (by simp))];rfl
 show ay _ _ [some (.leaf (.lst [dI s0])),some (.fn f1 F0),some (.fn f2 F0),none,none,none,none,none,none]=_;rw [br (cO rfl)];show ay _ _ [some (.leaf (.lst [dI s0])),some (.fn f1 F0),some (.fn f2 F0),some (.dct []),none,none,none,none,none]=_;rw [br e2,br (δ':=sR (.lst [dI s0]) f1 f2 F0 [(s0,none)] (some (.leaf (dI s0))) none none none) (cO rfl),br (δ':=sR (.lst [dI s0]) f1 f2 F0 [(s0,none)] (some (.leaf (dI s0))) (some (.leaf (.int ((0:Nat):Int)))) none none) (cO rfl)];exact l7 hw
end P42
namespace P42
open PySem L2
variable {i x j s0:Nat} {L:List Nat} {r:Rw}
section
variable {rows:List Rw} {b:Str}
def i9 (rows:List Rw) (b:Str) (t:Nat):List Nat:=match rows[t]? with
 | some r=>if r.sets=some b then [] else r.outs t
 | none=>[]
def nN (rows:List Rw) (b:Str) (t:Nat):Bool:=match rows[t]? with
 | some r=>decide (b∈r.reads)
 | none=>false
theorem qC {t u:Nat} (h:u∈i9 rows b t):∃ r,rows[t]?=some r/\r.sets≠some b/\u∈r.outs t:=by
 unfold i9 at h;split at h
 . rename_i r e;split at h
   . cases h
   . exact ⟨r,e,by assumption,h⟩
 . cases h
theorem se (h:Needs rows i b):∀ s,Rch (i9 rows b) [s] i->∃ t,Rch (i9 rows b) [s] t/\nN rows b t=true:=by
 induction h with
 | here q Y =>intro s O;refine ⟨_,O,?_⟩;unfold nN;rw [q];exact decide_eq_true Y
 | on q h1 hj _ Z =>intro s O;refine Z s (.more O ?_);unfold i9;rw [q];dsimp only;rw [if_neg h1];exact hj
theorem Bk (h:j<L.length):(L++[x]).getD j 0=L.getD j 0:=by rw [qb4,qb4,qc5 h]
theorem gd_r (h:j=L.length):(L++[x]).getD j 0=x:=by subst h;simp [qb4]
structure Way (rows:List Rw) (b:Str) (s0:Nat) (W:List Nat):Prop where
 len:∃ n,W.length=n+1/\nN rows b (W.getD n 0)=true
 hd:W.getD 0 0=s0
 nx:∀ k,k+1<W.length->W.getD (k+1) 0∈i9 rows b (W.getD k 0)
theorem Bl {t:Nat} {fit:Nat->Bool} {q:List Nat} (h:Wy (i9 rows b) fit [s0] t q):(∃ n,q.reverse.length=n+1/\q.reverse.getD n 0=t)/\q.reverse.getD 0 0=s0/\∀ k,k+1<q.reverse.length->q.reverse.getD (k+1) 0∈i9 rows b (q.reverse.getD k 0):=by
 induction h with
 | @one t h =>rw [qb0.mp h];exact ⟨⟨0,rfl,rfl⟩,rfl,fun k O=>absurd O (by simp)⟩
 | @more t p r h _ w ih =>
  obtain ⟨⟨n,Y,Z⟩,h2,h3⟩:=ih;rw [qp8];generalize r.reverse=L at*
  refine ⟨⟨n+1,by simp [Y],gd_r Y.symm⟩,by rw [Bk (by lia)];exact h2,fun k O=>?_⟩;rw [qc8] at O;have O:k+1<L.length+1:=O;rw [Bk (show k<L.length by lia)];by_cases z:k+1=L.length
  . rw [gd_r z,show k=n by lia,Z];exact h
  . rw [Bk (by lia)];exact h3 k (by lia)
theorem ir (h:rows[i]?=some r):ax (dR rows) (dI i)=some (.leaf r.d):=by unfold dR dI;rw [uN,bT,qb3,h];rfl
theorem sf {t:Nat} (h:t<rows.length):((i4 4 bA [.str b,dR rows,dW rows] [dI t]).bind T.d).bind itD=some ((i9 rows b t).map dI):=by
 have q:rows[t]?=some rows[t]:=gQ h;generalize rows[t]=r at q
 have e:bA [some (.leaf (dI t)),some (.leaf (.str b)),some (.leaf (dR rows)),some (.leaf (dW rows))]=some (.rt (if r.sets=some b then .lst [] else .leaf (.tup ((r.outs t).map dI)))):=by
  have O:=az (t:=.leaf r.d) ((bx (δ:=[some (.leaf (dI t)),some (.leaf (.str b)),some (.leaf (dR rows)),some (.leaf (dW rows))]) (fa:=vB 2) (fb:=vB 0) (x:=dR rows) (y:=dI t) rfl rfl).trans (ir q));have Y:=az ((cB (F:=y50) O).trans (nD r))
  have Z:tB2 (gEq false) (toD (ao y50 (ab (toD (d2 ax (vB 2) (vB 0))) ak))) (vB 1) [some (.leaf (dI t)),some (.leaf (.str b)),some (.leaf (dR rows)),some (.leaf (dW rows))]=some (decide (r.sets=some b)):=by
   refine cH (x:=match r.sets with | some x=>.str x | none=>.non) (Y.trans (by cases r.sets<;>rfl)) (y:=.str b) rfl ?_;cases hs:r.sets with
   | none=>rfl
   | some x =>rw [pb];congr 3;simp
  have c4:d2 ax (vB 3) (vB 0) [some (.leaf (dI t)),some (.leaf (.str b)),some (.leaf (dR rows)),some (.leaf (dW rows))]=some (.leaf (.tup ((r.outs t).map dI))):=(bx (x:=dW rows) (y:=dI t) rfl rfl).trans (mi q);unfold bA;refine bv ?_;rw [Cw,Z];by_cases z:r.sets=some b
  . rw [decide_eq_true z,l8,if_pos z,ma];show ((some []).bind mkL)=_;rw [qa3,c8 (by simp)]
  . rw [decide_eq_false z,l9,c4,if_neg z]
 unfold i4
 show (((match bA [some (.leaf (dI t)),some (.leaf (.str b)),some (.leaf (dR rows)),some (.leaf (dW rows))] with
  | some (.rt t)=>some t | some (.nx _)=>some (.leaf .non) | _=>none).bind T.d).bind itD)=_
 rw [e];unfold i9;rw [q];dsimp only;by_cases z:r.sets=some b
 . rw [if_pos z,if_pos z];rfl
 . rw [if_neg z,if_neg z];rfl
theorem xH {t:Nat} (h:t<rows.length):i4 3 bL [.str b,dR rows] [dI t]=some (.leaf (.bl (nN rows b t))):=by
 have q:rows[t]?=some rows[t]:=gQ h;generalize rows[t]=r at q
 have e:bL [some (.leaf (dI t)),some (.leaf (.str b)),some (.leaf (dR rows))]=some (.rt (.leaf (.bl (nN rows b t)))):=by have O:=az (t:=.leaf r.d) ((bx (δ:=[some (.leaf (dI t)),some (.leaf (.str b)),some (.leaf (dR rows))]) (fa:=vB 2) (fb:=vB 0) (x:=dR rows) (y:=dI t) rfl rfl).trans (ir q));have Y:=az ((cB (F:=y49) O).trans (nE r));unfold bL;refine bv ((bx (x:=.str b) rfl Y).trans (gIn_strs.trans ?_));unfold nN;rw [q];rfl
 unfold i4
 show (match bL [some (.leaf (dI t)),some (.leaf (.str b)),some (.leaf (dR rows))] with
  | some (.rt t)=>some t | some (.nx _)=>some (.leaf .non) | _=>none)=_
 rw [e]
theorem Bm {c s:Dt} {s0:Nat} (hn:rows.length<=500) (hs:s0<rows.length) (hO:∀ (i:Nat) (r:Rw) (j:Nat),rows[i]?=some r->j∈r.outs i->j<rows.length) (hN:Needs rows s0 b) :
  ∃ W:List Nat,z18 [pcD c s rows,dI s0,.str b]=some (.lst (W.map dI))/\Way rows b s0 W/\W.length<=9001:=by
 obtain ⟨t,Z,wy,ft,hl,hr⟩:=Bj (s0:=s0) (U:=qc0 rows.length) (beh:=i9 rows b) (fit:=nN rows b)
  (fun t _ u hu=>by obtain ⟨r,e,_,ho⟩:=qC hu;exact qd0.mpr (hO t r u e ho))
  (by simp;lia)
  (fun t _=>by
   unfold i9;split
   . split
     . simp
     . exact qc4 (Rw.outs_len _ _) (by decide)
   . simp)
  (qd0.mpr hs) (se hN s0 (.one (.head _)))
 obtain ⟨⟨n,e1,e2⟩,h2,h3⟩:=Bl wy;refine ⟨Z.reverse,?_,⟨⟨n,e1,by rw [e2];exact ft⟩,h2,h3⟩,by rw [List.length_reverse];exact hl⟩;have Y:=mf c s rows (by lia);unfold z18;refine ip ?_;show ay _ _ [some (.leaf (pcD c s rows)),some (.leaf (dI s0)),some (.leaf (.str b)),none,none,none,none]=_;rw [br (cO rfl)];show ay _ _ [some (.leaf (pcD c s rows)),some (.leaf (dI s0)),some (.leaf (.str b)),some (.leaf (dR rows)),none,none,none]=_
 rw [br (cO (t:=.leaf (dW rows)) (by show (((dD [pcD c s rows]).bind T.d).map T.leaf)=_;rw [show dD [pcD c s rows]=_ from Y];rfl))]
 refine bv ?_;refine As (d0:=.lst [dI s0]) (a:=[.str b,dR rows,dW rows]) (b:=[.str b,dR rows]) ?_ rfl rfl fun f1 f2 F0 O=>?_
 . unfold q60;refine (az (t:=.lst [dI s0]) ?_).trans rfl;rw [ma];show ((some [dI s0]).bind mkL)=_;rw [qa3,c8 (by simp)]
 . refine hr _ f1 f2 F0 (fun t q=>?_) fun t q=>?_
   . rw [Ap];exact sf (qd0.mp q)
   . rw [Aq O];exact xH (qd0.mp q)
end
variable {neg:Bool} {l:List Str}
theorem gIn_strT {x:Str}:cb neg (.str x) (.tup (l.map .str))=some (.leaf (.bl (if neg then !decide (x∈l) else decide (x∈l)))):=by rw [Cs (by rw [em];rfl),qw]
def plD (p:Nat×List Str×Bool):Dt:=.tup [dI p.1,.tup (p.2.1.map .str),.bl p.2.2]
def lsD (b:Str) (W:List Nat) (bg:Bool):Dt:=.tup [.str "lost",.str b,.lst (W.map dI),.bl bg]
structure Lost (rows:List Rw) (p:Nat×List Str×Bool) (b:Str) (W:List Nat):Prop where
 out:b∉p.2.1
 way:Way rows b p.1 W
 len:W.length<=9001
variable {found:List (List Str)} {bg:List Str}
section
variable {c s:Dt} {rows:List Rw} {x1 x2 x3:Option T}
def dls (P:Dt) (x1 x2 x3:Option T) (p:Nat×List Str×Bool) (x7:Option T):De:=[some (.leaf P),x1,x2,x3,some (.leaf (dI p.1)),some (.leaf (.tup (p.2.1.map .str))),some (.leaf (.bl p.2.2)),x7]
theorem qD (Z:rows.length<=500) (hO:∀ (i:Nat) (r:Rw) (j:Nat),rows[i]?=some r->j∈r.outs i->j<rows.length) (p:Nat×List Str×Bool) (hp:p.1<rows.length):∀ (l:List Str) (x7:Option T),(∀ b∈l,Needs rows p.1 b)→
  ((∀ b∈l,b∈p.2.1)/\∃ y,ca (ap 7) q12 (l.map .str) (dls (pcD c s rows) x1 x2 x3 p x7)=some (.nx (dls (pcD c s rows) x1 x2 x3 p y)))∨
  ∃ b∈l,∃ W,Lost rows p b W/\ca (ap 7) q12 (l.map .str) (dls (pcD c s rows) x1 x2 x3 p x7)=some (.rt (.leaf (lsD b W p.2.2)))
 | [],x7,_=>.inl ⟨fun b O=>(by cases O),x7,rfl⟩
 | b::l,x7,h=>by
  have Y:tB2 (cb true) (vB 7) (vB 5) (dls (pcD c s rows) x1 x2 x3 p (some (.leaf (.str b))))=some (!decide (b∈p.2.1)):=cH (x:=.str b) (y:=.tup (p.2.1.map .str)) rfl rfl gIn_strT;by_cases O:b∈p.2.1
  . have e0:q12 (dls (pcD c s rows) x1 x2 x3 p (some (.leaf (.str b))))=some (.nx (dls (pcD c s rows) x1 x2 x3 p (some (.leaf (.str b))))):=by unfold q12;rw [iX,Y,decide_eq_true O];rfl
    have step:ca (ap 7) q12 ((b::l).map .str) (dls (pcD c s rows) x1 x2 x3 p x7)=ca (ap 7) q12 (l.map .str) (dls (pcD c s rows) x1 x2 x3 p (some (.leaf (.str b)))):=bI (δ1:=dls (pcD c s rows) x1 x2 x3 p (some (.leaf (.str b)))) rfl e0;rw [step];rcases qD Z hO p hp l (some (.leaf (.str b))) (fun d q=>h d (.tail _ q)) with ⟨h1,y,e⟩ | ⟨d,q,W,L,e⟩
    . refine .inl ⟨fun d q=>?_,y,e⟩;rcases qa6.mp q with rfl | q
      . exact O
      . exact h1 d q
    . exact .inr ⟨d,.tail _ q,W,L,e⟩
  . obtain ⟨W,ew,wy,hl⟩:=Bm (c:=c) (s:=s) Z hp hO (h b (.head _));refine .inr ⟨b,.head _,W,⟨O,wy,hl⟩,?_⟩
    have e0:q12 (dls (pcD c s rows) x1 x2 x3 p (some (.leaf (.str b))))=some (.rt (.leaf (lsD b W p.2.2))):=by unfold q12;rw [iX,Y,decide_eq_false O];show bi _ (dls (pcD c s rows) x1 x2 x3 p (some (.leaf (.str b))))=_;refine bv (cu (aL rfl (aL rfl (aL (az (t:=.lst (W.map dI)) ?_) (aL rfl rfl)))) (by simp));exact (show ao (z18) (ab (vL 0) (ab (vL 4) (ab (vL 7) ak))) (dls (pcD c s rows) x1 x2 x3 p (some (.leaf (.str b))))=z18 [pcD c s rows,dI p.1,.str b] from rfl).trans ew
    show ((q12 (dls (pcD c s rows) x1 x2 x3 p (some (.leaf (.str b))))).bind _)=_;rw [e0];rfl
theorem nO {B:List Str} (F:Fnd rows B found) (hn:rows.length<=500) (hO:∀ (i:Nat) (r:Rw) (j:Nat),rows[i]?=some r->j∈r.outs i->j<rows.length):∀ (ps:List (Nat×List Str×Bool)) (x4 x5 x6 x7:Option T),(∀ p∈ps,p.1<rows.length)→
  ((∀ p∈ps,∀ l,found[p.1]?=some l->∀ b∈l,b∈p.2.1)/\∃ y4 y5 y6 y7,ca (d7 3 (aU (ap 4) (aU (ap 5) (aU (ap 6) d6)))) y14 (ps.map plD) [some (.leaf (pcD c s rows)),x1,some (.leaf (dF found)),x3,x4,x5,x6,x7]=some (.nx [some (.leaf (pcD c s rows)),x1,some (.leaf (dF found)),x3,y4,y5,y6,y7]))∨
  ∃ p∈ps,∃ b W,(∃ l,found[p.1]?=some l/\b∈l)/\Lost rows p b W/\ca (d7 3 (aU (ap 4) (aU (ap 5) (aU (ap 6) d6)))) y14 (ps.map plD) [some (.leaf (pcD c s rows)),x1,some (.leaf (dF found)),x3,x4,x5,x6,x7]=some (.rt (.leaf (lsD b W p.2.2)))
 | [],x4,x5,x6,x7,_=>.inl ⟨fun p hp=>(by cases hp),x4,x5,x6,x7,rfl⟩
 | p::ps,x4,x5,x6,x7,h=>by
  have hp:=h p (.head _);obtain ⟨l,hl⟩:∃ l,found[p.1]?=some l:=⟨found[p.1]'(by rw [F.len];exact hp),by simp⟩
  have e2:fIt (toD (d2 ax (vB 2) (vB 4))) (dls (pcD c s rows) x1 (some (.leaf (dF found))) x3 p x7)=some (l.map .str):=by
   unfold fIt
   rw [az (t:=.leaf (dS l)) ((bx (x:=dF found) (y:=dI p.1) rfl rfl).trans (by unfold dF dI;rw [il,bT,qb3,hl];rfl))]
   rfl
  have e3:y14 (dls (pcD c s rows) x1 (some (.leaf (dF found))) x3 p x7)=ca (ap 7) q12 (l.map .str) (dls (pcD c s rows) x1 (some (.leaf (dF found))) x3 p x7):=by unfold y14 dZ;rw [e2];rfl
  rcases qD (c:=c) (s:=s) (x1:=x1) (x2:=some (.leaf (dF found))) (x3:=x3) hn hO p hp l x7 (fun b Z=>F.nd p.1 l b hl Z) with ⟨h1,y,e⟩ | ⟨b,Z,W,L,e⟩
  . have step:ca (d7 3 (aU (ap 4) (aU (ap 5) (aU (ap 6) d6)))) y14 ((p::ps).map plD) [some (.leaf (pcD c s rows)),x1,some (.leaf (dF found)),x3,x4,x5,x6,x7]=ca (d7 3 (aU (ap 4) (aU (ap 5) (aU (ap 6) d6)))) y14 (ps.map plD) (dls (pcD c s rows) x1 (some (.leaf (dF found))) x3 p y):=bI (δ1:=dls (pcD c s rows) x1 (some (.leaf (dF found))) x3 p x7) rfl (e3.trans e);rw [step];rcases nO F hn hO ps (some (.leaf (dI p.1))) (some (.leaf (.tup (p.2.1.map .str)))) (some (.leaf (.bl p.2.2))) y (fun q Y=>h q (.tail _ Y)) with ⟨g1,y4,y5,y6,y7,g2⟩ | ⟨q,Y,b,W,g1,g2,g3⟩
    . refine .inl ⟨fun q Y l' O b Z=>?_,y4,y5,y6,y7,g2⟩;rcases qa6.mp Y with rfl | Y
      . rw [hl] at O;cases O;exact h1 b Z
      . exact g1 q Y l' O b Z
    . exact .inr ⟨q,.tail _ Y,b,W,g1,g2,g3⟩
  . refine .inr ⟨p,.head _,b,W,⟨l,hl,Z⟩,L,?_⟩;show ((y14 (dls (pcD c s rows) x1 (some (.leaf (dF found))) x3 p x7)).bind _)=_;rw [e3,e];rfl
def kj (bg:List Str) (ks:List (Nat×List Str)):List (Nat×List Str×Bool):=(0,bg,true)::ks.map fun k=>(k.1,k.2,false)
theorem xI {B:List Str} {ks:List (Nat×List Str)} (F:Fnd rows B found) (en:q48 [pcD c s rows]=some (.lst (found.map dS))) (hn:rows.length<=500) (Z:0<rows.length) (hO:∀ (i:Nat) (r:Rw) (j:Nat),rows[i]?=some r->j∈r.outs i->j<rows.length) (Y:∀ k∈ks,k.1<rows.length) (hkl:ks.length<=900) :
  (y23 [pcD c s rows,kcD (.tup (bg.map .str)) ks]=some (.leaf .non)/\∀ p∈kj bg ks,∀ l,found[p.1]?=some l->∀ b∈l,b∈p.2.1)∨
  ∃ p∈kj bg ks,∃ b W,(∃ l,found[p.1]?=some l/\b∈l)/\Lost rows p b W/\y23 [pcD c s rows,kcD (.tup (bg.map .str)) ks]=some (.leaf (lsD b W p.2.2)):=by
 have q:∀ o,ca (d7 3 (aU (ap 4) (aU (ap 5) (aU (ap 6) d6)))) y14 ((kj bg ks).map plD) [some (.leaf (pcD c s rows)),some (.leaf (kcD (.tup (bg.map .str)) ks)),some (.leaf (dF found)),some (.leaf (.lst ((kj bg ks).map plD))),none,none,none,none]=o->y23 [pcD c s rows,kcD (.tup (bg.map .str)) ks]=pe (im o (bi (toT (kD .non)))):=fun o ho=>by unfold y23;walk_at "k";rw [show q48 [pcD c s rows]=_ from en];walk_at "k";rw [b8 (h:=fun k:Nat×List Str=>plD (k.1,k.2,false)) fun k _=>⟨_,rfl,rfl,by unfold z77 kpD;walk_at "k";rfl⟩];walk_at "k";rw [c8 (by rw [qa1];lia)];walk_at "k";rw [qt (by simp;lia)];walk_at "k";rw [show Dt.tup [Dt.int 0,Dt.tup (List.map Dt.str bg),Dt.bl true]=plD (0,bg,true) from rfl,show List.map (fun k:Nat×List Str=>plD (k.1,k.2,false)) ks=(ks.map fun k=>(k.1,k.2,false)).map plD by rw [qc9];rfl,<- qa5];show pe (im (ca _ y14 ((kj bg ks).map plD) _) _)=_;rw [<- ho];rfl
 rcases nO (c:=c) (s:=s) (x1:=some (.leaf (kcD (.tup (bg.map .str)) ks))) (x3:=some (.leaf (.lst ((kj bg ks).map plD)))) F hn hO (kj bg ks) none none none none (fun p hp=>by
  rcases qa6.mp hp with rfl | hp
  . exact Z
  . obtain ⟨k,O,rfl⟩:=qd2.mp hp;exact Y k O) with ⟨h1,y4,y5,y6,y7,e⟩ | ⟨p,hp,b,W,h1,h2,e⟩
 . exact .inl ⟨q _ e,h1⟩
 . exact .inr ⟨p,hp,b,W,h1,h2,q _ e⟩
end
def ndB (rows:List Rw) (i:Nat) (b:Str):Bool:=@decide (Needs rows i b) (za2 _)
variable {rows:List Rw} {b:Str}
theorem ndB_iff:ndB rows i b=true↔Needs rows i b:=by unfold ndB;exact @decide_eq_true_iff _ (za2 _)
variable {n:Nat}
theorem CS {b:Str} (q:rows.length<=500) (O:n<rows.length) (Y:∀ (i:Nat) (r:Rw) (j:Nat),rows[i]?=some r->j∈r.outs i->j<rows.length):q14 [dR rows,dI n,.str b]=some (.leaf (.bl (ndB rows n b))):=by obtain ⟨bo,e,h⟩:=mn (b:=b) q O Y;rw [show ndB rows n b=bo from qi9.mpr (ndB_iff.trans h.symm)];exact e
def lck (rows:List Rw) (B:List Str) (k:Nat×List Str):List Str:=B.filter fun b=>!decide (b∈k.2)&&ndB rows k.1 b
theorem lck_ne {B:List Str} {k:Nat×List Str}:lck rows B k≠[]↔∃ b∈B,b∉k.2/\Needs rows k.1 b:=by
 constructor
 . intro h;obtain ⟨b,q⟩:=List.exists_mem_of_ne_nil _ h;obtain ⟨h1,h2⟩:=qf2.mp q;rw [qb1,ndB_iff] at h2;exact ⟨b,h1,by simpa using h2.1,h2.2⟩
 . rintro ⟨b,h1,h2,h3⟩ z;have:b∈lck rows B k:=qf2.mpr ⟨h1,by rw [ndB_iff.mpr h3,decide_eq_false h2];rfl⟩;rw [z] at this;cases this
variable {g:De->Option Bool} {δ:De} {a:Bool}
theorem andE {f:De->Option Bool} {b:Bool} (h1:f δ=some a) (h2:g δ=some b):oz f g δ=some (a&&b):=by
 rw [AI,h1];cases a with
 | true=>exact h2
 | false=>rfl
theorem vf (O:rows.length<=500) (Y:∀ (i:Nat) (r:Rw) (j:Nat),rows[i]?=some r->j∈r.outs i->j<rows.length) (B:List Str) (k:Nat×List Str) (q:k.1<rows.length) :
  bw (ap 0) y33 (vL 0) [none,some (.leaf (dR rows)),some (.leaf (dI k.1)),some (.leaf (.tup (k.2.map .str)))] (B.map .str)=some ((lck rows B k).map .str):=
 cG fun b _=>⟨[some (.leaf (.str b)),some (.leaf (dR rows)),some (.leaf (dI k.1)),some (.leaf (.tup (k.2.map .str)))],rfl,by unfold y33;refine andE (cH (x:=.str b) (y:=.tup (k.2.map .str)) rfl rfl gIn_strT) ?_;unfold cN;rw [az ((show ao (q14) (ab (vL 1) (ab (vL 2) (ab (vL 0) ak))) [some (.leaf (.str b)),some (.leaf (dR rows)),some (.leaf (dI k.1)),some (.leaf (.tup (k.2.map .str)))]=q14 [dR rows,dI k.1,.str b] from rfl).trans (CS O q Y))];rfl,fun _=>rfl⟩
theorem vg (Z:rows.length<=500) (hO:∀ (i:Nat) (r:Rw) (j:Nat),rows[i]?=some r->j∈r.outs i->j<rows.length) (x1:Option T) (B:List Str) (hB:B.length<=100) (k:Nat×List Str) (O:k.1<rows.length) :
  z14 [some (.leaf (dR rows)),x1,some (.leaf (.lst (B.map .str))),some (.leaf (dI k.1)),some (.leaf (.tup (k.2.map .str)))]=if lck rows B k=[] then some (.nx [some (.leaf (dR rows)),x1,some (.leaf (.lst (B.map .str))),some (.leaf (dI k.1)),some (.leaf (.tup (k.2.map .str)))]) else some (.rt (.leaf (.bl true))):=by
 have Y:=az (dg (src:=[none,some 0,some 3,some 4]) (fi:=fIt (vB 2)) (δ:=[some (.leaf (dR rows)),x1,some (.leaf (.lst (B.map .str))),some (.leaf (dI k.1)),some (.leaf (.tup (k.2.map .str)))]) (bb:=ap 0) (ft:=y33) (fe:=vL 0) (ds:=B.map .str) rfl (vf Z hO B k O) (by have:=qe8 (fun b=>!decide (b∈k.2)&&ndB rows k.1 b) B;unfold lck;simp;lia))
 have q:tB2 (gEq true) (toD (bj [none,some 0,some 3,some 4] (fIt (vB 2)) (ap 0) y33 (vL 0))) (toD (cy ak)) [some (.leaf (dR rows)),x1,some (.leaf (.lst (B.map .str))),some (.leaf (dI k.1)),some (.leaf (.tup (k.2.map .str)))]=some (!decide (lck rows B k=[])):=cH Y (y:=.lst (([]:List Str).map .str)) rfl nC
 unfold z14;rw [iX,q];by_cases z:lck rows B k=[]
 . rw [decide_eq_true z,if_pos z];rfl
 . rw [decide_eq_false z,if_neg z];rfl
theorem qE (Y:rows.length<=500) (Z:∀ (i:Nat) (r:Rw) (j:Nat),rows[i]?=some r->j∈r.outs i->j<rows.length) (x1:Option T) (B:List Str) (hB:B.length<=100):∀ (ks:List (Nat×List Str)) (x3 x4:Option T),(∀ k∈ks,k.1<rows.length)→
  ((∀ k∈ks,lck rows B k=[])/\∃ y3 y4,ca (d7 2 (aU (ap 3) (aU (ap 4) d6))) z14 (ks.map kpD) [some (.leaf (dR rows)),x1,some (.leaf (.lst (B.map .str))),x3,x4]=some (.nx [some (.leaf (dR rows)),x1,some (.leaf (.lst (B.map .str))),y3,y4]))∨
  ((∃ k∈ks,lck rows B k≠[])/\ca (d7 2 (aU (ap 3) (aU (ap 4) d6))) z14 (ks.map kpD) [some (.leaf (dR rows)),x1,some (.leaf (.lst (B.map .str))),x3,x4]=some (.rt (.leaf (.bl true))))
 | [],x3,x4,_=>.inl ⟨fun k hk=>(by cases hk),x3,x4,rfl⟩
 | k::ks,x3,x4,h=>by
  have e:=vg Y Z x1 B hB k (h k (.head _));by_cases z:lck rows B k=[]
  . rw [if_pos z] at e;have step:ca (d7 2 (aU (ap 3) (aU (ap 4) d6))) z14 ((k::ks).map kpD) [some (.leaf (dR rows)),x1,some (.leaf (.lst (B.map .str))),x3,x4]=ca (d7 2 (aU (ap 3) (aU (ap 4) d6))) z14 (ks.map kpD) [some (.leaf (dR rows)),x1,some (.leaf (.lst (B.map .str))),some (.leaf (dI k.1)),some (.leaf (.tup (k.2.map .str)))]:=bI (δ1:=[some (.leaf (dR rows)),x1,some (.leaf (.lst (B.map .str))),some (.leaf (dI k.1)),some (.leaf (.tup (k.2.map .str)))]) rfl e;rw [step];rcases qE Y Z x1 B hB ks (some (.leaf (dI k.1))) (some (.leaf (.tup (k.2.map .str)))) (fun q O=>h q (.tail _ O)) with ⟨h1,h2⟩ | ⟨⟨q,O,h1⟩,h2⟩
    . refine .inl ⟨fun q O=>?_,h2⟩;rcases qa6.mp O with rfl | O
      . exact z
      . exact h1 q O
    . exact .inr ⟨⟨q,.tail _ O,h1⟩,h2⟩
  . rw [if_neg z] at e;refine .inr ⟨⟨k,.head _,z⟩,?_⟩;show ((z14 [some (.leaf (dR rows)),x1,some (.leaf (.lst (B.map .str))),some (.leaf (dI k.1)),some (.leaf (.tup (k.2.map .str)))]).bind _)=_;rw [e];rfl
theorem vh (hN:rows.length<=500) (Z:0<rows.length) (hO:∀ (i:Nat) (r:Rw) (j:Nat),rows[i]?=some r->j∈r.outs i->j<rows.length) (B:List Str) (hB:B.length<=100) (bg:List Str) (ks:List (Nat×List Str)) (Y:∀ k∈ks,k.1<rows.length) (hkl:ks.length<=900) :
  ∃ bo,y20 [dR rows,kcD (.tup (bg.map .str)) ks,.lst (B.map .str)]=some (.leaf (.bl bo))/\(bo=true↔∃ k∈(0,bg)::ks,∃ b∈B,b∉k.2/\Needs rows k.1 b):=by
 have O:∀ o,ca (d7 2 (aU (ap 3) (aU (ap 4) d6))) z14 (((0,bg)::ks).map kpD) [some (.leaf (dR rows)),some (.leaf (kcD (.tup (bg.map .str)) ks)),some (.leaf (.lst (B.map .str))),none,none]=o->y20 [dR rows,kcD (.tup (bg.map .str)) ks,.lst (B.map .str)]=pe (im o (bi (toT (kD (.bl false))))):=fun o ho=>by unfold y20;walk_at "k";rw [qt (by simp;lia)];walk_at "k";show pe (im (ca _ z14 (((0,bg)::ks).map kpD) _) _)=_;rw [<- ho]
 rcases qE hN hO (some (.leaf (kcD (.tup (bg.map .str)) ks))) B hB ((0,bg)::ks) none none (fun k q=>by
  rcases qa6.mp q with rfl | q
  . exact Z
  . exact Y k q) with ⟨h1,y3,y4,e⟩ | ⟨⟨k,q,h1⟩,e⟩
 . refine ⟨false,O _ e,by simp,fun ⟨k,q,h2⟩=>absurd (h1 k q) (lck_ne.mpr h2)⟩
 . exact ⟨true,O _ e,fun _=>⟨k,q,lck_ne.mp h1⟩,fun _=>rfl⟩
theorem nQ {l:List Nat}:gEq neg (.lst (l.map dI)) (.lst [])=some (.leaf (.bl (if neg then !decide (l=[]) else decide (l=[])))):=by rw [nz (nI l) rfl];cases l<;>rfl
theorem vi {α:Type} (l:List α):mV (fun bs=>bs.all id) [.lst (l.map fun _=>Dt.bl true)]=some (.leaf (.bl true)):=by
 have e:∀ l:List α,iU (l.map fun _=>Dt.bl true)=some (l.map fun _=>true):=fun l=>by
  induction l with
  | nil=>rfl
  | cons a l q=>rw [qa5,iU,q];rfl
 unfold mV;dsimp only;rw [e];simp
theorem pw {l:List Nat} {k:Nat} (h:k<l.length):ax (.lst (l.map dI)) (.int k)=some (.leaf (dI (l.getD k 0))):=by rw [il,bT,qb3,gQ h,qb4,gQ h];rfl
theorem xJ {l:List Nat} (h:l.length=n+1):ax (.lst (l.map dI)) (.int (-1))=some (.leaf (dI (l.getD n 0))):=by rw [il];unfold atI ixN;rw [qa1,h,if_neg (by lia),if_pos (by lia)];show (((l.map dI)[(-1+((n+1:Nat):Int)).toNat]?)).map T.leaf=_;rw [show (-1+((n+1:Nat):Int)).toNat=n by lia,qb3,gQ (by lia),qb4,gQ (by lia)];rfl
theorem orE {f:De->Option Bool} {b:Bool} (h1:f δ=some a) (h2:g δ=some b):fOr f g δ=some (a||b):=by
 rw [Cy,h1];cases a with
 | true=>rfl
 | false=>exact h2
theorem lw:∀ l:List Str,deeps (l.map .str)=0
 | []=>by simp [deeps]
 | x::l=>by rw [qa5,deeps,lw l];simp [gH]
theorem lx:∀ ls:List (List Str),deeps (ls.map fun l=>.tup (l.map .str))<=1
 | []=>by simp [deeps]
 | l::ls=>by have:=lx ls;rw [qa5,deeps];simp only [gH,lw];lia
theorem vj (ls:List (List Str)) (h:ls≠[]):gEq false (.lst (ls.map fun l=>.tup (l.map .str))) (.lst [])=some (.leaf (.bl false)):=by
 cases ls with
 | nil=>exact absurd rfl h
 | cons a ls =>have q:=lx (a::ls);refine o8 (b:=false) ?_;rw [qa5] at q ⊢;show (if cmpbs (_::_) []&&decide (deeps _<=59) then some (peqs (_::_) []) else none)=_;rw [if_pos (by rw [decide_eq_true (by lia)];simp [cmpbs])];simp [peqs]
variable {C fd:Dt} {bo:Bool} {x6:Option T}
section
variable {rows:List Rw} {bg:List Str} {ks:List (Nat×List Str)} {b:Str} {W:List Nat}
def dlo (rows:List Rw) (C fd:Dt) (b:Str) (W:List Nat) (bo:Bool) (x6 x7:Option T):De:=[some (.leaf (dR rows)),some (.leaf C),some (.leaf fd),some (.leaf (.str b)),some (.leaf (.lst (W.map dI))),some (.leaf (.bl bo)),x6,x7]
theorem sh (w:Way rows b s0 W) (hn:rows.length<=500) (k:Nat) (q:k+1<W.length):q28 (dlo rows C fd b W bo x6 (some (.leaf (dI k))))=some (.nx (dlo rows C fd b W bo x6 (some (.leaf (dI k))))):=by
 obtain ⟨r,Y,hs,ho⟩:=qC (w.nx k q);have O:toD (d2 ax (vB 4) (vB 7)) (dlo rows C fd b W bo x6 (some (.leaf (dI k))))=some (dI (W.getD k 0)):=az (t:=.leaf _) ((bx (x:=.lst (W.map dI)) (y:=dI k) rfl rfl).trans (pw (by lia)))
 have Z:toD (d2 ax (vB 4) (toD (d2 cJ (vB 7) (kD (.int 1))))) (dlo rows C fd b W bo x6 (some (.leaf (dI k))))=some (dI (W.getD (k+1) 0)):=by refine az (t:=.leaf _) ((bx (x:=.lst (W.map dI)) (y:=.int ((k+1:Nat):Int)) rfl ?_).trans (pw q));show some (Dt.int ((k:Int)+1))=_;rw [show ((k+1:Nat):Int)=(k:Int)+1 by lia]
 have c3:=az ((cC (F:=y15) (f:=vL 0) (δ:=dlo rows C fd b W bo x6 (some (.leaf (dI k)))) (x:=dR rows) rfl O).trans (jZ rows _ r Y));have c4:toD (d2 ax (vB 0) (toD (d2 ax (vB 4) (vB 7)))) (dlo rows C fd b W bo x6 (some (.leaf (dI k))))=some r.d:=az (t:=.leaf _) ((bx (x:=dR rows) rfl O).trans (ir Y));have c5:=az ((cB (F:=y17) c4).trans (lj r));unfold q28;rw [iX,orE (a:=false) (cH Z c3 (gIn_ints.trans (by rw [decide_eq_true ho];rfl))) (b:=false) (cH c5 (y:=.str b) rfl ?_)]
 . rfl
 . unfold sv;cases h:r.sets with
   | none=>rfl
   | some x =>show gEq false (.str x) (.str b)=_;rw [pb,decide_eq_false fun z=>hs (by rw [h,z])]
theorem ly (w:Way rows b s0 W) (O:rows.length<=500):∀ (js:List Nat) (x7:Option T),(∀ j∈js,j+1<W.length)->∃ q,ca (ap 7) q28 (js.map dI) (dlo rows C fd b W bo x6 x7)=some (.nx (dlo rows C fd b W bo x6 q))
 | [],x7,_=>⟨x7,rfl⟩
 | j::js,x7,h=>by
  obtain ⟨q,e⟩:=ly w O js (some (.leaf (dI j))) fun i hi=>h i (.tail _ hi)
  refine ⟨q,?_⟩;rw [qa5,bI (δ1:=dlo rows C fd b W bo x6 (some (.leaf (dI j)))) rfl (sh w O j (h j (.head _)))];exact e
theorem lz {C fd:Dt} {bo:Bool} {ls:List (List Str)} (w:Way rows b s0 W) (hb:b∉l) (hn:rows.length<=500) (hl:W.length<=9001) :
  (ay (sIf (fOr (tB2 (gEq false) (vB 6) (toD (cy ak))) (fOr (tB2 (cb false) (vB 3) (toD (d2 ax (vB 6) (kD (.int 0))))) (tB2 (cb true) (vB 3) (toD (ao y11 (ab (toD (d2 ax (vB 0) (toD (d2 ax (vB 4) (toD (mT (kD (.int 1)))))))) ak)))))) cT bC)
  (ay (dZ (ej gJ (ab (toD (d2 jD (toD (ao cR (ab (vB 4) ak))) (kD (.int 1)))) ak)) (ap 7) q28)
  (bi (toT (kD (.bl true)))))) (dlo rows C fd b W bo (some (.leaf (.lst ((l::ls).map fun l=>.tup (l.map .str))))) none)=some (.rt (.leaf (.bl true))):=by
 obtain ⟨n,q,Y⟩:=w.len
 obtain ⟨r,hr,O⟩:∃ r,rows[W.getD n 0]?=some r/\b∈r.reads:=by
  unfold nN at Y;split at Y
  . rename_i r e;exact ⟨r,e,of_decide_eq_true Y⟩
  . cases Y
 generalize hδ:dlo rows C fd b W bo (some (.leaf (.lst ((l::ls).map fun l=>.tup (l.map .str))))) none=δ;have Z:vB 6 δ=some (.lst ((l::ls).map fun l=>.tup (l.map .str))):=by rw [<- hδ];rfl
 have b3:vB 3 δ=some (.str b):=by rw [<- hδ];rfl
 have b4:vB 4 δ=some (.lst (W.map dI)):=by rw [<- hδ];rfl
 have c0:vB 0 δ=some (dR rows):=by rw [<- hδ];rfl
 have c1:=az (t:=.leaf _) ((bx (g:=ax) b4 (y:=.int (-1)) (fb:=toD (mT (kD (.int 1)))) rfl).trans (xJ q));have c2:=az (t:=.leaf _) ((bx (g:=ax) c0 c1).trans (ir hr));have c3:=az ((cB (F:=y11) c2).trans (gO r));have c4:toD (d2 ax (vB 6) (kD (.int 0))) δ=some (.tup (l.map .str)):=az (t:=.leaf _) ((bx Z (y:=.int ((0:Nat):Int)) rfl).trans (by rw [il,bT];rfl))
 have t3:tB2 (cb true) (vB 3) (toD (ao y11 (ab (toD (d2 ax (vB 0) (toD (d2 ax (vB 4) (toD (mT (kD (.int 1)))))))) ak))) δ=some false:=cH b3 c3 (gIn_strs.trans (by
  have:b∈nms r.atoms:=by unfold Rw.reads at O;exact onces_mem.mp O
  rw [decide_eq_true this];rfl))
 rw [bW,iX,orE (cH Z (y:=.lst []) rfl (vj (l::ls) (by simp))) (orE (cH (b:=false) b3 c4 (gIn_strT.trans (by simp [hb]))) t3)];show im (some (.nx δ)) _=_;rw [bh,bW]
 have c5:ej gJ (ab (toD (d2 jD (toD (ao cR (ab (vB 4) ak))) (kD (.int 1)))) ak) δ=some ((qc0 n).map dI):=by
  have:toD (d2 jD (toD (ao cR (ab (vB 4) ak))) (kD (.int 1))) δ=some (.int (n:Nat)):=by
   refine az (t:=.leaf _) ((bx (az (t:=.leaf (.int (W.length:Nat))) ((cB b4).trans ?_)) (y:=.int 1) rfl).trans ?_)
   . show some (T.leaf (.int ((W.map dI).length:Nat)))=_;rw [qa1]
   . show some (T.leaf (.int ((W.length:Int)-1)))=_;rw [q,show ((n+1:Nat):Int)-1=(n:Int) by lia]
  unfold ej;rw [aL this (show ak δ=some [] from rfl),qa3,j3 n (by lia)]
 obtain ⟨y7,e⟩:=ly (C:=C) (fd:=fd) (bo:=bo) (x6:=some (.leaf (.lst ((l::ls).map fun l=>.tup (l.map .str))))) w hn (qc0 n) none (fun j hj=>by have:=qd0.mp hj;lia);unfold dZ;rw [c5,qa3,<- hδ,e];rfl
end
theorem xK {l:List (Nat×List Str)} {w:Dt} (q:ax w (.int 0)=some (.leaf (dI s0))):bw (d7 2 (aU (ap 0) (aU (ap 1) d6))) z29 (vL 1) [none,none,some (.leaf w)] (l.map kpD)=some (((l.filter fun k=>decide ((k.1:Int)=(s0:Int))).map (·.2)).map fun l=>.tup (l.map .str)):=by
 have:=cG (f:=kpD) (h:=fun k=>Dt.tup (k.2.map .str)) (p:=fun k:Nat×List Str=>decide ((k.1:Int)=(s0:Int))) (bb:=d7 2 (aU (ap 0) (aU (ap 1) d6))) (ft:=z29) (fe:=vL 1) (δ:=[none,none,some (.leaf w)]) (l:=l) fun k _=>⟨[some (.leaf (dI k.1)),some (.leaf (.tup (k.2.map .str))),some (.leaf w)],rfl,by unfold z29;exact cH (x:=dI k.1) rfl (az (t:=.leaf (dI s0)) ((bx (x:=w) (y:=.int 0) rfl rfl).trans q)) o9,fun _=>rfl⟩
 rw [this,qc9];rfl
theorem px {ks:List (Nat×List Str)} {p:Nat×List Str×Bool} {W:List Nat} (hn:rows.length<=500) (hkl:ks.length<=900) (O:(ks.map (·.1)).Nodup) (hp:p∈kj bg ks) (L:Lost rows p b W):q22 [dR rows,kcD (.tup (bg.map .str)) ks,lsD b W p.2.2]=some (.leaf (.bl true)):=by
 obtain ⟨n,hn1,_⟩:=L.way.len;have hl:=L.len
 have hw:ax (.lst (W.map dI)) (.int 0)=some (.leaf (dI p.1)):=by rw [<- L.way.hd];exact pw (k:=0) (by lia)
 unfold q22;generalize hC:kcD (.tup (bg.map .str)) ks=C;refine dRt ?_;generalize Y:lsD b W p.2.2=fd;show ay _ _ [some (.leaf (dR rows)),some (.leaf C),some (.leaf fd),none,none,none,none,none]=_
 have t0:fOr (tB2 (gEq true) (toD (ao cR (ab (vB 2) ak))) (kD (.int 4))) (fOr (ei (cN (toD (eL "str" (toD (d2 ax (vB 2) (kD (.int 1)))))))) (fOr (ei (cN (toD (eL "list" (toD (d2 ax (vB 2) (kD (.int 2)))))))) (tB2 (gEq false) (toD (d2 ax (vB 2) (kD (.int 2)))) (toD (cy ak))))) [some (.leaf (dR rows)),some (.leaf C),some (.leaf fd),none,none,none,none,none]=some false:=by subst Y;refine orE (a:=false) rfl (orE (a:=false) rfl (orE (a:=false) rfl ((cH (x:=.lst (W.map dI)) (y:=.lst []) rfl rfl nQ).trans ?_)));rw [decide_eq_false (show ¬ W=[] by rintro rfl;cases hn1)];rfl
 rw [iq t0]
 have s1:oC (toD (vSl (vB 2) (e8 (kD (.int 1))) kJ)) (d7 3 (aU (ap 3) (aU (ap 4) (aU (ap 5) d6)))) [some (.leaf (dR rows)),some (.leaf C),some (.leaf fd),none,none,none,none,none]=some (.nx (dlo rows C fd b W p.2.2 none none)):=by subst Y;rfl
 rw [bW,s1,bh]
 have t1:fOr (ei (cN (toD (ao (mV fun bs=>bs.all id) (ab (toD (bj [none] (fIt (vB 4)) (ap 0) bN z45)) ak))))) (ei (cN (toD (eL "bool" (vB 5))))) (dlo rows C fd b W p.2.2 none none)=some false:=by
  have a2:bw (ap 0) bN z45 [none] (W.map dI)=some (W.map fun _=>.bl true):=b8 fun j _=>⟨[some (.leaf (dI j))],rfl,rfl,rfl⟩
  have a3:=az (dg (src:=[none]) (fi:=fIt (vB 4)) (δ:=dlo rows C fd b W p.2.2 none none) rfl a2 (by rw [qa1];lia));have a4:=az ((cB a3).trans (vi W));refine orE (a:=false) ?_ rfl;unfold ei cN;rw [a4];rfl
 rw [iq t1]
 have s2:aE 6 (toT (toD (bj [none,none,some 4] (fIt (toD (d2 ax (vB 1) (kD (.int 1))))) (d7 2 (aU (ap 0) (aU (ap 1) d6))) z29 (vL 1)))) (dlo rows C fd b W p.2.2 none none)=some (.nx (dlo rows C fd b W p.2.2 (some (.leaf (.lst (((ks.filter fun k=>decide ((k.1:Int)=(p.1:Int))).map (·.2)).map fun l=>.tup (l.map .str))))) none)):=by
  unfold aE toT
  rw [az (dg (src:=[none,none,some 4]) (ds:=ks.map kpD) (by subst hC;rfl) (xK (w:=.lst (W.map dI)) hw) (by rw [qa1,qa1];exact qc4 (qe8 _ _) (by lia)))]
  rfl
 rw [bW,s2,bh,bW];rcases qa6.mp hp with rfl | hp
 . have s3:sIf (cN (vB 5)) (aE 6 (toT (toD (bj [none,some 4] (fIt (toD (cy (ab (toD (d2 ax (vB 1) (kD (.int 0)))) ak)))) (ap 0) y35 (vL 0))))) bC (dlo rows C fd b W true (some (.leaf (.lst (((ks.filter fun k=>decide ((k.1:Int)=((0:Nat):Int))).map (·.2)).map fun l=>.tup (l.map .str))))) none)=some (.nx (dlo rows C fd b W true (some (.leaf (.lst ([bg].map fun l=>.tup (l.map .str))))) none)):=by
    have cc:bw (ap 0) y35 (vL 0) [none,some (.leaf (.lst (W.map dI)))] ([bg].map fun l=>Dt.tup (l.map .str))=some ([bg].map fun l=>.tup (l.map .str)):=b8 fun l _=>⟨[some (.leaf (.tup (l.map .str))),some (.leaf (.lst (W.map dI)))],rfl,by unfold y35;exact cH (az (t:=.leaf (dI 0)) ((bx (x:=.lst (W.map dI)) (y:=.int 0) rfl rfl).trans hw)) (y:=.int 0) rfl rfl,rfl⟩
    show aE 6 _ _=_;unfold aE toT;rw [az (dg (src:=[none,some 4]) (ds:=[bg].map fun l=>Dt.tup (l.map .str)) (by subst hC;rfl) cc (by simp))];rfl
   rw [s3,bh];exact lz L.way L.out hn hl
 . obtain ⟨k,hk,rfl⟩:=qd2.mp hp
   have fe:ks.filter (fun q=>decide ((q.1:Int)=(k.1:Int)))=[k]:=by
    have key:∀ l:List (Nat×List Str),(l.map (·.1)).Nodup->k∈l->l.filter (fun q=>decide ((q.1:Int)=(k.1:Int)))=[k]:=fun l=>by
     induction l with
     | nil=>intro _ h;cases h
     | cons a l ih =>
      intro O Z;rw [qa5,qh3] at O;rcases qa6.mp Z with rfl | Z
      . rw [qs2 (by simp),zb2.mpr fun q hq z=>O.1 (qd2.mpr ⟨q,hq,by have:=of_decide_eq_true z;lia⟩)]
      . rw [qs3 (fun z=>O.1 (qd2.mpr ⟨k,Z,by have:=of_decide_eq_true z;lia⟩)),ih O.2 Z]
    exact key ks O hk
   rw [fe];show im (some (.nx (dlo rows C fd b W false (some (.leaf (.lst ([k.2].map fun l=>.tup (l.map .str))))) none))) _=_;rw [bh];exact lz L.way L.out hn hl
theorem xL (a n:Nat) (h:a<=n) (q:n<=1000000):oD [dI a,.int n]=some (((qc0 (n-a)).map fun k=>a+k).map dI):=by
 show oD [.int a,.int n]=_;unfold oD;have h1:fK (a:Int)=true:=by unfold fK;simp;lia
 have h2:fK (n:Int)=true:=by unfold fK;simp;lia
 dsimp only;rw [h1,h2,qz4,if_pos rfl];unfold di dI;rw [show ((n:Int)-a).toNat=n-a by lia,qc9];rfl
def bkL (rows:List Rw) (q:Nat):List Nat:=((qc0 (rows.length-q)).map fun k=>q+k).filter fun k=>decide (q∈gT rows k)
theorem Bn (q:j∈gT rows i) (h:j<=i) (hi:i<rows.length):bkL rows j≠[]:=fun z=>by have:i∈bkL rows j:=qf2.mpr ⟨qd2.mpr ⟨i-j,qd0.mpr (by lia),by lia⟩,decide_eq_true q⟩;rw [z] at this;cases this
theorem xM (rows:List Rw) (a:Nat):bw (ap 0) q42 (vL 0) [none,some (.leaf (dR rows)),some (.leaf (dI a))] (((qc0 (rows.length-a)).map fun k=>a+k).map dI)=some ((bkL rows a).map dI):=
 cG fun k Y=>⟨[some (.leaf (dI k)),some (.leaf (dR rows)),some (.leaf (dI a))],rfl,by
  obtain ⟨d,O,rfl⟩:=qd2.mp Y;have O:=qd0.mp O;have q:rows[a+d]?=some (rows[a+d]'(by lia)):=by simp
  unfold q42;refine (cH (x:=dI a) rfl (az ((cC (x:=dR rows) (y:=dI (a+d)) rfl rfl).trans (jZ rows _ _ q))) gIn_ints).trans ?_;rw [qy q];rfl,fun _=>rfl⟩
theorem pz (e:Bool) {acc:List Nat} {a:Nat} (x4:Option T) (O:rows[a]?=some r) (hn:rows.length<=1000) (hl:acc.length<=1000) :
  ∃ y4,y41 [some (.leaf (dR rows)),some (.leaf (.bl e)),some (.lst (acc.map dI)),some (.leaf (dI a)),x4]=some (.nx [some (.leaf (dR rows)),some (.leaf (.bl e)),some (.lst ((acc++if (e||(fnB r||!decide (bkL rows a=[])))=true then [a] else []).map dI)),some (.leaf (dI a)),y4]):=by
 have ha:=(gX O).1;refine ⟨some (.leaf (.lst ((bkL rows a).map dI))),?_⟩
 have s1:aE 4 (toT (toD (bj [none,some 0,some 3] (ej oD (ab (vL 3) (ab (toD (ao cR (ab (vB 0) ak))) ak))) (ap 0) q42 (vL 0)))) [some (.leaf (dR rows)),some (.leaf (.bl e)),some (.lst (acc.map dI)),some (.leaf (dI a)),x4]=some (.nx [some (.leaf (dR rows)),some (.leaf (.bl e)),some (.lst (acc.map dI)),some (.leaf (dI a)),some (.leaf (.lst ((bkL rows a).map dI)))]):=by
  unfold aE toT
  rw [az (dg (src:=[none,some 0,some 3]) (ds:=((qc0 (rows.length-a)).map fun k=>a+k).map dI) (by
   unfold dR;walk_at "k";rw [qa1,xL a _ (by lia) (by lia)]) (xM rows a) (by
   rw [qa1];exact qc4 (qe8 _ _) (by simp;lia)))]
  rfl
 generalize hδ:[some (T.leaf (dR rows)),some (.leaf (.bl e)),some (.lst (acc.map dI)),some (.leaf (dI a)),some (.leaf (.lst ((bkL rows a).map dI)))]=δ at s1;have Y:toD (d2 ax (vB 0) (vB 3)) δ=some r.d:=az (t:=.leaf r.d) ((bx (x:=dR rows) (y:=dI a) (by rw [<- hδ];rfl) (by rw [<- hδ];rfl)).trans (ir O))
 obtain ⟨q,k1,Z⟩:∃ q:Str,ax r.d (.int 0)=some (.leaf (.str q))/\decide (q="end")=fnB r:=by cases r<;>exact ⟨_,rfl,by kernel_rfl⟩
 have c2:tB2 (gEq false) (toD (d2 ax (toD (d2 ax (vB 0) (vB 3))) (kD (.int 0)))) (kD (.str "end")) δ=some (fnB r):=cH (az (t:=.leaf (.str q)) ((bx Y (y:=.int 0) rfl).trans k1)) (y:=.str "end") rfl (by rw [<- Z];exact pb);have c3:=cH (δ:=δ) (fa:=vB 4) (fb:=toD (cy ak)) (x:=.lst ((bkL rows a).map dI)) (y:=.lst []) (by rw [<- hδ];rfl) rfl (nQ (neg:=true));have c4:cN (vB 1) δ=some e:=by rw [<- hδ];cases e<;>rfl
 unfold y41;rw [bW,s1,bh,iX,orE c4 (orE c2 c3)];simp only [if_true];cases hc:(e||(fnB r||!decide (bkL rows a=[]))) with
 | true =>rw [l8,ld (l:=acc.map dI) (by rw [<- hδ];rfl),show vL 3 δ=some (dI a) by rw [<- hδ];rfl,qa3,gq (by rw [qa1];lia),<- hδ];simp
 | false =>rw [l9,<- hδ];simp [bC]
def plB (e:Bool) (rows:List Rw) (a:Nat):Bool:=match rows[a]? with
 | some r=>e||(fnB r||!decide (bkL rows a=[]))
 | none=>false
theorem nR (e:Bool) (hn:rows.length<=100):∀ (js acc:List Nat) (x3 x4:Option T),(∀ j∈js,j<rows.length)->acc.length+js.length<=1000→
  ∃ y3 O,ca (ap 3) y41 (js.map dI) [some (.leaf (dR rows)),some (.leaf (.bl e)),some (.lst (acc.map dI)),x3,x4]=some (.nx [some (.leaf (dR rows)),some (.leaf (.bl e)),some (.lst ((acc++js.filter (plB e rows)).map dI)),y3,O])
 | [],acc,x3,x4,_,_=>⟨x3,x4,by simp [ca]⟩
 | j::js,acc,x3,x4,hj,hl=>by
  have q:=hj j (.head _);have Y:rows[j]?=some rows[j]:=by simp [q]
  rw [qg7] at hl;obtain ⟨O,e1⟩:=pz e (acc:=acc) x4 Y (by lia) (by lia);obtain ⟨z3,z4,e2⟩:=nR e hn js (acc++if (e||(fnB rows[j]||!decide (bkL rows j=[])))=true then [j] else []) (some (.leaf (dI j))) O (fun k hk=>hj k (.tail _ hk)) (by split<;>simp<;>lia);refine ⟨z3,z4,?_⟩;rw [qa5,bI (δ1:=[some (.leaf (dR rows)),some (.leaf (.bl e)),some (.lst (acc.map dI)),some (.leaf (dI j)),x4]) rfl e1,e2]
  have:plB e rows j=(e||(fnB rows[j]||!decide (bkL rows j=[]))):=by unfold plB;rw [Y]
  cases Z:(e||(fnB rows[j]||!decide (bkL rows j=[]))) with
  | true=>rw [qs2 (this.trans Z)];simp
  | false=>rw [qs3 (by rw [this,Z];simp)];simp
theorem si (e:Bool) (hn:rows.length<=100) (hO:∀ (i:Nat) (r:Rw) (j:Nat),rows[i]?=some r->j∈r.outs i->j<rows.length) :
  ∃ P:List Nat,z24 [dR rows,.bl e]=some (.lst (P.map dI))/\P.Nodup/\P.length<=100/\(∀ a∈P,a<rows.length)/\(∀ (i:Nat) (r:Rw),rows[i]?=some r->fnB r=true->i∈P)/\∀ (i j:Nat),j∈gT rows i->j<=i->j∈P:=by
 have nd:((qc0 rows.length).filter (plB e rows)).Nodup:=List.nodup_range.sublist qn5;have hl:=qe8 (plB e rows) (qc0 rows.length);obtain ⟨y3,y4,eg⟩:=nR e hn (qc0 rows.length) [] none none (fun j O=>qd0.mp O) (by simp;lia);refine ⟨(qc0 rows.length).filter (plB e rows),?_,nd,by simp at hl;lia,fun a ha=>qd0.mp (qf2.mp ha).1,fun i r Z hf=>?_,fun i j O h=>?_⟩
 . unfold z24;rw [uQ];show pe (ay _ _ [some (.leaf (dR rows)),some (.leaf (.bl e)),none,none,none])=_;rw [bW,show aE 2 (cy ak) [some (.leaf (dR rows)),some (.leaf (.bl e)),none,none,none]=some (.nx [some (.leaf (dR rows)),some (.leaf (.bl e)),some (.lst []),none,none]) from rfl,bh,bW]
   have c5:ej gJ (ab (toD (ao cR (ab (vB 0) ak))) ak) [some (.leaf (dR rows)),some (.leaf (.bl e)),some (.lst []),none,none]=some ((qc0 rows.length).map dI):=by unfold dR;walk_at "k";rw [qa1,j3 _ (by lia)]
   unfold dZ;rw [c5,qa3];rw [show ([]:List Dt)=([]:List Nat).map dI from rfl,eg,bh,qo8];rfl
 . refine qf2.mpr ⟨qd0.mpr (gX Z).1,?_⟩;unfold plB;rw [Z];simp [hf]
 . have hi:i<rows.length:=by
    unfold gT at O;cases q:rows[i]? with
    | none=>rw [q] at O;cases O
    | some r=>exact (gX q).1
   have Y:j<rows.length:=by lia
   refine qf2.mpr ⟨qd0.mpr Y,?_⟩;unfold plB;rw [show rows[j]?=some rows[j] by simp [Y]];simp [Bn O h hi]
theorem vk (l:List Str) (lo hi:Option Int):∃ m:List Str,gSl (.lst (l.map .str)) lo hi=some (.lst (m.map .str))/\m.length<=l.length:=by
 refine ⟨(l.drop (HT.sIx (l.map Dt.str).length 0 lo)).take (HT.sIx (l.map Dt.str).length (l.map Dt.str).length hi-HT.sIx (l.map Dt.str).length 0 lo),?_,?_⟩
 . show some (T.lst (lS (l.map Dt.str) lo hi))=_;unfold lS;rw [List.map_take,List.map_drop]
 . simp;lia
theorem Bo {fa:De->Option Dt} {q O:De->Option (Option Int)} {x:Dt} {l h:Option Int} (h1:fa δ=some x) (h2:q δ=some l) (h3:O δ=some h):vSl fa q O δ=gSl x l h:=by unfold vSl;rw [h1,h2,h3];rfl
variable {f:De->Option Dt}
theorem vm {k:Int} (h:f δ=some (.int k)):e8 f δ=some (some k):=by unfold e8;rw [h];rfl
theorem Bp (q:l.length<64) (h:f δ=some (.lst (l.map .str))):ao dy (ab (toD (ao eS (ab f ak))) ak) δ=some (.leaf (.tup ((dn l).map .str))):=(cB (az ((cB h).trans (pi q)))).trans rfl
theorem nS (c:Int) {B:List Str} (h0:0<B.length) (hB:B.length<64):∃ l:List Str,q17 [.int c,.lst (B.map .str)]=some (.leaf (.tup (l.map .str))):=by
 have Y:toD (d2 bc (vB 0) (kD (.int 4))) [some (.leaf (.int c)),some (.leaf (.lst (B.map .str)))]=some (.int (c/4)):=az (t:=.leaf _) ((bx (x:=.int c) (y:=.int 4) rfl rfl).trans (ev (by decide) (by decide)));have q:∀ k:Int,tB2 (gEq false) (toD (d2 bE (vB 0) (kD (.int 4)))) (kD (.int k)) [some (.leaf (.int c)),some (.leaf (.lst (B.map .str)))]=some (decide (c%4=k)):=fun k=>cH (x:=.int (c%4)) (y:=.int k) rfl rfl o9
 have O:toD (ao cR (ab (vB 1) ak)) [some (.leaf (.int c)),some (.leaf (.lst (B.map .str)))]=some (.int (B.length:Nat)):=by refine az (t:=.leaf _) ((cB (x:=.lst (B.map .str)) rfl).trans ?_);show some (T.leaf (.int ((B.map Dt.str).length:Nat)))=_;rw [qa1]
 unfold q17;by_cases z:c%4=0
 . obtain ⟨m,e,hm⟩:=vk B none (some (c/4%((B.length:Int)+1)));refine ⟨dn m,dRt (lm ((q 0).trans (by rw [decide_eq_true z])) (bv (Bp (by lia) ?_)))⟩
   have c1:toD (d2 bE (toD (d2 bc (vB 0) (kD (.int 4)))) (toD (d2 cJ (toD (ao cR (ab (vB 1) ak))) (kD (.int 1))))) [some (.leaf (.int c)),some (.leaf (.lst (B.map .str)))]=some (.int (c/4%((B.length:Int)+1))):=by refine az (t:=.leaf _) ((bx Y (az (t:=.leaf (.int ((B.length:Int)+1))) ((bx O (y:=.int 1) rfl).trans rfl))).trans ?_);exact if_pos (by lia)
   exact az (t:=.lst (m.map .str)) ((Bo (x:=.lst (B.map .str)) (l:=none) rfl rfl (vm c1)).trans e)
 . refine (?_:∃ l:List Str,_);by_cases Z:c%4=1
   . obtain ⟨x,hx,ex⟩:=xz h0 (c/4)
     have cc:bw (ap 0) q58 (vL 0) [none,some (.leaf (.int c)),some (.leaf (.lst (B.map .str)))] (B.map .str)=some ((B.filter fun b=>!decide (b=x)).map .str):=cG fun b _=>⟨[some (.leaf (.str b)),some (.leaf (.int c)),some (.leaf (.lst (B.map .str)))],rfl,by
      unfold q58;have Y:toD (d2 bc (vB 1) (kD (.int 4))) [some (.leaf (.str b)),some (.leaf (.int c)),some (.leaf (.lst (B.map .str)))]=some (.int (c/4)):=az (t:=.leaf _) ((bx (x:=.int c) (y:=.int 4) rfl rfl).trans (ev (by decide) (by decide)))
      have O:toD (ao cR (ab (vB 2) ak)) [some (.leaf (.str b)),some (.leaf (.int c)),some (.leaf (.lst (B.map .str)))]=some (.int (B.length:Nat)):=by refine az (t:=.leaf _) ((cB (x:=.lst (B.map .str)) rfl).trans ?_);show some (T.leaf (.int ((B.map Dt.str).length:Nat)))=_;rw [qa1]
      have m1:=az (t:=.leaf (.int (c/4%(B.length:Int)))) ((bx (g:=bE) Y O).trans (if_pos (by lia)));exact cH (x:=.str b) rfl (az (t:=.leaf (.str x)) ((bx (x:=.lst (B.map .str)) rfl m1).trans (by show ax (.lst (B.map .str)) (.int (c/4%(B.length:Int)))=_;rw [il,ex];rfl))) (o8 (b:=decide (b=x)) rfl),fun _=>rfl⟩
     have hl:=qe8 (fun b=>!decide (b=x)) B;exact ⟨_,dRt ((iq ((q 0).trans (by rw [decide_eq_false z]))).trans (lm ((q 1).trans (by rw [decide_eq_true Z])) (bv (Bp (by lia) (az (dg (src:=[none,some 0,some 1]) (fi:=fIt (vB 1)) (ds:=B.map .str) rfl cc (by rw [qa1];lia)))))))⟩
   . exact ⟨_,dRt ((iq ((q 0).trans (by rw [decide_eq_false z]))).trans ((iq ((q 1).trans (by rw [decide_eq_false Z]))).trans (bv (Bp hB rfl))))⟩
structure Inp (cs ss:List Hd) (rows:List Rw) (B:List Str) (ks:List (Nat×List Str)):Prop where
 P:Prg B rows
 hb:B.length<=12
 hh:cs.length+ss.length<=1000
 ht:∀ h∈cs++ss,h.b=true
 hk:∀ k∈ks,k.1<rows.length
 hkl:ks.length<=900
 nd:(ks.map (·.1)).Nodup
 ends:∀ (i:Nat) (r:Rw),rows[i]?=some r->fnB r=true->i∈ks.map (·.1)
 back:∀ (i j:Nat),j∈gT rows i->j<=i->j∈ks.map (·.1)
theorem nT {cs ss:List Hd} {rows:List Rw} {B:List Str} {ks:List (Nat×List Str)} (I:Inp cs ss rows B ks) {d:Dt} (h:y23 [pgD cs ss rows,kcD (.tup (bg.map .str)) ks]=some (.leaf d)):z33 [pgD cs ss rows,kcD (.tup (bg.map .str)) ks]=some (.leaf d):=by
 have hn:=I.P.l1;have O:=I.hkl;have Y:z40 [pgD cs ss rows,kcD (.tup (bg.map .str)) ks]=some (.leaf .non):=Bf (c:=.tup (cs.map hdD)) (s:=.tup (ss.map hdD)) (b:=.tup (bg.map .str)) (rows:=rows) (ks:=ks) (by lia) I.ends;have Z:q34 [pgD cs ss rows,kcD (.tup (bg.map .str)) ks]=some (.leaf .non):=xq (c:=.tup (cs.map hdD)) (s:=.tup (ss.map hdD)) (b:=.tup (bg.map .str)) (rows:=rows) (ks:=ks) (by lia) (by lia) I.back;have es:q31 [pgD cs ss rows,kcD (.tup (bg.map .str)) ks]=some (.leaf .non):=u4 (cs:=cs) (ss:=ss) (R:=dR rows) (c:=kcD (.tup (bg.map .str)) ks) I.hh I.ht;generalize pgD cs ss rows=P at*
 generalize kcD (.tup (bg.map .str)) ks=C at*
 have st:∀ (F:List Dt->Option T) (d:Dt) (x:Option T),F [P,C]=some (.leaf d)->aE 2 (toT (toD (ao F (ab (vL 0) (ab (vL 1) ak))))) [some (.leaf P),some (.leaf C),x]=some (.nx [some (.leaf P),some (.leaf C),some (.leaf d)]):=fun F d x h=>by unfold aE toT;rw [az ((cC (x:=P) (y:=C) rfl rfl).trans h)];rfl
 have q:∀ g:De->Option Out,sIf (tB2 (gIs false) (vB 2) (kD .non)) g bC [some (.leaf P),some (.leaf C),some (.leaf .non)]=g [some (.leaf P),some (.leaf C),some (.leaf .non)]:=fun g=>rfl
 unfold z33;refine dRt ?_;show ay _ _ [some (.leaf P),some (.leaf C),none]=_;rw [bW,st _ _ _ Y,bh,bW,q,st _ _ _ Z,bh,bW,q,st _ _ _ es,bh,bW,q,st _ _ _ h,bh];rfl
theorem nU {P d:Dt} (h:z33 [P,C]=some (.leaf d)) (q:gIs false d .non=some (.leaf (.bl bo))):q40 [P,C]=some (.leaf (.bl bo)):=by unfold q40;exact dRt (bv ((bx (az ((cC (x:=P) (y:=C) rfl rfl).trans h)) (y:=.non) rfl).trans q))
noncomputable def lwE:De->Option Out:=(ay (aE 11 (toT (toD (ao z33 (ab (vL 5) (ab (vL 10) ak))))))
  (ay (sIf (ei (cN (toD (ao y20 (ab (vL 3) (ab (vL 10) (ab (vL 6) ak))))))) (bi (mK (toD (d2 (gIs false) (vB 11) (kD .non))) (d2 (mZ false) (toD (ao q40 (ab (vL 5) (ab (vL 10) ak)))) (kD (.bl true))))) bC)
  (ay (sIf (fOr (ei (cN (toD (eL "tuple" (vB 11))))) (fOr (tB2 (gEq true) (toD (d2 ax (vB 11) (kD (.int 0)))) (kD (.str "lost"))) (ei (cN (toD (ao q22 (ab (vL 3) (ab (vL 10) (ab (vL 11) ak))))))))) cT bC)
  (bi (d2 (mZ false) (toD (ao q40 (ab (vL 5) (ab (vL 10) ak)))) (kD (.bl false)))))))
theorem nV {F:List Dt->Option T} {g h:De->Option Dt} {x y z:Dt} (h1:f δ=some x) (h2:g δ=some y) (h3:h δ=some z):ao F (ab f (ab g (ab h ak))) δ=F [x,y,z]:=by unfold ao;rw [aL h1 (aL h2 (aL h3 (show ak δ=some [] from rfl)))];rfl
variable {cs ss:List Hd}
theorem Bq {B bg:List Str} {ks:List (Nat×List Str)} (I:Inp cs ss rows B ks) (x0 x1 x2 x4 x7 x8 x9:Option T):lwE [x0,x1,x2,some (.leaf (dR rows)),x4,some (.leaf (pgD cs ss rows)),some (.leaf (.lst (B.map .str))),x7,x8,x9,some (.leaf (kcD (.tup (bg.map .str)) ks)),none]=some (.rt (.leaf (.bl true))):=by
 have hn:=I.P.l1;obtain ⟨found,en,F,fx⟩:=pp (c:=.tup (cs.map hdD)) (s:=.tup (ss.map hdD)) I.P.hB I.P.hO I.hb (by lia);obtain ⟨bo,el,O⟩:=vh (by lia) I.P.l0 I.P.hO B (by have:=I.hb;lia) bg ks I.hk I.hkl
 have Z:∀ p∈kj bg ks,p.1<rows.length/\(p.1,p.2.1)∈(0,bg)::ks:=fun p hp=>by
  rcases qa6.mp hp with rfl | hp
  . exact ⟨I.P.l0,.head _⟩
  . obtain ⟨k,Y,rfl⟩:=qd2.mp hp;exact ⟨I.hk k Y,.tail _ Y⟩
 have go:∀ d,z33 [pgD cs ss rows,kcD (.tup (bg.map .str)) ks]=some (.leaf d)->∀ r,(ay (sIf (ei (cN (toD (ao y20 (ab (vL 3) (ab (vL 10) (ab (vL 6) ak))))))) (bi (mK (toD (d2 (gIs false) (vB 11) (kD .non))) (d2 (mZ false) (toD (ao q40 (ab (vL 5) (ab (vL 10) ak)))) (kD (.bl true))))) bC)
  (ay (sIf (fOr (ei (cN (toD (eL "tuple" (vB 11))))) (fOr (tB2 (gEq true) (toD (d2 ax (vB 11) (kD (.int 0)))) (kD (.str "lost"))) (ei (cN (toD (ao q22 (ab (vL 3) (ab (vL 10) (ab (vL 11) ak))))))))) cT bC)
  (bi (d2 (mZ false) (toD (ao q40 (ab (vL 5) (ab (vL 10) ak)))) (kD (.bl false)))))) [x0,x1,x2,some (.leaf (dR rows)),x4,some (.leaf (pgD cs ss rows)),some (.leaf (.lst (B.map .str))),x7,x8,x9,some (.leaf (kcD (.tup (bg.map .str)) ks)),some (.leaf d)]=r->lwE [x0,x1,x2,some (.leaf (dR rows)),x4,some (.leaf (pgD cs ss rows)),some (.leaf (.lst (B.map .str))),x7,x8,x9,some (.leaf (kcD (.tup (bg.map .str)) ks)),none]=r:=fun d hd r hr=>by
  unfold lwE
  rw [bW,show aE 11 (toT (toD (ao z33 (ab (vL 5) (ab (vL 10) ak))))) [x0,x1,x2,some (.leaf (dR rows)),x4,some (.leaf (pgD cs ss rows)),some (.leaf (.lst (B.map .str))),x7,x8,x9,some (.leaf (kcD (.tup (bg.map .str)) ks)),none]=some (.nx [x0,x1,x2,some (.leaf (dR rows)),x4,some (.leaf (pgD cs ss rows)),some (.leaf (.lst (B.map .str))),x7,x8,x9,some (.leaf (kcD (.tup (bg.map .str)) ks)),some (.leaf d)]) by unfold aE toT;rw [az ((cC (x:=pgD cs ss rows) (y:=kcD (.tup (bg.map .str)) ks) rfl rfl).trans hd)];rfl,bh]
  exact hr
 have tl:∀ d,ei (cN (toD (ao y20 (ab (vL 3) (ab (vL 10) (ab (vL 6) ak)))))) [x0,x1,x2,some (.leaf (dR rows)),x4,some (.leaf (pgD cs ss rows)),some (.leaf (.lst (B.map .str))),x7,x8,x9,some (.leaf (kcD (.tup (bg.map .str)) ks)),some (.leaf d)]=some (!bo):=fun d=>by unfold ei cN;rw [az ((nV (x:=dR rows) (y:=kcD (.tup (bg.map .str)) ks) (z:=.lst (B.map .str)) rfl rfl rfl).trans el)];rfl
 rcases xI (c:=.tup (cs.map hdD)) (s:=.tup (ss.map hdD)) (bg:=bg) F en (by lia) I.P.l0 I.P.hO I.hk I.hkl with ⟨e,h⟩ | ⟨p,hp,b,W,⟨l,hl,hb⟩,L,e⟩
 . have ef:=nT I (d:=.non) e;have eh:=nU ef (bo:=true) rfl
   have:bo=false:=by
    cases q:bo with
    | false=>rfl
    | true =>
     exfalso;obtain ⟨k,hk,b,hbB,hb,hN⟩:=O.mp q
     have hkk:∃ p∈kj bg ks,p.1=k.1/\p.2.1=k.2:=by
      rcases qa6.mp hk with rfl | hk
      . exact ⟨_,.head _,rfl,rfl⟩
      . exact ⟨_,.tail _ (qd2.mpr ⟨k,hk,rfl⟩),rfl,rfl⟩
     obtain ⟨p,hp,p1,p2⟩:=hkk;have hlt:=(Z p hp).1;have hlf:found[p.1]?=some (found[p.1]'(by rw [F.len];exact hlt)):=by simp
     refine hb (p2▸h p hp _ hlf b ?_);rw [F.iff fx I.P.hO hlf];exact p1▸hN
   subst this;refine go .non ef _ (lm (tl .non) (bv ?_));show mK _ _ _=_;unfold mK;rw [show toD (d2 (gIs false) (vB 11) (kD .non)) [x0,x1,x2,some (.leaf (dR rows)),x4,some (.leaf (pgD cs ss rows)),some (.leaf (.lst (B.map .str))),x7,x8,x9,some (.leaf (kcD (.tup (bg.map .str)) ks)),some (.leaf .non)]=some (.bl true) from rfl];exact (bx (az ((cC (x:=pgD cs ss rows) (y:=kcD (.tup (bg.map .str)) ks) rfl rfl).trans eh)) (y:=.bl true) rfl).trans rfl
 . have ef:=nT I (d:=lsD b W p.2.2) e;have eh:=nU ef (bo:=false) rfl;have hN:Needs rows p.1 b:=F.nd p.1 l b hl hb;have:bo=true:=O.mpr ⟨_,(Z p hp).2,b,F.sub p.1 l b hl hb,L.out,hN⟩;subst this;refine go _ ef _ ((iq (tl _)).trans ((iq ?_).trans (bv ((bx (az ((cC (x:=pgD cs ss rows) (y:=kcD (.tup (bg.map .str)) ks) rfl rfl).trans eh)) (y:=.bl false) rfl).trans rfl))));refine orE (a:=false) rfl (orE (a:=false) rfl ?_);unfold ei cN;rw [az ((nV (x:=dR rows) (y:=kcD (.tup (bg.map .str)) ks) (z:=lsD b W p.2.2) rfl rfl rfl).trans (px (by lia) I.hkl I.nd hp L))];rfl
def up (h:Hd):Hd:=⟨h.x,h.n,true⟩
theorem xN (cs:List Hd):bw (ap 0) bN q110 [none] (cs.map hdD)=some ((cs.map up).map hdD):=by rw [b8 (h:=fun h:Hd=>hdD (up h)) fun h _=>⟨[some (.leaf (hdD h))],rfl,rfl,rfl⟩,qc9];rfl
theorem Br (cs:List Hd) (h:cs.length<=100):q78 [some (.leaf (.tup (cs.map hdD)))]=some (.tup ((cs.map up).map hdD)):=by unfold q78;have e:=az (dg (src:=[none]) (fi:=fIt (vB 0)) (δ:=[some (.leaf (.tup (cs.map hdD)))]) rfl (xN cs) (by simp;lia));exact az (t:=.leaf (.tup ((cs.map up).map hdD))) ((cB e).trans rfl)
def dw (ns:List Int) (x1 x2 x3 x4 x5 x6 x7 x8 x9 x10 x11:Option T):De:=[some (.leaf (.lst (ns.map .int))),x1,x2,x3,x4,x5,x6,x7,x8,x9,x10,x11]
section
variable {ns:List Int} {x1 x2 x3 x4 x5 x6 x7 x8 x9 x10 x11:Option T}
theorem cel {c:Int} (k:Nat) (h:c=(k:Int)):toD (ao y1 (ab (vL 0) (ab (kD (.int c)) ak))) (dw ns x1 x2 x3 x4 x5 x6 x7 x8 x9 x10 x11)=some (.int (ns.getD k 0)):=by subst h;exact az (t:=.leaf _) ((cC (x:=.lst (ns.map .int)) (y:=.int k) rfl rfl).trans (gr ns k))
theorem sj {B:List Str} (Y:0<B.length) (hB:B.length<64) (acc:List (Nat×List Str)) (hl:acc.length<=1000) (a:Nat):∃ (l:List Str) (y9:Option T),z78 (dw ns x1 x2 x3 x4 x5 (some (.leaf (.lst (B.map .str)))) (some (.lst (acc.map kpD))) (some (.leaf (dI a))) x9 x10 x11)=some (.nx (dw ns x1 x2 x3 x4 x5 (some (.leaf (.lst (B.map .str)))) (some (.lst ((acc++[(a,l)]).map kpD))) (some (.leaf (dI a))) y9 x10 x11)):=by
 obtain ⟨l,el⟩:=nS ((ns.getD 5 0/3+7919*(a:Int))*69621%2147483629/5) Y hB;refine ⟨l,some (.leaf (.int ((ns.getD 5 0/3+7919*(a:Int))*69621%2147483629))),?_⟩
 have s1:aE 9 (toT (toD (d2 bE (toD (d2 f6 (toD (d2 cJ (toD (d2 bc (toD (ao y1 (ab (vL 0) (ab (kD (.int 5)) ak)))) (kD (.int 3)))) (toD (d2 f6 (kD (.int 7919)) (vB 8))))) (kD (.int 69621)))) (kD (.int 2147483629))))) (dw ns x1 x2 x3 x4 x5 (some (.leaf (.lst (B.map .str)))) (some (.lst (acc.map kpD))) (some (.leaf (dI a))) x9 x10 x11)=some (.nx (dw ns x1 x2 x3 x4 x5 (some (.leaf (.lst (B.map .str)))) (some (.lst (acc.map kpD))) (some (.leaf (dI a))) (some (.leaf (.int ((ns.getD 5 0/3+7919*(a:Int))*69621%2147483629)))) x10 x11)):=by unfold aE toT;have c5:=cel (ns:=ns) (x1:=x1) (x2:=x2) (x3:=x3) (x4:=x4) (x5:=x5) (x6:=some (.leaf (.lst (B.map .str)))) (x7:=some (.lst (acc.map kpD))) (x8:=some (.leaf (dI a))) (x9:=x9) (x10:=x10) (x11:=x11) (c:=5) 5 rfl;have d3:=az ((bx (g:=bc) c5 (fb:=kD (.int 3)) (y:=.int 3) rfl).trans (ev (by decide) (by decide)));have m1:=az ((bx (g:=f6) (fa:=kD (.int 7919)) (fb:=vB 8) (δ:=dw ns x1 x2 x3 x4 x5 (some (.leaf (.lst (B.map .str)))) (some (.lst (acc.map kpD))) (some (.leaf (dI a))) x9 x10 x11) (x:=.int 7919) (y:=.int a) rfl rfl).trans (AH (by decide) (by decide)));have Z:=az ((bx (g:=cJ) d3 m1).trans uJ);have m2:=az ((bx (g:=f6) Z (fb:=kD (.int 69621)) (y:=.int 69621) rfl).trans (uP (by decide) (by decide)));have o1:=az ((bx (g:=bE) m2 (fb:=kD (.int 2147483629)) (y:=.int 2147483629) rfl).trans (eO (by decide)));rw [o1];rfl
 unfold z78;rw [bW,s1,bh,ld (l:=acc.map kpD) rfl];generalize hδ:dw ns x1 x2 x3 x4 x5 (some (.leaf (.lst (B.map .str)))) (some (.lst (acc.map kpD))) (some (.leaf (dI a))) (some (.leaf (.int ((ns.getD 5 0/3+7919*(a:Int))*69621%2147483629)))) x10 x11=δ;have d5:=az ((bx (g:=bc) (fa:=vB 9) (δ:=δ) (x:=.int ((ns.getD 5 0/3+7919*(a:Int))*69621%2147483629)) (by rw [<- hδ];rfl) (fb:=kD (.int 5)) (y:=.int 5) rfl).trans (ev (by decide) (by decide)));have q:=az ((cC (F:=q17) d5 (g:=vL 6) (y:=.lst (B.map .str)) (by rw [<- hδ];rfl)).trans el);have O:toD (cr (ab (vL 8) (ab (toD (ao q17 (ab (toD (d2 bc (vB 9) (kD (.int 5)))) (ab (vL 6) ak)))) ak))) δ=some (kpD (a,l)):=az (cu (aL (d:=dI a) (by rw [<- hδ];rfl) (aL q rfl)) (by simp));rw [O,qa3,gq (by rw [qa1];lia),<- hδ];simp [dw]
theorem qF {B:List Str} (O:0<B.length) (Y:B.length<64):∀ (js:List Nat) (acc:List (Nat×List Str)) (x8 x9:Option T),acc.length+js.length<=1000->∃ (ls:List (Nat×List Str)) (y8 q:Option T),ls.map (·.1)=js/\ca (ap 8) z78 (js.map dI) (dw ns x1 x2 x3 x4 x5 (some (.leaf (.lst (B.map .str)))) (some (.lst (acc.map kpD))) x8 x9 x10 x11)=some (.nx (dw ns x1 x2 x3 x4 x5 (some (.leaf (.lst (B.map .str)))) (some (.lst ((acc++ls).map kpD))) y8 q x10 x11))
 | [],acc,x8,x9,_=>⟨[],x8,x9,rfl,by rw [qk1];rfl⟩
 | j::js,acc,x8,x9,hl=>by rw [qg7] at hl;obtain ⟨l,q,Z⟩:=sj (ns:=ns) (x1:=x1) (x2:=x2) (x3:=x3) (x4:=x4) (x5:=x5) (x9:=x9) (x10:=x10) (x11:=x11) O Y acc (by lia) j;obtain ⟨ls,z8,z9,h1,e2⟩:=qF O Y js (acc++[(j,l)]) (some (.leaf (dI j))) q (by simp;lia);refine ⟨(j,l)::ls,z8,z9,by simp [h1],?_⟩;rw [qa5,bI (δ1:=dw ns x1 x2 x3 x4 x5 (some (.leaf (.lst (B.map .str)))) (some (.lst (acc.map kpD))) (some (.leaf (dI j))) x9 x10 x11) rfl Z,e2,qm7];rfl
end
theorem main (ns:List Int) (hns:ns.length<=63):qm [.lst (ns.map .int)]=some (.leaf (.bl true)):=by
 obtain ⟨ce,cc0,cc1⟩:=yS ns;obtain ⟨B,eB,hB,_⟩:=nK (ns.getD 0 0) (cnt ns) (by lia);obtain ⟨cs,ss,rows,ep,c0,c1,s1,G⟩:=xB ns eB hB;have g1:=G.l1;obtain ⟨P,eP,nd,hPl,hPn,Y,back⟩:=si (decide (ns.getD 5 0%3=0)) (rows:=rows) (by lia) G.hO;obtain ⟨bg,ebg⟩:=nS (ns.getD 5 0/12) (B:=B) (by lia) (by lia);unfold qm;refine dRt ?_;show ay _ _ (dw ns none none none none none none none none none none none)=_
 have t1:oC (toD (ao z27 (ab (vL 0) (ab (kD (.int 30)) ak)))) (d7 3 (aU (ap 1) (aU (ap 2) (aU (ap 3) d6)))) (dw ns none none none none none none none none none none none)=some (.nx (dw ns (some (.leaf (.tup (cs.map hdD)))) (some (.leaf (.tup (ss.map hdD)))) (some (.leaf (dR rows))) none none none none none none none none)):=by unfold oC;rw [az (t:=.leaf (pgD cs ss rows)) ((cC (x:=.lst (ns.map .int)) (y:=.int 30) rfl rfl).trans ep)];rfl
 have t2:aE 4 (toT (toD (bj [none] (fIt (toD (cr (ab (vL 1) (ab (vL 2) ak))))) (ap 0) bN q78))) (dw ns (some (.leaf (.tup (cs.map hdD)))) (some (.leaf (.tup (ss.map hdD)))) (some (.leaf (dR rows))) none none none none none none none none)=some (.nx (dw ns (some (.leaf (.tup (cs.map hdD)))) (some (.leaf (.tup (ss.map hdD)))) (some (.leaf (dR rows))) (some (.leaf (.lst [.tup ((cs.map up).map hdD),.tup ((ss.map up).map hdD)]))) none none none none none none none)):=by
  have e1:bw (ap 0) bN q78 [none] ([cs,ss].map fun l=>.tup (l.map hdD))=some ([cs,ss].map fun l=>.tup ((l.map up).map hdD)):=b8 fun l hl=>⟨[some (.leaf (.tup (l.map hdD)))],rfl,rfl,Br l (by simp at hl;rcases hl with rfl | rfl<;>lia)⟩
  unfold aE toT
  rw [az (dg (src:=[none]) (ds:=[cs,ss].map fun l=>Dt.tup (l.map hdD)) (by unfold fIt;rw [az (cu (ds:=[cs,ss].map fun l=>Dt.tup (l.map hdD)) rfl (by simp))];rfl) e1 (by simp))]
  rfl
 have t3:aE 5 (toT (toD (cr (ab (toD (d2 ax (vB 4) (kD (.int 0)))) (ab (toD (d2 ax (vB 4) (kD (.int 1)))) (ab (vL 3) ak)))))) (dw ns (some (.leaf (.tup (cs.map hdD)))) (some (.leaf (.tup (ss.map hdD)))) (some (.leaf (dR rows))) (some (.leaf (.lst [.tup ((cs.map up).map hdD),.tup ((ss.map up).map hdD)]))) none none none none none none none)=some (.nx (dw ns (some (.leaf (.tup (cs.map hdD)))) (some (.leaf (.tup (ss.map hdD)))) (some (.leaf (dR rows))) (some (.leaf (.lst [.tup ((cs.map up).map hdD),.tup ((ss.map up).map hdD)]))) (some (.leaf (pgD (cs.map up) (ss.map up) rows))) none none none none none none)):=rfl;rw [bW,t1,bh,bW,t2,bh,bW,t3,bh,bW];generalize (some (T.leaf (.tup (cs.map hdD))):Option T)=x1;generalize (some (T.leaf (.tup (ss.map hdD))):Option T)=x2;generalize (some (T.leaf (.lst [.tup ((cs.map up).map hdD),.tup ((ss.map up).map hdD)])):Option T)=x4
 have t4:aE 6 (toT (toD (ao q15 (ab (toD (ao y1 (ab (vL 0) (ab (kD (.int 0)) ak)))) (ab (toD (d2 cJ (kD (.int 2)) (toD (d2 bE (toD (d2 bc (toD (ao y1 (ab (vL 0) (ab (kD (.int 2)) ak)))) (kD (.int 4)))) (kD (.int 11)))))) ak))))) (dw ns x1 x2 (some (.leaf (dR rows))) x4 (some (.leaf (pgD (cs.map up) (ss.map up) rows))) none none none none none none)=some (.nx (dw ns x1 x2 (some (.leaf (dR rows))) x4 (some (.leaf (pgD (cs.map up) (ss.map up) rows))) (some (.leaf (.lst (B.map .str)))) none none none none none)):=by have a2:=cel (ns:=ns) (x1:=x1) (x2:=x2) (x3:=some (.leaf (dR rows))) (x4:=x4) (x5:=some (.leaf (pgD (cs.map up) (ss.map up) rows))) (x6:=none) (x7:=none) (x8:=none) (x9:=none) (x10:=none) (x11:=none) (c:=2) 2 rfl;have a3:=az ((bx (g:=cJ) (fa:=kD (.int 2)) (x:=.int 2) rfl (az ((bx (g:=bE) (az ((bx (g:=bc) a2 (fb:=kD (.int 4)) (y:=.int 4) rfl).trans (ev (by decide) (by decide)))) (fb:=kD (.int 11)) (y:=.int 11) rfl).trans (eO (by decide))))).trans uJ);rw [ce] at a3;unfold aE toT;rw [az ((cC (cel (c:=0) 0 rfl) a3).trans eB)];rfl
 have t5:aE 7 (cy ak) (dw ns x1 x2 (some (.leaf (dR rows))) x4 (some (.leaf (pgD (cs.map up) (ss.map up) rows))) (some (.leaf (.lst (B.map .str)))) none none none none none)=some (.nx (dw ns x1 x2 (some (.leaf (dR rows))) x4 (some (.leaf (pgD (cs.map up) (ss.map up) rows))) (some (.leaf (.lst (B.map .str)))) (some (.lst (([]:List (Nat×List Str)).map kpD))) none none none none)):=rfl;rw [t4,bh,bW,t5,bh,bW];obtain ⟨ks,Z,y9,O,eg⟩:=qF (ns:=ns) (x1:=x1) (x2:=x2) (x3:=some (.leaf (dR rows))) (x4:=x4) (x5:=some (.leaf (pgD (cs.map up) (ss.map up) rows))) (x10:=none) (x11:=none) (B:=B) (by lia) (by lia) P [] none none (by simp;lia);rw [qo8] at eg
 have t6:dZ (fIt (toD (ao z24 (ab (vL 3) (ab (toD (d2 (gEq false) (toD (d2 bE (toD (ao y1 (ab (vL 0) (ab (kD (.int 5)) ak)))) (kD (.int 3)))) (kD (.int 0)))) ak))))) (ap 8) z78 (dw ns x1 x2 (some (.leaf (dR rows))) x4 (some (.leaf (pgD (cs.map up) (ss.map up) rows))) (some (.leaf (.lst (B.map .str)))) (some (.lst (([]:List (Nat×List Str)).map kpD))) none none none none)=some (.nx (dw ns x1 x2 (some (.leaf (dR rows))) x4 (some (.leaf (pgD (cs.map up) (ss.map up) rows))) (some (.leaf (.lst (B.map .str)))) (some (.lst (ks.map kpD))) Z y9 none none)):=by have a5:=cel (ns:=ns) (x1:=x1) (x2:=x2) (x3:=some (.leaf (dR rows))) (x4:=x4) (x5:=some (.leaf (pgD (cs.map up) (ss.map up) rows))) (x6:=some (.leaf (.lst (B.map .str)))) (x7:=some (.lst (([]:List (Nat×List Str)).map kpD))) (x8:=none) (x9:=none) (x10:=none) (x11:=none) (c:=5) 5 rfl;have a6:=az ((bx (g:=gEq false) (az ((bx (g:=bE) a5 (fb:=kD (.int 3)) (y:=.int 3) rfl).trans (eO (by decide)))) (fb:=kD (.int 0)) (y:=.int 0) rfl).trans o9);unfold dZ fIt;rw [az ((cC (F:=z24) (f:=vL 3) (x:=dR rows) rfl a6).trans eP)];exact eg
 rw [t6,bh,bW]
 have t7:aE 10 (toT (toD (cr (ab (toD (ao q17 (ab (toD (d2 bc (toD (ao y1 (ab (vL 0) (ab (kD (.int 5)) ak)))) (kD (.int 12)))) (ab (vL 6) ak)))) (ab (toD (ao dy (ab (vB 7) ak))) ak))))) (dw ns x1 x2 (some (.leaf (dR rows))) x4 (some (.leaf (pgD (cs.map up) (ss.map up) rows))) (some (.leaf (.lst (B.map .str)))) (some (.lst (ks.map kpD))) Z y9 none none)=some (.nx (dw ns x1 x2 (some (.leaf (dR rows))) x4 (some (.leaf (pgD (cs.map up) (ss.map up) rows))) (some (.leaf (.lst (B.map .str)))) (some (.lst (ks.map kpD))) Z y9 (some (.leaf (kcD (.tup (bg.map .str)) ks))) none)):=by have a5:=cel (ns:=ns) (x1:=x1) (x2:=x2) (x3:=some (.leaf (dR rows))) (x4:=x4) (x5:=some (.leaf (pgD (cs.map up) (ss.map up) rows))) (x6:=some (.leaf (.lst (B.map .str)))) (x7:=some (.lst (ks.map kpD))) (x8:=Z) (x9:=y9) (x10:=none) (x11:=none) (c:=5) 5 rfl;have a6:=az ((bx (g:=bc) a5 (fb:=kD (.int 12)) (y:=.int 12) rfl).trans (ev (by decide) (by decide)));have a7:=az ((cC (F:=q17) a6 (g:=vL 6) (y:=.lst (B.map .str)) rfl).trans ebg);unfold aE toT;rw [az (cu (aL a7 (aL (d:=.tup (ks.map kpD)) (az (t:=.leaf (.tup (ks.map kpD))) ((cB (F:=dy) (x:=.lst (ks.map kpD)) rfl).trans rfl)) rfl)) (by simp))];rfl
 rw [t7,bh];have hkl:ks.length=P.length:=by rw [<- O,qa1]
 refine Bq (cs:=cs.map up) (ss:=ss.map up) (rows:=rows) (B:=B) (bg:=bg) (ks:=ks) ⟨G,by lia,by simp;lia,fun h hh=>?_,fun k hk=>?_,by lia,by rw [O];exact nd,by rw [O];exact Y,by rw [O];exact back⟩ _ _ _ _ _ _ _
 . rw [<- qg0] at hh;obtain ⟨q,_,rfl⟩:=qd2.mp hh;rfl
 . exact hPn k.1 (by rw [<- O];exact qd2.mpr ⟨k,hk,rfl⟩)
def mr (K:xA9):Sp:=fun vs H Q _=>∃ (a:Addr) (ns:List Int),vs=[.ref a]/\SqL K H a (ns.map V.int)/\ns.length<=63/\qc H/\∀ H',Q (.bl true) H'
variable {K:xA9}
theorem Bs {vs:List V} {H:Hp} {Q:VK} {E:XK} (h:mr K vs H Q E):spD K 1 qm vs H Q E:=by
 obtain ⟨a,ns,rfl,Y,O,Z,q⟩:=h;refine ⟨H,[.lst (ns.map .int)],.leaf (.bl true),Same.refl H,rfl,?_,main ns O,fun v H' F' S st o _=>?_⟩
 . simp only [Reps,Rep];exact ⟨_,[],rfl,⟨a,_,rfl,Y,Reps.map (fun _=>fw) ns⟩,rfl⟩
 . have o:Rep K F' (.bl true) v:=o;simp only [Rep] at o;subst o;exact q H'
variable {h:Heap}
theorem all_mk {l:xT9} {w:World} {mg:Str->Option Value} {fa:Addr} (X:K.In h) (G:h.Ns qb9 mg) (hfa:mg "law"=some (.ref fa))
 (a0:AtF K "_law_boxes" y19)
 (a1:AtF K "_law_cell_at" y26)
 (a2:AtF K "_law_exits" z42)
 (a3:AtF K "_law_read_by" q27)
 (a4:AtF K "_law_set_by" z37)
 (a5:AtF K "_law_whole" q23)
 (a6:AtF K "_law_is_lost" y2)
 (a7:AtF K "_law_is_needed" q13)
 (a8:AtF K "_law_lacks" y29)
 (a9:AtF K "_law_names" z34)
 (a10:AtF K "_law_places" q18)
 (a11:AtF K "_law_atom" q41)
 (a12:AtF K "_law_row" y36)
 (a13:AtF K "_law_program" z11)
 (a14:AtF K "kept_rows" y44)
 (a15:AtF K "end_fault" y32)
 (a16:AtF K "gives" q68)
 (a17:AtF K "atoms" y67)
 (a18:AtF K "reads" z50)
 (a19:AtF K "needed_ahead" z16)
 (a20:AtF K "ways_of" z59)
 (a21:AtF K "ways" fG)
 (a22:AtF K "needed" q36)
 (a23:AtF K "traced" z46)
 (a24:AtF K "route" z49)
 {cc25 Pt25:Addr} (a25:AtC K "way_to_reading" q5 cc25 Pt25) (hd25:xJ9 K cc25 Pt25=true) (to25:nW K "way_to_reading"=some (Pt25,mt "way_to_reading" (be q5)))
 (a26:AtF K "lost_fault" y28)
 (a27:AtF K "endless_rows" q16)
 (a28:AtF K "ring_fault" z17)
 (a29:AtF K "plain_names" q38)
 (a30:AtF K "spoil_fault" y30)
 (a31:AtF K "fault" q44)
 (a32:AtF K "holds" z66)
 (a33:AtF K "law" cZ)
 (z_all:xB9 K qb9 "all"=some none)
 (z_any:xB9 K qb9 "any"=some none)
 (z_bool:xB9 K qb9 "bool"=some none)
 (z_enumerate:xB9 K qb9 "enumerate"=some none)
 (z_int:xB9 K qb9 "int"=some none)
 (z_isinstance:xB9 K qb9 "isinstance"=some none)
 (z_len:xB9 K qb9 "len"=some none)
 (z_list:xB9 K qb9 "list"=some none)
 (z_range:xB9 K qb9 "range"=some none)
 (z_reversed:xB9 K qb9 "reversed"=some none)
 (z_set:xB9 K qb9 "set"=some none)
 (z_sorted:xB9 K qb9 "sorted"=some none)
 (z_str:xB9 K qb9 "str"=some none)
 (z_tuple:xB9 K qb9 "tuple"=some none)
 {d_A:Addr} {o_A:Obj} {m_A:Nat} {t0_A:Tok} {t1_A:Tok} {t2_A:Tok} {t3_A:Tok} {t4_A:Tok} {t5_A:Tok} {t6_A:Tok} {t7_A:Tok} {a0_A:Addr} {q:Addr} {a2_A:Addr} {O:Addr} {a4_A:Addr} {Z:Addr} {Y:Addr} {a7_A:Addr} (b_A:xB9 K qb9 "ATOM_PLACES"=some (some (.ref d_A))) (l_A:K.lookup d_A=some o_A) (e_A:o_A.ExactDict) (f_A:o_A.data=.dict #[⟨qj5 w.params "copy",.str "copy" t0_A,.ref a0_A⟩,⟨qj5 w.params "op",.str "op" t1_A,.ref q⟩,⟨qj5 w.params "store",.str "store" t2_A,.ref a2_A⟩,⟨qj5 w.params "take",.str "take" t3_A,.ref O⟩,⟨qj5 w.params "lay",.str "lay" t4_A,.ref a4_A⟩,⟨qj5 w.params "say",.str "say" t5_A,.ref Z⟩,⟨qj5 w.params "if",.str "if" t6_A,.ref Y⟩,⟨qj5 w.params "end",.str "end" t7_A,.ref a7_A⟩] m_A) (z_A:(d_A==qi2)=false)
 {o0_A:Obj} {i0_A:Array Value} {m0_A:Nat} (l0_A:K.lookup a0_A=some o0_A) (e0_A:o0_A.cls=.type "tuple") (f0_A:o0_A.data=.seq i0_A m0_A) (r0_A:Vals [V.int 2,V.int 3] i0_A.toList)
 {o1_A:Obj} {i1_A:Array Value} {m1_A:Nat} (l1_A:K.lookup q=some o1_A) (e1_A:o1_A.cls=.type "tuple") (f1_A:o1_A.data=.seq i1_A m1_A) (r1_A:Vals [V.int 3,V.int 5] i1_A.toList)
 {o2_A:Obj} {i2_A:Array Value} {m2_A:Nat} (l2_A:K.lookup a2_A=some o2_A) (e2_A:o2_A.cls=.type "tuple") (f2_A:o2_A.data=.seq i2_A m2_A) (r2_A:Vals [V.int 2,V.int 3] i2_A.toList)
 {o3_A:Obj} {i3_A:Array Value} {m3_A:Nat} (l3_A:K.lookup O=some o3_A) (e3_A:o3_A.cls=.type "tuple") (f3_A:o3_A.data=.seq i3_A m3_A) (r3_A:Vals [V.int 3,V.int 4] i3_A.toList)
 {o4_A:Obj} {i4_A:Array Value} {m4_A:Nat} (l4_A:K.lookup a4_A=some o4_A) (e4_A:o4_A.cls=.type "tuple") (f4_A:o4_A.data=.seq i4_A m4_A) (r4_A:Vals [V.int 2,V.int 4] i4_A.toList)
 {o5_A:Obj} {i5_A:Array Value} {m5_A:Nat} (l5_A:K.lookup Z=some o5_A) (e5_A:o5_A.cls=.type "tuple") (f5_A:o5_A.data=.seq i5_A m5_A) (r5_A:Vals [V.int 1,V.int 2] i5_A.toList)
 {o6_A:Obj} {i6_A:Array Value} {m6_A:Nat} (l6_A:K.lookup Y=some o6_A) (e6_A:o6_A.cls=.type "tuple") (f6_A:o6_A.data=.seq i6_A m6_A) (r6_A:Vals [V.int 1,V.int 2] i6_A.toList)
 {o7_A:Obj} {i7_A:Array Value} {m7_A:Nat} (l7_A:K.lookup a7_A=some o7_A) (e7_A:o7_A.cls=.type "tuple") (f7_A:o7_A.data=.seq i7_A m7_A) (r7_A:Vals [V.int 1,V.int 2] i7_A.toList)
 {d_B:Addr} {o_B:Obj} {i_B:Array Value} {m_B:Nat} (b_B:xB9 K qb9 "SETTING"=some (some (.ref d_B))) (l_B:K.lookup d_B=some o_B) (e_B:o_B.cls=.type "tuple") (f_B:o_B.data=.seq i_B m_B) (r_B:Vals [V.str "copy",V.str "op",V.str "load",V.str "take",V.str "hear"] i_B.toList)
 (kd_str:eJ K "str")
 (kd_bool:eJ K "bool")
 (kd_int:eJ K "int")
 (kd_list:eJ K "list")
 (kd_tuple:eJ K "tuple")
 : ∃ fd:qp2,(∀ (s:qa4) (v:Value),qz0 s fd ⟨[v],[]⟩ [("_law_script",v)])/\∀ base:Heap,K.In base->base.Ns qb9 mg->oP mg base->FnOk l.prog w K mg base CX0 9 fa fd ["_law_script"] (mr K):=by
 obtain ⟨f33,oc33,od33,an33,sl33,kV33,dc33,pm33,cd33,ct33,a33,l33,c33,k33⟩:=a33;have e:=hfa.symm.trans (xK9 X G a33);cases e;have T:Txt l.prog w K mg:={n_all:=xE9 X G z_all,n_any:=xE9 X G z_any,n_bool:=xE9 X G z_bool,n_enumerate:=xE9 X G z_enumerate,n_int:=xE9 X G z_int,n_isinstance:=xE9 X G z_isinstance,n_len:=xE9 X G z_len,n_list:=xE9 X G z_list,n_range:=xE9 X G z_range,n_reversed:=xE9 X G z_reversed,n_set:=xE9 X G z_set,n_sorted:=xE9 X G z_sorted,n_str:=xE9 X G z_str,n_tuple:=xE9 X G z_tuple,g_A:=wx [("copy",t0_A,.ref a0_A,.ref a0_A),("op",t1_A,.ref q,.ref q),("store",t2_A,.ref a2_A,.ref a2_A),("take",t3_A,.ref O,.ref O),("lay",t4_A,.ref a4_A,.ref a4_A),("say",t5_A,.ref Z,.ref Z),("if",t6_A,.ref Y,.ref Y),("end",t7_A,.ref a7_A,.ref a7_A)] (xK9 X G b_A) l_A e_A f_A z_A (show (["copy","op","store","take","lay","say","if","end"]:List Str).Nodup by decide +kernel) (by simp [RelV]) (fun F=>wz (.cons (dA l0_A e0_A f0_A r0_A (by decide) (by simp [Reps,Rep])) (.cons (dA l1_A e1_A f1_A r1_A (by decide) (by simp [Reps,Rep])) (.cons (dA l2_A e2_A f2_A r2_A (by decide) (by simp [Reps,Rep])) (.cons (dA l3_A e3_A f3_A r3_A (by decide) (by simp [Reps,Rep])) (.cons (dA l4_A e4_A f4_A r4_A (by decide) (by simp [Reps,Rep])) (.cons (dA l5_A e5_A f5_A r5_A (by decide) (by simp [Reps,Rep])) (.cons (dA l6_A e6_A f6_A r6_A (by decide) (by simp [Reps,Rep])) (.cons (dA l7_A e7_A f7_A r7_A (by decide) (by simp [Reps,Rep])) .nil))))))))),g_B:=t8 (xK9 X G b_B) l_B e_B f_B r_B (by decide) (fun F=>by simp [Reps,Rep]),k_str:=kd_str,k_bool:=kd_bool,k_int:=kd_int,k_list:=kd_list,k_tuple:=kd_tuple};have D0:DefF K mg "_law_boxes" y19 ["_law_cell","_law_boxes_here"]:=a0.df X G fun _ _ _ _ _ _=>el2 fun _ _=>rfl
 have D1:DefF K mg "_law_cell_at" y26 ["_law_script","_law_k"]:=a1.df X G fun _ _ _ _ _ _=>el2 fun _ _=>rfl
 have D2:DefF K mg "_law_exits" z42 ["_law_rows","_law_at"]:=a2.df X G fun _ _ _ _ _ _=>el2 fun _ _=>rfl
 have D3:DefF K mg "_law_read_by" q27 ["_law_row_here"]:=a3.df X G fun _ _ _ _ _ _=>el1 fun _=>rfl
 have D4:DefF K mg "_law_set_by" z37 ["_law_row_here"]:=a4.df X G fun _ _ _ _ _ _=>el1 fun _=>rfl
 have D5:DefF K mg "_law_whole" q23 ["_law_found"]:=a5.df X G fun _ _ _ _ _ _=>el1 fun _=>rfl
 have D6:DefF K mg "_law_is_lost" y2 ["_law_rows","_law_code","_law_found"]:=a6.df X G fun _ _ _ _ _ _=>el3 fun _ _ _=>rfl
 have D7:DefF K mg "_law_is_needed" q13 ["_law_rows","_law_at","_law_box"]:=a7.df X G fun _ _ _ _ _ _=>el3 fun _ _ _=>rfl
 have D8:DefF K mg "_law_lacks" y29 ["_law_rows","_law_code","_law_boxes_here"]:=a8.df X G fun _ _ _ _ _ _=>el3 fun _ _ _=>rfl
 have D9:DefF K mg "_law_names" z34 ["_law_cell","_law_many"]:=a9.df X G fun _ _ _ _ _ _=>el2 fun _ _=>rfl
 have D10:DefF K mg "_law_places" q18 ["_law_rows","_law_every"]:=a10.df X G fun _ _ _ _ _ _=>el2 fun _ _=>rfl
 have D11:DefF K mg "_law_atom" q41 ["_law_cell","_law_boxes_here"]:=a11.df X G fun _ _ _ _ _ _=>el2 fun _ _=>rfl
 have D12:DefF K mg "_law_row" y36 ["_law_cell","_law_boxes_here","_law_cells","_law_shelves","_law_many"]:=a12.df X G fun _ _ _ _ _ _=>el5 fun _ _ _ _ _=>rfl
 have D13:DefF K mg "_law_program" z11 ["_law_script","_law_most"]:=a13.df X G fun _ _ _ _ _ _=>el2 fun _ _=>rfl
 have D14:DefF K mg "kept_rows" y44 ["code"]:=a14.df X G fun _ _ _ _ _ _=>el1 fun _=>rfl
 have D15:DefF K mg "end_fault" y32 ["program","code"]:=a15.df X G fun _ _ _ _ _ _=>el2 fun _ _=>rfl
 have D16:DefF K mg "gives" q68 ["row"]:=a16.df X G fun _ _ _ _ _ _=>el1 fun _=>rfl
 have D17:DefF K mg "atoms" y67 ["row"]:=a17.df X G fun _ _ _ _ _ _=>el1 fun _=>rfl
 have D18:DefF K mg "reads" z50 ["row"]:=a18.df X G fun _ _ _ _ _ _=>el1 fun _=>rfl
 have D19:DefF K mg "needed_ahead" z16 ["row","behind"]:=a19.df X G fun _ _ _ _ _ _=>el2 fun _ _=>rfl
 have D20:DefF K mg "ways_of" z59 ["number","row"]:=a20.df X G fun _ _ _ _ _ _=>el2 fun _ _=>rfl
 have D21:DefF K mg "ways" fG ["program"]:=a21.df X G fun _ _ _ _ _ _=>el1 fun _=>rfl
 have D22:DefF K mg "needed" q36 ["program"]:=a22.df X G fun _ _ _ _ _ _=>el1 fun _=>rfl
 have D23:DefF K mg "traced" z46 ["came_from","last"]:=a23.df X G fun _ _ _ _ _ _=>el2 fun _ _=>rfl
 have D24:DefF K mg "route" z49 ["starts","behind","fits"]:=a24.df X G fun _ _ _ _ _ _=>el3 fun _ _ _=>rfl
 have D25:DefC K mg "way_to_reading" q5 ["program","start","box"] cc25:=a25.df X G fun _ _ _ _ _ _=>el3 fun _ _ _=>rfl
 have D26:DefF K mg "lost_fault" y28 ["program","code"]:=a26.df X G fun _ _ _ _ _ _=>el2 fun _ _=>rfl
 have D27:DefF K mg "endless_rows" q16 ["onward","rows"]:=a27.df X G fun _ _ _ _ _ _=>el2 fun _ _=>rfl
 have D28:DefF K mg "ring_fault" z17 ["program","code"]:=a28.df X G fun _ _ _ _ _ _=>el2 fun _ _=>rfl
 have D29:DefF K mg "plain_names" q38 ["program"]:=a29.df X G fun _ _ _ _ _ _=>el1 fun _=>rfl
 have D30:DefF K mg "spoil_fault" y30 ["program","code"]:=a30.df X G fun _ _ _ _ _ _=>el2 fun _ _=>rfl
 have D31:DefF K mg "fault" q44 ["program","code"]:=a31.df X G fun _ _ _ _ _ _=>el2 fun _ _=>rfl
 have D32:DefF K mg "holds" z66 ["program","code"]:=a32.df X G fun _ _ _ _ _ _=>el2 fun _ _=>rfl
 refine ⟨xC9 "law" "law" (cg cZ) (be cZ) (aa cZ) .none kV33 dc33 pm33 an33 cd33 ct33,fun s v=>.of_eq rfl,fun base kb _ bm=>?_⟩;have z51:=y104 (P:=l.prog) (w:=w) (base:=base) T D0;have z7:=q97 (P:=l.prog) (w:=w) (base:=base) T D1;have q21:=q103 (P:=l.prog) (w:=w) (base:=base) T D2;have q26:=q95 (P:=l.prog) (w:=w) (base:=base) T D3;have z30:=q100 (P:=l.prog) (w:=w) (base:=base) T D4;have z71:=z102 (P:=l.prog) (w:=w) (base:=base) T D5;have q57:=y93 (P:=l.prog) (w:=w) (base:=base) T D6 q21 q26 z30 z71;have z47:=z90 (P:=l.prog) (w:=w) (base:=base) T D7 q21 q26 z30;have z68:=q105 (P:=l.prog) (w:=w) (base:=base) T D8 z47;have y27:=y105 (P:=l.prog) (w:=w) (base:=base) T D9;have z62:=y97 (P:=l.prog) (w:=w) (base:=base) T D10 q21;have z32:=q107 (P:=l.prog) (w:=w) (base:=base) T D11;have y79:=y109 (P:=l.prog) (w:=w) (base:=base) T D12 z32;have q56:=y95 (P:=l.prog) (w:=w) (base:=base) T D13 z32 z7 y27 y79;have y40:=z106 (P:=l.prog) (w:=w) (base:=base) T D14;have z76:=q108 (P:=l.prog) (w:=w) (base:=base) T D15 y40;have q67:=q113 (P:=l.prog) (w:=w) (base:=base) T D16;have q99:=y111 (P:=l.prog) (w:=w) (base:=base) T D17;have z67:=y113 (P:=l.prog) (w:=w) (base:=base) T D18 q99;have z55:=z97 (P:=l.prog) (w:=w) (base:=base) T D19 q67 z67;have z87:=z110 (P:=l.prog) (w:=w) (base:=base) T D20;have h_ways:=q115 (P:=l.prog) (w:=w) (base:=base) T D21 z87;have q93:=q111 (P:=l.prog) (w:=w) (base:=base) T D22 z55 h_ways;have y92:=z111 (P:=l.prog) (w:=w) (base:=base) T D23;have y101:=z112 (P:=l.prog) (w:=w) (base:=base) T D24 y92;have y47:=y91 (P:=l.prog) (w:=w) (base:=base) T D25 (TabB.mk' kb hd25 bm) (wP rfl to25) q67 z67 y101 h_ways;have y70:=z103 (P:=l.prog) (w:=w) (base:=base) T D26 q93 y47;have y56:=q96 (P:=l.prog) (w:=w) (base:=base) T D27;have y69:=z104 (P:=l.prog) (w:=w) (base:=base) T D28 y56 y40 h_ways;have z63:=y99 (P:=l.prog) (w:=w) (base:=base) T D29;have y63:=q98 (P:=l.prog) (w:=w) (base:=base) T D30 z63;have y66:=z113 (P:=l.prog) (w:=w) (base:=base) T D31 z76 y70 y69 y63;have y88:=y112 (P:=l.prog) (w:=w) (base:=base) T D32 y66;exact (AB T (lK (st:=cZ) l33 c33 k33) z51 z7 q57 z68 y27 z62 q56 y66 y88).imp fun vs H Q E z=>Bs z
abbrev y107:Stmt:=top 22
theorem C4 {ts:List Addr} (X:K.In h) (Y:∀ P∈ts,h.get? P=some (xI9 #[])) {Z O:Addr} (a0:AtC K "way_to_reading" q5 Z O) (hd0:xJ9 K Z O=true) (n0:K.lookup O=none) (m0:O∈ts) {cc1 q:Addr} (a1:AtC K "spoilt" y107 cc1 q) (hd1:xJ9 K cc1 q=true) (n1:K.lookup q=none) (m1:q∈ts) (e:dE K=[(O,mt "way_to_reading" (be q5)),(q,mt "spoilt" (be y107))]) (ne:O≠q):TabsIn K h:=TabsIn.two X e ne n0 n1 hd0 hd1 (Y _ m0) (Y _ m1)
theorem walk {l:xT9} {q:qc2} {loose:List Str} {XP:(Str->Option Value)->Heap->Prop} {YP:World->Heap->Prop} {d:DefRec} {K:Params->xA9} (hn:l.most=some 63) (O:d.params.defaults=[])
  (Z:∀ (w:World) (h:Heap),YP w h->(K w.params).In h) (Y:∀ (w:World) (h:Heap),YP w h->TabsIn (K w.params) h)
  (F:∀ (w:World) (mg:Str->Option Value) (fa:Addr) (h:Heap),(K w.params).In h->h.Ns qb9 mg->mg d.name=some (.ref fa)→
   ∃ fd:qp2,(∀ (s:qa4) (u:Value),qz0 s fd ⟨[u],[]⟩ [("_law_script",u)])/\∀ base:Heap,(K w.params).In base->base.Ns qb9 mg->oP mg base->FnOk l.prog w (K w.params) mg base CX0 9 fa fd ["_law_script"] (mr (K w.params))) :
  PySem.W.WalkO q loose XP YP l.row.toRowW d [] (fun f vs=>PySem.call f vs):=
 L2.Cm (n:=63) (k:=9) (x:="_law_script") (CX:=fun _=>CX0) (sp:=fun w=>mr (K w.params)) hn (by decide) O ⟨rfl,by decide,by decide⟩ Z Y F (fun _ _ a ns hl hO hS=>⟨a,ns,rfl,hS,hl,hO,fun _=>rfl⟩) fun _ _ _ _ _ z=>z
end P42
open PySem PySem.W PyProof.Rows
local macro_rules | `(tactic| walk_at "f") => `(tactic| (refine' L2.AtF.mk ?za ?zl ?zc ?zk; (case za => k_is); (case zl => k_is); (case zc => k_is); (case zk => k_is)))
local macro_rules | `(tactic| walk_at "c") => `(tactic| (refine' L2.AtC.mk ?za ?zl ?zc ?zk ?zx ?zp; (case za => k_is); (case zl => k_is); (case zc => k_is); (case zk => k_is); (case zx => k_is); (case zp => exact rfl)))
set_option maxRecDepth 100000 in
set_option maxHeartbeats 0 in
theorem PySem.Challenge.cw_dimhouse_k42_boxes_lost_holds : PySem.Challenge.rw_dimhouse_k42_boxes_lost.Holds := by
 w_on;o_law
 refine holds_open (q:=P42.seen) (loose:=[PySem.Str.ofString "ATOM_PLACES"]) (Xt:=fun s=>xlAt P42.seen [] s&&recOk (zg5 (ze1 PySem.Challenge.rw_dimhouse_k42_boxes_lost.row)) s) (XP:=XL P42.seen []) (Yf:=Hook.obs P42.hook) (Ya:=Hook.val P42.hook) (YP:=Hook.says P42.hook) (N:=2768) ?hl (Hook.of P42.hook) (Hook.keeps P42.hook) (fun s e=>xl_of s (qu4.mp e).1) XL.keeps (by rfl) (by rfl) (by rfl) (fun s e=>recFacts_of (qu4.mp e).2) (by rfl) (by first | assumption | decide +kernel) (by decide +kernel) ⟨rfl,rfl,rfl,rfl,rfl,by decide +kernel⟩ ?hw ?hc
 case hl=>exact LeftO.of_split "special-get-raises" fun w=>P42.map_two (P42.run_false w) (P42.run_true w)
 case hw=>w_witness2
 delta P42.hook
 k_fill
 refine P42.walk (l:=PySem.Challenge.rw_dimhouse_k42_boxes_lost) rfl rfl (fun w h Y=>PySem.W.km_in_of Y) ?T ?F
 case T =>
  intro w h Y;refine' P42.C4 (PySem.W.km_in_of Y) (PySem.W.km_tabs_of Y) ?a0 ?hd0 ?n0 ?m0 ?a1 ?hd1 ?n1 ?m1 ?e ?ne
  (case a0=>walk_at "c")
  (case hd0=>kernel_rfl)
  (case n0=>kernel_rfl)
  (case m0=>simp)
  (case a1=>walk_at "c")
  (case hd1=>kernel_rfl)
  (case n1=>kernel_rfl)
  (case m1=>simp)
  (case e=>kernel_rfl)
  (case ne=>decide)
 case F =>
  intro w mg fa h KX G Z;refine' P42.all_mk KX G Z ?a0 ?a1 ?a2 ?a3 ?a4 ?a5 ?a6 ?a7 ?a8 ?a9 ?a10 ?a11 ?a12 ?a13 ?a14 ?a15 ?a16 ?a17 ?a18 ?a19 ?a20 ?a21 ?a22 ?a23 ?a24 ?a25 ?hd25 ?to25 ?a26 ?a27 ?a28 ?a29 ?a30 ?a31 ?a32 ?a33 ?z_all ?z_any ?z_bool ?z_enumerate ?z_int ?z_isinstance ?z_len ?z_list ?z_range ?z_reversed ?z_set ?z_sorted ?z_str ?z_tuple ?b_A ?l_A ?e_A ?f_A ?z_A ?l0_A ?e0_A ?f0_A ?r0_A ?l1_A ?e1_A ?f1_A ?r1_A ?l2_A ?e2_A ?f2_A ?r2_A ?l3_A ?e3_A ?f3_A ?r3_A ?l4_A ?e4_A ?f4_A ?r4_A ?l5_A ?e5_A ?f5_A ?r5_A ?l6_A ?e6_A ?f6_A ?r6_A ?l7_A ?e7_A ?f7_A ?r7_A ?b_B ?l_B ?e_B ?f_B ?r_B ?kd_str ?kd_bool ?kd_int ?kd_list ?kd_tuple
  (case a0=>walk_at "f")
  (case a1=>walk_at "f")
  (case a2=>walk_at "f")
  (case a3=>walk_at "f")
  (case a4=>walk_at "f")
  (case a5=>walk_at "f")
  (case a6=>walk_at "f")
  (case a7=>walk_at "f")
  (case a8=>walk_at "f")
  (case a9=>walk_at "f")
  (case a10=>walk_at "f")
  (case a11=>walk_at "f")
  (case a12=>walk_at "f")
  (case a13=>walk_at "f")
  (case a14=>walk_at "f")
  (case a15=>walk_at "f")
  (case a16=>walk_at "f")
  (case a17=>walk_at "f")
  (case a18=>walk_at "f")
  (case a19=>walk_at "f")
  (case a20=>walk_at "f")
  (case a21=>walk_at "f")
  (case a22=>walk_at "f")
  (case a23=>walk_at "f")
  (case a24=>walk_at "f")
  (case a25=>walk_at "c")
  (case hd25=>kernel_rfl)
  (case to25=>kernel_rfl)
  (case a26=>walk_at "f")
  (case a27=>walk_at "f")
  (case a28=>walk_at "f")
  (case a29=>walk_at "f")
  (case a30=>walk_at "f")
  (case a31=>walk_at "f")
  (case a32=>walk_at "f")
  (case a33=>walk_at "f")
  (case z_all | z_any | z_bool | z_enumerate | z_int | z_isinstance | z_len | z_list | z_range | z_reversed | z_set | z_sorted | z_str | z_tuple | b_A | l_A=>k_is)
  (case e_A=>exact ⟨rfl,rfl,rfl⟩)
  (case f_A=>rfl)
  (case z_A=>rfl)
  (case l0_A=>k_is)
  (case e0_A=>rfl)
  (case f0_A=>rfl)
  (case r0_A=>exact (.cons ⟨_,rfl⟩ (.cons ⟨_,rfl⟩ .nil)))
  (case l1_A=>k_is)
  (case e1_A=>rfl)
  (case f1_A=>rfl)
  (case r1_A=>exact (.cons ⟨_,rfl⟩ (.cons ⟨_,rfl⟩ .nil)))
  (case l2_A=>k_is)
  (case e2_A=>rfl)
  (case f2_A=>rfl)
  (case r2_A=>exact (.cons ⟨_,rfl⟩ (.cons ⟨_,rfl⟩ .nil)))
  (case l3_A=>k_is)
  (case e3_A=>rfl)
  (case f3_A=>rfl)
  (case r3_A=>exact (.cons ⟨_,rfl⟩ (.cons ⟨_,rfl⟩ .nil)))
  (case l4_A=>k_is)
  (case e4_A=>rfl)
  (case f4_A=>rfl)
  (case r4_A=>exact (.cons ⟨_,rfl⟩ (.cons ⟨_,rfl⟩ .nil)))
  (case l5_A=>k_is)
  (case e5_A=>rfl)
  (case f5_A=>rfl)
  (case r5_A=>exact (.cons ⟨_,rfl⟩ (.cons ⟨_,rfl⟩ .nil)))
  (case l6_A=>k_is)
  (case e6_A=>rfl)
  (case f6_A=>rfl)
  (case r6_A=>exact (.cons ⟨_,rfl⟩ (.cons ⟨_,rfl⟩ .nil)))
  (case l7_A=>k_is)
  (case e7_A=>rfl)
  (case f7_A=>rfl)
  (case r7_A=>exact (.cons ⟨_,rfl⟩ (.cons ⟨_,rfl⟩ .nil)))
  (case b_B | l_B=>k_is)
  (case e_B=>rfl)
  (case f_B=>rfl)
  (case r_B=>exact (.cons ⟨_,rfl⟩ (.cons ⟨_,rfl⟩ (.cons ⟨_,rfl⟩ (.cons ⟨_,rfl⟩ (.cons ⟨_,rfl⟩ .nil))))))
  (case kd_str=>exact fun d O=>by cases d<;>first | (cases O;done) | k_is | rfl)
  (case kd_bool=>exact fun d O=>by cases d<;>first | (cases O;done) | k_is | rfl)
  (case kd_int=>exact fun d O=>by cases d<;>first | (cases O;done) | k_is | rfl)
  (case kd_list=>exact fun d O=>by cases d<;>first | (cases O;done) | k_is | rfl)
  (case kd_tuple=>exact fun d O=>by cases d<;>first | (cases O;done) | k_is | rfl)
