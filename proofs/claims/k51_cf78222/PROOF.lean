import PyProof.Rows.All
import KE.KNest
import Wide.All
import OpenK.AllK
import Wide.FinOn
import Lean
import PyProof.EqAt
import PyProof.EqKinds
import PyProof.TupleCall
import PySem.Challenge.RW_dimhouse_k51_all_places
open Array renaming length_toList→qe7,getElem?_eq_getElem→qh0,getElem?_eq_none→qn5,getElem?_toList→qs9,toList_append→qv6,toList_push→qz3
open Bool renaming and_eq_true→qa9,false_ne_true→qb6,false_eq_true→qf9,or_eq_true→qh7,not_eq_true'→qh9,true_and→qj6,eq_iff_iff→qj8,and_true→qm8,and_eq_true_iff→qp7,and_false→qs7,and_eq_false_imp→qt0,or_eq_false_iff→qu3,and_self→qu4,or_false→za3,false_or→za5,false_and→ze8,true_or→zh5,or_true→zh6
open Classical renaming byContradiction→qx4
open False renaming elim→qg7
open ForInStep renaming yield→qo2
open Int renaming toNat_natCast→qe1
open Lean renaming maxHeartbeats→qo7,maxRecDepth→qq2
open List renaming length_map→qa2,map_cons→qa5,getElem?_map→qb1,mem_cons→qb2,length_append→qb3,getElem?_append_left→qb5,mem_singleton→qb7,size_toArray→qb9,length_cons→qc0,range→qc2,getElem?_append_right→qc4,mem_map→qc6,getD_eq_getElem?_getD→qc7,mem_append_right→qc8,map_map→qc9,mem_cons_of_mem→qd1,length_filter_le→qd4,mem_filter→qd6,getElem?_set_self→qd8,mem_range→qd9,mem_cons_self→qe0,replicate→qe6,append_nil→qe8,mem_of_getElem?→qf5,mem_append→qg3,length_nil→qg4,lookup_cons→qg5,append_assoc→qg9,getElem?_cons_zero→qh3,map_nil→qh4,pairwise_cons→qh5,getElem?_replicate→qi4,any_cons→qi5,foldl_cons→qi6,map_append→qi7,all_eq_true→qj1,all_cons→qj5,length_range→qk3,filter_sublist→qk6,not_mem_nil→qk9,length_replicate→ql1,getElem?_eq_none_iff→ql5,nodup_cons→ql9,map_congr_left→qm9,getElem?_cons_succ→qn0,set_cons_zero→qn8,length→qo0,find?_cons→qo1,nodup_append→qp3,mem_append_left→qp4,getElem?_of_mem→qp5,getElem?_mapIdx→qp6,getElem?_zip_eq_some→qq0,sum_cons→qr4,set_cons_succ→qr5,pairwise_lt_range→qr8,find?_cons_of_pos→qr9,find?_cons_of_neg→qs0,length_singleton→qs8,set_append_right→qt3,ext_getElem→qt8,drop_length→qt9,eq_nil_of_length_eq_zero→qu0,filterMap_cons→qv0,of_mem_zip→qv3,getElem?_range→qv5,nil_append→qw1,length_eraseIdx_of_lt→qw4,nodup_iff_pairwise_ne→qw5,mem_filterMap→qw8,nodup_nil→qx3,drop_eq_getElem_cons→qx5,mem_of_find?_eq_some→qx8,mem_or_eq_of_mem_set→qx9,mapIdx_eq_zipIdx_map→qy0,getElem?_take_of_lt→qy3,take_sublist→qy4,getElem?_set→qy8,pairwise_mergeSort→za8,length_eq_zero_iff→zb3,getElem?_set_self'→zb5,length_take→zb6,cons_append→zb7,getElem_mem→zb8,mapIdx_cons→zb9,any_eq_true→zc0,range_succ_eq_map→zc5,singleton_append→zd9,all_nil→zh8,map→zi0,Perm→zi4
open List.Pairwise renaming nil→qp0,map→qy9,imp→qz4
open List.Perm renaming refl→qx7
open List.cons renaming injEq→qo4
open Nat renaming lt_of_lt_of_le→qb4,le_trans→qb8,ne_of_lt→qc1,zero_le→qh8,lt_succ_of_lt→qi1,not_lt→qi9,le_of_lt→qj0,lt_succ_self→qk8,not_lt_zero→qm2,ne_of_gt→qm6,lt_irrefl→qm7,le_succ→qo3,sub_self→qt4,zero_add→qt5,le_refl→qu9,lt_trans→qx0,lt_of_le_of_lt→qx1,mod_lt→qz5
open Ne renaming symm→qn9
open Option renaming bind_some→qa1,map_some→qe5,join_some→qn1,isSome_iff_exists→qq5,bind_eq_some_iff→qq9,map_eq_some_iff→qr6,isSome_map→qs5,map→qz7
open Option.some renaming inj→qd5,injEq→qj3
open PyProof.Rows renaming callWith_type1→qi3,slot_tuple_getitem→qm0,envOfC→qv4,subscriptTail_builtinR→zc3,AllBare→zc7,subscriptTail→zg1,IntsAre→zg6
open PyProof.Rows.F renaming plain_set_update_loop→qr3,entry_set_update_loop→zb1
open PySem renaming wpAny_pure→qa3,Shared→qa4,starEach→qa6,sizeLine→qb0,mainGlobals→qc3,Program→qc5,wpAny_newObj_type→qd2,Around→qd7,bootBuiltins→qe4,wpAny_setState_of→qf0,wpAny_callSpecial?_slot→qf1,behindInMarks→qf4,wpAny_call_entry→qf6,compareOp→qf7,rawInt→qf8,SetTable→qg2,foldedSetIterable→qg8,cellsFrom→qh1,wpAny_bind→qh2,sysModules→qi8,Arguments→qj2,backTo→qj4,wpAny_setField→qj7,wpAny_typeNameOfWhole_keyiter→qj9,wpAny_holding→qk0,wpAny_mono→qk2,swapsWith→qk4,Builtin→qk5,binaryOp→ql0,firstArgMember→ql4,wpAny_passesOwn→ql8,wpAny_typeNameOf_keyiter→qm3,scanBound→qm4,wpAny_askSetting→qn2,assignEach→qn3,wpAny_Call_Name_kw→qn6,NameKind→qn7,codeAny_builtin→qo5,FuncData→qo9,codeAmong→qp8,wpAny_fieldsOf→qq1,codeAny_mono→qq4,tupleKind_room_in1→qr1,wpAny_attempt→qr2,wpAny_truthy_bool→qs1,codeAny→qs2,wpAny_field→qs3,sliceBounds→qs4,fits_of_scanBound→qs6,builtinLookup_eq_fast→qt2,noFill_tuple_add→qt7,wpAny_isInstance→qu2,builtinsNs→qu8,wpAny_execs_nil→qv1,letOwnedTupleGo→qv2,pyNext→qw6,wpAny_pyIter_tuple→qw7,concat_meets→qw9,wpAny_seqItems→qx6,PassesOwn→qy1,wpAny_pyIter_list→qy2,wpAny_comprehension_free→qy5,wpAny_pyIter_slot→qz0,wpAny_dictEntries→qz1,holding→qz9,sizeLine_eq→za0,BindsTo→za1,seq_tuple_add→za2,attributeBase→za4,wpAny_of_eq→za6,wpAny_handled→za7,setField→za9,relayAll→zb0,plainId_quiet→zb2,setNext→zb4,wpAny_pyNext_range_end→zc1,wpAny_pyIter_rangeiter→zc2,codeAny_compStart_list→zc4,TriplesOk→zc6,storeName→zc8,wpAny_storeName_local→zc9,wpAny_isTrue_Compare1→zd0,Keyword→zd1,InCallC→zd2,codeAny_call_function→zd3,wpAny_dictEpoch→zd7,wpAny_isOneOf_keyiter→zd8,typeLookup_type→ze0,pickOrder→ze1,closureFor→ze3,compPost→ze4,setEntries→ze5,assign→ze7,isSubtype_stop→ze9,IsRangeIter→zf0,getItem→zf1,subscripted→zf2,keywordEach→zf3,valueAt→zf4,wpAny_throw→zf6,tupleKind→zf8,wpAny_standAt→zf9,bindArgs→zg0,newExc→zg2,raiseNew→zg3,wpAny_call→zg5,callerA→zg7,wpAny_rule→zg8,setsByText→zg9,pyIter→zh1,name_of_addr→zh2,IsPart→zh3,wpAny_typeOf→zh4,newTuple→zh9,treeTable→zi1
open PySem.Around renaming under_plainId→ql7
open PySem.AutoSeq1 renaming wpAny_loadPart'→qq8
open PySem.Builtin.Dict renaming showsAll→zd6
open PySem.Builtin.Dict_items renaming ownsTuple→qu6
open PySem.Builtin.List renaming listTooLong→qq7,listLengthHint→qv9,listExtendWith→qw0,listSameRef→qz6
open PySem.Builtin.Range renaming rangeSize→qd0,rangeFitsLong→qv8
open PySem.Builtin.Slice renaming slicePlaces→ql2,sliceAdjust→qp9,sliceApplied→qw3
open PySem.Builtin.SmallTypes renaming nextOf→ql3
open PySem.Builtin.Str renaming occurrences→qr0
open PySem.Builtin.Tuple renaming tupleExact→qm1
open PySem.Calls renaming Name_function_global→qw2
open PySem.F renaming slot_dict_keyiterator_next→qi2,slot_tuple_iterator_next→qk7,called_set→qo6,args_dict_keyiterator_next_1→qt1,entry_dict_keyiterator_next→qu1,args_tuple_iterator_next_1→qu5,entry_tuple_iterator_next→qv7
open PySem.Heap renaming get?_push_size→qa7,lt_size→qa8,get?_update_self→qf2,size_push→qg0,SameBut→qm5,get?_update_other→qn4,get?_push_of_some→qr7,ExtBut→zf5
open PySem.Heap.SameBut renaming update→qe9
open PySem.NameKind renaming free→qe2
open PySem.Obj renaming data_mapFields→qe3,isFreed_of_fields→qi0,cls_mapFields→qp1,mapFields→qp2,mapSeq→qq6
open PySem.PassesOwn renaming never→qd3
open PySem.PyData renaming keyHash→qk1
open PySem.SeqAt renaming EqAt→qg6,RcAt→qy6,RcNeAt→zd5
open PySem.SeqAt.EqAt renaming of_refs→qx2,same→zd4
open PySem.SeqAt.RcAt renaming lists_lengths→qy7
open PySem.SetTable renaming below→qg1,grown→ql6,insertAt→qz2
open PySem.Shared renaming TypeIs→zg4
open PySem.Str renaming ofString→qa0,length→ze2
open PySem.Value renaming ref→qf3,none→qh6,type→qo8,bool→qu7,isStrOf→zf7,int→zi2,str→zi3
open PySem.W.OpenRow renaming toRowW→ze6
open PySem.W.RowW renaming records→zh0
open PySem.pickOrder renaming go→zh7
open Sum renaming inr→qt6,inl→qz8
open True renaming intro→qq3
set_option Elab.async false
set_option linter.all false
namespace P51
open PySem PySem.W PyProof.Rows
section
local macro_rules | `(tactic| o_head $_) => `(tactic| exact (by assumption : ∀ p : Prop, p) _)
set_option maxRecDepth 100000 in
set_option maxHeartbeats 0 in
theorem pre (q:∀ p:Prop,p):PySem.Challenge.rw_dimhouse_k51_all_places.row.Holds:=by k_head
end
def seen:qc5:={PySem.Challenge.pw_dimhouse_k51_all_places with main:={PySem.Challenge.pw_dimhouse_k51_all_places.main with body:=[1,2,3,4,6,7,8,9,10,11,12,14,15,16,17,18,19,20,21,22,24,25,26,27,28,29,30,31,33,34,35,36,38,39,40,41,42,43,44,45,46].filterMap fun i=>PySem.Challenge.pw_dimhouse_k51_all_places.main.body[i]?}}
noncomputable abbrev hook:Hook:=kmHook P51.pre.heap_1 [2,3,15,17,18,20,21,22,25,26,27,29,30,32,33,34,36,37,39,40,41,42,43,44,45,46,47,48,49,50,51,53,54,56,57,58,60,61,63,64,65,67,68,70,71,72,75,76,77,80,81,82,85,86,87,90,91,92,95,96,97,99,100,102,103,104,107,108,109,111,112,114,115,116,119,120,121,124,125,126,128,129,131,132,133,135,136,138,139,140,143,144,145,147,148,150,151,152,154,155,157,158,159,162,163,164,166,167,169,170,171,174,175,176,179,180,181,183,184,186,187,188,190,191,193,194,195,197,198,200,201,202,204,205,207,208,209,211,212,214,215,216,219,220,221,223,224,226,227,228,231,232,233,236,237] (fun _=>by kernel_rfl) [134,105]
theorem map_two {α β γ:Type} {x:Option α} {f:α→β} {g:α→γ} {a:β} {b:γ} (h:x.map f=some a) (h':x.map g=some b):x.map (fun s=>(f s,g s))=some (a,b):=by
  cases x with
  | none=>cases h
  | some s=>simp only [qe5,qj3] at h h' ⊢;rw [h,h']
set_option maxRecDepth 100000 in
set_option maxHeartbeats 0 in
theorem run_false (w:World):(fencedOpening zi1 PySem.Challenge.rw_dimhouse_k51_all_places.row.prog w 2712).map (fun s₀=>(topFrom zi1 PySem.Challenge.rw_dimhouse_k51_all_places.row.prog (w.withFollow "special-get-raises" false) 2712 s₀).map (fun s=>(openSeen seen [PySem.Str.ofString "ATOM_PLACES"] (importedModules PySem.Challenge.rw_dimhouse_k51_all_places.row.prog.main.body) (fun s=>xlAt seen [] s&&recOk (zh0 (ze6 PySem.Challenge.rw_dimhouse_k51_all_places.row)) s) true s,Hook.obs hook s)))=some (some (openGood seen [PySem.Str.ofString "ATOM_PLACES"],Hook.val hook (w.withFollow "special-get-raises" false))):=by kernel_rfl
set_option maxRecDepth 100000 in
set_option maxHeartbeats 0 in
theorem run_true (w:World):(fencedOpening zi1 PySem.Challenge.rw_dimhouse_k51_all_places.row.prog w 2712).map (fun s₀=>(topFrom zi1 PySem.Challenge.rw_dimhouse_k51_all_places.row.prog (w.withFollow "special-get-raises" true) 2712 s₀).map (fun s=>(openSeen seen [PySem.Str.ofString "ATOM_PLACES"] (importedModules PySem.Challenge.rw_dimhouse_k51_all_places.row.prog.main.body) (fun s=>xlAt seen [] s&&recOk (zh0 (ze6 PySem.Challenge.rw_dimhouse_k51_all_places.row)) s) true s,Hook.obs hook s)))=some (some (openGood seen [PySem.Str.ofString "ATOM_PLACES"],Hook.val hook (w.withFollow "special-get-raises" true))):=by kernel_rfl
end P51
set_option maxRecDepth 100000
set_option maxHeartbeats 4000000
set_option compiler.extract_closed false
open PySem.W renaming Frag→xA9,nsIn→xB9,fnOf→xC9,kia_one→xD9,keepIn→xE9,fnX→xF9,codeIn→xG9,mg_none_of→xH9,mg_of→xI9,tabObj→xJ9,codeHdIn→xK9,kitOne→xL9,kitx_dict→xM9,CodeHd→xN9,instObj→xO9,methodObj→xP9,kitx_list→xQ9,cellsFrom_some→xR9,codeHd_of_K→xS9,OpenLaw→xT9
noncomputable section
theorem bS {α β:Type _} {o:Option α} {f:α->Option β} {b:β} (h:o.bind f=some b):∃ a,o=some a/\f a=some b:=qq9.mp h
theorem mS {α β:Type _} {o:Option α} {f:α->β} {b:β} (h:o.map f=some b):∃ a,o=some a/\f a=b:=qr6.mp h
theorem gX {α:Type _} {l:List α} {i:Nat} {a:α} (h:l[i]?=some a):∃ z:i<l.length,l[i]=a:=List.getElem?_eq_some_iff.mp h
open PySem PySem.Spec PyProof.Rows in abbrev gN := @List.getElem?_set_ne
open PySem PySem.Spec PyProof.Rows in abbrev gP := @Heap.get?_push_of_some
open PySem PySem.Spec PyProof.Rows in abbrev wB := @wpAny_bind
open PySem PySem.Spec PyProof.Rows in abbrev gR := @List.getElem?_append_right
open PySem PySem.Spec PyProof.Rows in abbrev gQ := @List.getElem?_eq_getElem
open PySem PySem.Spec PyProof.Rows in abbrev nL := @Nat.le_refl
set_option maxRecDepth 100000
namespace L2
open PySem PySem.Spec PyProof.Rows
abbrev Key:=Sum Int Str
def kX:Key->Value->Bool
 | .inl k,v=>Value.isInt k v
 | .inr x,v=>zf7 x v
def keyH (w:World):Key->Int
 | .inl k=>hashInt k
 | .inr x=>hashStr w x
theorem bx:∀ {k:Key} {v:Value},kX k v=true->(∃ i t,k=qz8 i/\v=zi2 i t)∨(∃ x t,k=qt6 x/\v=zi3 x t)
 | .inl i,v,h=>by obtain ⟨t,e⟩:=Value.isInt_shape (k:=i) (v:=v) h;exact .inl ⟨i,t,rfl,e⟩
 | .inr x,v,h=>by obtain ⟨t,e⟩:=Value.isStrOf_shape (x:=x) (v:=v) h;exact .inr ⟨x,t,rfl,e⟩
theorem r8 (i:Int) (t:Tok):kX (.inl i) (.int i t)=true:=by simp [kX,Value.isInt]
theorem r9 (x:Str) (t:Tok):kX (.inr x) (.str x t)=true:=by simp [kX,zf7]
theorem Am (a b:Int):decide ((qz8 a:Key)=qz8 b)=(a==b):=by
 by_cases e:a=b
 . subst e;simp
 . have h:¬ (qz8 a:Key)=qz8 b:=fun q=>e (qz8.inj q)
   rw [decide_eq_false h];exact (beq_eq_false_iff_ne.mpr e).symm
theorem An (a b:Str):decide ((qt6 a:Key)=qt6 b)=decide (a=b):=by
 by_cases e:a=b
 . subst e;simp
 . have h:¬ (qt6 a:Key)=qt6 b:=fun q=>e (qt6.inj q)
   rw [decide_eq_false h,decide_eq_false e]
theorem Ao (a:Int) (b:Str):decide ((qz8 a:Key)=qt6 b)=false:=decide_eq_false (fun q=>nomatch q)
theorem Ap (a:Str) (b:Int):decide ((qt6 a:Key)=qz8 b)=false:=decide_eq_false (fun q=>nomatch q)
noncomputable def bp (prog:qc5) (w:World):PySem.KeyKind prog w Key where
 is:=kX
 hash:=keyH w
 inj:=fun v a b W O=>by
  rcases bx W with ⟨i,t,rfl,rfl⟩ | ⟨x,t,rfl,rfl⟩
  . rcases bx O with ⟨j,u,rfl,e⟩ | ⟨y,u,rfl,e⟩
    . injection e with q _;rw [q]
    . exact nomatch e
  . rcases bx O with ⟨j,u,rfl,e⟩ | ⟨y,u,rfl,e⟩
    . exact nomatch e
    . injection e with q _;rw [q]
 byValue:=fun k v h=>by rcases bx h with ⟨i,t,rfl,rfl⟩ | ⟨x,t,rfl,rfl⟩<;>rfl
 pyHash:=fun L h=>by
  rcases bx L with ⟨i,t,rfl,rfl⟩ | ⟨x,t,rfl,rfl⟩
  . exact wpAny_pyHash_int h
  . exact wpAny_pyHash_str h
 eqBool:=fun U L h=>by
  rcases bx U with ⟨i,t,rfl,rfl⟩ | ⟨x,t,rfl,rfl⟩
  . rcases bx L with ⟨j,u,rfl,rfl⟩ | ⟨y,u,rfl,rfl⟩
    . rw [Am] at h;exact wpAny_eqBool_int h
    . rw [Ao] at h;exact qg6.int_str i t y u _ _ _ _ h
  . rcases bx L with ⟨j,u,rfl,rfl⟩ | ⟨y,u,rfl,rfl⟩
    . rw [Ap] at h;exact qg6.str_int x t j u _ _ _ _ h
    . rw [An] at h;exact wpAny_eqBool_str h
 «strs»:=fun k x t v h=>by
  rcases bx h with ⟨i,u,rfl,e⟩ | ⟨y,u,rfl,e⟩
  . exact nomatch e
  . injection e with q _;subst q;cases v<;>rfl
theorem m8 (prog:qc5) (w:World) (i:Int) (t:Tok):(bp prog w).is (.inl i) (.int i t)=true:=r8 i t
theorem e7 (prog:qc5) (w:World) (x:Str) (t:Tok):(bp prog w).is (.inr x) (.str x t)=true:=r9 x t
inductive V where
 | non | bl (b:Bool) | int (i:Int) | str (x:Str) | byt (b:Array UInt8) | flt (b:UInt64) | ref (a:Addr) | ty (n:String)
 deriving DecidableEq
noncomputable def RelV:V->Value->Prop
 | .non,u=>u=qh6
 | .bl b,u=>u=qu7 b
 | .int i,u=>∃ t,u=zi2 i t
 | .str x,u=>∃ t,u=zi3 x t
 | .byt b,u=>∃ t,u=Value.bytes b t
 | .flt b,u=>∃ t,u=Value.float b t
 | .ref a,u=>u=qf3 a
 | .ty n,u=>u=qo8 n
abbrev Vals:List V->List Value->Prop:=Paired RelV
variable {xs:List V} {us:List Value}
theorem Vals.length (r:Vals xs us):xs.length=us.length:=Paired.length r
theorem Vals.get:∀ {xs:List V} {us:List Value} {i:Nat} {x:V},Vals xs us->xs[i]?=some x->∃ u,us[i]?=some u/\RelV x u
 | _,_,_,_,.nil,e=>by simp at e
 | _,_,0,_,.cons r _,e=>by simp at e;subst e;exact ⟨_,rfl,r⟩
 | _,_,i+1,x,.cons _ t,e=>by obtain ⟨u,h1,h2⟩:=Vals.get (i:=i) (x:=x) t (by simpa using e);exact ⟨u,by simpa using h1,h2⟩
variable {u:Value}
theorem Vals.set {x:V} (r:RelV x u):∀ {xs:List V} {us:List Value} (i:Nat),Vals xs us->Vals (xs.set i x) (us.set i u)
 | _,_,_,.nil=>.nil
 | _,_,0,.cons _ t=>.cons r t
 | _,_,i+1,.cons q t=>.cons q (Vals.set r i t)
theorem Vals.append:∀ {xs ys:List V} {us q:List Value},Vals xs us->Vals ys q->Vals (xs++ys) (us++q)
 | _,_,_,_,.nil,s=>s
 | _,_,_,_,.cons r t,s=>.cons r (Vals.append t s)
theorem Vals.take:∀ {xs:List V} {us:List Value} (n:Nat),Vals xs us->Vals (xs.take n) (us.take n)
 | _,_,0,_=>.nil
 | _,_,_+1,.nil=>.nil
 | _,_,n+1,.cons r t=>.cons r (Vals.take n t)
theorem Vals.drop:∀ {xs:List V} {us:List Value} (n:Nat),Vals xs us->Vals (xs.drop n) (us.drop n)
 | _,_,0,r=>r
 | _,_,_+1,.nil=>.nil
 | _,_,n+1,.cons _ t=>Vals.drop n t
def RelO:Option V->Option Value->Prop
 | some v,some u=>RelV v u
 | none,none=>True
 | _,_=>False
def KV {κ:Type}:List (κ×V)->List (κ×Value)->Prop:=Paired fun (p:κ×V) (q:κ×Value)=>p.1=q.1/\RelV p.2 q.2
def kV:Key->V
 | .inl i=>.int i
 | .inr x=>.str x
inductive HO where
 | lst (xs:List V)
 | tup (xs:List V)
 | dK (kvs:List (Key×V)) | dT (kvs:List (List Key×V))
 | set (S:Int->Bool) (n:Nat)
 | ins (C dx:Addr) (fs:List (Str×V))
 | own (x:Addr)
 | xd (fs:List (Str×V))
 | met (f x:Addr)
 | rng (lo hi:Int)
 | frz (o:Obj) (u:HO)
 | tbl (ps:Array Value)
 | code (q:Str)
 | ctab (qs:List ((Nat×Nat)×Str))
 | ext (φ:Heap->Prop)
abbrev Hp:=Addr->Option HO
def upd (H:Hp) (a:Addr) (o:HO):Hp:=fun b=>if b=a then some o else H b
variable {H:Hp} {a:Addr} {o:HO}
theorem aq:upd H a o a=some o:=by unfold upd;rw [if_pos rfl]
variable {b:Addr}
theorem ao (h:b≠a):upd H a o b=H b:=by unfold upd;rw [if_neg h]
theorem CK {u:HO} (h:H a=some o) (h':H b=some u) (d:o≠u):a≠b:=by intro e;subst e;rw [h] at h';exact d (qd5 h')
theorem bi (h:H a=some o) (h':H b=none):a≠b:=by intro e;subst e;rw [h] at h';cases h'
section
variable (P:qc5) (w:World)
noncomputable def ObjOk (H:Hp) (h:Heap) (a:Addr):HO->Prop
 | .lst xs=>xs.length<=qb0/\∃ (its:List Value) (n:Nat),Vals xs its/\h.get? a=some {cls:=.type "list",data:=.seq its.toArray n}
 | .tup xs=>xs.length<=qb0/\∃ its:List Value,Vals xs its/\IsTup h a its.toArray
 | .dK kvs=>kvs.length<=qb0/\(a==qi8)=false/\∃ vs,KV kvs vs/\h.DictOf (bp P w) a vs
 | .dT kvs=>kvs.length<=qb0/\(a==qi8)=false/\∃ xs:List (List Key×Addr×Value),
     Paired (fun (p:List Key×V) (q:List Key×Addr×Value)=>p.1=q.1/\H q.2.1=some (.tup (p.1.map kV))/\RelV p.2 q.2.2) kvs xs∧
     ∃ o es ep,h.get? a=some o/\o.ExactDict/\o.data=.dict es ep/\es.toList=xs.map (entryOfKey (zf8 (bp P w)))/\(xs.map (·.1)).Nodup
 | .set S n=>h.SetOf (intKind P w) a S n
 | .ins C dx fs=>H dx=some (.own a)/\fs.length<=1000/\dx≠a/\h.get? a=some (xO9 C dx)∧∃ mA,h.Ns1 dx mA/\(∀ f,RelO (fs.lookup f) (mA f))/\PySem.Within mA (fs.map (·.1))
 | .own _=>∃ o,h.get? a=some o
 | .xd fs=>∃ mA,h.Ns1 a mA/\∀ f,RelO (fs.lookup f) (mA f)
 | .rng lo hi=>∃ t u v,h.get? a=some {cls:=.type "range",data:=.fields #[.int lo t,.int hi u,.int 1 v]}
 | .frz o u=>h.get? a=some o/\ObjOk H h a u
 | .tbl ps=>h.get? a=some {cls:=.none,data:=.fields ps}
 | .code q=>h.CodeRec (.ref a) q
 | .ctab qs=>∃ ps:Array Value,h.get? a=some {cls:=.none,data:=.fields ps}/\zc6 ps.toList/\∀ (pos:Pos) (q:Str) (v:Value),((pos.line,pos.col),q)∈qs->qp8 pos ps.toList=some v->∃ c o,v=.ref c/\H c=some (.frz o (.code q))
 | .met f x=>h.get? a=some (xP9 (.ref f) (.ref x))
 | .ext φ=>φ h/\(∃ o,h.get? a=some o)/\∀ h1 h2:Heap,φ h1->(∀ o,h1.get? a=some o->h2.get? a=some o)->φ h2
def HOk (H:Hp) (h:Heap):Prop:=∀ a o,H a=some o->ObjOk P w H h a o
end
section
variable {P:qc5} {w:World} {H H':Hp} {h h':Heap} {a:Addr} {o:HO}
theorem ObjOk.lt (x:ObjOk P w H h a o):a<h.objs.size:=by
 cases o with
 | lst xs=>obtain ⟨_,_,_,_,e⟩:=x;exact qa8 e
 | tup xs=>obtain ⟨_,_,_,p⟩:=x;exact p.lt
 | dK kvs=>obtain ⟨_,_,_,_,o,_,_,e,_⟩:=x;exact qa8 e
 | dT kvs=>obtain ⟨_,_,_,_,o,_,_,e,_⟩:=x;exact qa8 e
 | set S n=>obtain ⟨o,_,_,_,e,_⟩:=x;exact qa8 e
 | ins C dx fs=>obtain ⟨_,_,_,e,_⟩:=x;exact qa8 e
 | own y=>obtain ⟨_,e⟩:=x;exact qa8 e
 | xd fs=>obtain ⟨_,⟨_,_,_,e,_⟩,_⟩:=x;exact qa8 e
 | rng lo hi=>obtain ⟨_,_,_,e⟩:=x;exact qa8 e
 | frz ob u=>obtain ⟨e,_⟩:=x;exact qa8 e
 | tbl ps=>exact qa8 (show h.get? a=some _ from x)
 | code q=>obtain ⟨c,o,vs,t,e,g,_⟩:=x;cases e;exact qa8 g
 | ctab qs=>obtain ⟨ps,g,_⟩:=x;exact qa8 g
 | met f y=>exact qa8 (show h.get? a=some _ from x)
 | ext φ=>obtain ⟨_,⟨_,e⟩,_⟩:=x;exact qa8 e
theorem Paired.mapP {α β:Type} {F G:α->β->Prop}:∀ {q:List α} {L:List β},Paired F q L->(∀ a b,F a b->G a b)->Paired G q L
 | _,_,.nil,_=>.nil
 | _,_,.cons r t,f=>.cons (f _ _ r) (Paired.mapP t f)
theorem ObjOk.stay (x:ObjOk P w H h a o) (k:∀ b u,(b=a∨H b=some (.own a))->h.get? b=some u->h'.get? b=some u)
  (Z:∀ b,H b=some (.own a)->H' b=some (.own a)) (ht:∀ b xs,H b=some (.tup xs)->H' b=some (.tup xs)) (L:∀ b ob q,H b=some (.frz ob (.code q))->H' b=some (.frz ob (.code q))):ObjOk P w H' h' a o:=by
 induction o with
 | lst xs=>obtain ⟨z,its,n,r,e⟩:=x;exact ⟨z,its,n,r,k _ _ (.inl rfl) e⟩
 | tup xs=>obtain ⟨z,its,r,ob,e,c⟩:=x;exact ⟨z,its,r,ob,k _ _ (.inl rfl) e,c⟩
 | dK kvs=>obtain ⟨z,y,vs,r,ob,es,ep,e,c⟩:=x;exact ⟨z,y,vs,r,ob,es,ep,k _ _ (.inl rfl) e,c⟩
 | dT kvs =>obtain ⟨z,y,xs,r,ob,es,ep,e,c⟩:=x;exact ⟨z,y,xs,Paired.mapP r fun p q z=>⟨z.1,ht _ _ z.2.1,z.2.2⟩,ob,es,ep,k _ _ (.inl rfl) e,c⟩
 | set S n=>obtain ⟨ob,es,ep,t,e,c⟩:=x;exact ⟨ob,es,ep,t,k _ _ (.inl rfl) e,c⟩
 | ins C dx fs =>obtain ⟨d,z,ne,e,mA,⟨od,es,ep,e2,c⟩,r⟩:=x;exact ⟨Z _ d,z,ne,k _ _ (.inl rfl) e,mA,⟨od,es,ep,k _ _ (.inr d) e2,c⟩,r⟩
 | own y=>obtain ⟨ob,e⟩:=x;exact ⟨ob,k _ _ (.inl rfl) e⟩
 | xd fs=>obtain ⟨mA,⟨od,es,ep,e,c⟩,r⟩:=x;exact ⟨mA,⟨od,es,ep,k _ _ (.inl rfl) e,c⟩,r⟩
 | rng lo hi=>obtain ⟨t,u,v,e⟩:=x;exact ⟨t,u,v,k _ _ (.inl rfl) e⟩
 | frz ob u O=>obtain ⟨e,q⟩:=x;exact ⟨k _ _ (.inl rfl) e,O q⟩
 | tbl ps =>have e:h.get? a=some {cls:=.none,data:=.fields ps}:=x;show h'.get? a=some {cls:=.none,data:=.fields ps};exact k a _ (.inl rfl) e
 | code q=>obtain ⟨c,o,vs,t,e,g,r⟩:=x;cases e;exact ⟨a,o,vs,t,rfl,k a _ (.inl rfl) g,r⟩
 | ctab qs=>obtain ⟨ps,g,U,Y⟩:=x;exact ⟨ps,k a _ (.inl rfl) g,U,fun pos q v h1 h2=>let ⟨c,ob,e,g⟩:=Y pos q v h1 h2;⟨c,ob,e,L c ob q g⟩⟩
 | met f y =>have e:h.get? a=some (xP9 (.ref f) (.ref y)):=x;show h'.get? a=some (xP9 (.ref f) (.ref y));exact k a _ (.inl rfl) e
 | ext φ=>obtain ⟨p,⟨o,e⟩,st⟩:=x;exact ⟨st _ _ p fun o q=>k _ _ (.inl rfl) q,⟨o,k _ _ (.inl rfl) e⟩,st⟩
theorem HOk.lt (x:HOk P w H h) (e:H a=some o):a<h.objs.size:=(x a o e).lt
theorem HOk.fresh (x:HOk P w H h) (e:h.objs.size<=a):H a=none:=by
 cases q:H a with
 | none=>rfl
 | some u=>exact absurd (qb4 (x.lt q) e) (qm7 _)
theorem HOk.kept (x:HOk P w H h) (k:∀ b u,h.get? b=some u->h'.get? b=some u):HOk P w H h':=fun a o e =>(x a o e).stay (fun b u _ q=>k b u q) (fun _ q=>q) (fun _ _ q=>q) fun _ _ _ q=>q
theorem HOk.laid (x:HOk P w H h) (k:∀ b u,h.get? b=some u->h'.get? b=some u) (hp:h.objs.size<=a) (new:ObjOk P w (upd H a o) h' a o):HOk P w (upd H a o) h':=fun b u e=>by
 have L:=x.fresh hp;by_cases O:b=a
 . subst O;rw [aq] at e;cases e;exact new
 . rw [ao O] at e;exact (x b u e).stay (fun c v _ q=>k c v q) (fun c q=>by rw [ao (bi q L)];exact q) (fun c xs q=>by rw [ao (bi q L)];exact q) fun c ob xs q=>by rw [ao (bi q L)];exact q
end
def Rd (H:Hp) (a:Addr) (u:HO):Prop:=H a=some u∨∃ o,H a=some (.frz o u)
theorem Rd.of {u:HO} (h:H a=some u):Rd H a u:=.inl h
variable {P:qc5} {w:World} {h:Heap}
theorem Rd.ok {u:HO} (r:Rd H a u) (x:HOk P w H h):ObjOk P w H h a u:=by
 rcases r with r | ⟨o,r⟩
 . exact x a u r
 . obtain ⟨_,q⟩:=x a _ r;exact q
def Mut:Option HO->Prop
 | some (.lst _)=>True
 | some (.dK _)=>True
 | some (.dT _)=>True
 | some (.set _ _)=>True
 | some (.ins _ _ _)=>True
 | some (.ext _)=>True
 | _=>False
section
variable {P:qc5} {w:World} {H:Hp} {h h':Heap} {x e:Addr} {o':HO}
theorem HOk.write (ok:HOk P w H h) (U:Mut (H x)) (he:e=x∨H e=some (.own x)) (k:∀ b u,b≠e->h.get? b=some u->h'.get? b=some u) (heo:∃ u,h'.get? e=some u)
  (new:ObjOk P w (upd H x o') h' x o'):HOk P w (upd H x o') h':=fun b u q=>by
 have O:∀ c y,H c=some (.own y)->c≠x:=fun c y r z=>by subst z;rw [r] at U;exact U
 have W:∀ c xs,H c=some (.tup xs)->c≠x:=fun c xs r z=>by subst z;rw [r] at U;exact U
 have Y:∀ c ob xs,H c=some (.frz ob (.code xs))->c≠x:=fun c ob xs r z=>by subst z;rw [r] at U;exact U
 by_cases hb:b=x
 . subst hb;rw [aq] at q;cases q;exact new
 . rw [ao hb] at q;by_cases L:b=e
   . have q':H b=some (.own x):=by
      rcases he with z | z
      . exact absurd (L.trans z) hb
      . rw [L];exact z
     rw [q] at q';cases q'
     obtain ⟨v,hv⟩:=heo;exact ⟨v,by rw [L];exact hv⟩
   . refine (ok b u q).stay (fun c v Z r=>k c v ?_ r) (fun c r=>by rw [ao (O c b r)];exact r) (fun c xs r=>by rw [ao (W c xs r)];exact r) fun c ob xs r=>by rw [ao (Y c ob xs r)];exact r
     rcases Z with rfl | Z
     . exact L
     . rintro rfl;rcases he with z | z
       . exact O c b Z z
       . rw [Z] at z;cases z;exact hb rfl
end
structure Un (fs ex:List Addr) (H H':Hp) (h h':Heap):Prop where
 keep:∀ b o,h.get? b=some o->H b=none->b∉fs->b∉ex->h'.get? b=some o
 slot:∀ b o,h.get? b=some o->H b=none->b∈fs->b∉ex->∃ sl,h'.get? b=some {o with slots:=sl}
 free:∀ b o,h.get? b=some o->H b=none->b∉ex->H' b=none
 there:∀ b o,h.get? b=some o->b∉ex->∃ o',h'.get? b=some o'
 tups:∀ b xs,H b=some (.tup xs)->H' b=some (.tup xs)
 frzs:∀ b o u,H b=some (.frz o u)->H' b=some (.frz o u)
 tbls:∀ b ps,H b=some (.tbl ps)->∃ more,H' b=some (.tbl (ps++more))
 cts:∀ b qs,H b=some (.ctab qs)->H' b=some (.ctab qs)
section
variable {fs fs' ex ex':List Addr} {H H1 H2:Hp} {h h1 h2 h':Heap} {a x e:Addr} {o:HO}
theorem Un.any (u:Un fs ex H H1 h h1) {ob:Obj} (q:h.get? b=some ob) (n:H b=none) (L:b∉ex):∃ sl,h1.get? b=some {ob with slots:=sl}:=by
 by_cases O:b∈fs
 . exact u.slot b ob q n O L
 . exact ⟨ob.slots,u.keep b ob q n O L⟩
theorem Un.kept (k:∀ b u,h.get? b=some u->h'.get? b=some u):Un fs ex H H h h':=⟨fun b ob q _ _ _=>k b ob q,fun b ob q _ _ _=>⟨ob.slots,k b ob q⟩,fun _ _ _ n _=>n,fun b ob q _=>⟨ob,k b ob q⟩,fun _ _ q=>q,fun _ _ _ q=>q,fun _ ps q=>⟨#[],by rw [q];simp⟩,fun _ _ q=>q⟩
theorem Un.refl:Un fs ex H H h h:=Un.kept fun _ _ q=>q
theorem Un.laid (k:∀ b u,h.get? b=some u->h'.get? b=some u) (hp:h.objs.size<=a) (L:H a=none):Un fs ex H (upd H a o) h h' where
 keep:=fun b u q _ _ _=>k b u q
 slot:=fun b u q _ _ _=>⟨u.slots,k b u q⟩
 free:=fun b u q n _=>by rw [ao (qc1 (qb4 (qa8 q) hp))];exact n
 there:=fun b u q _=>⟨u,k b u q⟩
 tups:=fun b xs q=>by rw [ao (bi q L)];exact q
 frzs:=fun b u xs q=>by rw [ao (bi q L)];exact q
 tbls:=fun b ps q=>⟨#[],by rw [ao (bi q L),q];simp⟩
 cts:=fun b qs q=>by rw [ao (bi q L)];exact q
theorem Un.write (O:Mut (H x)) (he:e=x∨H e=some (.own x)) (k:∀ b u,b≠e->h.get? b=some u->h'.get? b=some u) (W:∃ u,h'.get? e=some u):Un fs ex H (upd H x o) h h':=by
 have Y:∀ b,H b=none->b≠x:=fun b n z=>by subst z;rw [n] at O;exact O
 have Z:∀ b,H b=none->b≠e:=fun b n z=>by
  subst z;rcases he with r | r
  . exact Y b n r
  . rw [n] at r;cases r
 have U:∀ b u,H b=some u->¬ Mut (some u)->b≠x:=fun b u q nm z=>by subst z;rw [q] at O;exact nm O
 refine ⟨fun b u q n _ _=>k b u (Z b n) q,fun b u q n _ _=>⟨u.slots,k b u (Z b n) q⟩,fun b u q n _=>by rw [ao (Y b n)];exact n,fun b u q _=>?_,fun b xs q=>by rw [ao (U b _ q fun z=>z)];exact q,fun b u xs q=>by rw [ao (U b _ q fun z=>z)];exact q,fun b ps q=>⟨#[],by rw [ao (U b _ q fun z=>z),q];simp⟩,fun b xs q=>by rw [ao (U b _ q fun z=>z)];exact q⟩
 by_cases L:b=e
 . subst L;exact W
 . exact ⟨u,k b u L q⟩
end
def trk (h:Heap) (H:Hp):List Addr:=(qc2 h.objs.size).filter fun a=>(H a).isSome
def kN (h:Heap) (H:Hp):Heap:=PySem.W.hideAll h (trk h H)
theorem se (h:Heap) (H:Hp):(kN h H).objs.size=h.objs.size:=PySem.W.hideAll_size _ _
theorem ua {o:Obj} (e:h.get? b=some o) (n:H b=none):(kN h H).get? b=some o:=PySem.W.hideAll_get _ e fun L=>by have q:(H b).isSome=true:=(qd6.mp L).2;rw [n] at q;simp at q
theorem w9 {o:Obj} (e:(kN h H).get? b=some o):h.get? b=some o/\H b=none:=by
 have L:h.get? b=some o:=PySem.W.of_hideAll (trk h H) e;refine ⟨L,?_⟩;cases q:H b with
 | none=>rfl
 | some x =>have O:b∈trk h H:=qd6.mpr ⟨qd9.mpr (qa8 L),by simp [q]⟩;have z:(kN h H).get? b=none:=PySem.W.hideAll_none (trk h H) O;rw [z] at e;cases e
def xa (g h:Heap) (L:Addr):List (Addr×Obj):=(qc2 h.objs.size).filterMap fun a=>if a=L∨(g.get? a).isSome=true then none else (h.get? a).map fun o=>(a,o)
def rest (g h:Heap) (L d:Addr):List (Addr×Obj):=(xa g h L).filter fun p=>decide (p.1≠d)
def nestNames:List Str:=["way_to_reading","spoilt"]
def m9 (x:Str) (ss:List Stmt):List ((Nat×Nat)×Str):=ss.filterMap fun st=>match st with
 | .FunctionDef name _ _ _ _ _ _ _ _ pos=>some ((pos.line,pos.col),x++".<locals>."++name)
 | _=>none
noncomputable def o8 (K:xA9) (x:Str):Option (Addr×List ((Nat×Nat)×Str)):=match PySem.W.tabIn K x with
 | some (_,P)=>(match xB9 K qc3 x with
  | some (some (.ref f))=>(match K.lookup f with
   | some o=>(match o.data with
    | .func fd=>(match fd.body with
     | .stmts b=>some (P,m9 x b)
     | _=>none)
    | _=>none)
   | none=>none)
  | _=>none)
 | none=>none
def cF (K:xA9):List (Addr×List ((Nat×Nat)×Str)):=nestNames.filterMap (o8 K)
structure Mod (K:xA9) (mg:Str->Option Value) (base:Heap):Prop where
 kin:K.In base
 glob:base.Ns qc3 mg
 blt:∃ mb,base.Ns qu8 mb/\∀ x:Str,x≠"__name__"->mb x=qe4 x
 nolimit:base.NoLimit
structure Cx where
 prog:qc5
 w:World
 K:xA9
 mg:Str->Option Value
 base:Heap
 A:qd7
 N:List Str
 s₀:qa4
 H₀:Hp
 env:Env
 outer:List Env
 stack:List Env
 ex:List Addr
 fn:Str->Bool
 calm:Bool
 pn:List (Addr×Obj)
 xe:Value->qa4->Prop
def frs (l:List Env):List Addr:=l.filterMap (·.frame)
abbrev Cx.fs (X:Cx):List Addr:=frs X.outer
def Vis (sc:Scope) (x:Str):Prop:=sc.names.lookup x=some .local∨sc.names.lookup x=some .cell∨sc.names.lookup x=some .free
def Loc (sc:Scope) (x:Str):Prop:=sc.names.lookup x=some .local∨sc.names.lookup x=some .cell
noncomputable def Look (env:Env) (h:Heap) (m:Str->Option Value) (x:Str) (u:Value):Prop:=(env.kindOf x=some .local/\m x=some u)∨((env.kindOf x=some .cell∨env.kindOf x=some .free)/\∃ c,env.cells.lookup x=some c/\h.IsCell c (some u))
structure Cx.Ok (X:Cx):Prop where
 mod:Mod X.K X.mg X.base
 kind:X.env.scope.kind=.function
 glob:X.env.globals=qc3
 blt:X.env.builtins=qu8
 above:X.s₀.heap.objs.size<=X.env.locals
 inj:∀ x y c,X.env.cells.lookup x=some c->X.env.cells.lookup y=some c->x=y
 has:∀ x,(X.env.kindOf x=some .cell∨X.env.kindOf x=some .free)->∃ c,X.env.cells.lookup x=some c
 cab:∀ x c,X.fn x=true->X.env.cells.lookup x=some c->X.s₀.heap.objs.size<=c
 hd:X.calm=true->X.A.handled=none
 frames:X.A.frames=some X.stack
 stk:X.stack=X.outer∨(X.stack=X.env::X.outer/\X.env.frame=some X.env.locals)
 exf:∀ b∈X.ex,b≠X.env.locals/\∀ x c,X.env.cells.lookup x=some c->c≠b
 bs:∀ b o,X.base.get? b=some o->X.s₀.heap.get? b=some o/\X.H₀ b=none
 bsz:X.base.objs.size<=X.s₀.heap.objs.size
 noex:∀ b o,X.base.get? b=some o->b∉X.ex
 exfs:∀ b∈X.ex,b∉X.fs
 funs:X.s₀.heap.FunFrames X.base X.outer
 frf:∀ b∈X.fs,X.H₀ b=none
 tb:∀ p∈cF X.K,X.H₀ p.1=some (.ctab p.2)
structure Inv (X:Cx) (pins:List (Addr×Obj)) (σ:List (Option V)) (H:Hp) (s:qa4):Prop where
 ok:X.Ok
 os:s.os=X.s₀.os
 bare:zc7 s.gens
 base:Un X.fs X.ex X.H₀ H X.s₀.heap s.heap
 loc:∃ m,s.heap.Ns X.env.locals m/\∀ (i:Nat) (x:Str) (v:V),X.N[i]?=some x->σ[i]?=some (some v)->Vis X.env.scope x->∃ u,RelV v u/\Look X.env s.heap m x u
 cell:∀ x c,X.env.cells.lookup x=some c->∃ v,s.heap.IsCell c v
 free:H X.env.locals=none
 freeC:∀ x c,X.env.cells.lookup x=some c->H c=none
 pin:∀ p∈X.pn++pins,s.heap.get? p.1=some p.2/\H p.1=none/\p.1≠X.env.locals/\p.1∉X.fs/\∀ v,p.2.data≠.cell v
 hok:HOk X.prog X.w H s.heap
 len:σ.length=X.N.length
variable {g':Array GenState} {t' i j:Nat} {d':Drawn} {ch:List Addr} {it:Addr} {N:List Str} {x:Str} {M:Model} {A:qd7} {E:Value->qa4->Prop} {v:V} {Q:Unit->qa4->Prop} {s':qa4}
section
variable {X:Cx} {pins:List (Addr×Obj)} {σ:List (Option V)} {H H':Hp} {s:qa4} {h':Heap}
theorem Cx.Ok.nofr (ok:X.Ok) {o:Obj} (e:X.base.get? b=some o):b∉X.fs:=fun q=>by have:=(ok.funs.mem q).1;rw [e] at this;cases this
theorem Inv.bs (I:Inv X pins σ H s):∀ b o,X.base.get? b=some o->s.heap.get? b=some o/\H b=none:=fun b o e =>⟨I.base.keep b o (I.ok.bs b o e).1 (I.ok.bs b o e).2 (I.ok.nofr e) (I.ok.noex b o e),I.base.free b o (I.ok.bs b o e).1 (I.ok.bs b o e).2 (I.ok.noex b o e)⟩
theorem Inv.bk (I:Inv X pins σ H s):∀ b o,X.base.get? b=some o->s.heap.get? b=some o:=fun b o e=>(I.bs b o e).1
theorem Inv.mod (I:Inv X pins σ H s):Mod X.K X.mg X.base:=I.ok.mod
theorem Inv.kIn (I:Inv X pins σ H s):X.K.In s.heap:=I.ok.mod.kin.keeps I.bk
theorem Inv.fr (I:Inv X pins σ H s):∃ m,Fr X.base X.env.locals s.heap m:=
 let ⟨m,hn,_⟩:=I.loc
 ⟨m,hn,I.bk,qb8 I.ok.bsz I.ok.above⟩
theorem Inv.lt (I:Inv X pins σ H s):X.env.locals<s.heap.objs.size:=let ⟨_,hn,_⟩:=I.loc;hn.lt
theorem Inv.sz (I:Inv X pins σ H s):X.s₀.heap.objs.size<=s.heap.objs.size:=qb8 I.ok.above (qj0 I.lt)
theorem Inv.nofs (I:Inv X pins σ H s) (h:s.heap.objs.size<=a):a∉X.fs:=fun q=>by obtain ⟨_,o,L,_⟩:=I.ok.funs.mem q;exact absurd (qb4 (qa8 L) (qb8 I.sz h)) (qm7 _)
theorem Inv.cne (I:Inv X pins σ H s):∀ x c,X.env.cells.lookup x=some c->c≠X.env.locals:=fun x c e z=>by obtain ⟨v,o,O,U⟩:=I.cell x c e;obtain ⟨m,⟨o',es,ep,L,q,_⟩,_⟩:=I.loc;rw [z,L] at O;cases O;rw [q] at U;cases U
theorem Inv.funs (I:Inv X pins σ H s):s.heap.FunFrames X.base X.outer:=by
 have all:∀ (l:List Env),(∀ b∈frs l,b∈X.fs)->X.s₀.heap.FunFrames X.base l->s.heap.FunFrames X.base l:=by
  intro l;induction l with
  | nil=>intro _ _;trivial
  | cons env r Z =>
   intro W Y;obtain ⟨hk,⟨L,o,q,hn,ho,hd⟩,hr⟩:=Y;have O:L∈X.fs:=W L (by unfold frs;rw [qv0,q];exact qe0);obtain ⟨sl,e⟩:=I.base.slot L o ho (I.ok.frf L O) O fun z=>I.ok.exfs L z O
   exact ⟨hk,⟨L,_,q,hn,e,hd⟩,Z (fun b U=>W b (by unfold frs;rw [qv0,q];exact qd1 _ U)) hr⟩
 exact all X.outer (fun _ U=>U) I.ok.funs
theorem Inv.stack (I:Inv X pins σ H s):s.heap.FunFrames X.base X.stack:=by
 rcases I.ok.stk with e | ⟨e,L⟩
 . rw [e];exact I.funs
 . rw [e];obtain ⟨m,q,_⟩:=I.loc;refine .cons (by rw [I.ok.kind];decide) L q ?_ I.funs;exact Heap.get?_none_of_le (qb8 I.ok.bsz I.ok.above)
theorem Inv.stkSub (I:Inv X pins σ H s):∀ b∈frs X.stack,b∈X.env.locals::X.fs:=fun b q=>by
 rcases I.ok.stk with e | ⟨e,L⟩
 . rw [e] at q;exact qd1 _ q
 . rw [e] at q;unfold frs at q;rw [qv0,L] at q;exact q
theorem Inv.stkFree (I:Inv X pins σ H s):∀ b∈frs X.stack,H b=none:=fun b q=>by
 rcases qb2.mp (I.stkSub b q) with e | q
 . rw [e];exact I.free
 . obtain ⟨_,o,L,_⟩:=I.ok.funs.mem q;exact I.base.free b o L (I.ok.frf b q) fun z=>I.ok.exfs b z q
theorem Inv.step (I:Inv X pins σ H s)
 (W:∀ b∈ch,(b∈X.ex∨X.s₀.heap.objs.size<=b)/\b≠X.env.locals/\(∀ x c,X.env.cells.lookup x=some c->c≠b)/\∀ p∈X.pn++pins,p.1≠b)
 (keep:∀ b o,b≠X.env.locals->b∉X.fs->b∉ch->s.heap.get? b=some o->H b=none->h'.get? b=some o)
 (slot:∀ b o,b≠X.env.locals->b∈X.fs->b∉ch->s.heap.get? b=some o->H b=none->∃ sl,h'.get? b=some {o with slots:=sl}) (free:∀ b o,b∉ch->s.heap.get? b=some o->H b=none->H' b=none)
 (there:∀ b o,b∉ch->s.heap.get? b=some o->∃ o',h'.get? b=some o')
 (tups:∀ b xs,H b=some (.tup xs)->H' b=some (.tup xs)) (frzs:∀ b o u,H b=some (.frz o u)->H' b=some (.frz o u)) (tbls:∀ b ps,H b=some (.tbl ps)->∃ more,H' b=some (.tbl (ps++more))) (cts:∀ b qs,H b=some (.ctab qs)->H' b=some (.ctab qs))
 (ns:∀ m,s.heap.Ns X.env.locals m->h'.Ns X.env.locals m) (hok:HOk X.prog X.w H' h') (hg:zc7 g') :
  Inv X pins σ H' {s with heap:=h',gens:=g',drawn:=d',toks:=t'}:=by
 have neL:∀ b o,X.s₀.heap.get? b=some o->b≠X.env.locals:=fun b o e=>qc1 (qb4 (qa8 e) I.ok.above)
 have Z:∀ b o,X.s₀.heap.get? b=some o->b∉X.ex->b∉ch:=fun b o e L hb=>by
  rcases (W b hb).1 with z | z
  . exact L z
  . exact absurd (qb4 (qa8 e) z) (qm7 _)
 have U:∀ x c,X.env.cells.lookup x=some c->∀ v,s.heap.IsCell c v->h'.IsCell c v:=fun x c e v ⟨o,ho,hd⟩=>by
  have O:c∉ch:=fun z=>(W c z).2.2.1 x c e rfl
  by_cases hc:c∈X.fs
  . obtain ⟨sl,q⟩:=slot c o (I.cne x c e) hc O ho (I.freeC x c e);exact ⟨_,q,hd⟩
  . exact ⟨o,keep c o (I.cne x c e) hc O ho (I.freeC x c e),hd⟩
 refine ⟨I.ok,I.os,hg,⟨fun b o e n hb L=>?_,fun b o e n hb L=>?_,fun b o e n L=>?_,fun b o e L=>?_,fun b xs e=>tups b xs (I.base.tups b xs e),fun b o xs e=>frzs b o xs (I.base.frzs b o xs e),fun b ps e=>?_,fun b qs e=>cts b qs (I.base.cts b qs e)⟩,?_,fun x c e=>?_,?_,fun x c e=>?_,fun p hp=>?_,hok,I.len⟩
 . exact keep b o (neL b o e) hb (Z b o e L) (I.base.keep b o e n hb L) (I.base.free b o e n L)
 . obtain ⟨sl,Y⟩:=I.base.slot b o e n hb L;obtain ⟨sl',e2⟩:=slot b _ (neL b o e) hb (Z b o e L) Y (I.base.free b o e n L);exact ⟨sl',e2⟩
 . obtain ⟨o',Y⟩:=I.base.there b o e L;exact free b o' (Z b o e L) Y (I.base.free b o e n L)
 . obtain ⟨o',Y⟩:=I.base.there b o e L;exact there b o' (Z b o e L) Y
 . obtain ⟨m1,Y⟩:=I.base.tbls b ps e;obtain ⟨m2,e2⟩:=tbls b _ Y;exact ⟨m1++m2,by rw [e2,Array.append_assoc]⟩
 . obtain ⟨m,hn,hl⟩:=I.loc;refine ⟨m,ns m hn,fun i x v Y e2 e3=>?_⟩;obtain ⟨u,r,l⟩:=hl i x v Y e2 e3;refine ⟨u,r,?_⟩;rcases l with l | ⟨k,c,e,z⟩
   . exact .inl l
   . exact .inr ⟨k,c,e,U x c e _ z⟩
 . obtain ⟨v,z⟩:=I.cell x c e;exact ⟨v,U x c e v z⟩
 . obtain ⟨m,⟨o,_,_,ho,_⟩,_⟩:=I.loc;exact free _ o (fun z=>(W _ z).2.1 rfl) ho I.free
 . obtain ⟨v,o,ho,hd⟩:=I.cell x c e;exact free c o (fun z=>(W c z).2.2.1 x c e rfl) ho (I.freeC x c e)
 . obtain ⟨e,n,ne,nf,d⟩:=I.pin p hp;have O:p.1∉ch:=fun z=>(W p.1 z).2.2.2 p hp rfl
   exact ⟨keep p.1 p.2 ne nf O e n,free p.1 p.2 O e n,ne,nf,d⟩
theorem Inv.un (I:Inv X pins σ H s) (u:Un X.fs [] H H' s.heap h') (L:HOk X.prog X.w H' h'):Inv X pins σ H' {s with heap:=h',toks:=t'}:=by
 obtain ⟨m,⟨o,es,ep,Y,r⟩,_⟩:=id I.loc;obtain ⟨sl,Z⟩:=u.any Y I.free (by simp)
 exact I.step (g':=s.gens) (d':=s.drawn) (ch:=[]) (fun _ z=>nomatch z) (fun b o _ U _ e n=>u.keep b o e n U (by simp)) (fun b o _ U _ e n=>u.slot b o e n U (by simp)) (fun b o _ e n=>u.free b o e n (by simp)) (fun b o _ e=>u.there b o e (by simp)) u.tups u.frzs u.tbls u.cts (fun m' hm=>by
  obtain ⟨o',W,O,q,r'⟩:=hm;rw [Y] at q;cases q
  exact ⟨_,W,O,Z,r'⟩) L I.bare
theorem Inv.call {ch:List Addr} (I:Inv X pins σ H s) (u:Un (frs X.stack) ch H H' s.heap h') (W:HOk X.prog X.w H' h') (hg:zc7 g')
 (L:∀ b∈ch,(b∈X.ex∨X.s₀.heap.objs.size<=b)/\b≠X.env.locals/\(∀ x c,X.env.cells.lookup x=some c->c≠b)/\∀ p∈X.pn++pins,p.1≠b) :
  Inv X pins σ H' {s with heap:=h',gens:=g',drawn:=d',toks:=t'}:=by
 obtain ⟨m,⟨o,es,ep,ho,r⟩,_⟩:=id I.loc;obtain ⟨sl,U⟩:=u.any ho I.free fun z=>(L _ z).2.1 rfl
 exact I.step (ch:=ch) L (fun b o U hb q e n=>u.keep b o e n (fun z=>(qb2.mp (I.stkSub b z)).elim U hb) q) (fun b o _ _ q e n=>u.any e n q) (fun b o q e n=>u.free b o e n q) (fun b o q e=>u.there b o e q) u.tups u.frzs u.tbls u.cts (fun m' hm=>by
  obtain ⟨o',Z,Y,O,r'⟩:=hm;rw [ho] at O;cases O
  exact ⟨_,Z,Y,U,r'⟩) W hg
theorem Inv.turned (I:Inv X pins σ H s) (k:∀ b o,b≠it->s.heap.get? b=some o->h'.get? b=some o) (Z:H it=none) (U:it≠X.env.locals)
 (h1:it∈X.ex∨X.s₀.heap.objs.size<=it) (h2:∀ x c,X.env.cells.lookup x=some c->c≠it) (h3:∀ p∈X.pn++pins,p.1≠it):Inv X pins σ H {s with heap:=h',toks:=t'}:=by
 have O:∀ b u,H b=some u->b≠it:=fun b u e z=>by rw [z,Z] at e;cases e
 refine I.step (g':=s.gens) (d':=s.drawn) (ch:=[it]) (fun b hb=>?_) (fun b o _ _ L e _=>k b o (fun z=>L (by simp [z])) e) (fun b o _ _ L e _=>⟨o.slots,k b o (fun z=>L (by simp [z])) e⟩) (fun _ _ _ _ n=>n)
  (fun b o L e=>⟨o,k b o (fun z=>L (by simp [z])) e⟩) (fun _ _ e=>e) (fun _ _ _ e=>e) (fun b ps e=>⟨#[],by rw [e];simp⟩) (fun _ _ e=>e) (fun m Y=>?_) (fun b u e=>?_) I.bare
 . have e:b=it:=by simpa using hb
   subst e;exact ⟨h1,U,h2,h3⟩
 . obtain ⟨o,es,ep,W,r⟩:=Y;exact ⟨o,es,ep,k _ o (qn9 U) W,r⟩
 . refine (I.hok b u e).stay (fun c v L q=>k c v ?_ q) (fun _ q=>q) (fun _ _ q=>q) fun _ _ _ q=>q
   rcases L with z | z
   . rw [z];exact O b u e
   . exact O c _ z
theorem Inv.tok (I:Inv X pins σ H s) (t:Nat):Inv X pins σ H {s with toks:=t}:=I.un (h':=s.heap) (t':=t) Un.refl I.hok
theorem Inv.kept (I:Inv X pins σ H s) (k:∀ b u,s.heap.get? b=some u->h'.get? b=some u):Inv X pins σ H {s with heap:=h',toks:=t'}:=I.un (Un.kept k) (I.hok.kept k)
theorem Inv.laid (I:Inv X pins σ H s) (k:∀ b u,s.heap.get? b=some u->h'.get? b=some u) (hp:s.heap.objs.size<=a) (new:ObjOk X.prog X.w (upd H a o) h' a o) :
  Inv X pins σ (upd H a o) {s with heap:=h',toks:=t'}:=I.un (Un.laid k hp (I.hok.fresh hp)) (I.hok.laid k hp new)
theorem Inv.write {x e:Addr} (I:Inv X pins σ H s) (O:Mut (H x)) (L:e=x∨H e=some (.own x)) (k:∀ b u,b≠e->s.heap.get? b=some u->h'.get? b=some u) (q:∃ u,h'.get? e=some u) (new:ObjOk X.prog X.w (upd H x o) h' x o):Inv X pins σ (upd H x o) {s with heap:=h',toks:=t'}:=I.un (Un.write O L k q) (I.hok.write O L k q new)
theorem Inv.weak {σ':List (Option V)} (I:Inv X pins σ H s) (q:σ'.length=σ.length) (w:∀ (i:Nat) v,σ'[i]?=some (some v)->σ[i]?=some (some v)):Inv X pins σ' H s:=⟨I.ok,I.os,I.bare,I.base,let ⟨m,hn,hl'⟩:=I.loc;⟨m,hn,fun i x v L e2 O=>hl' i x v L (w i v e2) O⟩,I.cell,I.free,I.freeC,I.pin,I.hok,q.trans I.len⟩
theorem Inv.pins_of {q:List (Addr×Obj)} (I:Inv X pins σ H s) (h:∀ p∈q,s.heap.get? p.1=some p.2/\H p.1=none/\p.1≠X.env.locals/\p.1∉X.fs/\∀ v,p.2.data≠.cell v):Inv X q σ H s:=⟨I.ok,I.os,I.bare,I.base,I.loc,I.cell,I.free,I.freeC,fun p hp=>(qg3.mp hp).elim (fun z=>I.pin p (qp4 _ z)) (h p),I.hok,I.len⟩
theorem na (q:N.Nodup) (a:N[i]?=some x) (b:N[j]?=some x):i=j:=by obtain ⟨h1,L⟩:=gX a;obtain ⟨h2,e2⟩:=gX b;exact (List.getElem_inj q).mp (L.trans e2.symm)
theorem kY (I:Inv X pins σ H s) (hN:X.N.Nodup) (hi:X.N[i]?=some x) (Y:Loc X.env.scope x) (r:RelV v u)
 (h:∀ s',Inv X pins (σ.set i (some v)) H s'->(∃ a,qm5 a s.heap s'.heap/\(a=X.env.locals∨X.env.cells.lookup x=some a))->Q () s') (hf:X.fn x=true∨X.env.scope.names.lookup x=some .local:=by first | exact .inl rfl | exact .inr rfl | assumption):wpAny M A (zc8 X.env x u) Q E s:=by
 obtain ⟨m,hn,hl⟩:=id I.loc;have hcls:(X.env.scope.kind==.class||(X.env.scope.kind==.module&&X.env.locals != X.env.globals))=false:=by rw [I.ok.kind];rfl
 have hiσ:i<σ.length:=by rw [I.len];exact (gX hi).1
 have cne:=I.cne
 have U:∀ {a:Addr} {h':Heap},(∃ o,s.heap.get? a=some o/\H a=none)->qm5 a s.heap h'->HOk X.prog X.w H h':=fun {a h'} ha L b ob e=>by
  obtain ⟨_,_,Z⟩:=ha;refine (I.hok b ob e).stay (fun c w' W q=>(L.2 c ?_).trans q) (fun _ q=>q) (fun _ _ q=>q) fun _ _ _ q=>q
  rintro rfl;rcases W with rfl | W
  . rw [Z] at e;cases e
  . rw [Z] at W;cases W
 rcases Y with hk | hk
 . refine zc9 hk hn (fun h' hn' L=>?_) hcls;obtain ⟨oL,_,_,hoL,_⟩:=id hn;refine h _ ⟨I.ok,I.os,I.bare,⟨fun b o e n hb Y=>?_,fun b o e n hb Y=>?_,I.base.free,fun b o e Y=>?_,I.base.tups,I.base.frzs,I.base.tbls,I.base.cts⟩,⟨_,hn',fun j y v' O e2 e3=>?_⟩,fun y c e=>?_,I.free,I.freeC,fun p hp=>?_,U ⟨oL,hoL,I.free⟩ L,by simpa using I.len⟩ ⟨_,L,.inl rfl⟩
   . exact (L.2 b (qc1 (qb4 (qa8 e) I.ok.above))).trans (I.base.keep b o e n hb Y)
   . obtain ⟨sl,O⟩:=I.base.slot b o e n hb Y;exact ⟨sl,(L.2 b (qc1 (qb4 (qa8 e) I.ok.above))).trans O⟩
   . obtain ⟨o',O⟩:=I.base.there b o e Y;exact ⟨o',(L.2 b (qc1 (qb4 (qa8 e) I.ok.above))).trans O⟩
   . by_cases hj:j=i
     . subst hj;rw [hi] at O;cases O
       rw [qd8 hiσ] at e2;cases e2;exact ⟨u,r,.inl ⟨hk,by simp⟩⟩
     . rw [gN (qn9 hj)] at e2;obtain ⟨u',r',q⟩:=hl j y v' O e2 e3;refine ⟨u',r',?_⟩;rcases q with ⟨k,e⟩ | ⟨k,c,e,z⟩
       . refine .inl ⟨k,?_⟩;have:y≠x:=fun e=>hj (na hN O (e▸hi))
         simp [this,e]
       . exact .inr ⟨k,c,e,z.sameBut L (cne y c e)⟩
   . obtain ⟨w',z⟩:=I.cell y c e;exact ⟨w',z.sameBut L (cne y c e)⟩
   . obtain ⟨e,n,ne,nf,d⟩:=I.pin p hp;exact ⟨(L.2 p.1 ne).trans e,n,ne,nf,d⟩
 . have hfn:X.fn x=true:=by
    rcases hf with z | z
    . exact z
    . rw [z] at hk;cases hk
   obtain ⟨c,W⟩:=I.ok.has x (.inl hk);obtain ⟨w',z⟩:=I.cell x c W;refine wpAny_storeName_cell I.ok.kind hk W z (fun h' hc' L=>?_);obtain ⟨oc,hoc,hocd⟩:=id z;refine h {s with heap:=h'} ⟨I.ok,I.os,I.bare,⟨fun b o e n hb Y=>?_,fun b o e n hb Y=>?_,I.base.free,fun b o e Y=>?_,I.base.tups,I.base.frzs,I.base.tbls,I.base.cts⟩,⟨m,hn.sameBut L (qn9 (cne x c W)),fun j y v' O e2 e3=>?_⟩,fun y c' e=>?_,I.free,I.freeC,fun p hp=>?_,U ⟨oc,hoc,I.freeC x c W⟩ L,by simpa using I.len⟩ ⟨c,L,.inr W⟩
   . exact (L.2 b (qc1 (qb4 (qa8 e) (I.ok.cab x c hfn W)))).trans (I.base.keep b o e n hb Y)
   . obtain ⟨sl,O⟩:=I.base.slot b o e n hb Y;exact ⟨sl,(L.2 b (qc1 (qb4 (qa8 e) (I.ok.cab x c hfn W)))).trans O⟩
   . obtain ⟨o',O⟩:=I.base.there b o e Y;exact ⟨o',(L.2 b (qc1 (qb4 (qa8 e) (I.ok.cab x c hfn W)))).trans O⟩
   . by_cases hj:j=i
     . subst hj;rw [hi] at O;cases O
       rw [qd8 hiσ] at e2;cases e2;exact ⟨u,r,.inr ⟨.inl hk,c,W,hc'⟩⟩
     . rw [gN (qn9 hj)] at e2;obtain ⟨u',r',q⟩:=hl j y v' O e2 e3;refine ⟨u',r',?_⟩;rcases q with q | ⟨k,c',e,z'⟩
       . exact .inl q
       . refine .inr ⟨k,c',e,z'.sameBut L ?_⟩;rintro rfl;exact hj (na hN O (I.ok.inj _ _ _ e W▸hi))
   . by_cases hcc:c'=c
     . subst hcc;exact ⟨_,hc'⟩
     . obtain ⟨w2,z2⟩:=I.cell y c' e;exact ⟨w2,z2.sameBut L hcc⟩
   . obtain ⟨e,n,ne,nf,d⟩:=I.pin p hp;refine ⟨(L.2 p.1 ?_).trans e,n,ne,nf,d⟩;intro q;rw [q,hoc] at e;have q':oc=p.2:=qd5 e;exact d w' (by rw [<- q'];exact hocd)
theorem gK (I:Inv X pins σ H s) (O:X.N.Nodup) (hi:X.N[i]?=some x) (L:Loc X.env.scope x) (r:RelV v u)
 (h:∀ s',Inv X pins (σ.set i (some v)) H s'->Q () s') (q:X.fn x=true∨X.env.scope.names.lookup x=some .local:=by first | exact .inl rfl | exact .inr rfl | assumption):wpAny M A (zc8 X.env x u) Q E s:=
 kY I O hi L r (fun s' U _=>h s' U) q
theorem Inv.call' (I:Inv X pins σ H s) (O:s'.os=s.os) (u:Un (frs X.stack) ch H H' s.heap s'.heap) (q:HOk X.prog X.w H' s'.heap) (U:zc7 s'.gens)
 (L:∀ b∈ch,(b∈X.ex∨X.s₀.heap.objs.size<=b)/\b≠X.env.locals/\(∀ x c,X.env.cells.lookup x=some c->c≠b)/\∀ p∈X.pn++pins,p.1≠b):Inv X pins σ H' s':=by
 obtain ⟨h',g',d',t',o'⟩:=s';have e:o'=s.os:=O;subst e;exact I.call (g':=g') (t':=t') (d':=d') u q U L
end
abbrev XK:=Value->Option Addr->Hp->Prop
abbrev St:=List (Option V)
abbrev VK:=V->Hp->Prop
abbrev TE:=St->Hp->VK->Prop
abbrev TT:=St->Hp->(Bool->Hp->Prop)->Prop
abbrev TA:=St->Hp->(List V->Hp->Prop)->Prop
structure Ends where
 nx:St->Hp->Prop
 rt:VK
 bk:St->Hp->Prop:=fun _ _=>False
 ct:St->Hp->Prop:=fun _ _=>False
abbrev TS:=Ends->St->Hp->Prop
def EP (X:Cx) (pins:List (Addr×Obj)) (σ:St) (Q:VK) (u:Value) (s':qa4):Prop:=∃ v H',Inv X pins σ H' s'/\RelV v u/\Q v H'
def TP (X:Cx) (pins:List (Addr×Obj)) (σ:St) (Q:Bool->Hp->Prop) (b:Bool) (s':qa4):Prop:=∃ H',Inv X pins σ H' s'/\Q b H'
def AP (X:Cx) (pins:List (Addr×Obj)) (σ:St) (Q:List V->Hp->Prop) (us:List Value) (s':qa4):Prop:=∃ vs H',Inv X pins σ H' s'/\Vals vs us/\Q vs H'
noncomputable def SP (X:Cx) (pins:List (Addr×Obj)) (D:Ends) (f:Flow) (s':qa4):Prop:=
 match f with
 | .next=>∃ σ' H',Inv X pins σ' H' s'/\D.nx σ' H'
 | .brk=>∃ σ' H',Inv X pins σ' H' s'/\D.bk σ' H'
 | .cont=>∃ σ' H',Inv X pins σ' H' s'/\D.ct σ' H'
 | .ret u=>∃ v σ' H',Inv X pins σ' H' s'/\RelV v u/\D.rt v H'
def PE (X:Cx) (e:Expr) (t:TE):Prop:=∀ (pins:List (Addr×Obj)) (s:qa4) (σ:St) (H:Hp) (Q:VK),Inv X pins σ H s->t σ H Q->wpAny (model X.prog X.w) X.A (eval e X.env) (EP X pins σ Q) X.xe s
noncomputable def PT (X:Cx) (e:Expr) (t:TT):Prop:=∀ (pins:List (Addr×Obj)) (s:qa4) (σ:St) (H:Hp) (Q:Bool->Hp->Prop),Inv X pins σ H s->t σ H Q->wpAny (model X.prog X.w) X.A (isTrue e X.env (eval e X.env)) (TP X pins σ Q) X.xe s
noncomputable def PW (X:Cx) (e:Expr) (t:TT):Prop:=∀ (q:Sem Value) (pins:List (Addr×Obj)) (s:qa4) (σ:St) (H:Hp) (Q:Bool->Hp->Prop),Inv X pins σ H s->t σ H Q->wpAny (model X.prog X.w) X.A (isTrue e X.env q) (TP X pins σ Q) X.xe s
variable {X:Cx} {e:Expr}
theorem PW.pt {t:TT} (h:PW X e t):PT X e t:=h _
noncomputable def PA (X:Cx) (es:List Expr) (t:TA):Prop:=∀ (pos:Pos) (pins:List (Addr×Obj)) (s:qa4) (σ:St) (H:Hp) (Q:List V->Hp->Prop),Inv X pins σ H s->t σ H Q->wpAny (model X.prog X.w) X.A (spliced (qj4 pos (qa6 es X.env))) (AP X pins σ Q) X.xe s
def PS (X:Cx) (st:Stmt) (t:TS):Prop:=∀ (pins:List (Addr×Obj)) (s:qa4) (σ:St) (H:Hp) (D:Ends),Inv X pins σ H s->t D σ H->wpAny (model X.prog X.w) X.A (exec st X.env) (SP X pins D) X.xe s
def PSs (X:Cx) (st:List Stmt) (t:TS):Prop:=∀ (pins:List (Addr×Obj)) (s:qa4) (σ:St) (H:Hp) (D:Ends),Inv X pins σ H s->t D σ H->wpAny (model X.prog X.w) X.A (execs st X.env) (SP X pins D) X.xe s
variable {s:qa4}
theorem thn {α:Type} {t:Sem α} {Q q:α->qa4->Prop} (h:wpAny M A t Q E s) (L:∀ a s,Q a s->q a s):wpAny M A t q E s:=qk2 h L fun _ _ x=>x
variable {pins:List (Addr×Obj)} {σ:St} {R:V->V->Hp->Prop} {c:Expr}
section
variable {X:Cx}
theorem bin {a b:Expr} {ta tb:TE} (Y:PE X a ta) (hb:PE X b tb) (I:Inv X pins σ H s) (h:ta σ H fun x H1=>tb σ H1 fun y H2=>R x y H2)
 {α:Type} {Q:α->qa4->Prop} {f:Value->Value->Sem α}
 (U:∀ v u O x y H2,Inv X pins σ H2 O->RelV x v->RelV y u->R x y H2->wpAny (model X.prog X.w) X.A (f v u) Q X.xe O) :
  wpAny (model X.prog X.w) X.A (eval a X.env) (fun v q=>wpAny (model X.prog X.w) X.A (eval b X.env) (fun u L=>wpAny (model X.prog X.w) X.A (f v u) Q X.xe L) X.xe q) X.xe s:=by
 refine thn (Y pins s σ H _ I h) fun v s1 ⟨x,H1,I1,Z,q1⟩=>?_
 refine thn (hb pins s1 σ H1 _ I1 q1) fun u O ⟨y,H2,W,r2,q2⟩=>?_
 exact U v u O x y H2 W Z r2 q2
def iK (i:Nat):TE:=fun σ H Q=>∃ v,σ[i]?=some (some v)/\Q v H
def tC (v:V):TE:=fun _ H Q=>Q v H
theorem Aq {pos:Pos} (Z:X.N[i]?=some x) (Y:Vis X.env.scope x) (O:(x==("__debug__":Str))=false:=by decide) (L:(x==("__classdict__":Str))=false:=by decide):PE X (.Name x pos) (iK i):=by
 intro pins s σ H Q I h;obtain ⟨v,e,h⟩:=h;obtain ⟨m,hn,W⟩:=I.loc;obtain ⟨u,r,l⟩:=W i x v Z e Y;have fin:EP X pins σ Q u s:=⟨v,H,I,r,h⟩;rcases l with ⟨hk,hm⟩ | ⟨hk,c,U,q⟩
 . exact wpAny_Name (wpAny_loadName_local I.ok.kind hk hn hm fin) O
 . rcases hk with hk | hk
   . exact wpAny_Name (wpAny_loadName_cell I.ok.kind hk U q fin) O
   . exact wpAny_Name (wpAny_loadName_free I.ok.kind hk U q fin L) O
theorem Ar {i j pos}:PE X (.Constant (.int i) j pos) (tC (.int i)):=fun _ _ _ H _ I h=>wpAny_Constant_int ⟨.int i,H,I.tok _,⟨_,rfl⟩,h⟩
theorem CL {b j pos}:PE X (.Constant (.bool b) j pos) (tC (.bl b)):=fun _ _ _ H _ I h=>Constant_bool ⟨.bl b,H,I,rfl,h⟩
theorem As {j pos}:PE X (.Constant .none j pos) (tC .non):=fun _ _ _ H _ I h=>Constant_none ⟨.non,H,I,rfl,h⟩
theorem At {x j pos}:PE X (.Constant (.str x) j pos) (tC (.str x)):=fun _ _ _ H _ I h=>Calls.Constant_str ⟨.str x,H,I.tok _,⟨_,rfl⟩,h⟩
def Gl (X:Cx) (x:Str):Prop:=X.env.kindOf x=some .globalImplicit
theorem l9 {pos:Pos} {Q:Value->qa4->Prop} (I:Inv X pins σ H s) (O:Gl X x) (q:X.mg x=some u) (h:Q u s)
 (L:(x==("__debug__":Str))=false:=by decide):wpAny (model X.prog X.w) X.A (eval (.Name x pos) X.env) Q E s:=
 qw2 I.ok.kind O (Calls.loadGlobal_global (by rw [I.ok.glob];exact I.mod.glob.keeps I.bk) q h) L
theorem gm {pos:Pos} {Q:Value->qa4->Prop} (I:Inv X pins σ H s) (W:Gl X x) (L:X.mg x=none) (q:qe4 x=some u) (h:Q u s)
 (O:x≠"__name__":=by decide) (U:(x==("__debug__":Str))=false:=by decide):wpAny (model X.prog X.w) X.A (eval (.Name x pos) X.env) Q E s:=by
 obtain ⟨mb,h1,h2⟩:=I.mod.blt;exact qw2 I.ok.kind W (Calls.loadGlobal_builtin (by rw [I.ok.glob];exact I.mod.glob.keeps I.bk) L (by rw [I.ok.blt];exact h1.keeps I.bk) ((h2 x O).trans q) h) U
theorem xb {pos:Pos} (O:Gl X x) (q:X.mg x=some u) (r:RelV v u) (L:(x==("__debug__":Str))=false:=by decide):PE X (.Name x pos) (tC v):=fun _ _ _ H _ I h=>l9 I O q ⟨v,H,I,r,h⟩ L
theorem xc {pos:Pos} (W:Gl X x) (L:X.mg x=none) (q:qe4 x=some u) (r:RelV v u) (O:x≠"__name__":=by decide) (U:(x==("__debug__":Str))=false:=by decide):PE X (.Name x pos) (tC v):=fun _ _ _ H _ I h=>gm I W L q ⟨v,H,I,r,h⟩ O U
variable {a b:Expr} {ta tb:TE} {pos:Pos}
noncomputable def PC (X:Cx) (O:CmpOp) (a b:Expr) (t:TE):Prop:=
 ∀ (pins:List (Addr×Obj)) (s:qa4) (σ:St) (H:Hp) (Q:VK),Inv X pins σ H s->t σ H Q→
  wpAny (model X.prog X.w) X.A (eval a X.env) (fun v q=>wpAny (model X.prog X.w) X.A (eval b X.env) (fun u L=>wpAny (model X.prog X.w) X.A (qf7 O v u) (EP X pins σ Q) X.xe L) X.xe q) X.xe s
def tB (t:TE):TT:=fun σ H Q=>t σ H fun x H1=>∃ c,x=.bl c/\Q c H1
theorem ub {q:CmpOp} {t:TE} (h:PC X q a b t) (h1:qf4 q b=false:=by first | exact nobehind _ (by decide) (by decide) | rfl):PE X (.Compare a [q] [b] pos) t:=fun pins s σ H Q I L=>wpAny_Compare1 (h pins s σ H Q I L) h1
theorem ma {L:CmpOp} {t:TE} (h:PC X L a b t) (h1:qf4 L b=false:=by first | exact nobehind _ (by decide) (by decide) | rfl):PT X (.Compare a [L] [b] pos) (tB t):=by intro pins s σ H Q I W;refine zd0 (thn (h pins s σ H _ I W) fun v s1 h1=>thn h1 fun u Y h2=>thn h2 fun c Z ⟨x,H1,U,O,q1⟩=>?_) h1;obtain ⟨d,rfl,q⟩:=q1;cases O;exact qs1 ⟨H1,U,q⟩
variable {tA tB':TT} {rest:List Expr}
def tAnd (t u:TT):TT:=fun σ H Q=>t σ H fun c H1=>if c=true then u σ H1 Q else Q false H1
def tOr (t u:TT):TT:=fun σ H Q=>t σ H fun c H1=>if c=true then Q true H1 else u σ H1 Q
def tNot (t:TT):TT:=fun σ H Q=>t σ H fun c H1=>Q (!c) H1
theorem xf (q:PT X a tA):PW X (.BoolOp .And [a] pos) tA:=by
 intro L pins s σ H Q I h;refine isTrue_and (thn (q pins s σ H Q I h) fun c s1 e=>?_);cases c with
 | true=>exact isTrue_and_nil e
 | false=>exact e
theorem Au (q:PT X a tA):PW X (.BoolOp .Or [a] pos) tA:=by
 intro L pins s σ H Q I h;refine isTrue_or (thn (q pins s σ H Q I h) fun c s1 e=>?_);cases c with
 | false=>exact isTrue_or_nil e
 | true=>exact e
theorem Av (L:PT X a tA) (U:PW X (.BoolOp .And (b::rest) pos) tB'):PW X (.BoolOp .And (a::b::rest) pos) (tAnd tA tB'):=by
 intro O pins s σ H Q I h;refine isTrue_and (thn (L pins s σ H _ I h) fun c s1 ⟨H1,q,q1⟩=>?_);cases c with
 | true=>exact U O pins s1 σ H1 Q q q1
 | false=>exact ⟨H1,q,q1⟩
theorem CM (L:PT X a tA) (U:PW X (.BoolOp .Or (b::rest) pos) tB'):PW X (.BoolOp .Or (a::b::rest) pos) (tOr tA tB'):=by
 intro O pins s σ H Q I h;refine isTrue_or (thn (L pins s σ H _ I h) fun c s1 ⟨H1,q,q1⟩=>?_);cases c with
 | true=>exact ⟨H1,q,q1⟩
 | false=>exact U O pins s1 σ H1 Q q q1
theorem Aw (q:PT X a tA):PT X (.UnaryOp .Not a pos) (tNot tA):=by intro pins s σ H Q I h;exact isTrue_not (q pins s σ H (fun c H1=>Q (!c) H1) I h)
def tIf (t:TT) (ta tb:TE):TE:=fun σ H Q=>t σ H fun c H1=>if c=true then ta σ H1 Q else tb σ H1 Q
theorem ng (O:PT X c tA) (L:PE X a ta) (U:PE X b tb):PE X (.IfExp c a b pos) (tIf tA ta tb):=by
 intro pins s σ H Q I h;refine wpAny_IfExp (thn (O pins s σ H _ I h) fun d s1 ⟨H1,q,q1⟩=>?_);cases d with
 | true=>exact L pins s1 σ H1 Q q q1
 | false=>exact U pins s1 σ H1 Q q q1
end
noncomputable def SqL (K:xA9) (H:Hp) (a:Addr) (xs:List V):Prop:=Rd H a (.lst xs)∨∃ (o:Obj) (its:Array Value) (n:Nat),K.lookup a=some o/\o.cls=.type "list"/\o.dict=none/\o.data=.seq its n/\its.size<=qb0/\Vals xs its.toList
noncomputable def SqT (K:xA9) (H:Hp) (a:Addr) (xs:List V):Prop:=H a=some (.tup xs)∨∃ (o:Obj) (its:Array Value) (n:Nat),K.lookup a=some o/\o.cls=.type "tuple"/\o.data=.seq its n/\its.size<=qb0/\Vals xs its.toList
noncomputable def absV:Value->Option V
 | .none=>some .non
 | .bool b=>some (.bl b)
 | .int i _=>some (.int i)
 | .str x _=>some (.str x)
 | .bytes b _=>some (.byt b)
 | .float b _=>some (.flt b)
 | .ref a=>some (.ref a)
 | .type n=>some (.ty n)
 | _=>none
theorem RelV.abs {x:V} (r:RelV x u):absV u=some x:=by
 cases x with
 | non=>cases r;rfl
 | bl _=>cases r;rfl
 | int _=>obtain ⟨t,rfl⟩:=r;rfl
 | str _=>obtain ⟨t,rfl⟩:=r;rfl
 | byt _=>obtain ⟨t,rfl⟩:=r;rfl
 | flt _=>obtain ⟨t,rfl⟩:=r;rfl
 | ref _=>cases r;rfl
 | ty _=>cases r;rfl
variable {y:V}
theorem RelV.inj {x:V} (r:RelV x u) (q:RelV y u):x=y:=qd5 (r.abs.symm.trans q.abs)
theorem Vals.inj:∀ {xs ys:List V} {us:List Value},Vals xs us->Vals ys us->xs=ys
 | _,_,_,.nil,.nil=>rfl
 | _,_,_,.cons r t,.cons q t'=>by rw [r.inj q,Vals.inj t t']
variable {K:xA9}
section
variable {X:Cx} {pins:List (Addr×Obj)} {σ:St} {H:Hp} {s:qa4} {a:Addr} {xs ys:List V}
theorem SqL.of (h:H a=some (.lst xs)):SqL K H a xs:=.inl (.inl h)
theorem SqT.of (h:H a=some (.tup xs)):SqT K H a xs:=.inl h
theorem Inv.list (I:Inv X pins σ H s) (h:SqL X.K H a xs):∃ its:List Value,Vals xs its/\PlainL s.heap a its.toArray/\xs.length<=qb0:=by
 rcases h with h | ⟨o,its,n,hk,q,L,O,U,r⟩
 . obtain ⟨z,its,n,r,e⟩:=h.ok I.hok;exact ⟨its,r,⟨_,n,e,rfl,rfl,rfl⟩,z⟩
 . refine ⟨its.toList,r,⟨o,n,I.kIn a o hk,q,L,by simpa using O⟩,?_⟩;have e:=r.length;simp only [qe7] at e;lia
theorem Inv.tuple (I:Inv X pins σ H s) (h:SqT X.K H a xs):∃ its:List Value,Vals xs its/\IsTup s.heap a its.toArray/\xs.length<=qb0:=by
 rcases h with h | ⟨o,its,n,hk,q,L,O,r⟩
 . obtain ⟨z,its,r,p⟩:=(Rd.of h).ok I.hok;exact ⟨its,r,p,z⟩
 . refine ⟨its.toList,r,⟨o,I.kIn a o hk,q,n,by simpa using L⟩,?_⟩;have e:=r.length;simp only [qe7] at e;lia
theorem Inv.list_inj (I:Inv X pins σ H s) (h:SqL X.K H a xs) (h':SqL X.K H a ys):xs=ys:=by
 obtain ⟨its,r,⟨o,n,e,_,_,d⟩,_⟩:=I.list h;obtain ⟨its',L,⟨o',n',q,_,_,d'⟩,_⟩:=I.list h';rw [e] at q;cases q
 rw [d] at d';injection d' with O _;have:its=its':=by simpa using congrArg Array.toList O
 subst this;exact r.inj L
theorem Inv.tuple_inj (I:Inv X pins σ H s) (h:SqT X.K H a xs) (h':SqT X.K H a ys):xs=ys:=by
 obtain ⟨its,r,⟨o,e,_,n,d⟩,_⟩:=I.tuple h;obtain ⟨its',L,⟨o',q,_,n',d'⟩,_⟩:=I.tuple h';rw [e] at q;cases q
 rw [d] at d';injection d' with O _;have:its=its':=by simpa using congrArg Array.toList O
 subst this;exact r.inj L
end
abbrev Cx.wish (X:Cx) (E:Value->qa4->Prop):Cx:={X with xe:=E}
abbrev Cx.nox (X:Cx):Cx:=X.wish fun _ _=>False
theorem Cx.Ok.wish (ok:X.Ok) (E:Value->qa4->Prop):(X.wish E).Ok:=⟨ok.mod,ok.kind,ok.glob,ok.blt,ok.above,ok.inj,ok.has,ok.cab,ok.hd,ok.frames,ok.stk,ok.exf,ok.bs,ok.bsz,ok.noex,ok.exfs,ok.funs,ok.frf,ok.tb⟩
theorem Cx.Ok.unwish (ok:(X.wish E).Ok):X.Ok:=⟨ok.mod,ok.kind,ok.glob,ok.blt,ok.above,ok.inj,ok.has,ok.cab,ok.hd,ok.frames,ok.stk,ok.exf,ok.bs,ok.bsz,ok.noex,ok.exfs,ok.funs,ok.frf,ok.tb⟩
section
variable {X:Cx} {pins:List (Addr×Obj)} {σ:St} {H:Hp} {s:qa4} {E:Value->qa4->Prop}
theorem Inv.wish (I:Inv X pins σ H s) (E:Value->qa4->Prop):Inv (X.wish E) pins σ H s:=⟨I.ok.wish E,I.os,I.bare,I.base,I.loc,I.cell,I.free,I.freeC,I.pin,I.hok,I.len⟩
theorem Inv.unwish (I:Inv (X.wish E) pins σ H s):Inv X pins σ H s:=⟨I.ok.unwish,I.os,I.bare,I.base,I.loc,I.cell,I.free,I.freeC,I.pin,I.hok,I.len⟩
theorem SP.unwish {D:Ends} {f:Flow} (h:SP (X.wish E) pins D f s'):SP X pins D f s':=by
 cases f with
 | next=>obtain ⟨σ',H',I,q⟩:=h;exact ⟨σ',H',I.unwish,q⟩
 | brk=>obtain ⟨σ',H',I,q⟩:=h;exact ⟨σ',H',I.unwish,q⟩
 | cont=>obtain ⟨σ',H',I,q⟩:=h;exact ⟨σ',H',I.unwish,q⟩
 | ret u=>obtain ⟨v,σ',H',I,r,q⟩:=h;exact ⟨v,σ',H',I.unwish,r,q⟩
theorem PSs.nox {st:List Stmt} {t:TS} (h:PSs X.nox st t):PSs X st t:=fun pins s σ H D I L =>qk2 (h pins s σ H D (I.wish _) L) (fun _ _ q=>q.unwish) fun _ _ z=>qg7 z
end
variable {tc:TT}
section
variable {X:Cx} {st:Stmt} {rest:List Stmt} {t u:TS} {e:Expr} {te:TE} {pos:Pos}
def CN:TS:=fun D σ H=>D.nx σ H
def tSeq (t u:TS):TS:=fun D σ H=>t {D with nx:=u D} σ H
theorem qp:PSs X [] CN:=fun _ _ σ H _ I h=>qv1 ⟨σ,H,I,h⟩
theorem e8 (h1:PS X st t) (h2:PSs X rest u):PSs X (st::rest) (tSeq t u):=by
 intro pins s σ H D I h;refine wpAny_execs_cons (thn (h1 pins s σ H {D with nx:=u D} I h) fun f s1 q=>?_);cases f with
 | next =>obtain ⟨σ',H',L,q⟩:=q;exact h2 pins s1 σ' H' D L q
 | ret v=>exact q
 | brk=>exact q
 | cont=>exact q
theorem qq (h1:PS X st t):PSs X [st] t:=by
 intro pins s σ H D I h;refine wpAny_execs_cons (thn (h1 pins s σ H D I h) fun f s1 q=>?_);cases f with
 | next=>exact qv1 q
 | ret v=>exact q
 | brk=>exact q
 | cont=>exact q
theorem Inv.quiet (I:Inv X pins σ H s):interactive X.env=false:=by simp [interactive,I.ok.kind]
def CP (te:TE):TS:=fun D σ H=>te σ H fun _ H1=>D.nx σ H1
theorem md (q:PE X e te) (L:qk4 e none pos.line X.env=pure false:=by rfl):PS X (.Expr e pos) (CP te):=by intro pins s σ H D I h;exact wpAny_Expr_any (thn (q pins s σ H _ I h) fun v s1 ⟨x,H1,O,U,q1⟩=>⟨σ,H1,O,q1⟩) I.quiet L
def tRet (te:TE):TS:=fun D σ H=>te σ H D.rt
theorem o9 (L:PE X e te):PS X (.Return (some e) pos) (tRet te):=by intro pins s σ H D I h;exact wpAny_Return_some (thn (L pins s σ H _ I h) fun v s1 ⟨x,H1,q,O,q1⟩=>⟨x,σ,H1,q,O,q1⟩)
def tIfS (c:TT) (t u:TS):TS:=fun D σ H=>c σ H fun b H1=>if b=true then t D σ H1 else u D σ H1
theorem zb {a b:List Stmt} (O:PT X c tc) (L:PSs X a t) (U:PSs X b u):PS X (.If c a b pos) (tIfS tc t u):=by
 intro pins s σ H D I h;refine wpAny_If (thn (O pins s σ H _ I h) fun d s1 ⟨H1,q,q1⟩=>?_);cases d with
 | true=>exact L pins s1 σ H1 D q q1
 | false=>exact U pins s1 σ H1 D q q1
def Ax:TS:=fun _ _ _=>False
theorem uc:PS X st Ax:=fun _ _ _ _ _ _ h=>h.elim
end
abbrev TG:=V->St->Hp->(St->Hp->Prop)->Prop
abbrev TGs:=List V->St->Hp->(St->Hp->Prop)->Prop
noncomputable def PG (X:Cx) (q:Expr) (t:TG):Prop:=
 ∀ (pins:List (Addr×Obj)) (s:qa4) (σ:St) (H:Hp) (v:V) (u:Value) (Q:St->Hp->Prop),Inv X pins σ H s->RelV v u->t v σ H Q→
  wpAny (model X.prog X.w) X.A (ze7 q X.env u) (fun _ s'=>∃ σ' H',Inv X pins σ' H' s'/\Q σ' H') X.xe s
noncomputable def PGs (X:Cx) (ts:List Expr) (t:TGs):Prop:=
 ∀ (pins:List (Addr×Obj)) (s:qa4) (σ:St) (H:Hp) (vs:List V) (us:List Value) (Q:St->Hp->Prop),Inv X pins σ H s->Vals vs us->t vs σ H Q→
  wpAny (model X.prog X.w) X.A (assignInOrder ((qn3 ts X.env).map (·.2)) us) (fun _ s'=>∃ σ' H',Inv X pins σ' H' s'/\Q σ' H') X.xe s
abbrev Ay:=V->V->V->Hp->(Hp->Prop)->Prop
noncomputable def PSet (X:Cx) (t:Ay):Prop:=
 ∀ (pins:List (Addr×Obj)) (s:qa4) (σ:St) (H:Hp) (o i v:V) (L q u:Value) (Q:Hp->Prop),Inv X pins σ H s->RelV o L->RelV i q->RelV v u->t o i v H Q→
  wpAny (model X.prog X.w) X.A (setItem L q u) (fun _ s'=>∃ H',Inv X pins σ H' s'/\Q H') X.xe s
abbrev TIp:=V->V->Hp->VK->Prop
noncomputable def PIp (X:Cx) (q:Operator) (t:TIp):Prop:=
 ∀ (pins:List (Addr×Obj)) (s:qa4) (σ:St) (H:Hp) (x y:V) (v u:Value) (Q:VK),Inv X pins σ H s->RelV x v->RelV y u->t x y H Q→
  wpAny (model X.prog X.w) X.A (inplaceOp q v u) (EP X pins σ Q) X.xe s
variable {es:List Expr} {n:Nat} {tg:Expr} {te:TE} {g:TG} {pos':Pos}
section
variable {X:Cx} {pos:Pos}
def je (i:Nat):TG:=fun v σ H Q=>Q (σ.set i (some v)) H
theorem qr (O:X.N.Nodup) (hi:X.N[i]?=some x) (L:Loc X.env.scope x) (q:X.fn x=true∨X.env.scope.names.lookup x=some .local:=by first | exact .inl rfl | exact .inr rfl | assumption):PG X (.Name x pos) (je i):=by intro pins s σ H v u Q I r h;exact wpAny_assign_Name (gK I O hi L r (fun s' U=>⟨_,H,U,h⟩) q)
def gNil:TGs:=fun vs σ H Q=>vs=[]/\Q σ H
def CQ (t:TG) (u:TGs):TGs:=fun vs σ H Q=>∃ v r,vs=v::r/\t v σ H fun σ' H'=>u r σ' H' Q
theorem xg:PGs X [] gNil:=by intro pins s σ H vs us Q I r h;obtain ⟨e,h⟩:=h;subst e;cases r;exact assignInOrder_nil ⟨σ,H,I,h⟩
theorem ud {t:TG} {u:TGs} (h1:PG X e t) (h2:PGs X es u)
 (O:(qn3 (e::es) X.env).map (·.2)=ze7 e X.env::(qn3 es X.env).map (·.2):=by rfl):PGs X (e::es) (CQ t u):=by
 intro pins s σ H vs us Q I r h;obtain ⟨v,Y,L,h⟩:=h;subst L;cases r with
 | cons r W =>rw [O];refine assignInOrder_cons (thn (h1 pins s σ H _ _ _ I r h) fun _ s1 ⟨q,H1,U,q1⟩=>?_);exact h2 pins s1 q H1 _ _ Q U W q1
def gTup (K:xA9) (n:Nat) (t:TGs):TG:=fun v σ H Q=>∃ a xs,v=.ref a/\SqT K H a xs/\xs.length=n/\t xs σ H Q
theorem Az {k:Nat} {t:TGs} (hc:X.calm=true) (h:PGs X es t)
 (hn:(qn3 es X.env).length=n:=by rfl) (L:(qn3 es X.env).findIdx? (·.1)=none:=by rfl):PG X (.Tuple es k pos) (gTup X.K n t):=by
 intro pins s σ H v u Q I r q;obtain ⟨a,xs,W,Z,U,q⟩:=q;subst W;cases r;obtain ⟨its,O,ht,hz⟩:=I.tuple Z;refine assign_Tuple_tuple (I.ok.hd hc) ht (by simp [hn,<- U,O.length]) L fun h' Y=>?_
 have I1:Inv X pins σ H {s with heap:=h'}:=I.kept (t':=s.toks) fun b o e=>Y b o (qc1 (qa8 e)) e
 exact h pins _ σ H xs _ Q I1 (by simpa using O) q
def gSub (to ti:TE) (t:Ay):TG:=fun v σ H Q=>to σ H fun o H1=>ti σ H1 fun i H2=>t o i v H2 fun q=>Q σ q
theorem AA {o i:Expr} {to ti:TE} {t:Ay} (ho:PE X o to) (hi:PE X i ti) (hs:PSet X t)
  (W:∀ v,ze7 (.Subscript o i pos) X.env v=(do
   let q <- qz9 [v] (eval o X.env);let L <- qz9 [v,q] (eval i X.env)
   standAt pos
   qz9 [v,q,L] (setItem q L v)
   release [v,q,L] []):=by intro _;rfl):PG X (.Subscript o i pos) (gSub to ti t):=by
 intro pins s σ H v u Q I r h;rw [W];refine wB (qk0 (thn (ho pins s σ H _ I h) fun q s1 ⟨x,H1,Z,Y,q1⟩=>?_));refine wB (qk0 (thn (hi pins s1 σ H1 _ Z q1) fun L O ⟨y,H2,I2,r2,q2⟩=>?_));refine wB (zf9 (wB (qk0 (thn (hs pins O σ H2 x y v q L u _ I2 Y r2 r q2) fun _ s3 ⟨U,I3,q3⟩=>?_))));exact wpAny_release ⟨σ,U,I3,q3⟩
def xh (te:TE) (g:TG):TS:=fun D σ H=>te σ H fun x H1=>g x σ H1 D.nx
theorem AB (L:PE X e te) (Z:PG X tg g) (O:swapsWithSole [tg] e pos.line X.env=pure false:=by rfl) (Y:swappedStores [tg] e X.env=pure none:=by rfl)
 (h1:(qn3 [tg] X.env).map (·.2)=[ze7 tg X.env]:=by rfl):PS X (.Assign [tg] e pos) (xh te g):=by
 intro pins s σ H D I h;refine wpAny_Assign_stores (thn (L pins s σ H _ I h) fun v s1 ⟨x,H1,W,U,q1⟩=>?_) O Y;rw [h1];exact thn (Z pins s1 σ H1 x v _ W U q1) fun _ s2 q=>q
theorem AC (hN:X.N.Nodup) (hi:X.N[i]?=some x) (O:Loc X.env.scope x) (q:PE X e te) (W:qk4 e (some (.Name x pos')) pos.line X.env=pure false:=by rfl) (L:X.fn x=true∨X.env.scope.names.lookup x=some .local:=by first | exact .inl rfl | exact .inr rfl | assumption) :
  PS X (.Assign [.Name x pos'] e pos) (xh te (je i)):=by
 intro pins s σ H D I h;refine wpAny_Assign_Name (thn (q pins s σ H _ I h) fun v s1 ⟨y,H1,Z,Y,q1⟩=>?_) W;exact gK Z hN hi O Y (fun s2 U=>⟨_,H1,U,q1⟩) L
def tAug (i:Nat) (te:TE) (ti:TIp):TS:=fun D σ H=>∃ x,σ[i]?=some (some x)/\te σ H fun y H1=>ti x y H1 fun z H2=>D.nx (σ.set i (some z)) H2
theorem AD {U:Operator} {ti:TIp} (hN:X.N.Nodup) (hi:X.N[i]?=some x) (W:Loc X.env.scope x) (he:PE X e te) (ho:PIp X U ti) (hf:X.fn x=true∨X.env.scope.names.lookup x=some .local:=by first | exact .inl rfl | exact .inr rfl | assumption) :
  PS X (.AugAssign (.Name x pos') U e pos) (tAug i te ti):=by
 intro pins s σ H D I h;obtain ⟨v,e1,h⟩:=h;obtain ⟨m,hn,Z⟩:=I.loc;have O:Vis X.env.scope x:=by rcases W with k | k;exact .inl k;exact .inr (.inl k)
 obtain ⟨u,r,l⟩:=Z i x v hi e1 O;refine wpAny_AugAssign_Name ?_
 have Y:wpAny (model X.prog X.w) X.A (eval e X.env) (fun w L=>wpAny (model X.prog X.w) X.A (inplaceOp U u w) (fun r s₃=>wpAny (model X.prog X.w) X.A (zc8 X.env x r) (fun _=>SP X pins D .next) X.xe s₃) X.xe L) X.xe s:=by
  refine thn (he pins s σ H _ I h) fun w s1 ⟨y,H1,I1,r1,q1⟩=>?_
  refine thn (ho pins s1 σ H1 v y u w _ I1 r r1 q1) fun z s2 ⟨zv,H2,I2,r2,q2⟩=>?_
  exact gK I2 hN hi W r2 (fun s3 I3=>⟨_,H2,I3,q2⟩) hf
 rcases l with ⟨hk,hm⟩ | ⟨hk,c,hc,q⟩
 . exact wpAny_loadName_local I.ok.kind hk hn hm Y
 . rcases hk with hk | hk
   . exact wpAny_loadName_cell I.ok.kind hk hc q Y
   . rcases W with k | k
     . have:X.env.scope.names.lookup x=some .free:=hk;rw [k] at this;cases this
     . have:X.env.scope.names.lookup x=some .free:=hk;rw [k] at this;cases this
def ipI (f:Int->Int->Int):TIp:=fun x y H Q=>∃ i j,x=.int i/\y=.int j/\Q (.int (f i j)) H
theorem AE:PIp X .Add (ipI fun i j=>i+j):=by intro pins s σ H x y v u Q I O U h;obtain ⟨i,j,L,e2,q⟩:=h;subst L;subst e2;obtain ⟨t,rfl⟩:=O;obtain ⟨t',rfl⟩:=U;exact iadd_int ⟨.int _,H,I.tok _,⟨_,rfl⟩,q⟩
end
variable {body:List Stmt} {tb:TS}
section
variable {X:Cx} {pos:Pos}
noncomputable def AF (c:TT) (tb:TS):TS:=fun D σ H=>∃ W:Nat->St->Hp->Prop,(∃ m,W m σ H)/\∀ m σ H,W m σ H→
 c σ H fun b H1=>if b=true then ∃ N:St->Hp->Prop,(∀ σ' H',N σ' H'->∃ q,q<m/\W q σ' H')/\tb {D with nx:=N,ct:=N,bk:=D.nx} σ H1 else D.nx σ H1
theorem ni (hp:qy1 (model X.prog X.w) X.A X.env X.xe) (hc:PT X c tc) (hb:PSs X body tb):PS X (.While c body [] pos) (AF tc tb):=by
 intro pins s σ H D I h;obtain ⟨W,⟨m0,w0⟩,O⟩:=h;refine wpAny_While (codeAny_whileLoop (fun n s'=>∃ σ' H',Inv X pins σ' H' s'/\W n σ' H') ?_ m0 ⟨σ,H,I,w0⟩);rintro n s1 ⟨L,H1,I1,w1⟩;refine ql8 hp (thn (hc pins s1 L H1 _ I1 (O n L H1 w1)) fun b s2 ⟨H2,I2,q2⟩=>?_);cases b with
 | true =>
  obtain ⟨N,hN,q2⟩:=q2;rw [if_pos rfl];refine ql8 hp (thn (hb pins s2 L H2 _ I2 q2) fun f s3 Y=>?_);cases f with
  | next =>obtain ⟨q,U,Z,n3⟩:=Y;obtain ⟨m',hm,w3⟩:=hN q U n3;exact ⟨m',hm,q,U,Z,w3⟩
  | cont =>obtain ⟨q,U,Z,n3⟩:=Y;obtain ⟨m',hm,w3⟩:=hN q U n3;exact ⟨m',hm,q,U,Z,w3⟩
  | brk=>exact Y
  | ret v=>exact Y
 | false =>rw [if_neg qb6];exact qv1 ⟨L,H2,I2,q2⟩
end
structure It where
 go:Nat->Hp->Prop
 yld:Nat->Hp->V->Hp->Prop
 stop:Nat->Hp->Prop
def gn (X:Cx) (pins:List (Addr×Obj)) (H:Hp) (b:Addr):Prop:=H b=none/\b≠X.env.locals/\b∉X.fs/\(b∈X.ex∨X.s₀.heap.objs.size<=b)/\(∀ x c,X.env.cells.lookup x=some c->c≠b)/\∀ p∈X.pn++pins,p.1≠b
theorem Inv.fpOk {H':Hp} (I:Inv X pins σ H s) (L:s.heap.objs.size<=b) (O:H' b=none):gn X pins H' b:=by
 refine ⟨O,qm6 (qb4 I.lt L),I.nofs L,.inr (qb8 I.sz L),fun x c e z=>?_,fun p hp z=>?_⟩
 . obtain ⟨v,q⟩:=I.cell x c e;exact absurd (qb4 q.lt (by rw [z];exact L)) (qm7 _)
 . exact absurd (qb4 (qa8 (I.pin p hp).1) (by rw [z];exact L)) (qm7 _)
structure Turn (P:qc5) (w:World) (K:xA9) (tg:Expr) (J:It) (fp:List Addr) (it:Addr) (tn:Nat->Heap->Prop):Prop where
 mem:it∈fp
 obj:∀ i h,tn i h->∀ b∈fp,∃ o,h.get? b=some o/\∀ v,o.data≠.cell v
 keep:∀ i h h',tn i h->(∀ b∈fp,∀ o,h.get? b=some o->h'.get? b=some o)->tn i h'
 item:∀ (X:Cx),X.prog=P->X.w=w->X.K=K->X.calm=true->∀ (i:Nat) (pins:List (Addr×Obj)) (s:qa4) (σ:St) (H:Hp) (E:Value->qa4->Prop),Inv X pins σ H s->(∀ b∈fp,gn X pins H b)->tn i s.heap->J.go i H→
  wpAny (model P w) X.A (qw6 (.ref it)) (fun r s1=>∃ u,r=some u∧wpAny (model P w) X.A (qv2 tg (.ref it) u) (fun _ s2=>∃ x H',Inv X pins σ H' s2/\RelV x u/\J.yld i H x H'/\tn (i+1) s2.heap/\∀ b∈fp,H' b=none) E s1) E s
 done:∀ (X:Cx),X.prog=P->X.w=w->X.K=K->X.calm=true->∀ (i:Nat) (pins:List (Addr×Obj)) (s:qa4) (σ:St) (H:Hp) (E:Value->qa4->Prop),Inv X pins σ H s->(∀ b∈fp,gn X pins H b)->tn i s.heap->J.stop i H→
  wpAny (model P w) X.A (qw6 (.ref it)) (fun r s1=>r=none/\Inv X pins σ H s1) E s
 self:∀ (A:qd7) (i:Nat) (s:qa4) (Q:Value->qa4->Prop) (E:Value->qa4->Prop),tn i s.heap->Q (.ref it) s->wpAny (model P w) A (zh1 (.ref it)) Q E s
abbrev TI:=St->Hp->(It->Hp->Prop)->Prop
noncomputable def PIE (X:Cx) (pins:List (Addr×Obj)) (σ:St) (tg:Expr) (R:It->Hp->Prop) (q:Value) (L:qa4):Prop:=∃ (it:Addr) (fp:List Addr) (O:Nat->Heap->Prop) (J:It) (H':Hp),q=.ref it/\Inv X pins σ H' L/\Turn X.prog X.w X.K tg J fp it O/\O 0 L.heap/\(∀ b∈fp,gn X pins H' b)/\R J H'
noncomputable def PI (X:Cx) (tg iter:Expr) (wi:TI):Prop:=
 ∀ (pins:List (Addr×Obj)) (s:qa4) (σ:St) (H:Hp) (R:It->Hp->Prop),Inv X pins σ H s->wi σ H R→
  wpAny (model X.prog X.w) X.A (eval iter X.env) (fun v s1=>wpAny (model X.prog X.w) X.A (zh1 v) (PIE X pins σ tg R) X.xe s1) X.xe s
theorem kZ {o:Obj} {n:String} {vs:Array Value} (O:s.heap.get? it=some o) (L:o.cls=.type n) (W:o.data=.fields vs)
 (U:["enumerate","zip","dict_itemiterator","dict_reverseitemiterator","odict_iterator","itertools.zip_longest","itertools.pairwise"].contains n=false) (q:Q () s):wpAny M A (qv2 tg (.ref it) u) Q E s:=by
 unfold qv2
 cases tg<;>first
  | exact qa3 q
  | (cases u<;>first
      | exact qa3 q
      | (refine wB (wpAny_load O ?_)
         rw [L,W];show wpAny M A (if (["enumerate","zip","dict_itemiterator","dict_reverseitemiterator","odict_iterator","itertools.zip_longest","itertools.pairwise"].contains n&&vs[0]?==some (qf8 _))=true then _ else _) Q E s;rw [if_neg (by intro h;rw [U,ze8] at h;cases h)];exact qa3 q))
def Itl (K:xA9) (a:Addr):It:=⟨fun i H=>∃ xs x,SqL K H a xs/\xs[i]?=some x,fun i H x H'=>H'=H/\∀ xs,SqL K H a xs->xs[i]?=some x,fun i H=>∃ xs,SqL K H a xs/\xs.length<=i⟩
def Itt (K:xA9) (a:Addr):It:=⟨fun i H=>∃ xs x,SqT K H a xs/\xs[i]?=some x,fun i H x H'=>H'=H/\∀ xs,SqT K H a xs->xs[i]?=some x,fun i H=>∃ xs,SqT K H a xs/\xs.length<=i⟩
def Itr (lo:Int) (n:Nat):It:=⟨fun i _=>i<n,fun i H x H'=>H'=H/\x=.int (lo+i),fun i _=>n<=i⟩
theorem sf (a it:Addr):Turn P w K tg (Itl K a) [it] it (fun i h=>h.IsListIter it a i) where
 mem:=by simp
 obj:=fun i h st b q=>by
  have e:b=it:=by simpa using q
  subst e;obtain ⟨o,e,c,d⟩:=st;exact ⟨o,e,fun v z=>by rw [d] at z;cases z⟩
 keep:=fun i h h' st k=>st.at fun o e=>k it (by simp) o e
 item:=by
  intro X Z hw Y hc i pins s σ H E I O st W;subst Z hw Y;obtain ⟨xs,x,U,hx⟩:=W;obtain ⟨its,rv,p,hz⟩:=I.list U;obtain ⟨u,hu,ru⟩:=rv.get hx;obtain ⟨f0,f1,f2,f3,f4,f5⟩:=O it (by simp);refine wpAny_pyNext_list_item st p.isList (x:=u) (by simpa using hu) fun h' L sb=>?_
  have I1:Inv X pins σ H {s with heap:=h'}:=I.turned (t':=s.toks) (fun b o q e=>(sb.2 b q).trans e) f0 f1 f3 f4 f5;obtain ⟨o,e,c,d⟩:=id L;exact ⟨u,rfl,kZ (s:={s with heap:=h'}) e c d (by decide) ⟨x,H,I1,ru,⟨rfl,fun ys hy=>by rw [I.list_inj hy U];exact hx⟩,L,fun b q=>(O b q).1⟩⟩
 done:=by intro X Z hw Y hc i pins s σ H E I O st W;subst Z hw Y;obtain ⟨xs,U,hx⟩:=W;obtain ⟨its,rv,p,hz⟩:=I.list U;obtain ⟨f0,f1,f2,f3,f4,f5⟩:=O it (by simp);have hl:=rv.length;exact wpAny_pyNext_list_end (I.ok.hd hc) st p.isList (by simp;lia) fun h' eb=>⟨rfl,I.turned (t':=s.toks) (fun b o q e=>eb b o q e) f0 f1 f3 f4 f5⟩
 self:=fun _ _ _ _ _ st h=>wpAny_pyIter_listiter st h
theorem pb (a it:Addr):Turn P w K tg (Itt K a) [it] it (fun i h=>h.IsTupleIter it a i) where
 mem:=by simp
 obj:=fun i h st b q=>by
  have e:b=it:=by simpa using q
  subst e;obtain ⟨o,e,c,d⟩:=st;exact ⟨o,e,fun v z=>by rw [d] at z;cases z⟩
 keep:=fun i h h' st k=>st.at fun o e=>k it (by simp) o e
 item:=by
  intro X Z hw Y hc i pins s σ H E I O st W;subst Z hw Y;obtain ⟨xs,x,U,hx⟩:=W;obtain ⟨its,rv,p,hz⟩:=I.tuple U;obtain ⟨u,hu,ru⟩:=rv.get hx;obtain ⟨f0,f1,f2,f3,f4,f5⟩:=O it (by simp);refine wpAny_pyNext_tuple_item st (show s.heap.IsTuple a its.toArray from p) (x:=u) (by simpa using hu) fun h' L sb=>?_
  have I1:Inv X pins σ H {s with heap:=h'}:=I.turned (t':=s.toks) (fun b o q e=>(sb.2 b q).trans e) f0 f1 f3 f4 f5;obtain ⟨o,e,c,d⟩:=id L;exact ⟨u,rfl,kZ (s:={s with heap:=h'}) e c d (by decide) ⟨x,H,I1,ru,⟨rfl,fun ys hy=>by rw [I.tuple_inj hy U];exact hx⟩,L,fun b q=>(O b q).1⟩⟩
 done:=by intro X Z hw Y hc i pins s σ H E I O st W;subst Z hw Y;obtain ⟨xs,U,hx⟩:=W;obtain ⟨its,rv,p,hz⟩:=I.tuple U;obtain ⟨f0,f1,f2,f3,f4,f5⟩:=O it (by simp);have hl:=rv.length;exact wpAny_pyNext_tuple_end (I.ok.hd hc) st (show s.heap.IsTuple a its.toArray from p) (by simp;lia) fun h' eb=>⟨rfl,I.turned (t':=s.toks) (fun b o q e=>eb b o q e) f0 f1 f3 f4 f5⟩
 self:=fun _ _ _ _ _ st h=>wpAny_pyIter_tupleiter st h
theorem pd {w:World} (it:Addr) (lo:Int) (n:Nat):Turn P w K tg (Itr lo n) [it] it (fun i h=>zf0 h it (lo+(i:Nat)*1) ((n:Int)-(i:Nat)) 1) where
 mem:=by simp
 obj:=fun i h st b q=>by
  have e:b=it:=by simpa using q
  subst e
  exact ⟨_,st,fun v z=>by have z':Data.fields _=Data.cell v:=z;cases z'⟩
 keep:=fun i h h' st k=>k it (by simp) _ st
 item:=by
  intro X hP hw Z U i pins s σ H E I O st Y;subst hP hw Z;obtain ⟨f0,f1,f2,f3,f4,f5⟩:=O it (by simp);have W:=Walks.range (prog:=X.prog) (w:=X.w) (I.ok.hd U) it lo 1 n;refine W.item i s _ _ Y st fun v h' tk hv L kk=>?_
  obtain ⟨t,rfl⟩:=hv;have I1:Inv X pins σ H {s with heap:=h',toks:=tk}:=I.turned (fun b o q e=>kk b o (by simpa using q) e) f0 f1 f3 f4 f5;refine ⟨_,rfl,kZ (s:={s with heap:=h',toks:=tk}) (n:="range_iterator") L rfl rfl (by decide) ⟨.int (lo+i),H,I1,⟨t,?_⟩,⟨rfl,rfl⟩,L,fun b q=>(O b q).1⟩⟩;rw [Int.mul_one]
 done:=by intro X hP hw Z U i pins s σ H E I O st Y;subst hP hw Z;obtain ⟨f0,f1,f2,f3,f4,f5⟩:=O it (by simp);exact zc1 (I.ok.hd U) st (by have:n<=i:=Y;lia) fun h' eb=>⟨rfl,I.turned (t':=s.toks) (fun b o q e=>eb b o q e) f0 f1 f3 f4 f5⟩
 self:=fun _ _ _ _ _ st h=>zc2 st h
variable {l:Expr} {tl:TE} {ta:TA} {p:Pos} {fp:List Addr}
section
variable {X:Cx} {tg:Expr}
def CS (K:xA9) (tl:TE):TI:=fun σ H R=>tl σ H fun x H1=>∃ a,x=.ref a/\(∃ xs,SqL K H1 a xs)/\R (Itl K a) H1
def iTup (K:xA9) (tl:TE):TI:=fun σ H R=>tl σ H fun x H1=>∃ a,x=.ref a/\(∃ xs,SqT K H1 a xs)/\R (Itt K a) H1
theorem me (O:PE X l tl):PI X tg l (CS X.K tl):=by
 intro pins s σ H R I h;refine thn (O pins s σ H _ I h) fun v s1 ⟨x,H1,L,W,q1⟩=>?_
 obtain ⟨a,e,⟨xs,U⟩,q⟩:=q1;subst e;cases W;obtain ⟨its,Z,p,hz⟩:=L.list U;refine qy2 p.isList ?_;refine ⟨s1.heap.objs.size,[s1.heap.objs.size],_,_,H1,rfl,L.kept (t':=s1.toks) fun b o e=>gP _ e,sf a _,⟨_,qa7 _ rfl,rfl,rfl⟩,fun b Y=>?_,q⟩;have e:b=s1.heap.objs.size:=by simpa using Y
 subst e;exact L.fpOk (nL _) (L.hok.fresh (nL _))
theorem ue (O:PE X l tl):PI X tg l (iTup X.K tl):=by
 intro pins s σ H R I h;refine thn (O pins s σ H _ I h) fun v s1 ⟨x,H1,L,W,q1⟩=>?_
 obtain ⟨a,e,⟨xs,U⟩,q⟩:=q1;subst e;cases W;obtain ⟨its,Z,p,hz⟩:=L.tuple U;refine qw7 (show s1.heap.IsTuple a its.toArray from p) ?_;refine ⟨s1.heap.objs.size,[s1.heap.objs.size],_,_,H1,rfl,L.kept (t':=s1.toks) fun b o e=>gP _ e,pb a _,⟨_,qa7 _ rfl,rfl,rfl⟩,fun b Y=>?_,q⟩;have e:b=s1.heap.objs.size:=by simpa using Y
 subst e;exact L.fpOk (nL _) (L.hok.fresh (nL _))
theorem nj {R:It->Hp->Prop} {lo hi:Int} {t u v:Tok} {tk:Nat} (I:Inv X pins σ H s) (h1:-(2^62)<=lo) (h2:lo<2^62) (h3:-(2^62)<=hi) (U:hi<2^62)
 (q:R (Itr lo (hi-lo).toNat) H):wpAny (model X.prog X.w) X.A (zh1 (.ref s.heap.objs.size)) (PIE X pins σ tg R) E {s with heap:=s.heap.push {cls:=.type "range",data:=.fields #[.int lo t,.int hi u,.int 1 v]},toks:=tk}:=by
 refine wpAny_pyIter_range (IsRange.new ..) (small_one h1 h2 h3 U) ?_;have L:Inv X pins σ H {s with heap:=s.heap.push {cls:=.type "range",data:=.fields #[.int lo t,.int hi u,.int 1 v]},toks:=tk}:=I.kept fun b o e=>gP _ e
 refine ⟨(s.heap.push {cls:=.type "range",data:=.fields #[.int lo t,.int hi u,.int 1 v]}).objs.size,[(s.heap.push {cls:=.type "range",data:=.fields #[.int lo t,.int hi u,.int 1 v]}).objs.size],_,_,H,rfl,L.kept (t':=tk) fun b o e=>gP _ e,pd _ lo (hi-lo).toNat,?_,fun b W=>?_,q⟩
 . have O:lo+((0:Nat):Int)*1=lo:=by simp
   have e2:(((hi-lo).toNat:Nat):Int)-((0:Nat):Int)=qd0 lo hi 1:=by rw [rangeSize_one];split<;>lia
   show zf0 _ _ (lo+((0:Nat):Int)*1) ((((hi-lo).toNat:Nat):Int)-((0:Nat):Int)) 1;rw [O,e2];exact qa7 _ rfl
 . have e:b=(s.heap.push {cls:=.type "range",data:=.fields #[.int lo t,.int hi u,.int 1 v]}).objs.size:=by simpa using W
   subst e;exact L.fpOk (nL _) (L.hok.fresh (nL _))
def zd (ta:TA):TI:=fun σ H R=>ta σ H fun vs H1=>∃ j:Int,vs=[.int j]/\-(2^62)<=j/\j<2^62/\R (Itr 0 j.toNat) H1
def ze (ta:TA):TI:=fun σ H R=>ta σ H fun vs H1=>∃ i j:Int,vs=[.int i,.int j]/\(-(2^62)<=i/\i<2^62/\-(2^62)<=j/\j<2^62)/\R (Itr i (j-i).toNat) H1
theorem sh {a:Expr} {pos:Pos} (hg:Gl X "range") (Y:X.mg "range"=none) (O:PA X [a] ta) (L:qa6 [a] X.env=[(false,eval a X.env)]:=by rfl):PI X tg (.Call (.Name "range" p) [a] [] pos) (zd ta):=by
 intro pins s σ H R I h;refine Call_ (gm I hg Y boot_range (qi3 (thn (O pos pins s σ H _ I h) fun us s1 ⟨vs,H1,W,U,q1⟩=>?_) L rfl));obtain ⟨j,e,q1,q2,q⟩:=q1;subst e;cases U with
 | cons r Z =>cases Z;obtain ⟨t,rfl⟩:=r;exact call_range_1 (nj W (by lia) (by lia) q1 q2 (by simpa using q))
theorem si {a b:Expr} {pos:Pos} (hg:Gl X "range") (hm:X.mg "range"=none) (U:PA X [a,b] ta) (hs:qa6 [a,b] X.env=[(false,eval a X.env),(false,eval b X.env)]:=by rfl) (L:qa6 [b] X.env=[(false,eval b X.env)]:=by rfl) :
  PI X tg (.Call (.Name "range" p) [a,b] [] pos) (ze ta):=by
 intro pins s σ H R I h;refine Call_ (gm I hg hm boot_range (qi3 (thn (U pos pins s σ H _ I h) fun us s1 ⟨vs,H1,Z,W,q1⟩=>?_) (by rw [hs,L]) (by rw [L];rfl)));obtain ⟨i,j,e,⟨q1,q2,q3,q4⟩,q⟩:=q1;subst e;cases W with
 | cons r O =>
  cases O with
  | cons Y O =>cases O;obtain ⟨t,rfl⟩:=r;obtain ⟨t',rfl⟩:=Y;exact call_range_2 (nj Z q1 q2 q3 q4 q)
noncomputable def tFor (wi:TI) (g:TG) (tb:TS):TS:=fun D σ H=>wi σ H fun J H1=>∃ W:Nat->Nat->St->Hp->Prop,(∃ m,W 0 m σ H1)/\∀ i m σ H,W i m σ H→ (J.stop i H/\D.nx σ H)∨(J.go i H/\∃ N:St->Hp->Prop,(∀ σ' H',N σ' H'->∃ L,L<m/\W (i+1) L σ' H')/\∀ x H',J.yld i H x H'->g x σ H' fun q H2=>tb {D with nx:=N,ct:=N,bk:=D.nx} q H2)
def iL (fp:List Addr) (h:Heap):List (Addr×Obj):=fp.filterMap fun b=>(h.get? b).map fun o=>(b,o)
theorem cH {o:Obj} (q:b∈fp) (e:h.get? b=some o):(b,o)∈iL fp h:=qw8.mpr ⟨b,q,by rw [e];rfl⟩
theorem sj {p:Addr×Obj} (hp:p∈iL fp h):p.1∈fp/\h.get? p.1=some p.2:=by
 obtain ⟨b,O,e⟩:=qw8.mp hp;cases q:h.get? b with
 | none=>rw [q] at e;cases e
 | some o =>rw [q] at e;have L:(b,o)=p:=qd5 e;subst L;exact ⟨O,q⟩
theorem Inv.pinned (I:Inv X pins σ H s) (O:∀ b∈fp,gn X pins H b) (U:∀ b∈fp,∃ o,s.heap.get? b=some o/\∀ v,o.data≠.cell v):Inv X (pins++iL fp s.heap) σ H s:=
 I.pins_of fun p hp=>(qg3.mp hp).elim (fun z=>I.pin p (qc8 _ z)) fun z=>by
  obtain ⟨L,e⟩:=sj z;obtain ⟨f0,f1,f2,_⟩:=O p.1 L;obtain ⟨o,q,d⟩:=U p.1 L;rw [e] at q;cases q
  exact ⟨e,f0,f1,f2,d⟩
theorem Inv.unpinned {q:List (Addr×Obj)} (I:Inv X (pins++q) σ H s):Inv X pins σ H s:=I.pins_of fun p hp=>I.pin p (qc8 _ (qp4 _ hp))
theorem pe {iter:Expr} {wi:TI} {pos:Pos} (hp:qy1 (model X.prog X.w) X.A X.env X.xe) (hc:X.calm=true) (hi:PI X tg iter wi) (hg:PG X tg g) (hb:PSs X body tb)
 (hs:∀ x,qg8 iter X.env x=pure x:=by intro _;rfl):PS X (.For tg iter body [] pos) (tFor wi g tb):=by
 intro pins s σ H D I h;refine wpAny_For (thn (hi pins s σ H _ I h) fun v s1 h1=>thn h1 fun itv s2 h2=>?_) hs;obtain ⟨it,fp,tn,J,H2,e,I2,T,st2,f2,W,⟨m0,w0⟩,turn⟩:=h2;subst e
 -- what stays true of the iterator's objects through the loop
 have L:∀ {H':Hp},(∀ b∈fp,H' b=none)->∀ b∈fp,gn X pins H' b:=fun hn b hb=>⟨hn b hb,(f2 b hb).2⟩
 refine codeAny_forLoop_any (fun n s'=>∃ i σ' H',Inv X pins σ' H' s'/\tn i s'.heap/\(∀ b∈fp,H' b=none)/\W i n σ' H') ?_ m0 ⟨0,σ,H2,I2,st2,fun b hb=>(f2 b hb).1,w0⟩;rintro n s3 ⟨i,Y,H3,I3,st3,fr3,w3⟩;rcases turn i n Y H3 w3 with ⟨stop,qn⟩ | ⟨go,N,hN,step⟩
 . refine ql8 hp (thn (T.done X rfl rfl rfl hc i pins s3 Y H3 X.xe I3 (L fr3) st3 stop) fun r s4 ⟨hr,I4⟩=>?_);subst hr;exact qv1 ⟨Y,H3,I4,qn⟩
 . refine ql8 hp (thn (T.item X rfl rfl rfl hc i pins s3 Y H3 X.xe I3 (L fr3) st3 go) fun r s4 ⟨u,hr,h4⟩=>?_);subst hr;refine ql8 hp (thn h4 fun _ s5 ⟨x,H5,I5,r5,y5,st5,fr5⟩=>?_);have I5':=I5.pinned (L fr5) (T.obj _ _ st5);refine ql8 hp (thn (hg _ s5 Y H5 x u _ I5' r5 (step x H5 y5)) fun _ s6 ⟨σ6,H6,I6,q6⟩=>?_);refine ql8 hp (thn (hb _ s6 σ6 H6 _ I6 q6) fun f s7 q7=>?_)
   have O:∀ {q:St} {Z:Hp},Inv X (pins++iL fp s5.heap) q Z s7->N q Z->∃ m,m<n/\∃ i σ' H',Inv X pins σ' H' s7/\tn i s7.heap/\(∀ b∈fp,H' b=none)/\W i m σ' H':=fun {q Z} U n7=>by obtain ⟨m',hm,w7⟩:=hN q Z n7;refine ⟨m',hm,i+1,q,Z,U.unpinned,T.keep _ _ _ st5 fun b hb o e=>(U.pin (b,o) (qc8 _ (qc8 _ (cH hb e)))).1,fun b hb=>?_,w7⟩;obtain ⟨o,e,d⟩:=T.obj _ _ st5 b hb;exact (U.pin (b,o) (qc8 _ (qc8 _ (cH hb e)))).2.1
   cases f with
   | next=>obtain ⟨q,Z,U,n7⟩:=q7;exact O U n7
   | cont=>obtain ⟨q,Z,U,n7⟩:=q7;exact O U n7
   | brk=>obtain ⟨q,Z,U,q7⟩:=q7;exact ⟨q,Z,U.unpinned,q7⟩
   | ret v=>obtain ⟨x7,q,Z,U,r7,q7⟩:=q7;exact ⟨x7,q,Z,U.unpinned,r7,q7⟩
end
abbrev R2:=V->V->Hp->VK->Prop
noncomputable def OpR (X:Cx) (f:Value->Value->Sem Value) (r:R2):Prop:=
 ∀ (pins:List (Addr×Obj)) (s:qa4) (σ:St) (H:Hp) (x y:V) (v u:Value) (Q:VK),Inv X pins σ H s->RelV x v->RelV y u->r x y H Q→
  wpAny (model X.prog X.w) X.A (f v u) (EP X pins σ Q) X.xe s
noncomputable def UnR (X:Cx) (f:Value->Sem Value) (r:V->Hp->VK->Prop):Prop:=
 ∀ (pins:List (Addr×Obj)) (s:qa4) (σ:St) (H:Hp) (x:V) (v:Value) (Q:VK),Inv X pins σ H s->RelV x v->r x H Q→
  wpAny (model X.prog X.w) X.A (f v) (EP X pins σ Q) X.xe s
noncomputable def c8 (X:Cx) (f:Value) (r:List V->Hp->VK->Prop):Prop:=
 ∀ (pins:List (Addr×Obj)) (s:qa4) (σ:St) (H:Hp) (xs:List V) (us:List Value) (Q:VK),Inv X pins σ H s->Vals xs us->r xs H Q→
  wpAny (model X.prog X.w) X.A (call f us) (EP X pins σ Q) X.xe s
noncomputable def TruR (X:Cx) (r:V->Hp->(Bool->Hp->Prop)->Prop):Prop:=
 ∀ (pins:List (Addr×Obj)) (s:qa4) (σ:St) (H:Hp) (x:V) (v:Value) (Q:Bool->Hp->Prop),Inv X pins σ H s->RelV x v->r x H Q→
  wpAny (model X.prog X.w) X.A (truthy v) (TP X pins σ Q) X.xe s
def tOp (r:R2) (ta tb:TE):TE:=fun σ H Q=>ta σ H fun x H1=>tb σ H1 fun y H2=>r x y H2 Q
def tUn (r:V->Hp->VK->Prop) (ta:TE):TE:=fun σ H Q=>ta σ H fun x H1=>r x H1 Q
def rI (C:Int->Int->Prop) (g:Int->Int->V):R2:=fun x y H Q=>∃ i j,x=.int i/\y=.int j/\C i j/\Q (g i j) H
def rI0 (g:Int->Int->V):R2:=fun x y H Q=>∃ i j,x=.int i/\y=.int j/\Q (g i j) H
def rU (g:Int->V):V->Hp->VK->Prop:=fun x H Q=>∃ i,x=.int i/\Q (g i) H
variable {f:Value->Value->Sem Value} {r:R2}
section
variable {X:Cx} {a b c:Expr} {ta tb tc:TE} {pos:Pos}
theorem AG (Y:PE X a ta) (hb:PE X b tb) (I:Inv X pins σ H s)
 (h:ta σ H fun x H1=>tb σ H1 fun y H2=>R x y H2) {Q:Value->qa4->Prop} 
 (U:∀ v u O x y H2,Inv X pins σ H2 O->RelV x v->RelV y u->R x y H2->wpAny (model X.prog X.w) X.A (f v u) Q X.xe O) :
  wpAny (model X.prog X.w) X.A (eval a X.env) (fun v q=>wpAny (model X.prog X.w) X.A (eval b X.env) (fun u L=>wpAny (model X.prog X.w) X.A (f v u) Q X.xe L) X.xe q) X.xe s:=by
 refine thn (Y pins s σ H _ I h) fun v s1 ⟨x,H1,I1,Z,q1⟩=>?_
 refine thn (hb pins s1 σ H1 _ I1 q1) fun u O ⟨y,H2,W,r2,q2⟩=>?_
 exact U v u O x y H2 W Z r2 q2
theorem CT {L:Operator} (Z:OpR X (ql0 L) r) (W:PE X a ta) (hb:PE X b tb):PE X (.BinOp a L b pos) (tOp r ta tb):=by intro pins s σ H Q I h;exact wpAny_BinOp (AG W hb I h fun v u O x y H2 U Y ry q=>Z pins O σ H2 x y v u Q U Y ry q)
theorem CU {q:UnaryOp} {r:V->Hp->VK->Prop} (W:UnR X (unaryOp q) r) (L:PE X a ta):PE X (.UnaryOp q a pos) (tUn r ta):=by intro pins s σ H Q I h;exact UnaryOp_ (thn (L pins s σ H _ I h) fun v s1 ⟨x,H1,U,O,q1⟩=>W pins s1 σ H1 x v Q U O q1)
theorem opI {C:Int->Int->Prop} {g:Int->Int->Int}
 (L:∀ (i j:Int) (t u:Tok) (s:qa4) (Q:Value->qa4->Prop) (E:Value->qa4->Prop),C i j->Q (.int (g i j) s.toks) {s with toks:=s.toks+1}->wpAny (model X.prog X.w) X.A (f (.int i t) (.int j u)) Q E s) :
  OpR X f (rI C fun i j=>.int (g i j)):=by
 intro pins s σ H x y v u Q I O W h;obtain ⟨i,j,rfl,rfl,U,q⟩:=h;obtain ⟨t,rfl⟩:=O;obtain ⟨t',rfl⟩:=W;exact L i j t t' s _ _ U ⟨.int (g i j),H,I.tok _,⟨_,rfl⟩,q⟩
theorem opI0 {g:Int->Int->Int}
 (L:∀ (i j:Int) (t u:Tok) (s:qa4) (Q:Value->qa4->Prop) (E:Value->qa4->Prop),Q (.int (g i j) s.toks) {s with toks:=s.toks+1}->wpAny (model X.prog X.w) X.A (f (.int i t) (.int j u)) Q E s) :
  OpR X f (rI0 fun i j=>.int (g i j)):=by
 intro pins s σ H x y v u Q I O U h;obtain ⟨i,j,rfl,rfl,q⟩:=h;obtain ⟨t,rfl⟩:=O;obtain ⟨t',rfl⟩:=U;exact L i j t t' s _ _ ⟨.int (g i j),H,I.tok _,⟨_,rfl⟩,q⟩
theorem AH {g:Int->Int->Bool}
 (L:∀ (i j:Int) (t u:Tok) (s:qa4) (Q:Value->qa4->Prop) (E:Value->qa4->Prop),Q (.bool (g i j)) s->wpAny (model X.prog X.w) X.A (f (.int i t) (.int j u)) Q E s) :
  OpR X f (rI0 fun i j=>.bl (g i j)):=by
 intro pins s σ H x y v u Q I O U h;obtain ⟨i,j,rfl,rfl,q⟩:=h;obtain ⟨t,rfl⟩:=O;obtain ⟨t',rfl⟩:=U;exact L i j t t' s _ _ ⟨.bl (g i j),H,I,rfl,q⟩
def AI (i j:Int):Prop:=0<=j/\j<=1000000/\i.natAbs<2^64
def CMul (i j:Int):Prop:=(-(2^64)<i/\i<2^64)∨(-(2^64)<j/\j<2^64)
theorem CMul.ok {i j:Int} (h:CMul i j):IntMulOk i j:=by
 rcases h with ⟨h1,h2⟩ | ⟨h1,h2⟩
 . exact .of_left (intBits_le_64 h1 h2)
 . exact .of_right (intBits_le_64 h1 h2)
theorem AJ:OpR X (ql0 .Add) (rI0 fun i j=>.int (i+j)):=opI0 fun _ _ _ _ _ _ _ q=>add_int q
theorem AK:OpR X (ql0 .Sub) (rI0 fun i j=>.int (i-j)):=opI0 fun _ _ _ _ _ _ _ q=>sub_int q
theorem AL:OpR X (ql0 .Mult) (rI CMul fun i j=>.int (i*j)):=opI fun _ _ _ _ _ _ _ L q=>mul_int q L.ok
theorem pf:OpR X (ql0 .Mod) (rI (fun _ j=>0<j) fun i j=>.int (i%j)):=opI fun i j _ _ _ _ _ L q=>by have h1:(0:Int)<j:=L;exact mod_int' (by lia) (by rw [Int.fmod_eq_emod_of_nonneg i (by lia)];exact q)
theorem ug:OpR X (ql0 .Pow) (rI AI fun i j=>.int (i^j.toNat)):=opI fun _ _ _ _ _ _ _ L q=>pow_int_small L.1 L.2.1 L.2.2 q
theorem unI {f:Value->Sem Value} {g:Int->Int}
  (L:∀ (i:Int) (t:Tok) (s:qa4) (Q:Value->qa4->Prop) (E:Value->qa4->Prop),Q (.int (g i) s.toks) {s with toks:=s.toks+1}->wpAny (model X.prog X.w) X.A (f (.int i t)) Q E s) :
  UnR X f (rU fun i=>.int (g i)):=by
 intro pins s σ H x v Q I O h;obtain ⟨i,rfl,q⟩:=h;obtain ⟨t,rfl⟩:=O;exact L i t s _ _ ⟨.int (g i),H,I.tok _,⟨_,rfl⟩,q⟩
theorem AM:UnR X (unaryOp .USub) (rU fun i=>.int (-i)):=unI fun _ _ _ _ _ q=>neg_int q
end
noncomputable def AN:V->V->Bool
 | .non,.non=>true | .non,.int _=>true | .int _,.non=>true | .non,.bl _=>true | .bl _,.non=>true | .non,.str _=>true | .str _,.non=>true
 | .int _,.int _=>true | .bl _,.bl _=>true | .str _,.str _=>true | .byt _,.byt _=>true
 | .int _,.str _=>true | .str _,.int _=>true | .bl _,.str _=>true | .str _,.bl _=>true
 | _,_=>false
def rEq:R2:=fun x y H Q=>AN x y=true/\Q (.bl (decide (x=y))) H
def rNe:R2:=fun x y H Q=>AN x y=true/\Q (.bl (!decide (x=y))) H
theorem qu {i j:Int}:decide (V.int i=V.int j)=(i==j):=by rw [qj8];simp
theorem uh {i j:Bool}:decide (V.bl i=V.bl j)=(i==j):=by rw [qj8];simp
theorem qv {i j:Str}:decide (V.str i=V.str j)=(i==j):=by rw [qj8];simp
theorem qw {i j:Array UInt8}:decide (V.byt i=V.byt j)=(i.toList==j.toList):=by rw [qj8];cases i;cases j;simp
section
variable {X:Cx} {a b c:Expr} {ta tb tc:TE} {pos:Pos}
theorem aG {Q:VK} {k k':Bool} (I:Inv X pins σ H s) (q:Q (.bl k) H) (e:k=k'):EP X pins σ Q (.bool k') s:=by subst e;exact ⟨.bl k,H,I,rfl,q⟩
theorem CW:OpR X (qf7 .Eq) rEq:=by
 intro pins s σ H x y v u Q I U L h;obtain ⟨O,q⟩:=h;cases x with
 | non =>
  cases U;cases y with
  | non=>cases L;exact PySem.EqNone.eq_none_none (aG I q (by simp))
  | bl j=>cases L;exact PySem.EqNone.eq_none_bool (aG I q (by simp))
  | int j=>obtain ⟨t',rfl⟩:=L;exact PySem.EqNone.eq_none_int (aG I q (by simp))
  | str j=>obtain ⟨t',rfl⟩:=L;exact PySem.EqNone.eq_none_str (aG I q (by simp))
  | _=>exact absurd (show false=true from O) qb6
 | bl i =>
  cases U;cases y with
  | non=>cases L;exact PySem.EqNone.eq_bool_none (aG I q (by simp))
  | bl j=>cases L;exact eq_bool (aG I q uh)
  | str j=>obtain ⟨t',rfl⟩:=L;exact PySem.EqMixed.eq_bool_str (aG I q (by simp))
  | _=>exact absurd (show false=true from O) qb6
 | int i =>
  obtain ⟨t,rfl⟩:=U;cases y with
  | non=>cases L;exact PySem.EqNone.eq_int_none (aG I q (by simp))
  | int j=>obtain ⟨t',rfl⟩:=L;exact eq_int (aG I q qu)
  | str j=>obtain ⟨t',rfl⟩:=L;exact PySem.EqMixed.eq_int_str (aG I q (by simp))
  | _=>exact absurd (show false=true from O) qb6
 | str i =>
  obtain ⟨t,rfl⟩:=U;cases y with
  | non=>cases L;exact PySem.EqNone.eq_str_none (aG I q (by simp))
  | bl j=>cases L;exact PySem.EqMixed.eq_str_bool (aG I q (by simp))
  | int j=>obtain ⟨t',rfl⟩:=L;exact PySem.EqMixed.eq_str_int (aG I q (by simp))
  | str j=>obtain ⟨t',rfl⟩:=L;exact eq_str (aG I q qv)
  | _=>exact absurd (show false=true from O) qb6
 | byt i =>
  obtain ⟨t,rfl⟩:=U;cases y with
  | byt j=>obtain ⟨t',rfl⟩:=L;exact PySem.W.eq_bytes (aG I q qw)
  | _=>exact absurd (show false=true from O) qb6
 | _=>cases y<;>exact absurd (show false=true from O) qb6
theorem CY:OpR X (qf7 .NotEq) rNe:=by
 intro pins s σ H x y v u Q I U L h;obtain ⟨O,q⟩:=h;cases x with
 | non =>
  cases U;cases y with
  | non=>cases L;exact PySem.EqNone.ne_none_none (aG I q (by simp))
  | bl j=>cases L;exact PySem.EqNone.ne_none_bool (aG I q (by simp))
  | int j=>obtain ⟨t',rfl⟩:=L;exact PySem.EqNone.ne_none_int (aG I q (by simp))
  | str j=>obtain ⟨t',rfl⟩:=L;exact PySem.EqNone.ne_none_str (aG I q (by simp))
  | _=>exact absurd (show false=true from O) qb6
 | bl i =>
  cases U;cases y with
  | non=>cases L;exact PySem.EqNone.ne_bool_none (aG I q (by simp))
  | bl j=>cases L;exact ne_bool (aG I q (congrArg not uh))
  | str j=>obtain ⟨t',rfl⟩:=L;exact PySem.EqMixed.ne_bool_str (aG I q (by simp))
  | _=>exact absurd (show false=true from O) qb6
 | int i =>
  obtain ⟨t,rfl⟩:=U;cases y with
  | non=>cases L;exact PySem.EqNone.ne_int_none (aG I q (by simp))
  | int j=>obtain ⟨t',rfl⟩:=L;exact ne_int (aG I q (congrArg not qu))
  | str j=>obtain ⟨t',rfl⟩:=L;exact PySem.EqMixed.ne_int_str (aG I q (by simp))
  | _=>exact absurd (show false=true from O) qb6
 | str i =>
  obtain ⟨t,rfl⟩:=U;cases y with
  | non=>cases L;exact PySem.EqNone.ne_str_none (aG I q (by simp))
  | bl j=>cases L;exact PySem.EqMixed.ne_str_bool (aG I q (by simp))
  | int j=>obtain ⟨t',rfl⟩:=L;exact PySem.EqMixed.ne_str_int (aG I q (by simp))
  | str j=>obtain ⟨t',rfl⟩:=L;exact ne_str (aG I q (congrArg not qv))
  | _=>exact absurd (show false=true from O) qb6
 | byt i =>
  obtain ⟨t,rfl⟩:=U;cases y with
  | byt j=>obtain ⟨t',rfl⟩:=L;exact PySem.W.ne_bytes (aG I q (congrArg not qw))
  | _=>exact absurd (show false=true from O) qb6
 | _=>cases y<;>exact absurd (show false=true from O) qb6
theorem ui:OpR X (qf7 .Lt) (rI0 fun i j=>.bl (decide (i<j))):=AH fun _ _ _ _ _ _ _ q=>lt_int q
theorem zf:OpR X (qf7 .LtE) (rI0 fun i j=>.bl (decide (i<=j))):=AH fun _ _ _ _ _ _ _ q=>le_int q
theorem zg:OpR X (qf7 .Gt) (rI0 fun i j=>.bl (decide (j<i))):=AH fun _ _ _ _ _ _ _ q=>gt_int q
theorem sk:OpR X (qf7 .In) (fun x y H Q=>∃ i j,x=.str i/\y=.str j/\Q (.bl (!(qr0 j i 0 j.length 1).isEmpty)) H):=by intro pins s σ H x y v u Q I L O h;obtain ⟨i,j,rfl,rfl,q⟩:=h;obtain ⟨t,rfl⟩:=L;obtain ⟨t',rfl⟩:=O;exact in_str (aG I q rfl)
theorem gp:OpR X (qf7 .Is) (fun x y H Q=>y=.non/\Q (.bl (decide (x=.non))) H):=by
 intro pins s σ H x y v u Q I L O h;obtain ⟨rfl,q⟩:=h;cases O;refine is_none_gen (aG I q ?_)
 cases x<;>first
  | (cases L;rfl)
  | (obtain ⟨t,rfl⟩:=L;rfl)
theorem mf:OpR X (qf7 .IsNot) (fun x y H Q=>y=.non/\Q (.bl (!decide (x=.non))) H):=by
 intro pins s σ H x y v u Q I L O h;obtain ⟨rfl,q⟩:=h;cases O;refine isnot_none_gen (aG I q ?_)
 cases x<;>first
  | (cases L;rfl)
  | (obtain ⟨t,rfl⟩:=L;rfl)
theorem OpR.or {L:R2} (h:OpR X f r) (h':OpR X f L):OpR X f (fun x y H Q=>r x y H Q∨L x y H Q):=by
 intro pins s σ H x y v u Q I O U q;rcases q with q | q
 . exact h pins s σ H x y v u Q I O U q
 . exact h' pins s σ H x y v u Q I O U q
theorem aV (b:Expr) {q:CmpOp} (h:q≠.In:=by decide) (h2:q≠.NotIn:=by decide):qf4 q b=false:=by
 have L:(q==CmpOp.In)=false:=by cases q<;>first | rfl | exact absurd rfl h
 have e2:(q==CmpOp.NotIn)=false:=by cases q<;>first | rfl | exact absurd rfl h2
 cases b<;>simp [qf4,L,e2]
theorem jy {L:CmpOp} (Z:OpR X (qf7 L) r) (W:PE X a ta) (hb:PE X b tb) (hm:qf4 L b=false):PE X (.Compare a [L] [b] pos) (tOp r ta tb):=by intro pins s σ H Q I h;exact wpAny_Compare1 (AG W hb I h fun v u O x y H2 U Y ry q=>Z pins O σ H2 x y v u Q U Y ry q) hm
def CZ (t:TE):TT:=fun σ H Q=>t σ H fun x H'=>∃ k,x=.bl k/\Q k H'
theorem gM {q:CmpOp} (ho:OpR X (qf7 q) r) (U:PE X a ta) (hb:PE X b tb) (hm:qf4 q b=false):PT X (.Compare a [q] [b] pos) (CZ (tOp r ta tb)):=by
 intro pins s σ H Q I h
 refine zd0 (thn (U pins s σ H _ I h) fun v s1 ⟨x,H1,Y,W,q1⟩=>thn (hb pins s1 σ H1 _ Y q1) fun u L ⟨y,H2,I2,r2,q2⟩ =>thn (ho pins L σ H2 x y v u _ I2 W r2 q2) fun c s3 ⟨z,O,Z,r3,k,e,q3⟩=>?_) hm
 subst e;cases r3;exact qs1 ⟨O,Z,q3⟩
noncomputable def AO (K:xA9) (x:V) (H:Hp) (k:Bool):Prop:=
 match x with
 | .non=>k=false
 | .bl b=>k=b
 | .int i=>k=(i != 0)
 | .str y=>y.length<=qb0/\k=((y.length:Int) != 0)
 | .byt y=>y.size<=qb0/\k=((y.size:Int) != 0)
 | .ref p=>(∃ xs,SqL K H p xs/\k=!xs.isEmpty)∨(∃ xs,SqT K H p xs/\k=!xs.isEmpty)∨∃ kvs,H p=some (.dK kvs)/\k=!kvs.isEmpty
 | _=>False
theorem ph {κ:Type} {kvs:List (κ×V)} {vs:List (κ×Value)} (r:KV kvs vs):(!vs.isEmpty)=!kvs.isEmpty:=by cases r<;>rfl
theorem jN {its:List Value} (r:Vals xs its):(!its.toArray.isEmpty)=!xs.isEmpty:=by cases r<;>simp
theorem iM:(qb0:Nat)<2^63:=by rw [za0];decide
theorem AQ:TruR X (fun x H Q=>∃ k,AO X.K x H k/\Q k H):=by
 intro pins s σ H x v Q I rx h;obtain ⟨k,e,q⟩:=h;have hl:=iM;have hs:qb0=16777216:=za0;cases x with
 | non =>cases rx;have e':k=false:=e;subst e';exact truthy_none ⟨H,I,q⟩
 | bl b =>cases rx;have e':k=b:=e;subst e';exact qs1 ⟨H,I,q⟩
 | int i =>obtain ⟨t,rfl⟩:=rx;have e':k=(i != 0):=e;subst e';exact PySem.P.truthy_int ⟨H,I,q⟩
 | str y =>obtain ⟨t,rfl⟩:=rx;obtain ⟨hy,e'⟩:y.length<=qb0/\k=((y.length:Int) != 0):=e;subst e';exact PySem.P.truthy_str (by lia) ⟨H,I.tok _,q⟩
 | byt y =>obtain ⟨t,rfl⟩:=rx;obtain ⟨hy,e'⟩:y.size<=qb0/\k=((y.size:Int) != 0):=e;subst e';exact PySem.W.truthy_bytes (by lia) ⟨H,I.tok _,q⟩
 | ref p =>
  cases rx;have e':(∃ xs,SqL X.K H p xs/\k=!xs.isEmpty)∨(∃ xs,SqT X.K H p xs/\k=!xs.isEmpty)∨∃ kvs,H p=some (.dK kvs)/\k=!kvs.isEmpty:=e;rcases e' with ⟨xs,hx,e'⟩ | ⟨xs,hx,e'⟩ | ⟨kvs,hx,e'⟩
  . subst e';obtain ⟨its,r,pl,hz⟩:=I.list hx;have hlen:=r.length;exact wpAny_truthy_list pl.isList (by simp only [qb9];lia) ⟨H,I.tok _,by rw [jN r];exact q⟩
  . subst e';obtain ⟨its,r,pl,hz⟩:=I.tuple hx;have hlen:=r.length;exact truthy_tuple pl (by simp only [qb9];lia) ⟨H,I.tok _,by rw [jN r];exact q⟩
  . subst e';obtain ⟨hz,hS,vs,r,m⟩:kvs.length<=qb0/\(p==qi8)=false/\∃ vs,KV kvs vs/\s.heap.DictOf (bp X.prog X.w) p vs:=I.hok p _ hx;have hlen:kvs.length=vs.length:=Paired.length r;exact wpAny_truthy_dict hS m (by lia) ⟨H,I.tok _,by rw [ph r];exact q⟩
 | _=>exact (show False from e).elim
theorem nn (O:PE X a ta) (L:∀ q,isTrue a X.env q=(do let v <- q;standAt a.pos;qz9 [v] (truthy v))) :
  PT X a (fun σ H Q=>ta σ H fun x H'=>∃ k,AO X.K x H' k/\Q k H'):=by
 intro pins s σ H Q I h;exact isTrue_plain (thn (O pins s σ H _ I h) fun v s1 ⟨x,H1,W,U,q1⟩=>AQ pins s1 σ H1 x v Q W U q1) (L _)
theorem pi:OpR X (ql0 .Add) (fun x y H Q=>∃ i j,x=.str i/\y=.str j/\i.length+j.length<=qb0/\Q (.str (i++j)) H):=by intro pins s σ H x y v u Q I O U h;obtain ⟨i,j,rfl,rfl,L,q⟩:=h;obtain ⟨t,rfl⟩:=O;obtain ⟨t',rfl⟩:=U;exact add_str (fun t' tk=>⟨.str (i++j),H,I.tok _,⟨_,rfl⟩,q⟩) L
theorem jO {x:V} (r:Vals [x] us):∃ u,us=[u]/\RelV x u:=by
 cases r with
 | cons L q=>cases q;exact ⟨_,rfl,L⟩
theorem C0 {x:V} (r:Vals [x,y] us):∃ u w',us=[u,w']/\RelV x u/\RelV y w':=by
 cases r with
 | cons U q =>
  cases q with
  | cons L O=>cases O;exact ⟨_,_,rfl,U,L⟩
noncomputable def LenV (K:xA9) (x:V) (H:Hp) (n:Nat):Prop:=
 match x with
 | .str y=>y.length<=qb0/\n=y.length
 | .byt y=>y.size<=qb0/\n=y.size
 | .ref p=>(∃ xs,SqL K H p xs/\n=xs.length)∨∃ xs,SqT K H p xs/\n=xs.length
 | _=>False
theorem np:c8 X (.builtin "len") (fun xs H Q=>∃ x n,xs=[x]/\LenV X.K x H n/\Q (.int n) H):=by
 intro pins s σ H xs us Q I r h;obtain ⟨x,n,rfl,e,q⟩:=h;obtain ⟨u,rfl,rx⟩:=jO r;have hl:=iM;have hs:qb0=16777216:=za0;cases x with
 | str y =>obtain ⟨t,rfl⟩:=rx;obtain ⟨hy,e'⟩:y.length<=qb0/\n=y.length:=e;subst e';exact len_str (by lia) ⟨.int _,H,I.tok _,⟨_,rfl⟩,q⟩
 | byt y =>obtain ⟨t,rfl⟩:=rx;obtain ⟨hy,e'⟩:y.size<=qb0/\n=y.size:=e;subst e';exact PySem.W.len_bytes (by lia) ⟨.int _,H,I.tok _,⟨_,rfl⟩,q⟩
 | ref p =>
  cases rx;have e':(∃ xs,SqL X.K H p xs/\n=xs.length)∨∃ xs,SqT X.K H p xs/\n=xs.length:=e;rcases e' with ⟨xs,hx,e'⟩ | ⟨xs,hx,e'⟩
  . subst e';obtain ⟨its,r',pl,hz⟩:=I.list hx;have hlen:=r'.length;exact Calls.call_len_list pl.isList (by simp only [qb9];lia) ⟨.int xs.length,H,I.tok _,⟨_,by simp only [qb9];rw [hlen]⟩,q⟩
  . subst e';obtain ⟨its,r',pl,hz⟩:=I.tuple hx;have hlen:=r'.length;exact len_tuple pl (by simp only [qb9];lia) ⟨.int xs.length,H,I.tok _,⟨_,by simp only [qb9];rw [hlen]⟩,q⟩
 | _=>exact (show False from e).elim
end
structure ObjM (h:Heap) (x dx C:Addr) (mA:Str->Option Value):Prop where
 obj:h.get? x=some (xO9 C dx)
 ns:h.Ns1 dx mA
 ne:dx≠x
variable {dx:Addr} {mA:Str->Option Value}
theorem so (n:h.Ns1 dx mA):∃ od,h.get? dx=some od/\∀ name,PySem.W.lookIn name od=some (mA name):=by
 obtain ⟨o,es,ep,U,Z,hk,_,Y⟩:=n;refine ⟨o,U,fun name=>?_⟩;have e:=Y name;unfold nsFind findBy at e;rw [<- Array.find?_toList] at e;unfold PySem.W.lookIn;rw [Z];dsimp only;split
 . rename_i y q;rw [q] at e;exact congrArg some e
 . rename_i q;rw [q] at e
   have a:es.toList.any (·.refKey)=false:=by rw [List.any_eq_false];intro y hy;obtain ⟨z,t,L⟩:=hk y (Array.mem_toList_iff.mp hy);simp [DictEntry.refKey,L]
   have O:¬ es.toList.any (·.refKey)=true:=by rw [a];exact qb6
   rw [if_neg O];exact congrArg some e
variable {C:Addr}
theorem ObjM.look {x:Addr} (I:ObjM h x dx C mA):∃ od,PySem.W.InstAt h x (xO9 C dx) C (some od)/\∀ name,PySem.W.lookIn name od=some (mA name):=
 let ⟨od,ho,hl⟩:=so I.ns
 ⟨od,⟨I.obj,rfl,rfl,ho⟩,hl⟩
section
variable {prog:qc5} {w:World} {A:qd7} {E:Value->qa4->Prop} {s:qa4} {K:xA9} {x dx C f:Addr} {mA:Str->Option Value} {name:Str} {v:Value}
end
theorem RelO.some_of {o:Option Value} (r:RelO (some v) o):∃ u,o=some u/\RelV v u:=by
 cases o with
 | none=>exact (show False from r).elim
 | some u=>exact ⟨u,rfl,r⟩
section
variable {P:qc5} {w:World} {H H':Hp} {h h':Heap} {a C dx:Addr} {fs fs':List (Str×V)}
theorem xi (L:HOk P w H h) (e:H a=some (.ins C dx fs)):∃ mA,ObjM h a dx C mA/\(∀ f,RelO (fs.lookup f) (mA f))/\PySem.Within mA (fs.map (·.1))/\fs.length<=1000/\H dx=some (.own a):=by obtain ⟨d,z,O,ob,mA,n,r,q⟩:=(show ObjOk P w H h a (.ins C dx fs) from L a _ e);exact ⟨mA,⟨ob,n,O⟩,r,q,z,d⟩
end
structure Cls (K:xA9) (C:Addr):Prop where
 pg:PySem.W.plainGet K C Str.empty=true
 hd:PySem.W.hasDictIn K C=true
 po:PySem.W.plainOver K C=true
 sa:PySem.W.findIn K (.ref C) "__setattr__"=some (some (.builtin "object.__setattr__"))
theorem Cls.get (c:Cls K C) (f:Str):PySem.W.plainGet K C f=true:=c.pg
section
variable {X:Cx} {pins:List (Addr×Obj)} {σ:St} {H:Hp} {s:qa4} {a C dx:Addr} {fs:List (Str×V)} {f:Str} {v:V} {A:qd7} {E:Value->qa4->Prop}
end
section
variable {X:Cx} {o e value:Expr} {f:Str} {pos pos' tpos:Pos} {ta tv:TE}
end
section
variable {X:Cx} {pins:List (Addr×Obj)} {σ:St} {H:Hp} {s:qa4} {A:qd7} {E:Value->qa4->Prop} {Q:Value->qa4->Prop} {c:Value} {b:Bool}
inductive TyOf (K:xA9) (H:Hp):V->Value->Prop where
 | non:TyOf K H .non (.type "NoneType")
 | bl (x:Bool):TyOf K H (.bl x) (.type "bool")
 | int (i:Int):TyOf K H (.int i) (.type "int")
 | str (x:Str):TyOf K H (.str x) (.type "str")
 | flt (x:UInt64):TyOf K H (.flt x) (.type "float")
 | lst {a:Addr} {xs:List V} (e:H a=some (.lst xs)):TyOf K H (.ref a) (.type "list")
 | frz {a:Addr} {o:Obj} {xs:List V} (e:H a=some (.frz o (.lst xs))):TyOf K H (.ref a) (.type "list")
 | tup {a:Addr} {xs:List V} (e:H a=some (.tup xs)):TyOf K H (.ref a) (.type "tuple")
 | dK {a:Addr} {kvs:List (Key×V)} (e:H a=some (.dK kvs)):TyOf K H (.ref a) (.type "dict")
 | dT {a:Addr} {kvs:List (List Key×V)} (e:H a=some (.dT kvs)):TyOf K H (.ref a) (.type "dict")
 | ins {a C dx:Addr} {fs:List (Str×V)} (e:H a=some (.ins C dx fs)) (cl:Cls K C) (ha:PySem.W.findIn K (.ref C) "__class__"=some (some (.builtin "object.__class__")))
     (hn:PySem.W.specialIn K (.builtin "object.__class__") "__get__"=some (some (.builtin "getset_descriptor.__get__"))) (htk:PySem.W.takesIn K (.builtin "object.__class__")=some true)
     (hm:PySem.W.mroIn K C (.type "object")=some true):TyOf K H (.ref a) (.ref C)
theorem fO {x:V} {t:Value} (I:Inv X pins σ H s) (L:RelV x u) (ty:TyOf X.K H x t) (e:xL9 X.K t c=some b) (h:∀ tk,Q (.bool b) {s with toks:=tk}) :
  wpAny (model X.prog X.w) A (call (.builtin "isinstance") [u,c]) Q E s:=by
 cases ty with
 | non=>cases (show u=qh6 from L);exact xD9 PySem.W.kitx_none I.kIn qq3 e (fun z=>nomatch z) h
 | bl y=>cases (show u=qu7 y from L);exact xD9 PySem.W.kitx_bool I.kIn qq3 e (fun z=>nomatch z) h
 | int i=>obtain ⟨t,q⟩:=(show ∃ t,u=zi2 i t from L);cases q;exact xD9 PySem.W.kitx_int I.kIn qq3 e (fun z=>nomatch z) h
 | str y=>obtain ⟨t,q⟩:=(show ∃ t,u=zi3 y t from L);cases q;exact xD9 PySem.W.kitx_str I.kIn qq3 e (fun z=>nomatch z) h
 | flt y=>obtain ⟨t,q⟩:=(show ∃ t,u=Value.float y t from L);cases q;exact xD9 PySem.W.kitx_float I.kIn qq3 e (fun z=>nomatch z) h
 | @lst a xs U =>cases (show u=qf3 a from L);obtain ⟨_,_,n,_,h1⟩:=(show ObjOk X.prog X.w H s.heap a (.lst xs) from I.hok a _ U);exact xD9 xQ9 I.kIn ⟨_,h1,rfl⟩ e (fun z=>nomatch z) h
 | @frz a ob xs U =>cases (show u=qf3 a from L);obtain ⟨_,_,_,n,_,h1⟩:=(show ObjOk X.prog X.w H s.heap a (.frz ob (.lst xs)) from I.hok a _ U);exact xD9 xQ9 I.kIn ⟨_,h1,rfl⟩ e (fun z=>nomatch z) h
 | @tup a xs U =>cases (show u=qf3 a from L);obtain ⟨_,_,_,p⟩:=(show ObjOk X.prog X.w H s.heap a (.tup xs) from I.hok a _ U);obtain ⟨o,h1,h2,_⟩:=p;exact xD9 PySem.W.kitx_tuple I.kIn ⟨o,h1,h2⟩ e (fun z=>nomatch z) h
 | @dK a kvs U =>cases (show u=qf3 a from L);obtain ⟨_,_,vs,_,p⟩:=(show ObjOk X.prog X.w H s.heap a (.dK kvs) from I.hok a _ U);obtain ⟨o,es,ep,h1,h2,_⟩:=p;exact xD9 xM9 I.kIn ⟨o,h1,h2.1⟩ e (fun z=>nomatch z) h
 | @dT a kvs U =>cases (show u=qf3 a from L);obtain ⟨_,_,xs,_,o,es,ep,h1,h2,_⟩:=(show ObjOk X.prog X.w H s.heap a (.dT kvs) from I.hok a _ U);exact xD9 xM9 I.kIn ⟨o,h1,h2.1⟩ e (fun z=>nomatch z) h
 | @ins a C dx fs U cl Z hn Y hm =>cases (show u=qf3 a from L);obtain ⟨mA,O,_⟩:=xi I.hok U;obtain ⟨od,J,_⟩:=O.look;exact xD9 (PySem.W.kitx_own (cl.get _) cl.hd Z hn Y hm) I.kIn J e (fun z=>nomatch z) h
end
structure Room (k:Nat) (A:qd7):Prop where
 hd:A.handled=none
 dp:A.depth+3*k+5<recursionLimit
 un:A.units+16*k+200<cLine
theorem Room.mono {k:Nat} (r:Room k A) (h:j<=k):Room j A:=⟨r.hd,by have:=r.dp;lia,by have:=r.un;lia⟩
theorem Room.deeper {k:Nat} (r:Room (k+1) A) (env:Env):Room k (A.deeper env):=⟨r.hd,by have:=r.dp;show A.depth+1+3*k+5<_;lia,by have:=r.un;show A.units+3+16*k+200<_;lia⟩
theorem Room.depth {k:Nat} (r:Room k A):A.depth<recursionLimit:=by have:=r.dp;lia
theorem Room.units {k:Nat} (r:Room k A):A.units+64<cLine:=by have:=r.un;lia
def tNil:TA:=fun _ H Q=>Q [] H
def C3 (ta:TE) (q:TA):TA:=fun σ H Q=>ta σ H fun x H1=>q σ H1 fun xs H2=>Q (x::xs) H2
section
variable {X:Cx} {e:Expr} {es:List Expr} {te:TE} {t:TA} {pos:Pos}
theorem dB:PA X [] tNil:=fun _ _ _ _ H Q I h=>Calls.spliced_nil ⟨[],H,I,.nil,h⟩
theorem bU (O:PE X e te) (Z:PA X es t) (L:qa6 (e::es) X.env=(false,eval e X.env)::qa6 es X.env:=by rfl):PA X (e::es) (C3 te t):=by intro pos pins s σ H Q I h;rw [L];show wpAny _ _ (spliced ((false,eval e X.env)::qj4 pos (qa6 es X.env))) _ _ s;refine Calls.spliced_cons (thn (O pins s σ H _ I h) fun u s1 ⟨x,H1,W,U,q1⟩=>?_);exact thn (Z pos pins s1 σ H1 _ W q1) fun us s2 ⟨xs,H2,q,Y,q2⟩=>⟨x::xs,H2,q,.cons U Y,q2⟩
def tTup (t:TA):TE:=fun σ H Q=>t σ H fun xs H1=>xs.length<=qb0/\∀ p,H1 p=none->Q (.ref p) (upd H1 p (.tup xs))
def tLst (t:TA):TE:=fun σ H Q=>t σ H fun xs H1=>xs.length<=qb0/\∀ p,H1 p=none->Q (.ref p) (upd H1 p (.lst xs))
theorem AR {x1} (h:PA X es t):PE X (.Tuple es x1 pos) (tTup t):=by intro pins s σ H Q I U;refine wpAny_Tuple_spliced (thn (h pos pins s σ H _ I U) fun us s1 ⟨xs,H1,L,r,z,q⟩=>⟨by rw [<- r.length];exact z,?_⟩);have O:H1 s1.heap.objs.size=none:=L.hok.fresh (nL _);refine ⟨.ref s1.heap.objs.size,upd H1 s1.heap.objs.size (.tup xs),L.laid (t':=s1.toks) (fun b u e=>gP _ e) (nL _) ?_,rfl,q _ O⟩;exact ⟨z,us,r,⟨_,qa7 _ rfl,rfl,_,rfl⟩⟩
theorem AS (h:PA X es t):PE X (.List es pos) (tLst t):=by intro pins s σ H Q I U;refine wpAny_List_spliced (thn (h pos pins s σ H _ I U) fun us s1 ⟨xs,H1,L,r,z,q⟩=>⟨by rw [<- r.length];exact z,?_⟩);have O:H1 s1.heap.objs.size=none:=L.hok.fresh (nL _);refine ⟨.ref s1.heap.objs.size,upd H1 s1.heap.objs.size (.lst xs),L.laid (t':=s1.toks) (fun b u e=>gP _ e) (nL _) ?_,rfl,q _ O⟩;exact ⟨z,us,0,r,qa7 _ rfl⟩
end
abbrev Sp:=List V->Hp->VK->XK->Prop
abbrev CXT:=List Env->Hp->qa4->XK->Value->qa4->Prop
structure Env0 (P:qc5) (w:World) (K:xA9) (mg:Str->Option Value) (base:Heap) (A:qd7) (outer:List Env) (s:qa4) (H:Hp):Prop where
 frames:A.frames=some outer
 mod:Mod K mg base
 bs:∀ b o,base.get? b=some o->s.heap.get? b=some o/\H b=none
 bsz:base.objs.size<=s.heap.objs.size
 funs:s.heap.FunFrames base outer
 frf:∀ b∈frs outer,H b=none
 hok:HOk P w H s.heap
 bare:zc7 s.gens
 tb:∀ p∈cF K,H p.1=some (.ctab p.2)
def CE (outer:List Env) (P:qc5) (w:World) (H:Hp) (s:qa4) (Q:VK) (u:Value) (s':qa4):Prop:=∃ v H',s'.os=s.os/\zc7 s'.gens/\Un (frs outer) [] H H' s.heap s'.heap/\HOk P w H' s'.heap/\RelV v u/\Q v H'
def CR (CX:CXT) (outer:List Env) (P:qc5) (w:World) (H:Hp) (s:qa4) (Q:VK) (E:XK) (r:Result) (s':qa4):Prop:=
 match r with
 | .ok (.ret u)=>CE outer P w H s Q u s'
 | .ok _=>False
 | .error e=>CX outer H s E e s'
structure FnOk (P:qc5) (w:World) (K:xA9) (mg:Str->Option Value) (base:Heap) (CX:CXT) (k:Nat) (f:Addr) (fd:qo9) (ps:List Str) (sp:Sp):Prop where
 len:∀ vs H Q E,sp vs H Q E->vs.length=ps.length
 run:∀ (A:qd7) (outer:List Env) (s:qa4) (H:Hp) (args:Args) (us:List Value) (vs:List V) (Q:VK) (E:XK),Room k A->Env0 P w K mg base A outer s H->za1 s fd args (ps.zip us)->Vals vs us->sp vs H Q E→
  qs2 (model P w) A (.call (.ref f) args) (CR CX outer P w H s Q E) s
variable {base:Heap} {CX:CXT} {fd:qo9} {ps:List Str} {sp:Sp}
theorem FnOk.imp {mg:Str->Option Value} {k:Nat} {f:Addr} {O:Sp} (F:FnOk P w K mg base CX k f fd ps sp)
 (h:∀ vs H Q E,O vs H Q E->sp vs H Q E):FnOk P w K mg base CX k f fd ps O:=
 ⟨fun vs H Q E q=>F.len vs H Q E (h _ _ _ _ q),fun A outer s H L us vs Q E Z U hb W Y=>F.run A outer s H L us vs Q E Z U hb W (h _ _ _ _ Y)⟩
section
variable {X:Cx} {pins:List (Addr×Obj)} {σ:St} {H:Hp} {s s':qa4}
theorem Inv.env0 (I:Inv X pins σ H s):Env0 X.prog X.w X.K X.mg X.base X.A X.stack s H:=⟨I.ok.frames,I.ok.mod,I.bs,qb8 I.ok.bsz I.sz,I.stack,I.stkFree,I.hok,I.bare,fun p hp=>I.base.cts _ _ (I.ok.tb p hp)⟩
theorem Inv.after {Q:VK} (I:Inv X pins σ H s) (h:CE X.stack X.prog X.w H s Q u s'):EP X pins σ Q u s':=by obtain ⟨v,H',os,L,un,O,r,q⟩:=h;obtain ⟨W,g,d,t,U⟩:=s';obtain rfl:U=s.os:=os;exact ⟨v,H',I.call (h':=W) (g':=g) (d':=d) (t':=t) (ch:=[]) un O L (fun b z=>absurd z (by simp)),r,q⟩
end
def uj (sp:Sp) (dvs:List V) (E:XK) (t:TA):TE:=fun σ H Q=>t σ H fun vs H1=>sp (vs++dvs) H1 Q E
def Binds (K:xA9) (fd:qo9) (ps:List Str) (ds:List Value):Prop:=∀ (s:qa4) (us:List Value),K.In s.heap->(us++ds).length=ps.length->za1 s fd ⟨us,[]⟩ (ps.zip (us++ds))
theorem Binds.all (h:∀ us:List Value,us.length=ps.length->zg0 fd ⟨us,[]⟩=pure (ps.zip us)):Binds K fd ps []:=fun s us _ q=>by rw [qe8] at q ⊢;exact .of_eq (h us q)
def pj (CX:CXT) (X:Cx) (E:XK):Prop:=∀ (pins:List (Addr×Obj)) (σ:St) (H:Hp) (s:qa4) (e:Value) (s':qa4),Inv X pins σ H s->CX X.stack H s E e s'->X.xe e s'
variable {vs:List V}
section
variable {X:Cx} {CX:CXT} {k:Nat} {f C:Addr} {fd:qo9} {ps:List Str} {sp:Sp} {dvs:List V} {ds:List Value} {E:XK} {x m:Str} {p pos apos:Pos} {e o:Expr} {es:List Expr} {ta:TE} {t:TA}
theorem AT {Q:VK} (F:FnOk X.prog X.w X.K X.mg X.base CX k f fd ps sp) (Y:Room k X.A) (hb:Binds X.K fd ps ds) (Z:Vals dvs ds) (U:pj CX X E)
 (I:Inv X pins σ H s) (r:Vals vs us) (h:sp (vs++dvs) H Q E):wpAny (model X.prog X.w) X.A (call (.ref f) us) (EP X pins σ Q) X.xe s:=by
 have L:Vals (vs++dvs) (us++ds):=r.append Z;have O:(us++ds).length=ps.length:=by rw [<- L.length];exact F.len _ _ _ _ h
 refine zg5 (qq4 (F.run X.A X.stack s H ⟨us,[]⟩ (us++ds) (vs++dvs) Q E Y I.env0 (hb s us I.kIn O) L h) fun r s' q=>?_);cases r with
 | error e=>exact U pins σ H s e s' I q
 | ok W =>
  cases W with
  | ret u=>exact I.after q
  | next=>exact qg7 q
  | brk=>exact qg7 q
  | cont=>exact qg7 q
theorem xj (F:FnOk X.prog X.w X.K X.mg X.base CX k f fd ps sp) (hr:Room k X.A) (hg:Gl X x) (hm:X.mg x=some (.ref f)) (hk:xE9 X.K (.ref f)=true) (hb:Binds X.K fd ps ds) (hd:Vals dvs ds) (Z:pj CX X E)
  (ha:PA X (e::es) t) (O:(x==("__debug__":Str))=false:=by decide) (Y:qa6 (e::es) X.env=(false,eval e X.env)::qa6 es X.env:=by rfl) (L:(qj4 pos (qa6 es X.env)).any (·.1)=false:=by rfl) :
  PE X (.Call (.Name x p) (e::es) [] pos) (uj sp dvs E t):=by
 intro pins s σ H Q I h;refine qn6 (l9 I hg hm ?_ O);refine PySem.W.callWith_K (h₀:=X.base) I.ok.mod.kin hk (thn (ha pos pins s σ H _ I h) fun us s1 ⟨vs,H1,U,r,q⟩=>⟨U.kIn,?_⟩) Y L;exact AT F hr hb hd Z U r q
end
section
variable {X:Cx} {CX:CXT} {k:Nat} {f C:Addr} {fd:qo9} {ps ks:List Str} {sp:Sp} {E:XK} {x m:Str} {p pos apos kpos:Pos} {e o:Expr} {es:List Expr} {kws:List zd1} {te ta:TE} {t tk:TA} {nm:Option Str}
variable {g:List Value->List Value->List Value} {gV:List V->List V->List V}
end
structure FnScope (N P:List Str) (sc:Scope):Prop where
 kind:sc.kind=.function
 co:sc.isCoroutine=false
 gen:sc.isGenerator=false
 nd:N.Nodup
 pre:N.take P.length=P
 par:∀ x∈P,sc.names.lookup x=some .local∨sc.names.lookup x=some .cell
 nofree:∀ y∈sc.names,y.2≠.free
variable {kindOf:Str->Option qn7}
theorem k5:∀ {binds:List (Str×Value)} {m:Str->Option Value},(∀ v,(x,v)∉binds)->bindL kindOf binds m x=m x
 | [],_,_=>rfl
 | (n,v)::r,m,h=>by
  unfold bindL;rw [k5 fun w hw=>h w (qd1 _ hw)];split
  . have:x≠n:=by rintro rfl;exact h v qe0
    simp [this]
  . rfl
theorem k6:∀ {binds:List (Str×Value)} {m:Str->Option Value},(∀ v,(x,v)∉binds)->bindC kindOf binds m x=m x
 | [],_,_=>rfl
 | (n,v)::r,m,h=>by
  unfold bindC;rw [k6 fun w hw=>h w (qd1 _ hw)];split
  . rfl
  . have:x≠n:=by rintro rfl;exact h v qe0
    simp [this]
theorem iN {v:Value}:∀ {P:List Str} {vs:List Value} {i:Nat} {m:Str->Option Value},P.Nodup->P[i]?=some x->vs[i]?=some v->kindOf x=some .local→
  bindL kindOf (P.zip vs) m x=some v
 | [],_,_,_,_,h,_,_=>by simp at h
 | _::_,[],_,_,_,_,h,_=>by simp at h
 | p::P,w::vs,0,m,nd,h1,h2,hk=>by
  simp at h1 h2;subst h1;subst h2
  show bindL kindOf ((p,w)::P.zip vs) m p=_;unfold bindL;rw [k5 fun v hv=>(ql9.mp nd).1 (qv3 hv).1,if_pos hk];simp
 | p::P,w::vs,i+1,m,nd,h1,h2,hk=>by show bindL kindOf ((p,w)::P.zip vs) m x=_;unfold bindL;exact iN (i:=i) (ql9.mp nd).2 (by simpa using h1) (by simpa using h2) hk
theorem iO {v:Value}:∀ {P:List Str} {vs:List Value} {i:Nat} {m:Str->Option Value},P.Nodup->P[i]?=some x->vs[i]?=some v->kindOf x≠some .local→
  bindC kindOf (P.zip vs) m x=some v
 | [],_,_,_,_,h,_,_=>by simp at h
 | _::_,[],_,_,_,_,h,_=>by simp at h
 | p::P,w::vs,0,m,nd,h1,h2,hk=>by
  simp at h1 h2;subst h1;subst h2
  show bindC kindOf ((p,w)::P.zip vs) m p=_;unfold bindC;rw [k6 fun v hv=>(ql9.mp nd).1 (qv3 hv).1,if_neg hk];simp
 | p::P,w::vs,i+1,m,nd,h1,h2,hk=>by show bindC kindOf ((p,w)::P.zip vs) m x=_;unfold bindC;exact iO (i:=i) (ql9.mp nd).2 (by simpa using h1) (by simpa using h2) hk
def start (N:List Str) (vs:List V):St:=vs.map some++qe6 (N.length-vs.length) none
noncomputable def iP (CX:CXT) (P:qc5) (w:World) (K:xA9) (mg:Str->Option Value) (base:Heap) (N:List Str) (qual:Str) (scope:Scope) (f:Addr) (L:Value) (A:qd7) (outer:List Env) (s:qa4) (H:Hp) (E:XK):Cx where
 prog:=P
 w:=w
 K:=K
 mg:=mg
 base:=base
 A:=A.deeper (qv4 qual scope s.heap.objs.size f L)
 N:=N
 s₀:=s
 H₀:=H
 env:=qv4 qual scope s.heap.objs.size f L
 outer:=outer
 stack:=qv4 qual scope s.heap.objs.size f L::outer
 ex:=[]
 calm:=true
 fn:=fun _=>true
 pn:=[]
 xe:=fun e s'=>wpAny (model P w) (A.deeper (qv4 qual scope s.heap.objs.size f L)) (leaving (qv4 qual scope s.heap.objs.size f L) e) (fun _ q=>CX outer H s E e q) (fun O q=>CX outer H s E O q) s'
theorem gO {sc:Scope} (h:sc.names.lookup x=some .cell):∃ c,(qh1 n sc.names []).lookup x=some c:=by have q:=xR9 sc.names n [] (.inl h);exact qq5.mp q
variable {qual:Str} {scope:Scope}
theorem sq {mg:Str->Option Value} {f:Addr} {W:Value} {outer:List Env} {s1:qa4} {E:XK} 
 (S:FnScope N ps scope) (hd:A.handled=none) (e0:Env0 P w K mg base A outer s H) (hl:vs.length=ps.length) (r:Vals vs us)
 (x:zd2 s s.heap.objs.size (bindL (qv4 qual scope s.heap.objs.size f W).kindOf (ps.zip us) fun _=>none) (qh1 (s.heap.objs.size+1) scope.names []) (bindC (qv4 qual scope s.heap.objs.size f W).kindOf (ps.zip us) fun _=>none) s1) :
  Inv (iP CX P w K mg base N qual scope f W A outer s H E) [] (start N vs) H s1:=by
 have Z:ps.length<=N.length:=by have:=congrArg qo0 S.pre;rw [zb6] at this;lia
 obtain ⟨h1,tk,rfl,hk⟩:=x.done;have O:∀ b:Addr,b∉(iP CX P w K mg base N qual scope f W A outer s H E).ex:=fun b z=>absurd (show b∈([]:List Addr) from z) (by simp)
 refine ⟨⟨e0.mod,S.kind,rfl,rfl,nL _,fun y z c h1 h2=>?_,fun y L=>?_,fun y c _ h=>?_,fun _=>hd,qd7.frames_deeper e0.frames,.inr ⟨rfl,rfl⟩,fun b z=>absurd z (O b),e0.bs,e0.bsz,fun b _ _=>O b,fun b z=>absurd z (O b),e0.funs,e0.frf,e0.tb⟩,rfl,e0.bare,Un.kept hk,⟨_,x.toInCall.ns,fun i y v h1 h2 h3=>?_⟩,fun y c h=>⟨_,x.cell y c h⟩,e0.hok.fresh (qu9 _),fun y c h=>?_,fun p hp=>absurd (show p∈([]:List (Addr×Obj)) from hp) (by simp),e0.hok.kept hk,?_⟩
 . exact zh2 x.apart (PySem.mem_of_lookup h1) (PySem.mem_of_lookup h2)
 . have L:scope.names.lookup y=some .cell∨scope.names.lookup y=some .free:=L;rcases L with L | L
   . exact gO L
   . exact absurd rfl (S.nofree _ (PySem.mem_of_lookup L))
 . exact qj0 (x.above y c (PySem.mem_of_lookup h))
 . have hi:i<vs.length:=by
    unfold start at h2;by_cases hi:i<vs.length
    . exact hi
    . rw [qc4 (by simpa using hi)] at h2;rw [qi4] at h2;split at h2<;>cases h2
   have ha:vs[i]?=some v:=by
    unfold start at h2;rw [qb5 (by simpa using hi),qb1] at h2;cases e:vs[i]? with
    | none=>rw [e] at h2;cases h2
    | some a=>rw [e] at h2;cases h2;rfl
   obtain ⟨u,Y,rv⟩:=r.get ha
   have hp:ps[i]?=some y:=by rw [<- S.pre,qy3 (by lia)];exact h1
   have U:ps.Nodup:=by rw [<- S.pre];exact S.nd.sublist (qy4 _ _)
   refine ⟨u,rv,?_⟩;rcases S.par y (qf5 hp) with k | k
   . exact .inl ⟨k,iN U hp Y k⟩
   . obtain ⟨c,e⟩:=gO (n:=s.heap.objs.size+1) k;refine .inr ⟨.inl k,c,e,?_⟩;have q:=x.cell y c e;rw [iO U hp Y (by show scope.names.lookup y≠_;rw [k];decide)] at q;exact q
 . exact e0.hok.fresh (qj0 (x.above y c (PySem.mem_of_lookup h)))
 . unfold start;show _=N.length;rw [qb3,qa2,ql1];lia
theorem zh {mg:Str->Option Value} {k:Nat} {f:Addr} {name:Str} {params:qj2} {dV kV doc pm cdv ct oc:Value} {an od:Option Addr}
 {osl:Array (Option Value)} (lk:K.lookup f=some ⟨oc,od,.func (xC9 name qual params body scope dV kV doc pm an cdv ct),osl⟩) (hcd:xG9 K cdv qual=true) (S:FnScope N ps scope)
 (len:∀ vs H Q E,sp vs H Q E->vs.length=ps.length)
 (O:∀ (A:qd7) (outer:List Env) (s:qa4) (H:Hp) (vs:List V) (Q:VK) (E:XK),Room k (A.deeper (qv4 qual scope s.heap.objs.size f cdv))->sp vs H Q E→
 ∃ t,PSs (iP CX P w K mg base N qual scope f cdv A outer s H E) body t/\t {nx:=fun _ H'=>Q .non H',rt:=Q} (start N vs) H) :
  FnOk P w K mg base CX (k+1) f (xC9 name qual params body scope dV kV doc pm an cdv ct) ps sp:=by
 refine ⟨len,fun A outer s H args us vs Q E hr e0 hb r Y=>?_⟩;have hl:=len _ _ _ _ Y;have KX:K.In s.heap:=e0.mod.kin.keeps fun b o e=>(e0.bs b o e).1
 have Z:s.heap.NoLimit:=e0.mod.nolimit.keeps fun b o e=>(e0.bs b o e).1
 have L:∀ y∈ps.zip us,scope.names.lookup y.1=some .local∨(scope.names.lookup y.1=some .cell/\((qh1 (s.heap.objs.size+1) scope.names []).lookup y.1).isSome=true):=fun ⟨n,v⟩ hy=>by
  rcases S.par n (qv3 hy).1 with q | q
  . exact .inl q
  . exact .inr ⟨q,xR9 _ _ _ (.inl q)⟩
 refine zd3 hr.depth (KX _ _ lk) rfl S.co S.gen rfl (PySem.W.codeRec_of KX hcd) (hb _ _ _ _ ?_);refine wpAny_newFunctionEnv_cells S.kind L fun env he s1 x=>?_
 subst he;refine ⟨Z.keeps x.toInCall.keep,codeAny_func ?_⟩;obtain ⟨t,ht,hq⟩:=O A outer s H vs Q E (hr.deeper _) Y;have I:Inv (iP CX P w K mg base N qual scope f cdv A outer s H E) [] (start N vs) H s1:=sq S hr.hd e0 hl r x;refine qk2 (ht [] s1 (start N vs) H _ I hq) (fun fl s' U=>?_) fun e s' U=>U
 have fin:∀ {σ':St} {H':Hp} {v:V} {u:Value},Inv (iP CX P w K mg base N qual scope f cdv A outer s H E) [] σ' H' s'->RelV v u->Q v H'->CE outer P w H s Q u s':=fun {σ' H' v u} J rv q=>⟨v,H',J.os,J.bare,J.base,J.hok,rv,q⟩
 cases fl with
 | ret u =>obtain ⟨v,σ',H',J,rv,q⟩:=U;exact fin J rv q
 | next =>obtain ⟨σ',H',J,q⟩:=U;exact fin (v:=V.non) (u:=qh6) J rfl q
 | brk =>obtain ⟨_,_,_,q⟩:=U;exact qg7 q
 | cont =>obtain ⟨_,_,_,q⟩:=U;exact qg7 q
section
variable {X:Cx} {x:Str} {p pos:Pos} {e:Expr} {es:List Expr} {t:TA} {id T:String} {r:List V->Hp->VK->Prop}
def tCB (r:List V->Hp->VK->Prop) (t:TA):TE:=fun σ H Q=>t σ H fun vs H1=>r vs H1 Q
theorem uk (Z:c8 X (.builtin id) r) (hg:Gl X x) (hm:X.mg x=none) (U:qe4 x=some (.builtin id)) (W:PA X (e::es) t) (hn:x≠"__name__":=by decide) (L:(x==("__debug__":Str))=false:=by decide)
  (O:qa6 (e::es) X.env=(false,eval e X.env)::qa6 es X.env:=by rfl) (q:(qj4 pos (qa6 es X.env)).any (·.1)=false:=by rfl):PE X (.Call (.Name x p) (e::es) [] pos) (tCB r t):=by
 intro pins s σ H Q I h;refine qn6 (gm I hg hm U ?_ hn L);exact PyProof.Rows.callWith_builtin1 (thn (W pos pins s σ H _ I h) fun us s1 ⟨vs,H1,I1,Y,q1⟩=>Z pins s1 σ H1 vs us Q I1 Y q1) O q
theorem sr (Z:c8 X (.type T) r) (hg:Gl X x) (hm:X.mg x=none) (U:qe4 x=some (.type T)) (W:PA X (e::es) t) (hn:x≠"__name__":=by decide) (L:(x==("__debug__":Str))=false:=by decide)
  (O:qa6 (e::es) X.env=(false,eval e X.env)::qa6 es X.env:=by rfl) (q:(qj4 pos (qa6 es X.env)).any (·.1)=false:=by rfl):PE X (.Call (.Name x p) (e::es) [] pos) (tCB r t):=by
 intro pins s σ H Q I h;refine qn6 (gm I hg hm U ?_ hn L);exact qi3 (thn (W pos pins s σ H _ I h) fun us s1 ⟨vs,H1,I1,Y,q1⟩=>Z pins s1 σ H1 vs us Q I1 Y q1) O q
end
end L2
namespace HT
open PySem PyProof.Rows
section
open PySem.SeqAt
open PySem.AutoSeq1 (wpAny_loadPart')
open PySem.MeetsSeq PySem.MeetsSeq2 PySem.MeetsSeq3
end
variable {Q:Value->qa4->Prop} {vu:Value} {hi:Option Int}
section
variable {prog:qc5} {w:World} {A:qd7} {E:Value->qa4->Prop} {s:qa4}
theorem Eo {t b:Addr} {vs q:List Value} (ht:IsTup s.heap t vs.toArray) (hb:IsTup s.heap b q.toArray) (hv:vs≠[])
 (h1:q=[]->Q (.ref t) s) (h2:q≠[]->Q (.ref s.heap.objs.size) {s with heap:=s.heap.push {cls:=.type "tuple",data:=.seq (vs++q).toArray}})
 (hsz:vs.length+q.length<=qb0):wpAny (model prog w) A (ql0 .Add (.ref t) (.ref b)) Q E s:=by
 obtain ⟨⟨cls,dd,data,sl⟩,ho,hc,n,hd⟩:=id ht;obtain ⟨⟨cls2,O,data2,U⟩,L,Y,n2,W⟩:=id hb;simp only at hc hd Y W;subst hc hd Y W;have e:vs.toArray++q.toArray=(vs++q).toArray:=by simp
 by_cases Z:q=[]
 . exact qw9 ⟨_,ho,rfl⟩ ⟨_,L,rfl⟩ qt7 za2 PySem.F.slot_tuple_add PySem.F.entry_tuple_add (PySem.F.args_tuple_add_2 _ _)
    (tuple_addW1 t b vs.toArray q.toArray n n2 dd O sl U (by simpa using hv) (by simp [Z])) ⟨ho,L,h1 Z⟩
 . refine qw9 ⟨_,ho,rfl⟩ ⟨_,L,rfl⟩ qt7 za2 PySem.F.slot_tuple_add PySem.F.entry_tuple_add (PySem.F.args_tuple_add_2 _ _)
    (tuple_addW2 t b vs.toArray q.toArray n n2 dd O sl U (by simpa using hv) (by simpa using Z) (by rw [qb9,qb9];exact hsz)) ⟨ho,L,?_⟩
   rw [e];exact h2 Z
def sIx (n d:Nat):Option Int->Nat
 | none=>d
 | some v=>if v<0 then (v+(n:Int)).toNat else min v.toNat n
theorem Ep (n d k:Nat):sIx n d (some (k:Int))=min k n:=by show (if (k:Int)<0 then ((k:Int)+(n:Int)).toNat else min (k:Int).toNat n)=min k n;rw [if_neg (by lia),qe1]
theorem AU (n d:Nat) (L:d<=n) (o:Option Int):sIx n d o<=n:=by
 cases o with
 | none=>exact L
 | some v =>
  show (if v<0 then (v+(n:Int)).toNat else min v.toNat n)<=n;by_cases q:v<0
  . rw [if_pos q];lia
  . rw [if_neg q];exact Nat.min_le_right _ _
theorem qx (v:Int) (n d:Nat):(if v<0 then max (v+(n:Int)) 0 else min v (n:Int))=((sIx n d (some v):Nat):Int):=by
 show (if v<0 then max (v+(n:Int)) 0 else min v (n:Int))=(((if v<0 then (v+(n:Int)).toNat else min v.toNat n):Nat):Int);by_cases q:v<0
 . simp only [if_pos q];lia
 . simp only [if_neg q];lia
theorem pk (lo hi:Option Int) (n:Nat):qp9 lo hi 1 (n:Int)=(((sIx n 0 lo:Nat):Int),((sIx n n hi:Nat):Int)):=by
 have h1:¬ ((1:Int)<0):=by lia
 unfold qp9;simp only [h1,if_false];refine Prod.ext ?_ ?_
 . cases lo with
   | none=>rfl
   | some v=>exact qx v n 0
 . cases hi with
   | none=>rfl
   | some v=>exact qx v n n
theorem pr (i j:Nat):ql2 (i:Int) (j:Int) 1=j-i:=by
 unfold ql2;have h1:(1:Int) > 0:=by lia
 simp only [h1,if_true,Int.ediv_one];split<;>lia
theorem jP {v:Value} {o:Option Int} {Q:Option Int->qa4->Prop} (p:zh3 v o) (h:Q o s):wpAny (model prog w) A (qk5.Slice.slicePartIndex v) Q E s:=by
 cases p with
 | none=>exact slicePart_none h
 | int i t=>exact slicePart_int h
theorem iQ {sl:Addr} {vl:Value} {lo:Option Int} {n:Nat} {Q:Int×Int×Nat->qa4->Prop} (W:s.heap.IsSliceOf sl vl vu .none) (U:zh3 vl lo) (O:zh3 vu hi)
 (h:Q (((sIx n 0 lo:Nat):Int),1,sIx n n hi-sIx n 0 lo) s):wpAny (model prog w) A (qw3 (.ref sl) (pure (n:Int))) Q E s:=by
 obtain ⟨Z,L,Y,q⟩:=id W;unfold qw3 qk5.Slice.sliceFields;refine wB (wB (qs3 L q (x:=vl) rfl (wB (qs3 L q (x:=vu) rfl (wB (qs3 L q (x:=.none) rfl (qa3 ?_)))))));refine wB (slicePart_none ?_);show wpAny _ _ (if ((1:Int)==0)=true then _ else _) _ _ s;rw [if_neg (by decide)];refine wB (jP U (wB (jP O (wB (qa3 ?_)))));show wpAny _ _ (match qp9 lo hi 1 (n:Int) with | (lo,hi)=>pure (lo,(1:Int),ql2 lo hi 1)) _ _ s;rw [pk lo hi n];show wpAny _ _ (pure (((sIx n 0 lo:Nat):Int),(1:Int),ql2 ((sIx n 0 lo:Nat):Int) ((sIx n n hi:Nat):Int) 1)) _ _ s;rw [pr];exact qa3 h
theorem ul (xs:Array Value) (i k:Nat):((qc2 k).filterMap fun (m:Nat)=>xs[((i:Int)+(m:Int)*1).toNat]?).toArray=((xs.toList.drop i).take k).toArray:=by
 have e:(fun (m:Nat)=>xs[((i:Int)+(m:Int)*1).toNat]?)=fun m=>xs[i+m]?:=by
  funext m;have:((i:Int)+(m:Int)*1).toNat=i+m:=by lia
  rw [this]
 rw [e];have:=pick_run xs i k;rw [List.filterMap_map] at this;have e2:((fun x=>xs[x]?) ∘ fun x=>i+x)=fun m=>xs[i+m]?:=rfl
 rw [e2] at this;rw [this]
theorem qy {t sl:Addr} {L:Array Value} {vl:Value} {lo:Option Int} (U:IsTup s.heap t L) (hs:s.heap.IsSliceOf sl vl vu .none) (pl:zh3 vl lo) (pu:zh3 vu hi)
 (hw:¬ (sIx L.size 0 lo=0/\sIx L.size L.size hi=L.size))
 (h:Q (.ref s.heap.objs.size) {s with heap:=s.heap.push {cls:=.type "tuple",data:=.seq ((L.toList.drop (sIx L.size 0 lo)).take (sIx L.size L.size hi-sIx L.size 0 lo)).toArray}})
 (hsz:L.size<=qb0):wpAny (model prog w) A (zf1 (.ref t) (.ref sl)) Q E s:=by
 have O:sizeOk (.seq ((L.toList.drop (sIx L.size 0 lo)).take (sIx L.size L.size hi-sIx L.size 0 lo)).toArray):=by show ((L.toList.drop (sIx L.size 0 lo)).take (sIx L.size L.size hi-sIx L.size 0 lo)).toArray.size<=qb0;rw [qb9,zb6,List.length_drop,qe7];lia
 have hj:sIx L.size L.size hi<=L.size:=AU _ _ (nL _) hi;obtain ⟨os,hos,Z,hds⟩:=id hs;have Y:s.TypeIs (.ref sl) "slice":=⟨os,hos,Z⟩;unfold zf1
 try with_reducible refine qk0 ?_
 first | refine wB (qa3 ?_) | skip
 refine wB (wpAny_sequenceKey U.typeIs (by decide) ?_)
 refine wB (qf1 (name:=qa0 "__getitem__") U.typeIs qm0
  (qf6 qm0 U.typeIs entry_tuple_getitem ?_ (args_tuple_getitem _ _)))
 show wpAny _ _ (qk5.Tuple.tupleItemsOf (.ref t) >>= _) _ _ s;refine wB (tupleItemsOf_ U ?_);refine wB (zh4 Y ?_);rw [if_pos (by decide)];refine wB (iQ hs pl pu ?_)
 have W:¬ ((((sIx L.size 0 lo:Nat):Int)==0&&(1:Int)==1&&(sIx L.size L.size hi-sIx L.size 0 lo)==L.size)=true):=by intro q;rw [qa9,qa9] at q;have q1:((sIx L.size 0 lo:Nat):Int)=0:=eq_of_beq q.1.1;have q2:sIx L.size L.size hi-sIx L.size 0 lo=L.size:=eq_of_beq q.2;exact hw ⟨by lia,by lia⟩
 show wpAny _ _ (if (((sIx L.size 0 lo:Nat):Int)==0&&(1:Int)==1&&(sIx L.size L.size hi-sIx L.size 0 lo)==L.size)=true then _ else _) _ _ s;rw [if_neg W,ul]
 first
  | exact wB (m:=qm1 _) (qd2 (qa3 ⟨_,rfl,qa3 h⟩) O)
  | exact wB (m:=qm1 _) (qd2 (wB (qa3 (qa3 ⟨_,rfl,qa3 h⟩))) O)
  | exact wB (wB (m:=qm1 _) (qd2 (qa3 (qa3 ⟨_,rfl,qa3 h⟩)) O))
  | exact wB (wB (m:=qm1 _) (qd2 (qa3 ⟨_,rfl,qa3 h⟩) O))
end
end HT
namespace L2
open PySem PySem.Spec PyProof.Rows
abbrev TO:=St->Hp->(Option Int->Hp->Prop)->Prop
noncomputable def PO (X:Cx) (e:Option Expr) (t:TO):Prop:=
 ∀ (pins:List (Addr×Obj)) (s:qa4) (σ:St) (H:Hp) (Q:Option Int->Hp->Prop),Inv X pins σ H s->t σ H Q→
  wpAny (model X.prog X.w) X.A (evalPart e X.env) (fun u s'=>∃ o H',Inv X pins σ H' s'/\zh3 u o/\Q o H') X.xe s
def C4 (t:TE):TO:=fun σ H Q=>t σ H fun x H1=>∃ i,x=.int i/\Q (some i) H1
variable {r:V->Option Int->Option Int->Hp->VK->Prop}
section
variable {X:Cx} {e:Expr} {te:TE} {lo hi:Option Expr} {tl th:TO} {pos p2:Pos}
theorem xk (h:PE X e te):PO X (some e) (C4 te):=by
 intro pins s σ H Q I U;rw [evalPart_some];refine thn (h pins s σ H _ I U) fun u s1 ⟨x,H1,O,L,q1⟩=>?_
 obtain ⟨i,rfl,q⟩:=q1;obtain ⟨t,rfl⟩:=L;exact ⟨some i,H1,O,.int i t,q⟩
noncomputable def SlR (X:Cx) (r:V->Option Int->Option Int->Hp->VK->Prop):Prop:=
 ∀ (pins:List (Addr×Obj)) (s:qa4) (σ:St) (H:Hp) (x:V) (v vl vu:Value) (lo hi:Option Int) (sl:Addr) (Q:VK),Inv X pins σ H s->RelV x v->s.heap.IsSliceOf sl vl vu .none->zh3 vl lo->zh3 vu hi->r x lo hi H Q→
  ∃ T id,typeLookup (.type T) "__getitem__"=pure (some (.builtin id))/\s.TypeIs v T/\wpAny (model X.prog X.w) X.A (zf1 v (.ref sl)) (EP X pins σ Q) X.xe s
theorem SlR.or {U:V->Option Int->Option Int->Hp->VK->Prop} (h:SlR X r) (h':SlR X U):SlR X (fun x lo hi H Q=>r x lo hi H Q∨U x lo hi H Q):=by
 intro pins s σ H x v vl vu lo hi sl Q I W O Y L q;rcases q with q | q
 . exact h pins s σ H x v vl vu lo hi sl Q I W O Y L q
 . exact h' pins s σ H x v vl vu lo hi sl Q I W O Y L q
def tSl (r:V->Option Int->Option Int->Hp->VK->Prop) (te:TE) (tl th:TO):TE:=fun σ H Q=>te σ H fun x H1=>tl σ H1 fun l H2=>th σ H2 fun u q=>r x l u q Q
theorem um (hr:SlR X r) (he:PE X e te) (U:PO X lo tl) (Z:PO X hi th):PE X (.Subscript e (.Slice lo hi none p2) pos) (tSl r te tl th):=by
 intro pins s σ H Q I h;refine Subscript_ (thn (he pins s σ H _ I h) fun v s1 ⟨x,H1,I1,r1,q1⟩=>?_);refine wpAny_Slice (thn (U pins s1 σ H1 _ I1 q1) fun vl W ⟨l,H2,I2,pl,q2⟩=>thn (Z pins W σ H2 _ I2 q2) fun vu L ⟨u,O,I3,Y,q3⟩=>?_);rw [evalPart_none];refine qa3 ?_;have I4:Inv X pins σ O {L with heap:=L.heap.push {cls:=.type "slice",data:=.fields #[vl,vu,.none]}}:=I3.kept (t':=L.toks) fun b ob q=>gP _ q
 obtain ⟨T,id,hT,ht,hg⟩:=hr pins {L with heap:=L.heap.push {cls:=.type "slice",data:=.fields #[vl,vu,.none]}} σ O x v vl vu l u L.heap.objs.size Q I4 r1 (Heap.IsSliceOf.new ..) pl Y q3;show wpAny (model X.prog X.w) X.A (zg1 e (.Slice lo hi none p2) v (.ref L.heap.objs.size)) (EP X pins σ Q) X.xe {L with heap:=L.heap.push {cls:=.type "slice",data:=.fields #[vl,vu,.none]}};exact tail_any (ops:=[.ref L.heap.objs.size,v]) ht hT hg (by with_unfolding_all rfl)
def nq (xs:List V) (lo hi:Option Int):List V:=(xs.drop (HT.sIx xs.length 0 lo)).take (HT.sIx xs.length xs.length hi-HT.sIx xs.length 0 lo)
theorem jf (xs:List V) (lo hi:Option Int):(nq xs lo hi).length<=xs.length:=by unfold nq;rw [zb6,List.length_drop];lia
noncomputable def rSlT (K:xA9):V->Option Int->Option Int->Hp->VK->Prop:=fun x lo hi H Q=>∃ a xs,x=.ref a/\SqT K H a xs∧¬ (HT.sIx xs.length 0 lo=0/\HT.sIx xs.length xs.length hi=xs.length)/\∀ p,H p=none->Q (.ref p) (upd H p (.tup (nq xs lo hi)))
theorem AV:SlR X (rSlT X.K):=by
 intro pins s σ H x v vl vu lo hi sl Q I rx Z pl W h;obtain ⟨a,xs,rfl,Y,hw,q⟩:=h;cases rx;obtain ⟨its,r,U,O⟩:=I.tuple Y;have L:its.toArray.size=xs.length:=by rw [qb9];exact r.length.symm
 refine ⟨"tuple",_,qm0.lookup,U.typeIs,?_⟩;refine HT.qy U Z pl W (by rw [L];exact hw) ?_ (by rw [L];exact O);rw [L];refine ⟨.ref s.heap.objs.size,_,I.laid (t':=s.toks) (o:=.tup (nq xs lo hi)) (fun b ob q=>gP _ q) (nL _) ?_,rfl,q _ (I.hok.fresh (nL _))⟩;exact ⟨qb8 (jf xs lo hi) O,_,(r.drop (HT.sIx xs.length 0 lo)).take (HT.sIx xs.length xs.length hi-HT.sIx xs.length 0 lo),IsTup.new _ _⟩
noncomputable def zi (K:xA9):R2:=fun x y H Q=>∃ a b xs ys,x=.ref a/\y=.ref b/\SqT K H a xs/\SqT K H b ys/\xs≠[]/\xs.length+ys.length<=qb0∧(ys=[]->Q (.ref a) H)/\(ys≠[]->∀ p,H p=none->Q (.ref p) (upd H p (.tup (xs++ys))))
theorem Vals.nil_iff {xs:List V} {us:List Value} (r:Vals xs us):us=[]↔xs=[]:=by
 cases r with
 | nil=>simp
 | cons _ _=>simp
theorem xl:OpR X (ql0 .Add) (zi X.K):=by intro pins s σ H x y v u Q I Z ry h;obtain ⟨a,b,xs,ys,rfl,rfl,Y,hb,hx,U,q1,q2⟩:=h;cases Z;cases ry;obtain ⟨its,O,p1,_⟩:=I.tuple Y;obtain ⟨W,L,p2,_⟩:=I.tuple hb;refine HT.Eo p1 p2 (fun z=>hx (O.nil_iff.mp z)) (fun z=>⟨.ref a,H,I,rfl,q1 (L.nil_iff.mp z)⟩) (fun z=>?_) (by rw [<- O.length,<- L.length];exact U);refine ⟨.ref s.heap.objs.size,_,I.laid (t':=s.toks) (o:=.tup (xs++ys)) (fun b ob q=>gP _ q) (nL _) ?_,rfl,q2 (fun w=>z (L.nil_iff.mpr w)) _ (I.hok.fresh (nL _))⟩;exact ⟨by rw [qb3];exact U,_,O.append L,IsTup.new _ _⟩
end
def ixN (n:Nat) (i:Int):Option Nat:=if 0<=i then (if i<n then some i.toNat else none) else if -(n:Int)<=i then some (i+n).toNat else none
def atI {α:Type} (xs:List α) (i:Int):Option α:=(ixN xs.length i).bind fun j=>xs[j]?
variable {n j:Nat} {i:Int}
theorem qz (h:ixN n i=some j):seqIndex? i n=some j/\j<n/\-(n:Int)<=i/\i<n:=by
 unfold ixN at h;by_cases q:0<=i
 . rw [if_pos q] at h;by_cases h1:i<n
   . rw [if_pos h1] at h;have e:i.toNat=j:=qd5 h;exact ⟨by rw [seqIndex_of q h1,e],by lia,by lia,h1⟩
   . rw [if_neg h1] at h;cases h
 . rw [if_neg q] at h;by_cases h1:-(n:Int)<=i
   . rw [if_pos h1] at h;have e:(i+n).toNat=j:=qd5 h;exact ⟨by rw [seqIndex_neg (by lia) h1,e],by lia,h1,by lia⟩
   . rw [if_neg h1] at h;cases h
theorem mh {α:Type} {xs:List α} {v:α} (h:atI xs i=some v):∃ j,seqIndex? i xs.length=some j/\xs[j]?=some v/\j<xs.length/\-(xs.length:Int)<=i/\i<xs.length:=by
 unfold atI at h;cases e:ixN xs.length i with
 | none=>rw [e] at h;cases h
 | some j =>rw [e] at h;obtain ⟨h1,h2,h3,q⟩:=qz e;exact ⟨j,h1,h,h2,h3,q⟩
theorem xm {α:Type} {xs:List α} {v:α} (h:xs[j]?=some v):atI xs (j:Int)=some v:=by
 have q:j<xs.length:=(gX h).1
 have e:ixN xs.length (j:Int)=some j:=by unfold ixN;rw [if_pos (by lia),if_pos (by lia)];simp
 unfold atI;rw [e];exact h
def mi (b:Expr):Prop:=∀ o i,zf2 b false o i=operate [o,i] (zf1 o i)
noncomputable def IxR (X:Cx) (r:R2):Prop:=
 ∀ (value q:Expr) (pins:List (Addr×Obj)) (s:qa4) (σ:St) (H:Hp) (x y:V) (v u:Value) (Q:VK),Inv X pins σ H s->RelV x v->RelV y u->r x y H Q→
  zf2 q false v u=operate [v,u] (zf1 v u)->wpAny (model X.prog X.w) X.A (zg1 value q v u) (EP X pins σ Q) X.xe s
noncomputable def MtR (X:Cx) (id:String) (r:V->List V->Hp->VK->Prop):Prop:=
 ∀ (pins:List (Addr×Obj)) (s:qa4) (σ:St) (H:Hp) (x:V) (xs:List V) (v:Value) (us:List Value) (Q:VK),Inv X pins σ H s->RelV x v->Vals xs us->r x xs H Q→
  wpAny (model X.prog X.w) X.A (call (.builtin id) (v::us)) (EP X pins σ Q) X.xe s
variable {pins:List (Addr×Obj)} {σ:St} {H:Hp} {s:qa4} {p:Addr} {its its':List Value} {A:qd7} {y x:V} {u v:Value}
section
variable {X:Cx} {a b:Expr} {ta tb:TE} {pos:Pos}
theorem IxR.or {r U:R2} (h:IxR X r) (h':IxR X U):IxR X (fun x y H Q=>r x y H Q∨U x y H Q):=by
 intro value L pins s σ H x y v u Q I W Y q O;rcases q with q | q
 . exact h value L pins s σ H x y v u Q I W Y q O
 . exact h' value L pins s σ H x y v u Q I W Y q O
theorem zj {r:R2} (Z:IxR X r) (W:PE X a ta) (hb:PE X b tb) (U:mi b):PE X (.Subscript a b pos) (tOp r ta tb):=by intro pins s σ H Q I h;exact Subscript_ (AG W hb I h fun v u L x y H2 O Y ry q=>Z a b pins L σ H2 x y v u Q O Y ry q (U _ _))
def rIxL (K:xA9):R2:=fun x y H Q=>∃ p xs i v,x=.ref p/\y=.int i/\SqL K H p xs/\atI xs i=some v/\Q v H
def rIxT (K:xA9):R2:=fun x y H Q=>∃ p xs i v,x=.ref p/\y=.int i/\SqT K H p xs/\atI xs i=some v/\Q v H
def rIxS:R2:=fun x y H Q=>∃ z i c,x=.str z/\y=.int i/\z.length<=qb0/\atI z.cps.toList i=some c/\Q (.str ⟨#[c]⟩) H
theorem ix_list:IxR X (rIxL X.K):=by
 intro value slice pins s σ H x y v u Q I rx ry h hs;obtain ⟨p,xs,i,z,rfl,rfl,hq,he,q⟩:=h;cases rx;obtain ⟨t,rfl⟩:=ry;obtain ⟨its,r,pl,hz⟩:=I.list hq;obtain ⟨j,h1,h2,h3,h4,h5⟩:=mh he;obtain ⟨w,ew,rw'⟩:=r.get h2;have hl:=r.length;have hn:=iM;have fin:EP X pins σ Q w s:=⟨z,H,I,rw',q⟩;by_cases h0:0<=i
 . have hj:i.toNat=j:=by rw [seqIndex_of h0 h5] at h1;exact qd5 h1
   exact item_listR pl.isList h0 (by lia) (by rw [hj];simpa using ew) fin hs
 . have hj:(i+(its.toArray.size:Int)).toNat=j:=by rw [seqIndex_neg (by lia) h4] at h1;rw [qb9,<- hl];exact qd5 h1
   exact zc3 (x:=w) pl.isList.typeIs slot_list_getitem.lookup
    (wpAny_getItem_list_neg (Q:=fun r s'=>r=w/\EP X pins σ Q r s') pl.isList (by lia) (by rw [qb9]<;>lia) (by lia) (by rw [hj];simpa using ew) ⟨rfl,fin⟩) hs
theorem ix_tup:IxR X (rIxT X.K):=by
 intro value slice pins s σ H x y v u Q I rx ry h hs;obtain ⟨p,xs,i,z,rfl,rfl,hq,he,q⟩:=h;cases rx;obtain ⟨t,rfl⟩:=ry;obtain ⟨its,r,pl,hz⟩:=I.tuple hq;obtain ⟨j,h1,h2,h3,h4,h5⟩:=mh he;obtain ⟨w,ew,rw'⟩:=r.get h2;have hl:=r.length;have hn:=iM;have fin:EP X pins σ Q w s:=⟨z,H,I,rw',q⟩
 exact zc3 (x:=w) pl.typeIs slot_tuple_getitem.lookup
  (getItem_tuple (j:=j) (Q:=fun r s'=>r=w/\EP X pins σ Q r s') pl (by lia) (by lia) (by rw [qb9,<- hl];exact h1) (by simpa using ew) ⟨rfl,fin⟩) hs
theorem AW:IxR X rIxS:=by
 intro value slice pins s σ H x y v u Q I rx ry h hs;obtain ⟨z,i,c,rfl,rfl,hz,he,q⟩:=h;obtain ⟨t,rfl⟩:=rx;obtain ⟨t',rfl⟩:=ry;obtain ⟨j,h1,h2,h3,h4,h5⟩:=mh he;have hl:z.cps.toList.length=z.length:=by simp [ze2]
 rw [hl] at h1 h4 h5;have hn:=iM
 exact tail_any (typeIs_str s z t) slot_str_getitem.lookup (getItem_str (c:=c) (by have e1:decide (i < -(2^63:Int))=false:=decide_eq_false (by lia);have e2:decide (i ≥ 2^63)=false:=decide_eq_false (by lia);rw [e1,e2,za3]) (by rw [h1];simpa using h2) ⟨.str ⟨#[c]⟩,H,I.tok _,⟨_,rfl⟩,q⟩) hs
def rIx (K:xA9):R2:=fun x y H Q=>rIxL K x y H Q∨rIxT K x y H Q∨rIxS x y H Q
theorem uo:IxR X (rIx X.K):=ix_list.or (ix_tup.or AW)
theorem pv (its:List Value) (n j:Nat) (u:Value):qq6 (·.setIfInBounds j u) {cls:=.type "list",data:=.seq its.toArray n}={cls:=.type "list",data:=.seq (its.set j u).toArray n}:=by simp [qq6]
theorem Inv.lst {xs:List V} (I:Inv X pins σ H s) (h:H p=some (.lst xs)) :
  ∃ (its:List Value) (n:Nat),Vals xs its/\s.heap.get? p=some {cls:=.type "list",data:=.seq its.toArray n}/\xs.length<=qb0:=by
 obtain ⟨z,its,n,r,e⟩:=I.hok p _ h;exact ⟨its,n,r,e,z⟩
theorem Inv.lstUpd {xs ys:List V} {n':Nat} {f:Obj->Obj} (I:Inv X pins σ H s) (h:H p=some (.lst xs))
 (O:s.heap.get? p=some {cls:=.type "list",data:=.seq its.toArray n}) (L:f {cls:=.type "list",data:=.seq its.toArray n}={cls:=.type "list",data:=.seq its'.toArray n'}) (r:Vals ys its') (U:ys.length<=qb0) (t:Nat) :
  Inv X pins σ (upd H p (.lst ys)) {s with heap:=s.heap.update p f,toks:=t}:=by
 have e:(s.heap.update p f).get? p=some {cls:=.type "list",data:=.seq its'.toArray n'}:=by rw [qf2 f O (by rw [L]<;>rfl),L]
 refine I.write (x:=p) (e:=p) (by rw [h];trivial) (.inl rfl) (fun b u W q=>(qn4 _ _ (qn9 W)).trans q) ⟨_,e⟩ ?_;exact ⟨U,its',n',r,e⟩
def C5:V->V->V->Hp->(Hp->Prop)->Prop:=fun o i v H Q=>∃ p xs k j,o=.ref p/\i=.int k/\H p=some (.lst xs)/\ixN xs.length k=some j/\Q (upd H p (.lst (xs.set j v)))
theorem uq:PSet X C5:=by
 intro pins s σ H o i v ov iv u Q I ro ri rv h;obtain ⟨p,xs,k,j,rfl,rfl,hp,hj,q⟩:=h;cases ro;obtain ⟨t,rfl⟩:=ri;obtain ⟨its,n,r,ho,hz⟩:=I.lst hp;obtain ⟨h1,h2,h3,h4⟩:=qz hj;have hl:=r.length;have hn:=iM
 have I':Inv X pins σ (upd H p (.lst (xs.set j v))) {s with heap:=s.heap.update p (qq6 (·.setIfInBounds j u))}:=I.lstUpd hp ho (pv its n j u) (r.set rv j) (by rw [List.length_set];exact hz) s.toks
 by_cases h0:0<=k
 . have hk:k.toNat=j:=by rw [seqIndex_of h0 h4] at h1;exact qd5 h1
   exact PySem.W.ki_setAt ho h0 (by lia) (by rw [qb9,<- hl];exact h4) (by rw [hk];exact ⟨_,I',q⟩)
 . have hk:(k+(its.toArray.size:Int)).toNat=j:=by rw [seqIndex_neg (by lia) h3] at h1;rw [qb9,<- hl];exact qd5 h1
   exact PySem.W.ki_setBack ho (by lia) (by rw [qb9,<- hl];exact h3) (by lia) (by rw [hk];exact ⟨_,I',q⟩)
theorem mj (lo hi:Option Int) (n:Nat):(qs4 lo hi none n).1=((HT.sIx n 0 lo:Nat):Int)/\(qs4 lo hi none n).2.1=((HT.sIx n n hi:Nat):Int)/\(qs4 lo hi none n).2.2=1:=by
 refine ⟨?_,?_,rfl⟩
 . cases lo with
   | none=>simp [qs4,HT.sIx]
   | some i =>
    simp only [qs4,HT.sIx,Option.getD_none,show (1:Int) > 0 by decide,if_true];by_cases h:i<0
    . simp only [h,if_true]<;>lia
    . simp only [h,if_false]<;>lia
 . cases hi with
   | none=>simp [qs4,HT.sIx]
   | some i =>
    simp only [qs4,HT.sIx,Option.getD_none,show (1:Int) > 0 by decide,if_true];by_cases h:i<0
    . simp only [h,if_true]<;>lia
    . simp only [h,if_false]<;>lia
theorem kO (its:List Value) (lo hi:Option Int):slicePick its.toArray lo hi none=((its.drop (HT.sIx its.length 0 lo)).take (HT.sIx its.length its.length hi-HT.sIx its.length 0 lo)).toArray:=by obtain ⟨h1,h2,h3⟩:=mj lo hi its.toArray.size;unfold slicePick;rw [h1,h2,h3];simp only [sliceRange_one,pick_run,qb9]<;>rfl
def rSlL (K:xA9):V->Option Int->Option Int->Hp->VK->Prop:=fun x lo hi H Q=>∃ a xs,x=.ref a/\SqL K H a xs/\∀ p,H p=none->Q (.ref p) (upd H p (.lst (nq xs lo hi)))
theorem xp:SlR X (rSlL X.K):=by intro pins s σ H x v vl vu lo hi sl Q I rx Y pl U h;obtain ⟨a,xs,rfl,W,q⟩:=h;cases rx;obtain ⟨its,r,O,Z⟩:=I.list W;have L:=r.length;refine ⟨"list",_,slot_list_getitem.lookup,O.isList.typeIs,?_⟩;refine wpAny_getItem_list_slice O.isList Y pl U .none (by simp) ?_ (by rw [qb9]<;>lia);rw [kO,<- L];refine ⟨.ref s.heap.objs.size,_,I.laid (t':=s.toks) (o:=.lst (nq xs lo hi)) (fun b ob q=>gP _ q) (nL _) ?_,rfl,q _ (I.hok.fresh (nL _))⟩;exact ⟨qb8 (jf xs lo hi) Z,_,0,(r.drop (HT.sIx xs.length 0 lo)).take (HT.sIx xs.length xs.length hi-HT.sIx xs.length 0 lo),qa7 _ rfl⟩
def f7:V->Bool
 | .non=>true
 | .bl _=>true
 | .int _=>true
 | .str _=>true
 | _=>false
def eqV:V->V->Bool
 | .non,.non=>true
 | .bl a,.bl b=>a==b
 | .bl a,.int b=>(if a then 1 else 0)==b
 | .int a,.bl b=>a==(if b then 1 else 0)
 | .int a,.int b=>a==b
 | .str a,.str b=>a==b
 | _,_=>false
theorem iR (L:RelV y u) (q:RelV x v) (O:f7 y=true) (fx:f7 x=true):qg6 A s u v (eqV y x):=by
 cases y with
 | non =>
  cases L;cases x with
  | non=>cases q;exact zd4 _
  | bl b=>cases q;exact qg6.none_bool b
  | int b=>obtain ⟨t,rfl⟩:=q;exact qg6.none_int b t
  | str b=>obtain ⟨t,rfl⟩:=q;exact qg6.none_str b t
  | _=>exact absurd (show false=true from fx) qb6
 | bl a =>
  cases L;cases x with
  | non=>cases q;exact qg6.bool_none a
  | bl b=>cases q;exact qg6.bool_bool a b
  | int b=>obtain ⟨t,rfl⟩:=q;exact qg6.bool_int a b t
  | str b=>obtain ⟨t,rfl⟩:=q;exact qg6.bool_str a b t
  | _=>exact absurd (show false=true from fx) qb6
 | int a =>
  obtain ⟨t',rfl⟩:=L;cases x with
  | non=>cases q;exact qg6.int_none a t'
  | bl b=>cases q;exact qg6.int_bool a t' b
  | int b=>obtain ⟨t,rfl⟩:=q;exact qg6.int_int a t' b t
  | str b=>obtain ⟨t,rfl⟩:=q;exact qg6.int_str a t' b t
  | _=>exact absurd (show false=true from fx) qb6
 | str a =>
  obtain ⟨t',rfl⟩:=L;cases x with
  | non=>cases q;exact qg6.str_none a t'
  | bl b=>cases q;exact qg6.str_bool a t' b
  | int b=>obtain ⟨t,rfl⟩:=q;exact qg6.str_int a t' b t
  | str b=>obtain ⟨t,rfl⟩:=q;exact qg6.str_str a t' b t
  | _=>exact absurd (show false=true from fx) qb6
 | _=>exact absurd (show false=true from O) qb6
def eqU (x:V) (u:Value):Bool:=match u with
 | .none=>eqV .non x
 | .bool b=>eqV (.bl b) x
 | .int i _=>eqV (.int i) x
 | .str z _=>eqV (.str z) x
 | _=>false
theorem ur (r:RelV y u) (f:f7 y=true):eqU x u=eqV y x:=by
 cases y with
 | non=>cases r;rfl
 | bl b=>cases r;rfl
 | int i=>obtain ⟨t,rfl⟩:=r;rfl
 | str z=>obtain ⟨t,rfl⟩:=r;rfl
 | _=>exact absurd (show false=true from f) qb6
theorem gT:∀ {xs:List V} {us:List Value},Vals xs us->xs.all f7=true->us.any (eqU x)=xs.any fun y=>eqV y x
 | _,_,.nil,_=>rfl
 | y::xs,u::us,.cons r t,f=>by rw [qj5,qa9] at f;rw [qi5,qi5,ur r f.1,gT t f.2]
theorem e9 (L:RelV x v) (fx:f7 x=true):∀ {xs:List V} {us:List Value},Vals xs us->xs.all f7=true->∀ u∈us,qg6 A s u v (eqU x u)
 | _,_,.nil,_=>fun u q=>by cases q
 | y::xs,u::us,.cons r t,f=>fun O q=>by
  rw [qj5,qa9] at f;rcases qb2.mp q with rfl | q
  . rw [ur r f.1];exact iR r L f.1 fx
  . exact e9 L fx t f.2 O q
def inV (x:V) (xs:List V):Bool:=xs.any fun y=>eqV y x
def rIn (K:xA9) (neg:Bool):R2:=fun x y H Q=>∃ p xs,y=.ref p/\(SqL K H p xs∨SqT K H p xs)/\f7 x=true/\xs.all f7=true/\Q (.bl (if neg then !inV x xs else inV x xs)) H
theorem su:OpR X (qf7 .In) (rIn X.K false):=by
 intro pins s σ H x y v u Q I W Z h;obtain ⟨p,xs,rfl,L,fx,fs,q⟩:=h;cases Z;rcases L with L | L
 . obtain ⟨its,r,O,Y⟩:=I.list L;refine SeqAt.in_listAt (eqU x) O.isList (fun w U=>e9 W fx r fs w (by simpa using U)) ⟨.bl _,H,I,rfl,?_⟩;rw [show its.toArray.any (eqU x)=its.any (eqU x) by simp,gT r fs];exact q
 . obtain ⟨its,r,O,Y⟩:=I.tuple L;refine SeqAt.in_tupleAt (eqU x) O (fun w U=>e9 W fx r fs w (by simpa using U)) ⟨.bl _,H,I,rfl,?_⟩;rw [show its.toArray.any (eqU x)=its.any (eqU x) by simp,gT r fs];exact q
theorem ml:OpR X (qf7 .NotIn) (rIn X.K true):=by
 intro pins s σ H x y v u Q I W Z h;obtain ⟨p,xs,rfl,L,fx,fs,q⟩:=h;cases Z;rcases L with L | L
 . obtain ⟨its,r,O,Y⟩:=I.list L;refine SeqAt.notIn_listAt (eqU x) O.isList (fun w U=>e9 W fx r fs w (by simpa using U)) ⟨.bl _,H,I,rfl,?_⟩;rw [show its.toArray.any (eqU x)=its.any (eqU x) by simp,gT r fs];exact q
 . obtain ⟨its,r,O,Y⟩:=I.tuple L;refine SeqAt.notIn_tupleAt (eqU x) O (fun w U=>e9 W fx r fs w (by simpa using U)) ⟨.bl _,H,I,rfl,?_⟩;rw [show its.toArray.any (eqU x)=its.any (eqU x) by simp,gT r fs];exact q
theorem mm:OpR X (qf7 .NotIn) (fun x y H Q=>∃ i j,x=.str i/\y=.str j/\Q (.bl (!(!(qr0 j i 0 j.length 1).isEmpty))) H):=by intro pins s σ H x y v u Q I L O h;obtain ⟨i,j,rfl,rfl,q⟩:=h;obtain ⟨t,rfl⟩:=L;obtain ⟨t',rfl⟩:=O;exact notIn_str ⟨.bl _,H,I,rfl,q⟩
theorem cR:c8 X (.type "tuple") (fun xs H Q=>∃ p ys,xs=[.ref p]/\((SqL X.K H p ys/\∀ l,H l=none->Q (.ref l) (upd H l (.tup ys)))∨(SqT X.K H p ys/\Q (.ref p) H))):=by
 intro pins s σ H xs us Q I r h;obtain ⟨p,ys,rfl,h⟩:=h;obtain ⟨u,rfl,rx⟩:=jO r;cases rx;rcases h with ⟨U,q⟩ | ⟨U,q⟩
 . obtain ⟨its,L,O,Y⟩:=I.list U;have W:=L.length;refine call_tuple_list O.isList (fun h' kp=>?_) (by simp only [qb9]<;>lia);have Z:Inv X pins σ H {s with heap:=h'}:=I.kept (t':=s.toks) kp
   have I2:Inv X pins σ (upd H h'.objs.size (.tup ys)) {s with heap:=h'.push {cls:=.type "tuple",data:=.seq its.toArray}}:=Z.laid (t':=s.toks) (fun b o e=>gP _ e) (nL _) (show ObjOk X.prog X.w _ _ _ (.tup ys) from ⟨Y,its,L,IsTup.new _ _⟩)
   exact ⟨.ref h'.objs.size,_,I2,rfl,q _ (Z.hok.fresh (nL _))⟩
 . obtain ⟨its,L,O,Y⟩:=I.tuple U;exact call_tuple_same O ⟨.ref p,H,I,rfl,q⟩
noncomputable def tyV (K:xA9) (T:String) (x:V) (H:Hp):Prop:=match x with
 | .str _=>T="str"
 | .int _=>T="int"
 | .ref p=>(T="list"/\∃ xs,SqL K H p xs)∨(T="tuple"/\∃ o,K.lookup p=some o/\o.cls=.type "tuple"/\o.dict=none)∨(T="dict"/\((∃ kvs,H p=some (.dK kvs))∨∃ kvs,H p=some (.dT kvs)))∨(T="set"/\∃ S n,H p=some (.set S n))
 | _=>False
theorem AX {T:String} (I:Inv X pins σ H s) (r:RelV x v) (ty:tyV X.K T x H) :
  s.TypeIs v T/\∀ a,v=.ref a->∃ ob,s.heap.get? a=some ob/\ob.dict=none:=by
 cases x with
 | str z =>obtain ⟨t,rfl⟩:=r;cases (show T="str" from ty);exact ⟨typeIs_str s z t,fun _ e=>nomatch e⟩
 | int i =>obtain ⟨t,rfl⟩:=r;cases (show T="int" from ty);exact ⟨typeIs_int s i t,fun _ e=>nomatch e⟩
 | ref p =>
  cases r;rcases ty with ⟨rfl,xs,O⟩ | ⟨rfl,o,hk,U,q⟩ | ⟨rfl,hk⟩ | ⟨rfl,S,n,hk⟩
  . obtain ⟨its,_,L,_⟩:=I.list O;refine ⟨L.isList.typeIs,fun a e=>?_⟩;cases e;obtain ⟨o,n,e,c,q,_⟩:=L;exact ⟨o,e,q⟩
  . refine ⟨⟨o,I.kIn p o hk,U⟩,fun a e=>?_⟩;cases e;exact ⟨o,I.kIn _ o hk,q⟩
  . have z:∃ o,s.heap.get? p=some o/\o.ExactDict:=by
     rcases hk with ⟨kvs,hk⟩ | ⟨kvs,hk⟩
     . obtain ⟨_,_,_,_,o,_,_,e,ex,_⟩:=I.hok p _ hk;exact ⟨o,e,ex⟩
     . obtain ⟨_,_,_,_,o,_,_,e,ex,_⟩:=I.hok p _ hk;exact ⟨o,e,ex⟩
    obtain ⟨o,e,ex⟩:=z;refine ⟨⟨o,e,ex.1⟩,fun a e2=>?_⟩;cases e2;exact ⟨o,e,ex.2.1⟩
  . obtain ⟨o,_,_,_,e,ex,_⟩:=I.hok p _ hk;refine ⟨⟨o,e,ex.1⟩,fun a e2=>?_⟩;cases e2;exact ⟨o,e,ex.2.1⟩
 | _=>exact qg7 ty
def tBM (K:xA9) (T:String) (r:V->List V->Hp->VK->Prop) (to:TE) (t:TA):TE:=fun σ H Q=>to σ H fun x H1=>tyV K T x H1/\t σ H1 fun xs H2=>r x xs H2 Q
variable {o e:Expr} {es:List Expr} {to:TE} {t:TA} {name:Str} {apos cpos:Pos} {T id:String} {r:V->List V->Hp->VK->Prop}
theorem ut (pa:PlainAttrs T) (slot:Slot T name id) (W:typeOf (.builtin id)=pure (.type "method_descriptor")) (hm:MtR X id r) (ho:PE X o to) (ha:PA X (e::es) t)
  (O:za4 o name X.env (eval o X.env)=eval o X.env:=by rfl)
  (U:((qj4 cpos (qa6 (e::es) X.env)).all (fun x=>!x.1)&&(backToKw cpos (zf3 [] X.env)).all (fun x=>x.1.isSome)
   && decide ((e::es).length+([]:List zd1).length+(if ([]:List zd1).isEmpty then 0 else 1)<30))=true:=by rfl)
  (L:(apos.endLine==cpos.line)=true:=by rfl) (hs:qa6 (e::es) X.env=(false,eval e X.env)::qa6 es X.env:=by rfl) (q:(qj4 cpos (qa6 es X.env)).any (·.1)=false:=by rfl) :
  PE X (.Call (.Attribute o name apos) (e::es) [] cpos) (tBM X.K T r to t):=by
 intro pins s σ H Q I h;refine wpAny_Call_method_late O U L rfl (thn (ho pins s σ H _ I h) fun v s1 ⟨x,H1,I1,Z,ty,q1⟩=>?_);obtain ⟨h1,h2⟩:=AX I1 Z ty;refine ⟨T,id,pa,slot,W,h1,h2,?_⟩;have Y:=ha cpos pins s1 σ H1 _ I1 q1;rw [hs] at Y ⊢;refine Calls.callWith_builtin (by show (false||(qj4 cpos (qa6 es X.env)).any (·.1))=false;rw [q]<;>rfl) (Calls.evalArgs_plain ?_);exact thn Y fun us s2 ⟨vs,H2,I2,r2,q2⟩=>hm pins s2 σ H2 x vs v us Q I2 Z r2 q2
/- xs.append(e),list.index on a module's tuple .. are MtR facts of 06m -/
end
noncomputable def MtM (X:Cx) (id:String) (r:V->List V->Hp->VK->Prop):Prop:=
 ∀ (pins:List (Addr×Obj)) (s:qa4) (σ:St) (H:Hp) (x:V) (xs:List V) (v:Value) (us:List Value) (Q:VK),Inv X pins σ H s->RelV x v->Vals xs us->r x xs H Q→
  wpAny (model X.prog X.w) X.A (call (.builtin id) (v::us)) (EP X pins σ Q) X.xe s
theorem Vals.one:∀ {x:V} {us:List Value},Vals [x] us->∃ u,us=[u]/\RelV x u
 | _,_,.cons r .nil=>⟨_,rfl,r⟩
variable {t':Nat}
section
variable {X:Cx} {pins:List (Addr×Obj)} {σ:St} {H:Hp} {s:qa4} {l b:Addr} {xs ys zs:List V}
theorem Inv.lset {f:Array Value->Array Value} (I:Inv X pins σ H s) (Z:H l=some (.lst xs))
 (e:s.heap.get? l=some {cls:=.type "list",data:=.seq its.toArray n}) (O:f its.toArray=its'.toArray) (U:Vals ys its') (Y:ys.length<=qb0) :
  Inv X pins σ (upd H l (.lst ys)) {s with heap:=s.heap.update l (qq6 f),toks:=t'}:=by
 have q:=PySem.IsL.update e f;rw [O] at q;refine I.write (x:=l) (e:=l) (by rw [Z];exact trivial) (.inl rfl) (fun b' u W L=>(qn4 s.heap (qq6 f) (qn9 W)).trans L) ⟨_,q⟩ ?_;exact ⟨Y,its',_,U,q⟩
theorem Inv.lnew (I:Inv X pins σ H s) (O:Vals ys its) (L:ys.length<=qb0) :
  Inv X pins σ (upd H s.heap.objs.size (.lst ys)) {s with heap:=s.heap.push {cls:=.type "list",data:=.seq its.toArray},toks:=t'}:=
 I.laid (fun _ _ q=>gP _ q) (nL _) ⟨L,its,0,O,qa7 _ rfl⟩
theorem Inv.fresh (I:Inv X pins σ H s):H s.heap.objs.size=none:=I.hok.fresh (nL _)
theorem Inv.lstM (I:Inv X pins σ H s) (q:H l=some (.lst xs)):xs.length<=qb0/\∃ (its:List Value) (n:Nat),Vals xs its/\xs.length=its.length/\s.heap.get? l=some {cls:=.type "list",data:=.seq its.toArray n}:=by obtain ⟨z,its,n,r,e⟩:=I.hok l _ q;exact ⟨z,its,n,r,r.length,e⟩
theorem uu (h:n<=qb0):qq7 n=false:=by unfold qq7;exact decide_eq_false (by lia)
end
section
variable {X:Cx}
def xq:V->List V->Hp->VK->Prop:=fun x vs H Q=>∃ l xs y,x=.ref l/\vs=[y]/\H l=some (.lst xs)/\xs.length<qb0/\Q .non (upd H l (.lst (xs++[y])))
theorem fP:MtM X "list.append" xq:=by intro pins s σ H x vs v us Q I U W h;obtain ⟨l,xs,y,rfl,rfl,L,Z,q⟩:=h;cases U;obtain ⟨u,rfl,O⟩:=W.one;obtain ⟨z,its,n,r,Y,e⟩:=I.lstM L;refine call_meets F.slot_list_append ⟨_,e,rfl⟩ F.entry_list_append (F.args_list_append_2 _ _) (PySem.list_append l its.toArray n u (by rw [qb9];lia)) ⟨e,?_⟩;refine ⟨.non,_,I.lset (its':=its++[u]) L e (by simp) (r.append (.cons O .nil)) ?_,rfl,q⟩;rw [qb3,qs8];lia
def xr:V->List V->Hp->VK->Prop:=fun x vs H Q=>∃ l b xs zs,x=.ref l/\vs=[.ref b]/\H l=some (.lst xs)/\H b=some (.lst zs)/\xs.length+zs.length<=qb0/\Q .non (upd H l (.lst (xs++zs)))
theorem sv:MtM X "list.extend" xr:=by
 intro pins s σ H x vs v us Q I Z rv h;obtain ⟨l,b,xs,zs,rfl,rfl,W,Y,hz,q⟩:=h;cases Z;obtain ⟨u,rfl,ru⟩:=rv.one;cases ru;obtain ⟨z,its,n,r,hl,e⟩:=I.lstM W;obtain ⟨z2,L,n2,r2,hl2,e2⟩:=I.lstM Y;have U:its.toArray.size+L.toArray.size<=qb0:=by rw [qb9,qb9];lia
 have O:¬ (!its.toArray.isEmpty&&qq7 (its.toArray.size+L.toArray.size))=true:=by rw [uu U,qs7];exact qb6
 refine call_meets F.slot_list_extend ⟨_,e,rfl⟩ F.entry_list_extend (F.args_list_extend_2 _ _)
  (AutoSeq1.list_extend_list_list_0 l its.toArray n b L.toArray n2 O (by rw [qb9];lia) (by lia)) ⟨e,e2,?_⟩
 refine ⟨.non,_,I.lset (its':=its++L) W e (by simp) (r.append r2) ?_,rfl,q⟩;rw [qb3];lia
end
section
variable {prog:qc5} {w:World} {A:qd7} {E:Value->qa4->Prop} {s:qa4}
end
section
variable {X:Cx}
end
variable {o:Option V}
section
variable {κ:Type} [DecidableEq κ]
def da (kvs:List (κ×V)) (k:κ):Option V:=(kvs.find? fun kv=>decide (kv.1=k)).map (·.2)
def dk (kvs:List (κ×V)) (k:κ) (v:V):List (κ×V):=if (kvs.any fun kv=>decide (kv.1=k))=true then kvs.map (fun kv=>if kv.1=k then (kv.1,v) else kv) else kvs++[(k,v)]
theorem fj {p:κ×V} {r:List (κ×V)} {k:κ} (e:p.1=k):da (p::r) k=some p.2:=by simp [da,qo1,e]
theorem dL {p:κ×V} {r:List (κ×V)} {k:κ} (e:¬ p.1=k):da (p::r) k=da r k:=by simp [da,qo1,e]
theorem nr (k:κ):∀ kvs:List (κ×V),(kvs.any fun kv=>decide (kv.1=k))=(da kvs k).isSome
 | []=>rfl
 | p::r=>by
  rw [qi5];by_cases e:p.1=k
  . simp only [fj e,decide_eq_true e,zh5,Option.isSome_some]
  . rw [dL e,decide_eq_false e,za5];exact nr k r
theorem jg (kvs:List (κ×V)) (k:κ) (v:V):(dk kvs k v).length<=kvs.length+1:=by
 unfold dk;split
 . rw [qa2];lia
 . rw [qb3,qc0,qg4];lia
theorem RelO.isSome_eq {u:Option Value} (r:RelO o u):o.isSome=u.isSome:=by
 cases o with
 | none=>cases u with
  | none=>rfl
  | some _=>exact (show False from r).elim
 | some _=>cases u with
  | none=>exact (show False from r).elim
  | some _=>rfl
theorem RelO.getD {u:Option Value} {d:V} {d':Value} (r:RelO o u) (rd:RelV d d'):RelV (o.getD d) (u.getD d'):=by
 cases o with
 | none=>cases u with
  | none=>exact rd
  | some _=>exact (show False from r).elim
 | some _=>cases u with
  | none=>exact (show False from r).elim
  | some _=>exact r
theorem KV.val {kvs:List (κ×V)} {vs:List (κ×Value)} (r:KV kvs vs) (k:κ):RelO (da kvs k) (zf4 vs k):=by
 unfold KV at r;induction r with
 | nil=>exact qq3
 | @cons p q ps qs h t O =>
  obtain ⟨h1,h2⟩:=h;by_cases e:p.1=k
  . have L:q.1=k:=h1.symm.trans e;have b:zf4 (q::qs) k=some q.2:=by simp [zf4,qo1,L]
    rw [fj e,b];exact h2
  . have L:¬ q.1=k:=fun z=>e (h1.trans z)
    have b:zf4 (q::qs) k=zf4 qs k:=by simp [zf4,qo1,L]
    rw [dL e,b];exact O
theorem KV.any {kvs:List (κ×V)} {vs:List (κ×Value)} (r:KV kvs vs) (k:κ):(kvs.any fun kv=>decide (kv.1=k))=vs.any fun kv=>decide (kv.1=k):=by
 unfold KV at r;induction r with
 | nil=>rfl
 | cons h t q=>rw [qi5,qi5,q,h.1]
theorem KV.repl {kvs:List (κ×V)} {vs:List (κ×Value)} (r:KV kvs vs) (k:κ) (O:RelV y u) :
  KV (kvs.map fun kv=>if kv.1=k then (kv.1,y) else kv) (vs.map fun kv=>if kv.1=k then (kv.1,u) else kv):=by
 unfold KV at r ⊢;induction r with
 | nil=>exact .nil
 | @cons p q ps qs h t L =>
  rw [qa5,qa5];refine .cons ?_ L;obtain ⟨h1,h2⟩:=h;by_cases e:p.1=k
  . rw [if_pos e,if_pos (h1.symm.trans e)];exact ⟨h1,O⟩
  . rw [if_neg e,if_neg (fun z=>e (h1.trans z))];exact ⟨h1,h2⟩
theorem KV.put {kvs:List (κ×V)} {vs:List (κ×Value)} (r:KV kvs vs) (k:κ) (q:RelV y u):KV (dk kvs k y) (stored vs k u):=by
 unfold dk stored;rw [r.any k];by_cases e:(vs.any fun kv=>decide (kv.1=k))=true
 . rw [if_pos e,if_pos e];exact r.repl k q
 . rw [if_neg e,if_neg e];exact Paired.snoc r ⟨rfl,q⟩
theorem KV.length {kvs:List (κ×V)} {vs:List (κ×Value)} (r:KV kvs vs):kvs.length=vs.length:=Paired.length r
end
variable {P:qc5} {w:World}
theorem jQ {k:Key} (r:RelV (kV k) u):(bp P w).is k u=true:=by
 cases k with
 | inl i=>obtain ⟨t,e⟩:=(show ∃ t,u=zi2 i t from r);subst e;exact m8 P w i t
 | inr x=>obtain ⟨t,e⟩:=(show ∃ t,u=zi3 x t from r);subst e;exact e7 P w x t
theorem k7:∀ {ks:List Key} {us:List Value},Vals (ks.map kV) us->ItemsAre (bp P w) ks us
 | [],_,r=>by rw [qh4] at r;cases r;exact .nil
 | k::ks,_,r=>by
  rw [qa5] at r;cases r with
  | cons h t=>exact .cons (jQ h) (k7 t)
abbrev KT (H:Hp):List (List Key×V)->List (List Key×Addr×Value)->Prop:=Paired fun p q=>p.1=q.1/\H q.2.1=some (.tup (p.1.map kV))/\RelV p.2 q.2.2
variable {kvs:List (List Key×V)} {xs:List (List Key×Addr×Value)}
theorem KT.val (r:KT H kvs xs) (k:List Key):RelO (da kvs k) ((atKey xs k).map (·.2)):=by
 induction r with
 | nil=>exact qq3
 | @cons p q ps qs h t O =>
  obtain ⟨h1,_,h2⟩:=h;by_cases e:p.1=k
  . have L:q.1=k:=h1.symm.trans e;have b:atKey (q::qs) k=some q.2:=by simp [atKey,qo1,L]
    rw [fj e,b];exact h2
  . have L:¬ q.1=k:=fun z=>e (h1.trans z)
    have b:atKey (q::qs) k=atKey qs k:=by simp [atKey,qo1,L]
    rw [dL e,b];exact O
theorem KT.repl (r:KT H kvs xs) (k:List Key) (O:RelV y u) :
  KT H (kvs.map fun kv=>if kv.1=k then (kv.1,y) else kv) (xs.map (putAt k u)):=by
 induction r with
 | nil=>exact .nil
 | @cons p q ps qs h t L =>
  rw [qa5,qa5];refine .cons ?_ L;obtain ⟨h1,h2,h3⟩:=h;unfold putAt;by_cases e:p.1=k
  . rw [if_pos e,if_pos (h1.symm.trans e)];exact ⟨h1,h2,O⟩
  . rw [if_neg e,if_neg (fun z=>e (h1.trans z))];exact ⟨h1,h2,h3⟩
variable {b:Addr}
theorem KT.put (r:KT H kvs xs) (k:List Key) (O:H b=some (.tup (k.map kV))) (L:RelV y u) :
  KT H (dk kvs k y) (storedH xs k b u):=by
 have e:(kvs.any fun kv=>decide (kv.1=k))=(atKey xs k).isSome:=by rw [nr,(r.val k).isSome_eq,qs5]
 unfold dk storedH;rw [e];by_cases q:(atKey xs k).isSome=true
 . rw [if_pos q,if_pos q];exact r.repl k L
 . rw [if_neg q,if_neg q];exact Paired.snoc r ⟨rfl,O,L⟩
variable {H':Hp}
theorem KT.keeps (r:KT H kvs xs) (q:∀ b ys,H b=some (.tup ys)->H' b=some (.tup ys)):KT H' kvs xs:=Paired.mapP r fun _ _ z=>⟨z.1,q _ _ z.2.1,z.2.2⟩
section
variable {P:qc5} {w:World} {H:Hp} {h:Heap} {a:Addr}
theorem zm {u:HO} (ok:HOk P w H h) (e:Rd H a u):ObjOk P w H h a u:=e.ok ok
theorem k8 {kvs:List (Key×V)} (ok:HOk P w H h) (e:Rd H a (.dK kvs)):kvs.length<=qb0/\(a==qi8)=false/\∃ vs,KV kvs vs/\h.DictOf (bp P w) a vs:=show ObjOk P w H h a (.dK kvs) from zm ok e
theorem C6 {kvs:List (Key×V)} (ok:HOk P w H h) (e:H a=some (.dK kvs)):kvs.length<=qb0/\(a==qi8)=false/\∃ vs,KV kvs vs/\h.DictOf (bp P w) a vs:=k8 ok (.inl e)
theorem jR {ks:List Key} (ok:HOk P w H h) (e:H a=some (.tup (ks.map kV))):(zf8 (bp P w)).is h ks a:=by obtain ⟨_,its,r,o,h1,h2,n,h3⟩:=(show ObjOk P w H h a (.tup (ks.map kV)) from ok a _ e);exact ⟨o,its.toArray,n,h1,h2,h3,by simpa using k7 r⟩
theorem nu (ok:HOk P w H h) (e:Rd H a (.dT kvs)):kvs.length<=qb0/\(a==qi8)=false∧
  ∃ xs,KT H kvs xs/\h.DictOfH (zf8 (bp P w)) a xs:=by
 obtain ⟨z,y,xs,r,o,es,ep,h1,h2,h3,W,Y⟩:=(show ObjOk P w H h a (.dT kvs) from zm ok e);refine ⟨z,y,xs,r,o,es,ep,h1,h2,h3,W,fun x L=>?_,Y⟩
 have all:∀ {l:List (List Key×V)} {m:List (List Key×Addr×Value)},KT H l m->∀ x∈m,(zf8 (bp P w)).is h x.1 x.2.1:=by
  intro l m q;induction q with
  | nil=>intro x L;exact nomatch L
  | @cons p q ps qs O t U =>
   intro x L;rcases qb2.mp L with e | L
   . subst e;exact jR ok (by rw [<- O.1];exact O.2.1)
   . exact U x L
 exact all r x L
theorem C7 (ok:HOk P w H h) (e:H a=some (.dT kvs)):kvs.length<=qb0/\(a==qi8)=false∧∃ xs,KT H kvs xs/\h.DictOfH (zf8 (bp P w)) a xs:=nu ok (.inl e)
end
def DGet (H:Hp) (a:Addr) (y:V) (r:Option V):Prop:=(∃ kvs k,Rd H a (.dK kvs)/\y=kV k/\r=da kvs k)∨∃ kvs k b,Rd H a (.dT kvs)/\y=.ref b/\H b=some (.tup (k.map kV))/\r=da kvs k
noncomputable def DPut (H:Hp) (a:Addr) (y v:V) (H':Hp):Prop:=
 (∃ kvs k,H a=some (.dK kvs)/\y=kV k/\kvs.length<qb0/\H'=upd H a (.dK (dk kvs k v)))∨
 ∃ kvs k b,H a=some (.dT kvs)/\y=.ref b/\H b=some (.tup (k.map kV))/\kvs.length<qb0/\H'=upd H a (.dT (dk kvs k v))
variable {a:Addr}
theorem DGet.k {kvs:List (Key×V)} {k:Key} (e:H a=some (.dK kvs)):DGet H a (kV k) (da kvs k):=.inl ⟨kvs,k,.inl e,rfl,rfl⟩
theorem DGet.t {k:List Key} (e:H a=some (.dT kvs)) (q:H b=some (.tup (k.map kV))):DGet H a (.ref b) (da kvs k):=.inr ⟨kvs,k,b,.inl e,rfl,q,rfl⟩
theorem DPut.k {kvs:List (Key×V)} {k:Key} {v:V} (e:H a=some (.dK kvs)) (q:kvs.length<qb0):DPut H a (kV k) v (upd H a (.dK (dk kvs k v))):=.inl ⟨kvs,k,e,rfl,q,rfl⟩
theorem DPut.t {k:List Key} {v:V} (e:H a=some (.dT kvs)) (L:H b=some (.tup (k.map kV))) (q:kvs.length<qb0) :
  DPut H a (.ref b) v (upd H a (.dT (dk kvs k v))):=.inr ⟨kvs,k,b,e,rfl,L,q,rfl⟩
variable {Q:Value->qa4->Prop} {h':Heap}
section
variable {X:Cx} {pins:List (Addr×Obj)} {σ:St} {H:Hp} {s:qa4} {a:Addr} {y v:V} {u r:Value} {o:Option V} {A:qd7} {E:Value->qa4->Prop}
theorem Inv.big (I:Inv X pins σ H s):qi8<s.heap.objs.size:=by have h:qc3<s.heap.objs.size:=(I.mod.glob.keeps I.bk).lt;exact qx0 (by decide) h
theorem sw (hu:A.units+1<cLine) (I:Inv X pins σ H s) (g:DGet H a y (some v)) (ry:RelV y u) (h:∀ O s',Inv X pins σ H s'->RelV v O->Q O s') :
  wpAny (model X.prog X.w) A (zf1 (.ref a) u) Q E s:=by
 rcases g with ⟨kvs,k,e,U,l⟩ | ⟨kvs,k,b,e,U,eb,l⟩
 . subst U;obtain ⟨z,hd,vs,L,Z⟩:=k8 I.hok e;obtain ⟨O,W,q⟩:=RelO.some_of (v:=v) (o:=zf4 vs k) (by rw [l];exact L.val k);exact wpAny_getItem_of (jQ ry) Z.mapOf W (h O _ (I.tok _) q)
 . subst U;cases (show u=qf3 b from ry);obtain ⟨z,hd,xs,L,Z⟩:=nu I.hok e;obtain ⟨O,W,q⟩:=RelO.some_of (v:=v) (o:=(atKey xs k).map (·.2)) (by rw [l];exact L.val k);obtain ⟨p,hp,Y⟩:=mS W;refine wpAny_getItem_heap (qr1 hu) (jR I.hok eb) Z hp ?_;rw [Y];exact h O _ (I.tok _) q
theorem d_in (Z:A.units+1<cLine) (I:Inv X pins σ H s) (g:DGet H a y o) (Y:RelV y u) (h:∀ s',Inv X pins σ H s'->Q (.bool o.isSome) s') :
  wpAny (model X.prog X.w) A (qf7 .In u (.ref a)) Q E s:=by
 rcases g with ⟨kvs,k,e,O,l⟩ | ⟨kvs,k,b,e,O,eb,l⟩
 . subst O;obtain ⟨z,U,vs,L,W⟩:=k8 I.hok e;refine wpAny_in_of (jQ Y) U W.mapOf ?_;rw [<- (L.val k).isSome_eq,<- l];exact h _ (I.tok _)
 . subst O;cases (show u=qf3 b from Y);obtain ⟨z,U,xs,L,W⟩:=nu I.hok e;refine wpAny_in_heap (qr1 Z) (jR I.hok eb) U W ?_;have q:=(L.val k).isSome_eq;rw [qs5] at q;rw [<- q,<- l];exact h _ (I.tok _)
theorem xt (Z:A.units+1<cLine) (I:Inv X pins σ H s) (g:DGet H a y o) (Y:RelV y u) (h:∀ s',Inv X pins σ H s'->Q (.bool (!o.isSome)) s') :
  wpAny (model X.prog X.w) A (qf7 .NotIn u (.ref a)) Q E s:=by
 rcases g with ⟨kvs,k,e,O,l⟩ | ⟨kvs,k,b,e,O,eb,l⟩
 . subst O;obtain ⟨z,U,vs,L,W⟩:=k8 I.hok e;refine wpAny_notIn_of (jQ Y) U W.mapOf ?_;rw [<- (L.val k).isSome_eq,<- l];exact h _ (I.tok _)
 . subst O;cases (show u=qf3 b from Y);obtain ⟨z,U,xs,L,W⟩:=nu I.hok e;refine wpAny_notIn_heap (qr1 Z) (jR I.hok eb) U W ?_;have q:=(L.val k).isSome_eq;rw [qs5] at q;rw [<- q,<- l];exact h _ (I.tok _)
theorem qA {ob:HO} (I:Inv X pins σ H s) (U:Mut (H a)) (O:qm5 a s.heap h') (L:∃ q,h'.get? a=some q) (new:ObjOk X.prog X.w (upd H a ob) h' a ob) :
  Inv X pins σ (upd H a ob) {s with heap:=h',toks:=t'}:=
 I.write (x:=a) (e:=a) U (.inl rfl) (fun b q W z=>(O.2 b W).trans z) L new
theorem AY {kvs:List (Key×V)} {vs:List (Key×Value)} (z:kvs.length<=qb0) (L:(a==qi8)=false) (q:KV kvs vs) (O:h'.DictOf (bp P w) a vs) :
  ObjOk P w H' h' a (.dK kvs):=⟨z,L,vs,q,O⟩
theorem sx {Q:Unit->qa4->Prop} (hu:A.units+1<cLine) (I:Inv X pins σ H s) (g:DPut H a y v H') (ry:RelV y u) (rv:RelV v r) (h:∀ s',Inv X pins σ H' s'->Q () s') :
  wpAny (model X.prog X.w) A (setItem (.ref a) u r) Q E s:=by
 rcases g with ⟨kvs,k,e,ey,l,eH⟩ | ⟨kvs,k,b,e,ey,eb,l,eH⟩
 . subst ey eH;obtain ⟨z,hd,vs,L,Z⟩:=C6 I.hok e;have Y:vs.length<=qb0:=by rw [<- L.length];exact z
   have W:(dk kvs k v).length<=qb0:=by have:=jg kvs k v;lia
   refine wpAny_setItem_pairs (hsz:=Y) (jQ ry) Z fun h' O hs=>h _ ?_
   have he:∃ q,h'.get? a=some q:=let ⟨q,_,_,U,_⟩:=O;⟨q,U⟩;exact qA I (by rw [e];exact qq3) hs he (AY W hd (L.put k rv) O)
 . subst ey eH;cases (show u=qf3 b from ry);obtain ⟨z,hd,xs,L,Z⟩:=C7 I.hok e;have Y:xs.length<=qb0:=by rw [<- Paired.length L];exact z
   have W:(dk kvs k v).length<=qb0:=by have:=jg kvs k v;lia
   refine wpAny_setItem_heap (hsz:=Y) (qr1 hu) (jR I.hok eb) Z fun h' O hs=>h _ ?_
   obtain ⟨q,es,ep,U,h2,h3,h4,_,h5⟩:=O;refine qA I (by rw [e];exact qq3) hs ⟨q,U⟩ ⟨W,hd,_,(L.put k eb rv).keeps fun c ys ec=>?_,q,es,ep,U,h2,h3,h4,h5⟩;rw [ao (CK ec e (fun z=>nomatch z))];exact ec
end
section
variable {X:Cx} {pins:List (Addr×Obj)} {σ:St} {H:Hp} {s:qa4} {a:Addr} {kvs:List (Key×V)} {k:Key} {u:Value} {A:qd7} {E:Value->qa4->Prop}
end
def sy (i:Expr):Prop:=∀ L q,zf2 i false L q=operate [L,q] (zf1 L q)
theorem qB {prog:qc5} {E:Value->qa4->Prop} {env:Env} {value q:Expr} {pos:Pos} {T id:String} 
 (Y:typeLookup (.type T) "__getitem__"=pure (some (.builtin id))) (Z:sy q)
 (h:wpAny (model prog w) A (eval value env) (fun o O=>wpAny (model prog w) A (eval q env) (fun i s₂=>s₂.TypeIs o T/\wpAny (model prog w) A (zf1 o i) Q E s₂) E O) E s) :
  wpAny (model prog w) A (eval (.Subscript value q pos) env) Q E s:=by
 refine Subscript_ (qk2 h (fun o O U=>qk2 U (fun i s₂ L=>?_) fun _ _ x=>x) fun _ _ x=>x);obtain ⟨W,L⟩:=L;unfold zg1;refine wB ?_;rw [getitemInPython_of_ne W.not_modules];refine wB (wpAny_specialOf W Y ?_)
 have fin:wpAny (model prog w) A (zf2 q false o i) (fun r s₃=>wpAny (model prog w) A (letTemporaryGo value o r >>= fun _=>pure r) Q E s₃) E s₂:=by rw [Z o i];exact wpAny_operating (qk2 L (fun r s₃ h₃=>wB (wpAny_letTemporaryGo (qa3 h₃))) fun _ _ x=>x)
 first
  | exact qa3 (wB fin)
  | exact wB (qa3 (wB fin))
  | exact wB fin
theorem nv {X:Cx} (I:Inv X pins σ H s) (g:DGet H a y o):s.TypeIs (.ref a) "dict":=by
 rcases g with ⟨kvs,k,e,_,_⟩ | ⟨kvs,k,b,e,_,_,_⟩
 . obtain ⟨_,_,vs,_,q⟩:=k8 I.hok e;exact q.typeIs
 . obtain ⟨_,_,xs,_,q⟩:=nu I.hok e;exact q.typeIs
def C8 (td ty:TE):TE:=fun σ H Q=>td σ H fun x H1=>ty σ H1 fun y H2=>∃ a v,x=.ref a/\DGet H2 a y (some v)/\Q v H2
def tDIn (ty td:TE):TE:=fun σ H Q=>ty σ H fun y H1=>td σ H1 fun x H2=>∃ a o,x=.ref a/\DGet H2 a y o/\Q (.bl o.isSome) H2
def qC (ty td:TE):TE:=fun σ H Q=>ty σ H fun y H1=>td σ H1 fun x H2=>∃ a o,x=.ref a/\DGet H2 a y o/\Q (.bl (!o.isSome)) H2
def C9 (td ty tv:TE):TS:=fun D σ H=>tv σ H fun v H1=>td σ H1 fun x H2=>ty σ H2 fun y L=>∃ a q,x=.ref a/\DPut L a y v q/\D.nx σ q
section
variable {X:Cx} {o i e value:Expr} {pos pos' tpos:Pos} {td ty tv:TE}
theorem qD (O:X.A.units+1<cLine) (Z:PE X o td) (hi:PE X i ty) (hs:sy i):PE X (.Subscript o i pos) (C8 td ty):=by intro pins s σ H Q I h;refine qB PySem.F.slot_dict_getitem.lookup hs (thn (Z pins s σ H _ I h) fun u s1 ⟨x,H1,W,U,q1⟩=>thn (hi pins s1 σ H1 _ W q1) fun iv s2 ⟨y,H2,L,ry,a,v,ex,g,q2⟩=>?_);subst ex;obtain rfl:u=qf3 a:=U;exact ⟨nv L g,sw O L g ry fun w' s3 Y q=>⟨v,H2,Y,q,q2⟩⟩
theorem uv (q:X.A.units+1<cLine) (hi:PE X i ty) (Y:PE X o td):PC X .In i o (tDIn ty td):=by
 intro pins s σ H Q I h;refine thn (hi pins s σ H _ I h) fun iv s1 ⟨y,H1,U,ry,q1⟩=>thn (Y pins s1 σ H1 _ U q1) fun u s2 ⟨x,H2,L,O,a,Z,ex,g,q2⟩=>?_
 subst ex;obtain rfl:u=qf3 a:=O;exact d_in q L g ry fun s3 W=>⟨.bl Z.isSome,H2,W,rfl,q2⟩
theorem iS (q:X.A.units+1<cLine) (hi:PE X i ty) (Y:PE X o td):PC X .NotIn i o (qC ty td):=by
 intro pins s σ H Q I h;refine thn (hi pins s σ H _ I h) fun iv s1 ⟨y,H1,U,ry,q1⟩=>thn (Y pins s1 σ H1 _ U q1) fun u s2 ⟨x,H2,L,O,a,Z,ex,g,q2⟩=>?_
 subst ex;obtain rfl:u=qf3 a:=O;exact xt q L g ry fun s3 W=>⟨.bl (!Z.isSome),H2,W,rfl,q2⟩
theorem qE (L:X.A.units+1<cLine) (Z:PE X o td) (hi:PE X i ty) (O:PE X value tv) (hs:qk4 value (some (.Subscript o i pos')) pos.line X.env=pure false) :
  PS X (.Assign [.Subscript o i pos'] value pos) (C9 td ty tv):=by
 intro pins s σ H D I h;refine wpAny_Assign_Subscript (thn (O pins s σ H _ I h) fun r s1 ⟨v,H1,W,rv,q1⟩=>thn (Z pins s1 σ H1 _ W q1) fun u q ⟨x,H2,I2,U,q2⟩=>thn (hi pins q σ H2 _ I2 q2) fun iv s3 ⟨y,H3,Y,ry,a,H4,ex,g,q3⟩=>?_) hs;subst ex;obtain rfl:u=qf3 a:=U;exact sx L Y g ry rv fun s4 I4=>⟨σ,H4,I4,q3⟩
end
theorem uw (h:Heap) (q:qi8<h.objs.size):ObjOk P w H (h.push {cls:=.type "dict",data:=.dict #[]}) h.objs.size (.dT []):=⟨qh8 _,beq_eq_false_iff_ne.mpr (qn9 (qc1 q)),[],.nil,_,#[],0,qa7 _ rfl,⟨rfl,rfl,rfl⟩,rfl,rfl,qx3⟩
def AZ:TE:=fun _ H Q=>∀ p,H p=none->Q (.ref p) (upd H p (.dT []))
section
variable {X:Cx} {pos:Pos}
theorem ux:PE X (.Dict [] [] pos) AZ:=fun pins s σ H Q I h =>wpAny_Dict_empty ⟨.ref s.heap.objs.size,_,I.laid (a:=s.heap.objs.size) (o:=.dT []) (t':=s.toks) (fun _ _ q=>gP _ q) (nL _) (uw s.heap I.big),rfl,h _ (I.hok.fresh (nL _))⟩
end
section
variable {X:Cx} {pins:List (Addr×Obj)} {σ:St} {H:Hp} {s:qa4} {a:Addr} {y d:V} {u r:Value} {o:Option V} {A:qd7} {E:Value->qa4->Prop}
end
section
variable {X:Cx} {o e f:Expr} {apos cpos:Pos} {td ty tx:TE}
end
section
variable {X:Cx} {pins:List (Addr×Obj)} {σ:St} {H:Hp} {s:qa4} {a:Addr} {kvs:List (Key×V)} {A:qd7} {E:Value->qa4->Prop}
end
section
variable {X:Cx} {pins:List (Addr×Obj)} {σ:St} {H:Hp} {s:qa4} {a:Addr} {y:V} {u:Value} {A:qd7} {E:Value->qa4->Prop}
end
end L2
namespace Att
open PySem PySem.W PySem.Calls PyProof.Rows
variable {P:Params} {h:Heap}
theorem jr:∀ (ns:List Int) (vs:List Value),WellAll P h vs (ns.map WData.int)->zg6 vs ns:=by
 intro ns;induction ns with
 | nil =>intro vs w;rw [qh4] at w;cases w;exact .nil
 | cons n ns q =>
  intro vs w;rw [qa5] at w;cases w with
  | cons a b =>cases a;exact .cons _ _ (q _ b)
variable {l:OpenLaw} {n:Nat}
theorem sA (hn:l.most=some n) {args:List WData} {O:List Value}
 (L:l.row.toRowW.claim.pre args=true) (hwl:WellAll P h O args) :
  ∃ a vs ns,O=[qf3 a]/\args=[WData.list (ns.map WData.int)]/\h.get? a=some {cls:=.type "list",data:=.seq vs.toArray}/\zg6 vs ns/\ns.length<=n:=by
 have hsh:WShape.hasAll [] args [.list .int]=true:=(pre_splitW L).1;have hc:l.pre.holds [] {args:=args}=true:=(pre_splitW L).2;obtain ⟨d,r,rfl,h1,h2⟩:=hasAllW_cons hsh;obtain rfl:=hasAllW_nil h2;obtain ⟨xs,rfl,h3⟩:=hasW_list h1;obtain ⟨ns,rfl⟩:=items_int h3
 have U:ns.length<=n:=by
  unfold OpenLaw.pre at hc
  have Y:(WTm.not (.lt (.lit (.int (n:Int))) (.len (.arg 0)))).holds [] {args:=[.list (ns.map .int)]}=true:=by have Y:=(holds_andW hc).1;rw [hn] at Y;exact Y
  have Z:=condW_of Y (w_not (w_lt w_lit (w_len_list (w_arg rfl))));rw [qa2] at Z;refine Nat.le_of_not_lt fun q=>?_
  have q':(n:Int)<((ns.length:Nat):Int):=by lia
  first
   | (rw [decide_eq_true q'] at Z;exact absurd Z (by decide))
   | (simp at Z;lia)
 cases hwl with
 | cons w1 w2 =>
  cases w2;cases w1 with
  | list ho W=>exact ⟨_,_,ns,rfl,rfl,ho,jr ns _ W,U⟩
theorem sB (l:OpenLaw) (args:List WData):l.row.toRowW.claim.post args (.bool true) args=true:=
 postW_of (r:=l.row.toRowW) (X:=(true==true))
  (show WShape.has [] (.bool true) .bool=true by first | rfl | decide | simp [WShape.has,WShape.arms,WShape.armsAll])
  (show (WTm.eq .res (.lit (.bool true))).value [] {args:=args,res:=some (.bool true),after:=args}=some (.bool (true==true)) from w_eq_bool (w_res rfl) w_lit) rfl
theorem zn {q:qc5} {loose:List Str} {XP:(Str->Option Value)->Heap->Prop} {YP:World->Heap->Prop} {d:DefRec}
 (hn:l.most=some n) (hdf:d.params.defaults=[])
 (call:∀ (w:World) (s₀ L:qa4) (mg mb:Str->Option Value) (fa:Addr) (o:Obj) (pm cd doc:Value) (a:Addr) (vs:List Value) (ns:List Int),
 Ground q loose [] XP w s₀ mg mb L.heap->YP w L.heap→
 L.heap.get? fa=some o->o.data=.func (docDef d.name d.params d.body d.scope pm cd doc)->L.heap.CodeRec cd d.name->mg d.name=some (.ref fa)→
 L.heap.get? a=some {cls:=.type "list",data:=.seq vs.toArray}->zg6 vs ns->ns.length<=n->L.gens=#[]→
 qs2 (model l.prog w) zg7 (.call (.ref fa) ⟨[.ref a],[]⟩) (fun r s'=>r=.ok (.ret (.bool true))/\OldK L.heap s'.heap/\s'.os=L.os/\zc7 s'.gens) L) :
  WalkO q loose XP YP l.row.toRowW d [] (fun f vs=>PySem.call f vs):=by
 intro w s₀ L mg mb G Y fa o pm cd doc dV kV ho hd hcd hD hmg hg args vals as Z hlay hrd hwl hlo;obtain rfl:dV=.none:=Dflts.none hD hdf;obtain rfl:kV=.none:=Dflts.noKw hD;obtain ⟨a,vs,ns,rfl,rfl,W,O,U⟩:=sA hn Z hwl;refine enter_call (qq4 (call w s₀ L mg mb fa o pm cd doc a vs ns G Y ho (fd_plain hd) hcd hmg W O U hg) fun r s' hq=>?_);obtain ⟨rfl,h2,h3,h4⟩:=hq;exact ⟨.inl ⟨.bool true,.bool true,[],rfl,fun _=>rfl,.bool true,sB l _,fun _=>⟨qp0,fun _ hm=>(nomatch hm)⟩⟩,h2,h3,h4⟩
section
variable {prog:qc5} {w:World} {A:qd7} {E:Value->qa4->Prop} {s:qa4} {K:Frag}
end
end Att
namespace L2
open PySem PySem.Spec PyProof.Rows
theorem k9:∀ {vs:List Value} {ns:List Int},zg6 vs ns->Vals (ns.map V.int) vs
 | _,_,.nil=>.nil
 | _,_,.cons n t h=>.cons ⟨t,rfl⟩ (k9 h)
end L2
/- THE LAST THEOREM (shape;LID,My.* are yours):
   My.Adr: a structure of the addresses that your layer names (classes,functions);My.Txt K t: a structure (Prop) of the equations over K;
   My.txt_mk:{K} {implicit addresses ..} (e1:nsIn K qc3 "law"=some (some (.ref f))) (e2:K.lookup f=some ⟨oc,od,.func (fnOf "law" "law" params body scope dV kV doc pm an cdv ct),sl⟩) (e3:codeIn K cdv "law"=true) ..:∃ t,My.Txt K t
(the tactic k_is has no namespace: write k_is) -/
namespace L2
open PySem PySem.Spec PyProof.Rows
def bz (s:Stmt):qj2:=match s with
 | .FunctionDef _ a _ _ _ _ _ _ _ _=>a
 | _=>{posonlyargs:=[],args:=[],vararg:=none,kwonlyargs:=[],kw_defaults:=[],kwarg:=none,defaults:=[]}
def az (s:Stmt):List Stmt:=match s with
 | .FunctionDef _ _ b _ _ _ _ _ _ _=>b
 | _=>[]
def ac (s:Stmt):Scope:=match s with
 | .FunctionDef _ _ _ _ _ _ sc _ _ _=>sc
 | _=>{kind:=.function,names:=[],isGenerator:=false,isCoroutine:=false}
abbrev CX0:CXT:=fun _ _ _ _ _ _=>False
abbrev E0:XK:=fun _ _ _=>False
variable {X:Cx}
theorem Db:pj CX0 X E0:=fun _ _ _ _ _ _ _ h=>h.elim
structure Fun (K:xA9) (x qual:Str) (st:Stmt) (f:Addr) (fd:qo9):Prop where
 ex:∃ (oc:Value) (od:Option Addr) (kV doc pm:Value) (an:Option Addr) (cdv ct:Value) (osl:Array (Option Value)),fd=xC9 x qual (bz st) (az st) (ac st) .none kV doc pm an cdv ct/\K.lookup f=some ⟨oc,od,.func fd,osl⟩/\xG9 K cdv qual=true
 kp:xE9 K (.ref f)=true
variable {x qual:Str} {st:Stmt} {f:Addr} {fd:qo9} {N ps:List Str} {sp:Sp} {oc doc pm cdv:Value} {od an:Option Addr} {osl:Array (Option Value)}
section
variable {P:qc5} {w:World} {K:xA9} {mg:Str->Option Value} {base:Heap}
theorem Fun.ok {k:Nat} (F:Fun K x qual st f fd) (S:FnScope N ps (ac st)) (len:∀ vs H Q E,sp vs H Q E->vs.length=ps.length)
 (L:∀ (cdv:Value) (A:qd7) (outer:List Env) (s:qa4) (H:Hp) (vs:List V) (Q:VK) (E:XK),Room k (A.deeper (qv4 qual (ac st) s.heap.objs.size f cdv))->sp vs H Q E→
 ∃ t,PSs (iP CX0 P w K mg base N qual (ac st) f cdv A outer s H E).nox (az st) t/\t {nx:=fun _ H'=>Q .non H',rt:=Q} (start N vs) H):FnOk P w K mg base CX0 (k+1) f fd ps sp:=by
 obtain ⟨oc,od,kV,doc,pm,an,cdv,ct,osl,rfl,W,U⟩:=F.ex;refine zh W U S len fun A outer s H vs Q E Y O=>?_
 obtain ⟨t,h,q⟩:=L cdv A outer s H vs Q E Y O;exact ⟨t,h.nox,q⟩
theorem Fun.binds (F:Fun K x qual st f fd)
 (h:∀ (kV doc pm:Value) (an:Option Addr) (cdv ct:Value) (us:List Value),us.length=ps.length->zg0 (xC9 x qual (bz st) (az st) (ac st) .none kV doc pm an cdv ct) ⟨us,[]⟩=pure (ps.zip us)):Binds K fd ps []:=by
 obtain ⟨oc,od,kV,doc,pm,an,cdv,ct,osl,rfl,L,q⟩:=F.ex;exact .all (h kV doc pm an cdv ct)
theorem mn {kV ct:Value} (l:K.lookup f=some ⟨oc,od,.func (xC9 x qual (bz st) (az st) (ac st) .none kV doc pm an cdv ct),osl⟩) (c:xG9 K cdv qual=true) (k:xE9 K (.ref f)=true):Fun K x qual st f (xC9 x qual (bz st) (az st) (ac st) .none kV doc pm an cdv ct):=⟨⟨oc,od,kV,doc,pm,an,cdv,ct,osl,rfl,l,c⟩,k⟩
end
variable {A:qd7}
theorem gU {k:Nat} (q:Room k A):A.units+1<cLine:=qx1 (Nat.add_le_add_left (by decide:1<=64) _) q.units
section
variable {X:Cx}
end
def Same (H H':Hp):Prop:=∀ b o,H b=some o->H' b=some o
theorem Same.refl (H:Hp):Same H H:=fun _ _ h=>h
variable {H:Hp}
theorem Same.trans {H1 H2:Hp} (a:Same H H1) (b:Same H1 H2):Same H H2:=fun c o h=>b c o (a c o h)
variable {H':Hp}
theorem Same.free (e:Same H H') {l:Addr} (h:H' l=Option.none):H l=Option.none:=by
 cases q:H l with
 | none=>rfl
 | some o =>rw [e l o q] at h;cases h
variable {K:xA9} {a:Addr} {xs:List V}
theorem Same.seq (e:Same H H') (h:SqL K H a xs):SqL K H' a xs:=by
 rcases h with (h | ⟨o,h⟩) | h
 . exact .inl (.inl (e _ _ h))
 . exact .inl (.inr ⟨o,e _ _ h⟩)
 . exact .inr h
section
variable {κ:Type} [DecidableEq κ]
end
set_option maxRecDepth 100000
set_option maxHeartbeats 4000000
theorem cT:∀ (names:List (Str×qn7)) (n:Nat) (acc:List (Str×Addr)),qh1 n names acc=qh1 n names []++acc
 | [],_,_=>rfl
 | (x,k)::r,n,acc=>by
  unfold qh1;split
  . rw [cT r (n+1) ((x,n)::acc),cT r (n+1) [(x,n)],qg9];rfl
  . exact cT r n acc
theorem cI {α:Type}:∀ {l m:List (Str×α)},(l++m).lookup x=(l.lookup x).or (m.lookup x)
 | [],m=>by simp
 | (k,v)::l,m=>by
  rw [zb7,qg5,qg5];cases x==k with
  | true=>rfl
  | false=>exact cI
variable {n:Str} {Q:Unit->qa4->Prop} {c:Addr}
section
variable {M:Model} {A:qd7} {E:Value->qa4->Prop} {s₀ s:qa4} {m cm:Str->Option Value} {env:Env} {cs:List (Str×Addr)}
theorem stLX {v:Value} (x:zd2 s₀ env.locals m cs cm s) (hk:env.scope.kind=.function) (W:env.kindOf n=some .local)
 (h:∀ s',zd2 s₀ env.locals (fun y=>if y=n then some v else m y) cs cm s'->Q () s'):wpAny M A (zc8 env n v) Q E s:=by
 refine zc9 W x.toInCall.ns (fun h' L q=>h _ ⟨⟨?_,L,fun b o e=>?_,x.toInCall.fresh⟩,fun k c O=>?_,x.apart,x.above⟩) (by rw [hk];rfl)
 . obtain ⟨U,tk,rfl⟩:=x.toInCall.same;exact ⟨h',_,rfl⟩
 . exact q.extBut b o (qc1 (qb4 (qa8 e) x.toInCall.fresh)) (x.toInCall.keep b o e)
 . exact (x.cell k c O).sameBut q (qm6 (x.above k c (PySem.mem_of_lookup O)))
theorem stCX {v:Value} (x:zd2 s₀ env.locals m cs cm s) (hk:env.scope.kind=.function) (hl:env.kindOf n=some .cell)
 (W:cs.lookup n=some c) (Y:env.cells.lookup n=some c)
 (h:∀ s',zd2 s₀ env.locals m cs (fun y=>if y=n then some v else cm y) s'->Q () s'):wpAny M A (zc8 env n v) Q E s:=by
 have U:=x.above n c (PySem.mem_of_lookup W);refine wpAny_storeName_cell hk hl Y (x.cell n c W) fun h' Z O=>h _ ⟨⟨?_,x.toInCall.ns.sameBut O (qc1 U),fun b o e=>?_,x.toInCall.fresh⟩,fun k c' q=>?_,x.apart,x.above⟩
 . obtain ⟨h₁,tk,rfl⟩:=x.toInCall.same;exact ⟨h',_,rfl⟩
 . exact O.extBut b o (qc1 (qx0 (qb4 (qa8 e) x.toInCall.fresh) U)) (x.toInCall.keep b o e)
 . by_cases L:k=n
   . subst L;rw [W] at q;cases q
     simpa using Z
   . rw [if_neg L];exact (x.cell k c' q).sameBut O fun e=>L (zh2 x.apart (PySem.mem_of_lookup q) (e▸PySem.mem_of_lookup W))
theorem fm (f:Str×Value->PUnit->Sem (ForInStep PUnit)) (hf:∀ n v u,f (n,v) u=(do zc8 env n v;pure (.yield ⟨⟩))) (hk:env.scope.kind=.function) (O:∀ n c,cs.lookup n=some c->env.cells.lookup n=some c) :
  ∀ (binds:List (Str×Value)) (m cm:Str->Option Value) (s:qa4) (Q:PUnit->qa4->Prop),zd2 s₀ env.locals m cs cm s→
   (∀ x∈binds,env.kindOf x.1=some .local∨(env.kindOf x.1=some .cell/\(cs.lookup x.1).isSome=true))→
   (∀ s',zd2 s₀ env.locals (bindL env.kindOf binds m) cs (bindC env.kindOf binds cm) s'->Q ⟨⟩ s')->wpAny M A (forIn binds ⟨⟩ f) Q E s
 | [],m,cm,s,Q,x,_,h=>by rw [List.forIn_nil];exact qa3 (h s x)
 | (n,v)::r,m,cm,s,Q,x,q,h=>by
  rw [List.forIn_cons,hf];have hr:∀ y∈r,env.kindOf y.1=some .local∨(env.kindOf y.1=some .cell/\(cs.lookup y.1).isSome=true):=fun y hy=>q y (qd1 _ hy)
  rcases q (n,v) qe0 with W | ⟨W,Z⟩
  . refine wB (wB (stLX x hk W fun s' x'=>qa3 (fm f hf hk O r _ _ s' Q x' hr fun L U=>h L ?_)));unfold bindL bindC;rw [if_pos W,if_pos W];exact U
  . obtain ⟨c,Z⟩:=qq5.mp Z;have Y:¬ env.kindOf n=some .local:=by rw [W];decide
    refine wB (wB (stCX x hk W Z (O n c Z) fun s' x'=>qa3 (fm f hf hk O r _ _ s' Q x' hr fun L U=>h L ?_)));unfold bindL bindC;rw [if_neg Y,if_neg Y];exact U
end
variable {E:Value->qa4->Prop} {s:qa4} {scope:Scope}
theorem xu {M:Model} {L:Addr} {cl:List (Str×Addr)} {binds:List (Str×Value)} {O:Option Addr} {code:Value} {q:Addr} {Q:Env->qa4->Prop}
 (hk:scope.kind=.function)
 (U:∀ x∈binds,scope.names.lookup x.1=some .local∨(scope.names.lookup x.1=some .cell/\((qh1 (s.heap.objs.size+1) scope.names []).lookup x.1).isSome=true))
 (hQ:∀ env,env=newEnv scope s.heap.objs.size L (qh1 (s.heap.objs.size+1) scope.names []++cl) qual O code none q→
 ∀ s',zd2 s env.locals (bindL env.kindOf binds fun _=>none) (qh1 (s.heap.objs.size+1) scope.names []) (bindC env.kindOf binds fun _=>none) s'->Q env s') :
  wpAny M A (newFunctionEnv scope L cl binds qual O code none q) Q E s:=by
 simp only [newFunctionEnv,Option.isSome_none,qf9,if_false];refine wB (wpAny_alloc ?_);refine qh2 (wpAny_layCells _ (fun name W cells=>by cases Y:W==qn7.cell<;>simp [Y]) _ _ _ _ ?_);have ok:=cellsFrom_ok scope.names (s.heap.push {cls:=.type "frame",data:=.dict #[]}) (s.heap.objs.size+1) [] ⟨fun _ _ Z=>(nomatch Z),qp0⟩ (by rw [qg0];exact nL _);rw [qg0] at ok;rw [show ({s with heap:=s.heap.push {cls:=.type "frame",data:=.dict #[]}}:qa4).heap.objs.size=s.heap.objs.size+1 from qg0 ..,cT]
 refine wB (fm (s₀:=s) (cs:=qh1 (s.heap.objs.size+1) scope.names []) (env:=newEnv scope s.heap.objs.size L (qh1 (s.heap.objs.size+1) scope.names []++cl) qual O code none q)
  _ (fun _ _ _=>rfl) hk (fun n c h=>by show (qh1 (s.heap.objs.size+1) scope.names []++cl).lookup n=some c;rw [cI,h];rfl) binds (fun _=>none) (fun _=>none) _ _
  ⟨⟨⟨_,_,rfl⟩,(Heap.Ns.new s.heap (.type "frame")).keeps (pushCells_keeps _ _),fun b o e=>pushCells_keeps _ _ b o (gP _ e),nL _⟩,fun n c hc=>(ok.empty n c (PySem.mem_of_lookup hc)).1,ok.apart,fun n c Z=>(ok.empty n c Z).2⟩
  U fun s' x=>qa3 (hQ _ rfl s' x))
def dD (names:List (Str×qn7)) (cells:List (Str×Addr)):List (Str×Addr):=names.foldl (fun cs q=>if q.2==qe2 then (q.1,(cells.lookup q.1).getD 0)::cs else cs) []
variable {cells:List (Str×Addr)} {env:Env}
theorem qF (W:env.cells=cells):∀ (names:List (Str×qn7)) (acc:List (Str×Addr)),(∀ x∈names,x.2=.free->∃ c,cells.lookup x.1=some c)→
  (forIn names acc (fun (x:Str×qn7) (r:List (Str×Addr))=>if (x.2==qe2)=true then (do let c <- cellOf env x.1;pure (qo2 ((x.1,c)::r))) else (pure (qo2 r):Sem _)))
   = (pure (names.foldl (fun cs O=>if O.2==qe2 then (O.1,(cells.lookup O.1).getD 0)::cs else cs) acc):Sem (List (Str×Addr)))
 | [],acc,_=>rfl
 | x::r,acc,h=>by
  have U:=fun acc=>qF W r acc fun y Y=>h y (qd1 _ Y)
  simp only [List.forIn_cons,qi6];cases e:(x.2==qe2) with
  | false =>simp only [qf9,if_false];exact U acc
  | true =>
   obtain ⟨c,L⟩:=h x qe0 (by simpa using e);have q:cellOf env x.1=pure c:=by unfold cellOf;rw [W,L]
   simp only [if_true,q,L,Option.getD_some];exact U _
theorem gq {env:Env} (h:∀ x∈scope.names,x.2=.free->∃ c,env.cells.lookup x.1=some c):ze3 scope env=pure (dD scope.names env.cells):=by have:=qF (env:=env) rfl scope.names [] h;unfold ze3 dD;rw [<- this];simp only [bind_pure]
theorem lb:∀ {names:List (Str×qn7)} {acc:List (Str×Addr)} {x:Str} {c:Addr},(∀ y∈names,y.2=.free->∃ c,cells.lookup y.1=some c)→
  (names.foldl (fun cs O=>if O.2==qe2 then (O.1,(cells.lookup O.1).getD 0)::cs else cs) acc).lookup x=some c->(∀ c,acc.lookup x=some c->cells.lookup x=some c)->cells.lookup x=some c
 | [],acc,x,c,_,h,q=>q c h
 | y::r,acc,x,c,U,h,q=>by
  simp only [qi6] at h;refine lb (fun z Z=>U z (qd1 _ Z)) h ?_;intro c' h';split at h'
  . rename_i W;obtain ⟨c0,e0⟩:=U y qe0 (by simpa using W);rw [qg5] at h';split at h'
    . rename_i Y;have L:x=y.1:=by simpa using Y
      rw [e0] at h';subst L;rw [e0];simpa using h'
    . exact q c' h'
  . exact q c' h'
variable {names:List (Str×qn7)}
theorem fq (q:∀ y∈names,y.2=.free->∃ c,cells.lookup y.1=some c) (h:(dD names cells).lookup x=some c):cells.lookup x=some c:=lb q h fun c h=>by simp at h
theorem lc:∀ {names:List (Str×qn7)} {acc:List (Str×Addr)} {x:Str},((x,qe2)∈names∨(acc.lookup x).isSome)→
  ((names.foldl (fun cs q=>if q.2==qe2 then (q.1,(cells.lookup q.1).getD 0)::cs else cs) acc).lookup x).isSome
 | [],acc,x,h=>by simpa using h
 | y::r,acc,x,h=>by
  simp only [qi6];refine lc ?_;rcases h with h | h
  . rcases qb2.mp h with e | h
    . subst e;right;simp [qg5]
    . exact .inl h
  . right;split
    . rw [qg5];split
      . rfl
      . exact h
    . exact h
theorem ny (h:(x,qe2)∈names):∃ c,(dD names cells).lookup x=some c:=qq5.mp (lc (.inl h))
structure CmpScope (N:List Str) (outer scope:Scope) (M:List Str) (src:List (Option Nat)):Prop where
 kind:scope.kind=.function
 nocell:∀ y∈scope.names,y.2≠.cell
 free:∀ y∈scope.names,y.2=.free->outer.names.lookup y.1=some .cell∨outer.names.lookup y.1=some .free
 names:∀ y∈scope.names,y.2=.local->scope.names.lookup y.1=some .local
 lf:∀ y∈scope.names,y.2=.free->scope.names.lookup y.1=some .free
 len:M.length=src.length
 nd:M.Nodup
 src:∀ p∈M.zip src,∀ j∈p.2,N[j]?=some p.1/\(p.1,qe2)∈scope.names
def stC (src:List (Option Nat)) (σ:St):St:=src.map fun o=>o.bind fun j=>(σ[j]?).join
noncomputable def cxC (X:Cx) (M:List Str) (scope:Scope) (C:Addr) (s:qa4) (H:Hp) (ex:List Addr):Cx:={X with N:=M,s₀:=s,H₀:=H,env:=compEnvC scope (dD scope.names X.env.cells) C X.env,outer:=X.stack,ex:=ex,fn:=fun _=>false,pn:=[],xe:=fun _ _=>False}
noncomputable def PTs (X:Cx) (ifs:List Expr) (t:TT):Prop:=
 ∀ (pins:List (Addr×Obj)) (s:qa4) (σ:St) (H:Hp) (Q:Bool->Hp->Prop),Inv X pins σ H s->t σ H Q→
  wpAny (model X.prog X.w) X.A (forIn ifs true fun c r=>if r=true then do let ok <- isTrue c X.env (eval c X.env);pure (qo2 ok) else pure (qo2 r)) (TP X pins σ Q) X.xe s
def tYes:TT:=fun _ H Q=>Q true H
theorem xw:PTs X [] tYes:=fun pins s σ H Q I h=>wpAny_tests_nil ⟨H,I,h⟩
theorem xx {c:Expr} {t:TT} (h:PT X c t):PTs X [c] t:=fun pins s σ H Q I q=>wpAny_tests_one (h pins s σ H Q I q)
def Wk (a b:St):Prop:=a.length=b.length/\∀ (i:Nat) v,a[i]?=some (some v)->b[i]?=some (some v)
noncomputable def ld (src:List (Option Nat)) (wi:TI) (g:TG) (tt:TT) (te:TE):TE:=fun σ H Q=>wi σ H fun J H1=>∀ D,H1 D=none->∃ W:Nat->Nat->Hp->Prop,(∃ m,W 0 m (upd H1 D (.lst [])))/\∀ i m H,W i m H→
 (J.stop i H/\Q (.ref D) H)∨(J.go i H/\∃ N:Hp->Prop,(∀ H',N H'->∃ U,U<m/\W (i+1) U H')/\∀ x H',J.yld i H x H'→
  g x (stC src σ) H' fun q H2=>Wk (stC src σ) q/\tt q H2 fun b L=>if b=true then te q L fun v O=>∃ ys,O D=some (.lst ys)/\ys.length<qb0/\N (upd O D (.lst (ys++[v]))) else N L)
variable {w:World}
theorem gW {prog:qc5} {R:Result->qa4->Prop} {elt q iter:Expr} {ifs:List Expr} {pos:Pos} {it acc:Value} (I:Nat->qa4->Prop)
 (Z:∀ n s,I n s->wpAny (model prog w) A (qw6 it) (fun r L=>match r with
 | none=>R (.ok .next) L
 | some v=>wpAny (model prog w) A (qv2 q it v) (fun _ O=>wpAny (model prog w) A (ze7 q env v) (fun _ U =>
 wpAny (model prog w) A (forIn ifs true fun c r=>if r=true then do let ok <- isTrue c env (eval c env);pure (qo2 ok) else pure (qo2 r)) (fun ok s₃ =>
 if ok=true then wpAny (model prog w) A (eval elt env) (fun x s₄ =>
 wpAny (model prog w) A (call (.builtin "list.append") [acc,x]) (fun _ s₅=>∃ m,m<n/\I m s₅) (fun _ _=>False) s₄) (fun _ _=>False) s₃
 else ∃ m,m<n/\I m s₃) (fun _ _=>False) U) (fun _ _=>False) O) (fun _ _=>False) L) (fun _ _=>False) s)
 (n:Nat) (h:I n s) :
  qs2 (model prog w) A (.compLoop (.ListComp elt [⟨q,iter,ifs,0⟩] scope pos) 0 it acc env) R s:=by
 refine codeAny_loop rfl I (fun n s hI=>?_) n h;show wpAny _ A ((compTurn (.ListComp elt [⟨q,iter,ifs,0⟩] scope pos) 0 it acc env).onRaise (fun x=>do noteFrame x env;theTreesLotGoes x)) _ _ s;refine wpAny_noted ?_;rw [compTurn_list];refine wB (zf9 (wB (qk2 (Z n s hI) (fun r L W=>?_) fun _ _ h'=>h'.elim)));cases r with
 | none=>exact qa3 W
 | some v =>
  refine wB (qk2 W (fun _ O Y=>?_) fun _ _ h'=>h'.elim);refine wB (qk2 Y (fun _ U h₂=>wB (qk2 h₂ (fun ok s₃ h₃=>?_) fun _ _ h'=>h'.elim)) fun _ _ h'=>h'.elim);cases ok with
  | false=>exact qa3 ⟨rfl,h₃⟩
  | true =>exact wB (wB (qk2 h₃ (fun x s₄ h₄=>wB (qk2 h₄ (fun _ s₅ h₅=>qa3 (qa3 ⟨rfl,h₅⟩)) fun _ _ h'=>h'.elim)) fun _ _ h'=>h'.elim))
variable {σ:St}
section
variable {X:Cx} {elt tg iter:Expr} {ifs:List Expr} {scope:Scope} {pos:Pos} {M:List Str} {src:List (Option Nat)} {wi:TI} {g:TG} {tt:TT} {te:TE}
theorem mo (Z:∀ y∈scope.names,y.2≠.cell) (h:(relabel scope env).names.lookup x=some .cell∨(relabel scope env).names.lookup x=some .free):(x,qe2)∈scope.names:=by
 have q:∀ k,(relabel scope env).names.lookup x=some k->(k=.cell∨k=.free)->(x,qe2)∈scope.names:=by
  intro k hk O;have W:=PySem.mem_of_lookup hk;unfold relabel at W;obtain ⟨⟨n,Y⟩,L,e⟩:=qc6.mp W;dsimp only at e;split at e
  . rename_i U;simp only [qa9] at U;have:Y=.free:=by simpa using U.1.1
    subst this;cases e;exact L
  . cases e;rcases O with z | z
    . subst z;exact absurd rfl (Z _ L)
    . subst z;exact L
 rcases h with h | h
 . exact q _ h (.inl rfl)
 . exact q _ h (.inr rfl)
theorem nz {pins:List (Addr×Obj)} {s1:qa4} {fp:List Addr} {m1:Str->Option Value} (S:CmpScope X.N X.env.scope scope M src) (I:Inv X pins σ H s) (hf:∀ b∈fp,gn X pins H b)
 (hfl:∀ b∈fp,b<s.heap.objs.size) (hn:s1.heap.Ns s.heap.objs.size m1) (hk:∀ b o,s.heap.get? b=some o->s1.heap.get? b=some o) (hos:s1.os=s.os) (hg:s1.gens=s.gens) :
  Inv (cxC X M scope s.heap.objs.size s H fp) [] (stC src σ) H s1:=by
 have Z:∀ x∈scope.names,x.2=.free->∃ c,X.env.cells.lookup x.1=some c:=fun x hx U=>I.ok.has x.1 (S.free x hx U)
 have L:∀ x c,(dD scope.names X.env.cells).lookup x=some c->X.env.cells.lookup x=some c:=fun x c h=>fq Z h
 have O:∀ c v,s.heap.IsCell c v->s1.heap.IsCell c v:=fun c v ⟨o,ho,hd⟩=>⟨o,hk c o ho,hd⟩
 refine ⟨⟨I.ok.mod,S.kind,I.ok.glob,I.ok.blt,nL _,fun y z c h1 h2=>I.ok.inj y z c (L _ _ h1) (L _ _ h2),fun x hx=>ny (mo S.nocell hx),fun x c h=>(nomatch h),I.ok.hd,I.ok.frames,.inl rfl,
  fun b Y=>⟨qc1 (hfl b Y),fun x c h=>(hf b Y).2.2.2.2.1 x c (L _ _ h)⟩,I.bs,qb8 I.ok.bsz I.sz,fun b o e Y=>?_,fun b Y z=>?_,I.stack,I.stkFree,fun p hp=>I.base.cts _ _ (I.ok.tb p hp)⟩,
  hos,(by rw [hg];exact I.bare),Un.kept hk,⟨m1,hn,fun i x v h1 h2 h3=>?_⟩,fun x c h=>?_,I.hok.fresh (qu9 _),fun x c h=>I.freeC x c (L _ _ h),fun p hp=>absurd hp (by simp [cxC]),I.hok.kept hk,?_⟩
 . rcases (hf b Y).2.2.2.1 with z | z
   . exact I.ok.noex b o e z
   . exact absurd (qb4 (qa8 e) (qb8 I.ok.bsz z)) (qm7 _)
 . rcases qb2.mp (I.stkSub b z) with q | q
   . exact (hf b Y).2.1 q
   . exact (hf b Y).2.2.1 q
 . -- a name taken over
   have h1:M[i]?=some x:=h1;unfold stC at h2;rw [qb1] at h2;cases hs:src[i]? with
   | none=>rw [hs] at h2;cases h2
   | some o =>
    rw [hs] at h2;simp only [qe5,qj3] at h2;cases o with
    | none=>cases h2
    | some j =>
     simp only [qa1] at h2
     have hmem:(x,some j)∈M.zip src:=by
      have:(M.zip src)[i]?=some (x,some j):=by rw [qq0];exact ⟨h1,hs⟩
      exact qf5 this
     obtain ⟨hN,U⟩:=S.src _ hmem j rfl
     have hσ:σ[j]?=some (some v):=by
      cases e:σ[j]? with
      | none=>rw [e] at h2;cases h2
      | some o=>rw [e] at h2;simp only [qn1] at h2;rw [h2]
     have W:=S.free _ U rfl;obtain ⟨m,hm,hl⟩:=I.loc;obtain ⟨u,r,l⟩:=hl j x v hN hσ (.inr W);refine ⟨u,r,?_⟩
     have hloc:X.env.kindOf x≠some .local:=by show X.env.scope.names.lookup x≠_;rcases W with q | q<;>rw [q]<;>decide
     rcases l with l | ⟨_,c,e,z⟩
     . exact absurd l.1 hloc
     . obtain ⟨c',e'⟩:=ny (cells:=X.env.cells) U;have:=L _ _ e';rw [e] at this;cases this;refine .inr ⟨?_,c,e',O _ _ z⟩;rcases h3 with q | q
       . exact absurd q (by
          -- a name that is free in the block is not local there
          exact (by
           intro q
           have:scope.names.lookup x=some .local:=by
            have Y:∀ (names:List (Str×qn7)),(names.map fun (n,k)=>if (k==qe2&&X.env.scope.kind==.function&&X.env.kindOf n==some .cell) then (n,qn7.cell) else (n,k)).lookup x=some .local->names.lookup x=some .local:=by
             intro names;induction names with
             | nil=>intro h;simp at h
             | cons y r ih =>
              obtain ⟨n,k⟩:=y;intro h;simp only [qa5] at h;by_cases hx:x=n
              . subst hx;split at h
                . simp [qg5] at h
                . simpa [qg5] using h
              . have hx':(x==n)=false:=by simpa using hx
                split at h
                . simp only [qg5,hx'] at h ⊢;exact ih h
                . simp only [qg5,hx'] at h ⊢;exact ih h
            exact Y _ q
           rw [S.lf _ U rfl] at this;cases this))
       . exact q
 . obtain ⟨v,z⟩:=I.cell x c (L _ _ h);exact ⟨v,O _ _ z⟩
 . show (stC src σ).length=M.length;unfold stC;rw [qa2,S.len]
theorem nA (S:CmpScope X.N X.env.scope scope M src) (hc:X.calm=true) (hi:PI X tg iter wi) (hg:M.Nodup->∀ C s H ex,PG (cxC X M scope C s H ex) tg g) (ht:∀ C s H ex,PTs (cxC X M scope C s H ex) ifs tt)
  (he:∀ C s H ex,PE (cxC X M scope C s H ex) elt te) (hs:∀ x,qg8 iter X.env x=pure x:=by intro _;rfl) :
  PE X (.ListComp elt [⟨tg,iter,ifs,0⟩] scope pos) (ld src wi g tt te):=by
 intro pins s σ H Q I h;rw [eval_ListComp];have Z:∀ x∈scope.names,x.2=.free->∃ c,X.env.cells.lookup x.1=some c:=fun x hx hfr=>I.ok.has x.1 (S.free x hx hfr)
 refine qy5 (use:=none) rfl hs (gq Z) S.kind S.names (thn (hi pins s σ H _ I h) fun v s1 h1=>thn h1 fun itv s2 h2=>?_);obtain ⟨it,fp,tn,J,H2,rfl,I2,T,st2,f2,hq⟩:=h2;refine qd2 ?_;have I3:Inv X pins σ (upd H2 s2.heap.objs.size (.lst [])) {s2 with heap:=s2.heap.push {cls:=.type "list",dict:=none,data:=.seq ([]:List Value).toArray},toks:=s2.toks}:=I2.lnew (its:=[]) (ys:=[]) (t':=s2.toks) .nil (by simp);have hD:H2 s2.heap.objs.size=none:=I2.fresh;obtain ⟨W,⟨m0,w0⟩,turn⟩:=hq _ hD;generalize hDn:s2.heap.objs.size=D at*
 generalize hs3:({s2 with heap:=s2.heap.push {cls:=.type "list",dict:=none,data:=.seq ([]:List Value).toArray},toks:=s2.toks}:qa4)=Y at*
 have f3:∀ b∈fp,gn X pins (upd H2 D (.lst [])) b:=fun b L=>⟨by obtain ⟨o,e,_⟩:=T.obj _ _ st2 b L;rw [ao (by rw [<- hDn];exact qc1 (qa8 e))];exact (f2 b L).1,(f2 b L).2⟩
 have k23:∀ b o,s2.heap.get? b=some o->Y.heap.get? b=some o:=fun b o e=>by rw [<- hs3];exact gP _ e
 have st3:tn 0 Y.heap:=T.keep _ _ _ st2 fun b _ o e=>k23 b o e
 have fl3:∀ b∈fp,b<Y.heap.objs.size:=fun b L=>by obtain ⟨o,e,_⟩:=T.obj _ _ st3 b L;exact qa8 e
 refine wpAny_newFunctionEnv S.nocell (by intro y hy;simp at hy) (fun h₁ hns₁ hsb₁=>?_) S.kind;have k34:∀ b o,Y.heap.get? b=some o->h₁.get? b=some o:=fun b o e=>hsb₁.extBut b o (qc1 (qa8 e)) (gP _ e)
 generalize hs4:({Y with heap:=h₁,toks:=Y.toks+([]:List (Str×Value)).length}:qa4)=s4
 have I4:Inv (cxC X M scope Y.heap.objs.size Y (upd H2 D (.lst [])) fp) [] (stC src σ) (upd H2 D (.lst [])) s4:=by rw [<- hs4];exact nz S I3 f3 fl3 hns₁ k34 rfl rfl
 have st4:tn 0 s4.heap:=T.keep _ _ _ st3 fun b _ o e=>by rw [<- hs4];exact k34 b o e
 generalize O:cxC X M scope Y.heap.objs.size Y (upd H2 D (.lst [])) fp=U at*
 have hg':PG U tg g:=by rw [<- O];exact hg S.nd _ _ _ _
 have ht':PTs U ifs tt:=by rw [<- O];exact ht _ _ _ _
 have he':PE U elt te:=by rw [<- O];exact he _ _ _ _
 have eP:U.prog=X.prog:=by rw [<- O];rfl
 have eW:U.w=X.w:=by rw [<- O];rfl
 have eK:U.K=X.K:=by rw [<- O];rfl
 have eA:U.A=X.A:=by rw [<- O];rfl
 have ex':U.xe=fun _ _=>False:=by rw [<- O];rfl
 have ec:U.calm=true:=by rw [<- O];exact hc
 have eE:U.env=compEnvC scope (dD scope.names X.env.cells) Y.heap.objs.size X.env:=by rw [<- O];rfl
 have stat:∀ {H':Hp},(∀ b∈fp,H' b=none)->∀ b∈fp,gn U [] H' b:=fun hn b L=>by
  rw [<- O];refine ⟨hn b L,qc1 (fl3 b L),fun z=>?_,.inl L,fun x c h=>(f3 b L).2.2.2.2.1 x c (fq Z h),fun p hp=>absurd hp (by simp [cxC])⟩;rcases qb2.mp (I3.stkSub b z) with q | q
  . exact (f3 b L).2.1 q
  . exact (f3 b L).2.2.1 q
 -- behind the block
 have fin:∀ (H':Hp) (s':qa4),Inv U [] (stC src σ) H' s'->Q (.ref D) H'->ze4 (model X.prog X.w) X.A X.xe none (EP X pins σ Q) (.ref D) Y.heap.objs.size (.ok .next) s':=by
  intro H' s' J' q;rw [<- O] at J';obtain ⟨m,hn,_⟩:=id J'.loc;refine ⟨m,hn,fun h' sb=>⟨.ref D,H',?_,rfl,q⟩⟩;have hC:H' Y.heap.objs.size=none:=J'.free;have un:Un (frs X.stack) fp (upd H2 D (.lst [])) H' Y.heap s'.heap:=J'.base;have kC:∀ b o,b≠Y.heap.objs.size->s'.heap.get? b=some o->h'.get? b=some o:=fun b o L e=>sb.extBut b o L e
  have un':Un (frs X.stack) fp (upd H2 D (.lst [])) H' Y.heap h':=
   ⟨fun b o e n L hx=>kC b o (qc1 (qa8 e)) (un.keep b o e n L hx),
    fun b o e n L hx=>by obtain ⟨sl,e'⟩:=un.slot b o e n L hx;exact ⟨sl,kC b _ (qc1 (qa8 e)) e'⟩,
    un.free,
    fun b o e hx=>by obtain ⟨o',e'⟩:=un.there b o e hx;exact ⟨o',kC b _ (qc1 (qa8 e)) e'⟩,un.tups,un.frzs,un.tbls,un.cts⟩
  have hok':HOk X.prog X.w H' h':=fun b u e=>by
   have nb:b≠Y.heap.objs.size:=fun z=>by rw [z,hC] at e;cases e
   refine (J'.hok b u e).stay (fun c v hc' q=>kC c v ?_ q) (fun _ q=>q) (fun _ _ q=>q) fun _ _ _ q=>q
   rcases hc' with z | z
   . rw [z];exact nb
   . intro w;rw [w,hC] at z;cases z
  exact I3.call' (s':={s' with heap:=h'}) (show s'.os=Y.os from J'.os) un' hok' J'.bare fun b L=>⟨(f3 b L).2.2.2.1,(f3 b L).2.1,(f3 b L).2.2.2.2.1,(f3 b L).2.2.2.2.2⟩
 have loop:∀ s4':qa4,s4'=s4->qs2 (model X.prog X.w) X.A (.compLoop (.ListComp elt [⟨tg,iter,ifs,0⟩] scope pos) 0 (.ref it) (.ref D) U.env) (ze4 (model X.prog X.w) X.A X.xe none (EP X pins σ Q) (.ref D) Y.heap.objs.size) s4':=by
  rintro _ rfl;refine gW (fun n s'=>∃ i H',Inv U [] (stC src σ) H' s'/\tn i s'.heap/\(∀ b∈fp,H' b=none)/\W i n H') ?_ m0 ⟨0,_,I4,st4,fun b L=>(f3 b L).1,w0⟩;rintro n s5 ⟨i,H5,I5,st5,fr5,w5⟩;rcases turn i n H5 w5 with ⟨stop,qn⟩ | ⟨go,N,hN,step⟩
  . have:=T.done U eP eW eK ec i [] s5 (stC src σ) H5 (fun _ _=>False) I5 (stat fr5) st5 stop;rw [eA] at this;refine thn this fun r s6 ⟨hr,I6⟩=>?_
    subst hr;exact fin H5 s6 I6 qn
  . have:=T.item U eP eW eK ec i [] s5 (stC src σ) H5 (fun _ _=>False) I5 (stat fr5) st5 go;rw [eA] at this;refine thn this fun r s6 ⟨u,hr,h6⟩=>?_
    subst hr;refine thn h6 fun _ s7 ⟨x,H7,I7,r7,y7,st7,fr7⟩=>?_
    have I7':=I7.pinned (stat fr7) (T.obj _ _ st7);have a1:=hg' _ s7 (stC src σ) H7 x u _ I7' r7 (step x H7 y7);rw [ex',eP,eW,eA] at a1;refine thn a1 fun _ s8 ⟨σ8,H8,I8,wk8,q8⟩=>?_
    have a2:=ht' _ s8 σ8 H8 _ I8 q8;rw [ex',eP,eW,eA] at a2;refine thn a2 fun ok s9 ⟨H9,I9,q9⟩=>?_
    have again:∀ {H7':Hp} {s':qa4},Inv U ([]++iL fp s7.heap) σ8 H7' s'->N H7'->∃ m,m<n/\∃ i H',Inv U [] (stC src σ) H' s'/\tn i s'.heap/\(∀ b∈fp,H' b=none)/\W i m H':=fun {H7' s'} J7 n7=>by obtain ⟨m',hm,w7⟩:=hN H7' n7;refine ⟨m',hm,i+1,H7',J7.unpinned.weak wk8.1 wk8.2,T.keep _ _ _ st7 fun b L o e=>(J7.pin (b,o) (qc8 _ (qc8 _ (cH L e)))).1,fun b L=>?_,w7⟩;obtain ⟨o,e,d⟩:=T.obj _ _ st7 b L;exact (J7.pin (b,o) (qc8 _ (qc8 _ (cH L e)))).2.1
    cases ok with
    | false=>exact again I9 q9
    | true =>
     have a3:=he' _ s9 σ8 H9 _ I9 q9;rw [ex',eP,eW,eA] at a3;refine thn a3 fun v s10 ⟨y,H10,I10,r10,ys,hl,hz,q10⟩=>?_
     have a4:=fP (X:=U) _ s10 σ8 H10 (.ref D) [y] (.ref D) [v] (fun _ H'=>N H') I10 rfl (.cons r10 .nil) ⟨D,ys,y,rfl,rfl,hl,hz,q10⟩;rw [ex',eP,eW,eA] at a4;refine thn a4 fun _ s11 ⟨_,H11,I11,_,q11⟩=>?_
     exact again I11 q11
 have e4:∀ c:Env,c=U.env->qs2 (model X.prog X.w) X.A (.compStart (.ListComp elt [⟨tg,iter,ifs,0⟩] scope pos) 0 (.ref it) (.ref D) c) (ze4 (model X.prog X.w) X.A X.xe none (EP X pins σ Q) (.ref D) Y.heap.objs.size) s4:=by rintro _ rfl;exact zc4 (loop _ rfl) (T.self _ _ _ _ _ st4 (loop _ rfl))
 exact e4 _ (by rw [eE];rfl)
end
def Its (x:Str):It:=⟨fun i _=>i<x.cps.size,fun i H v H'=>H'=H/\∃ c,x.cps[i]?=some c/\v=.str ⟨#[c]⟩,fun i _=>i=x.cps.size⟩
variable {P:qc5} {tg:Expr}
theorem sC (x:Str) (t:Tok) (it:Addr):Turn P w K tg (Its x) [it] it (fun i h=>h.IsStrIter it "str_ascii_iterator" x t i) where
 mem:=by simp
 obj:=fun i h st b L=>by
  have e:b=it:=by simpa using L
  subst e;obtain ⟨o,e,c,d⟩:=st;exact ⟨o,e,fun v z=>by rw [d] at z;cases z⟩
 keep:=fun i h h' st k=>let ⟨o,ho,r⟩:=st;⟨o,k it (by simp) o ho,r⟩
 item:=by
  intro X Y hw W hc i pins s σ H E I U st q;subst Y hw W;obtain ⟨f0,f1,f2,Z,f4,f5⟩:=U it (by simp);have q:i<x.cps.size:=q;refine wpAny_pyNext_ascii_item st (c:=x.cps[i]) (by simp [q]) fun h' O sb=>?_
  have I1:Inv X pins σ H {s with heap:=h',toks:=s.toks+1}:=I.turned (t':=s.toks+1) (fun b o L e=>(sb.2 b L).trans e) f0 f1 Z f4 f5;obtain ⟨o,e,c,d⟩:=id O;exact ⟨_,rfl,kZ (s:={s with heap:=h',toks:=s.toks+1}) e c d (by decide) ⟨.str ⟨#[x.cps[i]]⟩,H,I1,⟨_,rfl⟩,⟨rfl,x.cps[i],by simp [q],rfl⟩,O,fun b L=>(U b L).1⟩⟩
 done:=by intro X Y hw W hc i pins s σ H E I U st q;subst Y hw W;have q:i=x.cps.size:=q;obtain ⟨f0,f1,f2,Z,f4,f5⟩:=U it (by simp);exact wpAny_pyNext_ascii_end (I.ok.hd hc) st (by simp [q]) fun h' eb=>⟨rfl,I.turned (t':=s.toks) (fun b o L e=>eb b o L e) f0 f1 Z f4 f5⟩
 self:=fun _ _ _ _ _ st h=>wpAny_pyIter_striter_ascii st h
theorem sD (x:Str) (t:Tok) (it:Addr):Turn P w K tg (Its x) [it] it (fun i h=>h.IsStrIter it "str_iterator" x t i) where
 mem:=by simp
 obj:=fun i h st b L=>by
  have e:b=it:=by simpa using L
  subst e;obtain ⟨o,e,c,d⟩:=st;exact ⟨o,e,fun v z=>by rw [d] at z;cases z⟩
 keep:=fun i h h' st k=>let ⟨o,ho,r⟩:=st;⟨o,k it (by simp) o ho,r⟩
 item:=by
  intro X Y hw W hc i pins s σ H E I U st q;subst Y hw W;obtain ⟨f0,f1,f2,Z,f4,f5⟩:=U it (by simp);have q:i<x.cps.size:=q;refine wpAny_pyNext_wide_item st (c:=x.cps[i]) (by simp [q]) fun h' O sb=>?_
  have I1:Inv X pins σ H {s with heap:=h',toks:=s.toks+1}:=I.turned (t':=s.toks+1) (fun b o L e=>(sb.2 b L).trans e) f0 f1 Z f4 f5;obtain ⟨o,e,c,d⟩:=id O;exact ⟨_,rfl,kZ (s:={s with heap:=h',toks:=s.toks+1}) e c d (by decide) ⟨.str ⟨#[x.cps[i]]⟩,H,I1,⟨_,rfl⟩,⟨rfl,x.cps[i],by simp [q],rfl⟩,O,fun b L=>(U b L).1⟩⟩
 done:=by intro X Y hw W hc i pins s σ H E I U st q;subst Y hw W;have q:i=x.cps.size:=q;obtain ⟨f0,f1,f2,Z,f4,f5⟩:=U it (by simp);exact wpAny_pyNext_wide_end (I.ok.hd hc) st (by simp [q]) fun h' eb=>⟨rfl,I.turned (t':=s.toks) (fun b o L e=>eb b o L e) f0 f1 Z f4 f5⟩
 self:=fun _ _ _ _ _ st h=>wpAny_pyIter_striter_wide st h
section
variable {X:Cx} {tg:Expr}
def iStr (tl:TE):TI:=fun σ H R=>tl σ H fun v H1=>∃ x,v=.str x/\R (Its x) H1
theorem uy {l:Expr} {tl:TE} (U:PE X l tl):PI X tg l (iStr tl):=by
 intro pins s σ H R I h;refine thn (U pins s σ H _ I h) fun v s1 ⟨y,H1,L,W,q1⟩=>?_
 obtain ⟨x,e,q⟩:=q1;subst e;obtain ⟨t,rfl⟩:=W
 have fin:∀ b∈[s1.heap.objs.size],gn X pins H1 b:=fun b Y=>by
  have e:b=s1.heap.objs.size:=by simpa using Y
  subst e;exact L.fpOk (nL _) (L.hok.fresh (nL _))
 cases O:x.cps.all (· < 128)
 . refine wpAny_pyIter_wide O ?_;exact ⟨s1.heap.objs.size,[s1.heap.objs.size],_,_,H1,rfl,L.kept (t':=s1.toks) fun b o e=>gP _ e,sD x t _,⟨_,qa7 _ rfl,rfl,rfl⟩,fin,q⟩
 . refine wpAny_pyIter_ascii O ?_;exact ⟨s1.heap.objs.size,[s1.heap.objs.size],_,_,H1,rfl,L.kept (t':=s1.toks) fun b o e=>gP _ e,sC x t _,⟨_,qa7 _ rfl,rfl,rfl⟩,fin,q⟩
theorem jS:∀ {bs:List Bool} {us:List Value},Vals (bs.map V.bl) us->us=bs.map qu7
 | [],_,.nil=>rfl
 | b::r,_,.cons h t=>by have h:_=qu7 b:=h;rw [h,jS t];rfl
theorem sE {bs:List Bool}:(qc2 bs.length).map (fun i=>bs.getD i false)=bs:=by
 apply qt8
 . simp
 . intro i h1 h2;simp at h1;simp [h1]
theorem nB (W:X.calm=true):c8 X (.builtin "any") (fun xs H Q=>∃ (a:Addr) (bs:List Bool),xs=[.ref a]/\SqL X.K H a (bs.map V.bl)/\Q (.bl (bs.any id)) H):=by
 intro pins s σ H xs us Q I r h;obtain ⟨a,bs,rfl,hq,q⟩:=h;obtain ⟨u,rfl,ru⟩:=jO r;cases ru;obtain ⟨its,rv,p,hz⟩:=I.list hq;have Z:=jS rv;subst Z
 have U:a≠s.heap.objs.size:=by obtain ⟨o,n,e,_⟩:=p;exact qc1 (qa8 e)
 refine call_any_walk (qy2 p.isList ⟨s.heap.objs.size,_,_,_,_,_,fun i=>bs.getD i false,rfl,Walks.list (A:=X.A.in1) (I.ok.hd W) _ a U (bs.map qu7).toArray,⟨⟨_,qa7 _ rfl,rfl,rfl⟩,?_⟩,?_,?_⟩)
 . obtain ⟨o,Y,hr⟩:=p.isList;exact ⟨o,gP _ Y,hr⟩
 . intro i v s' Q' E' L O;rw [List.getElem?_toArray,qb1] at L;cases e:bs[i]? with
   | none=>rw [e] at L;cases L
   | some b =>rw [e] at L;cases L;refine qs1 ?_;dsimp only at O;rw [qc7,e] at O;exact O
 . intro h' tk hk;refine ⟨.bl _,H,I.kept (h':=h') (t':=tk) fun b o e=>hk b o (fun z=>?_) (gP _ e),rfl,?_⟩
   . have z:b=s.heap.objs.size:=by simpa using z
     subst z;exact absurd (qa8 e) (qm7 _)
   . have e:(qc2 (bs.map qu7).toArray.size).any (fun i=>bs.getD i false)=bs.any id:=by
      conv=>rhs;rw [<- sE (bs:=bs)]
      rw [List.any_map];simp
     rw [e];exact q
theorem qG {v:Value} {o:Option Int} (h:zh3 v o):∃ p:Option (Int×Tok),v=partValue p/\o=p.map (·.1):=by
 cases o with
 | none=>exact ⟨none,by cases h<;>rfl,rfl⟩
 | some i =>cases h;exact ⟨some (i,_),rfl,rfl⟩
def rSlS:V->Option Int->Option Int->Hp->VK->Prop:=fun x lo hi H Q=>∃ z,x=.str z/\z.length<=qb0/\Q (.str (Txt.slice z lo hi)) H
theorem A0:SlR X rSlS:=by intro pins s σ H x v vl vu lo hi sl Q I W O Y L h;obtain ⟨z,rfl,U,q⟩:=h;obtain ⟨t,rfl⟩:=W;obtain ⟨l,rfl,rfl⟩:=qG Y;obtain ⟨u,rfl,rfl⟩:=qG L;refine ⟨"str",_,F.slot_str_getitem.lookup,typeIs_str _ _ _,?_⟩;exact wpAny_getItem_str_slice (l:=l) (u:=u) (st:=none) O rfl (post_val_or_str ⟨qb8 (Txt.slice_le z _ _) U,fun t' k=>⟨.str _,H,I.tok _,⟨_,rfl⟩,q⟩⟩)
end
theorem uz:qe4 "len"=some (.builtin "len"):=by first | exact PySem.boot_len | exact PyProof.Rows.boot_len | decide +kernel
theorem uA:qe4 "any"=some (.builtin "any"):=by first | exact PySem.boot_any | exact PyProof.Rows.boot_any | decide +kernel
theorem kP:qe4 "isinstance"=some (.builtin "isinstance"):=by first | exact PySem.boot_isinstance | exact PyProof.Rows.boot_isinstance | decide +kernel
theorem A1:qe4 "str"=some (.type "str"):=by first | exact PySem.boot_str | exact PyProof.Rows.boot_str | decide +kernel
theorem fu:qe4 "tuple"=some (.type "tuple"):=by first | exact PySem.boot_tuple | exact PyProof.Rows.boot_tuple | decide +kernel
theorem xy:qe4 "list"=some (.type "list"):=by first | exact PySem.boot_list | exact PyProof.Rows.boot_list | decide +kernel
theorem mq:qe4 "enumerate"=some (.type "enumerate"):=by first | exact PySem.boot_enumerate | exact PyProof.Rows.boot_enumerate | decide +kernel
structure OkF (P:qc5) (w:World) (K:xA9) (mg:Str->Option Value) (base:Heap) (x:Str) (k:Nat) (ps:List Str) (sp:Sp):Prop where
 ex:∃ f fd,mg x=some (.ref f)/\xE9 K (.ref f)=true/\Binds K fd ps []/\FnOk P w K mg base CX0 k f fd ps sp
structure DefF (K:xA9) (mg:Str->Option Value) (x:Str) (st:Stmt) (ps:List Str):Prop where
 ex:∃ f fd,mg x=some (.ref f)/\xE9 K (.ref f)=true/\Binds K fd ps []/\Fun K x x st f fd
section
variable {P:qc5} {w:World} {K:xA9} {mg:Str->Option Value} {base:Heap}
theorem DefF.ok {k:Nat} (F:DefF K mg x st ps) (S:FnScope N ps (ac st)) (len:∀ vs H Q E,sp vs H Q E->vs.length=ps.length)
 (q:∀ (f:Addr) (cdv:Value) (A:qd7) (outer:List Env) (s:qa4) (H:Hp) (vs:List V) (Q:VK) (E:XK),Room k (A.deeper (qv4 x (ac st) s.heap.objs.size f cdv))->sp vs H Q E→
 ∃ t,PSs (iP CX0 P w K mg base N x (ac st) f cdv A outer s H E).nox (az st) t/\t {nx:=fun _ H'=>Q .non H',rt:=Q} (start N vs) H):OkF P w K mg base x (k+1) ps sp:=by
 obtain ⟨f,fd,h1,h2,h3,L⟩:=F.ex;exact ⟨f,fd,h1,h2,h3,L.ok S len (q f)⟩
theorem DefF.mk' {kV ct:Value} {h:Heap} (X:K.In h) (G:h.Ns qc3 mg)
 (a:xB9 K qc3 x=some (some (.ref f)))
 (l:K.lookup f=some ⟨oc,od,.func (xC9 x x (bz st) (az st) (ac st) .none kV doc pm an cdv ct),osl⟩) (c:xG9 K cdv x=true) (k:xE9 K (.ref f)=true)
 (q:∀ (kV doc pm:Value) (an:Option Addr) (cdv ct:Value) (us:List Value),us.length=ps.length->zg0 (xC9 x x (bz st) (az st) (ac st) .none kV doc pm an cdv ct) ⟨us,[]⟩=pure (ps.zip us)):DefF K mg x st ps:=
 ⟨f,_,xI9 X G a,k,(mn l c k).binds q,mn l c k⟩
end
section
variable {X:Cx} {k:Nat} {ps:List Str} {sp:Sp} {x:Str} {p pos:Pos} {e:Expr} {es:List Expr} {t:TA}
theorem uB (F:OkF X.prog X.w X.K X.mg X.base x k ps sp) (U:Room k X.A) (Z:Gl X x) (Y:PA X (e::es) t) (L:(x==("__debug__":Str))=false:=by decide)
  (O:qa6 (e::es) X.env=(false,eval e X.env)::qa6 es X.env:=by rfl) (q:(qj4 pos (qa6 es X.env)).any (·.1)=false:=by rfl):PE X (.Call (.Name x p) (e::es) [] pos) (uj sp [] E0 t):=by
 obtain ⟨f,fd,h1,h2,h3,W⟩:=F.ex;exact xj W U Z h1 h2 h3 .nil Db Y L O q
end
noncomputable def uC (N:List Str) (outer scope:Scope) (M:List Str) (src:List (Option Nat)):Bool:=
 (match scope.kind with | .function=>true | _=>false)&&
 scope.names.all (fun y=>decide (y.2≠.cell))&&
 scope.names.all (fun y=>!decide (y.2=.free)||(decide (outer.names.lookup y.1=some .cell)||decide (outer.names.lookup y.1=some .free)))&&
 scope.names.all (fun y=>!decide (y.2=.local)||decide (scope.names.lookup y.1=some .local))&&
 scope.names.all (fun y=>!decide (y.2=.free)||decide (scope.names.lookup y.1=some .free))&&
 decide (M.length=src.length)&&decide M.Nodup&&
 (M.zip src).all (fun p=>match p.2 with | none=>true | some j=>decide (N[j]?=some p.1)&&decide ((p.1,qe2)∈scope.names))
variable {src:List (Option Nat)}
theorem CmpScope.of {outer:Scope} {M:List Str} (h:uC N outer scope M src=true):CmpScope N outer scope M src:=by
 unfold uC at h;simp only [qa9,qj1,qh7,qh9,decide_eq_true_eq,decide_eq_false_iff_not] at h;obtain ⟨⟨⟨⟨⟨⟨⟨h1,h2⟩,h3⟩,W⟩,Z⟩,U⟩,O⟩,Y⟩:=h;refine ⟨?_,h2,fun y q e=>(h3 y q).resolve_left fun z=>z e,fun y q e=>(W y q).resolve_left fun z=>z e,fun y q e=>(Z y q).resolve_left fun z=>z e,U,O,fun p hp j L=>?_⟩
 . revert h1;cases scope.kind<;>simp
 . have:=Y p hp;cases e:p.2 with
   | none=>rw [e] at L;cases L
   | some j' =>rw [e] at L this;cases L;simpa using this
def Plain (J:It) (xs:List V) (ok:Hp->Prop):Prop:=∀ i H,ok H->(i<xs.length->J.go i H)/\(i=xs.length->J.stop i H)/\∀ x H',i<xs.length->J.yld i H x H'->H'=H/\xs[i]?=some x
theorem plain_list:Plain (Itl K a) xs (fun H=>SqL K H a xs):=fun i H h =>⟨fun hi=>⟨xs,xs[i],h,by simp [hi]⟩,fun e=>⟨xs,h,by lia⟩,fun x H' _ y=>⟨y.1,y.2 xs h⟩⟩
theorem plain_tup:Plain (Itt K a) xs (fun H=>SqT K H a xs):=fun i H h =>⟨fun hi=>⟨xs,xs[i],h,by simp [hi]⟩,fun e=>⟨xs,h,by lia⟩,fun x H' _ y=>⟨y.1,y.2 xs h⟩⟩
def jT (lo:Int) (n:Nat):List V:=(qc2 n).map fun (i:Nat)=>V.int (lo+i)
theorem plain_range {lo:Int} {n:Nat}:Plain (Itr lo n) (jT lo n) (fun _=>True):=fun i H h=>by
 refine ⟨fun hi=>?_,fun e=>?_,fun x H' hi y=>?_⟩
 . show i<n;simpa [jT] using hi
 . show n<=i;simp [jT] at e;lia
 . obtain ⟨e,rfl⟩:=y;refine ⟨e,?_⟩;unfold jT at hi ⊢;rw [qa2,qk3] at hi;rw [qb1,qv5 hi];rfl
def qH (x:Str):List V:=x.cps.toList.map fun c=>V.str ⟨#[c]⟩
theorem plain_str:Plain (Its x) (qH x) (fun _=>True):=fun i H h=>by
 refine ⟨fun hi=>?_,fun e=>?_,fun v H' hi y=>?_⟩
 . show i<x.cps.size;simpa [qH] using hi
 . show i=x.cps.size;simpa [qH] using e
 . obtain ⟨e,c,q,rfl⟩:=y;refine ⟨e,?_⟩;unfold qH;rw [qb1,qs9,q];rfl
noncomputable def zo (src:List (Option Nat)) (g:TG) (tt:TT) (te:TE) (σ:St) (J:It) (H1:Hp) (Q:VK) (D:Addr):Prop:=∃ W:Nat->Nat->Hp->Prop,(∃ m,W 0 m (upd H1 D (.lst [])))/\∀ i m H,W i m H→
 (J.stop i H/\Q (.ref D) H)∨(J.go i H/\∃ N:Hp->Prop,(∀ H',N H'->∃ U,U<m/\W (i+1) U H')/\∀ x H',J.yld i H x H'→
  g x (stC src σ) H' fun q H2=>Wk (stC src σ) q/\tt q H2 fun b L=>if b=true then te q L fun v O=>∃ ys,O D=some (.lst ys)/\ys.length<qb0/\N (upd O D (.lst (ys++[v]))) else N L)
variable {wi:TI} {g:TG} {te:TE}
theorem nC {tt:TT} {Q:VK}:ld src wi g tt te σ H Q=wi σ H fun J H1=>∀ D,H1 D=none->zo src g tt te σ J H1 Q D:=rfl
noncomputable def ForW (g:TG) (tb:TS) (D:Ends) (J:It) (σ:St) (H1:Hp):Prop:=∃ W:Nat->Nat->St->Hp->Prop,(∃ m,W 0 m σ H1)/\∀ i m σ H,W i m σ H→ (J.stop i H/\D.nx σ H)∨(J.go i H/\∃ N:St->Hp->Prop,(∀ σ' H',N σ' H'->∃ L,L<m/\W (i+1) L σ' H')/\∀ x H',J.yld i H x H'->g x σ H' fun q H2=>tb {D with nx:=N,ct:=N,bk:=D.nx} q H2)
theorem mr {tb:TS} {D:Ends}:tFor wi g tb D σ H=wi σ H fun J H1=>ForW g tb D J σ H1:=rfl
variable {v:V}
theorem uD {pos:Pos} (O:Gl X x) (q:∃ u,X.mg x=some u/\RelV v u) (L:(x==("__debug__":Str))=false:=by decide):PE X (.Name x pos) (tC v):=by obtain ⟨u,h1,h2⟩:=q;exact xb O h1 h2 L
abbrev gY (qual:Str) (scope:Scope) (L f:Addr) (cd:Value) (cl:List (Str×Addr)):Env:=PySem.W.envX qual scope L f cd (qh1 (L+1) scope.names []++cl)
noncomputable def nE (CX:CXT) (P:qc5) (w:World) (K:xA9) (mg:Str->Option Value) (base:Heap) (N:List Str) (qual:Str) (scope:Scope) (f:Addr) (q:Value) (cl:List (Str×Addr)) (A:qd7) (outer:List Env) (s:qa4) (H:Hp) (E:XK) (xe:Value->qa4->Prop):Cx where
 prog:=P
 w:=w
 K:=K
 mg:=mg
 base:=base
 A:=A.deeper (gY qual scope s.heap.objs.size f q cl)
 N:=N
 s₀:=s
 H₀:=H
 env:=gY qual scope s.heap.objs.size f q cl
 outer:=outer
 stack:=gY qual scope s.heap.objs.size f q cl::outer
 ex:=[]
 calm:=true
 fn:=fun x=>(scope.names.lookup x != some .free)
 pn:=[]
 xe:=xe
structure ClScope (N ps fr:List Str) (sc:Scope):Prop where
 kind:sc.kind=.function
 co:sc.isCoroutine=false
 gen:sc.isGenerator=false
 nd:N.Nodup
 pre:N.take ps.length=ps
 post:N.drop (N.length-fr.length)=fr
 room:ps.length+fr.length<=N.length
 par:∀ x∈ps,sc.names.lookup x=some .local∨sc.names.lookup x=some .cell
 frk:∀ x∈fr,sc.names.lookup x=some .free
 all:∀ x,sc.names.lookup x=some .free->x∈fr
def dl (N:List Str) (vs fs:List V):St:=vs.map some++(qe6 (N.length-vs.length-fs.length) none++fs.map some)
def eS (c:Addr) (o:Obj):HO:=.frz o (.ext fun h=>h.get? c=some o)
def bY (H:Hp) (cl:List (Str×Addr)):Hp:=fun b=>if b∈cl.map (·.2) then none else H b
def dM (H:Hp) (cl:List (Str×Addr)) (H':Hp):Hp:=fun b=>if b∈cl.map (·.2) then H b else H' b
theorem iT {n:Nat} {sc:Scope} (h:sc.names.lookup x≠some .cell) (Y:∀ y∈sc.names,y.1=x->sc.names.lookup x=some y.2):(qh1 n sc.names []).lookup x=none:=by
 have L:∀ (names:List (Str×qn7)) (n:Nat) (acc:List (Str×Addr)),(∀ y∈names,y.1=x->y.2≠.cell)->acc.lookup x=none->(qh1 n names acc).lookup x=none:=fun names=>by
  induction names with
  | nil=>intro n acc _ h;exact h
  | cons y r U =>
   intro n acc q W;obtain ⟨a,k⟩:=y;unfold qh1;split
   . rename_i hk;refine U _ _ (fun z O=>q z (.tail _ O)) ?_;rw [qg5];cases Z:x==a with
     | false=>exact W
     | true=>exact absurd (by simpa using hk) (q (a,k) (.head _) (beq_iff_eq.mp Z).symm)
   . exact U _ _ (fun z O=>q z (.tail _ O)) W
 exact L sc.names n [] (fun y q e hk=>h (by rw [Y y q e,hk])) rfl
structure ClAt (H:Hp) (f:Addr) (name qual:Str) (params:qj2) (body:List Stmt) (scope:Scope) (cl:List (Str×Addr)) (fr:List Str) (fs:List V) (c':Addr) (doc pm ctv:Value) (fo:Obj) (uf:HO):Prop where
 fn:H f=some (.frz fo uf)
 dat:fo.data=.func (xF9 name qual params body scope cl .none .none doc pm none (.ref c') ctv)
 cod:∃ oc,H c'=some (.frz oc (.code qual))
 cel:∀ x c,(x,c)∈cl->∃ o u,H c=some (eS c o)/\o.data=.cell (some u)
 inj:∀ x y c,cl.lookup x=some c->cl.lookup y=some c->x=y
 len:fs.length=fr.length
 val:∀ (i:Nat) (x:Str) (v:V),fr[i]?=some x->fs[i]?=some v->∃ c o u,cl.lookup x=some c/\H c=some (eS c o)/\o.data=.cell (some u)/\RelV v u
 nms:∀ x c,cl.lookup x=some c->scope.names.lookup x=some .free
variable {b:Addr}
section
variable {P:qc5} {w:World} {H:Hp} {h:Heap} {cl:List (Str×Addr)}
theorem gZ (q:b∈cl.map (·.2)):bY H cl b=none:=if_pos q
theorem aQ (q:b∉cl.map (·.2)):bY H cl b=H b:=if_neg q
theorem lg {o:HO} (h:bY H cl b=some o):b∉cl.map (·.2)/\H b=some o:=by
 by_cases q:b∈cl.map (·.2)
 . rw [gZ q] at h;cases h
 . rw [aQ q] at h;exact ⟨q,h⟩
theorem g5 (L:b∈cl.map (·.2)):∃ x,(x,b)∈cl:=by obtain ⟨⟨x,c⟩,q,rfl⟩:=qc6.mp L;exact ⟨x,q⟩
theorem HOk.hide (ok:HOk P w H h) (O:∀ x c,(x,c)∈cl->∃ o u,H c=some (eS c o)/\o.data=.cell (some u)):HOk P w (bY H cl) h:=fun b u e=>by
 obtain ⟨Y,e⟩:=lg e
 have L:∀ c o,H c=some o->(∀ ob φ,o≠.frz ob (.ext φ))->bY H cl c=some o:=fun c o q W=>by
  rw [aQ fun z=>?_]
  . exact q
  . obtain ⟨x,U⟩:=g5 z;obtain ⟨ob,u,g,_⟩:=O x c U;rw [q] at g;exact W _ _ (qd5 g)
 exact (ok b u e).stay (fun _ _ _ q=>q) (fun c q=>L c _ q fun _ _ z=>nomatch z) (fun c xs q=>L c _ q fun _ _ z=>nomatch z) fun c ob xs q=>L c _ q fun _ _ z=>nomatch z
end
section
variable {CX:CXT} {P:qc5} {w:World} {K:xA9} {mg:Str->Option Value} {base:Heap} {N ps fr:List Str} {name qual:Str} {params:qj2} {body:List Stmt} {scope:Scope} {f c':Addr} {cl:List (Str×Addr)} {A:qd7} {outer:List Env} {s s1:qa4} {H:Hp} {E:XK} {us:List Value} {vs fs:List V} {doc pm ctv:Value} {fo:Obj} {uf:HO} {xe:Value->qa4->Prop}
theorem pw (S:ClScope N ps fr scope) (C:ClAt H f name qual params body scope cl fr fs c' doc pm ctv fo uf) (W:∀ x,∀ y∈scope.names,y.1=x->scope.names.lookup x=some y.2) (hd:A.handled=none) (e0:Env0 P w K mg base A outer s H) (hl:vs.length=ps.length) (r:Vals vs us)
  (x:zd2 s s.heap.objs.size (bindL (gY qual scope s.heap.objs.size f (.ref c') cl).kindOf (ps.zip us) fun _=>none) (qh1 (s.heap.objs.size+1) scope.names []) (bindC (gY qual scope s.heap.objs.size f (.ref c') cl).kindOf (ps.zip us) fun _=>none) s1) :
  Inv (nE CX P w K mg base N qual scope f (.ref c') cl A outer s (bY H cl) E xe) [] (dl N vs fs) (bY H cl) s1:=by
 obtain ⟨h1,tk,rfl,hk⟩:=x.done;have hplen:ps.length<=N.length:=qb8 (Nat.le_add_right _ _) S.room
 have own:∀ y c,(qh1 (s.heap.objs.size+1) scope.names []).lookup y=some c->scope.names.lookup y=some .cell:=fun y c h=>by apply qx4;intro Z;rw [iT Z (W y)] at h;cases h
 have L:∀ y c,cl.lookup y=some c->∃ o u,s.heap.get? c=some o/\o.data=.cell (some u)/\c<s.heap.objs.size:=fun y c h=>by obtain ⟨o,u,g,d⟩:=C.cel y c (PySem.mem_of_lookup h);have q:=(e0.hok c _ g).1;exact ⟨o,u,q,d,qa8 q⟩
 have split:∀ y c,(qh1 (s.heap.objs.size+1) scope.names []++cl).lookup y=some c->((qh1 (s.heap.objs.size+1) scope.names []).lookup y=some c/\s.heap.objs.size<c)∨(cl.lookup y=some c/\c<s.heap.objs.size):=fun y c h=>by
  rw [cI] at h;cases q:(qh1 (s.heap.objs.size+1) scope.names []).lookup y with
  | some d =>rw [q] at h;cases h;exact .inl ⟨rfl,x.above y _ (PySem.mem_of_lookup q)⟩
  | none =>rw [q] at h;have h:cl.lookup y=some c:=h;exact .inr ⟨h,let ⟨_,_,_,_,z⟩:=L y c h;z⟩
 have U:∀ b:Addr,b∉(nE CX P w K mg base N qual scope f (.ref c') cl A outer s (bY H cl) E xe).ex:=fun b z=>absurd (show b∈([]:List Addr) from z) (by simp)
 have Z:∀ b,H b=none->bY H cl b=none:=fun b h=>by
  by_cases hb:b∈cl.map (·.2)
  . exact gZ hb
  . rw [aQ hb];exact h
 have htb:∀ p∈cF K,bY H cl p.1=some (.ctab p.2):=fun p hp=>by
  rw [aQ fun z=>?_]
  . exact e0.tb p hp
  . obtain ⟨x,hx⟩:=g5 z;obtain ⟨o,u,g,_⟩:=C.cel x _ hx;rw [e0.tb p hp] at g;cases g
 refine ⟨⟨e0.mod,S.kind,rfl,rfl,nL _,fun y z c h1 h2=>?_,fun y O=>?_,fun y c hf h=>?_,fun _=>hd,qd7.frames_deeper e0.frames,.inr ⟨rfl,rfl⟩,fun b z=>absurd z (U b),fun b o e=>⟨(e0.bs b o e).1,Z b (e0.bs b o e).2⟩,e0.bsz,fun b _ _=>U b,fun b z=>absurd z (U b),e0.funs,fun b hb=>Z b (e0.frf b hb),htb⟩,rfl,e0.bare,Un.kept hk,⟨_,x.toInCall.ns,fun i y v h1 h2 h3=>?_⟩,fun y c h=>?_,Z _ (e0.hok.fresh (qu9 _)),fun y c h=>?_,fun p hp=>absurd (show p∈([]:List (Addr×Obj)) from hp) (by simp),(e0.hok.hide C.cel).kept hk,?_⟩
 . rcases split y c h1 with ⟨g1,Y⟩ | ⟨g1,Y⟩<;>rcases split z c h2 with ⟨g2,l2⟩ | ⟨g2,l2⟩
   . exact zh2 x.apart (PySem.mem_of_lookup g1) (PySem.mem_of_lookup g2)
   . exact absurd l2 (Nat.lt_asymm Y)
   . exact absurd Y (Nat.lt_asymm l2)
   . exact C.inj y z c g1 g2
 . have O:scope.names.lookup y=some .cell∨scope.names.lookup y=some .free:=O;show ∃ c,(qh1 (s.heap.objs.size+1) scope.names []++cl).lookup y=some c;rw [cI];rcases O with O | O
   . obtain ⟨c,e⟩:=gO (n:=s.heap.objs.size+1) O;exact ⟨c,by rw [e];rfl⟩
   . rw [iT (by rw [O];decide) (W y)];obtain ⟨i,hi⟩:=qp5 (S.all y O);have hlt:i<fs.length:=by rw [C.len];exact (gX hi).1
     obtain ⟨c,_,_,e,_⟩:=C.val i y fs[i] hi (by simp [hlt]);exact ⟨c,e⟩
 . have hf:(scope.names.lookup y != some .free)=true:=hf;rcases split y c h with ⟨_,Y⟩ | ⟨g1,_⟩
   . exact qj0 Y
   . rw [C.nms y c g1] at hf;simp at hf
 . by_cases hi:i<vs.length
   . have ha:vs[i]?=some v:=by
      unfold dl at h2;rw [qb5 (by simpa using hi),qb1] at h2;cases e:vs[i]? with
      | none=>rw [e] at h2;cases h2
      | some a=>rw [e] at h2;cases h2;rfl
     obtain ⟨u,hu,rv⟩:=r.get ha
     have hp:ps[i]?=some y:=by rw [<- S.pre,qy3 (by lia)];exact h1
     have ndP:ps.Nodup:=by rw [<- S.pre];exact S.nd.sublist (qy4 _ _)
     refine ⟨u,rv,?_⟩;rcases S.par y (qf5 hp) with k | k
     . exact .inl ⟨k,iN ndP hp hu k⟩
     . obtain ⟨c,e⟩:=gO (n:=s.heap.objs.size+1) k;refine .inr ⟨.inl k,c,?_,?_⟩
       . show (qh1 (s.heap.objs.size+1) scope.names []++cl).lookup y=some c;rw [cI,e];rfl
       . have q:=x.cell y c e;rw [iO ndP hp hu (by show scope.names.lookup y≠_;rw [k];decide)] at q;exact q
   . unfold dl at h2;rw [qc4 (by simpa using hi)] at h2;rw [qa2] at h2;by_cases hj:i-vs.length<N.length-vs.length-fs.length
     . rw [qb5 (by simpa using hj),qi4] at h2;split at h2<;>cases h2
     . rw [qc4 (by simpa using hj),ql1,qb1] at h2;obtain ⟨v',hv,e⟩:=mS h2;cases e;have hroom:=S.room;have hfl:=C.len
       have hfr:fr[i-vs.length-(N.length-vs.length-fs.length)]?=some y:=by rw [<- S.post,List.getElem?_drop];rw [show N.length-fr.length+(i-vs.length-(N.length-vs.length-fs.length))=i by lia];exact h1
       obtain ⟨c,o,u,e1,e2,e3,e4⟩:=C.val _ y v hfr hv;refine ⟨u,e4,.inr ⟨.inr (C.nms y c e1),c,?_,?_⟩⟩
       . show (qh1 (s.heap.objs.size+1) scope.names []++cl).lookup y=some c;rw [cI,iT (by rw [C.nms y c e1];decide) (W y),e1];rfl
       . exact ⟨o,hk c o (e0.hok c _ e2).1,e3⟩
 . rcases split y c h with ⟨g1,_⟩ | ⟨g1,_⟩
   . exact ⟨_,x.cell y c g1⟩
   . obtain ⟨o,u,q,d,_⟩:=L y c g1;exact ⟨_,o,hk c o q,d⟩
 . rcases split y c h with ⟨_,Y⟩ | ⟨g1,_⟩
   . exact Z _ (e0.hok.fresh (qj0 Y))
   . exact gZ (qc6.mpr ⟨(y,c),PySem.mem_of_lookup g1,rfl⟩)
 . unfold dl;show _=N.length;rw [qb3,qb3,qa2,ql1,qa2];have:=S.room;have:=C.len;lia
theorem uE {k:Nat} {args:Args} {Q:VK} (S:ClScope N ps fr scope) (C:ClAt H f name qual params body scope cl fr fs c' doc pm ctv fo uf) (ndn:∀ x,∀ y∈scope.names,y.1=x->scope.names.lookup x=some y.2) (hr:Room (k+1) A) (e0:Env0 P w K mg base A outer s H)
  (U:za1 s (xF9 name qual params body scope cl .none .none doc pm none (.ref c') ctv) args (ps.zip us)) (hl:vs.length=ps.length) (r:Vals vs us)
  (hbody:Room k (A.deeper (gY qual scope s.heap.objs.size f (.ref c') cl))->∃ t,PSs (nE CX P w K mg base N qual scope f (.ref c') cl A outer s (bY H cl) E fun _ _=>False) body t/\t {nx:=fun _ H'=>(∀ b∈cl.map (·.2),H' b=none)->Q .non (dM H cl H'),rt:=fun v H'=>(∀ b∈cl.map (·.2),H' b=none)->Q v (dM H cl H')} (dl N vs fs) (bY H cl)) :
  qs2 (model P w) A (.call (.ref f) args) (CR CX outer P w H s Q E) s:=by
 have KX:K.In s.heap:=e0.mod.kin.keeps fun b o e=>(e0.bs b o e).1
 have lim:s.heap.NoLimit:=e0.mod.nolimit.keeps fun b o e=>(e0.bs b o e).1
 have hkind:∀ y∈ps.zip us,scope.names.lookup y.1=some .local∨(scope.names.lookup y.1=some .cell/\((qh1 (s.heap.objs.size+1) scope.names []).lookup y.1).isSome=true):=fun ⟨n,v⟩ hy=>by
  rcases S.par n (qv3 hy).1 with q | q
  . exact .inl q
  . exact .inr ⟨q,xR9 _ _ _ (.inl q)⟩
 refine zd3 hr.depth (e0.hok f _ C.fn).1 C.dat S.co S.gen rfl (let ⟨_,z⟩:=C.cod;(e0.hok c' _ z).2) (U _ _ _ _ ?_);refine xu S.kind hkind fun env he s1 x=>?_
 subst he;refine ⟨lim.keeps x.toInCall.keep,codeAny_func ?_⟩;obtain ⟨t,ht,hq⟩:=hbody (hr.deeper _);have I:Inv (nE CX P w K mg base N qual scope f (.ref c') cl A outer s (bY H cl) E fun _ _=>False) [] (dl N vs fs) (bY H cl) s1:=pw S C ndn hr.hd e0 hl r x;refine qk2 (ht [] s1 (dl N vs fs) (bY H cl) _ I hq) (fun fl s' hs=>?_) fun e s' hs=>hs.elim
 have fin:∀ {σ':St} {H':Hp} {v:V} {u:Value},Inv (nE CX P w K mg base N qual scope f (.ref c') cl A outer s (bY H cl) E fun _ _=>False) [] σ' H' s'->RelV v u->((∀ b∈cl.map (·.2),H' b=none)->Q v (dM H cl H'))->CE outer P w H s Q u s':=fun {σ' H' v u} J rv q=>by
  have Z:∀ b,b∈cl.map (·.2)->∃ o u,H b=some (eS b o)/\o.data=.cell (some u):=fun b U=>by obtain ⟨x,hx⟩:=g5 U;exact C.cel x b hx
  have kc:∀ b o,b∈cl.map (·.2)->s.heap.get? b=some o->s'.heap.get? b=some o/\H' b=none:=fun b o U q=>by
   obtain ⟨o',u,g,d⟩:=Z b U;have hfs:b∉frs outer:=fun z=>by have:=e0.frf b z;rw [g] at this;cases this
   exact ⟨J.base.keep b o q (gZ U) hfs (fun z=>absurd (show b∈([]:List Addr) from z) (by simp)),J.base.free b o q (gZ U) (fun z=>absurd (show b∈([]:List Addr) from z) (by simp))⟩
  have sin:∀ {b:Addr},b∈cl.map (·.2)->dM H cl H' b=H b:=fun U=>if_pos U
  have O:∀ {b:Addr},b∉cl.map (·.2)->dM H cl H' b=H' b:=fun U=>if_neg U
  have Y:∀ (b:Addr) (o:HO),H b=some o->(∀ ob φ,o≠.frz ob (.ext φ))->b∉cl.map (·.2):=fun b o q hno z=>by obtain ⟨ob,u,g,_⟩:=Z b z;rw [q] at g;exact hno _ _ (qd5 g)
  have q:=q fun b U=>by obtain ⟨o',u',g,d⟩:=Z b U;exact (kc b o' U (e0.hok b _ g).1).2
  refine ⟨v,dM H cl H',J.os,J.bare,⟨fun b o q n U hx=>?_,fun b o q n U hx=>?_,fun b o q n hx=>?_,fun b o q hx=>?_,fun b xs q=>?_,fun b o u q=>?_,fun b ps q=>?_,fun b qs q=>?_⟩,fun b o q=>?_,rv,q⟩
  . have L:b∉cl.map (·.2):=fun z=>by obtain ⟨_,_,g,_⟩:=Z b z;rw [n] at g;cases g
    exact J.base.keep b o q ((aQ L).trans n) U (fun z=>absurd (show b∈([]:List Addr) from z) (by simp))
  . have L:b∉cl.map (·.2):=fun z=>by obtain ⟨_,_,g,_⟩:=Z b z;rw [n] at g;cases g
    exact J.base.slot b o q ((aQ L).trans n) U (fun z=>absurd (show b∈([]:List Addr) from z) (by simp))
  . have L:b∉cl.map (·.2):=fun z=>by obtain ⟨_,_,g,_⟩:=Z b z;rw [n] at g;cases g
    rw [O L];exact J.base.free b o q ((aQ L).trans n) (fun z=>absurd (show b∈([]:List Addr) from z) (by simp))
  . exact J.base.there b o q (fun z=>absurd (show b∈([]:List Addr) from z) (by simp))
  . have L:=Y b _ q fun _ _ z=>nomatch z
    rw [O L];exact J.base.tups b xs ((aQ L).trans q)
  . by_cases L:b∈cl.map (·.2)
    . rw [sin L];exact q
    . rw [O L];exact J.base.frzs b o u ((aQ L).trans q)
  . have L:=Y b _ q fun _ _ z=>nomatch z
    rw [O L];exact J.base.tbls b ps ((aQ L).trans q)
  . have L:=Y b _ q fun _ _ z=>nomatch z
    rw [O L];exact J.base.cts b qs ((aQ L).trans q)
  . by_cases L:b∈cl.map (·.2)
    . rw [sin L] at q;obtain ⟨ob,u,g,d⟩:=Z b L;rw [q] at g;cases g;have e1:=(e0.hok b _ q).1;have e2:=(kc b ob L e1).1;exact ⟨e2,e2,⟨ob,e2⟩,fun h1 h2 z1 z2=>z2 ob z1⟩
    . rw [O L] at q
      have up:∀ c o,H' c=some o->dM H cl H' c=some o:=fun c o z=>by
       by_cases hcc:c∈cl.map (·.2)
       . obtain ⟨ob,u,g,d⟩:=Z c hcc;have e1:=(e0.hok c _ g).1;rw [(kc c ob hcc e1).2] at z;cases z
       . rw [O hcc];exact z
      exact (J.hok b o q).stay (fun _ _ _ z=>z) (fun c z=>up c _ z) (fun c xs z=>up c _ z) fun c ob xs z=>up c _ z
 cases fl with
 | ret u =>obtain ⟨v,σ',H',J,rv,q⟩:=hs;exact fin J rv q
 | next =>obtain ⟨σ',H',J,q⟩:=hs;exact fin (v:=V.non) (u:=qh6) J rfl q
 | brk =>obtain ⟨_,_,_,q⟩:=hs;exact qg7 q
 | cont =>obtain ⟨_,_,_,q⟩:=hs;exact qg7 q
end
structure TabB (mg:Str->Option Value) (base:Heap) (c P:Addr):Prop where
 code:xN9 base c P
 bm:∃ bm ob,mg "__builtins__"=some (.ref bm)/\bm≠qu8/\base.get? bm=some ob/\ob.cls=.type "module"/\ob.dict=some qu8/\ob.data=.plain
theorem jh:∀ {l:List Value} {m:List Value},zc6 l->zc6 m->zc6 (l++m)
 | [],m,_,h=>h
 | .int _ _::.int _ _::_::r,m,h,h'=>jh (l:=r) h h'
theorem lh {pos:Pos}:∀ {l:List Value} {m:List Value},zc6 l->qp8 pos (l++m)=(qp8 pos l).or (qp8 pos m)
 | [],m,_=>by simp [qp8]
 | .int a t::.int b u::c::r,m,h=>by
  have h:zc6 r:=h;show (if _ then _ else qp8 pos (r++m))=Option.or (if _ then _ else qp8 pos r) _;split
  . rfl
  . exact lh h
structure Made (H H':Hp) (lo:Nat) (f c':Addr) (qual:Str) (fo:Obj):Prop where
 fn:H' f=some (.frz fo (.ext fun h=>h.get? f=some fo))
 cod:∃ oc,H' c'=some (.frz oc (.code qual))
 old:∀ b o,H b=some o->H' b=some o
 new:∀ b o,H' b=some o->H b=some o∨(lo<=b/\H b=none)
 lof:lo<=f
section
variable {X:Cx} {pins:List (Addr×Obj)} {σ:St} {H:Hp} {s:qa4} {c P:Addr} {qs:List ((Nat×Nat)×Str)} {name:Str} {params:qj2} {body:List Stmt} {scope:Scope} {clos:List (Str×Addr)} {pos:Pos}
theorem xz {Q:Value->qa4->Prop} (I:Inv X pins σ H s) (B:TabB X.mg X.base c P) (Y:X.env.code=.ref c) (hP:H P=some (.ctab qs)) (hq:((pos.line,pos.col),qual)∈qs) (hun:∀ q,((pos.line,pos.col),q)∈qs->q=qual) (hcl:ze3 scope X.env=pure clos)
 (q:∀ (f c':Addr) (doc pm ctv:Value) (H':Hp) (s':qa4),Made H H' s.heap.objs.size f c' qual {cls:=.type "function",data:=.func (xF9 name qual params body scope clos .none .none doc pm none (.ref c') ctv)}->Inv X pins σ H' s'->Q (.ref f) s') :
  wpAny (model X.prog X.w) A (makeFunction name qual params (.stmts body) scope X.env [] [] [] pos pos.line) Q E s:=by
 obtain ⟨ps,hp,ht,hent⟩:=I.hok P _ hP
 have inB:∀ {b:Addr} {o:Obj},X.base.get? b=some o->b≠P:=fun {b o} e z=>by have:=(I.bs b o e).2;rw [z,hP] at this;cases this
 have hg:s.heap.Ns qc3 X.mg:=I.mod.glob.keeps I.bk;obtain ⟨bm,ob,b1,b2,b3,b4,b5,b6⟩:=B.bm
 have hgP:qc3≠P:=by obtain ⟨o,es,ep,e,_⟩:=I.mod.glob;exact inB e
 have hbG:bm≠qc3:=fun z=>by obtain ⟨o,es,ep,e,hd,_⟩:=I.mod.glob;rw [z,e] at b3;cases b3;rw [hd] at b6;cases b6
 have hB:s.heap.BuiltinsAt X.mg P:=⟨bm,ob,b1,b2,hbG,inB b3,I.bk _ _ b3,b4,b5,b6⟩;have C:xN9 s.heap c P:=B.code.keeps I.bk;have lt:∀ {b:Addr} {o:HO},H b=some o->b<s.heap.objs.size:=fun h=>I.hok.lt h
 cases hf:qp8 pos ps.toList with
 | some cv =>
  obtain ⟨c',oc,rfl,hc'⟩:=hent pos qual cv hq hf;refine PySem.W.makeFunction_hit hcl I.ok.glob hg Y C hp ht hf hB fun ctv doc h' tk hk O=>?_
  have hfr:H h'.objs.size=none:=I.hok.fresh O
  have I2:=I.laid (a:=h'.objs.size) (o:=.frz {cls:=.type "function",data:=.func (xF9 name qual params body scope clos .none .none doc ((X.mg "__name__").getD .none) none (.ref c') ctv)} (.ext fun h=>h.get? h'.objs.size=some {cls:=.type "function",data:=.func (xF9 name qual params body scope clos .none .none doc ((X.mg "__name__").getD .none) none (.ref c') ctv)})) (t':=tk) (h':=h'.push {cls:=.type "function",data:=.func (xF9 name qual params body scope clos .none .none doc ((X.mg "__name__").getD .none) none (.ref c') ctv)}) (fun b o e=>gP _ (hk b o e)) O
   ⟨qa7 _ rfl,qa7 _ rfl,⟨_,qa7 _ rfl⟩,fun h1 h2 z1 z2=>z2 _ z1⟩
  refine q _ c' doc _ ctv _ _ ⟨aq,?_,fun b o e=>?_,fun b o e=>?_,O⟩ I2
  . refine ⟨oc,?_⟩;rw [ao (qc1 (qb4 (lt hc') O))];exact hc'
  . rw [ao (qc1 (qb4 (lt e) O))];exact e
  . by_cases hb:b=h'.objs.size
    . exact .inr ⟨by rw [hb];exact O,by rw [hb];exact hfr⟩
    . rw [ao hb] at e;exact .inl e
 | none =>
  refine PySem.W.makeFunction_K hcl I.ok.glob hg Y C hp ht hf hgP hB fun c' ctv doc h' tk hx U hlt hrec htb=>?_
  obtain ⟨c2,oc,vs,t,e2,hoc,hrec2⟩:=hrec;cases e2;have hfr:H h'.objs.size=none:=I.hok.fresh (qb8 U (qj0 hlt));have hcr:H c'=none:=I.hok.fresh U;have hne:c'≠h'.objs.size:=qc1 hlt;generalize hfo:({cls:=.type "function",data:=.func (xF9 name qual params body scope clos .none .none doc ((X.mg "__name__").getD .none) none (.ref c') ctv)}:Obj)=fo;have hfo':(PySem.W.fnMade name qual params body scope clos doc ((X.mg "__name__").getD .none) c' ctv)=fo:=hfo;rw [hfo'];have hfree:fo.isFreed=false:=by rw [<- hfo];rfl
  have gf:(h'.push fo).get? h'.objs.size=some fo:=qa7 _ hfree;let H':Hp:=upd (upd H c' (.frz oc (.code qual))) h'.objs.size (.frz fo (.ext fun h=>h.get? h'.objs.size=some fo))
  have L:∀ b o,H b=some o->H' b=some o:=fun b o e=>by show upd (upd H c' (.frz oc (.code qual))) h'.objs.size _ b=some o;rw [ao (fun z=>by rw [z,hfr] at e;cases e),ao (fun z=>by rw [z,hcr] at e;cases e)];exact e
  have hnew:∀ b o,H' b=some o->H b=some o∨(s.heap.objs.size<=b/\H b=none):=fun b o e=>by
   by_cases h1:b=h'.objs.size
   . exact .inr ⟨by rw [h1];exact qb8 U (qj0 hlt),by rw [h1];exact hfr⟩
   . by_cases h2:b=c'
     . exact .inr ⟨by rw [h2];exact U,by rw [h2];exact hcr⟩
     . have e:upd (upd H c' (.frz oc (.code qual))) h'.objs.size _ b=some o:=e;rw [ao h1,ao h2] at e;exact .inl e
  have kp:∀ b o,b≠P->s.heap.get? b=some o->(h'.push fo).get? b=some o:=fun b o hb e=>gP _ (hx b o hb e)
  have Z:H' c'=some (.frz oc (.code qual)):=by show upd (upd H c' (.frz oc (.code qual))) h'.objs.size _ c'=_;rw [ao hne,aq]
  have un:Un X.fs [] H H' s.heap (h'.push fo):=by
   have nP:∀ {b:Addr},H b=none->b≠P:=fun {b} n z=>by rw [z,hP] at n;cases n
   refine ⟨fun b o e n _ _=>kp b o (nP n) e,fun b o e n _ _=>⟨o.slots,by rw [kp b o (nP n) e]⟩,fun b o e n _=>?_,fun b o e _=>?_,fun b xs e=>L b _ e,fun b o u e=>L b _ e,fun b ps e=>⟨#[],by rw [L b _ e];simp⟩,fun b qs e=>L b _ e⟩
   . cases z:H' b with
     | none=>rfl
     | some w =>
      rcases hnew b w z with y | ⟨y,_⟩
      . rw [n] at y;cases y
      . exact absurd (qa8 e) (qi9.mpr y)
   . by_cases hb:b=P
     . rw [hb];exact ⟨_,gP _ htb⟩
     . exact ⟨o,kp b o hb e⟩
  have hok:HOk X.prog X.w H' (h'.push fo):=fun b o e=>by
   by_cases h1:b=h'.objs.size
   . subst h1;have e:upd (upd H c' (.frz oc (.code qual))) h'.objs.size _ h'.objs.size=some o:=e;rw [aq] at e;cases e;exact ⟨gf,gf,⟨_,gf⟩,fun h1 h2 z1 z2=>z2 _ z1⟩
   . by_cases h2:b=c'
     . subst h2;rw [Z] at e;cases e;exact ⟨gP _ hoc,b,oc,vs,t,rfl,gP _ hoc,hrec2⟩
     . have eH:H b=some o:=by have e:upd (upd H c' (.frz oc (.code qual))) h'.objs.size _ b=some o:=e;rw [ao h1,ao h2] at e;exact e
       by_cases h3:b=P
       . subst h3;rw [hP] at eH;cases eH;refine ⟨_,gP _ htb,?_,fun pos' q' v h4 h5=>?_⟩
         . rw [qv6];exact jh ht trivial
         . rw [qv6,lh ht] at h5;cases h6:qp8 pos' ps.toList with
           | some v' =>rw [h6] at h5;cases h5;obtain ⟨c2,o2,e1,e2⟩:=hent pos' q' _ h4 h6;exact ⟨c2,o2,e1,L _ _ e2⟩
           | none =>
            rw [h6] at h5;have h5:qp8 pos' [qf8 pos.line,qf8 pos.col,.ref c']=some v:=h5;simp only [qf8,qp8] at h5;split at h5
            . rename_i hh;cases h5;refine ⟨c',oc,rfl,?_⟩
              have e1:pos'.line=pos.line/\pos'.col=pos.col:=by simp only [qa9,beq_iff_eq] at hh;lia
              rw [e1.1,e1.2] at h4;rw [hun q' h4];exact Z
            . cases h5
       . refine (I.hok b o eH).stay (fun d u hd z=>kp d u ?_ z) (fun d z=>L d _ z) (fun d xs z=>L d _ z) fun d ob xs z=>L d _ z
         rcases hd with rfl | hd
         . exact h3
         . intro z;rw [z,hP] at hd;cases hd
  exact q _ c' doc _ ctv H' _ ⟨by show upd _ _ _ _=_;rw [aq,<- hfo],⟨oc,Z⟩,L,hnew,qb8 U (qj0 hlt)⟩ (I.un (t':=tk) un hok)
end
section
variable {X:Cx} {K:xA9} {tg:Expr}
end
def jU (scope outer:Scope):Scope:={scope with names:=scope.names.map fun (n,k)=>if (k==.free&&outer.kind==.function&&outer.names.lookup n==some .cell) then (n,.cell) else (n,k)}
noncomputable def cV (sc:Scope) (N:List Str) (i:Nat) (x:Str):Bool:=decide (N[i]?=some x)&&(decide (sc.names.lookup x=some .local)||(decide (sc.names.lookup x=some .cell)||decide (sc.names.lookup x=some .free)))&&!(x==("__debug__":Str))&&!(x==("__classdict__":Str))
def g6 (sc:Scope) (x:Str):Bool:=decide (sc.names.lookup x=some .local)||decide (sc.names.lookup x=some .cell)
def aB (sc:Scope) (x:Str):Bool:=decide (sc.names.lookup x=some .globalImplicit)&&!(x==("__debug__":Str))&&!decide (x=("__name__":Str))
section
variable {sc:Scope} {N:List Str} {i:Nat} {x:Str}
theorem gr (h:cV sc N i x=true):N[i]?=some x:=by unfold cV at h;simp only [qa9,decide_eq_true_eq] at h;exact h.1.1.1
theorem A2 (h:cV sc N i x=true):Vis sc x:=by unfold cV at h;simp only [qa9,qh7,decide_eq_true_eq] at h;exact h.1.1.2
theorem A3 (h:cV sc N i x=true):(x==("__debug__":Str))=false:=by unfold cV at h;simp only [qa9,qh9] at h;exact h.1.2
theorem Dc (h:cV sc N i x=true):(x==("__classdict__":Str))=false:=by unfold cV at h;simp only [qa9,qh9] at h;exact h.2
theorem jV (h:g6 sc x=true):Loc sc x:=by unfold g6 at h;simp only [qh7,decide_eq_true_eq] at h;exact h
theorem y94 (h:aB sc x=true):sc.names.lookup x=some .globalImplicit:=by unfold aB at h;simp only [qa9,decide_eq_true_eq] at h;exact h.1.1
theorem jW (h:aB sc x=true):(x==("__debug__":Str))=false:=by unfold aB at h;simp only [qa9,qh9] at h;exact h.1.2
theorem q77 (h:aB sc x=true):x≠("__name__":Str):=by unfold aB at h;simp only [qa9,qh9,decide_eq_false_iff_not] at h;exact h.2
end
def bA (X:Cx) (sc:Scope):Prop:=X.env.scope=sc
variable {i:Nat}
section
variable {X:Cx} {sc:Scope} {N:List Str} {x:Str} {pos p:Pos}
theorem pvD (i:Nat) (h:cV sc N i x=true) (e1:bA X sc:=by rfl) (e2:X.N=N:=by rfl):PE X (.Name x pos) (iK i):=by have e1:X.env.scope=sc:=e1;subst e1 e2;exact Aq (gr h) (A2 h) (A3 h) (Dc h)
theorem glD (h:aB sc x=true) (e1:bA X sc:=by rfl):Gl X x:=by have e1:X.env.scope=sc:=e1;subst e1;exact y94 h
theorem mt {e:Expr} {pos':Pos} (h:cV sc N i x=true) (q:g6 sc x=true) (L:N.Nodup) (O:PE X e te) (e1:bA X sc:=by rfl) (e2:X.N=N:=by rfl) (U:X.fn x=true∨X.env.scope.names.lookup x=some .local:=by exact .inl rfl)
 (W:qk4 e (some (.Name x pos')) pos.line X.env=pure false:=by rfl):PS X (.Assign [.Name x pos'] e pos) (xh te (je i)):=by
 have e1:X.env.scope=sc:=e1;subst e1 e2;exact AC L (gr h) (jV q) O W U
theorem aE (h:cV sc N i x=true) (q:g6 sc x=true) (L:N.Nodup) (e1:bA X sc:=by rfl) (e2:X.N=N:=by rfl) (O:X.fn x=true∨X.env.scope.names.lookup x=some .local:=by exact .inl rfl):PG X (.Name x pos) (je i):=by have e1:X.env.scope=sc:=e1;subst e1 e2;exact qr L (gr h) (jV q) O
def loOk (sc:Scope) (x:Str):Bool:=decide (sc.names.lookup x=some .local)
theorem bP (h:cV sc N i x=true) (q:loOk sc x=true) (L:X.N.Nodup) (e1:bA X sc) (e2:X.N=N:=by rfl):PG X (.Name x pos) (je i):=by have e1:X.env.scope=sc:=e1;subst e1 e2;have q:X.env.scope.names.lookup x=some .local:=of_decide_eq_true q;exact qr L (gr h) (.inl q) (.inr q)
theorem jX (h:aB sc x=true) (q:∃ u,X.mg x=some u/\RelV v u) (e1:bA X sc:=by rfl):PE X (.Name x pos) (tC v):=uD (glD h e1) q (jW h)
theorem uF {u:Value} (h:aB sc x=true) (q:X.mg x=none) (L:qe4 x=some u) (r:RelV v u) (e1:bA X sc:=by rfl):PE X (.Name x pos) (tC v):=xc (glD h e1) q L r (q77 h) (jW h)
variable {e:Expr} {es:List Expr} {t:TA} {id T:String} {r:List V->Hp->VK->Prop} {k:Nat} {ps:List Str} {sp:Sp}
theorem fQ (h:aB sc x=true) (L:c8 X (.builtin id) r) (W:X.mg x=none) (U:qe4 x=some (.builtin id)) (Y:PA X (e::es) t) (e1:bA X sc:=by rfl)
  (O:qa6 (e::es) X.env=(false,eval e X.env)::qa6 es X.env:=by rfl) (q:(qj4 pos (qa6 es X.env)).any (·.1)=false:=by rfl):PE X (.Call (.Name x p) (e::es) [] pos) (tCB r t):=
 uk L (glD h e1) W U Y (q77 h) (jW h) O q
theorem gu (h:aB sc x=true) (L:c8 X (.type T) r) (W:X.mg x=none) (U:qe4 x=some (.type T)) (Y:PA X (e::es) t) (e1:bA X sc:=by rfl)
  (O:qa6 (e::es) X.env=(false,eval e X.env)::qa6 es X.env:=by rfl) (q:(qj4 pos (qa6 es X.env)).any (·.1)=false:=by rfl):PE X (.Call (.Name x p) (e::es) [] pos) (tCB r t):=
 sr L (glD h e1) W U Y (q77 h) (jW h) O q
theorem lj (h:aB sc x=true) (F:OkF X.prog X.w X.K X.mg X.base x k ps sp) (U:Room k X.A) (O:PA X (e::es) t) (e1:bA X sc:=by rfl)
  (L:qa6 (e::es) X.env=(false,eval e X.env)::qa6 es X.env:=by rfl) (q:(qj4 pos (qa6 es X.env)).any (·.1)=false:=by rfl):PE X (.Call (.Name x p) (e::es) [] pos) (uj sp [] E0 t):=
 uB F U (glD h e1) O (jW h) L q
variable {tg a b:Expr} {ta:TA}
theorem px (h:aB sc "range"=true) (q:X.mg "range"=none) (O:PA X [a] ta) (e1:bA X sc:=by rfl) (L:qa6 [a] X.env=[(false,eval a X.env)]:=by rfl):PI X tg (.Call (.Name "range" p) [a] [] pos) (zd ta):=sh (glD h e1) q O L
theorem pz (h:aB sc "range"=true) (L:X.mg "range"=none) (U:PA X [a,b] ta) (e1:bA X sc:=by rfl) (O:qa6 [a,b] X.env=[(false,eval a X.env),(false,eval b X.env)]:=by rfl) (q:qa6 [b] X.env=[(false,eval b X.env)]:=by rfl) :
  PI X tg (.Call (.Name "range" p) [a,b] [] pos) (ze ta):=si (glD h e1) L U O q
end
section
variable {X:Cx} {M:List Str} {scope outer:Scope} {C:Addr} {s:qa4} {H:Hp} {ex:List Addr} {x:Str} {pos p:Pos}
theorem scC (q:bA X outer):bA (cxC X M scope C s H ex) (jU scope outer):=by have q:X.env.scope=outer:=q;subst q;rfl
end
inductive Dt where
 | non | bl (b:Bool) | int (i:Int) | str (x:Str) | tup (l:List Dt) | lst (l:List Dt) | dct (ks:List Key) (l:List Dt) | dcT (ks:List (List Key)) (l:List Dt)
 | ins (c:Str) (ns:List Str) (l:List Dt)
mutual
noncomputable def peq:Dt->Dt->Bool
 | .non,.non=>true
 | .bl a,.bl b=>a==b
 | .bl a,.int j=>(if a then (1:Int) else 0)==j
 | .int i,.bl b=>i==(if b then (1:Int) else 0)
 | .int i,.int j=>i==j
 | .str x,.str y=>x==y
 | .tup l,.tup m=>peqs l m
 | .lst l,.lst m=>peqs l m
 | .dct ks l,.dct js m=>decide (ks=js)&&peqs l m
 | .dcT ks l,.dcT js m=>decide (ks=js)&&peqs l m
 | .ins _ _ _,.ins _ _ _=>true
 | _,_=>false
noncomputable def peqs:List Dt->List Dt->Bool
 | [],[]=>true
 | d::l,e::m=>peq d e&&peqs l m
 | _,_=>false
end
mutual
theorem g7:∀ d:Dt,peq d d=true
 | .non=>by simp [peq]
 | .bl b=>by simp [peq]
 | .int i=>by simp [peq]
 | .str x=>by simp [peq]
 | .tup l=>by simp only [peq];exact peqs_self l
 | .lst l=>by simp only [peq];exact peqs_self l
 | .dct ks l=>by simp only [peq,decide_true,qj6];exact peqs_self l
 | .dcT ks l=>by simp only [peq,decide_true,qj6];exact peqs_self l
 | .ins c ns l=>by simp only [peq]
theorem peqs_self:∀ l:List Dt,peqs l l=true
 | []=>by simp [peqs]
 | d::l=>by simp only [peqs,g7 d,peqs_self l,qu4]
end
mutual
noncomputable def em:Dt->Nat
 | .tup l=>deeps l+1
 | .lst l=>deeps l+1
 | _=>0
noncomputable def deeps:List Dt->Nat
 | []=>0
 | d::l=>max (em d) (deeps l)
end
def uG (K:xA9) (c:Str) (C:Addr):Prop:=xB9 K qc3 c=some (some (.ref C))
mutual
noncomputable def Rep (K:xA9) (H:Hp):Dt->V->Prop
 | .non,v=>v=.non
 | .bl b,v=>v=.bl b
 | .int i,v=>v=.int i
 | .str x,v=>v=.str x
 | .tup l,v=>∃ a vs,v=.ref a/\SqT K H a vs/\Reps K H l vs
 | .lst l,v=>∃ a vs,v=.ref a/\SqL K H a vs/\Reps K H l vs
 | .dct ks l,v=>∃ a kvs,v=.ref a/\Rd H a (.dK kvs)/\kvs.map (·.1)=ks/\Reps K H l (kvs.map (·.2))
 | .dcT ks l,v=>∃ a kvs,v=.ref a/\Rd H a (.dT kvs)/\kvs.map (·.1)=ks/\Reps K H l (kvs.map (·.2))
 | .ins c ns l,v=>∃ a C dx fs,v=.ref a/\uG K c C/\H a=some (.ins C dx fs)/\fs.map (·.1)=ns/\Reps K H l (fs.map (·.2))
noncomputable def Reps (K:xA9) (H:Hp):List Dt->List V->Prop
 | [],vs=>vs=[]
 | d::l,vs=>∃ v ws,vs=v::ws/\Rep K H d v/\Reps K H l ws
end
theorem Same.tup (e:Same H H') (h:SqT K H a xs):SqT K H' a xs:=by
 rcases h with h | h
 . exact .inl (e _ _ h)
 . exact .inr h
theorem Same.rd {u:HO} (e:Same H H') (h:Rd H a u):Rd H' a u:=by
 rcases h with h | ⟨o,h⟩
 . exact .inl (e _ _ h)
 . exact .inr ⟨o,e _ _ h⟩
mutual
theorem Rep.same {K:xA9} {H H':Hp} (e:Same H H'):∀ {d:Dt} {v:V},Rep K H d v->Rep K H' d v
 | .non,v,h=>h
 | .bl _,v,h=>h
 | .int _,v,h=>h
 | .str _,v,h=>h
 | .tup l,v,h=>by unfold Rep at h ⊢;obtain ⟨a,vs,h1,h2,h3⟩:=h;exact ⟨a,vs,h1,e.tup h2,Reps.same e h3⟩
 | .lst l,v,h=>by unfold Rep at h ⊢;obtain ⟨a,vs,h1,h2,h3⟩:=h;exact ⟨a,vs,h1,e.seq h2,Reps.same e h3⟩
 | .dct ks l,v,h=>by unfold Rep at h ⊢;obtain ⟨a,vs,h1,h2,h3,h4⟩:=h;exact ⟨a,vs,h1,e.rd h2,h3,Reps.same e h4⟩
 | .dcT ks l,v,h=>by unfold Rep at h ⊢;obtain ⟨a,vs,h1,h2,h3,h4⟩:=h;exact ⟨a,vs,h1,e.rd h2,h3,Reps.same e h4⟩
 | .ins c ns l,v,h=>by unfold Rep at h ⊢;obtain ⟨a,C,dx,fs,h1,h2,h3,h4,h5⟩:=h;exact ⟨a,C,dx,fs,h1,h2,e _ _ h3,h4,Reps.same e h5⟩
theorem Reps.same {K:xA9} {H H':Hp} (e:Same H H'):∀ {l:List Dt} {vs:List V},Reps K H l vs->Reps K H' l vs
 | [],vs,h=>h
 | d::l,vs,h=>by unfold Reps at h ⊢;obtain ⟨v,ws,h1,h2,h3⟩:=h;exact ⟨v,ws,h1,Rep.same e h2,Reps.same e h3⟩
end
theorem Reps.length:∀ {l:List Dt} {vs:List V},Reps K H l vs->vs.length=l.length
 | [],vs,h=>by unfold Reps at h;rw [h];rfl
 | d::l,vs,h=>by unfold Reps at h;obtain ⟨v,q,rfl,_,h3⟩:=h;simp [Reps.length h3]
theorem Reps.get:∀ {l:List Dt} {vs:List V} {i:Nat} {d:Dt},Reps K H l vs->l[i]?=some d->∃ v,vs[i]?=some v/\Rep K H d v
 | [],vs,i,d,h,e=>by simp at e
 | d0::l,vs,0,d,h,e=>by unfold Reps at h;obtain ⟨v,L,rfl,h2,_⟩:=h;simp at e;subst e;exact ⟨v,rfl,h2⟩
 | d0::l,vs,i+1,d,h,e=>by unfold Reps at h;obtain ⟨v,L,rfl,_,h3⟩:=h;obtain ⟨u,q,e2⟩:=Reps.get (i:=i) h3 (by simpa using e);exact ⟨u,by simpa using q,e2⟩
theorem Reps.append:∀ {l m:List Dt} {vs q:List V},Reps K H l vs->Reps K H m q->Reps K H (l++m) (vs++q)
 | [],m,vs,q,h,h'=>by unfold Reps at h;rw [h];exact h'
 | d::l,m,vs,q,h,h'=>by unfold Reps at h;obtain ⟨v,us,rfl,h2,h3⟩:=h;show Reps K H (d::(l++m)) (v::(us++q));unfold Reps;exact ⟨v,_,rfl,h2,Reps.append h3 h'⟩
theorem Reps.one {d:Dt} (h:Rep K H d v):Reps K H [d] [v]:=by unfold Reps;exact ⟨v,[],rfl,h,by unfold Reps;rfl⟩
theorem Reps.take:∀ {l:List Dt} {vs:List V} (n:Nat),Reps K H l vs->Reps K H (l.take n) (vs.take n)
 | _,_,0,_=>by simp [Reps]
 | [],vs,n+1,h=>by unfold Reps at h;rw [h];simp [Reps]
 | d::l,vs,n+1,h=>by unfold Reps at h;obtain ⟨v,us,rfl,h2,h3⟩:=h;show Reps K H (d::l.take n) (v::us.take n);unfold Reps;exact ⟨v,_,rfl,h2,Reps.take n h3⟩
theorem Reps.drop:∀ {l:List Dt} {vs:List V} (n:Nat),Reps K H l vs->Reps K H (l.drop n) (vs.drop n)
 | _,_,0,h=>h
 | [],vs,n+1,h=>by unfold Reps at h;rw [h];simp [Reps]
 | d::l,vs,n+1,h=>by unfold Reps at h;obtain ⟨v,us,rfl,h2,h3⟩:=h;exact Reps.drop n h3
variable {u:List (Key×V)} {C dx:Addr} {vs:List V}
section
variable {X:Cx} {pins:List (Addr×Obj)} {σ:St} {H:Hp} {s:qa4} {K:xA9}
theorem Inv.notBoth {ys:List V} (I:Inv X pins σ H s) (h:SqL X.K H a xs) (h':SqT X.K H a ys):False:=by obtain ⟨its,r,O,_⟩:=I.list h;obtain ⟨its',W,pt,_⟩:=I.tuple h';obtain ⟨o,n,e,U,_⟩:=O;obtain ⟨o',L,q,_⟩:=pt;rw [e] at L;cases L;rw [U] at q;injection q with z;exact absurd z (by decide)
theorem Df {w:List (Key×V)} (h:Rd H a (.dK u)) (h':Rd H a (.dK w)):u=w:=by rcases h with h | ⟨o,h⟩<;>rcases h' with h' | ⟨o',h'⟩<;>rw [h] at h'<;>cases h'<;>rfl
theorem Dg {u w:List (List Key×V)} (h:Rd H a (.dT u)) (h':Rd H a (.dT w)):u=w:=by rcases h with h | ⟨o,h⟩<;>rcases h' with h' | ⟨o',h'⟩<;>rw [h] at h'<;>cases h'<;>rfl
theorem jz {u:HO} (h:Rd H a u):∃ o,H a=some o:=by
 rcases h with h | ⟨o,h⟩
 . exact ⟨_,h⟩
 . exact ⟨_,h⟩
theorem Inv.kNone (I:Inv X pins σ H s) {o:Obj} (h:X.K.lookup a=some o):H a=none:=(I.bs a o (I.ok.mod.kin a o h)).2
theorem Inv.sqT_dK (I:Inv X pins σ H s) (h:SqT X.K H a xs) (h':Rd H a (.dK u)):False:=by
 rcases h with h | ⟨o,_,_,h,_⟩
 . rcases h' with h' | ⟨o',h'⟩<;>rw [h] at h'<;>cases h'
 . obtain ⟨o',e⟩:=jz h';rw [I.kNone h] at e;cases e
theorem Inv.sqT_dT (I:Inv X pins σ H s) {u:List (List Key×V)} (h:SqT X.K H a xs) (h':Rd H a (.dT u)):False:=by
 rcases h with h | ⟨o,_,_,h,_⟩
 . rcases h' with h' | ⟨o',h'⟩<;>rw [h] at h'<;>cases h'
 . obtain ⟨o',e⟩:=jz h';rw [I.kNone h] at e;cases e
theorem Inv.sqL_dK (I:Inv X pins σ H s) (h:SqL X.K H a xs) (h':Rd H a (.dK u)):False:=by
 rcases h with h | ⟨o,_,_,h,_⟩
 . rcases h with h | ⟨o,h⟩<;>rcases h' with h' | ⟨o',h'⟩<;>rw [h] at h'<;>cases h'
 . obtain ⟨o',e⟩:=jz h';rw [I.kNone h] at e;cases e
theorem Inv.sqL_dT (I:Inv X pins σ H s) {u:List (List Key×V)} (h:SqL X.K H a xs) (h':Rd H a (.dT u)):False:=by
 rcases h with h | ⟨o,_,_,h,_⟩
 . rcases h with h | ⟨o,h⟩<;>rcases h' with h' | ⟨o',h'⟩<;>rw [h] at h'<;>cases h'
 . obtain ⟨o',e⟩:=jz h';rw [I.kNone h] at e;cases e
theorem uH {w:List (List Key×V)} (h:Rd H a (.dK u)) (h':Rd H a (.dT w)):False:=by rcases h with h | ⟨o,h⟩<;>rcases h' with h' | ⟨o',h'⟩<;>rw [h] at h'<;>cases h'
def bQ:Dt->Nat
 | .non=>0
 | .bl _=>1
 | .int _=>2
 | .str _=>3
 | .tup _=>4
 | .lst _=>5
 | .dct _ _=>6
 | .dcT _ _=>7
 | .ins _ _ _=>8
theorem qI (I:Inv X pins σ H s) {fs:List (Str×V)} (h:SqT X.K H a vs) (h':H a=some (.ins C dx fs)):False:=by
 rcases h with h | ⟨o,its,n,h,_⟩
 . rw [h'] at h;cases h
 . rw [I.kNone h] at h';cases h'
theorem qJ (I:Inv X pins σ H s) {fs:List (Str×V)} (h:SqL X.K H a vs) (h':H a=some (.ins C dx fs)):False:=by
 rcases h with (h | ⟨o,h⟩) | ⟨o,its,n,h,_⟩
 . rw [h'] at h;cases h
 . rw [h'] at h;cases h
 . rw [I.kNone h] at h';cases h'
theorem qK {fs:List (Str×V)} (h:Rd H a (.dK u)) (h':H a=some (.ins C dx fs)):False:=by rcases h with h | ⟨o,h⟩<;>rw [h] at h'<;>cases h'
theorem qL {fs:List (Str×V)} {u:List (List Key×V)} (h:Rd H a (.dT u)) (h':H a=some (.ins C dx fs)):False:=by rcases h with h | ⟨o,h⟩<;>rw [h] at h'<;>cases h'
theorem cu (I:Inv X pins σ H s) {d e:Dt} (h:Rep X.K H d v) (h':Rep X.K H e v):bQ d=bQ e:=by
 cases d<;>cases e<;>first
  | rfl
  | (simp only [Rep] at h h';subst h;cases h';done)
  | (simp only [Rep] at h h';obtain ⟨_,_,e,_⟩:=h';rw [h] at e;cases e;done)
  | (simp only [Rep] at h h';obtain ⟨_,_,e,_⟩:=h;rw [h'] at e;cases e;done)
  | (simp only [Rep] at h h';obtain ⟨_,_,rfl,h2,_⟩:=h;obtain ⟨_,_,e,q,_⟩:=h';cases e
     first
      | exact (I.sqT_dK h2 q).elim
      | exact (I.sqT_dK q h2).elim
      | exact (I.sqT_dT h2 q).elim
      | exact (I.sqT_dT q h2).elim
      | exact (I.notBoth h2 q).elim
      | exact (I.notBoth q h2).elim
      | exact (I.sqL_dK h2 q).elim
      | exact (I.sqL_dK q h2).elim
      | exact (I.sqL_dT h2 q).elim
      | exact (I.sqL_dT q h2).elim
      | exact (uH h2 q).elim
      | exact (uH q h2).elim)
  | (simp only [Rep] at h h';obtain ⟨_,_,_,_,e,_⟩:=h';rw [h] at e;cases e;done)
  | (simp only [Rep] at h h';obtain ⟨_,_,_,_,e,_⟩:=h;rw [h'] at e;cases e;done)
  | (simp only [Rep] at h h';obtain ⟨_,_,_,_,rfl,_,h2,_⟩:=h;obtain ⟨_,_,e,q,_⟩:=h';cases e
     first
      | exact (qI I q h2).elim
      | exact (qJ I q h2).elim
      | exact (qK q h2).elim
      | exact (qL q h2).elim)
  | (simp only [Rep] at h h';obtain ⟨_,_,_,_,rfl,_,h2,_⟩:=h';obtain ⟨_,_,e,q,_⟩:=h;cases e
     first
      | exact (qI I q h2).elim
      | exact (qJ I q h2).elim
      | exact (qK q h2).elim
      | exact (qL q h2).elim)
mutual
theorem mw (I:Inv X pins σ H s):∀ (d e:Dt) (v:V),Rep X.K H d v->Rep X.K H e v->peq d e=true:=fun d=>by
 match d with
 | .tup l =>
  intro e v h h';have hk:=cu I h h';cases e<;>first | (simp [bQ] at hk;done) | skip
  simp only [Rep] at h h';obtain ⟨a,vs,rfl,h2,h3⟩:=h;obtain ⟨b,ws,e,h2',h3'⟩:=h';cases e;have:=I.tuple_inj h2 h2';subst this;simp only [peq];exact reps_inj I l _ _ h3 h3'
 | .lst l =>
  intro e v h h';have hk:=cu I h h';cases e<;>first | (simp [bQ] at hk;done) | skip
  simp only [Rep] at h h';obtain ⟨a,vs,rfl,h2,h3⟩:=h;obtain ⟨b,ws,e,h2',h3'⟩:=h';cases e;have:=I.list_inj h2 h2';subst this;simp only [peq];exact reps_inj I l _ _ h3 h3'
 | .dct ks l =>
  intro e v h h';have hk:=cu I h h';cases e<;>first | (simp [bQ] at hk;done) | skip
  simp only [Rep] at h h';obtain ⟨a,vs,rfl,h2,h3,h4⟩:=h;obtain ⟨b,ws,e,h2',h3',h4'⟩:=h';cases e;have:=Df h2 h2';subst this;subst h3 h3';simp only [peq,decide_true,qj6];exact reps_inj I l _ _ h4 h4'
 | .dcT ks l =>
  intro e v h h';have hk:=cu I h h';cases e<;>first | (simp [bQ] at hk;done) | skip
  simp only [Rep] at h h';obtain ⟨a,vs,rfl,h2,h3,h4⟩:=h;obtain ⟨b,ws,e,h2',h3',h4'⟩:=h';cases e;have:=Dg h2 h2';subst this;subst h3 h3';simp only [peq,decide_true,qj6];exact reps_inj I l _ _ h4 h4'
 | .ins c ns l =>
  intro e v h h';have hk:=cu I h h';cases e<;>first | (simp [bQ] at hk;done) | skip
  simp only [peq]
 | .non =>intro e v h h';have hk:=cu I h h';cases e<;>first | (simp [bQ] at hk;done) | simp only [peq]
 | .bl b =>intro e v h h';have hk:=cu I h h';cases e<;>first | (simp [bQ] at hk;done) | (simp only [Rep] at h h';rw [h] at h';cases h';exact g7 _)
 | .int b =>intro e v h h';have hk:=cu I h h';cases e<;>first | (simp [bQ] at hk;done) | (simp only [Rep] at h h';rw [h] at h';cases h';exact g7 _)
 | .str b =>intro e v h h';have hk:=cu I h h';cases e<;>first | (simp [bQ] at hk;done) | (simp only [Rep] at h h';rw [h] at h';cases h';exact g7 _)
theorem reps_inj (I:Inv X pins σ H s):∀ (l m:List Dt) (vs:List V),Reps X.K H l vs->Reps X.K H m vs->peqs l m=true:=fun l=>by
 match l with
 | [] =>
  intro m vs h h';cases m with
  | nil=>simp only [peqs]
  | cons e m=>unfold Reps at h h';obtain ⟨v,ws,e,_⟩:=h';rw [h] at e;cases e
 | d::l =>
  intro m vs h h';cases m with
  | nil=>unfold Reps at h h';obtain ⟨v,ws,e,_⟩:=h;rw [h'] at e;cases e
  | cons e m =>unfold Reps at h h';obtain ⟨v,ws,rfl,h2,h3⟩:=h;obtain ⟨v',ws',e',h2',h3'⟩:=h';cases e';simp only [peqs,mw I d _ _ h2 h2',reps_inj I l _ _ h3 h3',qu4]
end
end
end L2
namespace L2
open PySem PySem.Spec PyProof.Rows
mutual
noncomputable def cJ:Dt->Dt->Bool
 | .tup l,.tup m=>cmpbs l m
 | .lst l,.lst m=>cmpbs l m
 | d,e=>decide (bQ d<4)&&decide (bQ e<4)
noncomputable def cmpbs:List Dt->List Dt->Bool
 | d::l,e::m=>cJ d e&&cmpbs l m
 | _,_=>true
end
theorem dN:∀ {l m:List Dt} {j:Nat} {d e:Dt},cmpbs l m=true->l[j]?=some d->m[j]?=some e->cJ d e=true
 | [],_,j,d,e,_,h,_=>by simp at h
 | _::_,[],j,d,e,_,_,h=>by simp at h
 | d0::l,e0::m,0,d,e,h,h1,h2=>by simp only [cmpbs,qa9] at h;simp at h1 h2;subst h1 h2;exact h.1
 | d0::l,e0::m,j+1,d,e,h,h1,h2=>by simp only [cmpbs,qa9] at h;exact dN (j:=j) h.2 (by simpa using h1) (by simpa using h2)
theorem fw:∀ {l:List Dt} {j:Nat} {d:Dt},l[j]?=some d->em d<=deeps l
 | [],j,d,h=>by simp at h
 | d0::l,0,d,h=>by simp at h;subst h;simp only [deeps];exact Nat.le_max_left ..
 | d0::l,j+1,d,h=>by simp only [deeps];exact qb8 (fw (j:=j) (by simpa using h)) (Nat.le_max_right ..)
def b9 (l m:List Dt) (j:Nat):Bool:=peq (l.getD j .non) (m.getD j .non)
theorem dm:∀ (l m:List Dt),peqs l m=((qc2 (min l.length m.length)).all (b9 l m)&&l.length==m.length)
 | [],[]=>by simp [peqs]
 | [],_::_=>by simp [peqs]
 | _::_,[]=>by simp [peqs]
 | d::l,e::m=>by
  have q:=dm l m;simp only [peqs,q,qc0];rw [show min (l.length+1) (m.length+1)=min l.length m.length+1 by lia,zc5,qj5,List.all_map];have L:b9 (d::l) (e::m) 0=peq d e:=rfl
  have e2:(b9 (d::l) (e::m) ∘ Nat.succ)=b9 l m:=by funext j;rfl
  have O:(l.length+1==m.length+1)=(l.length==m.length):=by rw [qj8];simp
  rw [L,e2,O,Bool.and_assoc]
variable {K:xA9}
section
variable {X:Cx} {pins:List (Addr×Obj)} {σ:St} {H:Hp} {s:qa4}
theorem cr {l:List Dt} {vs:List V} {its:List Value} (h:Reps X.K H l vs) (r:Vals vs its) {j:Nat} (L:j<its.length):∃ d v,l[j]?=some d/\Rep X.K H d v/\RelV v its[j]:=by
 have q:j<l.length:=by rw [<- h.length,r.length];exact L
 obtain ⟨v,W,e2⟩:=h.get (i:=j) (d:=l[j]) (by simp [q]);obtain ⟨u,O,U⟩:=r.get W
 have:its[j]=u:=by have:=gQ L;rw [this] at O;exact qd5 O
 exact ⟨l[j],v,by simp [q],e2,by rw [this];exact U⟩
theorem zq (I:Inv X pins σ H s):∀ (n:Nat) {A:qd7} {d e:Dt} {v w:V} {u u':Value},em d<=n->A.units+n<cLine->cJ d e=true->Rep X.K H d v->Rep X.K H e w->RelV v u->RelV w u'->qg6 A s u u' (peq d e):=by
 intro n;induction n with
 | zero =>
  intro A d e v w u u' hd hu L h h' r r'
  cases d<;>cases e<;>first
   | (simp only [Rep] at h h';subst h h';exact iR r r' rfl rfl)
   | (simp only [em] at hd;lia)
   | (simp [cJ,bQ] at L)
 | succ n ih =>
  intro A d e v w u u' hd hu L h h' r r';cases d with
  | tup l =>
   cases e with
   | tup m =>
    have h0:=h;have h0':=h';simp only [Rep] at h h';obtain ⟨a,vs,rfl,h2,h3⟩:=h;obtain ⟨b,ws,rfl,q,Y⟩:=h';cases r;cases r';by_cases U:a=b
    . subst U;have:=mw I _ _ _ h0 h0';rw [this];exact zd4 _
    obtain ⟨its,rv,pt,_⟩:=I.tuple h2;obtain ⟨its',W,pt',_⟩:=I.tuple q;have n1:its.length=l.length:=by rw [<- h3.length,rv.length]
    have n2:its'.length=m.length:=by rw [<- Y.length,W.length]
    simp only [peq];rw [dm,<- n1,<- n2];simp only [em] at hd;simp only [cJ] at L
    have key:=qy6.tuples (A:=A) (e:=b9 l m) pt pt' (by lia) (fun j h1 h2=>by
     have h1':j<its.length:=by simpa using h1
     have q:j<its'.length:=by simpa using h2
     obtain ⟨d,v,g1,g2,g3⟩:=cr h3 rv h1';obtain ⟨e,w,Z,g2',g3'⟩:=cr Y W q;have:b9 l m j=peq d e:=by unfold b9;rw [qc7,qc7,g1,Z];rfl
     rw [this];have:=ih (A:=A.in1) (qb8 (fw g1) (by lia)) (show A.units+1+n<cLine by lia) (dN L g1 Z) g2 g2' g3 g3';simpa using this)
    have key':qy6 A s (.ref a) (.ref b) ((qc2 (min its.length its'.length)).all (b9 l m)&&its.length==its'.length):=by simpa using key
    exact qx2 U key'
   | _=>exact absurd L (by simp [cJ,bQ])
  | lst l =>
   cases e with
   | lst m =>
    have h0:=h;have h0':=h';simp only [Rep] at h h';obtain ⟨a,vs,rfl,h2,h3⟩:=h;obtain ⟨b,ws,rfl,q,Y⟩:=h';cases r;cases r';by_cases U:a=b
    . subst U;have:=mw I _ _ _ h0 h0';rw [this];exact zd4 _
    obtain ⟨its,rv,pt,_⟩:=I.list h2;obtain ⟨its',W,pt',_⟩:=I.list q;have n1:its.length=l.length:=by rw [<- h3.length,rv.length]
    have n2:its'.length=m.length:=by rw [<- Y.length,W.length]
    simp only [peq];rw [dm,<- n1,<- n2];simp only [em] at hd;simp only [cJ] at L;by_cases O:its.length=its'.length
    . have key:=qy6.lists (A:=A) (e:=b9 l m) pt.isList pt'.isList (by simpa using O) (by lia) (fun j h1 h2=>by
       have h1':j<its.length:=by simpa using h1
       have q:j<its'.length:=by simpa using h2
       obtain ⟨d,v,g1,g2,g3⟩:=cr h3 rv h1';obtain ⟨e,w,Z,g2',g3'⟩:=cr Y W q;have:b9 l m j=peq d e:=by unfold b9;rw [qc7,qc7,g1,Z];rfl
       rw [this];have:=ih (A:=A.in1) (qb8 (fw g1) (by lia)) (show A.units+1+n<cLine by lia) (dN L g1 Z) g2 g2' g3 g3';simpa using this)
      have e1:(its.length==its'.length)=true:=by simpa using O
      rw [e1,qm8,show min its.length its'.length=its.length by lia];exact qx2 U (by simpa using key)
    . have e1:(its.length==its'.length)=false:=by simpa using O
      rw [e1,qs7];exact qx2 U (qy7 pt.isList pt'.isList (by simpa using O) (by lia))
   | _=>exact absurd L (by simp [cJ,bQ])
  | non=>cases e<;>first | (simp only [Rep] at h h';subst h h';exact iR r r' rfl rfl) | (simp [cJ,bQ] at L)
  | bl b=>cases e<;>first | (simp only [Rep] at h h';subst h h';exact iR r r' rfl rfl) | (simp [cJ,bQ] at L)
  | int b=>cases e<;>first | (simp only [Rep] at h h';subst h h';exact iR r r' rfl rfl) | (simp [cJ,bQ] at L)
  | str b=>cases e<;>first | (simp only [Rep] at h h';subst h h';exact iR r r' rfl rfl) | (simp [cJ,bQ] at L)
  | dct ks l=>cases e<;>(simp [cJ,bQ] at L)
  | dcT ks l=>cases e<;>(simp [cJ,bQ] at L)
  | ins c ns l=>cases e<;>(simp [cJ,bQ] at L)
theorem zr (I:Inv X pins σ H s) {A:qd7} {d e:Dt} {v w:V} {u u':Value} (hq:(∃ l m,d=.tup l/\e=.tup m)∨∃ l m,d=.lst l/\e=.lst m) (hu:A.units+em d<cLine) (hc:cJ d e=true) (h:Rep X.K H d v) (h':Rep X.K H e w) (r:RelV v u) (r':RelV w u') :
  qy6 A s u u' (peq d e)/\zd5 A s u u' (!peq d e):=by
 rcases hq with ⟨l,m,rfl,rfl⟩ | ⟨l,m,rfl,rfl⟩
 . simp only [Rep] at h h';obtain ⟨a,vs,rfl,h2,h3⟩:=h;obtain ⟨b,ws,rfl,O,Y⟩:=h';cases r;cases r';obtain ⟨its,rv,pt,_⟩:=I.tuple h2;obtain ⟨its',W,L,_⟩:=I.tuple O;have n1:its.length=l.length:=by rw [<- h3.length,rv.length]
   have n2:its'.length=m.length:=by rw [<- Y.length,W.length]
   simp only [peq];rw [dm,<- n1,<- n2];simp only [em] at hu;simp only [cJ] at hc
   have he:∀ j (h1:j<its.toArray.size) (h2:j<its'.toArray.size),qg6 A.in1 s its.toArray[j] its'.toArray[j] (b9 l m j):=fun j h1 h2=>by
    have h1':j<its.length:=by simpa using h1
    have O:j<its'.length:=by simpa using h2
    obtain ⟨d,v,g1,g2,g3⟩:=cr h3 rv h1';obtain ⟨e,w,U,g2',Z⟩:=cr Y W O;have:b9 l m j=peq d e:=by unfold b9;rw [qc7,qc7,g1,U];rfl
    rw [this];have:=zq I (deeps l) (A:=A.in1) (fw g1) (show A.units+1+deeps l<cLine by lia) (dN hc g1 U) g2 g2' g3 Z;simpa using this
   exact ⟨by simpa using qy6.tuples (A:=A) (e:=b9 l m) pt L (by lia) he,by simpa using zd5.tuples (A:=A) (e:=b9 l m) pt L (by lia) he⟩
 . simp only [Rep] at h h';obtain ⟨a,vs,rfl,h2,h3⟩:=h;obtain ⟨b,ws,rfl,O,Y⟩:=h';cases r;cases r';obtain ⟨its,rv,pt,_⟩:=I.list h2;obtain ⟨its',W,L,_⟩:=I.list O;have n1:its.length=l.length:=by rw [<- h3.length,rv.length]
   have n2:its'.length=m.length:=by rw [<- Y.length,W.length]
   simp only [peq];rw [dm,<- n1,<- n2];simp only [em] at hu;simp only [cJ] at hc;by_cases q:its.length=its'.length
   . have he:∀ j (h1:j<its.toArray.size) (h2:j<its'.toArray.size),qg6 A.in1 s its.toArray[j] its'.toArray[j] (b9 l m j):=fun j h1 h2=>by
      have h1':j<its.length:=by simpa using h1
      have O:j<its'.length:=by simpa using h2
      obtain ⟨d,v,g1,g2,g3⟩:=cr h3 rv h1';obtain ⟨e,w,U,g2',Z⟩:=cr Y W O;have:b9 l m j=peq d e:=by unfold b9;rw [qc7,qc7,g1,U];rfl
      rw [this];have:=zq I (deeps l) (A:=A.in1) (fw g1) (show A.units+1+deeps l<cLine by lia) (dN hc g1 U) g2 g2' g3 Z;simpa using this
     have e1:(its.length==its'.length)=true:=by simpa using q
     rw [e1,qm8,show min its.length its'.length=its.length by lia];exact ⟨by simpa using qy6.lists (A:=A) (e:=b9 l m) pt.isList L.isList (by simpa using q) (by lia) he,by simpa using zd5.lists (A:=A) (e:=b9 l m) pt.isList L.isList (by simpa using q) (by lia) he⟩
   . have e1:(its.length==its'.length)=false:=by simpa using q
     rw [e1,qs7];exact ⟨qy7 pt.isList L.isList (by simpa using q) (by lia),zd5.lists_lengths pt.isList L.isList (by simpa using q) (by lia)⟩
noncomputable def xA (K:xA9) (neg:Bool):R2:=fun x y H Q=>∃ d e,((∃ l m,d=.tup l/\e=.tup m)∨∃ l m,d=.lst l/\e=.lst m)/\Rep K H d x/\Rep K H e y/\cJ d e=true/\em d<=60/\Q (.bl (if neg then !peq d e else peq d e)) H
theorem A4 {k:Nat} (hr:Room k X.A) (L:X.K=K):OpR X (qf7 .Eq) (xA K false):=by subst L;intro pins s σ H x y v u Q I Y ry h;obtain ⟨d,e,U,hd,O,Z,W,q⟩:=h;have hu:=hr.units;exact (zr I U (by lia) Z hd O Y ry).1 _ _ _ _ ⟨.bl (peq d e),H,I,rfl,q⟩
theorem A5 {k:Nat} (hr:Room k X.A) (L:X.K=K):OpR X (qf7 .NotEq) (xA K true):=by subst L;intro pins s σ H x y v u Q I Y ry h;obtain ⟨d,e,U,hd,O,Z,W,q⟩:=h;have hu:=hr.units;exact (zr I U (by lia) Z hd O Y ry).2 _ _ _ _ ⟨.bl (!peq d e),H,I,rfl,q⟩
end
end L2
namespace L2
open PySem PySem.Spec PyProof.Rows
structure Step (F H F' H':Hp):Prop where
 hh:Same H H'
 ff:Same F F'
 fh:Same F' H'
 nw:∀ b o,F' b=some o->F b=some o∨H b=none
section
variable {F H F' H' F1 H1:Hp} {p:Addr} {o:HO}
theorem Step.refl (h:Same F H):Step F H F H:=⟨Same.refl _,Same.refl _,h,fun _ _ e=>.inl e⟩
theorem Step.trans (a:Step F H F1 H1) (b:Step F1 H1 F' H'):Step F H F' H':=⟨a.hh.trans b.hh,a.ff.trans b.ff,b.fh,fun c o e=>(b.nw c o e).elim (a.nw c o) fun z=>.inr (a.hh.free z)⟩
theorem Same.upd (hp:H p=none):Same H (upd H p o):=fun b u e=>by rw [ao (bi e hp)];exact e
theorem Step.new (h:Same F H) (hp:H p=none):Step F H (upd F p o) (upd H p o) where
 hh:=Same.upd hp
 ff:=Same.upd (h.free hp)
 fh:=fun b u e=>by
  by_cases q:b=p
  . subst q;rw [aq] at e ⊢;exact e
  . rw [ao q] at e ⊢;exact h _ _ e
 nw:=fun b u e=>by
  by_cases q:b=p
  . subst q;exact .inr hp
  . rw [ao q] at e;exact .inl e
theorem Step.made (h:Same F H) (hp:H p=none):Step F H F (upd H p o) where
 hh:=Same.upd hp
 ff:=Same.refl _
 fh:=h.trans (Same.upd hp)
 nw:=fun b u e=>.inl e
end
inductive Fl where
 | leaf (d:Dt) | lst (l:List Dt) | dct (l:List (Key×Dt)) | dcT (l:List (List Key×Dt))
def Fl.d:Fl->Dt
 | .leaf d=>d
 | .lst l=>.lst l
 | .dct l=>.dct (l.map (·.1)) (l.map (·.2))
 | .dcT l=>.dcT (l.map (·.1)) (l.map (·.2))
inductive T where
 | leaf (d:Dt) | lst (l:List Dt) | dct (l:List (Key×Dt)) | dcT (l:List (List Key×Dt)) | obj (c:Str) (ns:List Str) (l:List Fl) | pin (a:Addr) (t:T)
def T.d:T->Dt
 | .leaf d=>d
 | .lst l=>.lst l
 | .dct l=>.dct (l.map (·.1)) (l.map (·.2))
 | .dcT l=>.dcT (l.map (·.1)) (l.map (·.2))
 | .obj c ns l=>.ins c ns (l.map Fl.d)
 | .pin _ t=>t.d
noncomputable def OwnF (K:xA9) (F H:Hp):Fl->V->(Addr->Prop)->Prop
 | .leaf d,v,_=>Rep K F d v
 | .lst l,v,S=>∃ a vs,v=.ref a/\S a/\H a=some (.lst vs)/\Reps K F l vs
 | .dct l,v,S=>∃ a kvs,v=.ref a/\S a/\H a=some (.dK kvs)/\kvs.map (·.1)=l.map (·.1)/\Reps K F (l.map (·.2)) (kvs.map (·.2))
 | .dcT l,v,S=>∃ a kvs,v=.ref a/\S a/\H a=some (.dT kvs)/\kvs.map (·.1)=l.map (·.1)/\Reps K F (l.map (·.2)) (kvs.map (·.2))
structure OwnFs (K:xA9) (F H:Hp) (l:List Fl) (vs:List V) (a:Addr) (S:Addr->Prop) (Z:Nat->Addr->Prop):Prop where
 len:l.length=vs.length
 own:∀ i f v,l[i]?=some f->vs[i]?=some v->OwnF K F H f v (Z i)
 sub:∀ i b,Z i b->S b/\b≠a
 dis:∀ i j b,Z i b->Z j b->i=j
noncomputable def Own (K:xA9) (F H:Hp):T->V->(Addr->Prop)->Prop
 | .leaf d,v,_=>Rep K F d v
 | .lst l,v,S=>∃ a vs,v=.ref a/\S a/\H a=some (.lst vs)/\Reps K F l vs
 | .dct l,v,S=>∃ a kvs,v=.ref a/\S a/\H a=some (.dK kvs)/\kvs.map (·.1)=l.map (·.1)/\Reps K F (l.map (·.2)) (kvs.map (·.2))
 | .dcT l,v,S=>∃ a kvs,v=.ref a/\S a/\H a=some (.dT kvs)/\kvs.map (·.1)=l.map (·.1)/\Reps K F (l.map (·.2)) (kvs.map (·.2))
 | .obj c ns l,v,S=>∃ a C dx fs Z,v=.ref a/\S a/\uG K c C/\H a=some (.ins C dx fs)/\fs.map (·.1)=ns/\OwnFs K F H l (fs.map (·.2)) a S Z
 | .pin a t,v,S=>v=.ref a/\(∀ d,t≠.leaf d)/\Own K F H t v S
noncomputable def RepB (K:xA9) (F H:Hp):Dt->V->Prop
 | .lst l,v=>∃ a vs,v=.ref a/\SqL K H a vs/\Reps K F l vs
 | .dct ks l,v=>∃ a kvs,v=.ref a/\Rd H a (.dK kvs)/\kvs.map (·.1)=ks/\Reps K F l (kvs.map (·.2))
 | .dcT ks l,v=>∃ a kvs,v=.ref a/\Rd H a (.dT kvs)/\kvs.map (·.1)=ks/\Reps K F l (kvs.map (·.2))
 | .ins c ns l,v=>Rep K H (.ins c ns l) v
 | .non,v=>v=.non
 | .bl b,v=>v=.bl b
 | .int i,v=>v=.int i
 | .str x,v=>v=.str x
 | .tup l,v=>∃ a vs,v=.ref a/\SqT K F a vs/\Reps K F l vs
variable {K:xA9} {H F' H':Hp} {v:V}
theorem OwnF.step {F:Hp} {t:Fl} {S:Addr->Prop} (ff:Same F F') (L:∀ b o,S b->H b=some o->H' b=some o) (h:OwnF K F H t v S):OwnF K F' H' t v S:=by
 cases t with
 | leaf d=>exact Rep.same ff h
 | lst l =>obtain ⟨a,vs,e,q,h1,h2⟩:=h;exact ⟨a,vs,e,q,L _ _ q h1,h2.same ff⟩
 | dct l =>obtain ⟨a,vs,e,q,h1,h2,h3⟩:=h;exact ⟨a,vs,e,q,L _ _ q h1,h2,h3.same ff⟩
 | dcT l =>obtain ⟨a,vs,e,q,h1,h2,h3⟩:=h;exact ⟨a,vs,e,q,L _ _ q h1,h2,h3.same ff⟩
variable {G:Hp}
theorem OwnF.rep {F:Hp} {t:Fl} {S:Addr->Prop} (ff:Same F G) (L:∀ b o,S b->H b=some o->G b=some o) (h:OwnF K F H t v S):Rep K G t.d v:=by
 cases t with
 | leaf d=>exact Rep.same ff h
 | lst l =>obtain ⟨a,vs,e,q,h1,h2⟩:=h;simp only [Fl.d,Rep];exact ⟨a,vs,e,SqL.of (L _ _ q h1),h2.same ff⟩
 | dct l =>obtain ⟨a,vs,e,q,h1,h2,h3⟩:=h;simp only [Fl.d,Rep];exact ⟨a,vs,e,.inl (L _ _ q h1),h2,h3.same ff⟩
 | dcT l =>obtain ⟨a,vs,e,q,h1,h2,h3⟩:=h;simp only [Fl.d,Rep];exact ⟨a,vs,e,.inl (L _ _ q h1),h2,h3.same ff⟩
theorem nF:∀ {l:List Fl} {vs:List V},l.length=vs.length->(∀ (i:Nat) (f:Fl) (v:V),l[i]?=some f->vs[i]?=some v->Rep K G f.d v)->Reps K G (l.map Fl.d) vs
 | [],[],_,_=>by simp [Reps]
 | [],_::_,h,_=>by cases h
 | _::_,[],h,_=>by cases h
 | f::l,v::vs,h,k=>by simp only [qa5,Reps];exact ⟨v,vs,rfl,k 0 f v rfl rfl,nF (by simpa using h) fun i f v h1 h2=>k (i+1) f v (by simpa using h1) (by simpa using h2)⟩
theorem qM {F:Hp} {c:Str} {ns:List Str} {l:List Fl} {S:Addr->Prop} (ff:Same F G) (q:∀ b o,S b->H b=some o->G b=some o) (h:Own K F H (.obj c ns l) v S):Rep K G (.ins c ns (l.map Fl.d)) v:=by obtain ⟨a,C,dx,fs,Z,e,O,U,h1,h2,h3⟩:=h;simp only [Rep];exact ⟨a,C,dx,fs,e,U,q _ _ O h1,h2,nF h3.len fun i f v L e2=>(h3.own i f v L e2).rep ff fun b o z=>q b o (h3.sub i b z).1⟩
variable {S':Addr->Prop}
section
variable {K:xA9} {F H F' H':Hp} {t:T} {v:V} {d:Dt} {S:Addr->Prop}
theorem Own.step (ff:Same F F') (L:∀ b o,S b->H b=some o->H' b=some o) (h:Own K F H t v S):Own K F' H' t v S:=by
 induction t with
 | leaf d=>exact Rep.same ff h
 | lst l =>obtain ⟨a,vs,e,q,h1,h2⟩:=h;exact ⟨a,vs,e,q,L _ _ q h1,h2.same ff⟩
 | dct l =>obtain ⟨a,vs,e,q,h1,h2,h3⟩:=h;exact ⟨a,vs,e,q,L _ _ q h1,h2,h3.same ff⟩
 | dcT l =>obtain ⟨a,vs,e,q,h1,h2,h3⟩:=h;exact ⟨a,vs,e,q,L _ _ q h1,h2,h3.same ff⟩
 | obj c ns l =>obtain ⟨a,C,dx,fs,Z,e,q,W,h1,h2,h3⟩:=h;exact ⟨a,C,dx,fs,Z,e,q,W,L _ _ q h1,h2,h3.len,fun i f v U e2=>(h3.own i f v U e2).step ff fun b o z=>L b o (h3.sub i b z).1,h3.sub,h3.dis⟩
 | pin a t O=>exact ⟨h.1,h.2.1,O h.2.2⟩
theorem Own.grow (L:∀ b,S b->S' b) (h:Own K F H t v S):Own K F H t v S':=by
 induction t with
 | leaf d=>exact h
 | lst l =>obtain ⟨a,vs,e,q,h1⟩:=h;exact ⟨a,vs,e,L _ q,h1⟩
 | dct l =>obtain ⟨a,vs,e,q,h1⟩:=h;exact ⟨a,vs,e,L _ q,h1⟩
 | dcT l =>obtain ⟨a,vs,e,q,h1⟩:=h;exact ⟨a,vs,e,L _ q,h1⟩
 | obj c ns l =>obtain ⟨a,C,dx,fs,Z,e,q,U,h1,h2,h3⟩:=h;exact ⟨a,C,dx,fs,Z,e,L _ q,U,h1,h2,h3.len,h3.own,fun i b z=>⟨L _ (h3.sub i b z).1,(h3.sub i b z).2⟩,h3.dis⟩
 | pin a t O=>exact ⟨h.1,h.2.1,O h.2.2⟩
theorem RepB.of (q:Same F H) (h:Rep K F d v):RepB K F H d v:=by
 cases d with
 | lst l =>simp only [Rep] at h;obtain ⟨a,vs,e,h1,h2⟩:=h;exact ⟨a,vs,e,q.seq h1,h2⟩
 | dct ks l =>simp only [Rep] at h;obtain ⟨a,vs,e,h1,h2⟩:=h;exact ⟨a,vs,e,q.rd h1,h2⟩
 | dcT ks l =>simp only [Rep] at h;obtain ⟨a,vs,e,h1,h2⟩:=h;exact ⟨a,vs,e,q.rd h1,h2⟩
 | tup l =>simp only [Rep] at h;exact h
 | ins c ns l=>exact Rep.same q h
 | _ =>simp only [Rep] at h;exact h
theorem RepB.rep (q:Same F H) (h:RepB K F H d v):Rep K H d v:=by
 cases d with
 | lst l =>obtain ⟨a,vs,e,h1,h2⟩:=h;simp only [Rep];exact ⟨a,vs,e,h1,h2.same q⟩
 | dct ks l =>obtain ⟨a,vs,e,h1,h2,h3⟩:=h;simp only [Rep];exact ⟨a,vs,e,h1,h2,h3.same q⟩
 | dcT ks l =>obtain ⟨a,vs,e,h1,h2,h3⟩:=h;simp only [Rep];exact ⟨a,vs,e,h1,h2,h3.same q⟩
 | tup l =>obtain ⟨a,vs,e,h1,h2⟩:=h;simp only [Rep];exact ⟨a,vs,e,q.tup h1,h2.same q⟩
 | ins c ns l=>exact h
 | _ =>simp only [Rep];exact h
theorem RepB.step (ff:Same F F') (q:Same H H') (h:RepB K F H d v):RepB K F' H' d v:=by
 cases d with
 | lst l =>obtain ⟨a,vs,e,h1,h2⟩:=h;exact ⟨a,vs,e,q.seq h1,h2.same ff⟩
 | dct ks l =>obtain ⟨a,vs,e,h1,h2,h3⟩:=h;exact ⟨a,vs,e,q.rd h1,h2,h3.same ff⟩
 | dcT ks l =>obtain ⟨a,vs,e,h1,h2,h3⟩:=h;exact ⟨a,vs,e,q.rd h1,h2,h3.same ff⟩
 | tup l =>obtain ⟨a,vs,e,h1,h2⟩:=h;exact ⟨a,vs,e,ff.tup h1,h2.same ff⟩
 | ins c ns l=>exact Rep.same q h
 | _=>exact h
theorem Own.repB (q:Same F H) (h:Own K F H t v S):RepB K F H t.d v:=by
 induction t with
 | leaf d=>exact RepB.of q h
 | lst l =>obtain ⟨a,vs,e,_,h1,h2⟩:=h;exact ⟨a,vs,e,SqL.of h1,h2⟩
 | dct l =>obtain ⟨a,vs,e,_,h1,h2⟩:=h;exact ⟨a,vs,e,.inl h1,h2⟩
 | dcT l =>obtain ⟨a,vs,e,_,h1,h2⟩:=h;exact ⟨a,vs,e,.inl h1,h2⟩
 | obj c ns l=>exact qM q (fun _ _ _ e=>e) h
 | pin a t L=>exact L h.2.2
open Classical in
def sF (F H:Hp) (S:Addr->Prop):Hp:=fun b=>if S b then H b else F b
theorem g8 {b:Addr} (h:S b):sF F H S b=H b:=if_pos h
theorem jY {b:Addr} (h:¬ S b):sF F H S b=F b:=if_neg h
theorem qN (q:∀ b,S b->F b=none):Same F (sF F H S):=fun b o e=>by
 have:¬ S b:=fun z=>by rw [q b z] at e;cases e
 rw [jY this];exact e
theorem xB (q:Same F H):Same (sF F H S) H:=fun b o e=>by
 by_cases h:S b
 . rw [g8 h] at e;exact e
 . rw [jY h] at e;exact q _ _ e
theorem Own.freeze (O:∀ b,S b->F b=none) (h:Own K F H t v S):Rep K (sF F H S) t.d v:=by
 have ff:=qN (H:=H) O;induction t with
 | leaf d=>exact Rep.same ff h
 | lst l =>obtain ⟨a,vs,e,q,h1,h2⟩:=h;simp only [T.d,Rep];exact ⟨a,vs,e,SqL.of (by rw [g8 q];exact h1),h2.same ff⟩
 | dct l =>obtain ⟨a,vs,e,q,h1,h2,h3⟩:=h;simp only [T.d,Rep];exact ⟨a,vs,e,.inl (by rw [g8 q];exact h1),h2,h3.same ff⟩
 | dcT l =>obtain ⟨a,vs,e,q,h1,h2,h3⟩:=h;simp only [T.d,Rep];exact ⟨a,vs,e,.inl (by rw [g8 q];exact h1),h2,h3.same ff⟩
 | obj c ns l=>exact qM ff (fun b o z e=>by rw [g8 z];exact e) h
 | pin a t L=>exact L h.2.2
end
abbrev Ix:=Nat
abbrev De:=List (Option T)
structure Sep (K:xA9) (F H:Hp) (B:Addr->Prop) (L:Ix->Option (T×V)) (S:Ix->Addr->Prop):Prop where
 own:∀ i t v,L i=some (t,v)->Own K F H t v (S i)
 out:∀ i b,S i b->F b=none/\(∃ o,H b=some o)/\B b
 dis:∀ i j b,S i b->S j b->i=j
def ll (δ:De) (σ:St) (i:Nat):Option (T×V):=match δ[i]?,σ[i]? with
 | some (some t),some (some v)=>some (t,v)
 | _,_=>none
structure Fm where
 K:xA9
 F0:Hp
 H0:Hp
 S0:Addr->Prop
def Fm.B (Φ:Fm) (b:Addr):Prop:=Φ.H0 b=none∨Φ.S0 b
structure En (Φ:Fm) (δ:De) (σ:St) (F H:Hp):Prop where
 fh:Same F H
 prot:∀ b o,Φ.H0 b=some o->¬ Φ.S0 b->H b=some o
 old:Same Φ.F0 F
 nw:∀ b o,F b=some o->Φ.F0 b=some o∨Φ.B b
 len:δ.length=σ.length
 has:∀ (i:Nat) (t:T),δ[i]?=some (some t)->∃ v,σ[i]?=some (some v)
 sep:∃ S,Sep Φ.K F H Φ.B (ll δ σ) S
variable {i j:Nat} {p a:Addr}
section
variable {Φ:Fm} {δ:De} {σ:St} {F H F' H':Hp}
theorem cW {t:T} (h1:δ[i]?=some (some t)) (h2:σ[i]?=some (some v)):ll δ σ i=some (t,v):=by unfold ll;rw [h1,h2]
theorem dn {t:T} (h:ll δ σ i=some (t,v)):δ[i]?=some (some t)/\σ[i]?=some (some v):=by
 unfold ll at h;split at h
 . rename_i q e2;cases h;exact ⟨q,e2⟩
 . cases h
theorem En.fresh (e:En Φ δ σ F H) (hp:H p=none):Φ.B p:=by
 by_cases h:Φ.S0 p
 . exact .inr h
 . left;cases q:Φ.H0 p with
   | none=>rfl
   | some o=>rw [e.prot p o q h] at hp;cases hp
theorem Sep.step {B:Addr->Prop} {L:Ix->Option (T×V)} {S:Ix->Addr->Prop} (s:Sep K F H B L S) (st:Step F H F' H'):Sep K F' H' B L S where
 own:=fun i t v h=>(s.own i t v h).step st.ff fun b o _ e=>st.hh b o e
 out:=fun i b h=>by
  obtain ⟨h1,⟨o,h2⟩,h3⟩:=s.out i b h;refine ⟨?_,⟨o,st.hh _ _ h2⟩,h3⟩;cases q:F' b with
  | none=>rfl
  | some o' =>
   rcases st.nw b o' q with z | z
   . rw [h1] at z;cases z
   . rw [h2] at z;cases z
 dis:=s.dis
theorem En.step (e:En Φ δ σ F H) (st:Step F H F' H'):En Φ δ σ F' H' where
 fh:=st.fh
 prot:=fun b o h1 h2=>st.hh _ _ (e.prot b o h1 h2)
 old:=e.old.trans st.ff
 nw:=fun b o h=>by
  rcases st.nw b o h with z | z
  . exact e.nw b o z
  . exact .inr (e.fresh z)
 len:=e.len
 has:=e.has
 sep:=let ⟨S,s⟩:=e.sep;⟨S,s.step st⟩
theorem En.slot (e:En Φ δ σ F H) {t:T} (h:δ[i]?=some (some t)):∃ v,σ[i]?=some (some v)/\RepB Φ.K F H t.d v:=by obtain ⟨v,q⟩:=e.has i t h;obtain ⟨S,s⟩:=e.sep;exact ⟨v,q,(s.own i t v (cW h q)).repB e.fh⟩
theorem En.leaf (e:En Φ δ σ F H) {d:Dt} (h:δ[i]?=some (some (.leaf d))):∃ v,σ[i]?=some (some v)/\Rep Φ.K F d v:=by obtain ⟨v,q⟩:=e.has i _ h;obtain ⟨S,s⟩:=e.sep;exact ⟨v,q,s.own i _ v (cW h q)⟩
theorem et {α:Type} {l:List (Option α)} {x y:Option α} (h:(l.set i x)[j]?=some y):(i=j/\y=x)∨(i≠j/\l[j]?=some y):=by
 by_cases q:i=j
 . subst q;left;rw [qy8] at h;simp only [if_true] at h;split at h
   . cases h;exact ⟨rfl,rfl⟩
   . cases h
 . right;rw [gN q] at h;exact ⟨q,h⟩
theorem En.put (e:En Φ δ σ F H) {t:T} (st:Step F H F' H') (ho:Own Φ.K F' H' t v S') (hs:∀ b,S' b->F' b=none/\H b=none/\∃ o,H' b=some o) (i:Nat):En Φ (δ.set i (some t)) (σ.set i (some v)) F' H':=by
 have U:=e.step st;obtain ⟨S,s⟩:=e.sep;have s':=s.step st;refine ⟨U.fh,U.prot,U.old,U.nw,by simp [e.len],fun j u h=>?_,fun j b=>if j=i then S' b else S j b,?_,?_,?_⟩
 . rcases et h with ⟨rfl,z⟩ | ⟨Y,z⟩
   . have hi:i<σ.length:=by rw [<- e.len];have:=(gX h).1;simpa using this
     exact ⟨v,by simp [hi]⟩
   . obtain ⟨w,hw⟩:=e.has j u z;exact ⟨w,by rw [gN Y];exact hw⟩
 . intro j u w h;obtain ⟨h1,h2⟩:=dn h;rcases et h1 with ⟨rfl,z⟩ | ⟨Y,z⟩
   . rcases et h2 with ⟨_,L⟩ | ⟨Z,_⟩
     . cases z;cases L;show Own _ _ _ _ _ (fun b=>if i=i then S' b else S i b);simp only [if_true];exact ho
     . exact absurd rfl Z
   . rcases et h2 with ⟨L,_⟩ | ⟨_,L⟩
     . exact absurd L Y
     . have:¬ j=i:=fun q=>Y q.symm
       show Own _ _ _ _ _ (fun b=>if j=i then S' b else S j b);simp only [if_neg this];exact s'.own j u w (cW z L)
 . intro j b h;split at h
   . obtain ⟨h1,h2,h3⟩:=hs b h;exact ⟨h1,h3,e.fresh h2⟩
   . exact s'.out _ b h
 . have O:∀ j b,S j b->¬ S' b:=fun j b h z=>by obtain ⟨_,⟨o,h2⟩,_⟩:=s.out j b h;rw [(hs b z).2.1] at h2;cases h2
   intro j k b W hk;split at W<;>split at hk
   . rename_i q1 q2;rw [q1,q2]
   . exact absurd W (O _ b hk)
   . exact absurd hk (O _ b W)
   . exact s.dis _ _ b W hk
theorem sG {t:T} {S:Addr->Prop} (O:∀ d,t≠.leaf d) (h:Own K F H t (.ref a) S):S a:=by
 induction t with
 | leaf d=>exact absurd rfl (O d)
 | lst l=>obtain ⟨b,_,e,q,_⟩:=h;cases e;exact q
 | dct l=>obtain ⟨b,_,e,q,_⟩:=h;cases e;exact q
 | dcT l=>obtain ⟨b,_,e,q,_⟩:=h;cases e;exact q
 | obj c ns l=>obtain ⟨b,_,_,_,_,e,q,_⟩:=h;cases e;exact q
 | pin b t L=>exact L h.2.1 h.2.2
theorem En.poke (e:En Φ δ σ F H) {t t':T} {o:HO} (h:δ[i]?=some (some t)) (L:σ[i]?=some (some (.ref a))) (ht:∀ d,t≠.leaf d) (Y:∀ S:Addr->Prop,S a->Own Φ.K F (upd H a o) t' (.ref a) S) :
  En Φ (δ.set i (some t')) σ F (upd H a o):=by
 obtain ⟨S,s⟩:=e.sep;have U:S i a:=sG ht (s.own i t _ (cW h L));obtain ⟨fa,⟨oa,ha⟩,Z⟩:=s.out _ a U;have hi:i<δ.length:=(gX h).1;refine ⟨fun b u z=>?_,fun b u h1 h2=>?_,e.old,e.nw,by simp [e.len],fun j u z=>?_,S,fun j u w z=>?_,fun j b z=>?_,s.dis⟩
 . have:b≠a:=fun q=>by rw [q,fa] at z;cases z
   rw [ao this];exact e.fh _ _ z
 . have:b≠a:=fun q=>by
    subst q;rcases Z with z | z
    . rw [z] at h1;cases h1
    . exact h2 z
   rw [ao this];exact e.prot b u h1 h2
 . rcases et z with ⟨rfl,_⟩ | ⟨W,z⟩
   . exact ⟨_,L⟩
   . exact e.has j u z
 . obtain ⟨h1,h2⟩:=dn z;rcases et h1 with ⟨rfl,O⟩ | ⟨W,O⟩
   . cases O;rw [L] at h2;cases h2;exact Y _ U
   . refine (s.own j u w (cW O h2)).step (Same.refl _) fun b q hb hq=>?_
     have:b≠a:=fun y=>by subst y;exact W (s.dis _ _ _ hb U).symm
     rw [ao this];exact hq
 . obtain ⟨h1,⟨q,h2⟩,h3⟩:=s.out j b z;refine ⟨h1,?_,h3⟩;by_cases y:b=a
   . subst y;exact ⟨o,aq⟩
   . exact ⟨q,by rw [ao y];exact h2⟩
end
def KO (K:xA9) (F H:Hp) (t:T) (Q:VK):Prop:=∀ v H' F' S,Step F H F' H'->Own K F' H' t v S->(∀ b,S b->F' b=none/\H b=none/\∃ o,H' b=some o)->Q v H'
def KL (K:xA9) (F H:Hp) (d:Dt) (Q:VK):Prop:=∀ v H' F',Step F H F' H'->Rep K F' d v->Q v H'
def KB (K:xA9) (F H:Hp) (d:Dt) (Q:VK):Prop:=∀ v H' F',Step F H F' H'->RepB K F' H' d v->Q v H'
section
variable {K:xA9} {F H F1 H1:Hp} {t:T} {d:Dt} {Q:VK}
theorem KO.step (k:KO K F H t Q) (st:Step F H F1 H1):KO K F1 H1 t Q:=fun v H' F' S s o q=>k v H' F' S (st.trans s) o fun b z=>⟨(q b z).1,st.hh.free (q b z).2.1,(q b z).2.2⟩
theorem KO.leaf (k:KO K F H (.leaf d) Q):KL K F H d Q:=fun v H' F' st r=>k v H' F' (fun _=>False) st r fun _ z=>z.elim
theorem KL.here (k:KL K F H d Q) (q:Same F H) (r:Rep K F d v):Q v H:=k v H F (Step.refl q) r
theorem KB.to (k:KB K F H d Q):KL K F H d Q:=fun v H' F' st r=>k v H' F' st (RepB.of st.fh r)
theorem KL.to (k:KL K F H t.d Q):KO K F H t Q:=fun v H' F' S st o q=>by
 refine k v H' (sF F' H' S) ⟨st.hh,st.ff.trans (qN fun b z=>(q b z).1),xB st.fh,fun b u z=>?_⟩ (o.freeze fun b z=>(q b z).1);by_cases L:S b
 . exact .inr (q b L).2.1
 . rw [jY L] at z;exact st.nw b u z
theorem KB.toO (k:KB K F H t.d Q):KO K F H t Q:=fun v H' F' S st o q=>k v H' F' st (o.repB st.fh)
end
def tO (K:xA9) (f:De->Option T):TE:=fun σ H Q=>∃ Φ δ F t,Fm.K Φ=K/\En Φ δ σ F H/\f δ=some t/\KO K F H t Q
def tL (K:xA9) (f:De->Option Dt):TE:=fun σ H Q=>∃ Φ δ F d,Fm.K Φ=K/\En Φ δ σ F H/\f δ=some d/\KL K F H d Q
def tBd (K:xA9) (f:De->Option Dt):TE:=fun σ H Q=>∃ Φ δ F d,Fm.K Φ=K/\En Φ δ σ F H/\f δ=some d/\KB K F H d Q
def tTr (K:xA9) (f:De->Option Bool):TT:=fun σ H Q=>∃ Φ δ F b,Fm.K Φ=K/\En Φ δ σ F H/\f δ=some b/\∀ H' F',Step F H F' H'->Q b H'
def DO (X:Cx) (e:Expr) (f:De->Option T):Prop:=PE X e (tO X.K f)
def DL (X:Cx) (e:Expr) (f:De->Option Dt):Prop:=PE X e (tL X.K f)
def DB (X:Cx) (e:Expr) (f:De->Option Dt):Prop:=PE X e (tBd X.K f)
def DT (X:Cx) (e:Expr) (f:De->Option Bool):Prop:=PT X e (tTr X.K f)
def DW (X:Cx) (e:Expr) (f:De->Option Bool):Prop:=PW X e (tTr X.K f)
variable {X:Cx} {e:Expr}
theorem PE.mono {t t':TE} (h:PE X e t) (m:∀ σ H Q,t' σ H Q->t σ H Q):PE X e t':=fun pins s σ H Q I q=>h pins s σ H Q I (m _ _ _ q)
variable {t':TT}
theorem PT.mono {t:TT} (h:PT X e t) (m:∀ σ H Q,t' σ H Q->t σ H Q):PT X e t':=fun pins s σ H Q I q=>h pins s σ H Q I (m _ _ _ q)
theorem PW.mono {t:TT} (h:PW X e t) (m:∀ σ H Q,t' σ H Q->t σ H Q):PW X e t':=fun L pins s σ H Q I q=>h L pins s σ H Q I (m _ _ _ q)
theorem PA.mono {e:List Expr} {t t':TA} (h:PA X e t) (m:∀ σ H Q,t' σ H Q->t σ H Q):PA X e t':=fun pos pins s σ H Q I q=>h pos pins s σ H Q I (m _ _ _ q)
variable {tg:Expr}
theorem PI.mono {t t':TI} (h:PI X tg e t) (m:∀ σ H Q,t' σ H Q->t σ H Q):PI X tg e t':=fun pins s σ H Q I q=>h pins s σ H Q I (m _ _ _ q)
theorem PG.mono {t t':TG} (h:PG X e t) (m:∀ v σ H Q,t' v σ H Q->t v σ H Q):PG X e t':=fun pins s σ H v u Q I r q=>h pins s σ H v u Q I r (m _ _ _ _ q)
theorem PS.mono {e:Stmt} {t t':TS} (h:PS X e t) (m:∀ D σ H,t' D σ H->t D σ H):PS X e t':=fun pins s σ H Q I q=>h pins s σ H Q I (m _ _ _ q)
theorem PSs.mono {e:List Stmt} {t t':TS} (h:PSs X e t) (m:∀ D σ H,t' D σ H->t D σ H):PSs X e t':=fun pins s σ H Q I q=>h pins s σ H Q I (m _ _ _ q)
theorem PE.or {t t':TE} (h:PE X e t) (h':PE X e t'):PE X e (fun σ H Q=>t σ H Q∨t' σ H Q):=fun pins s σ H Q I q=>q.elim (h pins s σ H Q I) (h' pins s σ H Q I)
theorem PI.or {t t':TI} (h:PI X tg e t) (h':PI X tg e t'):PI X tg e (fun σ H Q=>t σ H Q∨t' σ H Q):=fun pins s σ H Q I q=>q.elim (h pins s σ H Q I) (h' pins s σ H Q I)
variable {x:Str} {r:R2} {σ:St} {Q:VK} {l ds:List Dt} {vs:List V} {n:Nat} {ps:List Str}
section
variable {X:Cx} {e a b c:Expr} {f:De->Option T} {g fa fb fc:De->Option Dt} {pos:Pos}
def toD (f:De->Option T):De->Option Dt:=fun δ=>(f δ).map T.d
def toT (f:De->Option Dt):De->Option T:=fun δ=>(f δ).map T.leaf
theorem DO.toL (h:DO X e f):DL X e (toD f):=PE.mono h fun σ H Q ⟨Φ,δ,F,d,O,en,q,k⟩=>by
 unfold toD at q;cases L:f δ with
 | none=>rw [L] at q;cases q
 | some t =>rw [L] at q;cases q;exact ⟨Φ,δ,F,t,O,en,L,k.to⟩
theorem DO.toB (h:DO X e f):DB X e (toD f):=PE.mono h fun σ H Q ⟨Φ,δ,F,d,O,en,q,k⟩=>by
 unfold toD at q;cases L:f δ with
 | none=>rw [L] at q;cases q
 | some t =>rw [L] at q;cases q;exact ⟨Φ,δ,F,t,O,en,L,k.toO⟩
theorem DL.toB (h:DL X e g):DB X e g:=PE.mono h fun σ H Q ⟨Φ,δ,F,d,q,en,L,k⟩=>⟨Φ,δ,F,d,q,en,L,k.to⟩
theorem DL.toO (h:DL X e g):DO X e (toT g):=PE.mono h fun σ H Q ⟨Φ,δ,F,t,O,en,q,k⟩=>by
 unfold toT at q;cases L:g δ with
 | none=>rw [L] at q;cases q
 | some d =>rw [L] at q;cases q;exact ⟨Φ,δ,F,d,O,en,L,k.leaf⟩
def vL (i:Nat):De->Option Dt:=fun δ=>match δ[i]? with
 | some (some (.leaf d))=>some d
 | _=>none
def vB (i:Nat):De->Option Dt:=fun δ=>match δ[i]? with
 | some (some t)=>some t.d
 | _=>none
theorem A6 (h:PE X e (iK i)):DL X e (vL i):=PE.mono h fun σ H Q ⟨Φ,δ,F,d,O,en,L,k⟩=>by
 unfold vL at L;split at L
 . rename_i q;cases L;obtain ⟨v,h1,h2⟩:=en.leaf q;exact ⟨v,h1,k.here en.fh (O▸h2)⟩
 . cases L
theorem A7 (h:PE X e (iK i)):DB X e (vB i):=PE.mono h fun σ H Q ⟨Φ,δ,F,d,O,en,L,k⟩=>by
 unfold vB at L;split at L
 . rename_i q;cases L;obtain ⟨v,h1,h2⟩:=en.slot q;exact ⟨v,h1,k v H F (Step.refl en.fh) (O▸h2)⟩
 . cases L
def kD (d:Dt):De->Option Dt:=fun _=>some d
theorem uI {d:Dt} (h:PE X e (tC v)) (r:∀ F,Rep X.K F d v):DL X e (kD d):=PE.mono h fun σ H Q ⟨Φ,δ,F,d',L,en,q,k⟩=>by cases q;exact k.here en.fh (r F)
theorem fA {i:Int} {j}:DL X (.Constant (.int i) j pos) (kD (.int i)):=uI Ar fun F=>by simp only [Rep]
theorem lm {i:Bool} {j}:DL X (.Constant (.bool i) j pos) (kD (.bl i)):=uI CL fun F=>by simp only [Rep]
theorem ck {j}:DL X (.Constant .none j pos) (kD .non):=uI As fun F=>by simp only [Rep]
theorem A8 {j}:DL X (.Constant (.str x) j pos) (kD (.str x)):=uI At fun F=>by simp only [Rep]
def R2D (K:xA9) (r:R2) (g:Dt->Dt->Option T):Prop:=∀ F H x y vx vy (Q:VK) t,Same F H->RepB K F H x vx->RepB K F H y vy->g x y=some t->KO K F H t Q->r vx vy H Q
def d2 (g:Dt->Dt->Option T) (fa fb:De->Option Dt):De->Option T:=fun δ=>(fa δ).bind fun x=>(fb δ).bind fun y=>g x y
theorem ln {g:Dt->Dt->Option T} (hr:R2D K r g) (h:tO K (d2 g fa fb) σ H Q):tOp r (tBd K fa) (tBd K fb) σ H Q:=by obtain ⟨Φ,δ,F,t,U,en,L,k⟩:=h;unfold d2 at L;obtain ⟨x,W,L⟩:=bS L;obtain ⟨y,hy,L⟩:=bS L;exact ⟨Φ,δ,F,x,U,en,W,fun v H1 F1 st rv=>⟨Φ,δ,F1,y,U,en.step st,hy,fun Y H2 Z q O=>hr Z H2 x y v Y Q t q.fh (rv.step q.ff q.hh) O L (k.step (st.trans q))⟩⟩
theorem cK {q:Operator} {g:Dt->Dt->Option T} (L:OpR X (ql0 q) r) (O:R2D X.K r g) (U:DB X a fa) (W:DB X b fb):DO X (.BinOp a q b pos) (d2 g fa fb):=PE.mono (CT L U W) fun σ H Q h=>ln O h
theorem fB {q:CmpOp} {g:Dt->Dt->Option T} (L:OpR X (qf7 q) r) (O:R2D X.K r g) (W:DB X a fa) (Y:DB X b fb) (U:qf4 q b=false):DO X (.Compare a [q] [b] pos) (d2 g fa fb):=PE.mono (jy L W Y U) fun σ H Q h=>ln O h
def asB:T->Option Bool
 | .leaf (.bl b)=>some b
 | _=>none
def tB2 (g:Dt->Dt->Option T) (fa fb:De->Option Dt):De->Option Bool:=fun δ=>(d2 g fa fb δ).bind asB
theorem qO {F:Hp} {t:T} {S:Addr->Prop} {b:Bool} (h:asB t=some b) (o:Own K F H t v S):v=.bl b:=by
 unfold asB at h;split at h
 . cases h;have o:Rep K F (.bl b) v:=o;simp only [Rep] at o;exact o
 . cases h
theorem dE {L:CmpOp} {g:Dt->Dt->Option T} (Y:OpR X (qf7 L) r) (Z:R2D X.K r g) (W:DB X a fa) (hb:DB X b fb) (hm:qf4 L b=false):DT X (.Compare a [L] [b] pos) (tB2 g fa fb):=PT.mono (gM Y W hb hm) fun σ H Q ⟨Φ,δ,F,t,O,en,q,k⟩=>by unfold tB2 at q;obtain ⟨z,U,q⟩:=bS q;refine ln Z ⟨Φ,δ,F,z,O,en,U,fun v H' F' S st o hs=>?_⟩;exact ⟨t,qO q o,k H' F' st⟩
def uJ:Dt->Option Bool
 | .non=>some false
 | .bl b=>some b
 | .int i=>some (i != 0)
 | .str x=>if x.length<=qb0 then some ((x.length:Int) != 0) else none
 | .tup l=>some (!l.isEmpty)
 | .lst l=>some (!l.isEmpty)
 | _=>none
def iU (f:De->Option Dt):De->Option Bool:=fun δ=>(f δ).bind uJ
theorem g9 {F:Hp} (h:Reps K F l vs):l.isEmpty=vs.isEmpty:=by
 cases l with
 | nil=>unfold Reps at h;rw [h];rfl
 | cons d l=>unfold Reps at h;obtain ⟨v,q,rfl,_⟩:=h;rfl
theorem qP {F:Hp} {d:Dt} {b:Bool} (L:Same F H) (h:RepB K F H d v) (q:uJ d=some b):AO K v H b:=by
 cases d with
 | non=>cases h;cases q;rfl
 | bl x=>cases h;cases q;rfl
 | int x=>cases h;cases q;rfl
 | str x =>
  cases h;simp only [uJ] at q;split at q
  . cases q;exact ⟨by assumption,rfl⟩
  . cases q
 | tup l =>obtain ⟨a,vs,rfl,h1,h2⟩:=h;cases q;exact .inr (.inl ⟨vs,L.tup h1,by rw [g9 h2]⟩)
 | lst l =>obtain ⟨a,vs,rfl,h1,h2⟩:=h;cases q;exact .inl ⟨vs,h1,by rw [g9 h2]⟩
 | dct ks l=>cases q
 | dcT ks l=>cases q
 | ins c ns l=>cases q
theorem hV (W:DB X a fa) (U:∀ q,isTrue a X.env q=(do let v <- q;standAt a.pos;qz9 [v] (truthy v))):DT X a (iU fa):=PT.mono (nn W U) fun σ H Q ⟨Φ,δ,F,b,O,en,L,k⟩=>by unfold iU at L;obtain ⟨d,Y,L⟩:=bS L;exact ⟨Φ,δ,F,d,O,en,Y,fun v H' F' st r=>⟨b,qP st.fh r L,k H' F' st⟩⟩
def pA (f:De->Option Bool):De->Option Bool:=fun δ=>(f δ).map (!·)
def cL (f g:De->Option Bool):De->Option Bool:=fun δ=>(f δ).bind fun b=>if b then g δ else some false
def fOr (f g:De->Option Bool):De->Option Bool:=fun δ=>(f δ).bind fun b=>if b then some true else g δ
variable {ta tb tc:De->Option Bool} {rest:List Expr}
theorem uK (h:DT X a ta):DT X (.UnaryOp .Not a pos) (pA ta):=PT.mono (Aw h) fun σ H Q ⟨Φ,δ,F,b,O,en,L,k⟩=>by
 unfold pA at L;cases q:ta δ with
 | none=>rw [q] at L;cases L
 | some c =>rw [q] at L;cases L;exact ⟨Φ,δ,F,c,O,en,q,fun H' F' st=>k H' F' st⟩
theorem qQ (h:DT X a ta):DW X (.BoolOp .And [a] pos) ta:=xf h
theorem uL (h:DT X a ta):DW X (.BoolOp .Or [a] pos) ta:=Au h
theorem pB (h:DT X a ta) (h':DW X (.BoolOp .And (b::rest) pos) tb):DW X (.BoolOp .And (a::b::rest) pos) (cL ta tb):=PW.mono (Av h h') fun σ H Q ⟨Φ,δ,F,t,O,en,L,k⟩=>by
 unfold cL at L;obtain ⟨c,Y,L⟩:=bS L;refine ⟨Φ,δ,F,c,O,en,Y,fun H' F' st=>?_⟩;split at L
 . rename_i q;rw [if_pos q];exact ⟨Φ,δ,F',t,O,en.step st,L,fun H2 W U=>k H2 W (st.trans U)⟩
 . rename_i q;rw [if_neg q];cases L;exact k H' F' st
theorem qR (h:DT X a ta) (h':DW X (.BoolOp .Or (b::rest) pos) tb):DW X (.BoolOp .Or (a::b::rest) pos) (fOr ta tb):=PW.mono (CM h h') fun σ H Q ⟨Φ,δ,F,t,O,en,L,k⟩=>by
 unfold fOr at L;obtain ⟨c,Y,L⟩:=bS L;refine ⟨Φ,δ,F,c,O,en,Y,fun H' F' st=>?_⟩;split at L
 . rename_i q;rw [if_pos q];cases L;exact k H' F' st
 . rename_i q;rw [if_neg q];exact ⟨Φ,δ,F',t,O,en.step st,L,fun H2 W U=>k H2 W (st.trans U)⟩
theorem DW.t (h:DW X a ta):DT X a ta:=h.pt
def A9:Dt->Option Bool
 | .bl b=>some b
 | _=>none
def vNot (f:De->Option Dt):De->Option T:=fun δ=>(f δ).bind fun x=>(A9 x).map fun b=>.leaf (.bl (!b))
def vAnd (f:De->Option Dt) (g:De->Option T):De->Option T:=fun δ=>(f δ).bind fun x=>(A9 x).bind fun b=>if b then g δ else some (.leaf (.bl false))
def vOr (f:De->Option Dt) (g:De->Option T):De->Option T:=fun δ=>(f δ).bind fun x=>(A9 x).bind fun b=>if b then some (.leaf (.bl true)) else g δ
def vIf (c:De->Option Bool) (f g:De->Option T):De->Option T:=fun δ=>(c δ).bind fun b=>if b then f δ else g δ
theorem Ba {F:Hp} {b:Bool}:Rep K F (.bl b) (.bl b):=by simp only [Rep]
theorem ev {F:Hp} {b:Int}:Rep K F (.int b) (.int b):=by simp only [Rep]
theorem hW {F:Hp} {b:Str}:Rep K F (.str b) (.str b):=by simp only [Rep]
theorem fR {F:Hp}:Rep K F .non .non:=by simp only [Rep]
variable {oa ob:De->Option T}
theorem zt (W:DT X c tc) (h:DO X a oa) (h':DO X b ob):DO X (.IfExp c a b pos) (vIf tc oa ob):=PE.mono (ng W h h') fun σ H Q ⟨Φ,δ,F,t,O,en,L,k⟩=>by
 unfold vIf at L;obtain ⟨x,U,L⟩:=bS L;refine ⟨Φ,δ,F,x,O,en,U,fun H' F' st=>?_⟩;split at L
 . rename_i q;rw [if_pos q];exact ⟨Φ,δ,F',t,O,en.step st,L,k.step st⟩
 . rename_i q;rw [if_neg q];exact ⟨Φ,δ,F',t,O,en.step st,L,k.step st⟩
def lp (K:xA9) (F H:Hp):List Dt->List V->Prop
 | [],vs=>vs=[]
 | d::l,vs=>∃ v q,vs=v::q/\RepB K F H d v/\lp K F H l q
def tAL (K:xA9) (f:De->Option (List Dt)):TA:=fun σ H Q=>∃ Φ δ F ds,Fm.K Φ=K/\En Φ δ σ F H/\f δ=some ds/\∀ vs H' F',Step F H F' H'->Reps K F' ds vs->Q vs H'
def tAB (K:xA9) (f:De->Option (List Dt)):TA:=fun σ H Q=>∃ Φ δ F ds,Fm.K Φ=K/\En Φ δ σ F H/\f δ=some ds/\∀ vs H' F',Step F H F' H'->lp K F' H' ds vs->Q vs H'
structure DA (X:Cx) (es:List Expr) (f:De->Option (List Dt)):Prop where
 len:∀ δ ds,f δ=some ds->ds.length=es.length
 pa:PA X es (tAL X.K f)
structure DAB (X:Cx) (es:List Expr) (f:De->Option (List Dt)):Prop where
 len:∀ δ ds,f δ=some ds->ds.length=es.length
 pa:PA X es (tAB X.K f)
def ae:De->Option (List Dt):=fun _=>some []
def ab (f:De->Option Dt) (g:De->Option (List Dt)):De->Option (List Dt):=fun δ=>(f δ).bind fun d=>(g δ).bind fun ds=>some (d::ds)
variable {es:List Expr} {fs:De->Option (List Dt)}
theorem lq {f:De->Option Dt} (h:∀ δ ds,fs δ=some ds->ds.length=n):∀ δ ds,ab f fs δ=some ds->ds.length=n+1:=fun δ ds q=>by unfold ab at q;obtain ⟨x,O,q⟩:=bS q;obtain ⟨y,L,q⟩:=bS q;cases q;simp [h δ y L]
theorem bq:DA X [] ae:=⟨fun _ _ h=>by cases h;rfl,PA.mono dB fun σ H Q ⟨Φ,δ,F,ds,L,en,q,k⟩=>by cases q;exact k [] H F (Step.refl en.fh) (by simp only [Reps])⟩
theorem hX:DAB X [] ae:=⟨fun _ _ h=>by cases h;rfl,PA.mono dB fun σ H Q ⟨Φ,δ,F,ds,L,en,q,k⟩=>by cases q;exact k [] H F (Step.refl en.fh) rfl⟩
theorem aZ (h:DL X e g) (h':DA X es fs) (Y:qa6 (e::es) X.env=(false,eval e X.env)::qa6 es X.env:=by rfl):DA X (e::es) (ab g fs):=⟨lq h'.len,PA.mono (bU h h'.pa Y) fun σ H Q ⟨Φ,δ,F,ds,L,en,q,k⟩=>by unfold ab at q;obtain ⟨x,U,q⟩:=bS q;obtain ⟨y,hy,q⟩:=bS q;cases q;exact ⟨Φ,δ,F,x,L,en,U,fun v H1 F1 st r=>⟨Φ,δ,F1,y,L,en.step st,hy,fun vs H2 W O Z=>k (v::vs) H2 W (st.trans O) (by simp only [Reps];exact ⟨v,vs,rfl,r.same O.ff,Z⟩)⟩⟩⟩
theorem fC (h:DB X e g) (h':DAB X es fs) (Y:qa6 (e::es) X.env=(false,eval e X.env)::qa6 es X.env:=by rfl):DAB X (e::es) (ab g fs):=⟨lq h'.len,PA.mono (bU h h'.pa Y) fun σ H Q ⟨Φ,δ,F,ds,O,en,q,k⟩=>by unfold ab at q;obtain ⟨x,U,q⟩:=bS q;obtain ⟨y,hy,q⟩:=bS q;cases q;exact ⟨Φ,δ,F,x,O,en,U,fun v H1 F1 st r=>⟨Φ,δ,F1,y,O,en.step st,hy,fun vs H2 W L Z=>k (v::vs) H2 W (st.trans L) ⟨v,vs,rfl,r.step L.ff L.hh,Z⟩⟩⟩⟩
def aK (f:De->Option (List Dt)):De->Option T:=fun δ=>(f δ).bind fun ds=>if ds.length<=qb0 then some (.leaf (.tup ds)) else none
def bZ (f:De->Option (List Dt)):De->Option T:=fun δ=>(f δ).bind fun ds=>if ds.length<=qb0 then some (.lst ds) else none
theorem fE {x1} (h:DA X es fs):DO X (.Tuple es x1 pos) (aK fs):=PE.mono (AR h.pa) fun σ H Q ⟨Φ,δ,F,t,L,en,q,k⟩=>by
 unfold aK at q;obtain ⟨ds,U,q⟩:=bS q;split at q
 . rename_i O;cases q;refine ⟨Φ,δ,F,ds,L,en,U,fun vs H1 F1 st r=>⟨by rw [r.length];exact O,fun p hp=>?_⟩⟩;refine (k.step st).leaf _ _ _ (Step.new st.fh hp) ?_;simp only [Rep];exact ⟨p,vs,rfl,SqT.of aq,r.same (Same.upd (st.fh.free hp))⟩
 . cases q
theorem jA {F:Hp} (k:KO K F H (.lst ds) Q) (q:Same F H) (r:Reps K F ds vs) (hp:H p=none):Q (.ref p) (upd H p (.lst vs)):=by
 refine k _ _ F (fun b=>b=p) (Step.made q hp) ⟨p,vs,rfl,rfl,aq,r⟩ fun b z=>?_
 subst z;exact ⟨q.free hp,hp,_,aq⟩
theorem c6 (h:DA X es fs):DO X (.List es pos) (bZ fs):=PE.mono (AS h.pa) fun σ H Q ⟨Φ,δ,F,t,L,en,q,k⟩=>by
 unfold bZ at q;obtain ⟨ds,U,q⟩:=bS q;split at q
 . rename_i O;cases q;exact ⟨Φ,δ,F,ds,L,en,U,fun vs H1 F1 st r=>⟨by rw [r.length];exact O,fun p hp=>jA (k.step st) st.fh r hp⟩⟩
 . cases q
def CRD (K:xA9) (r:List V->Hp->VK->Prop) (g:List Dt->Option T):Prop:=∀ F H ds vs (Q:VK) t,Same F H->lp K F H ds vs->g ds=some t->KO K F H t Q->r vs H Q
def ag (g:List Dt->Option T) (f:De->Option (List Dt)):De->Option T:=fun δ=>(f δ).bind g
theorem uM {r:List V->Hp->VK->Prop} {g:List Dt->Option T} (O:CRD K r g) (h:tO K (ag g fs) σ H Q):tCB r (tAB K fs) σ H Q:=by obtain ⟨Φ,δ,F,t,L,en,q,k⟩:=h;unfold ag at q;obtain ⟨ds,U,q⟩:=bS q;exact ⟨Φ,δ,F,ds,L,en,U,fun vs H1 F1 st r=>O F1 H1 ds vs Q t st.fh r q (k.step st)⟩
variable {x:Str} {p:Pos} {id Ty:String} {sc:Scope} {r:List V->Hp->VK->Prop} {gg:List Dt->Option T}
theorem nH (h:aB sc x=true) (O:c8 X (.builtin id) r) (W:CRD X.K r gg) (Z:X.mg x=none) (Y:qe4 x=some (.builtin id)) (ha:DAB X (e::es) fs) (e1:bA X sc:=by rfl)
  (U:qa6 (e::es) X.env=(false,eval e X.env)::qa6 es X.env:=by rfl) (L:(qj4 pos (qa6 es X.env)).any (·.1)=false:=by rfl):DO X (.Call (.Name x p) (e::es) [] pos) (ag gg fs):=
 PE.mono (fQ h O Z Y ha.pa e1 U L) fun σ H Q q=>uM W q
theorem hZ (h:aB sc x=true) (O:c8 X (.type Ty) r) (W:CRD X.K r gg) (Z:X.mg x=none) (Y:qe4 x=some (.type Ty)) (ha:DAB X (e::es) fs) (e1:bA X sc:=by rfl)
  (U:qa6 (e::es) X.env=(false,eval e X.env)::qa6 es X.env:=by rfl) (L:(qj4 pos (qa6 es X.env)).any (·.1)=false:=by rfl):DO X (.Call (.Name x p) (e::es) [] pos) (ag gg fs):=
 PE.mono (gu h O Z Y ha.pa e1 U L) fun σ H Q q=>uM W q
def spD (K:xA9) (n:Nat) (f:List Dt->Option T):Sp:=fun vs H Q _=>∃ F ds t,Same F H/\ds.length=n/\Reps K F ds vs/\f ds=some t/\KO K F H t Q
theorem cX {k:Nat} {ff:List Dt->Option T} (h:aB sc x=true) (F:OkF X.prog X.w X.K X.mg X.base x k ps (spD X.K n ff)) (hr:Room k X.A) (O:DA X (e::es) fs) (hn:(e::es).length=n:=by rfl) (e1:bA X sc:=by rfl)
 (Y:qa6 (e::es) X.env=(false,eval e X.env)::qa6 es X.env:=by rfl) (L:(qj4 pos (qa6 es X.env)).any (·.1)=false:=by rfl):DO X (.Call (.Name x p) (e::es) [] pos) (ag ff fs):=
 PE.mono (lj h F hr O.pa e1 Y L) fun σ H Q ⟨Φ,δ,Z,t,W,en,q,k⟩=>by unfold ag at q;obtain ⟨ds,U,q⟩:=bS q;refine ⟨Φ,δ,Z,ds,W,en,U,fun vs H1 F1 st r=>?_⟩;show spD X.K n ff (vs++[]) H1 Q E0;rw [qe8];exact ⟨F1,ds,t,st.fh,(O.len δ ds U).trans hn,r,q,k.step st⟩
end
inductive Out where
 | nx (δ:De) | rt (t:T) | bk (δ:De) | ct (δ:De) | re (t:T) (δ:De)
structure Rt (Φ:Fm) (t:T) (v:V) (F H:Hp):Prop where
 fh:Same F H
 prot:∀ b o,Φ.H0 b=some o->¬ Φ.S0 b->H b=some o
 old:Same Φ.F0 F
 nw:∀ b o,F b=some o->Φ.F0 b=some o∨Φ.B b
 own:∃ S,Own Φ.K F H t v S/\∀ b,S b->F b=none/\(∃ o,H b=some o)/\Φ.B b
structure Re (Φ:Fm) (t:T) (v:V) (δ:De) (σ:St) (F H:Hp):Prop where
 en:En Φ δ σ F H
 own:∃ S R,Sep Φ.K F H Φ.B (ll δ σ) S/\Own Φ.K F H t v R/\∀ b,R b->F b=none/\(∃ o,H b=some o)/\Φ.B b/\∀ i,¬ S i b
noncomputable def Post (Φ:Fm) (D:Ends):Out->Prop
 | .nx δ=>∀ σ F H,En Φ δ σ F H->D.nx σ H
 | .rt t=>∀ v F H,Rt Φ t v F H->D.rt v H
 | .bk δ=>∀ σ F H,En Φ δ σ F H->D.bk σ H
 | .ct δ=>∀ σ F H,En Φ δ σ F H->D.ct σ H
 | .re t δ=>∀ v σ F H,Re Φ t v δ σ F H->D.rt v H
def tS (K:xA9) (g:De->Option Out):TS:=fun D σ H=>∃ Φ δ F o,Fm.K Φ=K/\En Φ δ σ F H/\g δ=some o/\Post Φ D o
def DS1 (X:Cx) (st:Stmt) (g:De->Option Out):Prop:=PS X st (tS X.K g)
def DS (X:Cx) (ss:List Stmt) (g:De->Option Out):Prop:=PSs X ss (tS X.K g)
variable {Φ:Fm} {δ:De} {sc:Scope} {N:List Str} {pos':Pos} {es:List Expr} {ts:List Nat} {bb:Dt->De->Option De} {J:It} {fi:De->Option (List Dt)}
section
variable {X:Cx} {st:Stmt} {rest a b body:List Stmt} {g g1 g2:De->Option Out} {e c tg iter:Expr} {pos:Pos} {f:De->Option T} {fd:De->Option Dt} {tc:De->Option Bool} {i:Nat}
def bV:De->Option Out:=fun δ=>some (.nx δ)
def ap (g1 g2:De->Option Out):De->Option Out:=fun δ=>(g1 δ).bind fun o=>match o with
 | .nx δ'=>g2 δ'
 | o=>some o
theorem aS:DS X [] bV:=PSs.mono qp fun D σ H ⟨Φ,δ,F,o,L,en,q,k⟩=>by cases q;exact k σ F H en
theorem am (h:DS1 X st g):DS X [st] g:=qq h
theorem ah (h1:DS1 X st g1) (h2:DS X rest g2):DS X (st::rest) (ap g1 g2):=PSs.mono (e8 h1 h2) fun D σ H ⟨Φ,δ,F,o,O,en,q,k⟩=>by
 unfold ap at q;obtain ⟨U,h1,q⟩:=bS q;refine ⟨Φ,δ,F,U,O,en,h1,?_⟩;cases U with
 | nx δ'=>exact fun σ' F' H' L=>⟨Φ,δ',F',o,O,L,q,k⟩
 | rt t=>cases q;exact k
 | bk δ'=>cases q;exact k
 | ct δ'=>cases q;exact k
 | re t δ'=>cases q;exact k
def br (f:De->Option T):De->Option Out:=fun δ=>(f δ).map .rt
theorem En.rt {F:Hp} {t:T} {S:Addr->Prop} (en:En Φ δ σ F H) (st:Step F H F' H') (o:Own Φ.K F' H' t v S) (L:∀ b,S b->F' b=none/\H b=none/\∃ o,H' b=some o):Rt Φ t v F' H':=by have q:=en.step st;exact ⟨q.fh,q.prot,q.old,q.nw,S,o,fun b z=>⟨(L b z).1,(L b z).2.2,en.fresh (L b z).2.1⟩⟩
theorem aA (h:DO X e f):DS1 X (.Return (some e) pos) (br f):=PS.mono (o9 h) fun D σ H ⟨Φ,δ,F,o,L,en,q,k⟩=>by unfold br at q;obtain ⟨t,U,q⟩:=mS q;cases q;exact ⟨Φ,δ,F,t,L,en,U,fun v H' F' S st o O=>k v F' H' (en.rt st (L▸o) O)⟩
def ia (i:Nat):De->Option Out:=fun δ=>match δ[i]? with
 | some (some t)=>some (.rt t)
 | _=>none
theorem eF (h:PE X e (iK i)):DS1 X (.Return (some e) pos) (ia i):=PS.mono (o9 h) fun D σ H ⟨Φ,δ,F,o,U,en,L,k⟩=>by
 unfold ia at L;split at L
 . rename_i t q;cases L;obtain ⟨v,O⟩:=en.has i t q;obtain ⟨S,s⟩:=en.sep;exact ⟨v,O,k v F H ⟨en.fh,en.prot,en.old,en.nw,S i,s.own i t v (cW q O),fun b z=>s.out i b z⟩⟩
 . cases L
def sIf (c:De->Option Bool) (g1 g2:De->Option Out):De->Option Out:=fun δ=>(c δ).bind fun b=>if b then g1 δ else g2 δ
theorem bF (W:DT X c tc) (h1:DS X a g1) (h2:DS X b g2):DS1 X (.If c a b pos) (sIf tc g1 g2):=PS.mono (zb W h1 h2) fun D σ H ⟨Φ,δ,F,o,O,en,L,k⟩=>by
 unfold sIf at L;obtain ⟨x,U,L⟩:=bS L;refine ⟨Φ,δ,F,x,O,en,U,fun H' F' st=>?_⟩;split at L
 . rename_i q;rw [if_pos q];exact ⟨Φ,δ,F',o,O,en.step st,L,k⟩
 . rename_i q;rw [if_neg q];exact ⟨Φ,δ,F',o,O,en.step st,L,k⟩
def ar (i:Nat) (f:De->Option T):De->Option Out:=fun δ=>(f δ).map fun t=>.nx (δ.set i (some t))
theorem uN (h:cV sc N i x=true) (U:g6 sc x=true) (W:N.Nodup) (Y:DO X e f) (e1:bA X sc:=by rfl) (e2:X.N=N:=by rfl) (Z:X.fn x=true∨X.env.scope.names.lookup x=some .local:=by exact .inl rfl)
 (L:qk4 e (some (.Name x pos')) pos.line X.env=pure false:=by rfl):DS1 X (.Assign [.Name x pos'] e pos) (ar i f):=PS.mono (mt h U W Y e1 e2 Z L) fun D σ H ⟨Φ,δ,F,o,O,en,q,k⟩=>by
 unfold ar at q;obtain ⟨t,ht,q⟩:=mS q;cases q;exact ⟨Φ,δ,F,t,O,en,ht,fun v H' F' S st o L=>k _ F' H' (en.put st (O▸o) L i)⟩
noncomputable def gD (K:xA9) (ts:List Nat) (st:Dt->De->Option De):TG:=fun v σ H Q=>∃ Φ δ F d δ',Fm.K Φ=K/\En Φ δ σ F H/\Rep K F d v/\st d δ=some δ'/\∀ σ',σ'.length=σ.length->(∀ j,j∉ts->σ'[j]?=σ[j]?)->En Φ δ' σ' F H->Q σ' H
noncomputable def gsD (K:xA9) (ts:List Nat) (st:List Dt->De->Option De):TGs:=fun vs σ H Q=>∃ Φ δ F ds δ',Fm.K Φ=K/\En Φ δ σ F H/\Reps K F ds vs/\st ds δ=some δ'/\∀ σ',σ'.length=σ.length->(∀ j,j∉ts->σ'[j]?=σ[j]?)->En Φ δ' σ' F H->Q σ' H
def DG (X:Cx) (tg:Expr) (ts:List Nat) (bb:Dt->De->Option De):Prop:=PG X tg (gD X.K ts bb)
def DGs (X:Cx) (tg:List Expr) (ts:List Nat) (bb:List Dt->De->Option De):Prop:=PGs X tg (gsD X.K ts bb)
def ai (i:Nat):Dt->De->Option De:=fun d δ=>some (δ.set i (some (.leaf d)))
theorem En.name {F:Hp} (en:En Φ δ σ F H) {d:Dt} (r:Rep Φ.K F d v) (i:Nat):En Φ (δ.set i (some (.leaf d))) (σ.set i (some v)) F H:=en.put (Step.refl en.fh) (S':=fun _=>False) (t:=.leaf d) r (fun _ z=>z.elim) i
theorem ax (h:PG X tg (je i)):DG X tg [i] (ai i):=PG.mono h fun v σ H Q ⟨Φ,δ,F,d,δ',q,en,r,O,k⟩=>by cases O;refine k _ (by simp) (fun j L=>?_) (en.name (q▸r) i);rw [List.getElem?_set_ne fun z=>L (by simp [z])]
def dO:List Dt->De->Option De:=fun ds δ=>if ds.isEmpty then some δ else none
def aJ (b:Dt->De->Option De) (bs:List Dt->De->Option De):List Dt->De->Option De:=fun ds δ=>match ds with
 | d::r=>(b d δ).bind fun δ1=>bs r δ1
 | []=>none
def dP (n:Nat) (bs:List Dt->De->Option De):Dt->De->Option De:=fun d δ=>match d with
 | .tup ds=>if ds.length=n then bs ds δ else none
 | _=>none
theorem fS:DGs X [] [] dO:=fun pins s σ H vs us Q I r q=>xg pins s σ H vs us Q I r (by
 obtain ⟨Φ,δ,F,ds,δ',U,en,O,L,k⟩:=q;unfold dO at L;cases ds with
 | nil=>cases L;simp only [Reps] at O;exact ⟨O,k σ rfl (fun _ _=>rfl) en⟩
 | cons d l=>cases L)
theorem bG {O:List Nat} {bs:List Dt->De->Option De} (h1:DG X e ts bb) (h2:DGs X es O bs)
 (hs:(qn3 (e::es) X.env).map (·.2)=ze7 e X.env::(qn3 es X.env).map (·.2):=by rfl):DGs X (e::es) (ts++O) (aJ bb bs):=fun pins s σ H vs us Q I r q=>ud h1 h2 hs pins s σ H vs us Q I r (by
 obtain ⟨Φ,δ,F,ds,δ',Z,en,rs,L,k⟩:=q;unfold aJ at L;cases ds with
 | nil=>cases L
 | cons d l =>simp only [Reps] at rs;obtain ⟨v,ws,e,r1,r2⟩:=rs;dsimp only at L;obtain ⟨δ1,hb,L⟩:=bS L;refine ⟨v,ws,e,Φ,δ,F,d,δ1,Z,en,r1,hb,fun σ1 l1 k1 U=>⟨Φ,δ1,F,l,δ',Z,U,r2,L,fun Y l2 k2 W=>k Y (l2.trans l1) (fun j hj=>?_) W⟩⟩;rw [k2 j fun z=>hj (qc8 _ z),k1 j fun z=>hj (qp4 _ z)])
theorem iV {k:Nat} {bs:List Dt->De->Option De} (Y:X.calm=true) (h:DGs X es ts bs)
 (Z:(qn3 es X.env).length=n:=by rfl) (O:(qn3 es X.env).findIdx? (·.1)=none:=by rfl):DG X (.Tuple es k pos) ts (dP n bs):=PG.mono (Az Y h Z O) fun v σ H Q ⟨Φ,δ,F,d,δ',U,en,r,L,q⟩=>by
 unfold dP at L;split at L
 . rename_i ds;split at L
   . rename_i W;simp only [Rep] at r;obtain ⟨a,vs,e,h1,h2⟩:=r;exact ⟨a,vs,e,en.fh.tup h1,by rw [h2.length];exact W,Φ,δ,F,ds,δ',U,en,h2,L,q⟩
   . cases L
 . cases L
noncomputable def qS (K:xA9) (F':Hp) (J:It) (ds:List Dt) (ok:Hp->Prop):Prop:=∀ (i:Nat) (H F:Hp),ok H->Same F H->Same F' F->(i<ds.length->J.go i H)/\(i=ds.length->J.stop i H)/\∀ x H',i<ds.length->J.yld i H x H'->∃ d q,ds[i]?=some d/\Step F H q H'/\Rep K q d x
theorem Plain.walk {xs:List V} {ok:Hp->Prop} (W:Plain J xs ok) (r:Reps K F' ds xs):qS K F' J ds ok:=fun i H F q Y ff=>by
 obtain ⟨p1,p2,O⟩:=W i H q;have hl:=r.length;refine ⟨fun h=>p1 (by lia),fun h=>p2 (by lia),fun x H' hi Z=>?_⟩;obtain ⟨rfl,U⟩:=O x H' (by lia) Z;have L:ds[i]?=some ds[i]:=by simp [hi]
 obtain ⟨v,e,rv⟩:=r.get L;rw [U] at e;cases e;exact ⟨_,F,L,Step.refl Y,rv.same ff⟩
def tIF (K:xA9) (f:De->Option (List Dt)):TI:=fun σ H R=>∃ Φ δ F ds,Fm.K Φ=K/\En Φ δ σ F H/\f δ=some ds/\∀ J ok H' F',Step F H F' H'->qS K F' J ds ok->(∀ H2,Same F' H2->ok H2)->R J H'
def tIB (K:xA9) (f:De->Option (List Dt)):TI:=fun σ H R=>∃ Φ δ F ds,Fm.K Φ=K/\En Φ δ σ F H/\f δ=some ds/\∀ J ok H' F',Step F H F' H'->qS K F' J ds ok->(∀ H2,Same H' H2->ok H2)->R J H'
def DIF (X:Cx) (tg iter:Expr) (f:De->Option (List Dt)):Prop:=PI X tg iter (tIF X.K f)
def DIB (X:Cx) (tg iter:Expr) (f:De->Option (List Dt)):Prop:=PI X tg iter (tIB X.K f)
theorem DIF.toB (h:DIF X tg iter fi):DIB X tg iter fi:=PI.mono h fun σ H R ⟨Φ,δ,F,ds,q,en,L,k⟩=>⟨Φ,δ,F,ds,q,en,L,fun J ok H' F' st O U=>k J ok H' F' st O fun H2 s=>U H2 (st.fh.trans s)⟩
end
variable {δ':De} {σ':St} {F1 H1:Hp} {D:Ends}
section
variable {X:Cx} {st:Stmt} {rest a b body:List Stmt} {g g1 g2:De->Option Out} {e c tg iter l:Expr} {pos:Pos} {f:De->Option T} {fd:De->Option Dt} {tc:De->Option Bool} {i:Nat} {fi:De->Option (List Dt)}
noncomputable def cw (bb:Dt->De->Option De) (g:De->Option Out):List Dt->De->Option Out
 | [],δ=>some (.nx δ)
 | d::r,δ=>(bb d δ).bind fun δ1=>(g δ1).bind fun o=>match o with
  | .nx q=>cw bb g r q
  | .ct q=>cw bb g r q
  | .bk q=>some (.nx q)
  | .rt t=>some (.rt t)
  | .re t q=>some (.re t q)
def cY (fi:De->Option (List Dt)) (bb:Dt->De->Option De) (g:De->Option Out):De->Option Out:=fun δ=>(fi δ).bind fun ds=>cw bb g ds δ
theorem Reps.same_get {F:Hp} {xs:List V} (r:Reps K F ds xs) {x:V} (h:xs[i]?=some x):∃ d,ds[i]?=some d/\Rep K F d x:=by
 have O:=r.length;have hi:i<xs.length:=(gX h).1;have q:ds[i]?=some ds[i]:=by simp [show i<ds.length by lia]
 obtain ⟨v,e,L⟩:=r.get q;rw [h] at e;cases e;exact ⟨_,q,L⟩
theorem jB {α:Type} {l:List α} {d:α} (h:l[i]?=some d):l.drop i=d::l.drop (i+1):=by have hi:i<l.length:=(gX h).1;rw [qx5 hi];congr 1;have:=(gX h).2;exact this
def Fm.at (Φ:Fm) (F1:Hp):Fm:={Φ with F0:=F1}
theorem En.back {F:Hp} (en:En Φ δ σ F1 H1) (e:En (Φ.at F1) δ' σ' F H):En Φ δ' σ' F H:=⟨e.fh,e.prot,en.old.trans e.old,fun b o h=>(e.nw b o h).elim (fun z=>en.nw b o z) .inr,e.len,e.has,e.sep⟩
theorem Rt.back {F:Hp} {t:T} (en:En Φ δ σ F1 H1) (e:Rt (Φ.at F1) t v F H):Rt Φ t v F H:=⟨e.fh,e.prot,en.old.trans e.old,fun b o h=>(e.nw b o h).elim (fun z=>en.nw b o z) .inr,e.own⟩
theorem Re.back {F:Hp} {t:T} (en:En Φ δ σ F1 H1) (e:Re (Φ.at F1) t v δ' σ' F H):Re Φ t v δ' σ' F H:=⟨en.back e.en,e.own⟩
theorem En.at (en:En Φ δ σ F1 H1):En (Φ.at F1) δ σ F1 H1:=⟨en.fh,en.prot,Same.refl _,fun b o h=>.inl h,en.len,en.has,en.sep⟩
theorem Post.at {o:Out} (en:En Φ δ σ F1 H1) (k:Post Φ D o):Post (Φ.at F1) D o:=by
 cases o with
 | nx δ'=>exact fun σ' F H e=>k σ' F H (en.back e)
 | bk δ'=>exact fun σ' F H e=>k σ' F H (en.back e)
 | ct δ'=>exact fun σ' F H e=>k σ' F H (en.back e)
 | rt t=>exact fun v F H e=>k v F H (Rt.back en e)
 | re t δ'=>exact fun v σ' F H e=>k v σ' F H (Re.back en e)
theorem nI {g:TG} {tb:TS} (Pv:Nat->St->Hp->Prop) (Y:Pv 0 σ H1) (O:∀ i σ H,Pv i σ H->(i<n->J.go i H)/\(i=n->J.stop i H))
 (W:∀ i x σ H H',i<n->Pv i σ H->J.yld i H x H'->g x σ H' fun L H2=>tb {D with nx:=Pv (i+1),ct:=Pv (i+1),bk:=D.nx} L H2) (Z:∀ σ H,Pv n σ H->D.nx σ H):ForW g tb D J σ H1:=by
 refine ⟨fun i m σ H=>m=n-i/\i<=n/\Pv i σ H,⟨n,by simp,qh8 _,Y⟩,?_⟩;rintro i m σ H ⟨rfl,hi,p⟩;obtain ⟨p1,p2⟩:=O i σ H p;by_cases q:i<n
 . exact .inr ⟨p1 q,Pv (i+1),fun σ' H' U=>⟨n-(i+1),by lia,rfl,q,U⟩,fun x H' y=>W i x σ H H' q p y⟩
 . have e:i=n:=by lia
   subst e;exact .inl ⟨p2 rfl,Z σ H p⟩
theorem cx (hp:qy1 (model X.prog X.w) X.A X.env X.xe) (hc:X.calm=true) (hi:DIF X tg iter fi) (hg:DG X tg ts bb) (hb:DS X body g)
 (hs:∀ x,qg8 iter X.env x=pure x:=by intro _;rfl):DS1 X (.For tg iter body [] pos) (cY fi bb g):=PS.mono (pe hp hc hi hg hb hs) fun D σ H ⟨Φ,δ,F,o,hK,en,hg,k⟩=>by
 unfold cY at hg;obtain ⟨ds,hd,hg⟩:=bS hg;rw [mr];refine ⟨Φ,δ,F,ds,hK,en,hd,fun J ok H1 F1 st1 wd ho=>?_⟩;have en1:=en.step st1;have k1:=Post.at en1 k;refine nI (n:=ds.length) (fun i σ' H'=>∃ δ' F',En (Φ.at F1) δ' σ' F' H'/\cw bb g (ds.drop i) δ'=some o) ⟨δ,F1,en1.at,by simpa using hg⟩ (fun i σ' H' ⟨δ',F',O,_⟩=>?_) ?_ ?_
 . obtain ⟨p1,p2,_⟩:=wd i H' F' (ho H' (O.old.trans O.fh)) O.fh O.old;exact ⟨p1,p2⟩
 . rintro i x σ' H' H'' hi ⟨δ',F',O,L⟩ hy;obtain ⟨_,_,p3⟩:=wd i H' F' (ho H' (O.old.trans O.fh)) O.fh O.old;obtain ⟨d,U,hd',st2,rd⟩:=p3 x H'' hi hy;rw [jB hd'] at L;unfold cw at L;obtain ⟨δ1,h1,L⟩:=bS L;obtain ⟨o1,h2,L⟩:=bS L;refine ⟨Φ.at F1,δ',U,d,δ1,hK,O.step st2,rd,h1,fun σ1 _ _ en1=>⟨Φ.at F1,δ1,U,o1,hK,en1,h2,?_⟩⟩;cases o1 with
   | nx Y=>exact fun W U H2 Z=>⟨Y,U,Z,L⟩
   | ct Y=>exact fun W U H2 Z=>⟨Y,U,Z,L⟩
   | bk Y=>cases L;exact fun W U H2 Z=>k1 W U H2 Z
   | rt t=>cases L;exact fun v U H2 q=>k1 v U H2 q
   | re t Y=>cases L;exact fun v W U H2 q=>k1 v W U H2 q
 . rintro σ' H' ⟨δ',F',O,L⟩;rw [qt9] at L;cases L;exact k1 σ' F' H' O
noncomputable def cM (c:De->Option Bool) (g:De->Option Out):Nat->De->Option Out
 | 0,_=>none
 | n+1,δ=>(c δ).bind fun b=>if b then (g δ).bind fun o=>match o with
  | .nx q=>cM c g n q
  | .ct q=>cM c g n q
  | .bk q=>some (.nx q)
  | .rt t=>some (.rt t)
  | .re t q=>some (.re t q) else some (.nx δ)
theorem uO (n:Nat) (hp:qy1 (model X.prog X.w) X.A X.env X.xe) (hc:DT X c tc) (hb:DS X body g):DS1 X (.While c body [] pos) (cM tc g n):=PS.mono (ni hp hc hb) fun D σ H ⟨Φ,δ,F,o,hK,en,hg,k⟩=>by
 refine ⟨fun m σ' H'=>∃ δ' F',En Φ δ' σ' F' H'/\cM tc g m δ'=some o,⟨n,δ,F,en,hg⟩,?_⟩;rintro m σ' H' ⟨δ',F',Z,L⟩;cases m with
 | zero=>cases L
 | succ m =>
  unfold cM at L;obtain ⟨x,hx,L⟩:=bS L;refine ⟨Φ,δ',F',x,hK,Z,hx,fun H1 F1 st=>?_⟩;split at L
  . rename_i q;rw [if_pos q];obtain ⟨o1,h2,L⟩:=bS L;refine ⟨fun U H2=>∃ O W,En Φ O U W H2/\cM tc g m O=some o,fun U H2 z=>⟨m,qk8 m,z⟩,Φ,δ',F1,o1,hK,Z.step st,h2,?_⟩;cases o1 with
    | nx O=>exact fun U W H2 Y=>⟨O,W,Y,L⟩
    | ct O=>exact fun U W H2 Y=>⟨O,W,Y,L⟩
    | bk O=>cases L;exact fun U W H2 Y=>k U W H2 Y
    | rt t=>cases L;exact fun v W H2 q=>k v W H2 q
    | re t O=>cases L;exact fun v U W H2 q=>k v U W H2 q
  . rename_i q;rw [if_neg q];cases L;exact k σ' F1 H1 (Z.step st)
def Dh (x:Str):List Dt:=x.cps.toList.map fun c=>.str ⟨#[c]⟩
def gv (lo:Int) (n:Nat):List Dt:=(qc2 n).map fun (i:Nat)=>.int (lo+i)
theorem Reps.map {F:Hp} {α:Type} {f:α->Dt} {g:α->V} (h:∀ x,Rep K F (f x) (g x)):∀ l:List α,Reps K F (l.map f) (l.map g)
 | []=>by simp [Reps]
 | x::l=>by simp only [qa5,Reps];exact ⟨_,_,rfl,h x,Reps.map h l⟩
def itD:Dt->Option (List Dt)
 | .lst l=>some l
 | .tup l=>some l
 | .str x=>some (Dh x)
 | _=>none
def fIt (f:De->Option Dt):De->Option (List Dt):=fun δ=>(f δ).bind itD
theorem eG (h:DL X l fd):DIF X tg l (fIt fd):=PI.mono (PI.or (me h) (PI.or (ue h) (uy h))) fun σ H R ⟨Φ,δ,F,ds,L,en,q,k⟩=>by
 unfold fIt at q;obtain ⟨d,O,q⟩:=bS q;cases d with
 | lst l =>cases q;refine .inl ⟨Φ,δ,F,_,L,en,O,fun v H' F' st r=>?_⟩;simp only [Rep] at r;obtain ⟨a,vs,rfl,h1,h2⟩:=r;exact ⟨a,rfl,⟨vs,st.fh.seq h1⟩,k _ _ H' F' st (plain_list.walk h2) fun H2 s=>s.seq h1⟩
 | tup l =>cases q;refine .inr (.inl ⟨Φ,δ,F,_,L,en,O,fun v H' F' st r=>?_⟩);simp only [Rep] at r;obtain ⟨a,vs,rfl,h1,h2⟩:=r;exact ⟨a,rfl,⟨vs,st.fh.tup h1⟩,k _ _ H' F' st (plain_tup.walk h2) fun H2 s=>s.tup h1⟩
 | str x =>cases q;refine .inr (.inr ⟨Φ,δ,F,_,L,en,O,fun v H' F' st r=>?_⟩);simp only [Rep] at r;exact ⟨x,r,k _ _ H' F' st (plain_str.walk (Reps.map (fun c=>hW) _)) fun _ _=>trivial⟩
 | _=>cases q
theorem bc (h:DB X l fd):DIB X tg l (fIt fd):=PI.mono (PI.or (me h) (PI.or (ue h) (uy h))) fun σ H R ⟨Φ,δ,F,ds,L,en,q,k⟩=>by
 unfold fIt at q;obtain ⟨d,O,q⟩:=bS q;cases d with
 | lst l =>cases q;refine .inl ⟨Φ,δ,F,_,L,en,O,fun v H' F' st r=>?_⟩;obtain ⟨a,vs,rfl,h1,h2⟩:=r;exact ⟨a,rfl,⟨vs,h1⟩,k _ _ H' F' st (plain_list.walk h2) fun H2 s=>s.seq h1⟩
 | tup l =>cases q;refine .inr (.inl ⟨Φ,δ,F,_,L,en,O,fun v H' F' st r=>?_⟩);obtain ⟨a,vs,rfl,h1,h2⟩:=r;exact ⟨a,rfl,⟨vs,st.fh.tup h1⟩,k _ _ H' F' st (plain_tup.walk h2) fun H2 s=>s.tup (st.fh.tup h1)⟩
 | str x =>cases q;refine .inr (.inr ⟨Φ,δ,F,_,L,en,O,fun v H' F' st r=>?_⟩);exact ⟨x,r,k _ _ H' F' st (plain_str.walk (Reps.map (fun c=>hW) _)) fun _ _=>trivial⟩
 | _=>cases q
def eT (j:Int):Bool:=decide (-(2^62)<=j)&&decide (j<2^62)
def dQ:List Dt->Option (List Dt)
 | [.int j]=>if eT j then some (gv 0 j.toNat) else none
 | _=>none
def pD:List Dt->Option (List Dt)
 | [.int i,.int j]=>if eT i&&eT j then some (gv i (j-i).toNat) else none
 | _=>none
def ca (r:List Dt->Option (List Dt)) (f:De->Option (List Dt)):De->Option (List Dt):=fun δ=>(f δ).bind r
variable {p:Pos} {sc:Scope} {x y:Expr} {fs:De->Option (List Dt)}
theorem di {j:Int} (h:eT j=true):-(2^62)<=j/\j<2^62:=by unfold eT at h;simpa using h
theorem jZ {F:Hp} (lo:Int) (n:Nat):Reps K F (gv lo n) (jT lo n):=Reps.map (fun _=>ev) _
theorem dj (h:aB sc "range"=true) (Y:X.mg "range"=none) (W:DA X [x] fs) (e1:bA X sc:=by rfl) (U:qa6 [x] X.env=[(false,eval x X.env)]:=by rfl):DIF X tg (.Call (.Name "range" p) [x] [] pos) (ca dQ fs):=
 PI.mono (px h Y W.pa e1 U) fun σ H R ⟨Φ,δ,F,ds,O,en,q,k⟩=>by
  unfold ca at q;obtain ⟨Z,hd,q⟩:=bS q;refine ⟨Φ,δ,F,Z,O,en,hd,fun vs H' F' st r=>?_⟩;unfold dQ at q;split at q
  . rename_i j;split at q
    . rename_i L;cases q;simp only [Reps,Rep] at r;obtain ⟨v,ws,rfl,rfl,rfl⟩:=r;exact ⟨j,rfl,(di L).1,(di L).2,k _ _ H' F' st (plain_range.walk (jZ _ _)) fun _ _=>trivial⟩
    . cases q
  . cases q
theorem sH (h:aB sc "range"=true) (W:X.mg "range"=none) (U:DA X [x,y] fs) (e1:bA X sc:=by rfl) (hs:qa6 [x,y] X.env=[(false,eval x X.env),(false,eval y X.env)]:=by rfl) (O:qa6 [y] X.env=[(false,eval y X.env)]:=by rfl) :
  DIF X tg (.Call (.Name "range" p) [x,y] [] pos) (ca pD fs):=
 PI.mono (pz h W U.pa e1 hs O) fun σ H R ⟨Φ,δ,F,ds,Z,en,q,k⟩=>by
  unfold ca at q;obtain ⟨Y,hd,q⟩:=bS q;refine ⟨Φ,δ,F,Y,Z,en,hd,fun vs H' F' st r=>?_⟩;unfold pD at q;split at q
  . rename_i i j;split at q
    . rename_i L;rw [qa9] at L;cases q;simp only [Reps,Rep] at r;obtain ⟨v,ws,rfl,rfl,w,us,rfl,rfl,rfl⟩:=r;exact ⟨i,j,rfl,⟨(di L.1).1,(di L.1).2,(di L.2).1,(di L.2).2⟩,k _ _ H' F' st (plain_range.walk (jZ _ _)) fun _ _=>trivial⟩
    . cases q
  . cases q
end
def dC (src:List (Option Nat)) (δ:De):De:=src.map fun o=>o.bind fun j=>(δ[j]?).join
noncomputable def bK (bb:Dt->De->Option De) (ft:De->Option Bool) (fe:De->Option Dt) (δ:De):List Dt->Option (List Dt)
 | []=>some []
 | d::r=>(bb d δ).bind fun δ1=>(ft δ1).bind fun b=>if b then (fe δ1).bind fun y=>(bK bb ft fe δ r).bind fun ys=>some (y::ys) else bK bb ft fe δ r
noncomputable def aF (src:List (Option Nat)) (fi:De->Option (List Dt)) (bb:Dt->De->Option De) (ft:De->Option Bool) (fe:De->Option Dt):De->Option T:=fun δ =>(fi δ).bind fun ds=>(bK bb ft fe (dC src δ) ds).bind fun ys=>if ys.length<=qb0 then some (.lst ys) else none
def bf:De->Option Bool:=fun _=>some true
def DTs (X:Cx) (ifs:List Expr) (f:De->Option Bool):Prop:=PTs X ifs (tTr X.K f)
theorem bW:DTs X [] bf:=fun pins s σ H Q I h=>xw pins s σ H Q I (by obtain ⟨Φ,δ,F,b,L,en,q,k⟩:=h;cases q;exact k H F (Step.refl en.fh))
theorem cU {c:Expr} {f:De->Option Bool} (h:DT X c f):DTs X [c] f:=xx h
section
variable {X:Cx} {elt tg iter:Expr} {ifs:List Expr} {scope:Scope} {pos:Pos} {M:List Str} {src:List (Option Nat)} {fi:De->Option (List Dt)} {ft:De->Option Bool} {fe:De->Option Dt}
theorem xC (S:CmpScope X.N X.env.scope scope M src) {k l:Nat} (hk:src[k]?=some (some j)) (U:src[l]?=some (some j)):k=l:=by
 have nm:∀ k,src[k]?=some (some j)->∃ x,M[k]?=some x/\X.N[j]?=some x:=fun k h=>by
  have q:k<M.length:=by rw [S.len];exact (gX h).1
  have O:M[k]?=some M[k]:=by simp [q]
  have W:(M.zip src)[k]?=some (M[k],some j):=by rw [qq0];exact ⟨O,h⟩
  exact ⟨_,O,(S.src _ (qf5 W) j rfl).1⟩
 obtain ⟨x,h1,h2⟩:=nm k hk;obtain ⟨y,h3,L⟩:=nm l U;rw [h2] at L;cases L;exact (List.getElem?_inj (gX h1).1 S.nd).mp (h1.trans h3.symm)
theorem uP {k:Nat} {t:T} (h:(dC src δ)[k]?=some (some t)):∃ j,src[k]?=some (some j)/\δ[j]?=some (some t):=by
 unfold dC at h;rw [qb1] at h;cases e:src[k]? with
 | none=>rw [e] at h;cases h
 | some o =>
  rw [e] at h;cases o with
  | none=>cases h
  | some j =>
   simp only [qe5,qa1,qj3] at h;refine ⟨j,rfl,?_⟩;cases q:δ[j]? with
   | none=>rw [q] at h;cases h
   | some u=>rw [q] at h;simp only [qn1] at h;rw [h]
theorem qT {k:Nat} (h1:src[k]?=some (some j)) (h2:σ[j]?=some (some v)):(stC src σ)[k]?=some (some v):=by unfold stC;rw [qb1,h1];simp [h2]
theorem pE {k:Nat} (h:(stC src σ)[k]?=some (some v)):∃ j,src[k]?=some (some j)/\σ[j]?=some (some v):=by
 unfold stC at h;rw [qb1] at h;cases e:src[k]? with
 | none=>rw [e] at h;cases h
 | some o =>
  rw [e] at h;cases o with
  | none=>cases h
  | some j =>
   simp only [qe5,qa1,qj3] at h;refine ⟨j,rfl,?_⟩;cases q:σ[j]? with
   | none=>rw [q] at h;cases h
   | some u=>rw [q] at h;simp only [qn1] at h;rw [h]
theorem En.comp {F:Hp} (S:CmpScope X.N X.env.scope scope M src) (en:En Φ δ σ F H):En Φ (dC src δ) (stC src σ) F H:=by
 refine ⟨en.fh,en.prot,en.old,en.nw,by simp [dC,stC],fun k t h=>?_,?_⟩
 . obtain ⟨j,h1,h2⟩:=uP h;obtain ⟨v,W⟩:=en.has j t h2;exact ⟨v,qT h1 W⟩
 . obtain ⟨Z,s⟩:=en.sep;refine ⟨fun k b=>∃ j,src[k]?=some (some j)/\Z j b,fun k t v h=>?_,fun k b ⟨j,_,z⟩=>s.out j b z,fun k l b ⟨j,h1,z⟩ ⟨Y,h2,U⟩=>?_⟩
   . obtain ⟨h1,h2⟩:=dn h;obtain ⟨j,q,e2⟩:=uP h1;obtain ⟨Y,L,O⟩:=pE h2;rw [q] at L;cases L;exact (s.own j t v (cW e2 O)).grow fun b z=>⟨j,q,z⟩
   . have:=s.dis _ _ b z U;subst this;exact xC S h1 h2
theorem lr {g:TG} {tt:TT} {te:TE} {D:Addr} (Pv:Nat->Hp->Prop) (h0:Pv 0 (upd H1 D (.lst []))) (O:∀ i H,Pv i H->(i<n->J.go i H)/\(i=n->J.stop i H))
 (Z:∀ i x H H',i<n->Pv i H->J.yld i H x H'->g x (stC src σ) H' fun L H2=>Wk (stC src σ) L/\tt L H2 fun b U=>if b=true then te L U fun v W=>∃ ys,W D=some (.lst ys)/\ys.length<qb0/\Pv (i+1) (upd W D (.lst (ys++[v]))) else Pv (i+1) U)
 (hd:∀ H,Pv n H->Q (.ref D) H):zo src g tt te σ J H1 Q D:=by
 refine ⟨fun i m H=>m=n-i/\i<=n/\Pv i H,⟨n,by simp,qh8 _,h0⟩,?_⟩;rintro i m H ⟨rfl,hi,p⟩;obtain ⟨p1,p2⟩:=O i H p;by_cases q:i<n
 . exact .inr ⟨p1 q,Pv (i+1),fun H' Y=>⟨n-(i+1),by lia,rfl,q,Y⟩,fun x H' y=>Z i x H H' q p y⟩
 . have e:i=n:=by lia
   subst e;exact .inl ⟨p2 rfl,hd H p⟩
theorem qU (S:CmpScope X.N X.env.scope scope M src) (hts:(ts.all fun k=>decide (src[k]?=some none))=true):∀ (σ:St) (H:Hp) (Q:VK),tO X.K (aF src fi bb ft fe) σ H Q->ld src (tIB X.K fi) (gD X.K ts bb) (tTr X.K ft) (tL X.K fe) σ H Q:=fun σ H Q ⟨Φ,δ,F,t,hK,en,hf,k⟩=>by
 unfold aF at hf;obtain ⟨ds,hd,hf⟩:=bS hf;obtain ⟨all,ha,hf⟩:=bS hf;split at hf
 case isFalse=>cases hf
 rename_i hz;cases hf;rw [nC];refine ⟨Φ,δ,F,ds,hK,en,hd,fun J ok H1 F1 st1 wd ho D hD=>?_⟩;have en1:=en.step st1;have k1:=k.step st1
 have wk:∀ {σ2:St},σ2.length=(stC src σ).length->(∀ j,j∉ts->σ2[j]?=(stC src σ)[j]?)->Wk (stC src σ) σ2:=fun {σ2} h1 h2=>by
  refine ⟨h1.symm,fun j v hj=>?_⟩;by_cases hm:j∈ts
  . have:=qj1.mp hts j hm;have hn:src[j]?=some none:=of_decide_eq_true this;obtain ⟨i,e,_⟩:=pE hj;rw [hn] at e;cases e
  . rw [h2 j hm];exact hj
 have ok':∀ {F H:Hp},Step F1 H1 F H->ok H:=fun st=>ho _ st.hh
 refine lr (n:=ds.length) (fun i H=>∃ F ys done O,Step F1 H1 F H/\H D=some (.lst ys)/\F D=none/\Reps X.K F done ys/\bK bb ft fe (dC src δ) (ds.drop i)=some O/\done++O=all) ?_ ?_ ?_ ?_
 . exact ⟨F1,[],[],all,Step.made st1.fh hD,aq,st1.fh.free hD,by simp [Reps],by simpa using ha,rfl⟩
 . rintro i H' ⟨F',ys,done,O,st,_⟩;obtain ⟨p1,p2,_⟩:=wd i H' F' (ok' st) st.fh st.ff;exact ⟨p1,p2⟩
 . rintro i x H0' H' hi ⟨F0',ys,done,O,st0,hD0,hFD0,rys0,L,U⟩ hy0;obtain ⟨_,_,p3⟩:=wd i H0' F0' (ok' st0) st0.fh st0.ff;obtain ⟨d,F',hd',stw,rd⟩:=p3 x H' hi hy0;have st:=st0.trans stw;have Z:H' D=some (.lst ys):=stw.hh _ _ hD0
   have hFD:F' D=none:=by
    cases q:F' D with
    | none=>rfl
    | some o =>
     rcases stw.nw D o q with z | z
     . rw [hFD0] at z;cases z
     . rw [hD0] at z;cases z
   have Y:=rys0.same stw.ff;rw [jB hd'] at L;unfold bK at L;obtain ⟨δ1,h1,L⟩:=bS L;obtain ⟨b,h2,L⟩:=bS L;refine ⟨Φ,dC src δ,F',d,δ1,hK,(en1.step st).comp S,rd,h1,fun σ2 l2 k2 en2=>⟨wk l2 k2,Φ,δ1,F',b,hK,en2,h2,fun H3 F3 W=>?_⟩⟩;have hD3:H3 D=some (.lst ys):=W.hh _ _ Z
   have hF3:F3 D=none:=by
    cases q:F3 D with
    | none=>rfl
    | some o =>
     rcases W.nw D o q with z | z
     . rw [hFD] at z;cases z
     . rw [Z] at z;cases z
   dsimp only;split at L
   . rename_i q;rw [if_pos q];obtain ⟨y,hy,L⟩:=bS L;obtain ⟨zs,hzs,L⟩:=bS L;cases L;refine ⟨Φ,δ1,F3,y,hK,en2.step W,hy,fun v H4 F4 st4 rv=>?_⟩;have hD4:H4 D=some (.lst ys):=st4.hh _ _ hD3
     have hF4:F4 D=none:=by
      cases q:F4 D with
      | none=>rfl
      | some o =>
       rcases st4.nw D o q with z | z
       . rw [hF3] at z;cases z
       . rw [hD3] at z;cases z
     have s14:=(st.trans W).trans st4;refine ⟨ys,hD4,?_,F4,ys++[v],done++[y],zs,?_,aq,hF4,(Y.same (W.ff.trans st4.ff)).append (Reps.one rv),hzs,by rw [<- U];simp⟩
     . have e1:=Y.length;have e2:all.length=done.length+(zs.length+1):=by rw [<- U];simp
       lia
     . refine ⟨fun c o e=>?_,s14.ff,fun c o e=>?_,s14.nw⟩
       . rw [ao (bi e hD)];exact s14.hh _ _ e
       . rw [ao (bi e hF4)];exact s14.fh _ _ e
   . rename_i q;rw [if_neg q];exact ⟨F3,ys,done,O,st.trans W,hD3,hF3,Y.same W.ff,L,U⟩
 . rintro H' ⟨F',ys,done,O,st,Z,hFD,Y,L,U⟩;rw [qt9] at L;cases L;rw [qe8] at U;subst U
   exact k1 (.ref D) H' F' (fun b=>b=D) st ⟨D,ys,rfl,rfl,Z,Y⟩ fun b z=>by subst z;exact ⟨hFD,hD,_,Z⟩
theorem jC (S:CmpScope X.N X.env.scope scope M src) (W:X.calm=true) (hi:DIB X tg iter fi) (Z:M.Nodup->∀ C s H ex,DG (cxC X M scope C s H ex) tg ts bb)
 (Y:∀ C s H ex,DTs (cxC X M scope C s H ex) ifs ft) (O:∀ C s H ex,DL (cxC X M scope C s H ex) elt fe) (q:(ts.all fun k=>decide (src[k]?=some none))=true) (U:∀ x,qg8 iter X.env x=pure x:=by intro _;rfl) :
  DO X (.ListComp elt [⟨tg,iter,ifs,0⟩] scope pos) (aF src fi bb ft fe):=PE.mono (nA (g:=gD X.K ts bb) (tt:=tTr X.K ft) (te:=tL X.K fe) S W hi (fun L C s H ex=>Z L C s H ex) (fun C s H ex=>Y C s H ex) (fun C s H ex=>O C s H ex) U) (qU S q)
end
def cb (m:Nat) (g:De->Option Out):List Dt->Option T:=fun ds=>match g (ds.map (fun d=>some (T.leaf d))++qe6 (m-ds.length) none) with
 | some (.rt t)=>some t
 | some (.nx _)=>some (.leaf .non)
 | _=>none
theorem ib {F:Hp} (Y:Same F H) (r:Reps K F ds vs) :
  En ⟨K,F,H,fun _=>False⟩ (ds.map (fun d=>some (T.leaf d))++qe6 (N.length-ds.length) none) (start N vs) F H:=by
 have W:=r.length
 have q:∀ (i:Nat) (t:T),(ds.map (fun d=>some (T.leaf d))++qe6 (N.length-ds.length) none)[i]?=some (some t)->∃ d v,t=T.leaf d/\vs[i]?=some v/\Rep K F d v/\(start N vs)[i]?=some (some v):=fun i t h=>by
  by_cases hi:i<ds.length
  . rw [qb5 (by simpa using hi),qb1] at h;have U:ds[i]?=some ds[i]:=by simp [hi]
    rw [U] at h;cases h;obtain ⟨v,O,L⟩:=r.get U;refine ⟨_,v,rfl,O,L,?_⟩;unfold start;rw [qb5 (by simp;lia),qb1,O];rfl
  . rw [qc4 (by simpa using hi)] at h;rw [qi4] at h;split at h<;>cases h
 refine ⟨Y,fun b o h _=>h,Same.refl _,fun b o h=>.inl h,by simp [start,W],fun i t h=>?_,fun _ _=>False,fun i t v h=>?_,fun _ _ z=>z.elim,fun _ _ _ z=>z.elim⟩
 . obtain ⟨d,v,_,_,_,e⟩:=q i t h;exact ⟨v,e⟩
 . obtain ⟨h1,h2⟩:=dn h;obtain ⟨d,w,rfl,_,L,e⟩:=q i t h1;rw [h2] at e;cases e;exact L
variable {st:Stmt} {fd:qo9}
section
variable {P:qc5} {w:World} {K:xA9} {mg:Str->Option Value} {base:Heap}
theorem Rt.step {F:Hp} {t:T} (h:Rt ⟨K,F,H,fun _=>False⟩ t v F' H') (k:KO K F H t Q):Q v H':=by
 obtain ⟨U,q,L,nw,S,o,O⟩:=h;refine k v H' F' S ⟨fun b u e=>q b u e id,L,U,fun b u e=>(nw b u e).elim .inl fun z=>z.elim .inr qg7⟩ o fun b z=>?_
 obtain ⟨h1,h2,h3⟩:=O b z;exact ⟨h1,h3.elim id qg7,h2⟩
theorem bM {k:Nat} {g:De->Option Out} (D:DefF K mg x st ps) (S:FnScope N ps (ac st)) (Z:ps.length=n)
 (L:∀ (f:Addr) (cdv:Value) (A:qd7) (outer:List Env) (s:qa4) (H:Hp) (E:XK),Room k (A.deeper (qv4 x (ac st) s.heap.objs.size f cdv))->DS (iP CX0 P w K mg base N x (ac st) f cdv A outer s H E).nox (az st) g) :
  OkF P w K mg base x (k+1) ps (spD K n (cb N.length g)):=by
 refine D.ok S (fun vs H Q E h=>?_) (fun f cdv A outer s H vs Q E Y h=>?_)
 . obtain ⟨F,ds,t,_,U,r,_⟩:=h;rw [r.length,U,Z]
 . obtain ⟨F,ds,t,W,U,r,O,kq⟩:=h;refine ⟨_,L f cdv A outer s H E Y,?_⟩;unfold cb at O;split at O
   . rename_i t' q;cases O;exact ⟨⟨K,F,H,fun _=>False⟩,_,F,_,rfl,ib W r,q,fun v F' H' z=>z.step kq⟩
   . rename_i δ' q;cases O;exact ⟨⟨K,F,H,fun _=>False⟩,_,F,_,rfl,ib W r,q,fun σ' F' H' z=>(z.rt (Step.refl z.fh) (t:=.leaf .non) (S:=fun _=>False) (fR (K:=K) (F:=F')) fun _ y=>y.elim).step kq⟩
   . cases O
theorem Di {k:Nat} {g:De->Option Out} {f:Addr} (D:Fun K x x st f fd) (S:FnScope N ps (ac st)) (Z:ps.length=n)
 (L:∀ (cdv:Value) (A:qd7) (outer:List Env) (s:qa4) (H:Hp) (E:XK),Room k (A.deeper (qv4 x (ac st) s.heap.objs.size f cdv))->DS (iP CX0 P w K mg base N x (ac st) f cdv A outer s H E).nox (az st) g) :
  FnOk P w K mg base CX0 (k+1) f fd ps (spD K n (cb N.length g)):=by
 refine D.ok S (fun vs H Q E h=>?_) (fun cdv A outer s H vs Q E Y h=>?_)
 . obtain ⟨F,ds,t,_,U,r,_⟩:=h;rw [r.length,U,Z]
 . obtain ⟨F,ds,t,W,U,r,O,kq⟩:=h;refine ⟨_,L cdv A outer s H E Y,?_⟩;unfold cb at O;split at O
   . rename_i t' q;cases O;exact ⟨⟨K,F,H,fun _=>False⟩,_,F,_,rfl,ib W r,q,fun v F' H' z=>z.step kq⟩
   . rename_i δ' q;cases O;exact ⟨⟨K,F,H,fun _=>False⟩,_,F,_,rfl,ib W r,q,fun σ' F' H' z=>(z.rt (Step.refl z.fh) (t:=.leaf .non) (S:=fun _=>False) (fR (K:=K) (F:=F')) fun _ y=>y.elim).step kq⟩
   . cases O
end
section
variable {K:xA9} {F H:Hp} {Q:VK}
theorem KO.int {i:Int} (k:KO K F H (.leaf (.int i)) Q) (q:Same F H):Q (.int i) H:=k.leaf.here q ev
theorem KO.bl {i:Bool} (k:KO K F H (.leaf (.bl i)) Q) (q:Same F H):Q (.bl i) H:=k.leaf.here q Ba
theorem KO.str {i:Str} (k:KO K F H (.leaf (.str i)) Q) (q:Same F H):Q (.str i) H:=k.leaf.here q hW
theorem KO.tup (k:KO K F H (.leaf (.tup l)) Q) (q:Same F H) (r:Reps K F l vs) (hp:H p=none):Q (.ref p) (upd H p (.tup vs)):=by refine k.leaf _ _ _ (Step.new q hp) ?_;simp only [Rep];exact ⟨p,vs,rfl,SqT.of aq,r.same (Same.upd (q.free hp))⟩
end
def ji (i j:Int):Bool:=(decide (-(2^64)<i)&&decide (i<2^64))||(decide (-(2^64)<j)&&decide (j<2^64))
theorem xD {i j:Int} (h:ji i j=true):CMul i j:=by unfold ji at h;simp only [qh7,qa9,decide_eq_true_eq] at h;exact h
theorem Er {i j:Int} (h1:-1000000000000000000<i) (h2:i<1000000000000000000):ji i j=true:=by unfold ji;simp only [qh7,qa9,decide_eq_true_eq];left;lia
theorem xE {i j:Int} (h1:-1000000000000000000<j) (h2:j<1000000000000000000):ji i j=true:=by unfold ji;simp only [qh7,qa9,decide_eq_true_eq];right;lia
def nJ (i j:Int):Bool:=decide (0<=j)&&decide (j<=1000000)&&decide (i.natAbs<2^64)
theorem xF {i j:Int} (h:nJ i j=true):AI i j:=by unfold nJ at h;simp only [qa9,decide_eq_true_eq] at h;exact ⟨h.1.1,h.1.2,h.2⟩
noncomputable def aT:Dt->Dt->Option T
 | .int i,.int j=>some (.leaf (.int (i+j)))
 | .str a,.str b=>if a.length+b.length<=qb0 then some (.leaf (.str (a++b))) else none
 | .lst l,.lst m=>if l.length+m.length<=qb0 then some (.lst (l++m)) else none
 | .tup l,.tup m=>if l.length+m.length<=qb0/\l≠[]/\m≠[] then some (.leaf (.tup (l++m))) else none
 | _,_=>none
def eU:Dt->Dt->Option T
 | .int i,.int j=>some (.leaf (.int (i-j)))
 | _,_=>none
def j0:Dt->Dt->Option T
 | .int i,.int j=>if ji i j then some (.leaf (.int (i*j))) else none
 | _,_=>none
def c7:Dt->Dt->Option T
 | .int i,.int j=>if 0<j then some (.leaf (.int (i%j))) else none
 | _,_=>none
def pF:Dt->Dt->Option T
 | .int i,.int j=>if nJ i j then some (.leaf (.int (i^j.toNat))) else none
 | _,_=>none
def gx (f:Int->Int->Bool):Dt->Dt->Option T
 | .int i,.int j=>some (.leaf (.bl (f i j)))
 | _,_=>none
variable {b:Bool} {f:De->Option Dt} {p2:Pos}
section
variable {X:Cx}
theorem xG:OpR X (ql0 .Add) (fun x y H Q=>∃ l b xs zs,x=.ref l/\y=.ref b/\SqL X.K H l xs/\SqL X.K H b zs/\xs.length+zs.length<=qb0/\∀ p,H p=none->Q (.ref p) (upd H p (.lst (xs++zs)))):=by
 intro pins s σ H x y v u Q I rx ry h;obtain ⟨l,b,xs,zs,rfl,rfl,hH,hB,hz,q⟩:=h;cases rx;cases ry;obtain ⟨its,r,pl,_⟩:=I.list hH;obtain ⟨L,r2,pl2,_⟩:=I.list hB;obtain ⟨⟨cls,dd,data,sl⟩,n,ho,hc,hd0,hd⟩:=pl;obtain ⟨⟨cls2,dd2,Y,Z⟩,n2,O,W,hd02,U⟩:=pl2;simp only at hc hd W U;subst hc hd W U;have e:its.toArray++L.toArray=(its++L).toArray:=by simp
 refine qw9 ⟨_,ho,rfl⟩ ⟨_,O,rfl⟩ noFill_list_add seq_list_add PySem.F.slot_list_add PySem.F.entry_list_add (PySem.F.args_list_add_2 _ _) (list_addW l b its.toArray L.toArray n n2 dd dd2 sl Z (by rw [qb9,qb9,<- r.length,<- r2.length];exact hz)) ⟨ho,O,?_⟩;rw [e];exact ⟨.ref _,_,I.lnew (t':=s.toks) (r.append r2) (by rw [qb3];exact hz),rfl,q _ I.fresh⟩
noncomputable abbrev lu (K:xA9):R2:=fun x y H Q=>(rI0 (fun i j=>.int (i+j)) x y H Q)∨(∃ i j,x=.str i/\y=.str j/\i.length+j.length<=qb0/\Q (.str (i++j)) H)∨(∃ l b xs zs,x=.ref l/\y=.ref b/\SqL K H l xs/\SqL K H b zs/\xs.length+zs.length<=qb0/\∀ p,H p=none->Q (.ref p) (upd H p (.lst (xs++zs))))∨zi K x y H Q
theorem jD:OpR X (ql0 .Add) (lu X.K):=OpR.or AJ (OpR.or pi (OpR.or xG xl))
theorem qV:R2D K (lu K) aT:=by
 intro F H x y vx vy Q t O W Y q k;unfold aT at q;split at q<;>first | (cases q;done) | skip
 . cases q;cases W;cases Y;exact .inl ⟨_,_,rfl,rfl,k.int O⟩
 . split at q
   . cases q;cases W;cases Y;exact .inr (.inl ⟨_,_,rfl,rfl,by assumption,k.str O⟩)
   . cases q
 . split at q
   . rename_i U;cases q;obtain ⟨a,vs,rfl,h1,h2⟩:=W;obtain ⟨b,Z,rfl,h3,L⟩:=Y;exact .inr (.inr (.inl ⟨a,b,vs,Z,rfl,rfl,h1,h3,by rw [h2.length,L.length];exact U,fun p hp=>jA k O (h2.append L) hp⟩))
   . cases q
 . split at q
   . rename_i U;cases q;obtain ⟨a,vs,rfl,h1,h2⟩:=W;obtain ⟨b,Z,rfl,h3,L⟩:=Y;obtain ⟨U,n1,n2⟩:=U;refine .inr (.inr (.inr ⟨a,b,vs,Z,rfl,rfl,O.tup h1,O.tup h3,fun z=>?_,by rw [h2.length,L.length];exact U,fun z=>?_,fun _ p hp=>k.tup O (h2.append L) hp⟩))
     . subst z;have:=h2.length;exact n1 (qu0 this.symm)
     . subst z;have:=L.length;exact absurd (qu0 this.symm) n2
   . cases q
theorem Dj:R2D K (rI0 fun i j=>.int (i-j)) eU:=by
 intro F H x y W Y Q t O L U q k;unfold eU at q;split at q<;>first | (cases q;done) | skip
 cases q;cases L;cases U;exact ⟨_,_,rfl,rfl,k.int O⟩
theorem Dk:R2D K (rI CMul fun i j=>.int (i*j)) j0:=by
 intro F H x y W Y Q t O L U q k;unfold j0 at q;split at q<;>first | (cases q;done) | skip
 split at q
 . cases q;cases L;cases U;exact ⟨_,_,rfl,rfl,xD (by assumption),k.int O⟩
 . cases q
theorem uQ:R2D K (rI (fun _ j=>0<j) fun i j=>.int (i%j)) c7:=by
 intro F H x y W Y Q t O L U q k;unfold c7 at q;split at q<;>first | (cases q;done) | skip
 split at q
 . cases q;cases L;cases U;exact ⟨_,_,rfl,rfl,by assumption,k.int O⟩
 . cases q
theorem zu:R2D K (rI AI fun i j=>.int (i^j.toNat)) pF:=by
 intro F H x y W Y Q t O L U q k;unfold pF at q;split at q<;>first | (cases q;done) | skip
 split at q
 . cases q;cases L;cases U;exact ⟨_,_,rfl,rfl,xF (by assumption),k.int O⟩
 . cases q
theorem ic {f:Int->Int->Bool}:R2D K (rI0 fun i j=>.bl (f i j)) (gx f):=by
 intro F H x y W Y Q t O L U q k;unfold gx at q;split at q<;>first | (cases q;done) | skip
 cases q;cases L;cases U;exact ⟨_,_,rfl,rfl,k.bl O⟩
noncomputable def eqD:Dt->Dt->Option Bool
 | .non,.non=>some true
 | .non,.int _=>some false
 | .non,.bl _=>some false
 | .non,.str _=>some false
 | .int _,.non=>some false
 | .bl _,.non=>some false
 | .str _,.non=>some false
 | .int i,.int j=>some (decide (i=j))
 | .bl i,.bl j=>some (decide (i=j))
 | .str i,.str j=>some (decide (i=j))
 | .int _,.str _=>some false
 | .str _,.int _=>some false
 | .bl _,.str _=>some false
 | .str _,.bl _=>some false
 | .tup l,.tup m=>if cmpbs l m&&decide (deeps l<=59) then some (peqs l m) else none
 | .lst l,.lst m=>if cmpbs l m&&decide (deeps l<=59) then some (peqs l m) else none
 | _,_=>none
def gEq (neg:Bool) (x y:Dt):Option T:=(eqD x y).map fun b=>.leaf (.bl (if neg then !b else b))
abbrev rEqA (K:xA9):R2:=fun x y H Q=>rEq x y H Q∨xA K false x y H Q
abbrev rNeA (K:xA9):R2:=fun x y H Q=>rNe x y H Q∨xA K true x y H Q
theorem uR {k:Nat} (q:Room k X.A):OpR X (qf7 .Eq) (rEqA X.K):=OpR.or CW (A4 q rfl)
theorem pG {k:Nat} (q:Room k X.A):OpR X (qf7 .NotEq) (rNeA X.K):=OpR.or CY (A5 q rfl)
theorem uS {F:Hp} {x y:Dt} {O L:V} (Y:Same F H) (U:RepB K F H x O) (W:RepB K F H y L) (h:eqD x y=some b) :
  (AN O L=true/\b=decide (O=L))∨(((∃ l m,x=.tup l/\y=.tup m)∨∃ l m,x=.lst l/\y=.lst m)/\cJ x y=true/\em x<=60/\b=peq x y):=by
 unfold eqD at h
 split at h<;>first
  | (cases h;done)
  | (cases h;cases U;cases W;left;refine ⟨rfl,?_⟩;simp;done)
  | skip
 . right;split at h
   . rename_i q;simp only [qa9,decide_eq_true_eq] at q;cases h;exact ⟨.inl ⟨_,_,rfl,rfl⟩,by simp only [cJ];exact q.1,by simp only [em];lia,by simp only [peq]⟩
   . cases h
 . right;split at h
   . rename_i q;simp only [qa9,decide_eq_true_eq] at q;cases h;exact ⟨.inr ⟨_,_,rfl,rfl⟩,by simp only [cJ];exact q.1,by simp only [em];lia,by simp only [peq]⟩
   . cases h
theorem r_eq:R2D K (rEqA K) (gEq false):=by
 intro F H x y Y Z Q t q O U L k;unfold gEq at L;obtain ⟨b,W,L⟩:=mS L;cases L;have kk:Q (.bl b) H:=k.bl q;rcases uS q O U W with ⟨h1,rfl⟩ | ⟨h1,h2,h3,rfl⟩
 . exact .inl ⟨h1,kk⟩
 . exact .inr ⟨x,y,h1,O.rep q,U.rep q,h2,h3,kk⟩
theorem Bb:R2D K (rNeA K) (gEq true):=by
 intro F H x y Y Z Q t q O U L k;unfold gEq at L;obtain ⟨b,W,L⟩:=mS L;cases L;have kk:Q (.bl (!b)) H:=k.bl q;rcases uS q O U W with ⟨h1,rfl⟩ | ⟨h1,h2,h3,rfl⟩
 . exact .inl ⟨h1,kk⟩
 . exact .inr ⟨x,y,h1,O.rep q,U.rep q,h2,h3,kk⟩
def uT:Dt->Bool
 | .non=>true
 | _=>false
def gIs (neg:Bool) (x y:Dt):Option T:=match y with
 | .non=>some (.leaf (.bl (if neg then !uT x else uT x)))
 | _=>none
theorem nM {F:Hp} {x:Dt} (r:RepB K F H x v):uT x=decide (v=.non):=by
 cases x<;>first
  | (cases r;rfl)
  | (obtain ⟨a,vs,rfl,_⟩:=r;rfl)
  | (simp only [RepB,Rep] at r;obtain ⟨a,C,dx,fs,rfl,_⟩:=r;rfl)
theorem pH:R2D K (fun x y H Q=>y=.non/\Q (.bl (decide (x=.non))) H) (gIs false):=by
 intro F H x y W Y Q t O L U q k;cases y<;>first | cases q;done | skip
 cases q;cases U;refine ⟨rfl,?_⟩;rw [<- nM L];exact k.bl O
theorem mx:R2D K (fun x y H Q=>y=.non/\Q (.bl (!decide (x=.non))) H) (gIs true):=by
 intro F H x y W Y Q t O L U q k;cases y<;>first | cases q;done | skip
 cases q;cases U;refine ⟨rfl,?_⟩;rw [<- nM L];exact k.bl O
def bB:Dt->Bool
 | .non=>true
 | .bl _=>true
 | .int _=>true
 | .str _=>true
 | _=>false
def eqF:Dt->Dt->Bool
 | .non,.non=>true
 | .bl a,.bl b=>a==b
 | .bl a,.int b=>(if a then 1 else 0)==b
 | .int a,.bl b=>a==(if b then 1 else 0)
 | .int a,.int b=>a==b
 | .str a,.str b=>a==b
 | _,_=>false
def inS (j i:Str):Bool:=!(qr0 j i 0 j.length 1).isEmpty
def inD:Dt->Dt->Option Bool
 | .str i,.str j=>some (inS j i)
 | x,.lst l=>if bB x&&l.all bB then some (l.any fun y=>eqF y x) else none
 | x,.tup l=>if bB x&&l.all bB then some (l.any fun y=>eqF y x) else none
 | _,_=>none
def gIn (neg:Bool) (x y:Dt):Option T:=(inD x y).map fun b=>.leaf (.bl (if neg then !b else b))
theorem my {F:Hp} {d:Dt} (r:Rep K F d v) (h:bB d=true):f7 v=true:=by
 cases d<;>simp only [Rep] at r<;>first
  | (subst r;rfl)
  | cases h
theorem Bc {F:Hp} {d e:Dt} {w:V} (r:Rep K F d v) (q:Rep K F' e w) (h:bB d=true) (h':bB e=true):eqF d e=eqV v w:=by
 cases d<;>first | cases h;done | skip
 all_goals cases e<;>first | cases h';done | skip
 all_goals simp only [Rep] at r q;subst r q;rfl
theorem j1 {F:Hp}:∀ {l:List Dt} {vs:List V},Reps K F l vs->l.all bB=true->vs.all f7=true
 | [],vs,r,_=>by simp only [Reps] at r;subst r;rfl
 | d::l,vs,r,h=>by simp only [Reps] at r;obtain ⟨v,q,rfl,h1,h2⟩:=r;rw [qj5,qa9] at h ⊢;exact ⟨my h1 h.1,j1 h2 h.2⟩
theorem pI {F:Hp} {x:Dt} {w:V} (L:Rep K F' x w) (q:bB x=true):∀ {l:List Dt} {vs:List V},Reps K F l vs->l.all bB=true->(l.any fun y=>eqF y x)=inV w vs
 | [],vs,r,_=>by simp only [Reps] at r;subst r;rfl
 | d::l,vs,r,h=>by simp only [Reps] at r;obtain ⟨v,O,rfl,h1,h2⟩:=r;rw [qj5,qa9] at h;unfold inV;rw [qi5,qi5,Bc h1 L h.1 q,pI L q h2 h.2];rfl
abbrev uU (K:xA9) (neg:Bool):R2:=fun x y H Q=>(∃ i j,x=.str i/\y=.str j/\Q (.bl (if neg then !inS j i else inS j i)) H)∨rIn K neg x y H Q
theorem uV:OpR X (qf7 .In) (uU X.K false):=OpR.or sk su
theorem lv:OpR X (qf7 .NotIn) (uU X.K true):=OpR.or mm ml
theorem r_in (neg:Bool):R2D K (uU K neg) (gIn neg):=by
 intro F H x y vx vy Q t W Y Z U k;unfold gIn at U;obtain ⟨b,O,U⟩:=mS U;cases U;have kk:=k.bl W;unfold inD at O;split at O<;>first | (cases O;done) | skip
 . cases O;cases Y;cases Z;exact .inl ⟨_,_,rfl,rfl,kk⟩
 . split at O
   . rename_i q;rw [qa9] at q;cases O;obtain ⟨a,vs,rfl,h1,h2⟩:=Z;have L:=Y.rep W;rw [pI L q.1 h2 q.2] at kk;exact .inr ⟨a,vs,rfl,.inl h1,my L q.1,j1 h2 q.2,kk⟩
   . cases O
 . split at O
   . rename_i q;rw [qa9] at q;cases O;obtain ⟨a,vs,rfl,h1,h2⟩:=Z;have L:=Y.rep W;rw [pI L q.1 h2 q.2] at kk;exact .inr ⟨a,vs,rfl,.inr (W.tup h1),my L q.1,j1 h2 q.2,kk⟩
   . cases O
theorem nN {F:Hp} {i:Int} {d:Dt} (r:Reps K F l vs) (h:atI l i=some d):∃ v,atI vs i=some v/\Rep K F d v:=by unfold atI at h ⊢;rw [r.length];obtain ⟨j,q,h⟩:=bS h;obtain ⟨v,e,L⟩:=r.get h;exact ⟨v,by rw [q];exact e,L⟩
def gIx:Dt->Dt->Option T
 | .lst l,.int i=>(atI l i).map .leaf
 | .tup l,.int i=>(atI l i).map .leaf
 | .str x,.int i=>if x.length<=qb0 then (atI x.cps.toList i).map fun c=>.leaf (.str ⟨#[c]⟩) else none
 | _,_=>none
theorem r_ix:R2D K (rIx K) gIx:=by
 intro F H x y vx vy Q t L O W q k;unfold gIx at q;split at q<;>first | (cases q;done) | skip
 . obtain ⟨d,U,q⟩:=mS q;cases q;cases W;obtain ⟨a,vs,rfl,h1,h2⟩:=O;obtain ⟨v,e,Y⟩:=nN h2 U;exact .inl ⟨a,vs,_,v,rfl,rfl,h1,e,k.leaf.here L Y⟩
 . obtain ⟨d,U,q⟩:=mS q;cases q;cases W;obtain ⟨a,vs,rfl,h1,h2⟩:=O;obtain ⟨v,e,Y⟩:=nN h2 U;exact .inr (.inl ⟨a,vs,_,v,rfl,rfl,L.tup h1,e,k.leaf.here L Y⟩)
 . split at q
   . rename_i Z;obtain ⟨c,hc,q⟩:=mS q;cases q;cases O;cases W;exact .inr (.inr ⟨_,_,c,rfl,rfl,Z,hc,k.str L⟩)
   . cases q
variable {a b c:Expr} {fa fb fc:De->Option Dt} {pos:Pos}
def pJ (l:List Dt) (lo hi:Option Int):List Dt:=(l.drop (HT.sIx l.length 0 lo)).take (HT.sIx l.length l.length hi-HT.sIx l.length 0 lo)
noncomputable def gSl:Dt->Option Int->Option Int->Option T
 | .str x,lo,hi=>if x.length<=qb0 then some (.leaf (.str (Txt.slice x lo hi))) else none
 | .lst l,lo,hi=>some (.lst (pJ l lo hi))
 | .tup l,lo,hi=>if HT.sIx l.length 0 lo=0/\HT.sIx l.length l.length hi=l.length then none else some (.leaf (.tup (pJ l lo hi)))
 | _,_,_=>none
abbrev rSlA (K:xA9):V->Option Int->Option Int->Hp->VK->Prop:=fun x lo hi H Q=>rSlS x lo hi H Q∨rSlL K x lo hi H Q∨rSlT K x lo hi H Q
theorem Be:SlR X (rSlA X.K):=SlR.or A0 (SlR.or xp AV)
theorem nO {F:Hp} (r:Reps K F l vs) (lo hi:Option Int):Reps K F (pJ l lo hi) (nq vs lo hi):=by unfold pJ nq;rw [r.length];exact (r.drop _).take _
theorem r_sl {F:Hp} {x:Dt} {lo hi:Option Int} {t:T} (L:Same F H) (O:RepB K F H x v) (q:gSl x lo hi=some t) (k:KO K F H t Q):rSlA K v lo hi H Q:=by
 unfold gSl at q;split at q<;>first | (cases q;done) | skip
 . split at q
   . cases q;cases O;exact .inl ⟨_,rfl,by assumption,k.str L⟩
   . cases q
 . obtain ⟨a,vs,rfl,h1,h2⟩:=O;cases q;exact .inr (.inl ⟨a,vs,rfl,h1,fun p hp=>jA k L (nO h2 _ _) hp⟩)
 . obtain ⟨a,vs,rfl,h1,h2⟩:=O;split at q
   . cases q
   . rename_i U;cases q;rw [<- h2.length] at U;exact .inr (.inr ⟨a,vs,rfl,L.tup h1,U,fun p hp=>k.tup L (nO h2 _ _) hp⟩)
def tOD (K:xA9) (f:De->Option (Option Int)):TO:=fun σ H Q=>∃ Φ δ F d,Fm.K Φ=K/\En Φ δ σ F H/\f δ=some d/\∀ H' F',Step F H F' H'->Q d H'
def Dl:De->Option (Option Int):=fun _=>some none
def asI:Dt->Option Int
 | .int i=>some i
 | _=>none
def ie (f:De->Option Dt):De->Option (Option Int):=fun δ=>(f δ).bind fun d=>(asI d).map some
theorem nQ {F:Hp} {x:Dt} {b:Int} (h:asI x=some b) (r:RepB K F H x v):v=.int b:=by
 cases x<;>first | cases h;done | skip
 cases h;exact r
def DP (X:Cx) (e:Option Expr) (f:De->Option (Option Int)):Prop:=PO X e (tOD X.K f)
theorem xH (h:DB X e f):DP X (some e) (ie f):=fun pins s σ H Q I q=>xk h pins s σ H Q I (by obtain ⟨Φ,δ,F,d,O,en,L,k⟩:=q;unfold ie at L;obtain ⟨x,U,L⟩:=bS L;obtain ⟨i,hi,L⟩:=mS L;cases L;exact ⟨Φ,δ,F,x,O,en,U,fun v H' F' st r=>⟨i,nQ hi r,k H' F' st⟩⟩)
def vSl (fa:De->Option Dt) (L q:De->Option (Option Int)):De->Option T:=fun δ=>(fa δ).bind fun x=>(L δ).bind fun l=>(q δ).bind fun h=>gSl x l h
theorem uW {lo hi:Option Expr} {Z fh:De->Option (Option Int)} (he:DB X e f) (U:DP X lo Z) (Y:DP X hi fh):DO X (.Subscript e (.Slice lo hi none p2) pos) (vSl f Z fh):=PE.mono (um Be he U Y) fun σ H Q ⟨Φ,δ,F,t,W,en,q,k⟩=>by unfold vSl at q;obtain ⟨x,hx,q⟩:=bS q;obtain ⟨l,U,q⟩:=bS q;obtain ⟨h,Y,q⟩:=bS q;exact ⟨Φ,δ,F,x,W,en,hx,fun v H1 F1 s1 r1=>⟨Φ,δ,F1,l,W,en.step s1,U,fun H2 F2 L=>⟨Φ,δ,F2,h,W,en.step (s1.trans L),Y,fun H3 F3 O=>r_sl O.fh (r1.step (L.ff.trans O.ff) (L.hh.trans O.hh)) q (k.step ((s1.trans L).trans O))⟩⟩⟩
def uX (f:De->Option Dt):De->Option T:=fun δ=>(f δ).bind fun d=>(asI d).map fun i=>.leaf (.int (-i))
theorem Bf (h:DB X a fa):DO X (.UnaryOp .USub a pos) (uX fa):=PE.mono (CU AM h) fun σ H Q ⟨Φ,δ,F,t,L,en,q,k⟩=>by unfold uX at q;obtain ⟨x,O,q⟩:=bS q;obtain ⟨i,hi,q⟩:=mS q;cases q;exact ⟨Φ,δ,F,x,L,en,O,fun v H' F' st r=>⟨i,nQ hi r,(k.step st).int st.fh⟩⟩
def bN:List Dt->Option T
 | [.str x]=>if x.length<=qb0 then some (.leaf (.int x.length)) else none
 | [.tup l]=>some (.leaf (.int l.length))
 | [.lst l]=>some (.leaf (.int l.length))
 | _=>none
theorem gy {F:Hp} {d:Dt} (r:lp K F H [d] vs):∃ v,vs=[v]/\RepB K F H d v:=by obtain ⟨v,q,rfl,h1,h2⟩:=r;cases h2;exact ⟨v,rfl,h1⟩
theorem zw:CRD K (fun xs H Q=>∃ x n,xs=[x]/\LenV K x H n/\Q (.int n) H) bN:=by
 intro F H ds vs Q t O r q k;unfold bN at q;split at q<;>first | (cases q;done) | skip
 . split at q
   . rename_i U;cases q;obtain ⟨v,rfl,L⟩:=gy r;cases L;exact ⟨_,_,rfl,⟨U,rfl⟩,k.int O⟩
   . cases q
 . cases q;obtain ⟨v,rfl,L⟩:=gy r;obtain ⟨a,vs,rfl,h1,h2⟩:=L;rw [<- h2.length] at k;exact ⟨_,_,rfl,.inr ⟨vs,O.tup h1,rfl⟩,k.int O⟩
 . cases q;obtain ⟨v,rfl,L⟩:=gy r;obtain ⟨a,vs,rfl,h1,h2⟩:=L;rw [<- h2.length] at k;exact ⟨_,_,rfl,.inl ⟨vs,h1,rfl⟩,k.int O⟩
def lw:List Dt->Option (List Bool)
 | []=>some []
 | .bl b::r=>(lw r).map (b::·)
 | _=>none
theorem nR {F:Hp}:∀ {l:List Dt} {vs:List V} {bs:List Bool},Reps K F l vs->lw l=some bs->vs=bs.map V.bl
 | [],vs,bs,r,h=>by cases h;simp only [Reps] at r;exact r
 | d::l,vs,bs,r,h=>by
  cases d<;>first | cases h;done | skip
  simp only [lw] at h;obtain ⟨cs,q,h⟩:=mS h;cases h;simp only [Reps,Rep] at r;obtain ⟨v,O,rfl,rfl,L⟩:=r;rw [nR L q];rfl
def xI (f:List Bool->Bool):List Dt->Option T
 | [.lst l]=>(lw l).map fun bs=>.leaf (.bl (f bs))
 | _=>none
theorem zy {f:List Bool->Bool}:CRD K (fun xs H Q=>∃ (a:Addr) (bs:List Bool),xs=[.ref a]/\SqL K H a (bs.map V.bl)/\Q (.bl (f bs)) H) (xI f):=by
 intro F H ds vs Q t O r q k;unfold xI at q;split at q<;>first | (cases q;done) | skip
 obtain ⟨bs,L,q⟩:=mS q;cases q;obtain ⟨v,rfl,U⟩:=gy r;obtain ⟨a,vs,rfl,h1,h2⟩:=U;have:=nR h2 L;subst this;exact ⟨a,bs,rfl,h1,k.bl O⟩
def bD:List Dt->Option T
 | [.lst l]=>some (.leaf (.tup l))
 | [.tup l]=>some (.leaf (.tup l))
 | _=>none
theorem jE:CRD K (fun xs H Q=>∃ p ys,xs=[.ref p]/\((SqL K H p ys/\∀ l,H l=none->Q (.ref l) (upd H l (.tup ys)))∨(SqT K H p ys/\Q (.ref p) H))) bD:=by
 intro F H ds vs Q t U r q k;unfold bD at q;split at q<;>first | (cases q;done) | skip
 . cases q;obtain ⟨v,rfl,L⟩:=gy r;obtain ⟨a,vs,rfl,h1,h2⟩:=L;exact ⟨a,vs,rfl,.inl ⟨h1,fun p hp=>k.tup U h2 hp⟩⟩
 . cases q;obtain ⟨v,rfl,L⟩:=gy r;rename_i l;have O:Rep K F (.tup l) v:=by simp only [Rep];exact L
   obtain ⟨a,vs,rfl,h1,h2⟩:=L;exact ⟨a,vs,rfl,.inr ⟨U.tup h1,k.leaf.here U O⟩⟩
end
variable {pins:List (Addr×Obj)} {s:qa4} {A:qd7} {E:Value->qa4->Prop}
section
variable {X:Cx} {o a b e c:Expr} {es:List Expr} {fa fb fo fe:De->Option Dt} {fs:De->Option (List Dt)} {pos apos cpos p:Pos} {x:Str} {sc:Scope} {i:Nat}
def ig (K:xA9) (mg:Str->Option Value) (x:Str) (d:Dt):Prop:=∃ v,(∃ u,mg x=some u/\RelV v u)/\∀ F,Rep K F d v
theorem xJ {d:Dt} (h:aB sc x=true) (q:ig X.K X.mg x d) (e1:bA X sc:=by rfl):DL X (.Name x pos) (kD d):=by obtain ⟨v,h1,h2⟩:=q;exact uI (jX h h1 e1) h2
theorem ii {mg:Str->Option Value} {i:Str} (h:∃ u,mg x=some u/\RelV (.str i) u):ig K mg x (.str i):=⟨_,h,fun _=>hW⟩
def nS:Dt->Bool
 | .ins _ _ _=>true
 | _=>false
def tyD:Dt->String
 | .ins _ _ _=>"object"
 | .non=>"NoneType"
 | .bl _=>"bool"
 | .int _=>"int"
 | .str _=>"str"
 | .tup _=>"tuple"
 | .lst _=>"list"
 | .dct _ _=>"dict"
 | .dcT _ _=>"dict"
noncomputable def zz (c:String):Dt->Bool
 | .ins _ _ _=>false
 | .non=>c=="NoneType"
 | .bl _=>c=="bool"||c=="int"
 | .int _=>c=="int"
 | .str _=>c=="str"
 | .tup _=>c=="tuple"
 | .lst _=>c=="list"
 | .dct _ _=>c=="dict"
 | .dcT _ _=>c=="dict"
theorem pK {Q:Value->qa4->Prop} {c:Value} {b:Bool} {u:Value} {d:Dt} (I:Inv X pins σ H s) (q:RelV v u) (r:Rep X.K H d v) (hi:nS d=false) (e:xL9 X.K (.type (tyD d)) c=some b) (h:∀ tk,Q (.bool b) {s with toks:=tk}) :
  wpAny (model X.prog X.w) A (call (.builtin "isinstance") [u,c]) Q E s:=by
 cases d with
 | non=>simp only [Rep] at r;subst r;exact fO I q .non e h
 | bl y=>simp only [Rep] at r;subst r;exact fO I q (.bl y) e h
 | int y=>simp only [Rep] at r;subst r;exact fO I q (.int y) e h
 | str y=>simp only [Rep] at r;subst r;exact fO I q (.str y) e h
 | tup l =>simp only [Rep] at r;obtain ⟨a,vs,rfl,h1,h2⟩:=r;cases q;obtain ⟨its,_,O,_⟩:=I.tuple h1;obtain ⟨o,L,e2,_⟩:=O;exact xD9 PySem.W.kitx_tuple I.kIn ⟨o,L,e2⟩ e (fun z=>nomatch z) h
 | lst l =>simp only [Rep] at r;obtain ⟨a,vs,rfl,h1,h2⟩:=r;cases q;obtain ⟨its,_,O,_⟩:=I.list h1;obtain ⟨o,n,L,e2,_⟩:=O;exact xD9 xQ9 I.kIn ⟨o,L,e2⟩ e (fun z=>nomatch z) h
 | dct ks l =>simp only [Rep] at r;obtain ⟨a,kvs,rfl,h1,_⟩:=r;cases q;obtain ⟨_,_,vs,_,p⟩:=k8 I.hok h1;obtain ⟨o,es,ep,L,e2,_⟩:=p;exact xD9 xM9 I.kIn ⟨o,L,e2.1⟩ e (fun z=>nomatch z) h
 | dcT ks l =>simp only [Rep] at r;obtain ⟨a,kvs,rfl,h1,_⟩:=r;cases q;obtain ⟨_,_,xs,_,o,es,ep,L,e2,_⟩:=(show ObjOk X.prog X.w H s.heap a (.dT kvs) from h1.ok I.hok);exact xD9 xM9 I.kIn ⟨o,L,e2.1⟩ e (fun z=>nomatch z) h
 | ins c ns l=>cases hi
def j2 (K:xA9) (c:String):Prop:=∀ d:Dt,nS d=false->xL9 K (.type (tyD d)) (.type c)=some (zz c d)
theorem pL:c8 X (.builtin "isinstance") (fun xs H Q=>∃ v c d b,xs=[v,.ty c]/\Rep X.K H d v/\nS d=false/\xL9 X.K (.type (tyD d)) (.type c)=some b/\Q (.bl b) H):=by intro pins s σ H xs us Q I r h;obtain ⟨v,c,d,b,rfl,rd,hi,e,q⟩:=h;obtain ⟨u,U,rfl,O,L⟩:=C0 r;cases L;exact pK I O rd hi e fun tk=>⟨.bl b,H,I.tok _,rfl,q⟩
def nT (c:String) (f:De->Option Dt):De->Option T:=fun δ=>(f δ).bind fun d=>if nS d then none else some (.leaf (.bl (zz c d)))
theorem lx {q:Str} {cs:String} {p1:Pos} (h:aB sc "isinstance"=true) (W:aB sc q=true) (hm:X.mg "isinstance"=none) (Y:X.mg q=none) (hv:qe4 q=some (.type cs)) (hk:j2 X.K cs) (ha:DB X a fa) (e1:bA X sc:=by rfl)
 (Z:qa6 [a,.Name q p2] X.env=(false,eval a X.env)::qa6 [.Name q p2] X.env:=by rfl) (U:qa6 [.Name q p2] X.env=(false,eval (.Name q p2) X.env)::qa6 [] X.env:=by rfl) (O:(qj4 pos (qa6 [.Name q p2] X.env)).any (·.1)=false:=by rfl) :
  DO X (.Call (.Name "isinstance" p1) [a,.Name q p2] [] pos) (nT cs fa):=
 PE.mono (fQ h pL hm kP (bU ha (bU (uF (v:=.ty cs) W Y hv rfl e1) dB U) Z) e1 Z O) fun σ H Q ⟨Φ,δ,F,t,hK,en,L,k⟩=>by
  unfold nT at L;obtain ⟨d,hd,L⟩:=bS L;cases hi:nS d with
  | true=>rw [hi] at L;cases L
  | false =>rw [hi] at L;cases L;exact ⟨Φ,δ,F,d,hK,en,hd,fun v H' F' st r=>⟨v,cs,d,_,rfl,r.rep st.fh,hi,hk d hi,(k.step st).bl st.fh⟩⟩
def MRD (K:xA9) (r:V->List V->Hp->VK->Prop) (g:Dt->List Dt->Option T):Prop:=∀ F H d v ds vs (Q:VK) t,Same F H->RepB K F H d v->lp K F H ds vs->g d ds=some t->KO K F H t Q->r v vs H Q
def iW:List Dt->Option (List Str)
 | []=>some []
 | .str b::r=>(iW r).map (b::·)
 | _=>none
theorem ly {F:Hp}:∀ {l:List Dt} {vs:List V} {bs:List Str},Reps K F l vs->iW l=some bs->vs=bs.map V.str
 | [],vs,bs,r,h=>by cases h;simp only [Reps] at r;exact r
 | d::l,vs,bs,r,h=>by
  cases d<;>first | cases h;done | skip
  simp only [iW] at h;obtain ⟨cs,q,h⟩:=mS h;cases h;simp only [Reps,Rep] at r;obtain ⟨v,O,rfl,rfl,L⟩:=r;rw [ly L q];rfl
def z15 (i:Nat) (f:De->Option Dt):De->Option Out:=fun δ=>match δ[i]? with
 | some (some (.lst l))=>(f δ).bind fun d=>if l.length<qb0 then some (.nx (δ.set i (some (.lst (l++[d]))))) else none
 | _=>none
theorem En.ownL {F:Hp} (en:En Φ δ σ F H) (h:δ[i]?=some (some (.lst l))):∃ a vs,σ[i]?=some (some (.ref a))/\H a=some (.lst vs)/\Reps Φ.K F l vs:=by obtain ⟨v,q⟩:=en.has i _ h;obtain ⟨S,s⟩:=en.sep;obtain ⟨a,vs,rfl,_,h1,h2⟩:=s.own i _ v (cW h q);exact ⟨a,vs,q,h1,h2⟩
theorem bX (hx:PE X o (iK i)) (he:DL X e fe)
  (U:za4 o "append" X.env (eval o X.env)=eval o X.env:=by rfl)
  (W:((qj4 cpos (qa6 [e] X.env)).all (fun x=>!x.1)&&(backToKw cpos (zf3 [] X.env)).all (fun x=>x.1.isSome)
   && decide ([e].length+([]:List zd1).length+(if ([]:List zd1).isEmpty then 0 else 1)<30))=true:=by rfl)
  (O:(apos.endLine==cpos.line)=true:=by rfl) (hs:qa6 [e] X.env=(false,eval e X.env)::qa6 [] X.env:=by rfl) (q:(qj4 cpos (qa6 [] X.env)).any (·.1)=false:=by rfl)
  (Y:qk4 (.Call (.Attribute o "append" apos) [e] [] cpos) none pos.line X.env=pure false:=by rfl) :
  DS1 X (.Expr (.Call (.Attribute o "append" apos) [e] [] cpos) pos) (z15 i fe):=
 PS.mono (md (ut PySem.F.plainAttrs_list PySem.F.slot_list_append PySem.F.type_list_append fP hx (bU he dB hs) U W O hs q) Y) fun D σ H ⟨Φ,δ,F,ot,hK,en,L,k⟩=>by
  unfold z15 at L;split at L<;>first | cases L;done | skip
  rename_i l hl;obtain ⟨d,hd,L⟩:=bS L;split at L<;>first | cases L;done | skip
  rename_i hz;cases L;obtain ⟨a,vs,hv,h1,h2⟩:=en.ownL hl;refine ⟨.ref a,hv,.inl ⟨rfl,vs,.inl (.inl h1)⟩,Φ,δ,F,d,hK,en,hd,fun v H1 F1 st rv=>?_⟩;have Z:=en.step st;have h1':=st.hh _ _ h1;refine ⟨a,vs,v,rfl,rfl,h1',by rw [h2.length];exact hz,?_⟩;refine k σ F1 _ (Z.poke hl hv (fun d z=>nomatch z) fun S sa=>⟨a,vs++[v],rfl,sa,aq,(h2.same st.ff).append (Reps.one (hK▸rv))⟩)
end
def dU {κ:Type} [DecidableEq κ]:List κ->List Dt->κ->Option Dt
 | k'::ks,d::l,k=>if k'=k then some d else dU ks l k
 | _,_,_=>none
theorem fT {κ:Type} [DecidableEq κ] {F:Hp} {k:κ}:∀ {kvs:List (κ×V)} {l:List Dt} {d:Dt},Reps K F l (kvs.map (·.2))->dU (kvs.map (·.1)) l k=some d->∃ v,da kvs k=some v/\Rep K F d v
 | [],l,d,r,h=>by cases l<;>cases h
 | p::kvs,[],d,r,h=>by cases h
 | p::kvs,e::l,d,r,h=>by
  simp only [qa5,Reps] at r;obtain ⟨v,U,q,L,O⟩:=r;cases q;simp only [qa5,dU] at h;by_cases hk:p.1=k
  . rw [if_pos hk] at h;cases h;exact ⟨p.2,fj hk,L⟩
  . rw [if_neg hk] at h;rw [dL hk];exact fT O h
theorem lz {κ:Type} [DecidableEq κ] {F:Hp} {k:κ}:∀ {kvs:List (κ×V)} {l:List Dt},Reps K F l (kvs.map (·.2))->dU (kvs.map (·.1)) l k=none->da kvs k=none
 | [],l,r,h=>rfl
 | p::kvs,[],r,h=>by simp only [qa5,Reps] at r;cases r
 | p::kvs,e::l,r,h=>by
  simp only [qa5,Reps] at r;obtain ⟨v,O,q,U,L⟩:=r;cases q;simp only [qa5,dU] at h;by_cases hk:p.1=k
  . rw [if_pos hk] at h;cases h
  . rw [if_neg hk] at h;rw [dL hk];exact lz L h
def jt:Dt->Option Key
 | .int i=>some (.inl i)
 | .str x=>some (.inr x)
 | _=>none
theorem ij {F:Hp} {d:Dt} {k:Key} (r:RepB K F H d v) (h:jt d=some k):v=kV k:=by
 unfold jt at h;split at h<;>first | (cases h;done) | skip
 . cases h;exact r
 . cases h;exact r
def aj:Dt->Dt->Option T
 | .dct ks l,k=>(jt k).bind fun k=>(dU ks l k).map .leaf
 | x,y=>gIx x y
variable {g:Dt->Dt->Option T}
section
variable {X:Cx} {o a b e c:Expr} {es:List Expr} {fa fb fo fe fk:De->Option Dt} {fs:De->Option (List Dt)} {pos apos cpos p:Pos} {x:Str} {sc:Scope} {i:Nat}
theorem Bg {k:Nat} (hr:Room k X.A) (Y:DB X a fa) (hb:DB X b fb) (hs:mi b:=by exact fun _ _=>rfl) (hn:sy b:=by exact fun _ _=>rfl):DO X (.Subscript a b pos) (d2 aj fa fb):=
 PE.mono (PE.or (zj uo Y hb hs) (qD (gU hr) Y hb hn)) fun σ H Q ⟨Φ,δ,F,t,W,en,q,k⟩=>by
  unfold d2 at q;obtain ⟨x,hx,q⟩:=bS q;obtain ⟨y,Z,q⟩:=bS q;unfold aj at q;split at q
  . rename_i ks l _;obtain ⟨kk,hk,q⟩:=bS q;obtain ⟨d,hd,q⟩:=mS q;cases q;refine .inr ⟨Φ,δ,F,_,W,en,hx,fun v H1 F1 st rv=>⟨Φ,δ,F1,y,W,en.step st,Z,fun v2 H2 F2 L O=>?_⟩⟩;obtain ⟨ad,kvs,rfl,h1,h2,h3⟩:=rv;subst h2;obtain ⟨w,hw,U⟩:=fT h3 hd;have:=ij O hk;subst this;exact ⟨ad,w,rfl,.inl ⟨kvs,kk,L.hh.rd h1,rfl,hw.symm⟩,(k.step (st.trans L)).leaf.here L.fh (U.same L.ff)⟩
  . exact .inl (ln r_ix ⟨Φ,δ,F,t,W,en,by unfold d2;rw [hx,Z];exact q,k⟩)
def aY (neg:Bool):Dt->Dt->Option T
 | k,.dct ks l=>(jt k).map fun k=>.leaf (.bl (if neg then !(dU ks l k).isSome else (dU ks l k).isSome))
 | x,y=>gIn neg x y
theorem mz {κ:Type} [DecidableEq κ] {F:Hp} {k:κ} {kvs:List (κ×V)} (r:Reps K F l (kvs.map (·.2))):(dU (kvs.map (·.1)) l k).isSome=(da kvs k).isSome:=by
 cases h:dU (kvs.map (·.1)) l k with
 | none=>rw [lz r h];rfl
 | some d =>obtain ⟨v,e,_⟩:=fT r h;rw [e];rfl
theorem zA (h:tO K (d2 (aY false) fa fb) σ H Q):tOp (uU K false) (tBd K fa) (tBd K fb) σ H Q∨tDIn (tBd K fa) (tBd K fb) σ H Q:=by
 obtain ⟨Φ,δ,F,t,U,en,q,k⟩:=h;unfold d2 at q;obtain ⟨x,Y,q⟩:=bS q;obtain ⟨y,W,q⟩:=bS q;unfold aY at q;split at q
 . rename_i ks l;obtain ⟨kk,hk,q⟩:=mS q;cases q;refine .inr ⟨Φ,δ,F,x,U,en,Y,fun v H1 F1 st rv=>⟨Φ,δ,F1,_,U,en.step st,W,fun v2 H2 F2 L O=>?_⟩⟩;obtain ⟨Z,kvs,rfl,h1,h2,h3⟩:=O;subst h2;have:=ij rv hk;subst this;refine ⟨Z,_,rfl,.inl ⟨kvs,kk,h1,rfl,rfl⟩,?_⟩;rw [<- mz h3];exact (k.step (st.trans L)).bl L.fh
 . exact .inl (ln (r_in false) ⟨Φ,δ,F,t,U,en,by unfold d2;rw [Y,W];exact q,k⟩)
theorem nU (h:tO K (d2 (aY true) fa fb) σ H Q):tOp (uU K true) (tBd K fa) (tBd K fb) σ H Q∨qC (tBd K fa) (tBd K fb) σ H Q:=by
 obtain ⟨Φ,δ,F,t,U,en,q,k⟩:=h;unfold d2 at q;obtain ⟨x,Y,q⟩:=bS q;obtain ⟨y,W,q⟩:=bS q;unfold aY at q;split at q
 . rename_i ks l;obtain ⟨kk,hk,q⟩:=mS q;cases q;refine .inr ⟨Φ,δ,F,x,U,en,Y,fun v H1 F1 st rv=>⟨Φ,δ,F1,_,U,en.step st,W,fun v2 H2 F2 L O=>?_⟩⟩;obtain ⟨Z,kvs,rfl,h1,h2,h3⟩:=O;subst h2;have:=ij rv hk;subst this;refine ⟨Z,_,rfl,.inl ⟨kvs,kk,h1,rfl,rfl⟩,?_⟩;rw [<- mz h3];exact (k.step (st.trans L)).bl L.fh
 . exact .inl (ln (r_in true) ⟨Φ,δ,F,t,U,en,by unfold d2;rw [Y,W];exact q,k⟩)
theorem Dm {k:Nat} (U:Room k X.A) (L:DB X a fa) (O:DB X b fb) (q:qf4 .In b=false:=by with_unfolding_all rfl):DO X (.Compare a [.In] [b] pos) (d2 (aY false) fa fb):=PE.mono (PE.or (jy uV L O q) (ub (uv (gU U) L O) q)) fun σ H Q h=>zA h
theorem uY {k:Nat} (U:Room k X.A) (L:DB X a fa) (O:DB X b fb) (q:qf4 .NotIn b=false:=by with_unfolding_all rfl):DO X (.Compare a [.NotIn] [b] pos) (d2 (aY true) fa fb):=PE.mono (PE.or (jy lv L O q) (ub (iS (gU U) L O) q)) fun σ H Q h=>nU h
theorem PT.or {t:TT} (h:PT X e t) (h':PT X e t'):PT X e (fun σ H Q=>t σ H Q∨t' σ H Q):=fun pins s σ H Q I q=>q.elim (h pins s σ H Q I) (h' pins s σ H Q I)
theorem zB {Q:Bool->Hp->Prop} (h:tTr K (tB2 g fa fb) σ H Q):tO K (d2 g fa fb) σ H (fun v H'=>∃ c,v=.bl c/\Q c H'):=by obtain ⟨Φ,δ,F,t,L,en,q,k⟩:=h;unfold tB2 at q;obtain ⟨z,O,q⟩:=bS q;exact ⟨Φ,δ,F,z,L,en,O,fun v H' F' S st o U=>⟨t,qO q o,k H' F' st⟩⟩
theorem Dn {k:Nat} (U:Room k X.A) (L:DB X a fa) (O:DB X b fb) (q:qf4 .In b=false:=by with_unfolding_all rfl):DT X (.Compare a [.In] [b] pos) (tB2 (aY false) fa fb):=PT.mono (PT.or (gM uV L O q) (ma (uv (gU U) L O) q)) fun σ H Q h=>zA (zB h)
theorem uZ {k:Nat} (U:Room k X.A) (L:DB X a fa) (O:DB X b fb) (q:qf4 .NotIn b=false:=by with_unfolding_all rfl):DT X (.Compare a [.NotIn] [b] pos) (tB2 (aY true) fa fb):=PT.mono (PT.or (gM lv L O q) (ma (iS (gU U) L O) q)) fun σ H Q h=>nU (zB h)
theorem PS.or {e:Stmt} {t t':TS} (h:PS X e t) (h':PS X e t'):PS X e (fun σ H Q=>t σ H Q∨t' σ H Q):=fun pins s σ H Q I q=>q.elim (h pins s σ H Q I) (h' pins s σ H Q I)
def iX:De->Option Out:=fun _=>none
theorem fF:DS1 X st iX:=fun pins s σ H D I h=>by obtain ⟨Φ,δ,F,o,L,en,q,k⟩:=h;cases q
end
section
variable {prog:qc5} {w:World} {A:qd7} {E:Value->qa4->Prop} {s:qa4} {I t:Addr} {j:Nat} {vs:Array Value}
theorem pM {y:Value} {Q:Value->qa4->Prop} (Y:s.heap.IsTupleIter I t j) (hv:s.heap.IsTuple t vs) (hy:vs[j]?=some y)
  (q:∀ h',h'.IsTupleIter I t (j+1)->qm5 I s.heap h'->Q y {s with heap:=h'}):wpAny (model prog w) A (ql3 (.ref I)) Q E s:=by
 obtain ⟨oi,O,Z,L⟩:=id Y;obtain ⟨ot,W,_,nt,U⟩:=hv;unfold ql3;refine wB (qf1 (name:=qa0 "__next__") Y.typeIs qk7 (qf6 qk7 Y.typeIs qv7 ?_ (qu5 _)));show wpAny _ _ (field (.ref I) 0 >>= _) _ _ s;refine wB (qs3 O L (x:=.ref t) rfl ?_);show wpAny _ _ (if (qf3 t==qh6)=true then _ else _) _ _ s;rw [if_neg (show ¬ (qf3 t==qh6)=true by exact qb6)];show wpAny _ _ (field (.ref I) 1 >>= _) _ _ s;refine wB (qs3 O L (x:=.int j 0) rfl ?_);show wpAny _ _ (seqItems? (.ref t) >>= _) _ _ s;refine wB (qx6 W U ?_);simp only [qe1,hy];refine qh2 (qj7 O L (by simp) (qa3 ⟨y,rfl,qa3 (q _ ?_ (qe9 ..))⟩));exact ⟨_,qf2 _ O (qi0 (qe3 L _)),(qp1 ..).trans Z,by rw [qe3 L];simp [qf8]⟩
theorem sI {Q:Value->qa4->Prop} (Z:A.handled=none) (W:s.heap.IsTupleIter I t j) (hv:s.heap.IsTuple t vs) (hy:vs[j]?=none)
  (q:∀ h' e,zf5 I s.heap h'->(∃ o,h'.get? e=some o/\o.cls=.type "StopIteration")->E (.ref e) {s with heap:=h'}):wpAny (model prog w) A (ql3 (.ref I)) Q E s:=by
 obtain ⟨oi,O,hci,L⟩:=id W;obtain ⟨ot,Y,_,nt,U⟩:=hv;unfold ql3;refine wB (qf1 (name:=qa0 "__next__") W.typeIs qk7 (qf6 qk7 W.typeIs qv7 ?_ (qu5 _)));show wpAny _ _ (field (.ref I) 0 >>= _) _ _ s;refine wB (qs3 O L (x:=.ref t) rfl ?_);show wpAny _ _ (if (qf3 t==qh6)=true then _ else _) _ _ s;rw [if_neg (show ¬ (qf3 t==qh6)=true by exact qb6)];show wpAny _ _ (field (.ref I) 1 >>= _) _ _ s;refine wB (qs3 O L (x:=.int j 0) rfl ?_);show wpAny _ _ (seqItems? (.ref t) >>= _) _ _ s;refine wB (qx6 Y U ?_);simp only [qe1,hy];refine qh2 (zg8 (qh2 (qj7 O L (by simp) ?_)));show wpAny _ _ (zg2 (.type "StopIteration") [] >>= _) _ _ _;refine wB ?_;simp only [zg2,zh9];refine wB (qd2 ?_ (by first | size_fits | decide));refine qh2 (m:=ql4 _ _) (za6 (a:=qh6) (by first | rfl | (simp only [ql4]<;>rfl)) ?_);refine qd2 ?_ (by first | size_fits | decide);simp only [zg3];refine wB (za7 ?_)
 first | rw [Z] | rw [show A.in1.handled=none by exact Z]
 refine wB (qa3 (zf6 ?_));exact q _ _ (((qe9 ..).extBut.push _).push _) ⟨_,qa7 _ rfl,rfl⟩
end
variable {prog:qc5} {w:World}
theorem nV (O:A.handled=none) (I t:Addr) (q:t≠I) (vs:Array Value):Draws prog w A I [I,t] vs.size (fun i v=>vs[i]?=some v) (fun i h=>h.IsTupleIter I t i/\h.IsTuple t vs) where
 live:=fun _ _ st=>let ⟨o,ho,_⟩:=st.1;⟨o,ho⟩
 frame:=fun _ _ _ st hk=>⟨let ⟨o,ho,r⟩:=st.1;⟨o,hk I (by simp) o ho,r⟩,let ⟨o,ho,r⟩:=st.2;⟨o,hk t (by simp) o ho,r⟩⟩
 item:=fun i s Q E hi st L=>pM st.1 st.2 (y:=vs[i]) (by simp [hi]) fun h' a b=>L _ h' s.toks (by simp [hi]) ⟨a,let ⟨o,ho,r⟩:=st.2;⟨o,b.extBut _ _ q ho,r⟩⟩ b
 done:=fun s Q E st U=>sI O st.1 st.2 (by simp) U
def SqB (b:Bool) (K:xA9) (H:Hp) (a:Addr) (xs:List V):Prop:=match b with
 | true=>SqL K H a xs
 | false=>SqT K H a xs
def ItB (b:Bool) (h:Heap) (I a:Addr) (i:Nat):Prop:=match b with
 | true=>h.IsListIter I a i
 | false=>h.IsTupleIter I a i
def CoB (b:Bool) (h:Heap) (a:Addr) (vs:Array Value):Prop:=match b with
 | true=>h.IsList a vs
 | false=>h.IsTuple a vs
variable {h:Heap} {I:Addr}
theorem ItB.obj (x:ItB b h I a i):∃ o,h.get? I=some o/\(o.cls=.type "list_iterator"∨o.cls=.type "tuple_iterator")/\∀ v,o.data≠.cell v:=by
 cases b with
 | true=>obtain ⟨o,e,c,d⟩:=x;exact ⟨o,e,.inl c,fun v z=>by rw [d] at z;cases z⟩
 | false=>obtain ⟨o,e,c,d⟩:=x;exact ⟨o,e,.inr c,fun v z=>by rw [d] at z;cases z⟩
variable {h':Heap}
theorem ItB.at (x:ItB b h I a i) (k:∀ o,h.get? I=some o->h'.get? I=some o):ItB b h' I a i:=by
 cases b with
 | true=>obtain ⟨o,e,r⟩:=x;exact ⟨o,k o e,r⟩
 | false=>obtain ⟨o,e,r⟩:=x;exact ⟨o,k o e,r⟩
theorem CoB.obj {vs:Array Value} (x:CoB b h a vs):∃ o,h.get? a=some o/\(o.cls=.type "list"∨o.cls=.type "tuple"):=by
 cases b with
 | true=>obtain ⟨o,e,c,_⟩:=x;exact ⟨o,e,.inl c⟩
 | false=>obtain ⟨o,e,c,_⟩:=x;exact ⟨o,e,.inr c⟩
theorem zC {x y:String} (h:x≠y):qo8 x≠qo8 y:=fun z=>h (by cases z;rfl)
theorem u0 {c:Bool} {l:Addr} {vs:Array Value} (x:ItB b h I a i) (y:CoB c h l vs):l≠I:=by obtain ⟨o,O,L,_⟩:=x.obj;obtain ⟨o',e2,q⟩:=y.obj;rintro rfl;rw [O] at e2;cases e2;rcases L with L | L<;>rcases q with q | q<;>rw [L] at q<;>exact absurd q (zC (by decide))
variable {fp:List Addr}
section
variable {X:Cx} {pins:List (Addr×Obj)} {σ:St} {H:Hp} {s:qa4} {a I:Addr} {xs:List V} {b:Bool}
theorem Inv.seqB (J:Inv X pins σ H s) (h:SqB b X.K H a xs):∃ its:List Value,Vals xs its/\CoB b s.heap a its.toArray:=by
 cases b with
 | true=>obtain ⟨its,r,p,_⟩:=J.list h;exact ⟨its,r,p.isList⟩
 | false=>obtain ⟨its,r,p,_⟩:=J.tuple h;exact ⟨its,r,p⟩
theorem Inv.seqB_inj {ys:List V} (J:Inv X pins σ H s) (h:SqB b X.K H a xs) (h':SqB b X.K H a ys):xs=ys:=by
 cases b with
 | true=>exact J.list_inj h h'
 | false=>exact J.tuple_inj h h'
theorem u1 (L:A.handled=none) (q:a≠I) (vs:Array Value):Draws prog w A I [I,a] vs.size (fun i v=>vs[i]?=some v) (fun i h=>ItB b h I a i/\CoB b h a vs):=by
 cases b with
 | true=>exact Draws.list L I a q vs
 | false=>exact nV L I a q vs
theorem Inv.turnedL {t':Nat} (J:Inv X pins σ H s) (k:∀ b o,b∉fp->s.heap.get? b=some o->h'.get? b=some o) (O:∀ b∈fp,gn X pins H b):Inv X pins σ H {s with heap:=h',toks:=t'}:=by
 have U:∀ b u,H b=some u->b∉fp:=fun b u e z=>by rw [(O b z).1] at e;cases e
 refine J.step (g':=s.gens) (d':=s.drawn) (ch:=fp) (fun b W=>?_) (fun b o _ _ L e _=>k b o L e) (fun b o _ _ L e _=>⟨o.slots,k b o L e⟩) (fun _ _ _ _ n=>n)
  (fun b o L e=>⟨o,k b o L e⟩) (fun _ _ e=>e) (fun _ _ _ e=>e) (fun b ps e=>⟨#[],by rw [e];simp⟩) (fun _ _ e=>e) (fun m Z=>?_) (fun b u e=>?_) J.bare
 . exact ⟨(O b W).2.2.2.1,(O b W).2.1,(O b W).2.2.2.2.1,(O b W).2.2.2.2.2⟩
 . obtain ⟨o,es,ep,Y,r⟩:=Z;exact ⟨o,es,ep,k _ o (fun z=>(O _ z).2.1 rfl) Y,r⟩
 . refine (J.hok b u e).stay (fun c v L q=>k c v ?_ q) (fun _ q=>q) (fun _ _ q=>q) fun _ _ _ q=>q
   rcases L with z | z
   . rw [z];exact U b u e
   . exact U c _ z
end
variable {u:HO}
section
variable {X:Cx} {pins:List (Addr×Obj)} {σ:St} {H:Hp} {s:qa4}
theorem Inv.turnedT {t':Nat} {t:Addr} (J:Inv X pins σ H s) (k:∀ b o,b∉fp->s.heap.get? b=some o->h'.get? b=some o) (W:∀ b∈fp,gn X pins H b) (ht:s.heap.objs.size<=t) (new:ObjOk X.prog X.w (upd H t u) h' t u) :
  Inv X pins σ (upd H t u) {s with heap:=h',toks:=t'}:=by
 have Y:∀ b u,H b=some u->b∉fp:=fun b u e z=>by rw [(W b z).1] at e;cases e
 have hn:H t=none:=J.hok.fresh ht;have L:∀ b v,H b=some v->b≠t:=fun b v e=>bi e hn
 have Z:∀ b o,s.heap.get? b=some o->b≠t:=fun b o e z=>by subst z;exact absurd (qa8 e) (qi9.mpr ht)
 refine J.step (g':=s.gens) (d':=s.drawn) (ch:=fp) (fun b U=>?_) (fun b o _ _ O e _=>k b o O e) (fun b o _ _ O e _=>⟨o.slots,k b o O e⟩) (fun b o _ e n=>by rw [ao (Z b o e)];exact n)
  (fun b o O e=>⟨o,k b o O e⟩) (fun b xs e=>by rw [ao (L b _ e)];exact e) (fun b o v e=>by rw [ao (L b _ e)];exact e) (fun b ps e=>⟨#[],by rw [ao (L b _ e),e];simp⟩) (fun b xs e=>by rw [ao (L b _ e)];exact e) (fun m hm=>?_) (fun b v e=>?_) J.bare
 . exact ⟨(W b U).2.2.2.1,(W b U).2.1,(W b U).2.2.2.2.1,(W b U).2.2.2.2.2⟩
 . obtain ⟨o,es,ep,ho,r⟩:=hm;exact ⟨o,es,ep,k _ o (fun z=>(W _ z).2.1 rfl) ho,r⟩
 . by_cases U:b=t
   . subst U;rw [aq] at e;cases e;exact new
   . rw [ao U] at e;refine (J.hok b v e).stay (fun c ob O q=>k c ob ?_ q) (fun c q=>by rw [ao (L c _ q)];exact q) (fun c ys q=>by rw [ao (L c _ q)];exact q) fun c ob ys q=>by rw [ao (L c _ q)];exact q
     rcases O with z | z
     . rw [z];exact Y b v e
     . exact Y c _ z
end
noncomputable def Ite (b:Bool) (K:xA9) (a:Addr):It:=⟨fun i H=>∃ xs x,SqB b K H a xs/\xs[i]?=some x,fun i H x H'=>∃ t v,H t=none/\x=.ref t/\H'=upd H t (.tup [.int i,v])/\∀ xs,SqB b K H a xs->xs[i]?=some v,fun i H=>∃ xs,SqB b K H a xs/\xs.length=i⟩
variable {P:qc5}
theorem sJ {elts:List Expr} {pos:Pos} (b:Bool) (a e I:Addr) (Z:e≠I) :
  Turn P w K (.Tuple elts n pos) (Ite b K a) [e,I] e (fun i h=>(∃ W,IsEnum h e I i W)/\ItB b h I a i) where
 mem:=by simp
 obj:=fun i h st c hc=>by
  obtain ⟨⟨W,U⟩,O⟩:=st;simp only [qb2,qk9,or_false] at hc;rcases hc with rfl | rfl
  . exact ⟨_,U,fun v z=>nomatch z⟩
  . obtain ⟨o,q,_,d⟩:=O.obj;exact ⟨o,q,d⟩
 keep:=fun i h h' st k=>by obtain ⟨⟨W,U⟩,O⟩:=st;exact ⟨⟨W,k e (by simp) _ U⟩,O.at fun o q=>k I (by simp) o q⟩
 item:=by
  intro X hP hw hK hc i pins s σ H E J hf st hg;subst hP hw hK;obtain ⟨⟨W,U⟩,O⟩:=st;obtain ⟨xs,x,hq,hx⟩:=hg;obtain ⟨its,rv,co⟩:=J.seqB hq;obtain ⟨u,hu,ru⟩:=rv.get hx;have hi:i<its.toArray.size:=by simpa using (gX hu).1
  have hae:e∉[I,a]:=by simp only [qb2,qk9,or_false,not_or];refine ⟨Z,fun z=>?_⟩;obtain ⟨o,q,c⟩:=co.obj;rw [<- z,U] at q;cases q;rcases c with c | c<;>exact absurd c (zC (by decide))
  refine wpAny_pyNext_enum_itemD (u1 (A:=X.A.in1) (b:=b) (I:=I) (a:=a) (show X.A.in1.handled=none from J.ok.hd hc) (u0 O co) its.toArray) U ⟨O,co⟩ hi Z hae fun y h1 tk hy ho hs1 hT hsz hk=>⟨_,rfl,?_⟩
  have ey:y=u:=by rw [show its.toArray[i]?=its[i]? by simp,hu] at hy;exact (qd5 hy).symm
  subst ey;refine wpAny_letOwnedTupleGo_enum ho fun h2 he2 Y=>?_
  have kk:∀ c o,c∉[e,I]->s.heap.get? c=some o->h2.get? c=some o:=fun c o L q=>by simp only [qb2,qk9,or_false,not_or] at L;exact (Y.2 c L.1).trans (hk c o L.1 L.2 q)
  have lt:∀ c∈[e,I],c<s.heap.objs.size:=fun c L=>by
   simp only [qb2,qk9,or_false] at L;rcases L with rfl | rfl
   . exact qa8 U
   . obtain ⟨o,q,_⟩:=O.obj;exact qa8 q
  -- first the records,then the pair
  have hT2:h2.get? s.heap.objs.size=some {cls:=.type "tuple",data:=.seq #[.int i tk,y]}:=(Y.2 _ (fun z=>qm7 _ (z▸lt e (by simp)))).trans hT
  have J2:Inv X pins σ (upd H s.heap.objs.size (.tup [.int i,x])) {s with heap:=h2,toks:=tk+1}:=by refine J.turnedT kk hf (nL _) ⟨by show 2<=qb0;decide,[.int i tk,y],.cons ⟨_,rfl⟩ (.cons ru .nil),?_⟩;exact ⟨_,hT2,rfl,_,rfl⟩
  refine ⟨.ref s.heap.objs.size,_,J2,rfl,⟨_,x,J.hok.fresh (qu9 _),rfl,rfl,fun ys hy=>by rw [J.seqB_inj hy hq];exact hx⟩,⟨⟨_,by simpa using he2⟩,hs1.1.at fun o q=>(Y.2 I (qn9 Z)).trans q⟩,fun c L=>?_⟩;rw [ao (qc1 (lt c L))];exact (hf c L).1
 done:=by
  intro X hP hw hK hc i pins s σ H E J hf st hg;subst hP hw hK;obtain ⟨⟨W,U⟩,O⟩:=st;obtain ⟨xs,hq,hx⟩:=hg;obtain ⟨its,rv,co⟩:=J.seqB hq;have hi:i=its.toArray.size:=by rw [<- hx];simpa using rv.length
  refine wpAny_pyNext_enum_endD (u1 (A:=X.A.in1) (b:=b) (I:=I) (a:=a) (show X.A.in1.handled=none from J.ok.hd hc) (u0 O co) its.toArray) U (show ItB b s.heap I a its.toArray.size/\CoB b s.heap a its.toArray from ⟨hi▸O,co⟩) fun h' eb=>⟨rfl,?_⟩
  exact J.turnedL (t':=s.toks) (fun c o L q=>eb c o (fun z=>L (by simp [z])) q) hf
 self:=fun A i s Q E st h=>by obtain ⟨⟨W,U⟩,O⟩:=st;exact wpAny_pyIter_enum U h
theorem nW (t:Addr) (vs:Array Value) (n:Nat) (W:Option Addr) (sl:Array (Option Value)) :
  Meets (qk5.«enumerate.__new__» ⟨[.type "enumerate",.ref t],[]⟩) (fun _ R s=>s.heap.get? t=some {cls:=.type "tuple",dict:=W,data:=.seq vs n,slots:=sl}∧
   R (.ok (.ret (.ref (s.heap.push {cls:=.type "tuple_iterator",data:=.fields #[.ref t,.int 0 0]}).objs.size)))
    {s with heap:=(s.heap.push {cls:=.type "tuple_iterator",data:=.fields #[.ref t,.int 0 0]}).push {cls:=.type "enumerate",data:=.fields #[.none,.bool false,.ref s.heap.objs.size,qf8 0,.none,.none]}}):=
 .of_wp fun prog w A R s h=>by
  obtain ⟨hp,g,d,tk,U⟩:=s;obtain ⟨q,h⟩:=h;have O:=sub_enumerate;have L:Heap.IsTuple (qa4.heap ⟨hp,g,d,tk,U⟩) t vs:=⟨_,q,rfl,n,rfl⟩;wp_walk using qq8 q;refine wpAny_stack_any fun st=>qa3 ?_
  split
  . rename_i c _ _ _ _ _;cases (c==qo8 "enumerate")<;>(wp_walk using qq8 q,qw7 L)<;>exact ⟨_,rfl,h⟩
  . (wp_walk using qq8 q,qw7 L)<;>exact ⟨_,rfl,h⟩
section
variable {prog:qc5} {w:World} {A:qd7} {E:Value->qa4->Prop} {s:qa4}
theorem pN {t:Addr} {vs:Array Value} {Q:Value->qa4->Prop} (Z:s.heap.IsTuple t vs)
  (h:∀ h',IsEnum h' (s.heap.objs.size+1) s.heap.objs.size 0 .none->h'.IsTupleIter s.heap.objs.size t 0->h'.objs.size=s.heap.objs.size+2→
   (∀ c u,s.heap.get? c=some u->h'.get? c=some u)->Q (.ref (s.heap.objs.size+1)) {s with heap:=h'}) :
  wpAny (model prog w) A (call (.type "enumerate") [.ref t]) Q E s:=by
 obtain ⟨⟨c,dct,dt,sl⟩,Y,U,n,W⟩:=Z;have U:c=.type "tuple":=U;have W:dt=.seq vs n:=W;subst U W;refine callType_new F.called_enumerate (by decide) (F.typeCall_enumerate_1 _) (F.newCall_enumerate_1 _) (fun obj=>F.args_object_init_2 obj _) F.entry_enumerate_new (nW t vs n dct sl) ⟨Y,?_⟩;have O:(s.heap.push {cls:=.type "tuple_iterator",data:=.fields #[.ref t,.int 0 0]}).objs.size=s.heap.objs.size+1:=qg0 ..;have L:((s.heap.push {cls:=.type "tuple_iterator",data:=.fields #[.ref t,.int 0 0]}).push {cls:=.type "enumerate",data:=.fields #[.none,.bool false,.ref s.heap.objs.size,qf8 0,.none,.none]}).objs.size=s.heap.objs.size+2:=by rw [qg0,O]
 rw [O];have q:=qa7 (s.heap.push {cls:=.type "tuple_iterator",data:=.fields #[.ref t,.int 0 0]}) (o:={cls:=.type "enumerate",data:=.fields #[.none,.bool false,.ref s.heap.objs.size,qf8 0,.none,.none]}) rfl;rw [O] at q;exact ⟨⟨_,q,rfl⟩,h _ q ⟨_,gP _ (qa7 _ rfl),rfl,rfl⟩ L fun c u z=>gP _ (gP _ z)⟩
theorem pO {t:Addr} {vs:Array Value} {Q:Value->qa4->Prop} (q:CoB b s.heap t vs)
 (h:∀ h',IsEnum h' (s.heap.objs.size+1) s.heap.objs.size 0 .none->ItB b h' s.heap.objs.size t 0->h'.objs.size=s.heap.objs.size+2→
 (∀ c u,s.heap.get? c=some u->h'.get? c=some u)->Q (.ref (s.heap.objs.size+1)) {s with heap:=h'}) :
  wpAny (model prog w) A (call (.type "enumerate") [.ref t]) Q E s:=by
 cases b with
 | true=>exact call_enumerate_list q h
 | false=>exact pN q h
end
variable {ta:TA}
section
variable {X:Cx} {x:Expr} {p pos tpos:Pos} {sc:Scope} {fs:De->Option (List Dt)} {elts:List Expr} {n:Nat}
def Do (K:xA9) (ta:TA):TI:=fun σ H R=>ta σ H fun vs H1=>∃ b a xs,vs=[.ref a]/\SqB b K H1 a xs/\R (Ite b K a) H1
theorem xK (h:aB sc "enumerate"=true) (hm:X.mg "enumerate"=none) (Y:PA X [x] ta) (e1:bA X sc:=by rfl) (hs:qa6 [x] X.env=[(false,eval x X.env)]:=by rfl) :
  PI X (.Tuple elts n tpos) (.Call (.Name "enumerate" p) [x] [] pos) (Do X.K ta):=by
 intro pins s σ H R I h';refine Call_ (gm I (glD h e1) hm mq (qi3 (thn (Y pos pins s σ H _ I h') fun us s1 ⟨vs,H1,O,Z,q1⟩=>?_) hs rfl));obtain ⟨b,a,xs,rfl,hq,q⟩:=q1;obtain ⟨u,rfl,ru⟩:=jO Z;cases ru;obtain ⟨its,rv,co⟩:=O.seqB hq;refine pO co fun h2 U hi hz hk=>wpAny_pyIter_enum U ?_
 have I2:Inv X pins σ H1 {s1 with heap:=h2}:=O.kept (t':=s1.toks) hk;refine ⟨s1.heap.objs.size+1,[s1.heap.objs.size+1,s1.heap.objs.size],_,_,H1,rfl,I2,sJ b a _ _ (qm6 (qk8 _)),⟨⟨_,U⟩,hi⟩,fun c W=>?_,q⟩
 have L:s1.heap.objs.size<=c:=by
  simp only [qb2,qk9,or_false] at W;rcases W with rfl | rfl
  . exact qo3 _
  . exact nL _
 exact O.fpOk L (O.hok.fresh L)
def ce (i:Nat):List Dt->List Dt
 | []=>[]
 | d::r=>.tup [.int i,d]::ce (i+1) r
theorem lA:∀ (l:List Dt) (i:Nat),(ce i l).length=l.length
 | [],_=>rfl
 | _::r,i=>by simp [ce,lA r]
theorem lB:∀ (l:List Dt) (i k:Nat),(ce i l)[k]?=l[k]?.map fun d=>.tup [.int ((i+k:Nat):Int),d]
 | [],i,k=>by simp [ce]
 | d::r,i,0=>by simp [ce]
 | d::r,i,k+1=>by simp [ce,lB r,Nat.add_assoc,Nat.add_comm 1]
def f8:List Dt->Option (List Dt)
 | [.lst l]=>some (ce 0 l)
 | [.tup l]=>some (ce 0 l)
 | _=>none
theorem u2 {F:Hp} {d e:Dt} {w:V} {t:Addr} (h:F t=some (.tup [v,w])) (r:Rep K F d v) (q:Rep K F e w):Rep K F (.tup [d,e]) (.ref t):=by simp only [Rep,Reps];exact ⟨t,_,rfl,SqT.of h,v,[w],rfl,r,w,[],rfl,q,rfl⟩
theorem lC {F:Hp} {xs:List V} (r:Reps K F l xs):qS K F (Ite b K a) (ce 0 l) (fun H=>SqB b K H a xs):=fun i H Y q L ff=>by have hl:=r.length;rw [lA];refine ⟨fun h=>⟨xs,xs[i],q,by simp [show i<xs.length by lia]⟩,fun h=>⟨xs,q,by lia⟩,fun x H' hi hy=>?_⟩;obtain ⟨t,v,O,rfl,rfl,W⟩:=hy;have U:=W xs q;obtain ⟨d,Z,rd⟩:=r.same_get U;refine ⟨_,upd Y t (.tup [.int i,v]),?_,Step.new L O,u2 aq ev ((rd.same ff).same (Same.upd (L.free O)))⟩;rw [lB,Z];simp
theorem db (h:aB sc "enumerate"=true) (U:X.mg "enumerate"=none) (O:DA X [x] fs) (e1:bA X sc:=by rfl) (Z:qa6 [x] X.env=[(false,eval x X.env)]:=by rfl) :
  DIF X (.Tuple elts n tpos) (.Call (.Name "enumerate" p) [x] [] pos) (ca f8 fs):=PI.mono (xK h U O.pa e1 Z) fun σ H R ⟨Φ,δ,F,ds,Y,en,q,k⟩=>by
 unfold ca at q;obtain ⟨W,hd,q⟩:=bS q;refine ⟨Φ,δ,F,W,Y,en,hd,fun vs H' F' st r=>?_⟩;unfold f8 at q;split at q<;>first | (cases q;done) | skip
 . cases q;simp only [Reps,Rep] at r;obtain ⟨v,L,rfl,⟨a,xs,rfl,h1,h2⟩,rfl⟩:=r;exact ⟨true,a,xs,rfl,st.fh.seq h1,k _ _ H' F' st (lC (b:=true) h2) fun H2 s=>s.seq h1⟩
 . cases q;simp only [Reps,Rep] at r;obtain ⟨v,L,rfl,⟨a,xs,rfl,h1,h2⟩,rfl⟩:=r;exact ⟨false,a,xs,rfl,st.fh.tup h1,k _ _ H' F' st (lC (b:=false) h2) fun H2 s=>s.tup h1⟩
end
section
variable {prog:qc5} {w:World} {A:qd7} {E:Value->qa4->Prop} {s:qa4} {z ti tO i1 i2:Addr} {fp1 fp2:List Addr} {n1 n2 k:Nat} {P1 P2:Nat->Value->Prop} {S1 S2:Nat->Heap->Prop} {va vb:Value}
end
section
variable {prog:qc5} {w:World} {A:qd7} {E:Value->qa4->Prop} {s:qa4}
end
section
variable {X:Cx} {pins:List (Addr×Obj)} {σ:St} {H:Hp} {s:qa4} {a:Addr} {xs ys:List V} {b c:Bool}
end
section
variable {X:Cx} {x y:Expr} {p pos tpos:Pos} {sc:Scope} {fs:De->Option (List Dt)} {elts:List Expr} {n:Nat}
end
section
variable {X:Cx} {o a b e c:Expr} {es:List Expr} {fa fb fo fe:De->Option Dt} {fs:De->Option (List Dt)} {pos apos cpos p:Pos} {i:Nat}
end
theorem nX {F:Hp} {d:Dt} (r:Rep K F d v) (h:bB d=true):Rep K F' d v:=by cases d<;>first | (cases h;done) | (simp only [Rep] at r ⊢;exact r)
section
variable {X:Cx} {e:Expr} {es:List Expr} {fs:De->Option (List Dt)} {pos p:Pos} {x:Str} {sc:Scope}
end
noncomputable def xL (P:qc5) (w:World) (K:xA9) (mg:Str->Option Value) (x:Str) (ks:List Key) (l:List Dt):Prop:=∃ (a:Addr) (kvs:List (Key×V)) (vs:List (Key×Value)),mg x=some (.ref a)/\(a==qi8)=false/\kvs.map (·.1)=ks/\(∀ F,Reps K F l (kvs.map (·.2)))/\KV kvs vs/\∀ h:Heap,K.In h->h.DictOf (bp P w) a vs
def gSg (ks:List Key) (l:List Dt):Dt->Option T:=fun k=>(jt k).bind fun k=>(dU ks l k).map .leaf
def vSg (ks:List Key) (l:List Dt) (f:De->Option Dt):De->Option T:=fun δ=>(f δ).bind (gSg ks l)
def gSi (neg:Bool) (ks:List Key) (l:List Dt):Dt->Option Bool:=fun k=>(jt k).map fun k=>if neg then !(dU ks l k).isSome else (dU ks l k).isSome
def fSi (neg:Bool) (ks:List Key) (l:List Dt) (f:De->Option Dt):De->Option Bool:=fun δ=>(f δ).bind (gSi neg ks l)
variable {kvs:List (Key×V)}
section
variable {X:Cx} {b:Expr} {fb:De->Option Dt} {pos p:Pos} {x:Str} {sc:Scope} {ks:List Key} {l:List Dt}
def tSg (kvs:List (Key×V)) (ty:TE):TE:=fun σ H Q=>ty σ H fun y H1=>∃ k v,y=kV k/\da kvs k=some v/\Q v H1
def tSi (neg:Bool) (kvs:List (Key×V)) (ty:TE):TE:=fun σ H Q=>ty σ H fun y H1=>∃ k,y=kV k/\Q (.bl (if neg then !(da kvs k).isSome else (da kvs k).isSome)) H1
theorem Dp {vs:List (Key×Value)} {ty:TE} (h:aB sc x=true) (hg:X.mg x=some (.ref a)) (O:KV kvs vs) (hD:∀ h:Heap,X.K.In h->h.DictOf (bp X.prog X.w) a vs) (hb:PE X b ty) (hn:sy b) (e1:bA X sc:=by rfl) :
  PE X (.Subscript (.Name x p) b pos) (tSg kvs ty):=by
 intro pins s σ H Q I q;have hx:PE X (.Name x p) (tC (.ref a)):=jX h ⟨_,hg,rfl⟩ e1;refine qB PySem.F.slot_dict_getitem.lookup hn (thn (hx pins s σ H (fun y H1=>y=.ref a/\tSg kvs ty σ H1 Q) I ⟨rfl,q⟩) fun u s1 ⟨y0,H1,I1,Z,e0,q1⟩=>thn (hb pins s1 σ H1 _ I1 q1) fun iv s2 ⟨y,H2,W,ry,k,v,ey,Y,q2⟩=>?_);subst e0 ey;obtain rfl:u=qf3 a:=Z;have U:=hD _ W.kIn;obtain ⟨w',hw,L⟩:=RelO.some_of (v:=v) (o:=zf4 vs k) (by rw [<- Y];exact O.val k);exact ⟨U.typeIs,wpAny_getItem_of (jQ ry) U.mapOf hw ⟨v,H2,W.tok _,L,q2⟩⟩
theorem Bh {vs:List (Key×Value)} {ty:TE} (h:aB sc x=true) (Y:X.mg x=some (.ref a)) (hs:(a==qi8)=false) (L:KV kvs vs) (hD:∀ h:Heap,X.K.In h->h.DictOf (bp X.prog X.w) a vs) (hb:PE X b ty) (e1:bA X sc:=by rfl) :
  PC X .NotIn b (.Name x p) (tSi true kvs ty):=by
 intro pins s σ H Q I q;have hx:PE X (.Name x p) (tC (.ref a)):=jX h ⟨_,Y,rfl⟩ e1;refine thn (hb pins s σ H _ I q) fun iv s1 ⟨y,H1,W,ry,k,ey,q1⟩=>thn (hx pins s1 σ H1 (fun y H2=>y=.ref a/\Q (.bl (!(da kvs k).isSome)) H2) W ⟨rfl,q1⟩) fun u s2 ⟨y0,H2,O,U,e0,q2⟩=>?_
 subst e0 ey;obtain rfl:u=qf3 a:=U;have Z:=hD _ O.kIn;refine wpAny_notIn_of (jQ ry) hs Z.mapOf ?_;rw [<- (L.val k).isSome_eq];exact ⟨.bl (!(da kvs k).isSome),H2,O.tok _,rfl,q2⟩
theorem Dq (h:aB sc x=true) (U:xL X.prog X.w X.K X.mg x ks l) (hb:DB X b fb) (e1:bA X sc:=by rfl) (hn:sy b:=by exact fun _ _=>rfl):DO X (.Subscript (.Name x p) b pos) (vSg ks l fb):=by
 obtain ⟨a,kvs,vs,Y,hs,rfl,Z,O,hD⟩:=U;refine PE.mono (Dp h Y O hD hb hn e1) fun σ H Q ⟨Φ,δ,F,t,hK,en,q,k⟩=>?_
 unfold vSg at q;obtain ⟨y,W,q⟩:=bS q;obtain ⟨kk,hk,q⟩:=bS q;obtain ⟨d,hd,q⟩:=mS q;cases q;refine ⟨Φ,δ,F,y,hK,en,W,fun v H1 F1 st rv=>?_⟩;obtain ⟨w,hw,L⟩:=fT (Z F1) hd;exact ⟨kk,w,ij rv hk,hw,(k.step st).leaf.here st.fh L⟩
theorem Dr {neg:Bool} (W:∀ F,Reps K F l (kvs.map (·.2))) {Q:Bool->Hp->Prop} (h:tTr K (fSi neg (kvs.map (·.1)) l fb) σ H Q):tSi neg kvs (tBd K fb) σ H (fun v H'=>∃ c,v=.bl c/\Q c H'):=by obtain ⟨Φ,δ,F,t,L,en,q,k⟩:=h;unfold fSi at q;obtain ⟨y,O,q⟩:=bS q;obtain ⟨kk,hk,q⟩:=mS q;subst q;refine ⟨Φ,δ,F,y,L,en,O,fun v H1 F1 st U=>⟨kk,ij U hk,_,rfl,?_⟩⟩;rw [<- mz (W F1)];exact k H1 F1 st
theorem Bi (h:aB sc x=true) (W:xL X.prog X.w X.K X.mg x ks l) (Y:DB X b fb) (e1:bA X sc:=by rfl) (hk:qf4 .NotIn (.Name x p)=false:=by with_unfolding_all rfl):DT X (.Compare b [.NotIn] [.Name x p] pos) (fSi true ks l fb):=by obtain ⟨a,kvs,vs,Z,O,rfl,hR,L,U⟩:=W;exact PT.mono (ma (Bh h Z O L U Y e1) hk) fun σ H Q q=>Dr hR q
end
def sEnt (p:Params) (q:Str×Tok×V×Value):DictEntry:=⟨qk1 p q.1,.str q.1 q.2.1,q.2.2.2⟩
variable {ep:Nat}
theorem xM {mg:Str->Option Value} {o:Obj} (L:List (Str×Tok×V×Value)) (hm:mg x=some (.ref a)) (hl:K.lookup a=some o) (hc:o.ExactDict) (Y:o.data=.dict (L.map (sEnt w.params)).toArray ep)
 (hs:(a==qi8)=false) (W:(L.map (·.1)).Nodup) (U:∀ r∈L,RelV r.2.2.1 r.2.2.2) (Z:∀ F,Reps K F l (L.map (·.2.2.1))):xL P w K mg x (L.map fun r=>.inr r.1) l:=by
 refine ⟨a,L.map fun r=>(.inr r.1,r.2.2.1),L.map fun r=>(.inr r.1,r.2.2.2),hm,hs,by rw [qc9];rfl,fun F=>by rw [qc9];exact Z F,?_,fun h X=>⟨o,_,ep,X a o hl,hc,Y,?_,?_,?_⟩⟩
 . clear Y W Z;induction L with
   | nil=>exact .nil
   | cons r L O=>exact .cons ⟨rfl,U r qe0⟩ (O fun r hr=>U r (qd1 _ hr))
 . intro e he;obtain ⟨r,_,rfl⟩:=qc6.mp (List.mem_toArray.mp he);exact ⟨.inr r.1,e7 P w r.1 r.2.1,rfl⟩
 . show Pairs (bp P w) (L.map (sEnt w.params)) _;clear Y W Z U;induction L with
   | nil=>exact .nil
   | cons r L O=>exact .cons (e7 P w r.1 r.2.1) rfl O
 . rw [qc9];have:(L.map ((fun x:Key×Value=>x.1) ∘ fun r=>((qt6 r.1:Key),r.2.2.2)))=(L.map (·.1)).map qt6:=by rw [qc9];rfl
   rw [this];exact qy9 _ (fun a b h q=>h (qt6.inj q)) W
variable {its:Array Value}
theorem cy {o:Obj} {xs:List V} (L:K.lookup a=some o) (O:o.cls=.type "tuple") (W:o.data=.seq its n) (q:Vals xs its.toList) (Y:xs.length<=qb0) {F:Hp} (U:Reps K F ds xs):Rep K F (.tup ds) (.ref a):=by simp only [Rep];exact ⟨a,xs,rfl,.inr ⟨o,its,n,L,O,W,by rw [<- qe7,<- q.length];exact Y,q⟩,U⟩
theorem u3 {mg:Str->Option Value} {o:Obj} {xs:List V} (W:mg x=some (.ref a)) (q:K.lookup a=some o) (L:o.cls=.type "tuple") (Y:o.data=.seq its n) (O:Vals xs its.toList) (Z:xs.length<=qb0) (U:∀ F,Reps K F ds xs):ig K mg x (.tup ds):=⟨.ref a,⟨_,W,rfl⟩,fun F=>cy q L Y O Z (U F)⟩
inductive RepsI (K:xA9) (F:Hp):List Dt->List V->Prop
 | nil:RepsI K F [] []
 | cons {d:Dt} {v:V} {l:List Dt} {vs:List V}:Rep K F d v->RepsI K F l vs->RepsI K F (d::l) (v::vs)
theorem xN {F:Hp} (h:RepsI K F l vs):Reps K F l vs:=by
 induction h with
 | nil=>simp [Reps]
 | cons h _ q=>simp only [Reps];exact ⟨_,_,rfl,h,q⟩
variable {y:Str} {py spos:Pos}
section
variable {X:Cx} {elt tg iter:Expr} {ifs:List Expr} {scope:Scope} {pos:Pos} {M:List Str} {src:List (Option Nat)} {wi:TI} {g:TG} {tt:TT} {te:TE}
theorem sK {cpos:Pos} {use:Option (Value->Sem Unit)} {QQ:Value->qa4->Prop} (S:CmpScope X.N X.env.scope scope M src) (hc:X.calm=true) (hi:PI X tg iter wi) (hg:M.Nodup->∀ C s H ex,PG (cxC X M scope C s H ex) tg g) (ht:∀ C s H ex,PTs (cxC X M scope C s H ex) ifs tt)
 (he:∀ C s H ex,PE (cxC X M scope C s H ex) elt te) (hs:∀ x,qg8 iter X.env x=pure x) (I:Inv X pins σ H s) (h:ld src wi g tt te σ H Q)
 (hfin:∀ (D C:Addr) (H':Hp) (s':qa4) (m:Str->Option Value),Inv X pins σ H' s'->gn X pins H' C->s'.heap.Ns C m->Q (.ref D) H'->ze4 (model X.prog X.w) X.A X.xe use QQ (.ref D) C (.ok .next) s') :
  wpAny (model X.prog X.w) X.A (comprehension (.ListComp elt [⟨tg,iter,ifs,0⟩] scope pos) scope X.env cpos (newList []) false (eval iter X.env) use) QQ X.xe s:=by
 have Z:∀ x∈scope.names,x.2=.free->∃ c,X.env.cells.lookup x.1=some c:=fun x hx hfr=>I.ok.has x.1 (S.free x hx hfr)
 refine qy5 (use:=use) rfl hs (gq Z) S.kind S.names (thn (hi pins s σ H _ I h) fun v s1 h1=>thn h1 fun itv s2 h2=>?_);obtain ⟨it,fp,tn,J,H2,rfl,I2,T,st2,f2,hq⟩:=h2;refine qd2 ?_;have I3:Inv X pins σ (upd H2 s2.heap.objs.size (.lst [])) {s2 with heap:=s2.heap.push {cls:=.type "list",dict:=none,data:=.seq ([]:List Value).toArray},toks:=s2.toks}:=I2.lnew (its:=[]) (ys:=[]) (t':=s2.toks) .nil (by simp);have hD:H2 s2.heap.objs.size=none:=I2.fresh;obtain ⟨W,⟨m0,w0⟩,turn⟩:=hq _ hD;generalize hDn:s2.heap.objs.size=D at*
 generalize hs3:({s2 with heap:=s2.heap.push {cls:=.type "list",dict:=none,data:=.seq ([]:List Value).toArray},toks:=s2.toks}:qa4)=Y at*
 have f3:∀ b∈fp,gn X pins (upd H2 D (.lst [])) b:=fun b O=>⟨by obtain ⟨o,e,_⟩:=T.obj _ _ st2 b O;rw [ao (by rw [<- hDn];exact qc1 (qa8 e))];exact (f2 b O).1,(f2 b O).2⟩
 have k23:∀ b o,s2.heap.get? b=some o->Y.heap.get? b=some o:=fun b o e=>by rw [<- hs3];exact gP _ e
 have st3:tn 0 Y.heap:=T.keep _ _ _ st2 fun b _ o e=>k23 b o e
 have fl3:∀ b∈fp,b<Y.heap.objs.size:=fun b O=>by obtain ⟨o,e,_⟩:=T.obj _ _ st3 b O;exact qa8 e
 refine wpAny_newFunctionEnv S.nocell (by intro y hy;simp at hy) (fun h₁ hns₁ hsb₁=>?_) S.kind;have k34:∀ b o,Y.heap.get? b=some o->h₁.get? b=some o:=fun b o e=>hsb₁.extBut b o (qc1 (qa8 e)) (gP _ e)
 generalize hs4:({Y with heap:=h₁,toks:=Y.toks+([]:List (Str×Value)).length}:qa4)=s4
 have I4:Inv (cxC X M scope Y.heap.objs.size Y (upd H2 D (.lst [])) fp) [] (stC src σ) (upd H2 D (.lst [])) s4:=by rw [<- hs4];exact nz S I3 f3 fl3 hns₁ k34 rfl rfl
 have st4:tn 0 s4.heap:=T.keep _ _ _ st3 fun b _ o e=>by rw [<- hs4];exact k34 b o e
 generalize L:cxC X M scope Y.heap.objs.size Y (upd H2 D (.lst [])) fp=U at*
 have hg':PG U tg g:=by rw [<- L];exact hg S.nd _ _ _ _
 have ht':PTs U ifs tt:=by rw [<- L];exact ht _ _ _ _
 have he':PE U elt te:=by rw [<- L];exact he _ _ _ _
 have eP:U.prog=X.prog:=by rw [<- L];rfl
 have eW:U.w=X.w:=by rw [<- L];rfl
 have eK:U.K=X.K:=by rw [<- L];rfl
 have eA:U.A=X.A:=by rw [<- L];rfl
 have ex':U.xe=fun _ _=>False:=by rw [<- L];rfl
 have ec:U.calm=true:=by rw [<- L];exact hc
 have eE:U.env=compEnvC scope (dD scope.names X.env.cells) Y.heap.objs.size X.env:=by rw [<- L];rfl
 have stat:∀ {H':Hp},(∀ b∈fp,H' b=none)->∀ b∈fp,gn U [] H' b:=fun hn b O=>by
  rw [<- L];refine ⟨hn b O,qc1 (fl3 b O),fun z=>?_,.inl O,fun x c h=>(f3 b O).2.2.2.2.1 x c (fq Z h),fun p hp=>absurd hp (by simp [cxC])⟩;rcases qb2.mp (I3.stkSub b z) with q | q
  . exact (f3 b O).2.1 q
  . exact (f3 b O).2.2.1 q
 -- behind the block
 have fin:∀ (H':Hp) (s':qa4),Inv U [] (stC src σ) H' s'->Q (.ref D) H'->ze4 (model X.prog X.w) X.A X.xe use QQ (.ref D) Y.heap.objs.size (.ok .next) s':=by
  intro H' s' J' q;rw [<- L] at J';obtain ⟨m,hn,_⟩:=id J'.loc;have hC:H' Y.heap.objs.size=none:=J'.free;have un:Un (frs X.stack) fp (upd H2 D (.lst [])) H' Y.heap s'.heap:=J'.base;have IA:Inv X pins σ H' s':=I3.call' (s':=s') (show s'.os=Y.os from J'.os) un J'.hok J'.bare fun b O=>⟨(f3 b O).2.2.2.1,(f3 b O).2.1,(f3 b O).2.2.2.2.1,(f3 b O).2.2.2.2.2⟩
  exact hfin D _ H' s' m IA (I3.fpOk (nL _) hC) hn q
 have loop:∀ s4':qa4,s4'=s4->qs2 (model X.prog X.w) X.A (.compLoop (.ListComp elt [⟨tg,iter,ifs,0⟩] scope pos) 0 (.ref it) (.ref D) U.env) (ze4 (model X.prog X.w) X.A X.xe use QQ (.ref D) Y.heap.objs.size) s4':=by
  rintro _ rfl;refine gW (fun n s'=>∃ i H',Inv U [] (stC src σ) H' s'/\tn i s'.heap/\(∀ b∈fp,H' b=none)/\W i n H') ?_ m0 ⟨0,_,I4,st4,fun b O=>(f3 b O).1,w0⟩;rintro n s5 ⟨i,H5,I5,st5,fr5,w5⟩;rcases turn i n H5 w5 with ⟨stop,qn⟩ | ⟨go,N,hN,step⟩
  . have:=T.done U eP eW eK ec i [] s5 (stC src σ) H5 (fun _ _=>False) I5 (stat fr5) st5 stop;rw [eA] at this;refine thn this fun r s6 ⟨hr,I6⟩=>?_
    subst hr;exact fin H5 s6 I6 qn
  . have:=T.item U eP eW eK ec i [] s5 (stC src σ) H5 (fun _ _=>False) I5 (stat fr5) st5 go;rw [eA] at this;refine thn this fun r s6 ⟨u,hr,h6⟩=>?_
    subst hr;refine thn h6 fun _ s7 ⟨x,H7,I7,r7,y7,st7,fr7⟩=>?_
    have I7':=I7.pinned (stat fr7) (T.obj _ _ st7);have a1:=hg' _ s7 (stC src σ) H7 x u _ I7' r7 (step x H7 y7);rw [ex',eP,eW,eA] at a1;refine thn a1 fun _ s8 ⟨σ8,H8,I8,wk8,q8⟩=>?_
    have a2:=ht' _ s8 σ8 H8 _ I8 q8;rw [ex',eP,eW,eA] at a2;refine thn a2 fun ok s9 ⟨H9,I9,q9⟩=>?_
    have again:∀ {H7':Hp} {s':qa4},Inv U ([]++iL fp s7.heap) σ8 H7' s'->N H7'->∃ m,m<n/\∃ i H',Inv U [] (stC src σ) H' s'/\tn i s'.heap/\(∀ b∈fp,H' b=none)/\W i m H':=fun {H7' s'} J7 n7=>by obtain ⟨m',hm,w7⟩:=hN H7' n7;refine ⟨m',hm,i+1,H7',J7.unpinned.weak wk8.1 wk8.2,T.keep _ _ _ st7 fun b O o e=>(J7.pin (b,o) (qc8 _ (qc8 _ (cH O e)))).1,fun b O=>?_,w7⟩;obtain ⟨o,e,d⟩:=T.obj _ _ st7 b O;exact (J7.pin (b,o) (qc8 _ (qc8 _ (cH O e)))).2.1
    cases ok with
    | false=>exact again I9 q9
    | true =>
     have a3:=he' _ s9 σ8 H9 _ I9 q9;rw [ex',eP,eW,eA] at a3;refine thn a3 fun v s10 ⟨y,H10,I10,r10,ys,hl,hz,q10⟩=>?_
     have a4:=fP (X:=U) _ s10 σ8 H10 (.ref D) [y] (.ref D) [v] (fun _ H'=>N H') I10 rfl (.cons r10 .nil) ⟨D,ys,y,rfl,rfl,hl,hz,q10⟩;rw [ex',eP,eW,eA] at a4;refine thn a4 fun _ s11 ⟨_,H11,I11,_,q11⟩=>?_
     exact again I11 q11
 have e4:∀ c:Env,c=U.env->qs2 (model X.prog X.w) X.A (.compStart (.ListComp elt [⟨tg,iter,ifs,0⟩] scope pos) 0 (.ref it) (.ref D) c) (ze4 (model X.prog X.w) X.A X.xe use QQ (.ref D) Y.heap.objs.size) s4:=by rintro _ rfl;exact zc4 (loop _ rfl) (T.self _ _ _ _ _ st4 (loop _ rfl))
 exact e4 _ (by rw [eE];rfl)
theorem xO (hN:X.N.Nodup) (hi':X.N[i]?=some y) (L:Loc X.env.scope y) (hf:X.fn y=true∨X.env.scope.names.lookup y=some .local)
 (S:CmpScope X.N X.env.scope scope M src) (hc:X.calm=true) (hi:PI X tg iter wi) (hg:M.Nodup->∀ C s H ex,PG (cxC X M scope C s H ex) tg g) (ht:∀ C s H ex,PTs (cxC X M scope C s H ex) ifs tt)
 (he:∀ C s H ex,PE (cxC X M scope C s H ex) elt te) (hs:∀ x,qg8 iter X.env x=pure x)
 (hsw:qk4 (.ListComp elt [⟨tg,iter,ifs,0⟩] scope pos) (some (.Name y py)) spos.line X.env=pure true) :
  PS X (.Assign [.Name y py] (.ListComp elt [⟨tg,iter,ifs,0⟩] scope pos) spos) (xh (ld src wi g tt te) (je i)):=by
 intro pins s σ H D I h;rw [exec_Assign_Name_used _ _ _ _ hsw];refine wB (zf9 (wB ?_));show wpAny _ X.A (do let _ <- comprehension (.ListComp elt [⟨tg,iter,ifs,0⟩] scope pos) scope X.env _ (newList []) false (eval iter X.env) (some (ze7 (.Name y py) X.env))) _ _ s;refine wB (qk2 (sK (use:=some (ze7 (.Name y py) X.env)) (QQ:=fun _ s'=>∃ σ' H',Inv X pins σ' H' s'/\D.nx σ' H') S hc hi hg ht he hs I h ?_) (fun _ s' hq=>qa3 (qa3 hq)) fun _ _ e=>e);intro Dd C H' s' m IA O hn q;show wpAny _ X.A (ze7 (.Name y py) X.env (.ref Dd)) _ _ s';refine wpAny_assign_Name (kY IA hN hi' L (v:=.ref Dd) rfl (fun s2 I2 Y=>?_) hf);obtain ⟨a,sb,ha⟩:=Y
 have ne:C≠a:=by
  rcases ha with rfl | ha
  . exact O.2.1
  . exact qn9 (O.2.2.2.2.1 y a ha)
 refine ⟨m,hn.sameBut sb ne,fun h3 Z=>⟨_,H',?_,q⟩⟩;have W:∀ b o,b≠C->s2.heap.get? b=some o->h3.get? b=some o:=fun b o U e=>Z.extBut b o U e
 have nm:∀ {b:Addr},b∉[C]->b≠C:=fun U z=>U (by rw [z];exact qe0)
 refine I2.call' (s':={s2 with heap:=h3}) (ch:=[C]) rfl ⟨fun b o e n U L=>W b o (nm L) e,fun b o e n U L=>⟨o.slots,W b o (nm L) e⟩,fun b o e n L=>n,fun b o e L=>⟨o,W b o (nm L) e⟩,fun b xs e=>e,fun b o u e=>e,fun b ps e=>⟨#[],by rw [Array.append_empty];exact e⟩,fun b qs e=>e⟩ ?_ I2.bare fun b U=>?_
 . intro b u e;have nb:b≠C:=fun z=>by rw [z,O.1] at e;cases e
   refine (I2.hok b u e).stay (fun c v hc' q=>W c v ?_ q) (fun _ q=>q) (fun _ _ q=>q) fun _ _ _ q=>q
   rcases hc' with z | z
   . rw [z];exact nb
   . intro w;rw [w,O.1] at z;cases z
 . cases qb7.mp U;exact ⟨O.2.2.2.1,O.2.1,O.2.2.2.2.1,O.2.2.2.2.2⟩
end
section
variable {X:Cx} {elt tg iter:Expr} {ifs:List Expr} {scope:Scope} {pos:Pos} {M:List Str} {src:List (Option Nat)} {fi:De->Option (List Dt)} {ft:De->Option Bool} {fe:De->Option Dt} {i:Nat}
theorem Bj {f:De->Option T} (h:tO K (toT (toD f)) σ H Q):tO K f σ H Q:=by
 obtain ⟨Φ,δ,F,t,O,en,q,k⟩:=h;unfold toT toD at q;cases L:f δ with
 | none=>rw [L] at q;cases q
 | some u =>rw [L] at q;cases q;exact ⟨Φ,δ,F,u,O,en,L,k.leaf.to⟩
theorem il (h:cV sc N i y=true) (hl:g6 sc y=true) (O:N.Nodup) (S:CmpScope X.N X.env.scope scope M src) (hc:X.calm=true) (hi:DIB X tg iter fi) (hg:M.Nodup->∀ C s H ex,DG (cxC X M scope C s H ex) tg ts bb)
 (ht:∀ C s H ex,DTs (cxC X M scope C s H ex) ifs ft) (he:∀ C s H ex,DL (cxC X M scope C s H ex) elt fe) (U:(ts.all fun k=>decide (src[k]?=some none))=true) (W:∀ x,qg8 iter X.env x=pure x:=by intro _;rfl)
 (e1:bA X sc:=by rfl) (e2:X.N=N:=by rfl) (hf:X.fn y=true∨X.env.scope.names.lookup y=some .local:=by exact .inl rfl) (L:qk4 (.ListComp elt [⟨tg,iter,ifs,0⟩] scope pos) (some (.Name y py)) spos.line X.env=pure true:=by rfl) :
  DS1 X (.Assign [.Name y py] (.ListComp elt [⟨tg,iter,ifs,0⟩] scope pos) spos) (ar i (toT (toD (aF src fi bb ft fe)))):=by
 have e1:X.env.scope=sc:=e1;subst e1 e2;refine PS.mono (xO (g:=gD X.K ts bb) (tt:=tTr X.K ft) (te:=tL X.K fe) O (gr h) (jV hl) hf S hc hi (fun O C s H ex=>hg O C s H ex) (fun C s H ex=>ht C s H ex) (fun C s H ex=>he C s H ex) W L) fun D σ H ⟨Φ,δ,F,o,Z,en,q,k⟩=>?_
 unfold ar at q;obtain ⟨t,Y,q⟩:=mS q;cases q;exact qU S U σ H _ (Bj ⟨Φ,δ,F,t,Z,en,Y,fun v H' F' S st o W=>k _ F' H' (en.put st (Z▸o) W i)⟩)
end
def gz (x:Str) (n:Int):Str:=if n<1 then Str.empty else if (n==1||x.length==0)=true then x else ⟨(qe6 n.toNat x.cps).foldl (· ++ ·) #[]⟩
section
variable {X:Cx} {e o:Expr} {f:Str} {pos pos' apos cpos:Pos} {i j:Nat} {c:Str} {NS:List Str} {fe:De->Option T} {fd:De->Option Dt}
end
section
variable {X:Cx} {e o ik:Expr} {f:Str} {pos pos' apos cpos spos:Pos} {i j:Nat} {c:Str} {NS:List Str} {fe:De->Option T} {fd fk:De->Option Dt}
end
def nY:T->Option T
 | .leaf d=>if bB d then some (.leaf d) else none
 | .lst l=>if l.all bB then some (.lst l) else none
 | _=>none
theorem lD {F:Hp}:∀ {l:List Dt} {vs:List V},Reps K F l vs->l.all bB=true->Reps K F' l vs
 | [],vs,h,_=>by simp only [Reps] at h ⊢;exact h
 | d::l,vs,h,q=>by simp only [qj5,qa9] at q;simp only [Reps] at h ⊢;obtain ⟨v,L,e,h1,h2⟩:=h;exact ⟨v,L,e,nX h1 q.1,lD h2 q.2⟩
theorem nZ {u t:T} (U:Same F1 H1) (L:nY u=some t) (k:KO K F1 H1 t Q):KO K H1 H1 u Q:=fun v H' F' S st o O=>by
 unfold nY at L;split at L<;>first | (cases L;done) | skip
 . split at L<;>first | (cases L;done) | skip
   rename_i d Y;cases L;exact k.leaf v H' F1 ⟨st.hh,Same.refl _,U.trans st.hh,fun b o e=>.inl e⟩ (nX o Y)
 . split at L<;>first | (cases L;done) | skip
   rename_i l W;cases L;obtain ⟨a,vs,e,Z,h1,h2⟩:=o;refine k v H' F1 S ⟨st.hh,Same.refl _,U.trans st.hh,fun b o e=>.inl e⟩ ⟨a,vs,e,Z,h1,lD h2 W⟩ fun b z=>⟨?_,(O b z).2.1,(O b z).2.2⟩
   cases q:F1 b with
   | none=>rfl
   | some o=>have y:=(O b z).2.1;rw [U _ _ q] at y;cases y
section
variable {X:Cx} {e o:Expr} {es:List Expr} {m c:Str} {pos apos cpos p:Pos} {i j:Nat} {NS ps:List Str} {fo:De->Option Dt} {fs:De->Option (List Dt)} {ff:List Dt->Option T} {k n:Nat}
end
section
variable {K:xA9} {F H:Hp} {ts:List T} {vs:List V} {S:Nat->Addr->Prop} {N:List Str}
end
section
variable {P:qc5} {w:World} {K:xA9} {mg:Str->Option Value} {base:Heap}
end
section
variable {X:Cx} {e:Expr} {pos:Pos} {fd:De->Option Dt}
end
section
variable {X:Cx} {e:Expr} {es:List Expr} {i:Nat} {ags:List Ag} {f:De->Option Dt}
end
section
variable {X:Cx} {e o:Expr} {es:List Expr} {x m c:Str} {pos apos cpos p:Pos} {i j:Nat} {NS ps:List Str} {sc:Scope} {k n:Nat} {f:List T->Option (T×List T)} {ags:List Ag} {fs:De->Option (List Dt)} {fe fk:De->Option Dt}
end
def zD:De->Option T:=fun _=>none
theorem xP:DO X e zD:=fun pins s σ H Q I h=>by obtain ⟨Φ,δ,F,t,L,en,q,k⟩:=h;cases q
def xQ (neg:Bool):Dt->Dt->Option T
 | .bl a,.bl b=>some (.leaf (.bl (if neg then !decide (a=b) else decide (a=b))))
 | _,_=>none
section
variable {X:Cx}
theorem sL:OpR X (qf7 .IsNot) (fun x y H Q=>∃ a b,x=.bl a/\y=.bl b/\Q (.bl (!decide (a=b))) H):=by intro pins s σ H x y v u Q I L O h;obtain ⟨a,b,rfl,rfl,q⟩:=h;cases L;cases O;refine wpAny_isNot_plain rfl (aG I q ?_);cases a<;>cases b<;>rfl
theorem u4:R2D K (fun x y H Q=>∃ a b,x=.bl a/\y=.bl b/\Q (.bl (!decide (a=b))) H) (xQ true):=by
 intro F H x y W Y Q t O L U q k;unfold xQ at q;split at q<;>first | (cases q;done) | skip
 cases q;cases L;cases U;exact ⟨_,_,rfl,rfl,k.bl O⟩
def n4 (K:xA9):R2:=fun x y H Q=>∃ a b ys,x=.ref a/\y=.ref b/\SqT K H a []/\SqT K H b ys/\Q (.ref b) H
theorem xR:OpR X (ql0 .Add) (n4 X.K):=by
 intro pins s σ H x y v u Q I rx ry h;obtain ⟨a,b,ys,rfl,rfl,ha,hb,q⟩:=h;cases rx;cases ry;obtain ⟨its,r1,p1,_⟩:=I.tuple ha;obtain ⟨W,r2,p2,_⟩:=I.tuple hb;cases r1;obtain ⟨⟨cls,dd,data,sl⟩,ho,hc,n,hd⟩:=id p1;obtain ⟨⟨cls2,dd2,Y,Z⟩,U,O,n2,L⟩:=id p2;simp only at hc hd O L;subst hc hd O L
 exact qw9 ⟨_,ho,rfl⟩ ⟨_,U,rfl⟩ qt7 za2 PySem.F.slot_tuple_add PySem.F.entry_tuple_add (PySem.F.args_tuple_add_2 _ _)
  (tuple_addW0 a b #[] W.toArray n n2 dd dd2 sl Z rfl) ⟨ho,U,⟨.ref b,H,I,rfl,q⟩⟩
def u5:Dt->Dt->Option T
 | .tup [],.tup m=>some (.leaf (.tup m))
 | .tup (d::l),.tup (e::m)=>aT (.tup (d::l)) (.tup (e::m))
 | _,_=>none
theorem xS:OpR X (ql0 .Add) (fun x y H Q=>n4 X.K x y H Q∨lu X.K x y H Q):=OpR.or xR jD
theorem Bk:R2D K (fun x y H Q=>n4 K x y H Q∨lu K x y H Q) u5:=by
 intro F H x y vx Z Q t L U W q k;unfold u5 at q;split at q<;>first | (cases q;done) | skip
 . rename_i m;cases q;obtain ⟨a,vs,rfl,h1,h2⟩:=U;obtain ⟨b,O,rfl,h3,Y⟩:=W;simp only [Reps] at h2;subst h2;refine .inl ⟨a,b,O,rfl,rfl,L.tup h1,L.tup h3,k.leaf.here L ?_⟩;simp only [Rep];exact ⟨b,O,rfl,h3,Y⟩
 . exact .inr (qV F H _ _ vx Z Q t L U W q k)
end
section
variable {X:Cx} {pos:Pos} {k v:Expr} {ks:List (Option Expr)} {vs:List Expr} {fk fv:De->Option Dt} {g:De->Option (List (Key×Dt))}
end
section
variable {X:Cx} {pins:List (Addr×Obj)} {σ:St} {H:Hp} {s:qa4} {a:Addr} {u:HO} {ob:Obj}
end
section
variable {X:Cx} {tg:Expr}
end
inductive CV where
 | dat (d:Dt) | ref (i:Nat)
 | fn (a:Addr) (F0:Hp)
inductive CO where
 | lst (l:List CV) | tup (l:List CV) | dK (l:List (Key×CV)) | ins (c:Str) (ns:List Str) (l:List CV) | wk (l:List (Key×CV)) | dT (l:List (List Key×CV)) | wt (l:List (List Key×CV))
abbrev CH:=List CO
abbrev Sl:=List (Option CV)
section
variable (K:xA9) (F H:Hp) (ρ:Nat->Addr) (n:Nat)
def RelC:CV->V->Prop
 | .dat d,v=>Rep K F d v
 | .ref i,v=>i<n/\v=.ref (ρ i)
 | .fn a F0,v=>v=.ref a/\Same F0 F
def RelCs:List CV->List V->Prop
 | [],vs=>vs=[]
 | c::l,vs=>∃ v q,vs=v::q/\RelC K F ρ n c v/\RelCs l q
noncomputable def CoOk (a:Addr):CO->Prop
 | .lst l=>∃ vs,H a=some (.lst vs)/\RelCs K F ρ n l vs
 | .tup l=>∃ vs,H a=some (.tup vs)/\RelCs K F ρ n l vs
 | .dK l=>∃ kvs,H a=some (.dK kvs)/\kvs.map (·.1)=l.map (·.1)/\RelCs K F ρ n (l.map (·.2)) (kvs.map (·.2))
 | .ins c ns l=>∃ C dx fs,uG K c C/\H a=some (.ins C dx fs)/\fs.map (·.1)=ns/\RelCs K F ρ n l (fs.map (·.2))
 | .wk l=>∃ o kvs,H a=some (.frz o (.dK kvs))/\kvs.map (·.1)=l.map (·.1)/\RelCs K F ρ n (l.map (·.2)) (kvs.map (·.2))
 | .dT l=>∃ kvs,H a=some (.dT kvs)/\kvs.map (·.1)=l.map (·.1)/\RelCs K F ρ n (l.map (·.2)) (kvs.map (·.2))
 | .wt l=>∃ o kvs,H a=some (.frz o (.dT kvs))/\kvs.map (·.1)=l.map (·.1)/\RelCs K F ρ n (l.map (·.2)) (kvs.map (·.2))
end
variable {o:CO}
section
variable {K:xA9} {F H F' H' F1 H1:Hp} {ρ ρ' ρ1:Nat->Addr} {n n':Nat} {c:CV} {v:V}
theorem RelC.mono (ff:Same F F') (q:∀ i,i<n->ρ' i=ρ i) (L:n<=n') (h:RelC K F ρ n c v):RelC K F' ρ' n' c v:=by
 cases c with
 | dat d=>exact Rep.same ff h
 | ref i=>exact ⟨qb4 h.1 L,by rw [q i h.1];exact h.2⟩
 | fn a F0=>exact ⟨h.1,h.2.trans ff⟩
theorem RelCs.mono (ff:Same F F') (q:∀ i,i<n->ρ' i=ρ i) (L:n<=n'):∀ {l:List CV} {vs:List V},RelCs K F ρ n l vs->RelCs K F' ρ' n' l vs
 | [],_,h=>h
 | c::l,vs,h=>by obtain ⟨v,O,e,h1,h2⟩:=h;exact ⟨v,O,e,h1.mono ff q L,RelCs.mono ff q L h2⟩
theorem RelCs.length:∀ {l:List CV} {vs:List V},RelCs K F ρ n l vs->vs.length=l.length
 | [],_,h=>by rw [show _=[] from h];rfl
 | c::l,vs,h=>by obtain ⟨v,q,rfl,h1,h2⟩:=h;simp [RelCs.length h2]
theorem RelCs.get:∀ {l:List CV} {vs:List V} {i:Nat} {c:CV},RelCs K F ρ n l vs->l[i]?=some c->∃ v,vs[i]?=some v/\RelC K F ρ n c v
 | [],_,_,_,_,e=>by simp at e
 | c::l,vs,0,c',h,e=>by obtain ⟨v,q,rfl,h1,h2⟩:=h;simp at e;subst e;exact ⟨v,rfl,h1⟩
 | c::l,vs,i+1,c',h,e=>by obtain ⟨v,q,rfl,h1,h2⟩:=h;obtain ⟨u,q1,q2⟩:=RelCs.get (i:=i) h2 (by simpa using e);exact ⟨u,by simpa using q1,q2⟩
theorem RelCs.set (r:RelC K F ρ n c v):∀ {l:List CV} {vs:List V} (i:Nat),RelCs K F ρ n l vs->RelCs K F ρ n (l.set i c) (vs.set i v)
 | [],vs,i,h=>by rw [show vs=[] from h];rfl
 | x::l,vs,0,h=>by obtain ⟨u,q,rfl,h1,h2⟩:=h;exact ⟨v,q,rfl,r,h2⟩
 | x::l,vs,i+1,h=>by obtain ⟨u,q,rfl,h1,h2⟩:=h;exact ⟨u,q.set i v,rfl,h1,RelCs.set r i h2⟩
theorem RelCs.append:∀ {l m:List CV} {vs q:List V},RelCs K F ρ n l vs->RelCs K F ρ n m q->RelCs K F ρ n (l++m) (vs++q)
 | [],m,vs,q,h,h'=>by rw [show vs=[] from h];exact h'
 | x::l,m,vs,q,h,h'=>by obtain ⟨u,us,rfl,h1,h2⟩:=h;exact ⟨u,us++q,rfl,h1,RelCs.append h2 h'⟩
theorem RelCs.one (r:RelC K F ρ n c v):RelCs K F ρ n [c] [v]:=⟨v,[],rfl,r,rfl⟩
theorem RelCs.dats:∀ {l:List Dt} {vs:List V},Reps K F l vs->RelCs K F ρ n (l.map .dat) vs
 | [],vs,h=>by simp only [Reps] at h;exact h
 | d::l,vs,h=>by simp only [Reps] at h;obtain ⟨v,q,e,h1,h2⟩:=h;exact ⟨v,q,e,h1,RelCs.dats h2⟩
theorem CoOk.mono (ff:Same F F') (q:∀ i,i<n->ρ' i=ρ i) (O:n<=n') (L:∀ u,H a=some u->H' a=some u) (h:CoOk K F H ρ n a o):CoOk K F' H' ρ' n' a o:=by
 cases o with
 | lst l=>obtain ⟨vs,h1,h2⟩:=h;exact ⟨vs,L _ h1,h2.mono ff q O⟩
 | tup l=>obtain ⟨vs,h1,h2⟩:=h;exact ⟨vs,L _ h1,h2.mono ff q O⟩
 | dK l=>obtain ⟨vs,h1,h2,h3⟩:=h;exact ⟨vs,L _ h1,h2,h3.mono ff q O⟩
 | ins c ns l=>obtain ⟨C,dx,fs,U,h1,h2,h3⟩:=h;exact ⟨C,dx,fs,U,L _ h1,h2,h3.mono ff q O⟩
 | wk l=>obtain ⟨o,vs,h1,h2,h3⟩:=h;exact ⟨o,vs,L _ h1,h2,h3.mono ff q O⟩
 | dT l=>obtain ⟨vs,h1,h2,h3⟩:=h;exact ⟨vs,L _ h1,h2,h3.mono ff q O⟩
 | wt l=>obtain ⟨o,vs,h1,h2,h3⟩:=h;exact ⟨o,vs,L _ h1,h2,h3.mono ff q O⟩
theorem CoOk.there (h:CoOk K F H ρ n a o):∃ u,H a=some u:=by
 cases o with
 | lst l=>obtain ⟨vs,h1,h2⟩:=h;exact ⟨_,h1⟩
 | tup l=>obtain ⟨vs,h1,h2⟩:=h;exact ⟨_,h1⟩
 | dK l=>obtain ⟨vs,h1,h2⟩:=h;exact ⟨_,h1⟩
 | ins c ns l=>obtain ⟨C,dx,fs,q,h1,h2⟩:=h;exact ⟨_,h1⟩
 | wk l=>obtain ⟨o,vs,h1,h2⟩:=h;exact ⟨_,h1⟩
 | dT l=>obtain ⟨vs,h1,h2⟩:=h;exact ⟨_,h1⟩
 | wt l=>obtain ⟨o,vs,h1,h2⟩:=h;exact ⟨_,h1⟩
end
structure Gh (K:xA9) (F H:Hp) (ρ:Nat->Addr) (ch:CH):Prop where
 fh:Same F H
 inj:∀ i j,i<ch.length->j<ch.length->ρ i=ρ j->i=j
 out:∀ i,i<ch.length->F (ρ i)=none∨∃ xs,F (ρ i)=some (.tup xs)
 ok:∀ i o,ch[i]?=some o->CoOk K F H ρ ch.length (ρ i) o
structure Adv (K:xA9) (F H:Hp) (ρ:Nat->Addr) (ch:CH) (F' H':Hp) (ρ':Nat->Addr) (ch':CH):Prop where
 gh:Gh K F' H' ρ' ch'
 len:ch.length<=ch'.length
 ext:∀ i,i<ch.length->ρ' i=ρ i
 fr:∀ i,ch.length<=i->i<ch'.length->H (ρ' i)=none
 prot:∀ b o,H b=some o->(∀ i,i<ch.length->ρ i≠b)->H' b=some o
 old:Same F F'
 nw:∀ b o,F' b=some o->F b=some o∨H b=none∨∃ xs,o=.tup xs
 fz:∀ b o u,H b=some (.frz o u)->H' b=some (.frz o u)
section
variable {K:xA9} {F H F' H' F1 H1:Hp} {ρ ρ' ρ1:Nat->Addr} {ch ch' ch1:CH} {c:CV} {v:V}
theorem Gh.at (g:Gh K F H ρ ch) (hi:i<ch.length):∃ u,H (ρ i)=some u:=(g.ok i ch[i] (by simp [hi])).there
theorem Adv.refl (g:Gh K F H ρ ch):Adv K F H ρ ch F H ρ ch:=⟨g,nL _,fun _ _=>rfl,fun i h1 h2=>absurd h2 (qi9.mpr h1),fun _ _ h _=>h,Same.refl _,fun _ _ h=>.inl h,fun _ _ _ h=>h⟩
theorem Adv.back (g:Gh K F H ρ ch) (a:Adv K F H ρ ch F1 H1 ρ1 ch1) {b:Addr} (h:H1 b=none):H b=none:=by
 cases q:H b with
 | none=>rfl
 | some o =>
  by_cases z:∃ i,i<ch.length/\ρ i=b
  . obtain ⟨i,hi,rfl⟩:=z;obtain ⟨u,L⟩:=a.gh.at (qb4 hi a.len)
    rw [a.ext i hi,h] at L;cases L
  . rw [a.prot b o q fun i hi e=>z ⟨i,hi,e⟩] at h;cases h
theorem Adv.trans (g:Gh K F H ρ ch) (a:Adv K F H ρ ch F1 H1 ρ1 ch1) (b:Adv K F1 H1 ρ1 ch1 F' H' ρ' ch'):Adv K F H ρ ch F' H' ρ' ch' where
 gh:=b.gh
 len:=qb8 a.len b.len
 ext:=fun i hi=>(b.ext i (qb4 hi a.len)).trans (a.ext i hi)
 fr:=fun i h1 h2=>by
  by_cases hi:i<ch1.length
  . rw [b.ext i hi];exact a.fr i h1 hi
  . exact a.back g (b.fr i (qi9.mp hi) h2)
 prot:=fun x o h1 h2=>b.prot x o (a.prot x o h1 h2) fun i hi e=>by
  by_cases q:i<ch.length
  . rw [a.ext i q] at e;exact h2 i q e
  . have:=a.fr i (qi9.mp q) hi;rw [e,h1] at this;cases this
 old:=a.old.trans b.old
 nw:=fun x o h=>(b.nw x o h).elim (a.nw x o) fun z=>.inr (z.imp_left fun z=>a.back g z)
 fz:=fun x o u h=>b.fz x o u (a.fz x o u h)
theorem Gh.of (g:Gh K F H ρ ch) (st:Step F H F' H'):Gh K F' H' ρ ch:=by
 refine ⟨st.fh,g.inj,fun i hi=>?_,fun i o h=>(g.ok i o h).mono st.ff (fun _ _=>rfl) (nL _) fun u L=>st.hh _ _ L⟩;cases q:F' (ρ i) with
 | none=>exact .inl rfl
 | some o =>
  rcases st.nw _ _ q with z | z
  . rcases g.out i hi with y | ⟨xs,y⟩
    . rw [y] at z;cases z
    . rw [y] at z;cases z;exact .inr ⟨xs,rfl⟩
  . obtain ⟨u,L⟩:=g.at hi;rw [L] at z;cases z
theorem Adv.of (g:Gh K F H ρ ch) (st:Step F H F' H'):Adv K F H ρ ch F' H' ρ ch:=⟨g.of st,nL _,fun _ _=>rfl,fun i h1 h2=>absurd h2 (qi9.mpr h1),fun b o h _=>st.hh b o h,st.ff,fun b o h=>(st.nw b o h).imp_right .inl,fun b o u h=>st.hh b _ h⟩
theorem Adv.upd (g:Gh K F H ρ ch) {w:HO} (hi:i<ch.length) (U:H (ρ i)=some w) (Y:∀ x y,w≠.frz x y) (W:CoOk K F (upd H (ρ i) u) ρ ch.length (ρ i) o) (Z:∀ xs,w≠.tup xs:=by intro _ z;cases z):Adv K F H ρ ch F (upd H (ρ i) u) ρ (ch.set i o) where
 gh:=⟨fun b x e=>by
     have:b≠ρ i:=fun q=>by
      rw [q] at e;rcases g.out i hi with y | ⟨xs,y⟩
      . rw [y] at e;cases e
      . have:=g.fh _ _ y;rw [U] at this;exact Z xs (qd5 this)
     rw [ao this];exact g.fh b x e,fun j k O hk=>g.inj j k (by simpa using O) (by simpa using hk),fun j O=>g.out j (by simpa using O),fun j x L=>by
     rw [List.length_set];rw [qy8] at L;split at L
     . rename_i q;subst q
       first
        | (split at L<;>first | (cases L;exact W) | cases L)
        | (cases L;exact W)
     . rename_i q;refine (g.ok j x L).mono (Same.refl _) (fun _ _=>rfl) (nL _) fun y hy=>?_
       have O:j<ch.length:=(gX L).1;rw [ao fun e=>q (g.inj j i O hi e).symm];exact hy⟩
 len:=by simp
 ext:=fun _ _=>rfl
 fr:=fun j h1 h2=>absurd h2 (by simpa using h1)
 prot:=fun b x h1 h2=>by rw [ao fun e=>h2 i hi e.symm];exact h1
 old:=Same.refl _
 nw:=fun b x h=>.inl h
 fz:=fun b x y h=>by rw [ao fun e=>by rw [e,U] at h;exact Y x y (qd5 h)];exact h
theorem Adv.new (g:Gh K F H ρ ch) (st:Step F H F' H') (U:H a=none) (Y:F' a=none) (Z:CoOk K F' H' (fun i=>if i=ch.length then a else ρ i) (ch.length+1) a o) :
  Adv K F H ρ ch F' H' (fun i=>if i=ch.length then a else ρ i) (ch++[o]):=by
 have g':=(Adv.of g st).gh;have lt:∀ {i:Nat},i<ch.length->(if i=ch.length then a else ρ i)=ρ i:=fun {i} hi=>if_neg (qc1 hi)
 have W:∀ {i:Nat},i<ch.length->ρ i≠a:=fun {i} hi e=>by obtain ⟨u,L⟩:=g.at hi;rw [e,U] at L;cases L
 refine ⟨⟨st.fh,fun i j hi O e=>?_,fun i hi=>?_,fun i x q=>?_⟩,by simp,fun i hi=>lt hi,fun i h1 h2=>?_,fun b x h1 _=>st.hh b x h1,st.ff,fun b o h=>(st.nw b o h).imp_right .inl,fun b o u h=>st.hh b _ h⟩
 . simp only [qb3,qc0,qg4] at hi O;by_cases h1:i=ch.length<;>by_cases h2:j=ch.length
   . rw [h1,h2]
   . rw [if_pos h1,if_neg h2] at e;exact absurd e.symm (W (by lia))
   . rw [if_neg h1,if_pos h2] at e;exact absurd e (W (by lia))
   . rw [if_neg h1,if_neg h2] at e;exact g.inj i j (by lia) (by lia) e
 . simp only [qb3,qc0,qg4] at hi
   (try dsimp only)
   by_cases h1:i=ch.length
   . rw [if_pos h1];exact .inl Y
   . rw [if_neg h1];exact g'.out i (by lia)
 . simp only [qb3,qc0,qg4];by_cases h1:i<ch.length
   . rw [qb5 h1] at q
     (try dsimp only)
     rw [lt h1];exact (g'.ok i x q).mono (Same.refl _) (fun j O=>lt O) (qo3 _) fun u L=>L
   . rw [gR (qi9.mp h1)] at q
     have h2:i=ch.length:=by have:=(gX q).1;simp at this;lia
     subst h2;simp at q;subst q
     (try dsimp only)
     rw [if_pos rfl];exact Z
 . simp only [qb3,qc0,qg4] at h2;have h3:i=ch.length:=by lia
   (try dsimp only)
   rw [if_pos h3];exact U
end
structure Ge (K:xA9) (δ:Sl) (ch:CH) (σ:St) (F H:Hp) (ρ:Nat->Addr):Prop where
 gh:Gh K F H ρ ch
 len:δ.length=σ.length
 has:∀ (i:Nat) (c:CV),δ[i]?=some (some c)->∃ v,σ[i]?=some (some v)/\RelC K F ρ ch.length c v
def KG (K:xA9) (F H:Hp) (ρ:Nat->Addr) (ch:CH) (c:CV) (ch':CH) (Q:VK):Prop:=∀ v F' H' ρ',Adv K F H ρ ch F' H' ρ' ch'->RelC K F' ρ' ch'.length c v->Q v H'
abbrev Fg:=Sl->CH->Option (CV×CH)
def tG (K:xA9) (f:Fg):TE:=fun σ H Q=>∃ δ ch F ρ c ch',Ge K δ ch σ F H ρ/\f δ ch=some (c,ch')/\KG K F H ρ ch c ch' Q
def GE (X:Cx) (e:Expr) (f:Fg):Prop:=PE X e (tG X.K f)
def dats:List CV->Option (List Dt)
 | []=>some []
 | .dat d::l=>(dats l).map (d::·)
 | _=>none
variable {ρ:Nat->Addr}
theorem cN {F:Hp}:∀ {l:List CV} {ds:List Dt} {vs:List V},dats l=some ds->RelCs K F ρ n l vs->Reps K F ds vs
 | [],ds,vs,h,r=>by cases h;simp only [Reps];exact r
 | .dat d::l,ds,vs,h,r=>by simp only [dats] at h;obtain ⟨es,q,rfl⟩:=mS h;obtain ⟨v,L,e,h1,h2⟩:=r;simp only [Reps];exact ⟨v,L,e,h1,cN q h2⟩
 | .ref i::l,ds,vs,h,r=>by cases h
 | .fn a F0::l,ds,vs,h,r=>by cases h
def tvO:CO->Option T
 | .lst l=>(dats l).map .lst
 | .dK l=>(dats (l.map (·.2))).map fun ds=>.dct ((l.map (·.1)).zip ds)
 | _=>none
noncomputable def loA (ch:CH):List Nat->Sl->De
 | _,[]=>[]
 | u,none::r=>none::loA ch u r
 | u,some (.dat d)::r=>some (.leaf d)::loA ch u r
 | u,some (.ref i)::r=>(if i∈u then none else (ch[i]?).bind tvO)::loA ch (i::u) r
 | u,some (.fn _ _)::r=>none::loA ch u r
def lo (δ:Sl) (ch:CH):De:=loA ch [] δ
section
variable {K:xA9} {F H F' H' F1 H1:Hp} {ρ ρ' ρ1:Nat->Addr} {δ:Sl} {σ:St} {ch ch' ch1 ch2:CH} {c:CV} {v:V} {Q:VK}
theorem Ge.adv (e:Ge K δ ch σ F H ρ) (a:Adv K F H ρ ch F' H' ρ' ch'):Ge K δ ch' σ F' H' ρ':=⟨a.gh,e.len,fun i c h=>by obtain ⟨v,h1,h2⟩:=e.has i c h;exact ⟨v,h1,h2.mono a.old a.ext a.len⟩⟩
theorem KG.adv (k:KG K F H ρ ch c ch' Q) (g:Gh K F H ρ ch) (a:Adv K F H ρ ch F1 H1 ρ1 ch1):KG K F1 H1 ρ1 ch1 c ch' Q:=fun v F' H' ρ' b r=>k v F' H' ρ' (a.trans g b) r
theorem fU (ch:CH):∀ (u:List Nat) (δ:Sl),(loA ch u δ).length=δ.length
 | _,[]=>rfl
 | u,none::r=>by simp [loA,fU ch u r]
 | u,some (.dat d)::r=>by simp [loA,fU ch u r]
 | u,some (.ref i)::r=>by simp [loA,fU ch (i::u) r]
 | u,some (.fn _ _)::r=>by simp [loA,fU ch u r]
theorem fV:∀ {u:List Nat} {δ:Sl} {j:Nat} {t:T},(loA ch u δ)[j]?=some (some t)->(∃ d,t=.leaf d/\δ[j]?=some (some (.dat d)))∨∃ i o,δ[j]?=some (some (.ref i))/\ch[i]?=some o/\tvO o=some t/\i∉u/\∀ m,m<j->δ[m]?≠some (some (.ref i))
 | _,[],j,t,h=>by simp [loA] at h
 | u,none::r,0,t,h=>by simp [loA] at h
 | u,none::r,j+1,t,h=>by
  rcases fV (u:=u) (δ:=r) (j:=j) (t:=t) (by simpa [loA] using h) with ⟨d,e,q⟩ | ⟨i,o,q1,q2,O,L,U⟩
  . exact .inl ⟨d,e,by simpa using q⟩
  . refine .inr ⟨i,o,by simpa using q1,q2,O,L,fun m W=>?_⟩;cases m with
    | zero=>simp
    | succ m=>simpa using U m (by lia)
 | u,some (.dat d)::r,0,t,h=>by simp [loA] at h;exact .inl ⟨d,h.symm,rfl⟩
 | u,some (.dat d)::r,j+1,t,h=>by
  rcases fV (u:=u) (δ:=r) (j:=j) (t:=t) (by simpa [loA] using h) with ⟨d',e,q⟩ | ⟨i,o,q1,q2,O,L,U⟩
  . exact .inl ⟨d',e,by simpa using q⟩
  . refine .inr ⟨i,o,by simpa using q1,q2,O,L,fun m W=>?_⟩;cases m with
    | zero=>simp
    | succ m=>simpa using U m (by lia)
 | u,some (.fn _ _)::r,0,t,h=>by simp [loA] at h
 | u,some (.fn _ _)::r,j+1,t,h=>by
  rcases fV (u:=u) (δ:=r) (j:=j) (t:=t) (by simpa [loA] using h) with ⟨d',e,q⟩ | ⟨i,o,q1,q2,O,L,U⟩
  . exact .inl ⟨d',e,by simpa using q⟩
  . refine .inr ⟨i,o,by simpa using q1,q2,O,L,fun m W=>?_⟩;cases m with
    | zero=>simp
    | succ m=>simpa using U m (by lia)
 | u,some (.ref i)::r,0,t,h=>by
  simp only [loA,qh3,qj3] at h;split at h
  . cases h
  . rename_i hi;obtain ⟨o,Y,h⟩:=bS h;exact .inr ⟨i,o,rfl,Y,h,hi,fun m W=>absurd W (qm2 _)⟩
 | u,some (.ref i)::r,j+1,t,h=>by
  rcases fV (u:=i::u) (δ:=r) (j:=j) (t:=t) (by simpa [loA] using h) with ⟨d,e,q⟩ | ⟨Z,o,q1,q2,O,L,U⟩
  . exact .inl ⟨d,e,by simpa using q⟩
  . simp only [qb2,not_or] at L;refine .inr ⟨Z,o,by simpa using q1,q2,O,L.2,fun m W=>?_⟩;cases m with
    | zero =>simp only [qh3,ne_eq,qj3,CV.ref.injEq];exact fun z=>L.1 z.symm
    | succ m=>simpa using U m (by lia)
theorem qW {α β:Type}:∀ {l:List α} {m:List β},l.length=m.length->(l.zip m).map (·.1)=l/\(l.zip m).map (·.2)=m
 | [],[],_=>⟨rfl,rfl⟩
 | [],_::_,h=>by cases h
 | _::_,[],h=>by cases h
 | a::l,b::m,h=>by obtain ⟨h1,h2⟩:=qW (l:=l) (m:=m) (by simpa using h);simp [h1,h2]
theorem xT {t:T} {S:Addr->Prop} (h:tvO o=some t) (ok:CoOk K F H ρ n a o) (L:S a):Own K F H t (.ref a) S:=by
 cases o with
 | lst l =>obtain ⟨ds,q,rfl⟩:=mS h;obtain ⟨vs,h1,h2⟩:=ok;exact ⟨a,vs,rfl,L,h1,cN q h2⟩
 | dK l =>
  obtain ⟨ds,q,rfl⟩:=mS h;obtain ⟨vs,h1,h2,h3⟩:=ok;have r:=cN q h3
  have e:(l.map (·.1)).length=ds.length:=by have O:=congrArg qo0 h2;have e2:=r.length;simp only [qa2] at O e2 ⊢;lia
  obtain ⟨U,W⟩:=qW e;exact ⟨a,vs,rfl,L,h1,by rw [U];exact h2,by rw [W];exact r⟩
 | tup l=>cases h
 | ins c ns l=>cases h
 | wk l=>cases h
 | dT l=>cases h
 | wt l=>cases h
theorem Gh.outO (g:Gh K F H ρ ch) (h:ch[i]?=some o) (q:tvO o≠none):F (ρ i)=none:=by
 rcases g.out i (gX h).1 with y | ⟨xs,y⟩
 . exact y
 . have z:=g.fh _ _ y;cases o with
   | lst l=>obtain ⟨vs,h1,_⟩:=g.ok i _ h;rw [h1] at z;cases z
   | dK l=>obtain ⟨vs,h1,_⟩:=g.ok i _ h;rw [h1] at z;cases z
   | tup l=>exact absurd rfl q
   | ins c ns l=>exact absurd rfl q
   | wk l=>exact absurd rfl q
   | dT l=>exact absurd rfl q
   | wt l=>exact absurd rfl q
theorem Ge.en (e:Ge K δ ch σ F H ρ):En ⟨K,F,H,fun b=>∃ i,i<ch.length/\ρ i=b⟩ (lo δ ch) σ F H:=by
 refine ⟨e.gh.fh,fun b o h _=>h,Same.refl _,fun b o h=>.inl h,by simp [lo,fU,e.len],fun j t h=>?_,fun j b=>∃ i o,δ[j]?=some (some (.ref i))/\ch[i]?=some o/\ρ i=b/\tvO o≠none/\∀ m,m<j->δ[m]?≠some (some (.ref i)),fun j t v h=>?_,fun j b z=>?_,fun j k b z1 z2=>?_⟩
 . rcases fV h with ⟨d,_,q⟩ | ⟨i,o,q,_⟩
   . obtain ⟨v,W,_⟩:=e.has j _ q;exact ⟨v,W⟩
   . obtain ⟨v,W,_⟩:=e.has j _ q;exact ⟨v,W⟩
 . obtain ⟨h1,h2⟩:=dn h;rcases fV h1 with ⟨d,rfl,q⟩ | ⟨i,o,q1,q2,L,q4,q5⟩
   . obtain ⟨w,O,r⟩:=e.has j _ q;rw [h2] at O;cases O;exact r
   . obtain ⟨w,O,r⟩:=e.has j _ q1;rw [h2] at O;cases O;obtain ⟨hi,rfl⟩:=r;exact xT L (e.gh.ok i o q2) ⟨i,o,q1,q2,rfl,by rw [L];simp,q5⟩
 . obtain ⟨i,o,q1,q2,rfl,qt,L⟩:=z;have hi:i<ch.length:=(gX q2).1;exact ⟨e.gh.outO q2 qt,e.gh.at hi,.inr ⟨i,hi,rfl⟩⟩
 . obtain ⟨i,o,q1,q2,e1,qt,L⟩:=z1;obtain ⟨i',o',Y,U,e2,qt',Z⟩:=z2;have hi:i<ch.length:=(gX q2).1;have hi':i'<ch.length:=(gX U).1;have:=e.gh.inj i i' hi hi' (e1.trans e2.symm);subst this;by_cases h1:j<k
   . exact absurd q1 (Z j h1)
   . by_cases h2:k<j
     . exact absurd Y (L k h2)
     . exact Nat.le_antisymm (qi9.mp h2) (qi9.mp h1)
end
variable {ch:CH} {c:CV}
section
variable {X:Cx} {e a b o:Expr} {f fa fb:Fg} {fd:De->Option Dt} {ft:De->Option T} {pos:Pos} {i:Nat}
def eD (fd:De->Option Dt):Fg:=fun δ ch=>(fd (lo δ ch)).map fun d=>(.dat d,ch)
theorem au (h:DL X e fd):GE X e (eD fd):=PE.mono h fun σ H Q ⟨δ,ch,F,ρ,c,ch',en,q,k⟩=>by unfold eD at q;obtain ⟨d,L,q⟩:=mS q;cases q;exact ⟨_,_,F,d,rfl,en.en,L,fun v H' F' st r=>k v F' H' ρ (Adv.of en.gh st) r⟩
def al (ch:CH):T->Option (CV×CH)
 | .leaf d=>some (.dat d,ch)
 | .lst l=>some (.ref ch.length,ch++[.lst (l.map .dat)])
 | .dct l=>some (.ref ch.length,ch++[.dK (l.map fun p=>(p.1,.dat p.2))])
 | _=>none
theorem j3 {F:Hp} {ρ:Nat->Addr} {ch':CH} {t:T} (g:Gh K F H ρ ch) (h:al ch t=some (c,ch')) (k:KG K F H ρ ch c ch' Q):KO K F H t Q:=fun v H' F' S st o L=>by
 cases t with
 | leaf d =>cases h;exact k v F' H' ρ (Adv.of g st) o
 | lst l =>cases h;obtain ⟨x,vs,rfl,q,h1,h2⟩:=o;obtain ⟨q1,q2,_⟩:=L x q;refine k _ F' H' _ (Adv.new g st q2 q1 ⟨vs,h1,RelCs.dats h2⟩) ⟨by simp,?_⟩;dsimp only;rw [if_pos rfl]
 | dct l =>
  cases h;obtain ⟨x,vs,rfl,q,h1,h2,h3⟩:=o;obtain ⟨q1,q2,_⟩:=L x q;refine k _ F' H' _ (Adv.new g st q2 q1 ⟨vs,h1,by rw [h2];simp,?_⟩) ⟨by simp,?_⟩
  . have:=RelCs.dats (ρ:=fun i=>if i=ch.length then x else ρ i) (n:=ch.length+1) h3;rw [qc9] at this;rw [qc9];exact this
  . dsimp only;rw [if_pos rfl]
 | dcT l=>cases h
 | obj c ns l=>cases h
 | pin a t=>cases h
def eN (ft:De->Option T):Fg:=fun δ ch=>(ft (lo δ ch)).bind (al ch)
theorem pP (h:DO X e ft):GE X e (eN ft):=PE.mono h fun σ H Q ⟨δ,ch,F,ρ,c,ch',en,q,k⟩=>by unfold eN at q;obtain ⟨t,L,q⟩:=bS q;exact ⟨_,_,F,t,rfl,en.en,L,j3 en.gh q k⟩
def eV (i:Nat):Fg:=fun δ ch=>match δ[i]? with
 | some (some c)=>some (c,ch)
 | _=>none
theorem b7 (h:PE X e (iK i)):GE X e (eV i):=PE.mono h fun σ H Q ⟨δ,ch,F,ρ,c,ch',en,L,k⟩=>by
 unfold eV at L;split at L<;>cases L
 rename_i c q;obtain ⟨v,h1,h2⟩:=en.has i _ q;exact ⟨v,h1,k v F H ρ (Adv.refl en.gh) h2⟩
end
def vwO:CO->Option Dt
 | .lst l=>(dats l).map .lst
 | .dK l=>(dats (l.map (·.2))).map (.dct (l.map (·.1)))
 | .wk l=>(dats (l.map (·.2))).map (.dct (l.map (·.1)))
 | _=>none
def vw (ch:CH):CV->Option Dt
 | .dat d=>some d
 | .ref i=>(ch[i]?).bind vwO
 | .fn _ _=>none
section
variable {K:xA9} {F H F' H' F1 H1:Hp} {ρ ρ' ρ1:Nat->Addr} {n:Nat} {δ:Sl} {σ:St} {ch ch' ch1 ch2:CH} {c:CV} {v:V} {Q:VK} {d:Dt}
theorem fW (g:Gh K F H ρ ch) (r:RelC K F ρ ch.length c v) (h:vw ch c=some d):RepB K F H d v:=by
 cases c with
 | dat e=>cases h;exact RepB.of g.fh r
 | fn a F0=>cases h
 | ref i =>
  obtain ⟨hi,rfl⟩:=r;simp only [vw] at h;obtain ⟨o,L,h⟩:=bS h;have ok:=g.ok i o L;cases o with
  | lst l =>obtain ⟨ds,q,rfl⟩:=mS h;obtain ⟨vs,h1,h2⟩:=ok;exact ⟨_,vs,rfl,SqL.of h1,cN q h2⟩
  | dK l =>obtain ⟨ds,q,rfl⟩:=mS h;obtain ⟨vs,h1,h2,h3⟩:=ok;exact ⟨_,vs,rfl,.inl h1,h2,cN q h3⟩
  | wk l =>obtain ⟨ds,q,rfl⟩:=mS h;obtain ⟨o,vs,h1,h2,h3⟩:=ok;exact ⟨_,vs,rfl,.inr ⟨o,h1⟩,h2,cN q h3⟩
  | tup l=>cases h
  | ins c ns l=>cases h
  | dT l=>cases h
  | wt l=>cases h
end
section
variable {X:Cx} {e a b o:Expr} {es:List Expr} {f fa fb fc:Fg} {fd:De->Option Dt} {ft:De->Option T} {pos apos cpos p:Pos} {i:Nat} {σ:St} {H:Hp} {Q:VK} {K:xA9}
def e2 (g:Dt->Dt->Option T) (fa fb:Fg):Fg:=fun δ ch=>(fa δ ch).bind fun p=>(fb δ p.2).bind fun q=>(vw q.2 p.1).bind fun x=>(vw q.2 q.1).bind fun y=>(g x y).bind (al q.2)
theorem Ds (hr:R2D K r g) (h:tG K (e2 g fa fb) σ H Q):tOp r (tG K fa) (tG K fb) σ H Q:=by obtain ⟨δ,ch,F,ρ,c,ch',en,L,k⟩:=h;unfold e2 at L;obtain ⟨p,hp,L⟩:=bS L;obtain ⟨q,hq,L⟩:=bS L;obtain ⟨x,hx,L⟩:=bS L;obtain ⟨y,hy,L⟩:=bS L;obtain ⟨t,ht,L⟩:=bS L;refine ⟨δ,ch,F,ρ,p.1,p.2,en,hp,fun v F1 H1 ρ1 U Y=>⟨δ,p.2,F1,ρ1,q.1,q.2,en.adv U,hq,fun w W H2 ρ2 O Z=>?_⟩⟩;exact hr W H2 x y v w Q t O.gh.fh (fW O.gh (Y.mono O.old O.ext O.len) hx) (fW O.gh Z hy) ht (j3 O.gh L (k.adv en.gh (U.trans en.gh O)))
abbrev Ft:=Sl->CH->Option (Bool×CH)
def tGT (K:xA9) (f:Ft):TT:=fun σ H Q=>∃ δ ch F ρ b ch',Ge K δ ch σ F H ρ/\f δ ch=some (b,ch')/\∀ F' H' ρ',Adv K F H ρ ch F' H' ρ' ch'->Q b H'
def GT (X:Cx) (e:Expr) (f:Ft):Prop:=PT X e (tGT X.K f)
def tD (ft:De->Option Bool):Ft:=fun δ ch=>(ft (lo δ ch)).map fun b=>(b,ch)
theorem pQ {ft:De->Option Bool} (h:DT X e ft):GT X e (tD ft):=PT.mono h fun σ H Q ⟨δ,ch,F,ρ,b,ch',en,q,k⟩=>by unfold tD at q;obtain ⟨x,L,q⟩:=mS q;cases q;exact ⟨_,_,F,_,rfl,en.en,L,fun H' F' st=>k F' H' ρ (Adv.of en.gh st)⟩
def iY (f:Fg):Ft:=fun δ ch=>(f δ ch).bind fun p=>match p.1 with
 | .dat (.bl b)=>some (b,p.2)
 | _=>none
theorem qX {f:Fg} {Q:Bool->Hp->Prop} (h:tGT K (iY f) σ H Q):tG K f σ H fun x H'=>∃ k,x=.bl k/\Q k H':=by
 obtain ⟨δ,ch,F,ρ,b,ch',en,q,k⟩:=h;unfold iY at q;obtain ⟨p,hp,q⟩:=bS q;obtain ⟨c,ch1⟩:=p;dsimp only at q;split at q<;>cases q
 refine ⟨δ,ch,F,ρ,_,_,en,hp,fun v F' H' ρ' a r=>⟨b,?_,k F' H' ρ' a⟩⟩;have r:Rep K F' (.bl b) v:=r;simp only [Rep] at r;exact r
theorem pR {q:CmpOp} (W:OpR X (qf7 q) r) (Y:R2D X.K r g) (O:GE X a fa) (U:GE X b fb) (L:qf4 q b=false):GT X (.Compare a [q] [b] pos) (iY (e2 g fa fb)):=PT.mono (gM W O U L) fun _ _ _ h=>Ds Y (qX h)
def lkC {κ:Type} [DecidableEq κ] (l:List (κ×CV)) (k:κ):Option CV:=(l.find? fun p=>decide (p.1=k)).map (·.2)
theorem jF {κ:Type} [DecidableEq κ] {F:Hp} {k:κ}:∀ {l:List (κ×CV)} {kvs:List (κ×V)},kvs.map (·.1)=l.map (·.1)->RelCs K F ρ n (l.map (·.2)) (kvs.map (·.2))→
  match lkC l k with | some c=>∃ v,da kvs k=some v/\RelC K F ρ n c v | none=>da kvs k=none
 | [],[],_,_=>rfl
 | [],p::kvs,h,_=>by cases h
 | p::l,[],h,_=>by cases h
 | p::l,q::kvs,h,r=>by
  simp only [qa5,qo4] at h;obtain ⟨v,Y,e,U,W⟩:=r;simp only [qa5,qo4] at e;obtain ⟨rfl,rfl⟩:=e;have O:=jF (k:=k) h.2 W;by_cases hk:p.1=k
  . have L:lkC (p::l) k=some p.2:=by simp [lkC,hk]
    rw [L];exact ⟨q.2,fj (h.1.trans hk),U⟩
  . have L:lkC (p::l) k=lkC l k:=by simp [lkC,hk]
    rw [L,dL (by rw [h.1];exact hk)];exact O
def ixO (o:CO) (d:Dt):Option CV:=match o with
 | .lst l=>(asI d).bind (atI l)
 | .tup l=>(asI d).bind (atI l)
 | .dK l=>(jt d).bind (lkC l)
 | .wk l=>(jt d).bind (lkC l)
 | _=>none
theorem mB {F:Hp} {d:Dt} {j:Int} (h:asI d=some j) (r:Rep K F d v):v=.int j:=by
 unfold asI at h;split at h<;>cases h
 simp only [Rep] at r;exact r
theorem j4 {F:Hp} {d:Dt} {j:Key} (h:jt d=some j) (r:Rep K F d v):v=kV j:=by unfold jt at h;split at h<;>cases h<;>(simp only [Rep] at r;exact r)
theorem qY {F:Hp} {l:List CV} {j:Int} (r:RelCs K F ρ n l vs) (h:atI l j=some c):∃ v,atI vs j=some v/\RelC K F ρ n c v:=by unfold atI at h ⊢;obtain ⟨m,q,h⟩:=bS h;obtain ⟨v,h1,h2⟩:=r.get h;exact ⟨v,by rw [r.length,q];exact h1,h2⟩
def eIx (fa fb:Fg):Fg:=fun δ ch=>(fa δ ch).bind fun p=>(fb δ p.2).bind fun q=>match p.1,q.1 with
 | .ref i,.dat d=>((q.2[i]?).bind fun o=>ixO o d).map fun c=>(c,q.2)
 | .dat x,.dat d=>(gIx x d).bind (al q.2)
 | _,_=>none
theorem Du {k:Nat} (hr:Room k X.A) (ha:GE X a fa) (hb:GE X b fb) (hs:mi b:=by exact fun _ _=>rfl) (hn:sy b:=by exact fun _ _=>rfl):GE X (.Subscript a b pos) (eIx fa fb):=
 PE.mono (PE.or (zj uo ha hb hs) (qD (gU hr) ha hb hn)) fun σ H Q ⟨δ,ch,F,ρ,c,ch',en,U,kk⟩=>by
  unfold eIx at U;obtain ⟨⟨c1,ch1⟩,hp,U⟩:=bS U;obtain ⟨⟨c2,ch2⟩,hq,U⟩:=bS U;dsimp only at hq U;split at U<;>first | (cases U;done) | skip
  rotate_left
  . rename_i x d hz;obtain ⟨t,ht,U⟩:=bS U;left;refine ⟨δ,ch,F,ρ,_,ch1,en,hp,fun v F1 H1 ρ1 W Z=>⟨δ,ch1,F1,ρ1,_,_,en.adv W,hq,fun w Y H2 O q r2=>?_⟩⟩;exact r_ix Y H2 x d v w Q t q.gh.fh (fW (c:=.dat x) q.gh (Z.mono q.old q.ext q.len) rfl) (fW (c:=.dat d) q.gh r2 rfl) ht (j3 q.gh U (kk.adv en.gh (W.trans en.gh q)))
  rename_i i d hz;obtain ⟨c',L,U⟩:=mS U;cases U;obtain ⟨o,ho,L⟩:=bS L;cases o with
  | lst l =>obtain ⟨j,hj,L⟩:=bS L;left;refine ⟨δ,ch,F,ρ,_,ch1,en,hp,fun v F1 H1 ρ1 W Z=>⟨δ,ch1,F1,ρ1,_,_,en.adv W,hq,fun w Y H2 O q r2=>?_⟩⟩;obtain ⟨vs,h1,h2⟩:=q.gh.ok i _ ho;obtain ⟨u,hu,ru⟩:=qY h2 L;exact .inl ⟨_,vs,j,u,(Z.mono q.old q.ext q.len).2,mB hj r2,SqL.of h1,hu,kk u Y H2 O (W.trans en.gh q) ru⟩
  | tup l =>obtain ⟨j,hj,L⟩:=bS L;left;refine ⟨δ,ch,F,ρ,_,ch1,en,hp,fun v F1 H1 ρ1 W Z=>⟨δ,ch1,F1,ρ1,_,_,en.adv W,hq,fun w Y H2 O q r2=>?_⟩⟩;obtain ⟨vs,h1,h2⟩:=q.gh.ok i _ ho;obtain ⟨u,hu,ru⟩:=qY h2 L;exact .inr (.inl ⟨_,vs,j,u,(Z.mono q.old q.ext q.len).2,mB hj r2,SqT.of h1,hu,kk u Y H2 O (W.trans en.gh q) ru⟩)
  | dK l =>obtain ⟨j,hj,L⟩:=bS L;right;refine ⟨δ,ch,F,ρ,_,ch1,en,hp,fun v F1 H1 ρ1 W Z=>⟨δ,ch1,F1,ρ1,_,_,en.adv W,hq,fun w Y H2 O q r2=>?_⟩⟩;obtain ⟨kvs,h1,h2,h3⟩:=q.gh.ok i _ ho;have lk:=jF (k:=j) h2 h3;rw [L] at lk;obtain ⟨u,hu,ru⟩:=lk;refine ⟨_,u,(Z.mono q.old q.ext q.len).2,?_,kk u Y H2 O (W.trans en.gh q) ru⟩;rw [j4 hj r2,<- hu];exact DGet.k h1
  | wk l =>obtain ⟨j,hj,L⟩:=bS L;right;refine ⟨δ,ch,F,ρ,_,ch1,en,hp,fun v F1 H1 ρ1 W Z=>⟨δ,ch1,F1,ρ1,_,_,en.adv W,hq,fun w Y H2 O q r2=>?_⟩⟩;obtain ⟨o,kvs,h1,h2,h3⟩:=q.gh.ok i _ ho;have lk:=jF (k:=j) h2 h3;rw [L] at lk;obtain ⟨u,hu,ru⟩:=lk;refine ⟨_,u,(Z.mono q.old q.ext q.len).2,?_,kk u Y H2 O (W.trans en.gh q) ru⟩;rw [j4 hj r2,<- hu];exact .inl ⟨kvs,j,.inr ⟨o,h1⟩,rfl,rfl⟩
  | ins c ns l=>cases L
  | dT l=>cases L
  | wt l=>cases L
abbrev Fgs:=Sl->CH->Option (List CV×CH)
def tGs (K:xA9) (f:Fgs):TA:=fun σ H Q=>∃ δ ch F ρ cs ch',Ge K δ ch σ F H ρ/\f δ ch=some (cs,ch')/\∀ vs F' H' ρ',Adv K F H ρ ch F' H' ρ' ch'->RelCs K F' ρ' ch'.length cs vs->Q vs H'
def GA (X:Cx) (es:List Expr) (f:Fgs):Prop:=PA X es (tGs X.K f)
def cG:Fgs:=fun _ ch=>some ([],ch)
def aO (f:Fg) (fs:Fgs):Fgs:=fun δ ch=>(f δ ch).bind fun p=>(fs δ p.2).map fun q=>(p.1::q.1,q.2)
theorem gA:GA X [] cG:=PA.mono dB fun σ H Q ⟨δ,ch,F,ρ,cs,ch',en,q,k⟩=>by cases q;exact k [] F H ρ (Adv.refl en.gh) rfl
theorem ci {fs:Fgs} (h:GE X e f) (hr:GA X es fs) (hs:qa6 (e::es) X.env=(false,eval e X.env)::qa6 es X.env:=by rfl):GA X (e::es) (aO f fs):=PA.mono (bU h hr hs) fun σ H Q ⟨δ,ch,F,ρ,cs,ch',en,L,k⟩=>by unfold aO at L;obtain ⟨p,hp,L⟩:=bS L;obtain ⟨q,hq,L⟩:=mS L;cases L;exact ⟨δ,ch,F,ρ,p.1,p.2,en,hp,fun v F1 H1 ρ1 Y r1=>⟨δ,p.2,F1,ρ1,q.1,q.2,en.adv Y,hq,fun W Z H2 U O r2=>k (v::W) Z H2 U (Y.trans en.gh O) ⟨v,W,rfl,r1.mono O.old O.ext O.len,r2⟩⟩⟩
theorem u6 {F:Hp} {o:CO} {a:Addr} (g:Gh K F H ρ ch) (q:H a=none) (L:CoOk K F (upd H a u) ρ ch.length a o):Adv K F H ρ ch F (upd H a u) (fun i=>if i=ch.length then a else ρ i) (ch++[o]):=Adv.new g (Step.made g.fh q) q (g.fh.free q) (L.mono (Same.refl _) (fun i hi=>if_neg (qc1 hi)) (qo3 _) fun _ h=>h)
abbrev Fd:=List CV->CH->Option (CV×CH)
def spG (K:xA9) (n:Nat) (f:Fd):Sp:=fun vs H Q _=>∃ F ρ cs ch c ch',Gh K F H ρ ch/\cs.length=n/\RelCs K F ρ ch.length cs vs/\f cs ch=some (c,ch')/\KG K F H ρ ch c ch' Q
def eC (g:Fd) (fs:Fgs):Fg:=fun δ ch=>(fs δ ch).bind fun p=>g p.1 p.2
theorem jG {k:Nat} {g:Fd} {fs:Fgs} (h:aB sc x=true) (F:OkF X.prog X.w X.K X.mg X.base x k ps (spG X.K n g)) (Z:Room k X.A) (W:GA X (e::es) fs) (hn:∀ δ ch p,fs δ ch=some p->p.1.length=n) (e1:bA X sc:=by rfl)
 (U:qa6 (e::es) X.env=(false,eval e X.env)::qa6 es X.env:=by rfl) (L:(qj4 cpos (qa6 es X.env)).any (·.1)=false:=by rfl):GE X (.Call (.Name x p) (e::es) [] cpos) (eC g fs):=
 PE.mono (lj h F Z W e1 U L) fun σ H Q ⟨δ,ch,F,ρ,c,ch',en,q,k⟩=>by unfold eC at q;obtain ⟨p,hp,q⟩:=bS q;refine ⟨δ,ch,F,ρ,p.1,p.2,en,hp,fun vs F1 H1 ρ1 O Y=>?_⟩;show spG X.K n g (vs++[]) H1 Q E0;rw [qe8];exact ⟨F1,ρ1,p.1,p.2,c,ch',O.gh,hn δ ch p hp,Y,q,k.adv en.gh O⟩
end
inductive Og where
 | nx (δ:Sl) (ch:CH) | rt (c:CV) (ch:CH) | bk (δ:Sl) (ch:CH) | ct (δ:Sl) (ch:CH)
noncomputable def PostG (K:xA9) (F H:Hp) (ρ:Nat->Addr) (ch:CH) (D:Ends):Og->Prop
 | .nx δ' ch'=>∀ σ' F' H' ρ',Adv K F H ρ ch F' H' ρ' ch'->Ge K δ' ch' σ' F' H' ρ'->D.nx σ' H'
 | .rt c ch'=>∀ v F' H' ρ',Adv K F H ρ ch F' H' ρ' ch'->RelC K F' ρ' ch'.length c v->D.rt v H'
 | .bk δ' ch'=>∀ σ' F' H' ρ',Adv K F H ρ ch F' H' ρ' ch'->Ge K δ' ch' σ' F' H' ρ'->D.bk σ' H'
 | .ct δ' ch'=>∀ σ' F' H' ρ',Adv K F H ρ ch F' H' ρ' ch'->Ge K δ' ch' σ' F' H' ρ'->D.ct σ' H'
abbrev Fs:=Sl->CH->Option Og
def tGS (K:xA9) (g:Fs):TS:=fun D σ H=>∃ δ ch F ρ o,Ge K δ ch σ F H ρ/\g δ ch=some o/\PostG K F H ρ ch D o
def GS1 (X:Cx) (st:Stmt) (g:Fs):Prop:=PS X st (tGS X.K g)
def GS (X:Cx) (ss:List Stmt) (g:Fs):Prop:=PSs X ss (tGS X.K g)
section
variable {K:xA9} {F H F' H' F1 H1:Hp} {ρ ρ' ρ1:Nat->Addr} {ch ch' ch1:CH} {D:Ends} {o:Og}
theorem PostG.adv (k:PostG K F H ρ ch D o) (g:Gh K F H ρ ch) (a:Adv K F H ρ ch F1 H1 ρ1 ch1):PostG K F1 H1 ρ1 ch1 D o:=by
 cases o with
 | nx δ' c'=>exact fun σ' F' H' ρ' b e=>k σ' F' H' ρ' (a.trans g b) e
 | rt c c'=>exact fun v F' H' ρ' b e=>k v F' H' ρ' (a.trans g b) e
 | bk δ' c'=>exact fun σ' F' H' ρ' b e=>k σ' F' H' ρ' (a.trans g b) e
 | ct δ' c'=>exact fun σ' F' H' ρ' b e=>k σ' F' H' ρ' (a.trans g b) e
end
section
variable {X:Cx} {st:Stmt} {rest a b body:List Stmt} {g g1 g2:Fs} {e c o tg iter:Expr} {es:List Expr} {pos apos cpos:Pos} {f fa fe fk:Fg} {tc:Ft} {i:Nat} {K:xA9}
def dX:Fs:=fun δ ch=>some (.nx δ ch)
def aw (g1 g2:Fs):Fs:=fun δ ch=>(g1 δ ch).bind fun o=>match o with
 | .nx δ' ch'=>g2 δ' ch'
 | o=>some o
theorem eI:GS X [] dX:=PSs.mono qp fun D σ H ⟨δ,ch,F,ρ,o,en,q,k⟩=>by cases q;exact k σ F H ρ (Adv.refl en.gh) en
theorem bt (h:GS1 X st g):GS X [st] g:=qq h
theorem ay (h1:GS1 X st g1) (h2:GS X rest g2):GS X (st::rest) (aw g1 g2):=PSs.mono (e8 h1 h2) fun D σ H ⟨δ,ch,F,ρ,o,en,q,k⟩=>by
 unfold aw at q;obtain ⟨O,h1,q⟩:=bS q;refine ⟨δ,ch,F,ρ,O,en,h1,?_⟩;cases O with
 | nx δ' ch'=>exact fun σ' F' H' ρ' a L=>⟨δ',ch',F',ρ',o,L,q,k.adv en.gh a⟩
 | rt c ch'=>cases q;exact k
 | bk δ' ch'=>cases q;exact k
 | ct δ' ch'=>cases q;exact k
def dy:Fs:=fun _ _=>none
theorem dY:GS1 X st dy:=PS.mono (uc (X:=X) (st:=st)) fun D σ H ⟨δ,ch,F,ρ,o,en,q,k⟩=>by cases q
def dz (f:Fg):Fs:=fun δ ch=>(f δ ch).map fun p=>.rt p.1 p.2
theorem fG (h:GE X e f):GS1 X (.Return (some e) pos) (dz f):=PS.mono (o9 h) fun D σ H ⟨δ,ch,F,ρ,o,en,q,k⟩=>by unfold dz at q;obtain ⟨p,hp,q⟩:=mS q;cases q;exact ⟨δ,ch,F,ρ,p.1,p.2,en,hp,k⟩
def e5 (c:Ft) (g1 g2:Fs):Fs:=fun δ ch=>(c δ ch).bind fun p=>if p.1 then g1 δ p.2 else g2 δ p.2
theorem im (O:GT X c tc) (h1:GS X a g1) (h2:GS X b g2):GS1 X (.If c a b pos) (e5 tc g1 g2):=PS.mono (zb O h1 h2) fun D σ H ⟨δ,ch,F,ρ,o,en,L,k⟩=>by
 unfold e5 at L;obtain ⟨p,hp,L⟩:=bS L;refine ⟨δ,ch,F,ρ,p.1,p.2,en,hp,fun F' H' ρ' a=>?_⟩;split at L
 . rename_i q;rw [if_pos q];exact ⟨δ,p.2,F',ρ',o,en.adv a,L,k.adv en.gh a⟩
 . rename_i q;rw [if_neg q];exact ⟨δ,p.2,F',ρ',o,en.adv a,L,k.adv en.gh a⟩
theorem Ge.put {δ:Sl} {F:Hp} {x:CV} (en:Ge K δ ch σ F H ρ) (r:RelC K F ρ ch.length x v) (i:Nat):Ge K (δ.set i (some x)) ch (σ.set i (some v)) F H ρ:=⟨en.gh,by simp [en.len],fun j y h=>by
 rcases et h with ⟨rfl,z⟩ | ⟨q,z⟩
 . cases z
   have hi:i<σ.length:=by rw [<- en.len];have:=(gX h).1;simpa using this
   exact ⟨v,by simp [hi],r⟩
 . obtain ⟨w,h1,h2⟩:=en.has j y z;exact ⟨w,by rw [gN q];exact h1,h2⟩⟩
def aC (i:Nat) (f:Fg):Fs:=fun δ ch=>(f δ ch).map fun p=>.nx (δ.set i (some p.1)) p.2
theorem Bl (h:cV sc N i x=true) (L:g6 sc x=true) (O:N.Nodup) (U:GE X e f) (e1:bA X sc:=by rfl) (e2:X.N=N:=by rfl) (W:X.fn x=true∨X.env.scope.names.lookup x=some .local:=by exact .inl rfl)
 (Y:qk4 e (some (.Name x pos')) pos.line X.env=pure false:=by rfl):GS1 X (.Assign [.Name x pos'] e pos) (aC i f):=PS.mono (mt h L O U e1 e2 W Y) fun D σ H ⟨δ,ch,F,ρ,o,en,q,k⟩=>by
 unfold aC at q;obtain ⟨p,hp,q⟩:=mS q;cases q;exact ⟨δ,ch,F,ρ,p.1,p.2,en,hp,fun v F' H' ρ' a r=>k _ F' H' ρ' a ((en.adv a).put r i)⟩
def mgS (ts:List Nat) (δ:Sl) (δ1:De):Sl:=δ.mapIdx fun j x=>if j∈ts then (match δ1[j]? with | some (some (.leaf d))=>some (.dat d) | _=>none) else x
theorem Ge.mg {δ:Sl} {F:Hp} {δ1:De} (en:Ge K δ ch σ F H ρ) (O:Φ.K=K) (U:σ'.length=σ.length) (W:∀ j,j∉ts->σ'[j]?=σ[j]?) (e:En Φ δ1 σ' F H):Ge K (mgS ts δ δ1) ch σ' F H ρ:=⟨en.gh,by simp [mgS,en.len,U],fun j x h=>by
 unfold mgS at h;rw [qp6] at h;obtain ⟨y,Y,h⟩:=mS h;by_cases L:j∈ts
 . rw [if_pos L] at h;split at h<;>cases h
   rename_i d q;obtain ⟨v,h1,h2⟩:=e.leaf q;exact ⟨v,h1,(O▸h2:Rep K F d v)⟩
 . rw [if_neg L] at h;subst h;obtain ⟨v,h1,h2⟩:=en.has j x Y;exact ⟨v,by rw [W j L];exact h1,h2⟩⟩
noncomputable def kQ (ts:List Nat) (bb:Dt->De->Option De) (g:Fs):List Dt->Sl->CH->Option Og
 | [],δ,ch=>some (.nx δ ch)
 | d::r,δ,ch=>(bb d (lo δ ch)).bind fun δ1=>(g (mgS ts δ δ1) ch).bind fun o=>match o with
  | .nx q ch2=>kQ ts bb g r q ch2
  | .ct q ch2=>kQ ts bb g r q ch2
  | .bk q ch2=>some (.nx q ch2)
  | .rt c ch2=>some (.rt c ch2)
def io (fi:De->Option (List Dt)) (ts:List Nat) (bb:Dt->De->Option De) (g:Fs):Fs:=fun δ ch=>(fi (lo δ ch)).bind fun ds=>kQ ts bb g ds δ ch
theorem pS (hp:qy1 (model X.prog X.w) X.A X.env X.xe) (hc:X.calm=true) (hi:DIF X tg iter fi) (hg:DG X tg ts bb) (hb:GS X body g)
 (hs:∀ x,qg8 iter X.env x=pure x:=by intro _;rfl):GS1 X (.For tg iter body [] pos) (io fi ts bb g):=PS.mono (pe hp hc hi hg hb hs) fun D σ H ⟨δ,ch,F,ρ,o,en,hg,k⟩=>by
 unfold io at hg;obtain ⟨ds,hd,hg⟩:=bS hg;rw [mr];refine ⟨_,_,F,ds,rfl,en.en,hd,fun J ok H1 F1 st1 wd ho=>?_⟩;have a1:=Adv.of en.gh st1;have O:=en.adv a1;have k1:=k.adv en.gh a1;refine nI (n:=ds.length) (fun i σ' H'=>∃ δ' ch' F' ρ',Adv X.K F1 H1 ρ ch F' H' ρ' ch'/\Ge X.K δ' ch' σ' F' H' ρ'/\kQ ts bb g (ds.drop i) δ' ch'=some o) ⟨δ,ch,F1,ρ,Adv.refl O.gh,O,by simpa using hg⟩ (fun i σ' H' ⟨δ',ch',F',ρ',Z,L,_⟩=>?_) ?_ ?_
 . obtain ⟨p1,p2,_⟩:=wd i H' F' (ho H' (Z.old.trans L.gh.fh)) L.gh.fh Z.old;exact ⟨p1,p2⟩
 . rintro i x σ' H' H'' hi ⟨δ',ch',F',ρ',Z,L,q⟩ hy;obtain ⟨_,_,p3⟩:=wd i H' F' (ho H' (Z.old.trans L.gh.fh)) L.gh.fh Z.old;obtain ⟨d,F2,hd',st2,rd⟩:=p3 x H'' hi hy;rw [jB hd'] at q;unfold kQ at q;obtain ⟨δ1,h1,q⟩:=bS q;obtain ⟨o1,h2,q⟩:=bS q;have a2:=Adv.of L.gh st2;have a3:=Z.trans O.gh a2;have en2:=L.adv a2;refine ⟨_,_,F2,d,δ1,rfl,en2.en,rd,h1,fun σ1 l1 q1 e1=>⟨_,ch',F2,ρ',o1,en2.mg rfl l1 q1 e1,h2,?_⟩⟩;cases o1 with
   | nx Y c2=>exact fun σ2 F3 H3 U a4 W=>⟨Y,c2,F3,U,a3.trans O.gh a4,W,q⟩
   | ct Y c2=>exact fun σ2 F3 H3 U a4 W=>⟨Y,c2,F3,U,a3.trans O.gh a4,W,q⟩
   | bk Y c2=>cases q;exact fun σ2 F3 H3 U a4 W=>k1 σ2 F3 H3 U (a3.trans O.gh a4) W
   | rt c c2=>cases q;exact fun v F3 H3 U a4 r=>k1 v F3 H3 U (a3.trans O.gh a4) r
 . rintro σ' H' ⟨δ',ch',F',ρ',Z,L,q⟩;rw [qt9] at q;cases q;exact k1 σ' F' H' ρ' Z L
noncomputable def b8 (c:Ft) (g:Fs):Nat->Fs
 | 0,_,_=>none
 | n+1,δ,ch=>(c δ ch).bind fun p=>if p.1 then (g δ p.2).bind fun o=>match o with
  | .nx q ch2=>b8 c g n q ch2
  | .ct q ch2=>b8 c g n q ch2
  | .bk q ch2=>some (.nx q ch2)
  | .rt c ch2=>some (.rt c ch2) else some (.nx δ p.2)
noncomputable def n5 (fa fe:Fg):Fs:=fun δ ch=>(fa δ ch).bind fun p=>(fe δ p.2).bind fun q=>match p.1 with
 | .ref i=>match p.2[i]?,q.2[i]? with
  | some (.lst _),some (.lst l)=>if l.length<qb0 then some (.nx δ (q.2.set i (.lst (l++[q.1])))) else none
  | _,_=>none
 | _=>none
theorem sM (hx:GE X o fa) (he:GE X e fe)
  (U:za4 o "append" X.env (eval o X.env)=eval o X.env:=by rfl)
  (Z:((qj4 cpos (qa6 [e] X.env)).all (fun x=>!x.1)&&(backToKw cpos (zf3 [] X.env)).all (fun x=>x.1.isSome)
   && decide ([e].length+([]:List zd1).length+(if ([]:List zd1).isEmpty then 0 else 1)<30))=true:=by rfl)
  (O:(apos.endLine==cpos.line)=true:=by rfl) (hs:qa6 [e] X.env=(false,eval e X.env)::qa6 [] X.env:=by rfl) (L:(qj4 cpos (qa6 [] X.env)).any (·.1)=false:=by rfl)
  (hsw:qk4 (.Call (.Attribute o "append" apos) [e] [] cpos) none pos.line X.env=pure false:=by rfl) :
  GS1 X (.Expr (.Call (.Attribute o "append" apos) [e] [] cpos) pos) (n5 fa fe):=
 PS.mono (md (ut PySem.F.plainAttrs_list PySem.F.slot_list_append PySem.F.type_list_append fP hx (bU he dB hs) U Z O hs L) hsw) fun D σ H ⟨δ,ch,F,ρ,og,en,q,k⟩=>by
  unfold n5 at q;obtain ⟨⟨c1,ch1⟩,hp,Y⟩:=bS q;clear q;obtain ⟨⟨c2,ch2⟩,hq,q⟩:=bS Y;clear Y;dsimp only at hq q;split at q<;>first | (cases q;done) | skip
  rename_i i;split at q<;>first | (cases q;done) | skip
  rename_i l0 l h0 h1;split at q<;>cases q
  rename_i hz;refine ⟨δ,ch,F,ρ,_,ch1,en,hp,fun v F1 H1 ρ1 a1 r1=>?_⟩;obtain ⟨vs0,q0,_⟩:=a1.gh.ok i _ h0;obtain ⟨hi,rfl⟩:=r1;refine ⟨.inl ⟨rfl,vs0,.inl (.inl q0)⟩,δ,ch1,F1,ρ1,c2,ch2,en.adv a1,hq,fun w F2 H2 ρ2 W r2=>?_⟩;obtain ⟨vs,q1,q2⟩:=W.gh.ok i _ h1;rw [W.ext i hi] at q1;refine ⟨_,vs,w,rfl,rfl,q1,by rw [q2.length];exact hz,?_⟩;have hi2:i<ch2.length:=(gX h1).1;have a3:=Adv.upd (o:=.lst (l++[c2])) (u:=.lst (vs++[w])) (w:=.lst vs) W.gh hi2 (by rw [W.ext i hi];exact q1) (fun _ _ z=>nomatch z) ⟨_,aq,q2.append (RelCs.one r2)⟩;rw [W.ext i hi] at a3;have a:=(a1.trans en.gh W).trans en.gh a3;exact k σ F2 _ ρ2 a (en.adv a)
def eJ {κ:Type} [DecidableEq κ]:List (κ×CV)->κ->CV->List (κ×CV)
 | [],k,c=>[(k,c)]
 | p::l,k,c=>if p.1=k then (p.1,c)::l else p::eJ l k c
noncomputable def xU (o:CO) (d:Dt) (c:CV):Option CO:=match o with
 | .lst l=>(asI d).bind fun j=>(ixN l.length j).map fun m=>.lst (l.set m c)
 | .dK l=>(jt d).bind fun k=>if l.length<qb0/\(l.map (·.1)).Nodup then some (.dK (eJ l k c)) else none
 | _=>none
theorem j5 {κ:Type} [DecidableEq κ] {F:Hp} {k:κ} {c:CV} (r:RelC K F ρ n c v):∀ {l:List (κ×CV)} {kvs:List (κ×V)},(l.map (·.1)).Nodup->kvs.map (·.1)=l.map (·.1)->RelCs K F ρ n (l.map (·.2)) (kvs.map (·.2))→
  (dk kvs k v).map (·.1)=(eJ l k c).map (·.1)/\RelCs K F ρ n ((eJ l k c).map (·.2)) ((dk kvs k v).map (·.2))
 | [],[],_,_,_=>⟨rfl,⟨v,[],rfl,r,rfl⟩⟩
 | [],q::kvs,_,h,_=>by cases h
 | p::l,[],_,h,_=>by cases h
 | p::l,q::kvs,nd,h,rs=>by
  simp only [qa5,qo4] at h;obtain ⟨h1,h2⟩:=h;obtain ⟨w,ws,e,r1,r2⟩:=rs;simp only [qa5,qo4] at e;obtain ⟨rfl,rfl⟩:=e;have O:=ql9.mp nd;by_cases hk:p.1=k
  . have U:q.1=k:=h1.trans hk
    have L:∀ x∈kvs,¬ x.1=k:=fun x Z e=>O.1 (by have:x.1∈kvs.map (·.1):=List.mem_map_of_mem Z;rw [h2] at this;rw [e,<- hk] at this;exact this)
    have e2:dk (q::kvs) k v=(q.1,v)::kvs:=by
     unfold dk;rw [if_pos (by simp [U])];simp only [qa5,if_pos U,qo4,true_and];have:∀ x∈kvs,(if x.1=k then (x.1,v) else x)=id x:=fun x Z=>if_neg (L x Z)
     rw [qm9 this,List.map_id]
    have Y:eJ (p::l) k c=(p.1,c)::l:=by simp only [eJ,if_pos hk]
    rw [Y,e2];exact ⟨by simp [h1,h2],⟨v,_,rfl,r,r2⟩⟩
  . have U:¬ q.1=k:=fun z=>hk (h1.symm.trans z)
    have e2:dk (q::kvs) k v=q::dk kvs k v:=by
     unfold dk;by_cases W:(kvs.any fun kv=>decide (kv.1=k))=true
     . rw [if_pos W,if_pos (by simp only [qi5,W,zh6])];simp only [qa5,if_neg U]
     . rw [if_neg W,if_neg (by simp only [qi5,decide_eq_false U,za5];exact W)];rfl
    have Y:eJ (p::l) k c=p::eJ l k c:=by simp only [eJ,if_neg hk]
    obtain ⟨i1,i2⟩:=j5 (k:=k) r O.2 h2 r2;rw [Y,e2];exact ⟨by simp [h1,i1],⟨q.2,_,rfl,r1,i2⟩⟩
def lF (fa fk fe:Fg):Fs:=fun δ ch=>(fe δ ch).bind fun p=>(fa δ p.2).bind fun q=>(fk δ q.2).bind fun r=>match q.1,r.1 with
 | .ref i,.dat d=>((r.2[i]?).bind fun o=>xU o d p.1).map fun o'=>.nx δ (r.2.set i o')
 | _,_=>none
theorem Bm {k:Nat} {ik:Expr} (hr:Room k X.A) (hx:GE X o fa) (hk:GE X ik fk) (he:GE X e fe) (hs:qk4 e (some (.Subscript o ik pos')) pos.line X.env=pure false:=by rfl)
 (hs2:swapsWithSole [.Subscript o ik pos'] e pos.line X.env=pure false:=by rfl) (hw:swappedStores [.Subscript o ik pos'] e X.env=pure none:=by rfl)
 (h1:(qn3 [.Subscript o ik pos'] X.env).map (·.2)=[ze7 (.Subscript o ik pos') X.env]:=by rfl)
 (ha:∀ v,ze7 (.Subscript o ik pos') X.env v=(do
 let ov <- qz9 [v] (eval o X.env);let iv <- qz9 [v,ov] (eval ik X.env)
 standAt pos'
 qz9 [v,ov,iv] (setItem ov iv v)
 release [v,ov,iv] []):=by intro _;rfl):GS1 X (.Assign [.Subscript o ik pos'] e pos) (lF fa fk fe):=
 PS.mono (PS.or (AB he (AA hx hk uq ha) hs2 hw h1) (qE (gU hr) hx hk he hs)) fun D σ H ⟨δ,ch,F,ρ,og,en,U,kk⟩=>by
  unfold lF at U;obtain ⟨⟨c1,ch1⟩,hp,hg1⟩:=bS U;clear U;obtain ⟨⟨c2,ch2⟩,hq,hg2⟩:=bS hg1;clear hg1;obtain ⟨⟨c3,ch3⟩,hw,U⟩:=bS hg2;clear hg2;dsimp only at hq hw U;split at U<;>first | (cases U;done) | skip
  rename_i i d;obtain ⟨o',q,U⟩:=mS U;cases U;obtain ⟨o0,ho,q⟩:=bS q;cases o0 with
  | lst l =>obtain ⟨j,hj,q⟩:=bS q;obtain ⟨m,hm,rfl⟩:=mS q;left;refine ⟨δ,ch,F,ρ,_,ch1,en,hp,fun v F1 H1 ρ1 a1 r1=>⟨δ,ch1,F1,ρ1,_,ch2,en.adv a1,hq,fun x F2 H2 ρ2 O r2=>⟨δ,ch2,F2,ρ2,_,ch3,(en.adv a1).adv O,hw,fun y F3 H3 W L r3=>?_⟩⟩⟩;obtain ⟨vs,q1,q2⟩:=L.gh.ok i _ ho;have hi3:i<ch3.length:=(gX ho).1;have a12:=a1.trans en.gh O;have Y:=a12.trans en.gh L;have Z:=(r1.mono O.old O.ext O.len).mono L.old L.ext L.len;refine ⟨_,vs,j,m,(r2.mono L.old L.ext L.len).2,mB hj r3,q1,by rw [q2.length];exact hm,?_⟩;have a4:=Adv.upd (o:=.lst (l.set m c1)) (u:=.lst (vs.set m v)) L.gh hi3 q1 (fun _ _ z=>nomatch z) ⟨_,aq,q2.set Z m⟩;have a:=Y.trans en.gh a4;exact kk σ F3 _ W a (en.adv a)
  | dK l =>
   obtain ⟨j,hj,q⟩:=bS q;split at q<;>first | (cases q;done) | skip
   rename_i hz;cases q;right;refine ⟨δ,ch,F,ρ,_,ch1,en,hp,fun v F1 H1 ρ1 a1 r1=>⟨δ,ch1,F1,ρ1,_,ch2,en.adv a1,hq,fun x F2 H2 ρ2 O r2=>⟨δ,ch2,F2,ρ2,_,ch3,(en.adv a1).adv O,hw,fun y F3 H3 W L r3=>?_⟩⟩⟩;obtain ⟨kvs,q1,q2,q3⟩:=L.gh.ok i _ ho;have hi3:i<ch3.length:=(gX ho).1;have a12:=a1.trans en.gh O;have Y:=a12.trans en.gh L;have Z:=(r1.mono O.old O.ext O.len).mono L.old L.ext L.len;obtain ⟨z1,z2⟩:=j5 (k:=j) Z hz.2 q2 q3
   have hlen:kvs.length=l.length:=by have:=congrArg qo0 q2;simpa using this
   refine ⟨_,upd H3 (W i) (.dK (dk kvs j v)),(r2.mono L.old L.ext L.len).2,?_,?_⟩
   . rw [j4 hj r3];exact DPut.k q1 (by rw [hlen];exact hz.1)
   . have a4:=Adv.upd (o:=.dK (eJ l j c1)) (u:=.dK (dk kvs j v)) L.gh hi3 q1 (fun _ _ z=>nomatch z) ⟨_,aq,z1,z2⟩;have a:=Y.trans en.gh a4;exact kk σ F3 _ W a (en.adv a)
  | tup l=>cases q
  | ins c ns l=>cases q
  | wk l=>cases q
  | dT l=>cases q
  | wt l=>cases q
end
def e6 (m:Nat) (g:Fs):Fd:=fun cs ch=>match g (cs.map some++qe6 (m-cs.length) none) ch with
 | some (.rt c ch')=>some (c,ch')
 | some (.nx _ ch')=>some (.dat .non,ch')
 | _=>none
theorem dZ {F:Hp} {cs:List CV} (g:Gh K F H ρ ch) (r:RelCs K F ρ ch.length cs vs):Ge K (cs.map some++qe6 (N.length-cs.length) none) ch (start N vs) F H ρ:=by
 have L:=r.length;refine ⟨g,by simp [start,L],fun i c h=>?_⟩;by_cases hi:i<cs.length
 . rw [qb5 (by simpa using hi),qb1] at h;have q:cs[i]?=some cs[i]:=by simp [hi]
   rw [q] at h;cases h;obtain ⟨v,O,U⟩:=r.get q;refine ⟨v,?_,U⟩;unfold start;rw [qb5 (by simp;lia),qb1,O];rfl
 . rw [qc4 (by simpa using hi)] at h;rw [qi4] at h;split at h<;>cases h
section
variable {P:qc5} {w:World} {K:xA9} {mg:Str->Option Value} {base:Heap}
theorem Bn {q:Str} {k:Nat} {g:Fs} {f:Addr} (D:Fun K x q st f fd) (S:FnScope N ps (ac st)) (Z:ps.length=n)
 (L:∀ (cdv:Value) (A:qd7) (outer:List Env) (s:qa4) (H:Hp) (E:XK),Room k (A.deeper (qv4 q (ac st) s.heap.objs.size f cdv))->GS (iP CX0 P w K mg base N q (ac st) f cdv A outer s H E).nox (az st) g) :
  FnOk P w K mg base CX0 (k+1) f fd ps (spG K n (e6 N.length g)):=by
 refine D.ok S (fun vs H Q E h=>?_) (fun cdv A outer s H vs Q E Y h=>?_)
 . obtain ⟨F,ρ,cs,ch,c,ch',_,U,r,_⟩:=h;rw [r.length,U,Z]
 . obtain ⟨F,ρ,cs,ch,c,ch',W,U,r,O,kq⟩:=h;refine ⟨_,L cdv A outer s H E Y,?_⟩;unfold e6 at O;split at O
   . rename_i c1 ch1 q;cases O;exact ⟨_,ch,F,ρ,_,dZ W r,q,fun v F' H' ρ' a z=>kq v F' H' ρ' a z⟩
   . rename_i δ1 ch1 q;cases O;exact ⟨_,ch,F,ρ,_,dZ W r,q,fun σ' F' H' ρ' a z=>kq .non F' H' ρ' a (fR (K:=K) (F:=F'))⟩
   . cases O
end
section
variable {X:Cx} {e a b o:Expr} {es rest:List Expr} {f fa fb fe:Fg} {fs:Fgs} {ta tb:Ft} {pos apos cpos p:Pos} {sc:Scope} {x:Str} {K:xA9}
def GW (X:Cx) (e:Expr) (f:Ft):Prop:=PW X e (tGT X.K f)
def j6 (f:Fg):Ft:=fun δ ch=>(f δ ch).bind fun p=>(vw p.2 p.1).bind fun d=>(uJ d).map fun b=>(b,p.2)
theorem u7 (U:GE X a fa) (O:∀ q,isTrue a X.env q=(do let v <- q;standAt a.pos;qz9 [v] (truthy v))):GT X a (j6 fa):=PT.mono (nn U O) fun σ H Q ⟨δ,ch,F,ρ,b,ch',en,L,k⟩=>by unfold j6 at L;obtain ⟨p,hp,L⟩:=bS L;obtain ⟨d,Y,L⟩:=bS L;obtain ⟨c,W,L⟩:=mS L;cases L;exact ⟨δ,ch,F,ρ,p.1,_,en,hp,fun v F' H' ρ' a r=>⟨_,qP a.gh.fh (fW a.gh r Y) W,k F' H' ρ' a⟩⟩
theorem GW.t (h:GW X a ta):GT X a ta:=h.pt
def vws (ch:CH):List CV->Option (List Dt)
 | []=>some []
 | c::l=>(vw ch c).bind fun d=>(vws ch l).map (d::·)
theorem lG {F:Hp} (g:Gh K F H ρ ch):∀ {l:List CV} {ds:List Dt} {vs:List V},RelCs K F ρ ch.length l vs->vws ch l=some ds->lp K F H ds vs
 | [],ds,vs,r,h=>by cases h;exact r
 | c::l,ds,vs,r,h=>by simp only [vws] at h;obtain ⟨d,W,h⟩:=bS h;obtain ⟨es,q,rfl⟩:=mS h;obtain ⟨v,L,e,O,U⟩:=r;exact ⟨v,L,e,fW g O W,lG g U q⟩
def eB (g:List Dt->Option T) (fs:Fgs):Fg:=fun δ ch=>(fs δ ch).bind fun p=>(vws p.2 p.1).bind fun ds=>(g ds).bind (al p.2)
theorem Dv {r:List V->Hp->VK->Prop} {g:List Dt->Option T} (U:CRD K r g) (h:tG K (eB g fs) σ H Q):tCB r (tGs K fs) σ H Q:=by obtain ⟨δ,ch,F,ρ,c,ch',en,q,k⟩:=h;unfold eB at q;obtain ⟨p,hp,q⟩:=bS q;obtain ⟨ds,W,q⟩:=bS q;obtain ⟨t,Y,q⟩:=bS q;exact ⟨δ,ch,F,ρ,p.1,p.2,en,hp,fun vs F1 H1 ρ1 L O=>U F1 H1 ds vs Q t L.gh.fh (lG L.gh O W) Y (j3 L.gh q (k.adv en.gh L))⟩
theorem u8 {id:String} {r:List V->Hp->VK->Prop} {gg:List Dt->Option T} (h:aB sc x=true) (O:c8 X (.builtin id) r) (W:CRD X.K r gg) (Z:X.mg x=none) (Y:qe4 x=some (.builtin id)) (ha:GA X (e::es) fs) (e1:bA X sc:=by rfl)
  (U:qa6 (e::es) X.env=(false,eval e X.env)::qa6 es X.env:=by rfl) (L:(qj4 pos (qa6 es X.env)).any (·.1)=false:=by rfl):GE X (.Call (.Name x p) (e::es) [] pos) (eB gg fs):=
 PE.mono (fQ h O Z Y ha e1 U L) fun σ H Q q=>Dv W q
def eIf (c:Ft) (f g:Fg):Fg:=fun δ ch=>(c δ ch).bind fun p=>if p.1 then f δ p.2 else g δ p.2
theorem Dw {c:Expr} {tc:Ft} (O:GT X c tc) (h:GE X a fa) (h':GE X b fb):GE X (.IfExp c a b pos) (eIf tc fa fb):=PE.mono (ng O h h') fun σ H Q ⟨δ,ch,F,ρ,x,ch',en,L,k⟩=>by
 unfold eIf at L;obtain ⟨p,hp,L⟩:=bS L;refine ⟨δ,ch,F,ρ,p.1,p.2,en,hp,fun F' H' ρ' a=>?_⟩;split at L
 . rename_i q;rw [if_pos q];exact ⟨δ,p.2,F',ρ',x,ch',en.adv a,L,k.adv en.gh a⟩
 . rename_i q;rw [if_neg q];exact ⟨δ,p.2,F',ρ',x,ch',en.adv a,L,k.adv en.gh a⟩
theorem mC:∀ δ ch p,cG δ ch=some p->p.1.length=0:=fun δ ch p h=>by cases h;rfl
theorem y32 {f:Fg} {fs:Fgs} (h:∀ δ ch p,fs δ ch=some p->p.1.length=n):∀ δ ch p,aO f fs δ ch=some p->p.1.length=n+1:=fun δ ch p hp=>by unfold aO at hp;obtain ⟨a,L,hp⟩:=bS hp;obtain ⟨b,q,hp⟩:=mS hp;cases hp;simp [h _ _ _ q]
end
section
variable {P:qc5} {w:World} {K:xA9} {mg:Str->Option Value} {base:Heap}
theorem ip {k:Nat} {g:Fs} (D:DefF K mg x st ps) (S:FnScope N ps (ac st)) (O:ps.length=n)
 (q:∀ (f:Addr) (cdv:Value) (A:qd7) (outer:List Env) (s:qa4) (H:Hp) (E:XK),Room k (A.deeper (qv4 x (ac st) s.heap.objs.size f cdv))->GS (iP CX0 P w K mg base N x (ac st) f cdv A outer s H E).nox (az st) g) :
  OkF P w K mg base x (k+1) ps (spG K n (e6 N.length g)):=by
 obtain ⟨f,fd,h1,h2,h3,L⟩:=D.ex;exact ⟨f,fd,h1,h2,h3,Bn L S O (q f)⟩
end
section
variable {X:Cx} {e a b c o:Expr} {es rest:List Expr} {f fa fb fe:Fg} {fs:Fgs} {ta tb tc:Ft} {pos apos cpos p:Pos} {sc:Scope} {x:Str} {K:xA9} {g:Fs} {body:List Stmt}
theorem n6 (n:Nat) (hp:qy1 (model X.prog X.w) X.A X.env X.xe) (hc:GT X c tc) (hb:GS X body g):GS1 X (.While c body [] pos) (b8 tc g n):=PS.mono (ni hp hc hb) fun D σ H ⟨δ,ch,F,ρ,o,en,hg,k⟩=>by
 refine ⟨fun m σ' H'=>∃ δ' ch' F' ρ',Adv X.K F H ρ ch F' H' ρ' ch'/\Ge X.K δ' ch' σ' F' H' ρ'/\b8 tc g m δ' ch'=some o,⟨n,δ,ch,F,ρ,Adv.refl en.gh,en,hg⟩,?_⟩;rintro m σ' H' ⟨δ',ch',F',ρ',a',en',L⟩;cases m with
 | zero=>cases L
 | succ m =>
  unfold b8 at L;obtain ⟨p,hp',U⟩:=bS L;clear L;refine ⟨δ',ch',F',ρ',p.1,p.2,en',hp',fun F1 H1 ρ1 a1=>?_⟩;have a2:=a'.trans en.gh a1;have en1:=en'.adv a1;dsimp only;split at U
  . rename_i q;rw [if_pos q];obtain ⟨o1,h2,L⟩:=bS U;refine ⟨fun σ' H'=>∃ δ' ch' F' ρ',Adv X.K F H ρ ch F' H' ρ' ch'/\Ge X.K δ' ch' σ' F' H' ρ'/\b8 tc g m δ' ch'=some o,fun Z H2 z=>⟨m,qk8 m,z⟩,δ',p.2,F1,ρ1,o1,en1,h2,?_⟩;cases o1 with
    | nx Y c2=>exact fun Z F3 H3 O a4 W=>⟨Y,c2,F3,O,a2.trans en.gh a4,W,L⟩
    | ct Y c2=>exact fun Z F3 H3 O a4 W=>⟨Y,c2,F3,O,a2.trans en.gh a4,W,L⟩
    | bk Y c2=>cases L;exact fun Z F3 H3 O a4 W=>k Z F3 H3 O (a2.trans en.gh a4) W
    | rt c c2=>cases L;exact fun v F3 H3 O a4 r=>k v F3 H3 O (a2.trans en.gh a4) r
  . rename_i q;rw [if_neg q];cases U;exact k σ' F1 H1 ρ1 a2 en1
end
section
variable {prog:qc5} {w:World} {A:qd7} {E:Value->qa4->Prop} {s:qa4} {a:Addr} {its:Array Value} {c:Nat} {sl:Array (Option Value)}
end
section
variable {prog:qc5} {w:World} {A:qd7} {E:Value->qa4->Prop} {s:qa4} {a:Addr} {its:Array Value} {c:Nat} {sl:Array (Option Value)}
end
section
variable {X:Cx} {e o:Expr} {sc:Scope} {p pos:Pos} {fs:De->Option (List Dt)}
end
section
variable {prog:qc5} {w:World} {A:qd7}
variable {E:Value->qa4->Prop} {s:qa4} {a:Addr} {its:Array Value} {c:Nat} {sl:Array (Option Value)}
end
section
variable {X:Cx}
end
section
variable {K:xA9} {F H:Hp} {ρ:Nat->Addr} {ch:CH}
end
section
variable {X:Cx} {e a b o:Expr} {es:List Expr} {f fa fb fc fe:Fg} {fs:Fgs} {pos apos cpos p:Pos} {sc:Scope} {x:Str} {K:xA9}
end
section
variable {X:Cx} {e a b o value:Expr} {es:List Expr} {f fa fb fc fe fk:Fg} {fs:Fgs} {pos apos cpos tpos p:Pos} {sc:Scope} {x:Str} {K:xA9}
end
def gC (src:List (Option Nat)) (δ:Sl):Sl:=src.map fun o=>o.bind fun j=>(δ[j]?).join
noncomputable def f9 (ts:List Nat) (bb:Dt->De->Option De) (ft:De->Option Bool) (fe:Fg) (δ:Sl):List Dt->CH->Option (List CV×CH)
 | [],ch=>some ([],ch)
 | d::r,ch=>(bb d (lo δ ch)).bind fun δ1=>(ft (lo (mgS ts δ δ1) ch)).bind fun b=>if b then (fe (mgS ts δ δ1) ch).bind fun p=>(f9 ts bb ft fe δ r p.2).map fun q=>(p.1::q.1,q.2) else f9 ts bb ft fe δ r ch
noncomputable def n8 (src:List (Option Nat)) (fi:De->Option (List Dt)) (ts:List Nat) (bb:Dt->De->Option De) (ft:De->Option Bool) (fe:Fg):Fg:=fun δ ch =>(fi (lo δ ch)).bind fun ds=>(f9 ts bb ft fe (gC src δ) ds ch).bind fun p=>if p.1.length<=qb0 then some (.ref p.2.length,p.2++[.lst p.1]) else none
section
variable {K:xA9} {F H F' H' F1 H1:Hp} {ρ ρ' ρ1:Nat->Addr} {ch ch' ch1:CH} {src:List (Option Nat)} {δ:Sl} {σ:St}
theorem Bo {k:Nat} (h:(gC src δ)[k]?=some (some c)):∃ j,src[k]?=some (some j)/\δ[j]?=some (some c):=by
 unfold gC at h;rw [qb1] at h;cases e:src[k]? with
 | none=>rw [e] at h;cases h
 | some o =>
  rw [e] at h;cases o with
  | none=>cases h
  | some j =>
   simp only [qe5,qa1,qj3] at h;refine ⟨j,rfl,?_⟩;cases q:δ[j]? with
   | none=>rw [q] at h;cases h
   | some u=>rw [q] at h;simp only [qn1] at h;rw [h]
theorem Ge.comp (en:Ge K δ ch σ F H ρ):Ge K (gC src δ) ch (stC src σ) F H ρ:=⟨en.gh,by simp [gC,stC],fun k c h=>by obtain ⟨j,h1,h2⟩:=Bo h;obtain ⟨v,h3,q⟩:=en.has j c h2;exact ⟨v,qT h1 h3,q⟩⟩
structure Bd (K:xA9) (F1 H1:Hp) (ρ1:Nat->Addr) (ch1:CH) (D:Addr) (F H:Hp) (ρ:Nat->Addr) (ch:CH) (done:List CV) (ys:List V):Prop where
 adv:Adv K F1 H1 ρ1 ch1 F H ρ ch
 hD:H D=some (.lst ys)
 fD:F D=none
 nD:∀ i,i<ch.length->ρ i≠D
 rel:RelCs K F ρ ch.length done ys
variable {D:Addr} {done:List CV} {ys:List V}
theorem Bd.step (g1:Gh K F1 H1 ρ1 ch1) (b:Bd K F1 H1 ρ1 ch1 D F H ρ ch done ys) (a:Adv K F H ρ ch F' H' ρ' ch'):Bd K F1 H1 ρ1 ch1 D F' H' ρ' ch' done ys where
 adv:=b.adv.trans g1 a
 hD:=a.prot D _ b.hD fun i hi=>b.nD i hi
 fD:=by
  cases q:F' D with
  | none=>rfl
  | some o =>
   rcases a.nw D o q with z | z | ⟨xs,z⟩
   . rw [b.fD] at z;cases z
   . rw [b.hD] at z;cases z
   . subst z;have L:=a.gh.fh _ _ q;rw [a.prot D _ b.hD fun i hi=>b.nD i hi] at L;cases L
 nD:=fun i hi e=>by
  by_cases h:i<ch.length
  . rw [a.ext i h] at e;exact b.nD i h e
  . have:=a.fr i (qi9.mp h) hi;rw [e,b.hD] at this;cases this
 rel:=b.rel.mono a.old a.ext a.len
theorem Bd.more (q:H1 D=none) (b:Bd K F1 H1 ρ1 ch1 D F H ρ ch done ys) (r:RelC K F ρ ch.length c v):Bd K F1 H1 ρ1 ch1 D F (upd H D (.lst (ys++[v]))) ρ ch (done++[c]) (ys++[v]) where
 adv:=⟨⟨fun x o e=>by
     have:x≠D:=fun z=>by rw [z,b.fD] at e;cases e
     rw [ao this];exact b.adv.gh.fh x o e,b.adv.gh.inj,b.adv.gh.out,fun i o h=>(b.adv.gh.ok i o h).mono (Same.refl _) (fun _ _=>rfl) (nL _) fun u L=>by
     rw [ao (b.nD i (gX h).1)];exact L⟩,b.adv.len,b.adv.ext,b.adv.fr,fun x o h1 h2=>by
     have:x≠D:=fun z=>by rw [z,q] at h1;cases h1
     rw [ao this];exact b.adv.prot x o h1 h2,b.adv.old,b.adv.nw,fun x o u h=>by
     have:x≠D:=fun z=>by rw [z,q] at h;cases h
     rw [ao this];exact b.adv.fz x o u h⟩
 hD:=aq
 fD:=b.fD
 nD:=b.nD
 rel:=b.rel.append (RelCs.one r)
theorem Bd.fin (O:H1 D=none) (b:Bd K F1 H1 ρ1 ch1 D F H ρ ch done ys):Adv K F1 H1 ρ1 ch1 F H (fun i=>if i=ch.length then D else ρ i) (ch++[.lst done]):=by
 have lt:∀ {i:Nat},i<ch.length->(if i=ch.length then D else ρ i)=ρ i:=fun {i} hi=>if_neg (qc1 hi)
 have g:=b.adv.gh;refine ⟨⟨g.fh,fun i j hi L e=>?_,fun i hi=>?_,fun i x q=>?_⟩,by have:=b.adv.len;simp;lia,fun i hi=>?_,fun i h1 h2=>?_,b.adv.prot,b.adv.old,b.adv.nw,b.adv.fz⟩
 . simp only [qb3,qc0,qg4] at hi L;by_cases h1:i=ch.length<;>by_cases h2:j=ch.length
   . rw [h1,h2]
   . rw [if_pos h1,if_neg h2] at e;exact absurd e.symm (b.nD j (by lia))
   . rw [if_neg h1,if_pos h2] at e;exact absurd e (b.nD i (by lia))
   . rw [if_neg h1,if_neg h2] at e;exact g.inj i j (by lia) (by lia) e
 . simp only [qb3,qc0,qg4] at hi;by_cases h1:i=ch.length
   . rw [if_pos h1];exact .inl b.fD
   . rw [if_neg h1];exact g.out i (by lia)
 . simp only [qb3,qc0,qg4];by_cases h1:i<ch.length
   . rw [qb5 h1] at q;rw [lt h1];exact (g.ok i x q).mono (Same.refl _) (fun j L=>lt L) (qo3 _) fun u U=>U
   . rw [gR (qi9.mp h1)] at q
     have h2:i=ch.length:=by have:=(gX q).1;simp at this;lia
     subst h2;simp at q;subst q;rw [if_pos rfl];exact ⟨ys,b.hD,b.rel.mono (Same.refl _) (fun j L=>lt L) (qo3 _)⟩
 . rw [lt (qb4 hi b.adv.len)];exact b.adv.ext i hi
 . simp only [qb3,qc0,qg4] at h2;by_cases h3:i=ch.length
   . rw [if_pos h3];exact O
   . rw [if_neg h3];exact b.adv.fr i h1 (by lia)
end
section
variable {X:Cx} {elt tg iter:Expr} {ifs:List Expr} {scope:Scope} {pos:Pos} {M:List Str} {src:List (Option Nat)} {fi:De->Option (List Dt)} {ft:De->Option Bool} {fe:Fg}
theorem u9 (hts:(ts.all fun k=>decide (src[k]?=some none))=true):∀ (σ:St) (H:Hp) (Q:VK),tG X.K (n8 src fi ts bb ft fe) σ H Q->ld src (tIF X.K fi) (gD X.K ts bb) (tTr X.K ft) (tG X.K fe) σ H Q:=fun σ H Q ⟨δ,ch,F,ρ,c,ch',en,hf,k⟩=>by
 unfold n8 at hf;obtain ⟨ds,hd,hf1⟩:=bS hf;obtain ⟨⟨all,ch2⟩,ha,hf2⟩:=bS hf1;clear hf hf1;split at hf2<;>first | (cases hf2;done) | skip
 rename_i hz;cases hf2;have hz:all.length<=qb0:=hz;rw [nC];refine ⟨_,_,F,ds,rfl,en.en,hd,fun J ok H1 F1 st1 wd ho D hD=>?_⟩;have a1:=Adv.of en.gh st1;have U:=en.adv a1;have k1:=k.adv en.gh a1
 have wk:∀ {σ2:St},σ2.length=(stC src σ).length->(∀ j,j∉ts->σ2[j]?=(stC src σ)[j]?)->Wk (stC src σ) σ2:=fun {σ2} h1 h2=>by
  refine ⟨h1.symm,fun j v hj=>?_⟩;by_cases hm:j∈ts
  . have:=qj1.mp hts j hm;have hn:src[j]?=some none:=of_decide_eq_true this;obtain ⟨i,e,_⟩:=pE hj;rw [hn] at e;cases e
  . rw [h2 j hm];exact hj
 refine lr (n:=ds.length) (fun i H=>∃ F ρ' c' ys done L,Bd X.K F1 H1 ρ ch D F H ρ' c' done ys/\f9 ts bb ft fe (gC src δ) (ds.drop i) c'=some (L,ch2)/\done++L=all) ?_ ?_ ?_ ?_
 . refine ⟨F1,ρ,ch,[],[],all,⟨Adv.of U.gh (Step.made U.gh.fh hD),aq,U.gh.fh.free hD,fun i hi e=>?_,rfl⟩,by simpa using ha,rfl⟩;obtain ⟨u,hu⟩:=U.gh.at hi;rw [e,hD] at hu;cases hu
 . rintro i H' ⟨F',ρ',c',ys,done,L,b,_⟩;obtain ⟨p1,p2,_⟩:=wd i H' F' (ho H' (b.adv.old.trans b.adv.gh.fh)) b.adv.gh.fh b.adv.old;exact ⟨p1,p2⟩
 . rintro i x H0' H' hi ⟨F0',ρ0,c0,ys,done,L,b0,W,O⟩ hy0;obtain ⟨_,_,p3⟩:=wd i H0' F0' (ho H0' (b0.adv.old.trans b0.adv.gh.fh)) b0.adv.gh.fh b0.adv.old;obtain ⟨d,F',hd',stw,rd⟩:=p3 x H' hi hy0;have b1:=b0.step U.gh (Adv.of b0.adv.gh stw);have en2:=(U.adv b1.adv).comp (src:=src);rw [jB hd'] at W;unfold f9 at W;obtain ⟨δ1,h1,Z⟩:=bS W;obtain ⟨bo,h2,Y⟩:=bS Z;clear W Z;refine ⟨_,_,F',d,δ1,rfl,en2.en,rd,h1,fun σ2 l2 k2 e2=>⟨wk l2 k2,?_⟩⟩;have en3:=en2.mg rfl l2 k2 e2;refine ⟨_,_,F',bo,rfl,en3.en,h2,fun H3 F3 st3=>?_⟩;have b3:=b1.step U.gh (Adv.of b1.adv.gh st3);have en4:=en3.adv (Adv.of b1.adv.gh st3);dsimp only;split at Y
   . rename_i q;rw [if_pos q];obtain ⟨⟨y,c4⟩,hy,hgo3⟩:=bS Y;obtain ⟨⟨zs,c5⟩,hzs,hgo4⟩:=mS hgo3;cases hgo4;refine ⟨_,_,F3,ρ0,y,c4,en4,hy,fun v F4 H4 ρ4 a4 rv=>?_⟩;have b4:=b3.step U.gh a4;refine ⟨ys,b4.hD,?_,F4,ρ4,c4,ys++[v],done++[y],zs,b4.more hD rv,hzs,by rw [<- O];simp⟩;have e1:=b4.rel.length;have e2:all.length=done.length+(zs.length+1):=by rw [<- O];simp
     lia
   . rename_i q;rw [if_neg q];exact ⟨F3,ρ0,c0,ys,done,L,b3,Y,O⟩
 . rintro H' ⟨F',ρ',c',ys,done,L,b,W,O⟩;rw [qt9] at W;cases W;rw [qe8] at O;subst O;refine k1 (.ref D) F' H' _ (b.fin hD) ⟨by simp,?_⟩;dsimp only;rw [if_pos rfl]
theorem xV (S:CmpScope X.N X.env.scope scope M src) (W:X.calm=true) (hi:DIF X tg iter fi) (Z:M.Nodup->∀ C s H ex,DG (cxC X M scope C s H ex) tg ts bb)
 (Y:∀ C s H ex,DTs (cxC X M scope C s H ex) ifs ft) (O:∀ C s H ex,GE (cxC X M scope C s H ex) elt fe) (q:(ts.all fun k=>decide (src[k]?=some none))=true) (U:∀ x,qg8 iter X.env x=pure x:=by intro _;rfl) :
  GE X (.ListComp elt [⟨tg,iter,ifs,0⟩] scope pos) (n8 src fi ts bb ft fe):=PE.mono (nA (g:=gD X.K ts bb) (tt:=tTr X.K ft) (te:=tG X.K fe) S W hi (fun L C s H ex=>Z L C s H ex) (fun C s H ex=>Y C s H ex) (fun C s H ex=>O C s H ex) U) (u9 q)
end
def vc:Key->Dt
 | .inl i=>.int i
 | .inr x=>.str x
theorem xW {F:Hp} (k:Key):Rep K F (vc k) (kV k):=by
 cases k with
 | inl i=>exact ev
 | inr x=>exact hW
section
variable {K:xA9} {F H F' H' F1 H1:Hp} {ρ ρ' ρ1:Nat->Addr} {ch ch' ch1:CH} {i:Nat} {l:List (Key×CV)} {kvs:List (Key×V)} {ob:Obj}
end
section
variable {X:Cx} {tg d:Expr} {body:List Stmt} {fd:Fg} {g:Fs} {pos:Pos}
end
section
variable {X:Cx} {pos:Pos} {σ:St} {δ:Sl}
end
section
variable {X:Cx} {o:Expr} {fa:Fg} {pos apos cpos:Pos}
end
section
variable {X:Cx} {elt tg iter:Expr} {ifs:List Expr} {scope:Scope} {pos:Pos} {M:List Str} {src:List (Option Nat)} {fi:De->Option (List Dt)} {ft:De->Option Bool} {fe:De->Option Dt} {fg:Fg} {i:Nat}
end
section
variable {X:Cx}
end
def cz (sc:Scope) (N:List Str):Bool:=(qc2 N.length).all fun i=>match N[i]? with
 | some x=>cV sc N i x&&g6 sc x
 | none=>false
theorem nsB (h:cz sc N=true) (e:N[i]?=some x):cV sc N i x=true/\g6 sc x=true:=by have h1:=qj1.mp h i (qd9.mpr (gX e).1);rw [e] at h1;exact qp7.mp h1
theorem nsN (h:cz sc N=true) (i:Nat) (e:N[i]?=some x:=by rfl):cV sc N i x=true:=(nsB h e).1
theorem nsL (h:cz sc N=true) (i:Nat) (e:N[i]?=some x:=by rfl):g6 sc x=true:=(nsB h e).2
theorem pvN {pos:Pos} (i:Nat) (h:cz sc N=true) (e:N[i]?=some x:=by rfl) (e1:bA X sc:=by rfl) (e2:X.N=N:=by rfl):PE X (.Name x pos) (iK i):=pvD i (nsN h i e) e1 e2
theorem qZ:∀ a b:List Nat,ltCps a b=false->ltCps b a=false->a=b
 | [],[],_,_=>rfl
 | [],_::_,h,_=>by simp [ltCps] at h
 | _::_,[],_,h=>by simp [ltCps] at h
 | x::r,y::t,h,h'=>by
  simp only [ltCps,qu3,decide_eq_false_iff_not,qt0,beq_iff_eq] at h h';have e:x=y:=by lia
  subst e;rw [qZ r t (h.2 rfl) (h'.2 rfl)]
theorem ra:∀ a b:List Nat,ltCps a b=true->ltCps b a=false
 | [],[],h=>by simp [ltCps] at h
 | [],_::_,_=>rfl
 | _::_,[],h=>by simp [ltCps] at h
 | x::r,y::t,h=>by
  simp only [ltCps,qh7,decide_eq_true_eq,qa9,beq_iff_eq] at h;simp only [ltCps,qu3,decide_eq_false_iff_not,qt0,beq_iff_eq];rcases h with h | ⟨rfl,h⟩
  . exact ⟨by lia,fun e=>by lia⟩
  . exact ⟨by lia,fun _=>ra r t h⟩
theorem lH:∀ a b c:List Nat,ltCps b a=false->ltCps c b=false->ltCps c a=false
 | [],b,c,h1,h2=>by
  cases b with
  | nil=>exact h2
  | cons y t =>
   cases c with
   | nil=>simp [ltCps] at h2
   | cons z u=>rfl
 | x::r,[],c,h1,h2=>by simp [ltCps] at h1
 | x::r,y::t,[],h1,h2=>by simp [ltCps] at h2
 | x::r,y::t,z::u,h1,h2=>by
  simp only [ltCps,qu3,decide_eq_false_iff_not,qt0,beq_iff_eq] at h1 h2 ⊢;refine ⟨by lia,fun e=>?_⟩;subst e;have e:y=z:=by lia
  subst e;exact lH r t u (h1.2 rfl) (h2.2 rfl)
def leS (a b:Str):Bool:=!ltCps b.cps.toList a.cps.toList
theorem leS_iff {a b:Str}:leS a b=true↔ltCps b.cps.toList a.cps.toList=false:=by simp [leS]
theorem lI (a b c:Str) (h:leS a b=true) (h':leS b c=true):leS a c=true:=leS_iff.mpr (lH _ _ _ (leS_iff.mp h) (leS_iff.mp h'))
theorem sN (a b:Str):(leS a b||leS b a)=true:=by
 cases h:leS a b with
 | true=>rfl
 | false =>
  have h1:ltCps b.cps.toList a.cps.toList=true:=by simpa [leS] using h
  simp [leS_iff.mpr (ra _ _ h1)]
theorem n9 {a b:Str} (h:leS a b=true) (h':leS b a=true):a=b:=by
 have e:=qZ _ _ (leS_iff.mp h') (leS_iff.mp h);cases a with
 | mk a=>cases b with
  | mk b=>simp only at e;rw [Array.toList_inj.mp e]
def eX (ss:List Str):List Str:=ss.mergeSort leS
theorem cO (ss:List Str):(eX ss).Perm ss:=List.mergeSort_perm ss leS
theorem iq (ss:List Str):(eX ss).Pairwise fun a b=>leS a b=true:=za8 lI sN ss
theorem lJ:∀ (p:Str) (l:List Str),risingS p l=true->(p::l).Pairwise fun a b=>leS a b=true
 | p,[],_=>by simp
 | p,x::r,h=>by
  simp only [risingS,qa9] at h;have L:=lJ x r h.2;have h1:leS p x=true:=h.1;refine qh5.mpr ⟨fun y q=>?_,L⟩;rcases qb2.mp q with rfl | q
  . exact h1
  . exact lI _ _ _ h1 ((qh5.mp L).1 y q)
theorem sO:∀ l:List Str,sortedS l=true->l.Pairwise fun a b=>leS a b=true
 | [],_=>qp0
 | x::r,h=>lJ x r h
theorem iZ:∀ {a b:List Str},a.Perm b->(a.Pairwise fun a b=>leS a b=true)->(b.Pairwise fun a b=>leS a b=true)->a=b
 | [],_,p,_,_=>p.nil_eq
 | x::r,b,p,q,L=>by
  cases b with
  | nil=>exact absurd p.length_eq (by simp)
  | cons y t =>
   have O:x∈y::t:=p.mem_iff.mp (.head _);have U:y∈x::r:=p.mem_iff.mpr (.head _)
   have e:x=y:=by
    rcases qb2.mp O with h | h
    . exact h
    . rcases qb2.mp U with h' | h'
      . exact h'.symm
      . exact n9 ((qh5.mp q).1 y h') ((qh5.mp L).1 x h)
   subst e;rw [iZ (zi4.cons_inv p) (qh5.mp q).2 (qh5.mp L).2]
section
variable {X:Cx}
theorem lK {F:Hp}:∀ ss:List Str,Reps K F (ss.map .str) (ss.map V.str)
 | []=>by simp only [qh4,Reps]
 | x::ss=>by simp only [qa5,Reps];exact ⟨_,_,rfl,by simp only [Rep],lK ss⟩
end
def EntA (h:Heap) (d:Addr) (ks:List Value) (ep:Nat):Prop:=∃ o es,h.get? d=some o/\o.ExactDict/\o.data=.dict es ep/\es.toList.map (·.key)=ks
theorem EntA.upTo {d:Addr} {ks:List Value} (q:EntA h d ks ep) (k:∀ o,h.get? d=some o->h'.get? d=some o):EntA h' d ks ep:=let ⟨o,es,h1,r⟩:=q;⟨o,es,k o h1,r⟩
theorem EntA.ty {d:Addr} {ks:List Value} (q:EntA s.heap d ks ep):s.TypeIs (.ref d) "dict":=let ⟨o,_,h1,h2,_⟩:=q;⟨o,h1,h2.1⟩
theorem EntA.lt {d:Addr} {ks:List Value} (q:EntA h d ks ep):d<h.objs.size:=let ⟨_,_,h1,_⟩:=q;qa8 h1
section
variable {prog:qc5} {w:World} {A:qd7} {E:Value->qa4->Prop} {s:qa4} {d it:Addr} {ks:List Value} {i ep:Nat}
theorem vd {Q:Value->qa4->Prop} (lo:(d==qi8)=false) (q:EntA s.heap d ks ep)
  (k:Q (.ref s.heap.objs.size) {s with heap:=s.heap.push {cls:=.type "dict_keyiterator",data:=.fields #[.ref d,.int 0 0,.int ks.length 0,.int ep 0]}}):wpAny (model prog w) A (zh1 (.ref d)) Q E s:=by
 obtain ⟨o,es,L,e2,O,U⟩:=id q;refine qz0 q.ty F.slot_dict_iter (qf6 F.slot_dict_iter q.ty F.entry_dict_iter ?_ (F.args_dict_iter_1 _));unfold qk5.«dict.__iter__»;refine wB ?_;unfold qk5.Dict.dictSlotNone;refine wB (wpAny_notOrdered_dict q.ty ?_);show wpAny _ _ (pure (qf3 d)) _ _ s;refine qa3 ?_;show wpAny _ _ (zd6 d >>= _) _ _ s;unfold zd6;rw [if_neg (by rw [lo];exact qb6)];refine wB (qa3 ?_);refine wB (qz1 L O (wB (zd7 L O ?_)));have W:es.size=ks.length:=by rw [<- U];simp
 refine wB (qd2 (qa3 ⟨_,rfl,"dict_keyiterator",_,⟨_,qa7 _ rfl,rfl⟩,qi2.lookup,?_⟩));simpa [qf8,W] using k
theorem ve {key:Value} {Q:Option Value->qa4->Prop} (st:s.heap.IsKeyIter it d i ks.length ep) (q:EntA s.heap d ks ep) (hk:ks[i]?=some key)
  (k:∀ h',h'.IsKeyIter it d (i+1) ks.length ep->qm5 it s.heap h'->Q (some key) {s with heap:=h'}):wpAny (model prog w) A (qw6 (.ref it)) Q E s:=by
 obtain ⟨oi,i1,i2,U⟩:=id st;obtain ⟨o,es,Y,e2,e3,W⟩:=id q;unfold qw6;refine wB (qr2 (qf1 (name:=qa0 "__next__") st.typeIs qi2 (qf6 qi2 st.typeIs qu1 ?_ (qt1 _))));refine wB (qa3 (wB (wB ?_)))
 first | refine wB (qj9 st.typeIs (qa3 ?_)) | refine wB (qm3 st.typeIs (qa3 ?_))
 refine wB (qq1 i1 U ?_);have ow:qu6 "dict_keyiterator"=false:=by decide
 simp only [ow,qf9,if_false];show wpAny _ _ (if (qf3 d==qh6)=true then _ else _) _ _ s;rw [if_neg (show ¬ ((qf3 d==qh6)=true) from qb6)];refine wB (qa3 (wB (qz1 Y e3 ?_)));have ez:es.size=ks.length:=by rw [<- W];simp
 rw [if_neg (by rw [ez];simp)];refine wB (qa3 (wB (zd7 Y e3 ?_)));rw [if_neg (by simp)];refine qa3 ?_;have Z:i<es.size:=by rw [ez];exact (gX hk).1
 have L:es[i].key=key:=by rw [<- W,qb1,qs9,qh0 Z] at hk;exact qd5 hk
 simp only [show ¬ ((i:Int)<0) from by lia,if_false,qe1,qh0 Z];refine wB ?_
 first | refine wB (qj9 st.typeIs (qa3 ?_)) | refine wB (qm3 st.typeIs (qa3 ?_))
 refine wB (zd8 st.typeIs ?_);show wpAny _ _ (za9 (.ref it) 1 (qf8 ((i:Int)+1)) >>= _) _ _ s;refine qh2 (qj7 i1 U (by simp) ?_)
 have O:(s.heap.update it (qp2 (·.setIfInBounds 1 (qf8 ((i:Int)+1))))).IsKeyIter it d (i+1) ks.length ep:=⟨_,qf2 _ i1 (qi0 (qe3 U _)),(qp1 ..).trans i2,by rw [qe3 U];simp [qf8]⟩
 refine wB (qk0 (wB (zd8 (s:={s with heap:=s.heap.update it (qp2 (·.setIfInBounds 1 (qf8 ((i:Int)+1))))}) O.typeIs ?_)));show wpAny _ _ (pure es[i].key) _ _ _;rw [L];exact qa3 (qa3 ⟨_,rfl,qa3 (k _ O (qe9 ..))⟩)
theorem xX {Q:Option Value->qa4->Prop} (nh:A.handled=none) (st:s.heap.IsKeyIter it d i ks.length ep) (q:EntA s.heap d ks ep) (hi:i=ks.length)
  (k:∀ h',zf5 it s.heap h'->Q none {s with heap:=h'}):wpAny (model prog w) A (qw6 (.ref it)) Q E s:=by
 obtain ⟨oi,i1,i2,O⟩:=id st;obtain ⟨o,es,L,e2,U,Y⟩:=id q;unfold qw6;refine wB (qr2 (qf1 (name:=qa0 "__next__") st.typeIs qi2 (qf6 qi2 st.typeIs qu1 ?_ (qt1 _))));refine wB (qa3 (wB (wB ?_)))
 first | refine wB (qj9 st.typeIs (qa3 ?_)) | refine wB (qm3 st.typeIs (qa3 ?_))
 refine wB (qq1 i1 O ?_);have Z:qu6 "dict_keyiterator"=false:=by decide
 simp only [Z,qf9,if_false];show wpAny _ _ (if (qf3 d==qh6)=true then _ else _) _ _ s;rw [if_neg (show ¬ ((qf3 d==qh6)=true) from qb6)];refine wB (qa3 (wB (qz1 L U ?_)));have W:es.size=ks.length:=by rw [<- Y];simp
 rw [if_neg (by rw [W];simp)];refine wB (qa3 (wB (zd7 L U ?_)));rw [if_neg (by simp)];refine qa3 ?_;have ge:es.size<=i:=by rw [W];lia
 simp only [show ¬ ((i:Int)<0) from by lia,if_false,qe1,qn5 ge];refine wB ?_
 first | refine wB (qj9 st.typeIs (qa3 ?_)) | refine wB (qm3 st.typeIs (qa3 ?_))
 show wpAny _ _ (za9 (.ref it) 0 .none >>= _) _ _ s;refine qh2 (qj7 i1 O (by simp) ?_);show wpAny _ _ (zg2 (.type "StopIteration") [] >>= _) _ _ _;refine wB ?_;simp only [zg2,zh9];refine wB (qd2 ?_ (by size_fits));refine qh2 (m:=ql4 _ _) (za6 (a:=qh6) (by first | rfl | (simp only [ql4];rfl)) (qd2 ?_ (by size_fits)));simp only [zg3];refine wB (za7 ?_);rw [show A.in1.handled=none from nh];refine wB (qa3 (zf6 ?_));refine wB (qu2 (b:=true) (T:="StopIteration") ⟨_,qa7 _ rfl,rfl⟩ ze9 ?_);exact qa3 (k _ (((qe9 ..).extBut.push _).push _))
theorem sP (Y:A.handled=none) (O:d≠it):Walks prog w A it [it,d] [it] ks.length (fun i v=>ks[i]?=some v) (fun i h=>h.IsKeyIter it d i ks.length ep/\EntA h d ks ep) where
 sub:=fun b q=>by simp at q;simp [q]
 frame:=fun _ _ _ st hk=>⟨let ⟨o,h1,r⟩:=st.1;⟨o,hk it (by simp) o h1,r⟩,st.2.upTo fun o e=>hk d (by simp) o e⟩
 item:=fun i s Q E hi st L=>ve st.1 st.2 (key:=ks[i]) (by simp [hi]) fun h' U W=>L _ h' s.toks (by simp [hi]) ⟨U,st.2.upTo fun o e=>W.extBut d o O e⟩ fun b o q e=>W.extBut b o (fun z=>q (by simp [z])) e
 done:=fun s Q E st L=>xX Y st.1 st.2 rfl fun h' Z=>L h' s.toks fun b o q e=>Z b o (fun z=>q (by simp [z])) e
 self:=fun _ _ _ _ st L=>wpAny_pyIter_keyiter st.1 L
theorem xY (lo:(d==qi8)=false):PySem.W.KdlSrc prog w "dict" d d ks.length (fun i v=>ks[i]?=some v) (fun h=>EntA h d ks ep) where
 type:=fun _ q=>q.ty
 there:=fun _ q=>⟨q.lt,q.lt⟩
 keep:=fun _ _ q hk=>q.upTo fun o e=>hk d (.inl rfl) o e
 notList:=by decide
 notTuple:=by decide
 hint:=fun _ _ _ _ q L=>PySem.W.kdl_hint_dict q.ty L
 iter:=fun _ _ O q=>⟨_,_,(fun _ _ L=>vd lo q L),sP O (qc1 q.lt),⟨⟨_,qa7 _ rfl,rfl,rfl⟩,q.upTo fun o e=>gP _ e⟩⟩
end
def i4 (ks:List Key):Dt:=.tup (ks.map vc)
theorem lL {F:Hp}:∀ ks:List Key,Reps K F (ks.map vc) (ks.map kV)
 | []=>by simp only [qh4,Reps]
 | k::ks=>by simp only [qa5,Reps];exact ⟨_,_,rfl,xW k,lL ks⟩
theorem vf {F:Hp} {b:Addr} {ks:List Key} (h:F b=some (.tup (ks.map kV))):Rep K F (i4 ks) (.ref b):=by unfold i4;simp only [Rep];exact ⟨b,_,rfl,SqT.of h,lL ks⟩
section
variable {K:xA9} {F H:Hp} {ρ:Nat->Addr} {ch:CH}
theorem Gh.frzT (g:Gh K F H ρ ch) {b:Addr} (O:H b=some (.tup vs)):Adv K F H ρ ch (upd F b (.tup vs)) H ρ ch:=by
 have L:Same F (upd F b (.tup vs)):=fun x o e=>by
  by_cases q:x=b
  . subst q;have:=g.fh _ _ e;rw [O] at this;rw [aq,this]
  . rw [ao q];exact e
 refine ⟨⟨fun x o e=>?_,g.inj,fun i hi=>?_,fun i o h=>(g.ok i o h).mono L (fun _ _=>rfl) (nL _) fun u U=>U⟩,nL _,fun _ _=>rfl,fun i h1 h2=>absurd h2 (qi9.mpr h1),fun _ _ h _=>h,L,fun x o e=>?_,fun _ _ _ h=>h⟩
 . by_cases q:x=b
   . subst q;rw [aq] at e;cases e;exact O
   . rw [ao q] at e;exact g.fh x o e
 . by_cases q:ρ i=b
   . rw [q,aq];exact .inr ⟨vs,rfl⟩
   . rw [ao q];exact g.out i hi
 . by_cases q:x=b
   . subst q;rw [aq] at e;cases e;exact .inr (.inr ⟨vs,rfl⟩)
   . rw [ao q] at e;exact .inl e
theorem Gh.frzTs (g:Gh K F H ρ ch):∀ (bs:List Addr) (L:List (List V)),bs.length=L.length->(∀ (j:Nat) (b:Addr) (vs:List V),bs[j]?=some b->L[j]?=some vs->H b=some (.tup vs))→
  ∃ F',Adv K F H ρ ch F' H ρ ch/\∀ (j:Nat) (b:Addr) (vs:List V),bs[j]?=some b->L[j]?=some vs->F' b=some (.tup vs)
 | [],L,_,_=>⟨F,Adv.refl g,fun j b vs h=>by simp at h⟩
 | b::bs,[],h,_=>by cases h
 | b::bs,w::L,U,h=>by
  obtain ⟨F',a,h1⟩:=Gh.frzTs g bs L (by simpa using U) fun j b vs p q=>h (j+1) b vs (by simpa using p) (by simpa using q)
  have O:=h 0 b w rfl rfl;refine ⟨_,a.trans g (a.gh.frzT O),fun j W vs p q=>?_⟩;cases j with
  | zero =>simp at p q;subst p q;exact aq
  | succ j=>exact (a.gh.frzT O).old _ _ (h1 j W vs (by simpa using p) (by simpa using q))
end
theorem lM {α β:Type} {R:α->β->Prop}:∀ {l:List α} {m:List β},Paired R l m->∀ {i:Nat} {a:α},l[i]?=some a->∃ b,m[i]?=some b/\R a b
 | _,_,.nil,i,a,h=>by simp at h
 | _,_,.cons r t,0,a,h=>by simp at h;subst h;exact ⟨_,rfl,r⟩
 | _,_,.cons r t,i+1,a,h=>by simpa using lM t (by simpa using h)
theorem j7 {α β:Type} {R:α->β->Prop}:∀ {l:List α} {m:List β},Paired R l m->l.length=m.length
 | _,_,.nil=>rfl
 | _,_,.cons r t=>by simp [j7 t]
theorem Bp {kvs:List (List Key×V)} (x:ObjOk P w H h a (.dT kvs)):kvs.length<=qb0/\(a==qi8)=false/\∃ (bs:List Addr) (ob:Obj) (es:Array DictEntry) (ep:Nat),h.get? a=some ob/\ob.data=.dict es ep/\EntA h a (bs.map .ref) ep/\bs.length=kvs.length∧
  ∀ (j:Nat) (p:List Key×V),kvs[j]?=some p->∃ b,bs[j]?=some b/\H b=some (.tup (p.1.map kV)):=by
 obtain ⟨z,y,xs,r,o,es,ep,h1,h2,h3,L,W⟩:=x;refine ⟨z,y,xs.map (·.2.1),o,es,ep,h1,h3,⟨o,es,h1,h2,h3,?_⟩,by rw [qa2,<- j7 r],fun j p hp=>?_⟩
 . rw [L,qc9,qc9];rfl
 . obtain ⟨q,O,_,U,_⟩:=lM r hp;exact ⟨q.2.1,by rw [qb1,O];rfl,U⟩
section
variable {X:Cx} {tg:Expr}
theorem pT (hc:X.calm=true):c8 X (.type "list") (fun xs H Q=>∃ a kvs,xs=[.ref a]/\H a=some (.dT kvs)/\∀ bs:List Addr,bs.length=kvs.length->(∀ (j:Nat) (b:Addr) (p:List Key×V),bs[j]?=some b->kvs[j]?=some p->H b=some (.tup (p.1.map kV)))->∀ l,H l=none->Q (.ref l) (upd H l (.lst (bs.map V.ref)))):=by
 intro pins s σ H xs us Q I r h;obtain ⟨a,kvs,rfl,hq,q⟩:=h;obtain ⟨u,rfl,rx⟩:=jO r;cases rx;obtain ⟨z,y,bs,ob,es,ep,e1,e2,en,Y,hk⟩:=Bp (I.hok a _ hq);have Z:(bs.map qf3).length<=qb0:=by rw [qa2,Y];exact z
 refine PySem.W.kdl_call (xY y) (I.ok.hd hc) en Z fun h' tk acc c kp hD L=>?_
 have O:acc.toList=bs.map qf3:=by
  apply List.ext_getElem?;intro j;cases hj:acc.toList[j]? with
  | none =>have h1:=ql5.mp hj;rw [qe7,L.1] at h1;rw [ql5.mpr h1]
  | some v=>exact (L.2 j v (by rw [<- qs9];exact hj)).symm
 have rv:Vals (bs.map V.ref) acc.toList:=by
  rw [O];clear O hk Y en Z q L;induction bs with
  | nil=>exact .nil
  | cons b bs ih=>exact .cons rfl ih
 refine ⟨.ref s.heap.objs.size,_,I.laid (t':=tk) kp (nL _) (show ObjOk X.prog X.w _ h' _ (.lst (bs.map V.ref)) from ⟨by rw [qa2,Y];exact z,acc.toList,c,rv,by rw [Array.toArray_toList];exact hD⟩),rfl,q bs Y (fun j b p h1 h2=>?_) _ (I.hok.fresh (nL _))⟩;obtain ⟨b',U,hH⟩:=hk j p h2;rw [h1] at U;cases U;exact hH
end
section
variable {K:xA9} {F H F' H' F1 H1:Hp} {ρ ρ' ρ1:Nat->Addr} {ch ch' ch1:CH} {i:Nat} {l:List (List Key×CV)} {kvs:List (List Key×V)} {ob:Obj}
end
section
variable {X:Cx} {tg d:Expr} {body:List Stmt} {fd:Fg} {g:Fs} {pos:Pos}
end
def vg:List CV->Option (List Key)
 | []=>some []
 | .dat d::r=>(jt d).bind fun k=>(vg r).map (k::·)
 | _=>none
section
variable {X:Cx} {e a b o value:Expr} {es:List Expr} {f fa fb fc fe fk:Fg} {fs:Fgs} {pos apos cpos tpos p:Pos} {sc:Scope} {x:Str} {K:xA9}
def eNT:Fg:=fun _ ch=>some (.ref ch.length,ch++[.dT []])
theorem xZ:GE X (.Dict [] [] pos) eNT:=PE.mono ux fun σ H Q ⟨δ,ch,F,ρ,c,ch',en,L,k⟩ q O=>by cases L;refine k (.ref q) F _ _ (u6 (o:=.dT []) en.gh O ⟨[],aq,rfl,rfl⟩) ⟨by simp,?_⟩;dsimp only;rw [if_pos rfl]
def asT:CO->Option (List (List Key×CV))
 | .dT l=>some l
 | .wt l=>some l
 | _=>none
theorem Bq {F:Hp} {q:Addr} {o:CO} {l:List (List Key×CV)} (h:asT o=some l) (ok:CoOk K F H ρ n q o):∃ kvs,Rd H q (.dT kvs)/\kvs.map (·.1)=l.map (·.1)/\RelCs K F ρ n (l.map (·.2)) (kvs.map (·.2)):=by
 cases o with
 | dT m=>cases h;obtain ⟨kvs,h1,h2,h3⟩:=ok;exact ⟨kvs,.inl h1,h2,h3⟩
 | wt m=>cases h;obtain ⟨ob,kvs,h1,h2,h3⟩:=ok;exact ⟨kvs,.inr ⟨ob,h1⟩,h2,h3⟩
 | _=>cases h
noncomputable def eIxT (fo:Fg) (fs:Fgs):Fg:=fun δ ch=>(fo δ ch).bind fun p=>(fs δ p.2).bind fun q=>match p.1 with
 | .ref i=>((q.2[i]?).bind asT).bind fun l=>if q.1.length<=qb0 then (vg q.1).bind fun ks=>(lkC l ks).map fun c=>(c,q.2) else none
 | _=>none
noncomputable def sgPutT (fo:Fg) (fs:Fgs) (fe:Fg):Fs:=fun δ ch=>(fe δ ch).bind fun p=>(fo δ p.2).bind fun q=>(fs δ q.2).bind fun r=>match q.1 with
 | .ref i=>match r.2[i]? with
  | some (.dT l)=>if r.1.length<=qb0/\l.length<qb0/\(l.map (·.1)).Nodup then (vg r.1).map fun ks=>.nx δ (r.2.set i (.dT (eJ l ks p.1))) else none
  | _=>none
 | _=>none
def eLT (fa:Fg):Fg:=fun δ ch=>(fa δ ch).bind fun p=>match p.1 with
 | .ref i=>match p.2[i]? with
  | some (.dT l)=>some (.ref p.2.length,p.2++[.lst (l.map fun q=>.dat (i4 q.1))])
  | _=>none
 | _=>none
theorem j8 {F:Hp}:∀ {l:List (List Key)} {bs:List Addr},bs.length=l.length->(∀ (j:Nat) (b:Addr) (ks:List Key),bs[j]?=some b->l[j]?=some ks->F b=some (.tup (ks.map kV)))->RelCs K F ρ n (l.map fun q=>.dat (i4 q)) (bs.map V.ref)
 | [],[],_,_=>rfl
 | [],_::_,h,_=>by cases h
 | _::_,[],h,_=>by cases h
 | q::l,b::bs,h,L=>⟨.ref b,_,rfl,vf (L 0 b q rfl rfl),j8 (by simpa using h) fun j b ks p1 p2=>L (j+1) b ks (by simpa using p1) (by simpa using p2)⟩
theorem vh (h:aB sc "list"=true) (hc:X.calm=true) (hm:X.mg "list"=none) (hv:qe4 "list"=some (.type "list")) (ha:GE X a fa) (e1:bA X sc:=by rfl)
  (he:qa6 [a] X.env=(false,eval a X.env)::qa6 [] X.env:=by rfl) (U:(qj4 pos (qa6 [] X.env)).any (·.1)=false:=by rfl):GE X (.Call (.Name "list" p) [a] [] pos) (eLT fa):=
 PE.mono (gu h (pT hc) hm hv (bU ha dB he) e1 he U) fun σ H Q ⟨δ,ch,F,ρ,c,ch',en,W,k⟩=>by
  unfold eLT at W;obtain ⟨⟨c1,ch1⟩,hp,L⟩:=bS W;clear W;dsimp only at L;split at L<;>first | (cases L;done) | skip
  rename_i i;split at L<;>first | (cases L;done) | skip
  rename_i l hl;cases L;refine ⟨δ,ch,F,ρ,_,ch1,en,hp,fun v F1 H1 ρ1 Y r1=>?_⟩;obtain ⟨kvs,h1,h2,h3⟩:=Y.gh.ok i _ hl;refine ⟨_,kvs,by rw [r1.2],h1,fun bs O hb q hq=>?_⟩
  obtain ⟨F',af,hF⟩:=Y.gh.frzTs bs (kvs.map fun p=>p.1.map kV) (by simpa using O) fun j b vs p1 p2=>by rw [qb1] at p2;obtain ⟨pp,q1,rfl⟩:=mS p2;exact hb j b pp p1 q1
  have Z:RelCs X.K F' ρ1 ch1.length (l.map fun q=>.dat (i4 q.1)) (bs.map V.ref):=by
   have:=j8 (K:=X.K) (F:=F') (ρ:=ρ1) (n:=ch1.length) (l:=l.map (·.1)) (bs:=bs) (by rw [<- h2];simpa using O) fun j b ks p1 p2=>hF j b _ p1 (by rw [<- h2,qb1] at p2;obtain ⟨pp,q1,rfl⟩:=mS p2;rw [qb1,q1];rfl)
   rw [qc9] at this;exact this
  refine k (.ref q) F' _ _ ((Y.trans en.gh af).trans en.gh (u6 (o:=.lst (l.map fun q=>.dat (i4 q.1))) af.gh hq ⟨_,aq,Z⟩)) ⟨by simp,?_⟩
  first
   | rw [if_pos rfl]
   | (dsimp only;rw [if_pos rfl])
end
def tupC (ch:CH):CV->Option (List CV)
 | .dat (.tup ds)=>some (ds.map .dat)
 | .ref i=>match ch[i]? with
  | some (.tup l)=>some l
  | _=>none
 | _=>none
section
variable {K:xA9} {F H:Hp} {ρ:Nat->Addr} {ch:CH} {c:CV} {v:V}
end
variable {m:Nat}
section
variable {X:Cx} {e a b o iter tg:Expr} {es:List Expr} {body:List Stmt} {g:Fs} {f fa fb fc fe fk:Fg} {fs:Fgs} {pos apos cpos tpos p:Pos} {sc:Scope} {x:Str} {K:xA9}
abbrev Fb:=CV->CH->Sl->Option Sl
def tGG (K:xA9) (b:Fb):TG:=fun v σ H Q=>∃ δ ch F ρ c δ',Ge K δ ch σ F H ρ/\RelC K F ρ ch.length c v/\b c ch δ=some δ'/\∀ σ',Ge K δ' ch σ' F H ρ->Q σ' H
def GG (X:Cx) (tg:Expr) (b:Fb):Prop:=PG X tg (tGG X.K b)
def ggN (i:Nat):Fb:=fun c _ δ=>some (δ.set i (some c))
theorem ya (h:PG X tg (je i)):GG X tg (ggN i):=PG.mono h fun v σ H Q ⟨δ,ch,F,ρ,c,δ',en,r,q,k⟩=>by cases q;exact k _ (en.put r i)
def lstC (ch:CH):CV->Option (List CV)
 | .dat (.lst ds)=>some (ds.map .dat)
 | .ref i=>match ch[i]? with
  | some (.lst l)=>some l
  | _=>none
 | _=>none
noncomputable def kR (i:Nat) (b:Fb) (g:Fs):Nat->Nat->Sl->CH->Option Og
 | 0,_,_,_=>none
 | n+1,k,δ,ch=>match ch[i]? with
  | some (.lst l)=>match l[k]? with
   | none=>some (.nx δ ch)
   | some c=>(b c ch δ).bind fun δ1=>(g δ1 ch).bind fun o=>match o with
    | .nx q ch2=>kR i b g n (k+1) q ch2
    | .ct q ch2=>kR i b g n (k+1) q ch2
    | .bk q ch2=>some (.nx q ch2)
    | .rt c ch2=>some (.rt c ch2)
  | _=>none
def j9 (fd:Fg) (b:Fb) (g:Fs) (n:Nat):Fs:=fun δ ch=>(fd δ ch).bind fun p=>match p.1 with
 | .ref i=>kR i b g n 0 δ p.2
 | _=>none
theorem yb {b:Fb} (n:Nat) (hp:qy1 (model X.prog X.w) X.A X.env X.xe) (hc:X.calm=true) (hd:GE X iter fa) (hg:GG X tg b) (hb:GS X body g)
  (hs:∀ x,qg8 iter X.env x=pure x:=by intro _;rfl):GS1 X (.For tg iter body [] pos) (j9 fa b g n):=PS.mono (pe hp hc (me hd) hg hb hs) fun D σ H ⟨δ,ch,F,ρ,og,en,hgg,k⟩=>by
 unfold j9 at hgg;obtain ⟨⟨c1,ch1⟩,hpp,q⟩:=bS hgg;clear hgg;dsimp only at q;split at q<;>first | (cases q;done) | skip
 rename_i i;rw [mr];refine ⟨δ,ch,F,ρ,_,ch1,en,hpp,fun v F1 H1 ρ1 a1 r1=>?_⟩;obtain ⟨hi,rfl⟩:=r1;have en1:=en.adv a1;have k1:=k.adv en.gh a1;refine ⟨ρ1 i,rfl,?_,?_⟩
 . cases n with
   | zero=>cases q
   | succ n =>
    unfold kR at q;split at q<;>first | (cases q;done) | skip
    rename_i l hl;obtain ⟨vs,q1,_⟩:=a1.gh.ok i _ hl;exact ⟨vs,SqL.of q1⟩
 refine ⟨fun j m σ' H'=>∃ δ' ch' F' ρ',Adv X.K F1 H1 ρ1 ch1 F' H' ρ' ch'/\Ge X.K δ' ch' σ' F' H' ρ'/\kR i b g m j δ' ch'=some og,⟨n,δ,ch1,F1,ρ1,Adv.refl a1.gh,en1,q⟩,?_⟩;rintro j m σ' H' ⟨δ',ch',F',ρ',a',en',L⟩;cases m with
 | zero=>cases L
 | succ m =>
  unfold kR at L;split at L<;>first | (cases L;done) | skip
  rename_i l hl;obtain ⟨vs,q1,q2⟩:=a'.gh.ok i _ hl;rw [a'.ext i hi] at q1;split at L
  . rename_i hj;cases L;refine .inl ⟨⟨vs,SqL.of q1,?_⟩,k1 σ' F' H' ρ' a' en'⟩;rw [q2.length];exact ql5.mp hj
  . rename_i c hj;obtain ⟨δ1,z1,hgo1⟩:=bS L;obtain ⟨o1,z2,U⟩:=bS hgo1;clear L hgo1;obtain ⟨v,hv,rv⟩:=q2.get hj;refine .inr ⟨⟨vs,v,SqL.of q1,hv⟩,fun W H2=>∃ δ' ch' F' ρ',Adv X.K F1 H1 ρ1 ch1 F' H2 ρ' ch'/\Ge X.K δ' ch' W F' H2 ρ'/\kR i b g m (j+1) δ' ch'=some og,fun W H2 z=>⟨m,by lia,z⟩,fun x H'' hy=>?_⟩;obtain ⟨rfl,hy⟩:=hy;have hx:=hy vs (SqL.of q1);rw [hv] at hx;cases hx;refine ⟨δ',ch',F',ρ',c,δ1,en',rv,z1,fun σ1 en2=>⟨δ1,ch',F',ρ',o1,en2,z2,?_⟩⟩;cases o1 with
    | nx Z c2=>exact fun W F3 H3 O a4 Y=>⟨Z,c2,F3,O,a'.trans a1.gh a4,Y,U⟩
    | ct Z c2=>exact fun W F3 H3 O a4 Y=>⟨Z,c2,F3,O,a'.trans a1.gh a4,Y,U⟩
    | bk Z c2=>cases U;exact fun W F3 H3 O a4 Y=>k1 W F3 H3 O (a'.trans a1.gh a4) Y
    | rt c c2=>cases U;exact fun v F3 H3 O a4 r=>k1 v F3 H3 O (a'.trans a1.gh a4) r
def dG {α β:Type} (f:α->Option β):List α->Option (List β)
 | []=>some []
 | a::l=>(f a).bind fun b=>(dG f l).map (b::·)
noncomputable def vwD (ch:CH):Nat->CV->Option Dt
 | _,.dat d=>some d
 | _,.fn _ _=>none
 | 0,.ref _=>none
 | n+1,.ref i=>match ch[i]? with
  | some (.lst l)=>(dG (vwD ch n) l).map .lst
  | some (.tup l)=>(dG (vwD ch n) l).map .tup
  | some (.dK l)=>(dG (vwD ch n) (l.map (·.2))).map (.dct (l.map (·.1)))
  | some (.dT l)=>(dG (vwD ch n) (l.map (·.2))).map (.dcT (l.map (·.1)))
  | _=>none
theorem cP {F:Hp} {f:CV->Option Dt} (q:∀ c v d,RelC K F ρ m c v->f c=some d->Rep K H d v):∀ {l:List CV} {ds:List Dt} {vs:List V},RelCs K F ρ m l vs->dG f l=some ds->Reps K H ds vs
 | [],ds,vs,r,h=>by cases h;simp only [Reps];exact r
 | c::l,ds,vs,r,h=>by simp only [dG] at h;obtain ⟨d,Y,h⟩:=bS h;obtain ⟨es,L,rfl⟩:=mS h;obtain ⟨v,O,rfl,U,W⟩:=r;simp only [Reps];exact ⟨v,O,rfl,q c v d U Y,cP q W L⟩
theorem jH {F:Hp} (L:Gh K F H ρ ch):∀ (n:Nat) (c:CV) (v:V) (d:Dt),RelC K F ρ ch.length c v->vwD ch n c=some d->Rep K H d v
 | 0,.dat d',v,d,r,h=>by simp only [vwD] at h;cases h;exact Rep.same L.fh r
 | n+1,.dat d',v,d,r,h=>by simp only [vwD] at h;cases h;exact Rep.same L.fh r
 | 0,.fn _ _,v,d,r,h=>by simp only [vwD] at h;cases h
 | n+1,.fn _ _,v,d,r,h=>by simp only [vwD] at h;cases h
 | 0,.ref i,v,d,r,h=>by simp only [vwD] at h;cases h
 | n+1,.ref i,v,d,r,h=>by
  obtain ⟨hi,rfl⟩:=r;simp only [vwD] at h;have U:=jH L n;split at h
  . rename_i l q;obtain ⟨ds,O,rfl⟩:=mS h;obtain ⟨vs,h1,h2⟩:=L.ok i _ q;simp only [Rep];exact ⟨_,vs,rfl,SqL.of h1,cP U h2 O⟩
  . rename_i l q;obtain ⟨ds,O,rfl⟩:=mS h;obtain ⟨vs,h1,h2⟩:=L.ok i _ q;simp only [Rep];exact ⟨_,vs,rfl,SqT.of h1,cP U h2 O⟩
  . rename_i l q;obtain ⟨ds,O,rfl⟩:=mS h;obtain ⟨vs,h1,h2,h3⟩:=L.ok i _ q;simp only [Rep];exact ⟨_,vs,rfl,.inl h1,h2,cP U h3 O⟩
  . rename_i l q;obtain ⟨ds,O,rfl⟩:=mS h;obtain ⟨vs,h1,h2,h3⟩:=L.ok i _ q;simp only [Rep];exact ⟨_,vs,rfl,.inl h1,h2,cP U h3 O⟩
  . cases h
def e2D (m:Nat) (g:Dt->Dt->Option T) (fa fb:Fg):Fg:=fun δ ch=>(fa δ ch).bind fun p=>(fb δ p.2).bind fun q=>(vwD q.2 m p.1).bind fun x=>(vwD q.2 m q.1).bind fun y=>(g x y).bind fun u=>(nY u).bind (al q.2)
theorem vi {g:Dt->Dt->Option T} (hr:R2D K r g) (h:tG K (e2D m g fa fb) σ H Q):tOp r (tG K fa) (tG K fb) σ H Q:=by obtain ⟨δ,ch,F,ρ,c,ch',en,L,k⟩:=h;unfold e2D at L;obtain ⟨p,hp,L⟩:=bS L;obtain ⟨q,hq,L⟩:=bS L;obtain ⟨x,hx,L⟩:=bS L;obtain ⟨y,hy,L⟩:=bS L;obtain ⟨u,W,L⟩:=bS L;obtain ⟨t,ht,L⟩:=bS L;refine ⟨δ,ch,F,ρ,p.1,p.2,en,hp,fun v F1 H1 ρ1 U Y=>⟨δ,p.2,F1,ρ1,q.1,q.2,en.adv U,hq,fun w F2 H2 ρ2 O Z=>?_⟩⟩;exact hr H2 H2 x y v w Q u (Same.refl _) (RepB.of (Same.refl _) (jH O.gh m _ _ _ (Y.mono O.old O.ext O.len) hx)) (RepB.of (Same.refl _) (jH O.gh m _ _ _ Z hy)) W (nZ O.gh.fh ht (j3 O.gh L (k.adv en.gh (U.trans en.gh O))))
theorem mD (m:Nat) {q:CmpOp} {g:Dt->Dt->Option T} (L:OpR X (qf7 q) r) (O:R2D X.K r g) (W:GE X a fa) (Y:GE X b fb) (U:qf4 q b=false):GT X (.Compare a [q] [b] pos) (iY (e2D m g fa fb)):=PT.mono (gM L W Y U) fun _ _ _ h=>vi O (qX h)
theorem yc (m:Nat) {q:CmpOp} {g:Dt->Dt->Option T} (L:OpR X (qf7 q) r) (O:R2D X.K r g) (W:GE X a fa) (Y:GE X b fb) (U:qf4 q b=false):GE X (.Compare a [q] [b] pos) (e2D m g fa fb):=PE.mono (jy L W Y U) fun _ _ _ h=>vi O h
end
set_option maxRecDepth 20000
def zE (i j:Int):Prop:=0<j/\j<18446744073709551616
theorem vj:OpR X (ql0 .FloorDiv) (rI zE fun i j=>.int (i/j)):=opI fun i j _ _ _ _ _ L q=>by
 have h1:(0:Int)<j:=L.1;have h2:j<18446744073709551616:=L.2;refine floordiv_int (by lia) (by rw [Int.fdiv_eq_ediv_of_nonneg i (by lia)];exact q) (.inl (PyProof.noPylong_of_log2 ?_));have h3:j.natAbs≠0:=by lia
 exact qx0 ((Nat.log2_lt h3).mpr (show j.natAbs<2^64 by lia)) (by decide)
def lN:Dt->Dt->Option T
 | .int i,.int j=>if 0<j/\j<18446744073709551616 then some (.leaf (.int (i/j))) else none
 | _,_=>none
theorem Br:R2D K (rI zE fun i j=>.int (i/j)) lN:=by
 intro F H x y Y Z Q t U L W q k;unfold lN at q;split at q<;>first | (cases q;done) | skip
 split at q
 . rename_i O;cases q;cases L;cases W;exact ⟨_,_,rfl,rfl,O,k.int U⟩
 . cases q
section
variable {K:xA9} {F:Hp} {ρ:Nat->Addr} {n:Nat}
end
section
variable {X:Cx} {e a b o iter tg:Expr} {es:List Expr} {body:List Stmt} {g:Fs} {f fa fb fc fe fk:Fg} {fs:Fgs} {pos apos cpos tpos p:Pos} {sc:Scope} {x:Str} {K:xA9}
end
def yd (lo st:Int) (n:Nat):It:=⟨fun i _=>i<n,fun i H x H'=>H'=H/\x=.int (lo+i*st),fun i _=>n<=i⟩
theorem oe {w:World} (it:Addr) (lo st:Int) (n:Nat):Turn P w K tg (yd lo st n) [it] it (fun i h=>zf0 h it (lo+(i:Nat)*st) ((n:Int)-(i:Nat)) st) where
 mem:=by simp
 obj:=fun i h q b L=>by
  have e:b=it:=by simpa using L
  subst e
  exact ⟨_,q,fun v z=>by have z':Data.fields _=Data.cell v:=z;cases z'⟩
 keep:=fun i h h' q k=>k it (by simp) _ q
 item:=by
  intro X hP hw Z U i pins s σ H E I O q Y;subst hP hw Z;obtain ⟨f0,f1,f2,f3,f4,f5⟩:=O it (by simp);have W:=Walks.range (prog:=X.prog) (w:=X.w) (I.ok.hd U) it lo st n;refine W.item i s _ _ Y q fun v h' tk hv q' kk=>?_
  obtain ⟨t,rfl⟩:=hv;have I1:Inv X pins σ H {s with heap:=h',toks:=tk}:=I.turned (fun b o L e=>kk b o (by simpa using L) e) f0 f1 f3 f4 f5;exact ⟨_,rfl,kZ (s:={s with heap:=h',toks:=tk}) (n:="range_iterator") q' rfl rfl (by decide) ⟨.int (lo+i*st),H,I1,⟨t,rfl⟩,⟨rfl,rfl⟩,q',fun b L=>(O b L).1⟩⟩
 done:=by intro X hP hw Z U i pins s σ H E I O q Y;subst hP hw Z;obtain ⟨f0,f1,f2,f3,f4,f5⟩:=O it (by simp);exact zc1 (I.ok.hd U) q (by have:n<=i:=Y;lia) fun h' eb=>⟨rfl,I.turned (t':=s.toks) (fun b o L e=>eb b o L e) f0 f1 f3 f4 f5⟩
 self:=fun _ _ _ _ _ q h=>zc2 q h
def vk (a b c:Int):Bool:=decide (-1000000<=a)&&decide (a<=1000000)&&decide (-1000000<=b)&&decide (b<=1000000)&&decide (-1000000<=c)&&decide (c<=1000000)&&decide (c≠0)
structure R3 (a b c:Int):Prop where
 a0:-1000000<=a
 a1:a<=1000000
 b0:-1000000<=b
 b1:b<=1000000
 c0:-1000000<=c
 c1:c<=1000000
 c:c≠0
theorem Dx {a b c:Int} (h:vk a b c=true):R3 a b c:=by unfold vk at h;simp only [qa9,decide_eq_true_eq] at h;obtain ⟨⟨⟨⟨⟨⟨h1,h2⟩,h3⟩,O⟩,U⟩,L⟩,q⟩:=h;exact ⟨h1,h2,h3,O,U,L,q⟩
theorem R3.size {a b c:Int} (h:R3 a b c):0<=qd0 a b c/\qd0 a b c<=2000001:=by
 obtain ⟨h1,h2,h3,W,Y,U,L⟩:=h;unfold qd0;split
 . rename_i O;split
   . have q:0<=(b-a-1)/c:=Int.ediv_nonneg (by lia) (by lia);have e2:(b-a-1)/c<=b-a-1:=Int.ediv_le_self _ (by lia);lia
   . lia
 . split
   . have q:0<=(a-b-1) / -c:=Int.ediv_nonneg (by lia) (by lia);have e2:(a-b-1) / -c<=a-b-1:=Int.ediv_le_self _ (by lia);lia
   . lia
theorem fits {a:Int} (q:-9000000<=a) (h1:a<=9000000):qv8 a=true:=by unfold qv8;simp;lia
theorem R3.small {a b c:Int} (h:R3 a b c):qk5.Range.small a b c=true:=by
 have U:=h.size;obtain ⟨h1,h2,h3,O,W,L,q⟩:=h;unfold qk5.Range.small;rw [fits (a:=a) (by lia) (by lia),fits (a:=b) (by lia) (by lia),fits (a:=c) (by lia) (by lia),fits (a:=qd0 a b c) (by lia) (by lia)];simp only [qu4,qj6,qh7];right;split
 . exact fits (by lia) (by lia)
 . exact fits (by lia) (by lia)
section
variable {X:Cx} {tg:Expr}
theorem sQ {R:It->Hp->Prop} {a b c:Int} {t u v:Tok} {tk:Nat} (I:Inv X pins σ H s) (h:R3 a b c)
 (q:R (yd a c (qd0 a b c).toNat) H):wpAny (model X.prog X.w) X.A (zh1 (.ref s.heap.objs.size)) (PIE X pins σ tg R) E {s with heap:=s.heap.push {cls:=.type "range",data:=.fields #[.int a t,.int b u,.int c v]},toks:=tk}:=by
 refine wpAny_pyIter_range (IsRange.new ..) h.small ?_;have L:Inv X pins σ H {s with heap:=s.heap.push {cls:=.type "range",data:=.fields #[.int a t,.int b u,.int c v]},toks:=tk}:=I.kept fun b o e=>gP _ e
 refine ⟨(s.heap.push {cls:=.type "range",data:=.fields #[.int a t,.int b u,.int c v]}).objs.size,[(s.heap.push {cls:=.type "range",data:=.fields #[.int a t,.int b u,.int c v]}).objs.size],_,_,H,rfl,L.kept (t':=tk) fun b o e=>gP _ e,oe _ a c (qd0 a b c).toNat,?_,fun bb U=>?_,q⟩
 . have O:a+((0:Nat):Int)*c=a:=by simp
   have e2:(((qd0 a b c).toNat:Nat):Int)-((0:Nat):Int)=qd0 a b c:=by have:=h.size;lia
   show zf0 _ _ (a+((0:Nat):Int)*c) ((((qd0 a b c).toNat:Nat):Int)-((0:Nat):Int)) c;rw [O,e2];exact qa7 _ rfl
 . have e:bb=(s.heap.push {cls:=.type "range",data:=.fields #[.int a t,.int b u,.int c v]}).objs.size:=by simpa using U
   subst e;exact L.fpOk (nL _) (L.hok.fresh (nL _))
def Dy (ta:TA):TI:=fun σ H R=>ta σ H fun vs H1=>∃ a b c:Int,vs=[.int a,.int b,.int c]/\R3 a b c/\R (yd a c (qd0 a b c).toNat) H1
theorem sS {a b c:Expr} {p pos:Pos} (hg:Gl X "range") (hm:X.mg "range"=none) (Y:PA X [a,b,c] ta) (hs:qa6 [a,b,c] X.env=[(false,eval a X.env),(false,eval b X.env),(false,eval c X.env)]:=by rfl) (L:qa6 [b,c] X.env=[(false,eval b X.env),(false,eval c X.env)]:=by rfl) :
  PI X tg (.Call (.Name "range" p) [a,b,c] [] pos) (Dy ta):=by
 intro pins s σ H R I h;refine Call_ (gm I hg hm boot_range (qi3 (thn (Y pos pins s σ H _ I h) fun us s1 ⟨vs,H1,I1,Z,q1⟩=>?_) (by rw [hs,L]) (by rw [L];rfl)));obtain ⟨i,j,k,e,U,q⟩:=q1;subst e;cases Z with
 | cons r O =>
  cases O with
  | cons r' O =>
   cases O with
   | cons W O =>cases O;obtain ⟨t,rfl⟩:=r;obtain ⟨t',rfl⟩:=r';obtain ⟨t'',rfl⟩:=W;refine call_range_3 U.c (sQ I1 U q) (.inl (PyProof.noPylong_small ?_));have:=U.c0;have:=U.c1;lia
def ir (lo st:Int) (n:Nat):List V:=(qc2 n).map fun (i:Nat)=>V.int (lo+i*st)
theorem plain_rangeS {lo st:Int}:Plain (yd lo st n) (ir lo st n) (fun _=>True):=fun i H h=>by
 refine ⟨fun hi=>?_,fun e=>?_,fun x H' hi y=>?_⟩
 . show i<n;simpa [ir] using hi
 . show n<=i;simp [ir] at e;lia
 . obtain ⟨e,rfl⟩:=y;refine ⟨e,?_⟩;unfold ir at hi ⊢;rw [qa2,qk3] at hi;rw [qb1,qv5 hi];rfl
def pU (lo st:Int) (n:Nat):List Dt:=(qc2 n).map fun (i:Nat)=>.int (lo+i*st)
theorem oh {F:Hp} (lo st:Int) (n:Nat):Reps K F (pU lo st n) (ir lo st n):=Reps.map (fun _=>ev) _
def sT:List Dt->Option (List Dt)
 | [.int a,.int b,.int c]=>if vk a b c then some (pU a c (qd0 a b c).toNat) else none
 | _=>none
variable {p pos:Pos} {sc:Scope} {x y z:Expr} {fs:De->Option (List Dt)}
theorem sU (h:aB sc "range"=true) (U:X.mg "range"=none) (O:DA X [x,y,z] fs) (e1:bA X sc:=by rfl) (hs:qa6 [x,y,z] X.env=[(false,eval x X.env),(false,eval y X.env),(false,eval z X.env)]:=by rfl) (L:qa6 [y,z] X.env=[(false,eval y X.env),(false,eval z X.env)]:=by rfl) :
  DIF X tg (.Call (.Name "range" p) [x,y,z] [] pos) (ca sT fs):=
 PI.mono (sS (glD h e1) U O.pa hs L) fun σ H R ⟨Φ,δ,F,ds,Y,en,q,k⟩=>by
  unfold ca at q;obtain ⟨W,hd,q⟩:=bS q;refine ⟨Φ,δ,F,W,Y,en,hd,fun vs H' F' st r=>?_⟩;unfold sT at q;split at q
  . rename_i i j l;split at q
    . rename_i Z;cases q;simp only [Reps,Rep] at r;obtain ⟨v,ws,rfl,rfl,w,us,rfl,rfl,w',us',rfl,rfl,rfl⟩:=r;exact ⟨i,j,l,rfl,Dx Z,k _ _ H' F' st (plain_rangeS.walk (oh _ _ _)) fun _ _=>trivial⟩
    . cases q
  . cases q
end
section
variable {X:Cx} {pins:List (Addr×Obj)} {σ:St} {H:Hp} {s:qa4} {a b:Addr} {v:V} {r:Value} {A:qd7} {E:Value->qa4->Prop}
end
section
variable {X:Cx} {o i e value:Expr} {pos pos' tpos:Pos} {td ty tv:TE} {fa fk fe:Fg}
end
section
variable {X:Cx} {es:List Expr} {pos:Pos}
end
section
variable {X:Cx} {e a b o iter tg:Expr} {es:List Expr} {body:List Stmt} {g:Fs} {f fa fb fc fe fk:Fg} {fs:Fgs} {pos apos cpos tpos p:Pos} {sc:Scope} {x:Str} {K:xA9}
end
def Rs (xs:Array Nat):Prop:=xs.toList.Pairwise (· < ·)
variable {xs:Array Nat}
theorem Rs.lt (h:Rs xs) {k:Nat} (hi:i<k) (hk:k<xs.size):xs[i]<xs[k]:=by have:=List.pairwise_iff_getElem.mp h i k (by simp;lia) (by simpa using hk) hi;simpa using this
def Cut (xs:Array Nat) (j p:Nat):Prop:=p<=xs.size/\(∀ i (q:i<xs.size),i<p->xs[i]<j)/\∀ i (q:i<xs.size),p<=i->j<=xs[i]
theorem pV (h:Rs xs):∀ n lo hi,hi<=xs.size->lo<=hi->hi-lo<=n->(∀ i (q:i<xs.size),i<lo->xs[i]<j)->(∀ i (q:i<xs.size),hi<=i->j<=xs[i])->Cut xs j (qg1.go xs j n lo hi)
 | 0,lo,hi,h1,h2,h3,L,O=>by
  have e:lo=hi:=by lia
  subst e;exact ⟨h1,L,O⟩
 | n+1,lo,hi,h1,h2,h3,L,O=>by
  rw [qg1.go];by_cases c:lo<hi
  . rw [if_pos c];have W:(lo+hi)/2<xs.size:=by lia
    dsimp only;rw [Array.getD_eq_getD_getElem?,qh0 W,Option.getD_some];by_cases d:xs[(lo+hi)/2]<j
    . rw [if_pos d];refine pV h n _ hi h1 (by lia) (by lia) (fun i q U=>?_) O;by_cases e:i=(lo+hi)/2
      . subst e;exact d
      . exact qx0 (h.lt (by lia:i<(lo+hi)/2) W) d
    . rw [if_neg d];refine pV h n lo _ (by lia) (by lia) (by lia) L fun i q U=>?_
      by_cases e:i=(lo+hi)/2
      . subst e;lia
      . have:=h.lt (by lia:(lo+hi)/2<i) q;lia
  . rw [if_neg c];have e:lo=hi:=by lia
    subst e;exact ⟨h1,L,O⟩
theorem i5 (h:Rs xs) (j:Nat):Cut xs j (qg1 xs j):=pV h _ _ _ (nL _) (qh8 _) (nL _) (fun i _ z=>absurd z (qm2 _)) fun i q z=>absurd q (qi9.mpr z)
theorem Cut.uniq {p q:Nat} (a:Cut xs j p) (b:Cut xs j q):p=q:=by
 obtain ⟨Y,W,O⟩:=a;obtain ⟨Z,L,U⟩:=b;rcases Nat.lt_trichotomy p q with h | h | h
 . have x:=L p (by lia) h;have y:=O p (by lia) (nL _);lia
 . exact h
 . have x:=W q (by lia) h;have y:=U q (by lia) (nL _);lia
theorem oj (h:Rs xs):qg1 xs 0=0:=(i5 h 0).uniq ⟨qh8 _,fun i _ z=>absurd z (qm2 _),fun _ _ _=>qh8 _⟩
theorem pW (h:Rs xs) (hi:i<xs.size):qg1 xs (xs[i]+1)=i+1:=(i5 h _).uniq ⟨hi,fun k q hk=>by
 by_cases e:k=i
 . subst e;lia
 . exact qi1 (h.lt (by lia:k<i) hi),fun k q hk=>h.lt hk q⟩
theorem vm {α:Type} (xs:Array α) (p:Nat) (x:α):(qz2 xs p x).toList=xs.toList.take p++x::xs.toList.drop p:=by simp only [qz2,qv6,qz3,Array.toList_extract,qg9,zd9];simp;rw [List.take_of_length_le (by simp)]
theorem Bs (h:Rs xs) (hj:xs[qg1 xs j]?≠some j):Rs (qz2 xs (qg1 xs j) j):=by
 obtain ⟨c1,c2,W⟩:=i5 h j;generalize qg1 xs j=p at*
 have U:∀ a∈xs.toList.take p,a<j:=fun a L=>by
  obtain ⟨i,hi,rfl⟩:=List.mem_iff_getElem.mp L;have q:i<p/\i<xs.size:=by simp at hi;lia
  simpa using c2 i q.2 q.1
 have Y:∀ a∈xs.toList.drop p,j<a:=fun a L=>by
  obtain ⟨i,hi,rfl⟩:=List.mem_iff_getElem.mp L;have q:p+i<xs.size:=by simp at hi;lia
  have:=W (p+i) q (by lia)
  have Z:xs[p+i]≠j:=fun e=>by
   by_cases z:i=0
   . subst z;exact hj (by rw [qh0 (by simpa using q)];simpa using e)
   . have y:=W p (by lia) (nL _);have w:=h.lt (by lia:p<p+i) q;lia
  simp;lia
 unfold Rs;rw [vm,List.pairwise_append];refine ⟨h.sublist (qy4 _ _),qh5.mpr ⟨Y,h.sublist (List.drop_sublist _ _)⟩,fun a L b O=>?_⟩;rcases qb2.mp O with rfl | O
 . exact U a L
 . exact qx0 (U a L) (Y b O)
def Fre (t:qg2) (j:Nat):Prop:=t.place[qg1 t.place j]?≠some j
theorem om {t:qg2} (h:∀ i,t.slot j≠.live i):Fre t j:=fun z=>by refine h (qg1 t.place j) ?_;unfold qg2.slot;dsimp only;rw [if_pos (by rw [z];simp)]
theorem lO (t:qg2) (p:qg2.Probe):(t.advance p).dummy=p.dummy:=by unfold qg2.advance;split<;>rfl
theorem i6 {t:qg2} {g:Nat->Int} {h:Int}:∀ n p,(∀ d,p.dummy=some d->Fre t d)->∀ j d,qg2.probe.go t g h n p=some (.empty j d)->Fre t j/\∀ k,d=some k->Fre t k
 | 0,p,hp,j,d,e=>by cases e
 | n+1,p,hp,j,d,e=>by
  rw [qg2.probe.go] at e;split at e
  . rename_i q;cases e;exact ⟨om fun i z=>(by rw [q] at z;cases z),hp⟩
  . rename_i q;refine i6 n _ (fun k hk=>?_) j d e;rw [lO] at hk;cases hk;exact om fun i z=>by rw [q] at z;cases z
  . split at e
    . cases e
    . exact i6 n _ (fun k hk=>hp k (by rw [lO] at hk;exact hk)) j d e
theorem vn {t:qg2} {h:Int} (e:t.freeSlot h=some (j,b)):Fre t j:=by
 unfold qg2.freeSlot at e;split at e
 . rename_i k d hk;obtain ⟨h1,h2⟩:=i6 _ _ (fun d z=>by cases z) k d hk;cases e;cases d with
   | none=>exact h1
   | some x=>exact h2 x rfl
 . cases e
theorem iu (n:Nat):Rs (Array.range n):=by unfold Rs;rw [Array.toList_range];exact qr8
theorem pX {t:qg2} (n:Nat) (h:Rs t.place):Rs (t.orStandIn n).place:=by
 unfold qg2.orStandIn;split
 . exact h
 . exact iu n
theorem sV {t:qg2} (h:Rs t.place) (es:Array (Int×Value)) (k:Int) (x:Value):Rs (layNew t es k x).2.1.place:=by
 unfold layNew;split
 . rename_i j b e;exact pX _ (Bs h (vn e))
 . exact iu _
theorem vo (t:qg2) (es:Array (Int×Value)) (n:Nat):Rs (zb0 t es n).2.1.place:=by
 unfold zb0;split
 . rename_i t' q e;dsimp only;split
   . unfold qg2.relaid qg2.laid at e;simp only [Option.bind_eq_bind,qq9,qr6] at e;obtain ⟨_,_,e⟩:=e;cases e;unfold Rs;dsimp only;rw [List.pairwise_map,List.pairwise_filterMap];refine qz4 (fun {a b} L x O y U=>?_) qr8;obtain ⟨_,_,rfl⟩:=mS O;obtain ⟨_,_,rfl⟩:=mS U;exact L
   . exact iu _
 . exact iu _
theorem pY (t:qg2) (es:Array (Int×Value)) (h:Int) (x:Value):(layNew t es h x).2.1.led=t.led:=by
 unfold layNew;split
 . dsimp only;unfold qg2.orStandIn;split<;>rfl
 . rfl
theorem sW (t:qg2) (es:Array (Int×Value)) (n:Nat):(zb0 t es n).2.1.led=t.led:=by
 unfold zb0;split
 . rename_i t' q e;dsimp only;split
   . unfold qg2.relaid qg2.laid at e;simp only [Option.bind_eq_bind,qq9,qr6] at e;obtain ⟨_,_,e⟩:=e;cases e;rfl
   . rfl
 . rfl
structure SK (P:qc5) (u:World) (K:Type) [DecidableEq K] where
 knd:PySem.KeyKind P u K
 put:K->Tok->Value
 of:Value->K
 is:∀ k t,knd.is k (put k t)=true
 ofmk:∀ k t,of (put k t)=k
 shape:∀ {k v},knd.is k v=true->∃ t,v=put k t
 scan:∀ k t,(put k t).scannable=true
noncomputable def sX (P:qc5) (u:World):SK P u Str where
 knd:=PySem.strKind P u
 put:=.str
 of v:=match v with | .str k _=>k | _=>""
 is:=strKind_is P u
 ofmk _ _:=rfl
 shape {k v} h:=by
  cases v<;>simp [PySem.strKind,zf7] at h
  subst h;exact ⟨_,rfl⟩
 scan _ _:=rfl
noncomputable def sY (P:qc5) (u:World):SK P u Int where
 knd:=PySem.intKind P u
 put:=.int
 of v:=match v with | .int k _=>k | _=>0
 is k t:=by simp [PySem.intKind,Value.isInt]
 ofmk _ _:=rfl
 shape {k v} h:=Value.isInt_shape h
 scan _ _:=rfl
section
variable {P:qc5} {u:World} {K:Type} [DecidableEq K] {κ:SK P u K}
structure Tx (κ:SK P u K) (l:List (Int×Value)) (ss:List K):Prop where
 all:∀ e∈l,∃ k t,e.2=κ.put k t/\e.1=κ.knd.hash k
 per:(l.map fun e=>κ.of e.2).Perm ss
 nd:ss.Nodup
theorem Tx.elems {l:List (Int×Value)} {ss:List K} (x:Tx κ l ss):ElemsOf κ.knd l:=fun e q=>by obtain ⟨k,t,h1,h2⟩:=x.all e q;rw [h1];exact ⟨⟨k,κ.is k t,h2⟩,κ.scan k t⟩
theorem Tx.perm {l m:List (Int×Value)} {ss:List K} (x:Tx κ l ss) (p:m.Perm l):Tx κ m ss:=⟨fun e q=>x.all e (p.mem_iff.mp q),(p.map _).trans x.per,x.nd⟩
theorem Tx.mem {l:List (Int×Value)} {ss:List K} (x:Tx κ l ss) (k:K):k∈ss↔∃ e∈l,κ.knd.is k e.2=true:=by
 rw [<- x.per.mem_iff];constructor
 . intro h;obtain ⟨e,q,L⟩:=qc6.mp h;obtain ⟨k',t,h1,_⟩:=x.all e q;rw [h1,κ.ofmk] at L;refine ⟨e,q,?_⟩;rw [h1,<- L];exact κ.is k' t
 . rintro ⟨e,q,h⟩;obtain ⟨t,h1⟩:=κ.shape h;exact qc6.mpr ⟨e,q,by rw [h1,κ.ofmk]⟩
theorem Tx.push {l:List (Int×Value)} {ss:List K} (x:Tx κ l ss) {k:K} {t:Tok} (hk:k∉ss):Tx κ (l++[(κ.knd.hash k,κ.put k t)]) (ss++[k]):=⟨fun e q=>by
 rcases qg3.mp q with q | q
 . exact x.all e q
 . rw [qb7.mp q];exact ⟨k,t,rfl,rfl⟩,by
 rw [qi7];have:zi0 (fun e=>κ.of e.2) [(κ.knd.hash k,κ.put k t)]=[k]:=by simp [κ.ofmk]
 rw [this];exact x.per.append_right _,by
 refine qp3.mpr ⟨x.nd,by simp,fun a O b L e=>?_⟩;rw [qb7.mp L] at e;exact hk (e▸O)⟩
structure TxS (κ:SK P u K) (h:Heap) (a:Addr) (ss:List K) (led:Bool):Prop where
 ex:∃ o es ep t,h.get? a=some o/\o.ExactSet/\o.data=.set es ep t/\Tx κ es.toList ss/\es.size<qm4/\t.fits es.size=true/\t.led=led/\Rs t.place
end
variable {hp:Heap}
section
variable {P:qc5} {u:World} {K:Type} [DecidableEq K] {κ:SK P u K} {A:qd7} {E:Value->qa4->Prop} {s:qa4} {a:Addr} {ss:List K} {led:Bool}
theorem lP {o:Obj} {es fs:Array (Int×Value)} {tb tc:qg2} (g1:hp.get? a=some o) (g2:o.ExactSet) (W:o.data=.set es ep tb) (x:Tx κ fs.toList ss) (L:fs.size<qm4) (q:tc.fits fs.size=true) (O:tc.led=led) (U:Rs tc.place) :
  (hp.update a (Obj.putSet fs tc)).get? a=some {o with data:=.set fs (ep+1) tc}/\TxS κ (hp.update a (Obj.putSet fs tc)) a ss led:=by
 have e:=(SetOf_store (knd:=κ.knd) (S':=fun k=>decide (k∈ss)) g1 g2 W x.elems (fun k=>by rw [decide_eq_true_eq];exact x.mem k) L q).1;exact ⟨e,⟨_,fs,ep+1,tc,e,g2,rfl,x,L,q,O,U⟩⟩
theorem ye {k:K} {t:Tok} {Q:Bool->qa4->Prop} (hS:TxS κ s.heap a ss led) (room:ss.length+1<qm4)
  (q:∀ hp,qm5 a s.heap hp->TxS κ hp a (if k∈ss then ss else ss++[k]) led->∀ b,Q b {s with heap:=hp}):wpAny (model P u) A (setAddHashed a (κ.put k t) (κ.knd.hash k)) Q E s:=by
 obtain ⟨o,es,ep,tb,g1,g2,g3,x,hb,hf,hl,hpl⟩:=hS.ex;have hn:es.size=ss.length:=by rw [<- x.per.length_eq,qa2,qe7]
 have big:es.size+1<qm4:=by rw [hn];exact room
 unfold setAddHashed setAddHashedIn;refine qk0 (wB (qf0 g1 g3 hf ?_));dsimp only;rw [byScan_of (knd:=κ.knd) (κ.scan k t) hb x.elems];simp only [↓reduceIte];unfold setAddByScan;refine wB (wB (zg8 (wB (wpAny_setScan_of (κ.is k t) g1 g3 hf x.elems ?_))));cases hr:List.findIdx? (fun e=>κ.knd.is k e.2) es.toList with
 | some j =>dsimp only;obtain ⟨hj,hpj,_⟩:=List.findIdx?_eq_some_iff_getElem.mp hr;have hm:k∈ss:=(x.mem k).mpr ⟨es.toList[j],zb8 hj,hpj⟩;refine qa3 (qa3 ?_);have:=q s.heap (qm5.refl a s.heap) (by rw [if_pos hm];exact hS) false;rw [show s={s with heap:=s.heap} by cases s;rfl];exact this
 | none =>
  dsimp only
  have hm:k∉ss:=fun z=>by obtain ⟨e,he,hp⟩:=(x.mem k).mp z;have:=List.findIdx?_eq_none_iff.mp hr e he;rw [hp] at this;exact Bool.noConfusion this
  rw [if_neg hm] at q;have perm:=layNew_perm tb es (κ.knd.hash k) (κ.put k t);have fits:=layNew_fits tb es (κ.knd.hash k) (κ.put k t);have ledd:=And.intro (pY tb es (κ.knd.hash k) (κ.put k t)) (sV hpl es (κ.knd.hash k) (κ.put k t));generalize layNew tb es (κ.knd.hash k) (κ.put k t)=L at perm fits ledd ⊢;obtain ⟨fs,tc,wasD,gave⟩:=L;dsimp only at perm fits ledd ⊢;rw [qz3] at perm;have y:Tx κ fs.toList (ss++[k]):=(x.push hm).perm perm;have hb2:fs.size<qm4:=by rw [<- qe7,perm.length_eq,qb3,qe7];simpa using big
  have gw:∀ (b:Bool) {s1:qa4} {Q1:Unit->qa4->Prop},Q1 () s1->wpAny (model P u) A (match b with | true=>rule "set.scan.the-table-gave-way" | false=>pure ()) Q1 E s1:=fun b s1 Q1 z=>by
   cases b
   . exact qa3 z
   . exact zg8 z
  refine wB (gw _ ?_)
  have tail:∀ tc2:qg2,tc2.fits fs.size=true->tc2.led=led->Rs tc2.place->wpAny (model P u) A (do
      storeSet a fs tc2
      if (!wasD&&tc2.tooFull)=true then do
          (match (zb0 tc2 fs (ql6 fs.size)).2.2 with | true=>rule "set.scan.the-table-gave-way" | false=>pure ())
          storeSet a (zb0 tc2 fs (ql6 fs.size)).1 (zb0 tc2 fs (ql6 fs.size)).2.1
          pure (some true)
       else pure (some true)) (fun r s1=>wpAny (model P u) A (match r with | some added=>pure added | none=>setAddHashedIn a (κ.put k t) (κ.knd.hash k) 99999) Q E s1) E s:=fun tc2 h1 h2 h3=>by
   refine wB (wpAny_storeSet_of g1 g3 ?_ (qs6 hb2));obtain ⟨e1,T1⟩:=lP g1 g2 g3 y hb2 h1 h2 h3;have sb:=qe9 s.heap a (Obj.putSet fs tc2);split
   . have p2:=relayAll_perm tc2 fs (ql6 fs.size);have f2:=relayAll_fits tc2 fs (ql6 fs.size);have l2:=And.intro (sW tc2 fs (ql6 fs.size)) (vo tc2 fs (ql6 fs.size));generalize zb0 tc2 fs (ql6 fs.size)=M at p2 f2 l2 ⊢;obtain ⟨gs,td,gave2⟩:=M;dsimp only at p2 f2 l2 ⊢;have sz:gs.size=fs.size:=by rw [<- qe7,p2.length_eq,qe7]
     have hb3:gs.size<qm4:=by rw [sz];exact hb2
     refine wB (gw _ (wB (wpAny_storeSet_of e1 rfl ?_ (qs6 hb3))));obtain ⟨_,T2⟩:=lP e1 g2 rfl (y.perm p2) hb3 f2 (l2.1.trans h2) l2.2;exact qa3 (qa3 (q _ (sb.trans (qe9 _ a _)) T2 true))
   . exact qa3 (qa3 (q _ sb T1 true))
  split
  . refine wB ?_;rw [hashByValue_scannable 8 (κ.scan k t)];refine qa3 ?_;split
    . exact tail tc fits (ledd.1.trans hl) ledd.2
    . exact tail {tc with plain:=false} (qg2.fits_plain_off fits) (ledd.1.trans hl) ledd.2
  . refine wB (qa3 ?_);exact tail tc fits (ledd.1.trans hl) ledd.2
end
def dw {K:Type} [DecidableEq K] (acc:List K) (k:K):List K:=if k∈acc then acc else acc++[k]
def met {K:Type} [DecidableEq K] (val:Nat->K) (i:Nat):List K:=((qc2 i).map val).foldl dw []
theorem oo {K:Type} [DecidableEq K] (val:Nat->K) (i:Nat):met val (i+1)=dw (met val i) (val i):=by unfold met;rw [List.range_succ,qi7,List.foldl_append];rfl
theorem mE {K:Type} [DecidableEq K] (val:Nat->K):∀ i,(met val i).length<=i
 | 0=>nL _
 | i+1=>by
  rw [oo];have:=mE val i;unfold dw;split
  . lia
  . rw [qb3,qs8];lia
section
variable {P:qc5} {u:World} {K:Type} [DecidableEq K] {κ:SK P u K} {A:qd7} {R:Result->qa4->Prop} {I:Addr} {fp wr:List Addr} {G:Array GenState->Array GenState->Prop} {n:Nat} {Pv:Nat->Value->Prop} {St:Nat->qa4->Prop} {led:Bool}
theorem TxS.moved {ss:List K} (x:TxS κ h a ss led) (e:∀ o,h.get? a=some o->h'.get? a=some o):TxS κ h' a ss led:=by obtain ⟨o,es,ep,t,g,r⟩:=x.ex;exact ⟨o,es,ep,t,e o g,r⟩
theorem vp (W:WalksS P u A.in1 I fp wr G n Pv St) (S:Addr) (out:S∉fp) (val:Nat->K) (Z:∀ i v,Pv i v->∃ t,v=κ.put (val i) t) (L:n+1<qm4) :
  ∀ (m i:Nat) (s:qa4),n-i=m->i<=n->St i s->TxS κ s.heap S (met val i) led->(∀ s',Moved (S::wr) G s s'->TxS κ s'.heap S (met val n) led->R (.ok (.ret .none)) s')→
   qs2 (model P u) A (.builtin "set.update.loop" ⟨[.ref S,.ref I],[]⟩) R s:=by
 have nw:S∉wr:=fun h=>out (W.sub _ h)
 have U:∀ b∈wr,b∈S::wr:=fun b L=>qd1 _ L
 intro m;induction m with
 | zero =>
  intro i s hm hi q hS hR;obtain rfl:i=n:=by lia
  refine qo5 zb1 ?_;rw [ql7 qr3 _];refine wB (W.done s _ _ q fun s1 O=>?_);exact qa3 (hR s1 (O.mono U) (hS.moved fun o e=>O.heap S _ nw e))
 | succ m ih =>
  intro i s hm hi q hS hR;have lt:i<n:=by lia
  refine qo5 zb1 ?_;rw [ql7 qr3 _];refine wB (W.item i s _ _ lt q fun v s1 hP Y O=>?_);obtain ⟨t,rfl⟩:=Z i v hP;have hS1:TxS κ s1.heap S (met val i) led:=hS.moved fun o e=>O.heap S _ nw e
  show wpAny _ A.in1 (qz9 [κ.put (val i) t] (setAdd S (κ.put (val i) t)) >>= _) _ _ s1;refine wB (qk0 ?_);unfold setAdd;refine qk0 (wB (κ.knd.pyHash (k:=val i) (κ.is _ _) ?_));have room:(met val i).length+1<qm4:=by have:=mE val i;lia
  refine ye (s:={s1 with toks:=s1.toks+1}) hS1 room fun h2 sb hS2 b=>?_
  have hS3:TxS κ h2 S (met val (i+1)) led:=by rw [oo];exact hS2
  refine qa3 ⟨zb2 qr3 _,ih (i+1) _ (by lia) lt (W.frame _ s1 _ _ Y (qo3 _) fun b L o e=>?_) hS3 fun s2 mv2 hS4=>?_⟩
  . rw [sb.2 b (fun h:b=S=>out (by rw [<- h];exact L))];exact e
  . refine hR s2 (Moved.trans W.gtrans ((O.mono U).then_heap (qo3 _) fun b o L e=>?_) mv2) hS4;rw [sb.2 b (fun h:b=S=>L (by rw [h];exact qe0))];exact e
end
def cA (u:World):Bool:=!(u.params.followText "set-order")
section
variable {P:qc5} {u:World} {K:Type} [DecidableEq K] {κ:SK P u K} {A:qd7} {E:Value->qa4->Prop} {s:qa4}
theorem yf (v:Value) {Q1:Value->qa4->Prop} (q:Q1 (.ref s.heap.objs.size) {s with heap:=s.heap.push {cls:=.type "set",dict:=none,data:=.set #[] 0 (.fresh 0 0 (cA u))}}) :
  qs2 (model P u) A (.call (.builtin "set.__new__") ⟨[.type "set",v],[]⟩) (wants Q1 E) s:=by
 refine codeAny_of_tree ?_;show wpAny _ A.in1 (do checkBuiltinCall "set.__new__" ⟨[.type "set",v],[]⟩;again (.builtin "set.__new__" ⟨[.type "set",v],[]⟩)) _ _ s;refine wB (za6 (F.newCall_set_1 v) (qa3 ⟨zb2 F.plain_set_new _,qo5 F.entry_set_new ?_⟩));rw [ql7 F.plain_set_new _];unfold qk5.«set.__new__» qk5.Frozenset.newClass;have z:=sub_set_self;obtain ⟨hp,g,d,tk,L⟩:=s;dsimp only;wp_walk;refine qn2 (qa3 ?_);dsimp only;simp only [newObj];refine wB (wpAny_alloc (qa3 ?_));exact qa3 q
end
variable {led:Bool}
section
variable {P:qc5} {u:World} {K:Type} [DecidableEq K] {κ:SK P u K} {A:qd7} {E:Value->qa4->Prop} {s:qa4}
theorem sZ (e:hp.get? a=some {cls:=.type "set",dict:=none,data:=.set #[] 0 (.fresh 0 0 led)}):TxS κ hp a [] led:=⟨_,#[],0,.fresh 0 0 led,e,⟨rfl,rfl,rfl⟩,rfl,⟨(fun e q=>by cases q),qx7 _,qx3⟩,(by unfold qm4;decide),(by cases led<;>rfl),rfl,.nil⟩
theorem vq {l:Addr} {vs:Array Value} {val:Nat->K} {Q:Value->qa4->Prop} (W:A.handled=none) (hl:s.heap.IsList l vs) (hi:∀ (i:Nat) (v:Value),vs[i]?=some v->∃ t,v=κ.put (val i) t) (hb:vs.size+1<qm4)
  (q:∀ (hp:Heap) (tk:Nat),TxS κ hp s.heap.objs.size (met val vs.size) (cA u)->(∀ b o,b<s.heap.objs.size->s.heap.get? b=some o->hp.get? b=some o)->Q (.ref s.heap.objs.size) {s with heap:=hp,toks:=tk}) :
  wpAny (model P u) A (call (.type "set") [.ref l]) Q E s:=by
 obtain ⟨c0,tl0,m0⟩:=qo6.mro;have m1:=qo6.made;have m2:=qo6.sub;refine zg5 (codeAny_of_tree ?_);show wpAny _ _ (callAny (.type "set") _) _ _ _;refine qa3 ⟨Code.quiet_builtin _ (by decide +kernel),qo5 F.entry_type_call ?_⟩;rw [qd7.under_plain (weight_type_call_type "set" [.ref l] []) rfl];have m3:=qo6.notType;have m4:=qo6.canCreate;have m5:=F.typeCall_set_1 (.ref l)
 repeat (any_goals (first | assumption | wp_step))
 refine qq4 (yf (.ref l) (E:=E) (Q1:=fun x s1=>x=.ref s.heap.objs.size/\s1={s with heap:=s.heap.push {cls:=.type "set",dict:=none,data:=.set #[] 0 (.fresh 0 0 (cA u))}}) ⟨rfl,rfl⟩) fun r s1 hr=>?_
 cases r with
 | error e=>exact hr
 | ok fl =>
  cases fl with
  | ret x =>
   obtain ⟨rfl,rfl⟩:=hr;have gS:(s.heap.push {cls:=.type "set",dict:=none,data:=.set #[] 0 (.fresh 0 0 (cA u))}).get? s.heap.objs.size=some {cls:=.type "set",dict:=none,data:=.set #[] 0 (.fresh 0 0 (cA u))}:=qa7 _ rfl;have tS:zg4 {s with heap:=s.heap.push {cls:=.type "set",dict:=none,data:=.set #[] 0 (.fresh 0 0 (cA u))}} (.ref s.heap.objs.size) "set":=⟨_,gS,rfl⟩;have n1:=qo6.init.lookup;have n2:=qo6.init.bind (.ref s.heap.objs.size)
   repeat (any_goals (first | assumption | wp_step))
   refine qq4 (codeAny_call_builtin (R:=wants (fun r s2=>r=.none/\∃ hp tk,s2={s with heap:=hp,toks:=tk}/\TxS κ hp s.heap.objs.size (met val vs.size) (cA u)/\(∀ b o,b<s.heap.objs.size->s.heap.get? b=some o->hp.get? b=some o)) E) qo6.init.plain F.entry_set_init (check_set_init_1 tS ?_)) fun r2 s2 L=>?_
   . obtain ⟨ol,hol,U,nl,Y⟩:=hl;obtain ⟨oc,od,oda,osl⟩:=ol;simp only at U Y;subst U Y;have Z:(s.heap.push {cls:=.type "set",dict:=none,data:=.set #[] 0 (.fresh 0 0 (cA u))}).get? l=some {cls:=.type "list",dict:=od,data:=.seq vs nl,slots:=osl}:=gP _ hol;have k1:=F.sub_list_set;have k2:=F.sub_list_frozenset;have k3:(qo8 "list"==qo8 "dict")=false:=by decide
     have hl1:(s.heap.push {cls:=.type "set",dict:=none,data:=.set #[] 0 (.fresh 0 0 (cA u))}).IsList l vs:=⟨_,Z,rfl,nl,rfl⟩;unfold qk5.«set.__init__» noKeywords qk5.Frozenset.updateFrom;generalize hPI:zh1=PI;wp_walk;subst hPI;refine qy2 hl1 (wB (wpAny_runValue ?_));have ls:l<s.heap.objs.size:=qa8 hol;have c3:A.in1.in1.in1.handled=none:=by simp [W]
     have ne1:l≠(s.heap.push {cls:=.type "set",dict:=none,data:=.set #[] 0 (.fresh 0 0 (cA u))}).objs.size:=by rw [qg0];exact qc1 (qi1 ls)
     have ne2:s.heap.objs.size∉[(s.heap.push {cls:=.type "set",dict:=none,data:=.set #[] 0 (.fresh 0 0 (cA u))}).objs.size,l]:=by rw [qg0];simp only [qb2,qb7,qk9,or_false,not_or];exact ⟨qc1 (qk8 _),qm6 ls⟩
     refine vp ((Walks.list c3 _ l ne1 vs).toS) s.heap.objs.size ne2 val hi hb (vs.size-0) 0 _ (by lia) (qh8 _) ⟨⟨_,qa7 _ rfl,rfl,rfl⟩,(hl1.push _)⟩ (sZ (gP _ gS)) fun s3 mv O=>?_
     obtain ⟨hp,g3,d3,tk3,o3⟩:=s3;have eg:g3=s.gens:=mv.gens;have ed:d3=s.drawn:=mv.drawn;have eo:o3=s.os:=mv.os;subst eg ed eo;show wpAny _ _ _ _ _ _;refine qa3 ?_;show wpAny _ _ (ret qh6) _ _ _;refine qa3 ⟨rfl,hp,tk3,rfl,O,fun b o hb e=>?_⟩;have b1:b≠s.heap.objs.size:=qc1 hb
     have b2:b≠(s.heap.push {cls:=.type "set",dict:=none,data:=.set #[] 0 (.fresh 0 0 (cA u))}).objs.size:=by rw [qg0];exact qc1 (qi1 hb)
     exact mv.heap b o (by simp only [qb2,qb7,qk9,or_false,not_or];exact ⟨b1,b2⟩) (qr7 _ (qr7 _ e))
   . cases r2 with
     | error e=>exact L
     | ok f2 =>
      cases f2 with
      | ret r =>
       obtain ⟨rfl,hp,tk,rfl,O,kept⟩:=L
       repeat (any_goals (first | assumption | wp_step))
       exact q _ _ O kept
      | _=>exact L.elim
  | _=>exact hr.elim
end
theorem i7 {α:Type}:∀ {l:List α} {i:Nat} (h:i<l.length),(l[i]::l.eraseIdx i).Perm l
 | x::l,0,h=>qx7 _
 | x::l,i+1,h=>by have:=i7 (l:=l) (i:=i) (by simpa using h);exact (zi4.swap _ _ _).trans (this.cons x)
section
variable {M:Model} {A:qd7} {E:Value->qa4->Prop}
theorem pZ {src:Source} {Q:Nat->qa4->Prop} (L:n≠0) (q:∀ i d,i<n->Q i {s with drawn:=d}):wpAny M A (choose src n) Q E s:=fun G p O=>by show Sem.wp M G (.choose src n .pure) _ _ p s;rw [Sem.wp_choose];refine ⟨L,?_⟩;rw [Sem.wp_pure];exact q _ _ (qz5 _ (Nat.pos_of_ne_zero L))
theorem gd {α:Type}:∀ (n:Nat) (xs:List α) {Q:List α->qa4->Prop} {s:qa4},xs.length=n->(∀ ys d,ys.Perm xs->Q ys {s with drawn:=d})->wpAny M A (drawOrder n xs) Q E s
 | 0,xs,Q,s,L,q=>by have e:xs=[]:=zb3.mp L;subst e;show wpAny M A (pure []) Q E s;refine qa3 ?_;have:=q [] s.drawn (qx7 _);cases s;exact this
 | n+1,[],Q,s,L,q=>by cases L
 | n+1,x::xs,Q,s,L,q=>by show wpAny M A (choose .order (x::xs).length >>= fun i=>match (x::xs)[i]? with | some y=>(drawOrder n ((x::xs).eraseIdx i)) >>= fun ys=>pure (y::ys) | none=>unsupported "internal:drawOrder") Q E s;refine qh2 (pZ (by simp) fun i d hi=>?_);rw [gQ hi];dsimp only;refine wB (gd n ((x::xs).eraseIdx i) (by rw [qw4 hi];lia) fun ys d2 p=>qa3 (q _ d2 ?_));exact (p.cons _).trans (i7 hi)
end
theorem mF:entryFor table "set.__iter__"=some qk5.«frozenset.__iter__»:=entryFor_alias (id':="frozenset.__iter__") (by kernel_rfl) rfl (by decide +kernel) (by kernel_rfl)
theorem jj:typeLookup (.type "set_iterator") "__next__"=pure (some (.builtin "set_iterator.__next__")):=by rw [ze0,qt2];kernel_rfl
section
variable {P:qc5} {u:World} {A:qd7} {E:Value->qa4->Prop} {s:qa4} {a:Addr} {o:Obj} {es:Array (Int×Value)} {ep:Nat} {t:qg2}
def ka (first:Value) (i:Int) (a:Addr) (n ep:Nat):Obj:={cls:=.type "set_iterator",data:=.fields #[first,qf8 i,.ref a,qf8 n,qf8 ep]}
theorem oq {Q:Value->qa4->Prop} (g1:s.heap.get? a=some o) (g2:o.ExactSet) (O:o.data=.set es ep t) (U:t.fits es.size=true) (Z:es.size<qm4)
  (q1:∀ (ys:List Nat) d,cA u=true->(t.plain=false/\1<es.size)->ys.Perm (qc2 es.size)->Q (.ref (s.heap.objs.size+1)) {s with drawn:=d,heap:=(s.heap.push {cls:=.type "tuple",data:=.seq (ys.map fun (i:Nat)=>qf8 i).toArray}).push (ka (.ref s.heap.objs.size) 0 a es.size ep)})
  (q2:(cA u=false∨¬ (t.plain=false/\1<es.size))->Q (.ref s.heap.objs.size) {s with heap:=s.heap.push (ka (qf8 0) 0 a es.size ep)}):wpAny (model P u) A (zh1 (.ref a)) Q E s:=by
 have W:s.TypeIs (.ref a) "set":=⟨o,g1,g2.1⟩;refine qz0 W F.slot_set_iter (qf6 F.slot_set_iter W mF ?_ (F.args_set_iter_1 _));unfold qk5.«frozenset.__iter__»;refine wB (wB (qa3 (qa3 ?_)));unfold qk5.Frozenset.sizeOf ze5;refine wB (wB (wB (qf0 g1 O U (qa3 (qa3 ?_)))));unfold setDrawn zg9;refine wB (wB (qf0 g1 O U (wB (wB (qn2 (qa3 (qa3 ?_)))))));have Y:(!(u.params.followText "set-order"))=cA u:=rfl;show wpAny (model P u) A.in1 (if (!(u.params.followText "set-order")&&(!t.plain&&decide (es.size > 1)))=true then (drawOrder es.size (qc2 es.size) >>= fun ys=>zh9 (ys.map fun (i:Nat)=>qf8 i) >>= fun first=>setEpoch a >>= fun e=>newFields "set_iterator" [first,qf8 0,.ref a,qf8 es.size,qf8 e] >>= fun v=>ret v) else (pure (qf8 0) >>= fun first=>setEpoch a >>= fun e=>newFields "set_iterator" [first,qf8 0,.ref a,qf8 es.size,qf8 e] >>= fun v=>ret v)) _ _ s;rw [Y];by_cases q:(cA u&&(!t.plain&&decide (es.size > 1)))=true
 . rw [if_pos q];simp only [qa9,qh9,decide_eq_true_eq] at q;refine qh2 (gd _ _ (by simp) fun ys d p=>?_);have L:ys.length=es.size:=by rw [p.length_eq,qk3]
   refine wB ?_;refine wpAny_newTuple ?_ (by rw [qa2,L];exact qs6 Z);unfold setEpoch;refine wB (wB (qf0 (s:={s with drawn:=d,heap:=s.heap.push {cls:=.type "tuple",data:=.seq (ys.map fun (i:Nat)=>qf8 i).toArray}}) (gP _ g1) O U (qa3 ?_)));refine wB (qd2 (qa3 ⟨_,rfl,"set_iterator",_,⟨_,qa7 _ rfl,rfl⟩,jj,?_⟩));have:=q1 ys d q.1 q.2 p;rw [qg0];exact this
 . rw [if_neg q];refine wB (qa3 ?_);unfold setEpoch;refine wB (wB (qf0 g1 O U (qa3 ?_)));refine wB (qd2 (qa3 ⟨_,rfl,"set_iterator",_,⟨_,qa7 _ rfl,rfl⟩,jj,?_⟩));refine q2 ?_;by_cases h1:cA u=true
   . right;intro z;exact q (by rw [h1,z.1];simp;exact z.2)
   . left;simpa using h1
end
theorem lQ:Manifest.owners.lookup (String.ofList ['r','o','t','a','r','e','t','i','_','t','e','s'].reverse)=some Manifest.sig_set_iterator:=by kernel_rfl
theorem slot_setit:Slot "set_iterator" "__next__" "set_iterator.__next__":=.of (owner:="set_iterator") (n:="__next__") (by rw [ze0,qt2];kernel_rfl) (by decide +kernel) (by decide +kernel) (by decide +kernel) (by first | exact .inl (by decide +kernel) | exact .inr (by decide +kernel)) (by rw [isSubtype_type];kernel_rfl)
theorem fX:entryFor table "set_iterator.__next__"=some qk5.«set_iterator.__next__»:=entryFor_of_tree (by kernel_rfl)
theorem eL (v:Value):argsOk "set_iterator.__next__" ⟨[v],[]⟩:=by unfold argsOk;rw [signature?_of (id:="set_iterator.__next__") (n:=['_','_','t','x','e','n','_','_']) (o:=['r','o','t','a','r','e','t','i','_','t','e','s']) (by kernel_rfl) lQ];kernel_rfl
variable {first:Value} {ot:Obj}
section
variable {P:qc5} {u:World} {A:qd7} {E:Value->qa4->Prop} {s:qa4} {a I:Addr} {o:Obj} {es:Array (Int×Value)} {ep n:Nat} {t:qg2}
def ItAt (h:Heap) (I:Addr) (first:Value) (i:Nat) (a:Addr) (n ep:Nat):Prop:=∃ q,h.get? I=some q/\q.cls=.type "set_iterator"/\q.data=.fields #[first,qf8 i,.ref a,qf8 n,qf8 ep]
theorem ItAt.ty (x:ItAt s.heap I first i a n ep):s.TypeIs (.ref I) "set_iterator":=let ⟨q,h,c,_⟩:=x;⟨q,h,c⟩
theorem kd {T:Addr} {ps:Array Value} {p:Nat} {W:Int} {x:Value} {Q:Option Value->qa4->Prop} (L:ItAt s.heap I (.ref T) i a es.size ep) (g1:s.heap.get? a=some o) (Y:o.data=.set es ep t) (Z:t.fits es.size=true) (k1:s.heap.get? T=some ot) (k2:ot.data=.seq ps m) (hp:ps[i]?=some (qf8 p)) (W:es[p]?=some (W,x))
 (q:∀ h',ItAt h' I (.ref T) (i+1) a es.size ep->qm5 I s.heap h'->Q (some x) {s with heap:=h'}):wpAny (model P u) A (qw6 (.ref I)) Q E s:=by
 obtain ⟨oi,hi,hc,U⟩:=id L;unfold qw6;refine wB (qr2 (qf1 (name:=qa0 "__next__") L.ty slot_setit (qf6 slot_setit L.ty fX ?_ (eL _))));unfold qk5.«set_iterator.__next__»;refine wB (qa3 (wB (qq1 hi U ?_)));unfold ze5;refine wB (wB (qf0 g1 Y Z (qa3 ?_)));rw [if_neg (by simp)];refine wB (qx6 k1 k2 ?_);dsimp only;rw [qe1,hp];show wpAny _ _ (setNextDrawn a ((p:Int)).toNat ((ep:Int)).toNat >>= fun x=>za9 (.ref I) 1 (qf8 ((i:Int)+1)) >>= fun _=>ret x) _ _ s;rw [qe1,qe1];unfold setNextDrawn;refine wB (wB (qf0 g1 Y Z ?_));dsimp only;rw [if_neg (by simp),W];refine qa3 ?_;refine qh2 (qj7 hi U (by simp) ?_)
 have O:ItAt (s.heap.update I (qp2 (·.setIfInBounds 1 (qf8 ((i:Int)+1))))) I (.ref T) (i+1) a es.size ep:=⟨_,qf2 _ hi (qi0 (qe3 U _)),(qp1 ..).trans hc,by rw [qe3 U];simp [qf8]⟩
 exact qa3 ⟨_,rfl,qa3 (q _ O (qe9 ..))⟩
end
set_option maxHeartbeats 400000
section
variable {P:qc5} {u:World} {A:qd7} {E:Value->qa4->Prop} {s:qa4} {a I:Addr} {o:Obj} {es:Array (Int×Value)} {ep n:Nat} {t:qg2}
theorem kS {T:Addr} {ps:Array Value} {m:Nat} {Q:Option Value->qa4->Prop} (O:A.handled=none) (L:ItAt s.heap I (.ref T) es.size a es.size ep) (g1:s.heap.get? a=some o) (W:o.data=.set es ep t) (Y:t.fits es.size=true) (k1:s.heap.get? T=some ot) (Z:ot.data=.seq ps m) (hp:ps.size=es.size)
 (q:∀ h',zf5 I s.heap h'->Q none {s with heap:=h'}):wpAny (model P u) A (qw6 (.ref I)) Q E s:=by
 obtain ⟨oi,hi,hc,U⟩:=id L;unfold qw6;refine wB (qr2 (qf1 (name:=qa0 "__next__") L.ty slot_setit (qf6 slot_setit L.ty fX ?_ (eL _))));unfold qk5.«set_iterator.__next__»;refine wB (qa3 (wB (qq1 hi U ?_)));unfold ze5;refine wB (wB (qf0 g1 W Y (qa3 ?_)));rw [if_neg (by simp)];refine wB (qx6 k1 Z ?_);dsimp only;rw [qe1,qn5 (by lia)];show wpAny _ _ (za9 (.ref I) 0 (qf8 0) >>= fun _=>za9 (.ref I) 2 .none >>= fun _=>zg2 (.type "StopIteration") [] >>= fun e=>zg3 e) _ _ s;refine qh2 (qj7 hi U (by simp) ?_);refine qh2 (qj7 (qf2 _ hi (qi0 (qe3 U _))) (qe3 U _) (by simp) ?_);show wpAny _ _ (zg2 (.type "StopIteration") [] >>= _) _ _ _;refine wB ?_;simp only [zg2,zh9];refine wB (qd2 ?_ (by size_fits));refine qh2 (m:=ql4 _ _) (za6 (a:=qh6) (by first | rfl | (simp only [ql4];rfl)) ?_);refine qd2 ?_ (by size_fits);simp only [zg3];refine wB (za7 ?_);rw [show A.in1.handled=none from O];refine wB (qa3 (zf6 ?_));refine wB (qu2 (T:="StopIteration") (b:=true) ⟨_,qa7 _ rfl,rfl⟩ ze9 ?_);exact qa3 (q _ (((qe9 ..).trans (qe9 ..)).extBut.push _ |>.push _))
end
theorem rb {α:Type} (f:Nat->Nat):∀ (n k:Nat) (l:List α) (q:Array α),l.length=n->(zh7 f n k l q).toList.Perm (q.toList++l)
 | 0,k,l,q,O=>by have e:l=[]:=zb3.mp O;subst e;rw [zh7,qe8]
 | n+1,k,l,q,O=>by have L:f k%l.length<l.length:=qz5 _ (by lia);rw [zh7,gQ L];dsimp only;refine (rb f n (k+1) (l.eraseIdx (f k%l.length)) (q.push l[f k%l.length]) (by rw [qw4 L];lia)).trans ?_;rw [qz3,qg9];exact zi4.append_left _ (i7 L)
theorem rf {α:Type} (f:Nat->Nat) (xs:Array α):(ze1 f xs).toList.Perm xs.toList:=by have:=rb f xs.size 0 xs.toList #[] (by simp);simpa [ze1] using this
section
variable {P:qc5} {u:World} {A:qd7} {E:Value->qa4->Prop} {s:qa4} {a I:Addr} {o:Obj} {es:Array (Int×Value)} {ep n:Nat} {t:qg2}
theorem d4 {Q:Option (Value×Nat)->qa4->Prop} (L:cA u=false) (g1:s.heap.get? a=some o) (U:o.data=.set es ep t) (W:t.fits es.size=true)
 (q:Q (((ze1 (u.params.setOrder a ep) es)[i]?).map fun e=>(e.2,j)) s):wpAny (model P u) A (zb4 a j i ep) Q E s:=by
 have O:u.params.followText "set-order"=true:=by unfold cA at L;simpa using L
 unfold zb4 zg9;refine wB (qf0 g1 U W (wB (wB (qn2 (qa3 ?_)))));show wpAny (model P u) A (if u.params.followText "set-order"=true then _ else _) Q E s;rw [if_pos O,if_neg (by simp)];unfold setWalk zg9;refine wB (wB (qf0 g1 U W (wB (wB (qn2 (qa3 ?_))))));show wpAny (model P u) A (if u.params.followText "set-order"=true then _ else _) _ E s;rw [if_pos O];refine wB (qn2 (qa3 ?_));exact qa3 q
end
section
variable {P:qc5} {u:World} {A:qd7} {E:Value->qa4->Prop} {s:qa4} {a I:Addr} {o:Obj} {es:Array (Int×Value)} {ep n:Nat} {t:qg2}
theorem eY {Q:Option (Value×Nat)->qa4->Prop} (L:cA u=true) (O:t.led=true) (one:¬ (t.plain=false/\1<es.size)) (g1:s.heap.get? a=some o) (U:o.data=.set es ep t) (W:t.fits es.size=true)
 (q:Q (match es[qg1 t.place j]?,t.place[qg1 t.place j]? with | some (_,x),some k=>some (x,k+1) | _,_=>none) s):wpAny (model P u) A (zb4 a j i ep) Q E s:=by
 have Y:u.params.followText "set-order"=false:=by unfold cA at L;simpa using L
 unfold zb4 zg9;refine wB (qf0 g1 U W (wB (wB (qn2 (qa3 ?_)))));show wpAny (model P u) A (if u.params.followText "set-order"=true then _ else if (!t.plain&&decide (es.size > 1))=true then _ else (if (!t.led&&!es.isEmpty)=true then unsupported "set:maker-not-led" else pure ()) >>= fun _=>pure (match es[qg1 t.place j]?,t.place[qg1 t.place j]? with | some (_,x),some k=>some (x,k+1) | _,_=>none)) Q E s;rw [Y,if_neg (by decide),if_neg (by simpa using one),if_neg (by simp [O])];exact wB (qa3 (qa3 q))
theorem ke {next:Nat} {x:Value} {Q:Option Value->qa4->Prop} (L:ItAt s.heap I (qf8 j) i a es.size ep) (g1:s.heap.get? a=some o) (Z:o.data=.set es ep t) (hf:t.fits es.size=true) (hn:∀ {A':qd7} {W:Option (Value×Nat)->qa4->Prop} {E':Value->qa4->Prop},W (some (x,next)) s->wpAny (model P u) A' (zb4 a j i ep) W E' s)
 (q:∀ h',ItAt h' I (qf8 next) (i+1) a es.size ep->qm5 I s.heap h'->Q (some x) {s with heap:=h'}):wpAny (model P u) A (qw6 (.ref I)) Q E s:=by
 obtain ⟨oi,hi,hc,O⟩:=id L;unfold qw6;refine wB (qr2 (qf1 (name:=qa0 "__next__") L.ty slot_setit (qf6 slot_setit L.ty fX ?_ (eL _))));unfold qk5.«set_iterator.__next__»;refine wB (qa3 (wB (qq1 hi O ?_)));unfold ze5;refine wB (wB (qf0 g1 Z hf (qa3 ?_)));rw [if_neg (by simp)];show wpAny _ _ (zb4 a ((j:Int)).toNat ((i:Int)).toNat ((ep:Int)).toNat >>= _) _ _ s;rw [qe1,qe1,qe1];refine wB (hn ?_);show wpAny _ _ (za9 (.ref I) 0 (qf8 next) >>= fun _=>za9 (.ref I) 1 (qf8 ((i:Int)+1)) >>= fun _=>ret x) _ _ s;refine qh2 (qj7 hi O (by simp) ?_);refine qh2 (qj7 (qf2 _ hi (qi0 (qe3 O _))) (qe3 O _) (by simp) ?_);have e1:(s.heap.update I (qp2 (·.setIfInBounds 0 (qf8 next)))).get? I=some (qp2 (·.setIfInBounds 0 (qf8 next)) oi):=qf2 _ hi (qi0 (qe3 O _));have Y:=qe3 O (·.setIfInBounds 0 (qf8 next))
 have U:ItAt ((s.heap.update I (qp2 (·.setIfInBounds 0 (qf8 next)))).update I (qp2 (·.setIfInBounds 1 (qf8 ((i:Int)+1))))) I (qf8 next) (i+1) a es.size ep:=⟨_,qf2 _ e1 (qi0 (qe3 Y _)),(qp1 ..).trans ((qp1 ..).trans hc),by rw [qe3 Y];simp [qf8]⟩
 exact qa3 ⟨_,rfl,qa3 (q _ U ((qe9 ..).trans (qe9 ..)))⟩
theorem kT {Q:Option Value->qa4->Prop} (O:A.handled=none) (L:ItAt s.heap I (qf8 j) i a es.size ep) (g1:s.heap.get? a=some o) (Y:o.data=.set es ep t) (Z:t.fits es.size=true) (hn:∀ {A':qd7} {U:Option (Value×Nat)->qa4->Prop} {E':Value->qa4->Prop},U none s->wpAny (model P u) A' (zb4 a j i ep) U E' s)
 (q:∀ h',zf5 I s.heap h'->Q none {s with heap:=h'}):wpAny (model P u) A (qw6 (.ref I)) Q E s:=by
 obtain ⟨oi,hi,hc,W⟩:=id L;unfold qw6;refine wB (qr2 (qf1 (name:=qa0 "__next__") L.ty slot_setit (qf6 slot_setit L.ty fX ?_ (eL _))));unfold qk5.«set_iterator.__next__»;refine wB (qa3 (wB (qq1 hi W ?_)));unfold ze5;refine wB (wB (qf0 g1 Y Z (qa3 ?_)));rw [if_neg (by simp)];show wpAny _ _ (zb4 a ((j:Int)).toNat ((i:Int)).toNat ((ep:Int)).toNat >>= _) _ _ s;rw [qe1,qe1,qe1];refine wB (hn ?_);show wpAny _ _ (za9 (.ref I) 2 .none >>= fun _=>zg2 (.type "StopIteration") [] >>= fun e=>zg3 e) _ _ s;refine qh2 (qj7 hi W (by simp) ?_);show wpAny _ _ (zg2 (.type "StopIteration") [] >>= _) _ _ _;refine wB ?_;simp only [zg2,zh9];refine wB (qd2 ?_ (by size_fits));refine qh2 (m:=ql4 _ _) (za6 (a:=qh6) (by first | rfl | (simp only [ql4];rfl)) ?_);refine qd2 ?_ (by size_fits);simp only [zg3];refine wB (za7 ?_);rw [show A.in1.handled=none from O];refine wB (qa3 (zf6 ?_));refine wB (qu2 (T:="StopIteration") (b:=true) ⟨_,qa7 _ rfl,rfl⟩ ze9 ?_);exact qa3 (q _ ((qe9 ..).extBut.push _ |>.push _))
end
theorem eZ:Slot "set_iterator" "__iter__" "set_iterator.__iter__":=.of (owner:="set_iterator") (n:="__iter__") (by rw [ze0,qt2];kernel_rfl) (by decide +kernel) (by decide +kernel) (by decide +kernel) (by first | exact .inl (by decide +kernel) | exact .inr (by decide +kernel)) (by rw [isSubtype_type];kernel_rfl)
theorem kf:entryFor table "set_iterator.__iter__"=some qk5.«dict_keyiterator.__iter__»:=entryFor_alias (id':="dict_keyiterator.__iter__") (by kernel_rfl) rfl (by decide +kernel) (by kernel_rfl)
theorem ju (v:Value):argsOk "set_iterator.__iter__" ⟨[v],[]⟩:=by unfold argsOk;rw [signature?_of (id:="set_iterator.__iter__") (n:=['_','_','r','e','t','i','_','_']) (o:=['r','o','t','a','r','e','t','i','_','t','e','s']) (by kernel_rfl) lQ];kernel_rfl
variable {ord:Nat->Value}
section
variable {P:qc5} {u:World} {A:qd7} {E:Value->qa4->Prop} {s:qa4} {a I:Addr} {o:Obj} {es:Array (Int×Value)} {ep n:Nat} {t:qg2}
theorem fH {Q:Value->qa4->Prop} (L:ItAt s.heap I first i a n ep) (q:Q (.ref I) s):wpAny (model P u) A (zh1 (.ref I)) Q E s:=by refine qz0 L.ty eZ (qf6 eZ L.ty kf ?_ (ju _));show wpAny _ _ (ret (.ref I)) _ _ s;exact qa3 ⟨_,rfl,"set_iterator",_,L.ty,slot_setit.lookup,q⟩
theorem mG {Q:Bool->qa4->Prop} (O:s.TypeIs (.ref a) "set") (q:Q false s):wpAny (model P u) A (qv9 (.ref a)) Q E s:=by
 unfold qv9;refine wB (wpAny_specialOf O PySem.F.slot_set_len.lookup ?_);generalize L:("set.__len__":String)=U
 wp_delta
 rw [show splitId U=some ("set","__len__") from by subst L;decide +kernel];subst L;refine wB (qu2 (T:="set") (b:=true) O sub_set_self ?_);refine wpAny_ite_split (fun z=>absurd z (by decide)) (fun _=>?_);refine wpAny_ite_split (fun _=>wB (zh4 O (qa3 q))) (fun z=>absurd (by decide +kernel) z)
theorem ItAt.keep (x:ItAt h I first i a n ep) (e:∀ q,h.get? I=some q->h'.get? I=some q):ItAt h' I first i a n ep:=let ⟨q,g,r⟩:=x;⟨q,e q g,r⟩
theorem p0 {T:Addr} {ps:Array Value} (L:A.handled=none) (g3:o.data=.set es ep t) (hf:t.fits es.size=true) (k2:ot.data=.seq ps m) (Y:ps.size=es.size) (hI:I≠a) (W:I≠T) (O:∀ i,i<es.size->∃ p hx,ps[i]?=some (qf8 (p:Nat))/\es[p]?=some (hx,ord i)) :
  WalksS P u A I [I,a,T] [I] (fun x y=>y=x) es.size (fun i v=>v=ord i) (fun i s=>ItAt s.heap I (.ref T) i a es.size ep/\s.heap.get? a=some o/\s.heap.get? T=some ot) where
 sub:=fun b U=>by rw [qb7.mp U];exact .head _
 grefl:=fun _=>rfl
 gtrans:=fun _ _ _ h1 h2=>h2.trans h1
 frame:=fun i s h' tk ⟨x,y,z⟩ _ e=>⟨x.keep fun q g=>e I (.head _) q g,e a (.tail _ (.head _)) _ y,e T (.tail _ (.tail _ (.head _))) _ z⟩
 item:=fun i s Q E hi ⟨x,y,z⟩ q=>by
  obtain ⟨p,hx,h1,h2⟩:=O i hi;refine kd x y g3 hf z k2 h1 h2 fun h' it Z=>q _ _ rfl ⟨it,(Z.2 a (qn9 hI)).trans y,(Z.2 T (qn9 W)).trans z⟩ ⟨fun b ob U e=>?_,rfl,rfl,rfl,nL _⟩
  exact (Z.2 b (fun w=>U (by rw [w];exact .head _))).trans e
 done:=fun s Q E ⟨x,y,z⟩ q=>kS L x y g3 hf z k2 Y fun h' eb=>q _ ⟨fun b ob U e=>eb b ob (fun w=>U (by rw [w];exact .head _)) e,rfl,rfl,rfl,nL _⟩
 self:=fun i s Q E ⟨x,_⟩ q=>fH x q
end
section
variable {P:qc5} {u:World} {K:Type} [DecidableEq K] {κ:SK P u K} {A:qd7} {E:Value->qa4->Prop} {s:qa4} {a I:Addr} {o:Obj} {es:Array (Int×Value)} {ep n:Nat} {t:qg2}
theorem kg {sl:Nat->Nat} (O:A.handled=none) (g3:o.data=.set es ep t) (Z:t.fits es.size=true) (hI:I≠a)
 (hn:∀ i,i<es.size->∀ (s:qa4),s.heap.get? a=some o->∀ {W:qd7} {L:Option (Value×Nat)->qa4->Prop} {Y:Value->qa4->Prop},L (some (ord i,sl (i+1))) s->wpAny (model P u) W (zb4 a (sl i) i ep) L Y s)
 (he:∀ (s:qa4),s.heap.get? a=some o->∀ {W:qd7} {L:Option (Value×Nat)->qa4->Prop} {Y:Value->qa4->Prop},L none s->wpAny (model P u) W (zb4 a (sl es.size) es.size ep) L Y s) :
  WalksS P u A I [I,a] [I] (fun x y=>y=x) es.size (fun i v=>v=ord i) (fun i s=>ItAt s.heap I (qf8 (sl i)) i a es.size ep/\s.heap.get? a=some o) where
 sub:=fun b U=>by rw [qb7.mp U];exact .head _
 grefl:=fun _=>rfl
 gtrans:=fun _ _ _ h1 h2=>h2.trans h1
 frame:=fun i s h' tk ⟨x,y⟩ _ e=>⟨x.keep fun q g=>e I (.head _) q g,e a (.tail _ (.head _)) _ y⟩
 item:=fun i s Q E hi ⟨x,y⟩ q=>ke x y g3 Z (hn i hi s y) fun h' it sb=>q _ _ rfl ⟨it,(sb.2 a (qn9 hI)).trans y⟩ ⟨fun b ob U e=>(sb.2 b (fun w=>U (by rw [w];exact .head _))).trans e,rfl,rfl,rfl,nL _⟩
 done:=fun s Q E ⟨x,y⟩ q=>kT O x y g3 Z (he s y) fun h' eb=>q _ ⟨fun b ob U e=>eb b ob (fun w=>U (by rw [w];exact .head _)) e,rfl,rfl,rfl,nL _⟩
 self:=fun i s Q E ⟨x,_⟩ q=>fH x q
inductive AreK (κ:SK P u K):List Value->List K->Prop
 | nil:AreK κ [] []
 | cons (k:K) (t:Tok) {vs:List Value} {ks:List K}:AreK κ vs ks->AreK κ (κ.put k t::vs) (k::ks)
theorem AreK.len {vs:List Value} {ks:List K} (h:AreK κ vs ks):vs.length=ks.length:=by
 induction h with
 | nil=>rfl
 | cons y tk _ q=>simp [q]
theorem ou {ss:List K} {l m:List (Int×Value)} (x:Tx κ l ss) (p:m.Perm l):∃ ks,AreK κ (m.map (·.2)) ks/\ks.Perm ss:=by
 have y:=x.perm p;refine ⟨m.map fun e=>κ.of e.2,?_,y.per⟩
 have q:∀ m:List (Int×Value),(∀ e∈m,∃ k t,e.2=κ.put k t/\e.1=κ.knd.hash k)->AreK κ (m.map (·.2)) (m.map fun e=>κ.of e.2):=fun m=>by
  induction m with
  | nil=>intro _;exact .nil
  | cons e m L =>intro h;obtain ⟨k,tk,h1,_⟩:=h e (by simp);rw [qa5,qa5,h1,κ.ofmk];exact .cons k tk (L fun z O=>h z (by simp [O]))
 exact q m y.all
theorem mH {ss:List K} {Q:Value->qa4->Prop} (hS:TxS κ s.heap a ss (cA u))
  (q:∀ (I:Addr) (fp:List Addr) (vs:List Value) (ks:List K) (St:Nat->qa4->Prop) (d:Drawn) (h':Heap),(∀ U:qd7,U.handled=none->WalksS P u U I fp [I] (fun x y=>y=x) vs.length (fun i v=>v=vs.getD i .none) St)->St 0 {s with drawn:=d,heap:=h'}->(∀ b∈fp,b<h'.objs.size/\(b=a∨s.heap.objs.size<=b))->(∀ b ob,s.heap.get? b=some ob->h'.get? b=some ob)->s.heap.objs.size<=I->AreK κ vs ks->ks.Perm ss->Q (.ref I) {s with drawn:=d,heap:=h'}) :
  wpAny (model P u) A (zh1 (.ref a)) Q E s:=by
 obtain ⟨o,es,ep,t,g1,g2,g3,x,hb,hf,hl,hp⟩:=hS.ex;have la:a<s.heap.objs.size:=qa8 g1;refine oq g1 g2 g3 hf hb (fun ys d Z hd p=>?_) (fun hm=>?_)
 . -- drawn
   have hyl:ys.length=es.size:=by rw [p.length_eq,qk3]
   have perm:(ys.map fun i=>es.toList.getD i (0,.none)).Perm es.toList:=by
    refine (p.map _).trans ?_
    have e:(qc2 es.size).map (fun i=>es.toList.getD i (0,.none))=es.toList:=by
     apply qt8
     . simp
     . intro i h1 h2;simp at h1 h2;simp [h2]
    rw [e]
   obtain ⟨ks,k1,k2⟩:=ou x perm;have Y:((ys.map fun i=>es.toList.getD i (0,.none)).map (·.2)).length=es.size:=by rw [qa2,qa2,hyl]
   refine q (s.heap.objs.size+1) [s.heap.objs.size+1,a,s.heap.objs.size] ((ys.map fun i=>es.toList.getD i (0,.none)).map (·.2)) ks (fun i s'=>ItAt s'.heap (s.heap.objs.size+1) (.ref s.heap.objs.size) i a es.size ep/\s'.heap.get? a=some o/\s'.heap.get? s.heap.objs.size=some {cls:=.type "tuple",data:=.seq (ys.map fun (i:Nat)=>qf8 i).toArray}) d _ (fun U L=>?_) ⟨⟨ka (.ref s.heap.objs.size) 0 a es.size ep,?_,rfl,rfl⟩,?_,?_⟩ ?_ ?_ (qo3 _) k1 k2
   . rw [Y];refine p0 L g3 hf rfl (by simp [hyl]) (qm6 (qi1 la)) (Nat.succ_ne_self _) fun i hi=>?_
     have O:i<ys.length:=by lia
     have hy:ys[i]<es.size:=qd9.mp (p.mem_iff.mp (zb8 O));refine ⟨ys[i],es[ys[i]].1,by simp [O],?_⟩;simp [O,hy]
   . have:=qa7 (s.heap.push {cls:=.type "tuple",data:=.seq (ys.map fun (i:Nat)=>qf8 i).toArray}) (o:=ka (.ref s.heap.objs.size) 0 a es.size ep) rfl;rw [qg0] at this;exact this
   . exact gP _ (gP _ g1)
   . exact gP _ (qa7 _ rfl)
   . intro b hb;rw [qg0,qg0];rcases qb2.mp hb with rfl | hb
     . exact ⟨qk8 _,.inr (qo3 _)⟩
     . rcases qb2.mp hb with rfl | hb
       . exact ⟨qi1 (qi1 la),.inl rfl⟩
       . rw [qb7.mp hb];exact ⟨qi1 (qk8 _),.inr (nL _)⟩
   . exact fun b ob e=>gP _ (gP _ e)
 . -- by the world's text,or one at most
   have fin:∀ (m:List (Int×Value)) (sl:Nat->Nat),m.Perm es.toList->sl 0=0->(∀ U:qd7,U.handled=none->WalksS P u U s.heap.objs.size [s.heap.objs.size,a] [s.heap.objs.size] (fun x y=>y=x) es.size (fun i v=>v=(m.map (·.2)).getD i .none) (fun i s'=>ItAt s'.heap s.heap.objs.size (qf8 (sl i)) i a es.size ep/\s'.heap.get? a=some o))->Q (.ref s.heap.objs.size) {s with heap:=s.heap.push (ka (qf8 0) 0 a es.size ep)}:=fun m sl p h0 W=>by
    obtain ⟨ks,k1,k2⟩:=ou x p;have Y:(m.map (·.2)).length=es.size:=by rw [qa2,p.length_eq,qe7]
    have:=q s.heap.objs.size [s.heap.objs.size,a] (m.map (·.2)) ks (fun i s'=>ItAt s'.heap s.heap.objs.size (qf8 (sl i)) i a es.size ep/\s'.heap.get? a=some o) s.drawn (s.heap.push (ka (qf8 0) 0 a es.size ep)) (by rw [Y];exact W) ⟨⟨ka (qf8 0) 0 a es.size ep,qa7 _ rfl,rfl,by rw [h0];rfl⟩,gP _ g1⟩ (fun b hb=>by
     rw [qg0];rcases qb2.mp hb with rfl | hb
     . exact ⟨qk8 _,.inr (nL _)⟩
     . rw [qb7.mp hb];exact ⟨qi1 la,.inl rfl⟩) (fun b ob e=>gP _ e) (nL _) k1 k2
    exact this
   have ne:s.heap.objs.size≠a:=qm6 la;by_cases byT:cA u=false
   . refine fin (ze1 (u.params.setOrder a ep) es).toList (fun _=>0) (rf _ _) rfl fun U L=>?_
     have hsz:(ze1 (u.params.setOrder a ep) es).size=es.size:=by have:=(rf (u.params.setOrder a ep) es).length_eq;simpa using this
     refine kg L g3 hf ne (fun i hi s' gs U Q' E' q'=>d4 byT gs g3 hf ?_) (fun s' gs U Q' E' q'=>d4 byT gs g3 hf ?_)
     . have O:i<(ze1 (u.params.setOrder a ep) es).size:=by lia
       rw [qh0 O];simpa [O] using q'
     . rw [qn5 (by lia)];exact q'
   . have Z:cA u=true:=by simpa using byT
     have one:¬ (t.plain=false/\1<es.size):=by
      rcases hm with h1 | h1
      . exact absurd h1 byT
      . exact h1
     have hpl:t.place.size=es.size:=by unfold qg2.fits at hf;simp at hf;exact hf.1
     refine fin es.toList (fun i=>if h:0<i/\i<=t.place.size then t.place[i-1]+1 else 0) (qx7 _) (by simp) fun U L=>?_
     have low:∀ i,i<=es.size->qg1 t.place (if h:0<i/\i<=t.place.size then t.place[i-1]+1 else 0)=i:=fun i hi=>by
      by_cases h0:i=0
      . subst h0;simp [oj hp]
      . rw [dif_pos ⟨by lia,by lia⟩,pW hp (by lia)];lia
     refine kg L g3 hf ne (fun i hi s' gs U Q' E' q'=>eY Z (hl.trans Z) one gs g3 hf ?_) (fun s' gs U Q' E' q'=>eY Z (hl.trans Z) one gs g3 hf ?_)
     . rw [low i (qj0 hi),qh0 hi,qh0 (by lia)];rw [dif_pos ⟨by lia,by lia⟩] at q';simpa [hi] using q'
     . rw [low _ (nL _),qn5 (by lia)];exact q'
end
section
variable {P:qc5} {u:World} {K:Type} [DecidableEq K] {κ:SK P u K} {A:qd7} {E:Value->qa4->Prop} {s:qa4} {a:Addr}
theorem TxS.small {ss:List K} (x:TxS κ h a ss led):ss.length<qm4/\∃ o,h.get? a=some o/\o.cls=.type "set":=by obtain ⟨o,es,ep,t,g1,g2,L,y,q,_⟩:=x.ex;refine ⟨?_,o,g1,g2.1⟩;rw [<- y.per.length_eq,qa2,qe7];exact q
theorem jv {ss:List K} {Q:List Value->qa4->Prop} (calm:A.handled=none) (hS:TxS κ s.heap a ss (cA u))
  (q:∀ (vs:List Value) (ks:List K) (d:Drawn) (h':Heap) (tk:Nat),AreK κ vs ks->ks.Perm ss->s.heap.objs.size<=h'.objs.size->(∀ b ob,s.heap.get? b=some ob->h'.get? b=some ob)->Q vs {s with drawn:=d,heap:=h',toks:=tk}):wpAny (model P u) A (collect (.ref a)) Q E s:=by
 obtain ⟨hsz,o,g1,gc⟩:=hS.small;have la:a<s.heap.objs.size:=qa8 g1;unfold collect;refine wB (wpAny_runValue (qo5 PySem.F.entry_proto_collect ?_));rw [ql7 PySem.F.plain_proto_collect _];show wpAny _ A.in1 (newList [] >>= fun l=>again (.builtin "list.__iadd__" ⟨[l,.ref a],[]⟩)) _ _ s;refine wB (qd2 ?_);refine qa3 ⟨zb2 PySem.F.plain_list_iadd _,qo5 PySem.F.entry_list_iadd ?_⟩;rw [ql7 PySem.F.plain_list_iadd _];show wpAny _ A.in1 (qw0 (.ref s.heap.objs.size) (.ref a) (.ref s.heap.objs.size)) _ _ _;have hS1:TxS κ (s.heap.push {cls:=.type "list",data:=.seq ([]:List Value).toArray}) a ss (cA u):=hS.moved fun ob e=>gP _ e
 have hT1:zg4 {s with heap:=s.heap.push {cls:=.type "list",data:=.seq ([]:List Value).toArray}} (.ref a) "set":=⟨o,gP _ g1,gc⟩;have gL:(s.heap.push {cls:=.type "list",data:=.seq ([]:List Value).toArray}).get? s.heap.objs.size=some {cls:=.type "list",data:=.seq ([]:List Value).toArray}:=qa7 _ rfl;unfold qw0;refine wB (zh4 hT1 ?_);have h1:qz6 (.ref s.heap.objs.size) (.ref a)=false:=by simp [qz6,qm6 la]
 have h2:(qo8 "set"==qo8 "list")=false:=by decide
 have h3:(qo8 "set"==qo8 "tuple")=false:=by decide
 simp only [h1,h2,h3,za3,qf9,if_false];refine wB (mH (s:={s with heap:=s.heap.push {cls:=.type "list",data:=.seq ([]:List Value).toArray}}) hS1 fun I fp vs ks St d h' W st hfp keep hI k1 k2=>?_);have hTI:zg4 {s with drawn:=d,heap:=h'} (.ref a) "set":=⟨o,keep a o (gP _ g1),gc⟩;refine wB (qk0 (mG hTI ?_));show wpAny _ A.in1 (rule "list.extend.makes-room" >>= fun _=>qk5.List.listTouch (.ref s.heap.objs.size) >>= fun _=>again (.builtin "list.extend.loop" ⟨[.ref s.heap.objs.size,.ref I,.ref s.heap.objs.size],[]⟩)) _ _ _;refine wB (zg8 (wB ?_));have Z:=keep _ _ gL;show wpAny _ A.in1 (updateSeq s.heap.objs.size (·.push .none) >>= fun _=>updateSeq s.heap.objs.size (·.pop)) _ _ _;refine wB (wpAny_updateSeq Z rfl ?_);have gL2:=qf2 (qq6 (·.push qh6)) Z rfl;refine wpAny_updateSeq gL2 rfl ?_;have gL3:=qf2 (qq6 (·.pop)) gL2 rfl;have oth:∀ b ob,b≠s.heap.objs.size->h'.get? b=some ob->((h'.update s.heap.objs.size (qq6 (·.push qh6))).update s.heap.objs.size (qq6 (·.pop))).get? b=some ob:=fun b ob hb e=>(qn4 _ _ (qn9 hb)).trans ((qn4 _ _ (qn9 hb)).trans e)
 have Y:s.heap.objs.size∉fp:=fun hm=>by
  rcases (hfp _ hm).2 with z | z
  . exact qm6 la z
  . have z:(s.heap.push {cls:=.type "list",data:=.seq ([]:List Value).toArray}).objs.size<=s.heap.objs.size:=z;rw [qg0] at z;exact Nat.not_succ_le_self _ z
 have W1:=W A.in1 (by simp [calm])
 have hvl:vs.length<=qb0:=by
  have e:vs.length=ss.length:=by rw [<- k2.length_eq];exact k1.len
  rw [e];exact qs6 hsz
 refine qa3 ⟨zb2 PySem.F.plain_extend_loop _,codeAny_extend_loopS W1 hvl _ Y _ vs.length 0 _ _ _ rfl (qh8 _) (W1.frame 0 ({s with drawn:=d,heap:=h'}:qa4) _ s.toks st (nL _) fun b hb ob e=>oth b ob (fun h=>Y (h▸hb)) e) gL3 (ItemsOf.nil _) fun s2 acc c2 mv O L=>?_⟩;show wpAny _ A (load s.heap.objs.size >>= _) _ _ s2;refine wB (wpAny_load O ?_)
 have hav:acc.toList=vs:=by
  apply qt8
  . simpa using L.1
  . intro i h1 h2;have:=L.2 i acc.toList[i] (by simp);rw [this];simp [h2]
 rw [<- hav] at k1;obtain ⟨h2',g2',d2',U,o2'⟩:=s2;have eg:g2'=s.gens:=mv.gens;have ed:d2'=d:=mv.drawn;have eo:o2'=s.os:=mv.os;subst eg ed eo;refine qa3 (q acc.toList ks d2' h2' U k1 k2 (qj0 (qa8 O)) fun b ob e=>?_);have nb:b≠s.heap.objs.size:=qc1 (qa8 e);refine mv.heap b ob (fun hm=>?_) (oth b ob nb (keep b ob (gP _ e)));rcases qb2.mp hm with z | z
 . exact nb z
 . rw [qb7.mp z] at e;have z2:(s.heap.push {cls:=.type "list",data:=.seq ([]:List Value).toArray}).objs.size<=I:=hI;rw [qg0] at z2;exact absurd (qa8 e) (qi9.mpr (Nat.le_of_succ_le z2))
end
section
variable {P:qc5} {u:World} {K:Type} [DecidableEq K] {κ:SK P u K} {A:qd7} {E:Value->qa4->Prop} {s:qa4} {a:Addr}
noncomputable def iw (κ:SK P u K) (L:List K->List K):Prop:=∀ {A:qd7} {E:Value->qa4->Prop} {s:qa4} {a:Addr} {vs:List Value} {ks:List K} {n:Nat} {Q:Fin->qa4->Prop},s.heap.get? a=some (seqObj "list" vs.toArray n)->AreK κ vs ks->vs.length<64→ (∀ q:Array Value,AreK κ q.toList (L ks)->Q (.done (.ret .none)) {s with heap:=sortedHeap s.heap a vs q})->wpAny (model P u) A (qk5.«list.sort» ⟨[.ref a],[]⟩) Q E s
theorem kh {ss:List K} {L:List K->List K} {Q:Value->qa4->Prop} (hs:iw κ L) (pm:∀ {ks},ks.Perm ss->L ks=L ss) (W:A.handled=none) (hS:TxS κ s.heap a ss (cA u)) (Y:ss.length<64)
  (q:∀ (l:Addr) (U:Array Value) (d:Drawn) (h':Heap) (tk:Nat),AreK κ U.toList (L ss)->(∃ e,h'.get? l=some (seqObj "list" U e))->s.heap.objs.size<=l->(∀ b ob,s.heap.get? b=some ob->h'.get? b=some ob)->Q (.ref l) {s with drawn:=d,heap:=h',toks:=tk}):wpAny (model P u) A (call (.builtin "sorted") [.ref a]) Q E s:=by
 refine Calls.call_function_entry kind_sorted plain_sorted entry_sorted (args_sorted1 _) ?_;unfold qk5.«sorted»;refine wB (m:=checkCount "sorted" 1 1 _) (qa3 ?_);refine qh2 (jv (by simp [W]) hS fun vs ks d h' tk k1 k2 le keep=>?_);have O:vs.length<64:=by rw [k1.len,k2.length_eq];exact Y
 refine wB (wpAny_newList ?_ (qb8 (qj0 O) (by decide)));have Z:(h'.push (seqObj "list" vs.toArray 0)).get? h'.objs.size=some (seqObj "list" vs.toArray 0):=qa7 _ rfl;show wpAny _ _ _ _ _ {s with drawn:=d,toks:=tk,heap:=h'.push (seqObj "list" vs.toArray 0)};refine wB (qk0 (qf6 slot_list_sort ⟨_,Z,rfl⟩ entry_list_sort (hs Z k1 O fun U a1=>⟨_,rfl,?_⟩) (args_list_sort _)));refine qa3 ⟨_,rfl,?_⟩;refine q _ _ d _ tk (pm k2▸a1) (sortedHeap_at Z) le fun b ob e=>?_
 have lt:b<h'.objs.size:=qa8 (keep b ob e);rw [sortedHeap_old (qc1 lt) (by rw [size_push'];exact qi1 lt)];exact gP _ (keep b ob e)
end
section
variable {P:qc5} {u:World}
theorem vt {vs:List Value} {ks:List Str} (h:AreK (sX P u) vs ks):StrsAre vs ks:=by
 induction h with
 | nil=>exact .nil
 | cons k t _ q=>exact .cons k t q
theorem vv {vs:List Value} {ks:List Str} (h:StrsAre vs ks):AreK (sX P u) vs ks:=by
 induction h with
 | nil=>exact .nil
 | cons k t _ q=>exact AreK.cons (κ:=sX P u) k t q
theorem vz {vs:List Value} {ks:List Int} (h:AreK (sY P u) vs ks):zg6 vs ks:=by
 induction h with
 | nil=>exact .nil
 | cons k t _ q=>exact .cons k t q
theorem vA {vs:List Value} {ks:List Int} (h:zg6 vs ks):AreK (sY P u) vs ks:=by
 induction h with
 | nil=>exact .nil
 | cons k t _ q=>exact AreK.cons (κ:=sY P u) k t q
theorem vC:iw (sX P u) eX:=fun {A E s a vs ks n Q} g k O q=>by
 have U:=vt k;refine list_sort_treeK strKind_oneLt g U.keysOf (fun v1 v2 r e=>keyKind_strs (by rw [<- e];exact U)) O fun st a1 Z=>?_
 obtain ⟨L,W,e2,Y⟩:=sorted_out_str U a1 Z;have e:L=eX ks:=iZ (e2.trans (cO ks).symm) (sO L Y) (iq ks);exact q _ (vv (e▸W))
theorem vD {ss ks:List Str} (p:ks.Perm ss):eX ks=eX ss:=iZ ((cO ks).trans (p.trans (cO ss).symm)) (iq ks) (iq ss)
def d5 (ns:List Int):List Int:=ns.mergeSort fun a b=>decide (a<=b)
theorem cq (ns:List Int):(d5 ns).Perm ns:=List.mergeSort_perm ns _
theorem ix (ns:List Int):(d5 ns).Pairwise (· <= ·):=by have:=za8 (le:=fun a b:Int=>decide (a<=b)) (fun a b c h1 h2=>by simp at *;lia) (fun a b=>by simp;lia) ns;exact this.imp fun {a b} h=>by simpa using h
theorem gB {a b:List Int} (p:a.Perm b) (h1:a.Pairwise (· <= ·)) (h2:b.Pairwise (· <= ·)):a=b:=zi4.eq_of_pairwise (fun a b _ _ x y=>Int.le_antisymm x y) h1 h2 p
theorem vE:iw (sY P u) d5:=fun {A E s a vs ks n Q} g k L q=>by
 refine list_sort_tree g (vz k) L fun U ns Y O W=>?_
 have e:ns=d5 ks:=gB (O.trans (cq ks).symm) W (ix ks);exact q _ (vA (e▸Y))
theorem vF {ss ks:List Int} (p:ks.Perm ss):d5 ks=d5 ss:=gB ((cq ks).trans (p.trans (cq ss).symm)) (ix ks) (ix ss)
end
section
variable {K:Type} [DecidableEq K]
def bL (ss:List K):List K:=ss.foldl dw []
theorem lR [Inhabited K] (ss:List K):met (fun i=>ss.getD i default) ss.length=bL ss:=by
 unfold met bL;congr 1;apply qt8
 . simp
 . intro i h1 h2;simp at h1;simp [h1]
theorem lS [Inhabited K] (ss:List K):(bL ss).length<=ss.length:=by rw [<- lR];exact mE _ _
end
theorem Inv.dr (I:Inv X pins σ H s) (d:Drawn):Inv X pins σ H {s with drawn:=d}:=⟨I.ok,I.os,I.bare,I.base,I.loc,I.cell,I.free,I.freeC,I.pin,I.hok,I.len⟩
section
variable {X:Cx} {K:Type} [DecidableEq K] [Inhabited K] {κ:SK X.prog X.w K} {kv:K->V}
theorem vG:∀ {vs:List Value} {ss:List K},AreK κ vs ss->∀ (i:Nat) (v:Value),vs[i]?=some v->∃ t,v=κ.put (ss.getD i default) t
 | _,_,.nil,i,v,h=>by simp at h
 | _,_,.cons y t r,0,v,h=>by simp at h;exact ⟨t,by rw [<- h];rfl⟩
 | _,_,.cons y t r,i+1,v,h=>vG r i v (by simpa using h)
abbrev vH (κ:SK X.prog X.w K) (l:Addr) (ss:List K):HO:=.ext fun h=>TxS κ h l ss (cA X.w)
def p5 (κ:SK X.prog X.w K) (kv:K->V):Prop:=∀ k v,RelV (kv k) v↔∃ t,v=κ.put k t
theorem ox (hk:p5 κ kv):∀ {ss:List K} {its:List Value},Vals (ss.map kv) its->AreK κ its ss
 | [],_,h=>by cases h;exact .nil
 | x::ss,_,h=>by
  cases h with
  | cons h1 h2 =>obtain ⟨t,rfl⟩:=(hk x _).mp h1;exact .cons x t (ox hk h2)
theorem oy (hk:p5 κ kv):∀ {its:List Value} {ss:List K},AreK κ its ss->Vals (ss.map kv) its
 | _,_,.nil=>.nil
 | _,_,.cons x t h=>.cons ((hk x _).mpr ⟨t,rfl⟩) (oy hk h)
theorem tj (hk:p5 κ kv) (O:X.calm=true):c8 X (.type "set") (fun xs H Q=>∃ p ss,xs=[.ref p]/\SqL X.K H p (ss.map kv)/\ss.length<4000/\∀ l,H l=none->Q (.ref l) (upd H l (vH κ l (bL ss)))):=by
 intro pins s σ H xs us Q I r h;obtain ⟨p,ss,rfl,hq,hz,q⟩:=h;obtain ⟨u,rfl,rx⟩:=jO r;cases rx;obtain ⟨its,W,pl,Y⟩:=I.list hq;have hS:=ox hk W;have L:its.length=ss.length:=by have:=W.length;simpa using this.symm
 have hi:∀ (i:Nat) (v:Value),its.toArray[i]?=some v->∃ t,v=κ.put (ss.getD i default) t:=fun i v Z=>vG hS i v (by simpa using Z)
 have hb:its.toArray.size+1<qm4:=by
  have:its.toArray.size=ss.length:=by simpa using L
  rw [this];unfold qm4;lia
 refine vq (I.ok.hd O) pl.isList hi hb fun hp tk U kept=>?_
 have e:met (fun i=>ss.getD i default) its.toArray.size=bL ss:=by rw [show its.toArray.size=ss.length by simpa using L];exact lR ss
 rw [e] at U;refine ⟨.ref s.heap.objs.size,_,I.laid (t':=tk) (fun b o g=>kept b o (qa8 g) g) (nL _) (show ObjOk X.prog X.w _ _ _ (vH κ s.heap.objs.size (bL ss)) from ⟨U,?_,fun h1 h2 x g=>x.moved g⟩),rfl,q _ (I.hok.fresh (nL _))⟩;obtain ⟨_,o,g,_⟩:=U.small;exact ⟨o,g⟩
theorem mI {L:List K->List K} (hk:p5 κ kv) (hs:iw κ L) (pm:∀ {ss ks},ks.Perm ss->L ks=L ss) (pl:∀ ss,(L ss).length=ss.length) (O:X.calm=true):c8 X (.builtin "sorted") (fun xs H Q=>∃ p ss,xs=[.ref p]/\H p=some (vH κ p ss)/\ss.length<64/\∀ l,H l=none->Q (.ref l) (upd H l (.lst ((L ss).map kv)))):=by
 intro pins s σ H xs us Q I r h;obtain ⟨p,ss,rfl,hq,Y,q⟩:=h;obtain ⟨u,rfl,rx⟩:=jO r;cases rx;have hT:TxS κ s.heap p ss (cA X.w):=(show ObjOk X.prog X.w H s.heap p (vH κ p ss) from I.hok p _ hq).1;refine kh hs pm (I.ok.hd O) hT Y fun l W d h' tk a1 U Z kept=>?_
 obtain ⟨c,U⟩:=U;refine ⟨.ref l,_,(I.laid (t':=tk) kept Z (show ObjOk X.prog X.w _ _ _ (.lst ((L ss).map kv)) from ⟨?_,W.toList,c,oy hk a1,U⟩)).dr d,rfl,q _ (I.hok.fresh Z)⟩;rw [qa2,pl];exact qb8 (qj0 Y) (by decide)
end
theorem kvS {X:Cx}:p5 (X:=X) (sX X.prog X.w) V.str:=fun _ _=>Iff.rfl
theorem kvI {X:Cx}:p5 (X:=X) (sY X.prog X.w) V.int:=fun _ _=>Iff.rfl
noncomputable def tm {K:Type} [DecidableEq K] (rd:List Dt->Option (List K)) (q:List K->List K) (wr:K->Dt):List Dt->Option T
 | [.lst ds]=>(rd ds).bind fun ss=>if ss.length<4000/\(bL ss).length<64 then some (.lst ((q (bL ss)).map wr)) else none
 | _=>none
def tp:List Dt->Option (List Int)
 | []=>some []
 | .int k::r=>(tp r).map (k::·)
 | _=>none
theorem rg {F:Hp}:∀ {l:List Dt} {vs:List V} {bs:List Int},Reps K F l vs->tp l=some bs->vs=bs.map V.int
 | [],vs,bs,r,h=>by cases h;simp only [Reps] at r;exact r
 | d::l,vs,bs,r,h=>by
  cases d<;>first | cases h;done | skip
  simp only [tp] at h;obtain ⟨cs,q,h⟩:=mS h;cases h;simp only [Reps,Rep] at r;obtain ⟨v,O,rfl,rfl,L⟩:=r;rw [rg L q];rfl
def iy:List Dt->Option T:=tm iW eX .str
def d6:List Dt->Option T:=tm tp d5 .int
theorem lT {F:Hp}:∀ ns:List Int,Reps K F (ns.map .int) (ns.map V.int)
 | []=>by simp only [qh4,Reps]
 | x::ss=>by simp only [qa5,Reps];exact ⟨_,_,rfl,by simp only [Rep],lT ss⟩
section
variable {X:Cx} {e:Expr} {pos pos2 p p2:Pos} {sc:Scope} {fs:De->Option (List Dt)}
theorem vI {K:Type} [DecidableEq K] [Inhabited K] {rd:List Dt->Option (List K)} {q:List K->List K} {wr:K->Dt} (κ:SK X.prog X.w K) {kv:K->V} (hk:p5 κ kv) (U:iw κ q) (pm:∀ {ss ks},ks.Perm ss->q ks=q ss) (pl:∀ ss,(q ss).length=ss.length)
  (hr:∀ {F:Hp} {l:List Dt} {vs:List V} {bs:List K},Reps X.K F l vs->rd l=some bs->vs=bs.map kv) (hw:∀ {F:Hp} (ns:List K),Reps X.K F (ns.map wr) (ns.map kv))
  (h1:aB sc "sorted"=true) (h2:aB sc "set"=true) (hc:X.calm=true) (m1:X.mg "sorted"=none) (m2:X.mg "set"=none) (ha:DAB X [e] fs) (e1:bA X sc)
  (s1:qa6 [.Call (.Name "set" p2) [e] [] pos2] X.env=(false,eval (.Call (.Name "set" p2) [e] [] pos2) X.env)::qa6 [] X.env) (n1:(qj4 pos (qa6 [] X.env)).any (·.1)=false)
  (s2:qa6 [e] X.env=(false,eval e X.env)::qa6 [] X.env) (n2:(qj4 pos2 (qa6 [] X.env)).any (·.1)=false):DO X (.Call (.Name "sorted" p) [.Call (.Name "set" p2) [e] [] pos2] [] pos) (ag (tm rd q wr) fs):=
 PE.mono (fQ h1 (mI hk U pm pl hc) m1 (by rfl) (bU (gu h2 (tj hk hc) m2 (by rfl) ha.pa e1 s2 n2) dB s1) e1 s1 n1) fun σ H Q ⟨Φ,δ,F,t,hK,en,Y,k⟩=>by
  unfold ag at Y;obtain ⟨ds,hd,L⟩:=bS Y;refine ⟨Φ,δ,F,ds,hK,en,hd,fun vs H1 F1 st r=>?_⟩;unfold tm at L;split at L<;>first | (cases L;done) | skip
  obtain ⟨ss,U,L⟩:=bS L;split at L<;>cases L
  rename_i Z;obtain ⟨v,rfl,rv⟩:=gy r;obtain ⟨b,ws,rfl,g1,g2⟩:=rv;have:=hr g2 U;subst this;refine ⟨b,ss,rfl,g1,Z.1,fun l hl=>?_⟩;have O:Step F1 H1 F1 (upd H1 l (vH κ l (bL ss))):=Step.made st.fh hl;refine ⟨l,bL ss,rfl,aq,Z.2,fun l2 W=>?_⟩;exact jA (k.step (st.trans O)) O.fh (hw _) W
theorem p6 (h1:aB sc "sorted"=true) (h2:aB sc "set"=true) (O:X.calm=true) (U:X.mg "sorted"=none) (L:X.mg "set"=none) (W:DAB X [e] fs) (e1:bA X sc:=by rfl)
  (s1:qa6 [.Call (.Name "set" p2) [e] [] pos2] X.env=(false,eval (.Call (.Name "set" p2) [e] [] pos2) X.env)::qa6 [] X.env:=by rfl) (n1:(qj4 pos (qa6 [] X.env)).any (·.1)=false:=by rfl)
  (q:qa6 [e] X.env=(false,eval e X.env)::qa6 [] X.env:=by rfl) (n2:(qj4 pos2 (qa6 [] X.env)).any (·.1)=false:=by rfl):DO X (.Call (.Name "sorted" p) [.Call (.Name "set" p2) [e] [] pos2] [] pos) (ag iy fs):=
 vI (sX X.prog X.w) kvS vC vD (fun ss=>(cO ss).length_eq) (fun g h=>ly g h) (fun ss=>lK ss) h1 h2 O U L W e1 s1 n1 q n2
theorem oz (h1:aB sc "sorted"=true) (h2:aB sc "set"=true) (O:X.calm=true) (U:X.mg "sorted"=none) (L:X.mg "set"=none) (W:DAB X [e] fs) (e1:bA X sc:=by rfl)
  (s1:qa6 [.Call (.Name "set" p2) [e] [] pos2] X.env=(false,eval (.Call (.Name "set" p2) [e] [] pos2) X.env)::qa6 [] X.env:=by rfl) (n1:(qj4 pos (qa6 [] X.env)).any (·.1)=false:=by rfl)
  (q:qa6 [e] X.env=(false,eval e X.env)::qa6 [] X.env:=by rfl) (n2:(qj4 pos2 (qa6 [] X.env)).any (·.1)=false:=by rfl):DO X (.Call (.Name "sorted" p) [.Call (.Name "set" p2) [e] [] pos2] [] pos) (ag d6 fs):=
 vI (sY X.prog X.w) kvI vE vF (fun ss=>(cq ss).length_eq) (fun g h=>rg g h) (fun ss=>lT ss) h1 h2 O U L W e1 s1 n1 q n2
end
section
variable {X:Cx} {e o:Expr} {fa fe:Fg} {pos apos cpos:Pos}
end
section
variable {P:qc5} {u:World} {A:qd7} {E:Value->qa4->Prop} {s:qa4} {Ty:String} {r d:Addr} {n:Nat} {Pr:Nat->Value->Prop} {OK:Heap->Prop}
end
section
variable {X:Cx}
variable {e o:Expr} {es:List Expr} {fo:De->Option Dt} {fs:De->Option (List Dt)} {apos cpos pos:Pos}
noncomputable def q43 (i:Nat) (f:De->Option T):De->Option Out:=fun δ=>match δ[i]? with
 | some (some (.lst l))=>(f δ).bind fun t=>match t with
  | .lst m=>if l.length+m.length<=qb0 then some (.nx (δ.set i (some (.lst (l++m))))) else none
  | _=>none
 | _=>none
theorem lU {fe:De->Option T} (hx:PE X o (iK i)) (he:DO X e fe)
 (U:za4 o "extend" X.env (eval o X.env)=eval o X.env:=by rfl)
 (W:((qj4 cpos (qa6 [e] X.env)).all (fun x=>!x.1)&&(backToKw cpos (zf3 [] X.env)).all (fun x=>x.1.isSome)
 && decide ([e].length+([]:List zd1).length+(if ([]:List zd1).isEmpty then 0 else 1)<30))=true:=by rfl)
 (O:(apos.endLine==cpos.line)=true:=by rfl) (hs:qa6 [e] X.env=(false,eval e X.env)::qa6 [] X.env:=by rfl) (L:(qj4 cpos (qa6 [] X.env)).any (·.1)=false:=by rfl)
 (Y:qk4 (.Call (.Attribute o "extend" apos) [e] [] cpos) none pos.line X.env=pure false:=by rfl) :
  DS1 X (.Expr (.Call (.Attribute o "extend" apos) [e] [] cpos) pos) (q43 i fe):=
 PS.mono (md (ut PySem.F.plainAttrs_list PySem.F.slot_list_extend PySem.F.type_list_extend sv hx (bU he dB hs) U W O hs L) Y) fun D σ H ⟨Φ,δ,F,ot,hK,en,q,k⟩=>by
  unfold q43 at q;split at q<;>first | cases q;done | skip
  rename_i l hl;obtain ⟨t,hd,q⟩:=bS q;split at q<;>first | cases q;done | skip
  rename_i m;split at q<;>first | cases q;done | skip
  rename_i hz;cases q;obtain ⟨a,vs,hv,h1,h2⟩:=en.ownL hl;refine ⟨.ref a,hv,.inl ⟨rfl,vs,.inl (.inl h1)⟩,Φ,δ,F,.lst m,hK,en,hd,fun v H1 F1 S st ov hS=>?_⟩;have Z:=en.step st;have h1':=st.hh _ _ h1;obtain ⟨b,ws,rfl,sb,g1,g2⟩:=ov;refine ⟨a,b,vs,ws,rfl,rfl,h1',g1,by rw [h2.length,g2.length];exact hz,?_⟩;refine k σ F1 _ (Z.poke hl hv (fun d z=>nomatch z) fun S sa=>⟨a,vs++ws,rfl,sa,aq,(h2.same st.ff).append (hK▸g2)⟩)
end
section
variable {X:Cx} {elt tg iter:Expr} {ifs:List Expr} {scope:Scope} {pos:Pos} {M:List Str} {src:List (Option Nat)} {fd fe:Fg} {ft:Ft} {i t:Nat}
end
def loD (m:Nat) (δ:Sl) (ch:CH):De:=δ.map fun o=>o.bind fun c=>(vwD ch m c).map T.leaf
section
variable {K:xA9} {F H:Hp} {ρ:Nat->Addr} {δ:Sl} {σ:St} {ch:CH}
theorem rh {t:T} (h:(loD m δ ch)[j]?=some (some t)):∃ c d,δ[j]?=some (some c)/\vwD ch m c=some d/\t=.leaf d:=by unfold loD at h;rw [qb1] at h;obtain ⟨o,L,h1⟩:=mS h;obtain ⟨c,q,h2⟩:=bS h1;obtain ⟨d,O,h3⟩:=mS h2;exact ⟨c,d,by rw [L,q],O,h3.symm⟩
theorem Ge.enD (m:Nat) (e:Ge K δ ch σ F H ρ):En ⟨K,H,H,fun _=>False⟩ (loD m δ ch) σ H H:=by
 refine ⟨Same.refl _,fun b o h _=>h,Same.refl _,fun b o h=>.inl h,by simp [loD,e.len],fun j t h=>?_,fun _ _=>False,fun j t v h=>?_,fun j b z=>z.elim,fun j k b z _=>z.elim⟩
 . obtain ⟨c,d,q,_⟩:=rh h;obtain ⟨v,O,_⟩:=e.has j _ q;exact ⟨v,O⟩
 . obtain ⟨h1,h2⟩:=dn h;obtain ⟨c,d,q,U,rfl⟩:=rh h1;obtain ⟨w,L,r⟩:=e.has j _ q;rw [h2] at L;cases L;exact jH e.gh m c v d r U
end
def eDV (m:Nat) (f:De->Option T):Fg:=fun δ ch=>(f (loD m δ ch)).bind fun u=>(nY u).bind (al ch)
def tDV (m:Nat) (f:De->Option Bool):Ft:=fun δ ch=>(f (loD m δ ch)).map fun b=>(b,ch)
section
variable {X:Cx} {e:Expr}
theorem Dz (m:Nat) {f:De->Option T} (h:DO X e f):GE X e (eDV m f):=PE.mono h fun σ H Q ⟨δ,ch,F,ρ,c,ch',en,q,k⟩=>by unfold eDV at q;obtain ⟨u,L,q⟩:=bS q;obtain ⟨t,O,q⟩:=bS q;exact ⟨_,loD m δ ch,H,u,rfl,en.enD m,L,nZ en.gh.fh O (j3 en.gh q k)⟩
theorem DC (m:Nat) {f:De->Option Bool} (h:DT X e f):GT X e (tDV m f):=PT.mono h fun σ H Q ⟨δ,ch,F,ρ,b,ch',en,q,k⟩=>by unfold tDV at q;obtain ⟨O,L,q⟩:=mS q;cases q;exact ⟨_,loD m δ ch,H,b,rfl,en.enD m,L,fun H' F' st=>k F H' ρ (Adv.of en.gh ⟨st.hh,Same.refl _,en.gh.fh.trans st.hh,fun _ _ z=>.inl z⟩)⟩
end
def vJ:Dt->Bool
 | .non=>true | .bl _=>true | .int _=>true | .str _=>true
 | _=>false
theorem oA {F:Hp} {d:Dt} (h:vJ d=true) (r:Rep K F d v):Rep K F' d v:=by cases d<;>first | (simp [vJ] at h;done) | (simp only [Rep] at r ⊢;exact r)
noncomputable def svD (ch:CH):Nat->CV->Option Dt
 | _,.dat d=>if vJ d then some d else none
 | _,.fn _ _=>none
 | 0,.ref _=>none
 | n+1,.ref i=>match ch[i]? with
  | some (.lst l)=>(dG (svD ch n) l).map .lst
  | some (.tup l)=>(dG (svD ch n) l).map .tup
  | _=>none
theorem rj {F:Hp} (U:Gh K F H ρ ch) (L:∀ i u,i<ch.length->H (ρ i)=some u->G (ρ i)=some u):∀ (n:Nat) (c:CV) (v:V) (d:Dt),RelC K F ρ ch.length c v->svD ch n c=some d->Rep K G d v
 | 0,.dat d',v,d,r,h=>by
  simp only [svD] at h;split at h<;>cases h
  rename_i O;exact oA O r
 | n+1,.dat d',v,d,r,h=>by
  simp only [svD] at h;split at h<;>cases h
  rename_i O;exact oA O r
 | 0,.fn _ _,v,d,r,h=>by simp only [svD] at h;cases h
 | n+1,.fn _ _,v,d,r,h=>by simp only [svD] at h;cases h
 | 0,.ref i,v,d,r,h=>by simp only [svD] at h;cases h
 | n+1,.ref i,v,d,r,h=>by
  obtain ⟨hi,rfl⟩:=r;simp only [svD] at h;have Y:=rj U L n;split at h
  . rename_i l q;obtain ⟨ds,W,rfl⟩:=mS h;obtain ⟨vs,h1,h2⟩:=U.ok i _ q;simp only [Rep];exact ⟨_,vs,rfl,SqL.of (L i _ hi h1),cP Y h2 W⟩
  . rename_i l q;obtain ⟨ds,W,rfl⟩:=mS h;obtain ⟨vs,h1,h2⟩:=U.ok i _ q;simp only [Rep];exact ⟨_,vs,rfl,SqT.of (L i _ hi h1),cP Y h2 W⟩
  . cases h
def d9 (g:Fd):List Dt->Option T:=fun ds=>(g (ds.map .dat) []).bind fun p=>(svD p.2 4 p.1).map .leaf
theorem DD {g:Fd} {E:XK} (h:spD K n (d9 g) vs H Q E):spG K n g vs H Q E:=by
 obtain ⟨F,ds,t,U,Z,r,W,k⟩:=h;unfold d9 at W;obtain ⟨⟨c,ch'⟩,hp,O⟩:=bS W;obtain ⟨d,hd,rfl⟩:=mS O;refine ⟨F,fun _=>0,ds.map .dat,[],c,ch',⟨U,fun i j hi=>absurd hi (qm2 _),fun i hi=>absurd hi (qm2 _),fun i o h=>by simp at h⟩,by simpa using Z,RelCs.dats r,hp,fun v F' H' ρ' a rv=>?_⟩;have Y:Same H H':=fun b o e=>a.prot b o e fun i hi=>absurd hi (qm2 _)
 have fr:∀ i,i<ch'.length->H (ρ' i)=none:=fun i hi=>a.fr i (qh8 _) hi
 classical
 let G:Hp:=fun b=>if (∃ i,i<ch'.length/\ρ' i=b) then H' b else F b
 have L:∀ i,i<ch'.length->G (ρ' i)=H' (ρ' i):=fun i hi=>if_pos ⟨i,hi,rfl⟩
 have q:∀ b,(¬ ∃ i,i<ch'.length/\ρ' i=b)->G b=F b:=fun b h=>if_neg h
 have st:Step F H G H':=by
  refine ⟨Y,fun b o e=>?_,fun b o e=>?_,fun b o e=>?_⟩
  . rw [q b]
    . exact e
    . rintro ⟨i,hi,rfl⟩;have:=U _ _ e;rw [fr i hi] at this;cases this
  . by_cases z:∃ i,i<ch'.length/\ρ' i=b
    . obtain ⟨i,hi,rfl⟩:=z;rw [L i hi] at e;exact e
    . rw [q b z] at e;exact Y _ _ (U _ _ e)
  . by_cases z:∃ i,i<ch'.length/\ρ' i=b
    . obtain ⟨i,hi,rfl⟩:=z;exact .inr (fr i hi)
    . rw [q b z] at e;exact .inl e
 exact k.leaf v H' G st (rj a.gh (fun i u hi hu=>(L i hi).trans hu) 4 c v d rv hd)
theorem okD {mg:Str->Option Value} {base:Heap} {k:Nat} {g:Fd} (h:OkF P w K mg base x k ps (spG K n g)):OkF P w K mg base x k ps (spD K n (d9 g)):=by obtain ⟨f,fd,h1,h2,h3,q⟩:=h.ex;exact ⟨f,fd,h1,h2,h3,q.imp fun vs H Q E z=>DD z⟩
abbrev Orc:=Addr->Hp->List Dt->Option T
noncomputable def vK (P:qc5) (w:World) (K:xA9) (mg:Str->Option Value) (base:Heap) (kk:Nat) (H:Hp) (G:Orc):Prop:=∀ (f:Addr) (F0:Hp) (ds:List Dt) (t:T),G f F0 ds=some t→
 (∃ fo uf fd,H f=some (.frz fo uf)/\fo.data=.func fd)/\∀ (A:qd7) (outer:List Env) (s:qa4) (H' F:Hp) (us:List Value) (vs:List V) (Q:VK),Room kk A->(∀ b o u,H b=some (.frz o u)->H' b=some (.frz o u))->Env0 P w K mg base A outer s H'->Same F0 F->Same F H'->Vals vs us->Reps K F ds vs->KO K F H' t Q→
  qs2 (model P w) A (.call (.ref f) ⟨us,[]⟩) (CR CX0 outer P w H' s Q E0) s
def eCl (G:Orc) (i:Nat) (fs:Fgs):Fg:=fun δ ch=>match δ[i]? with
 | some (some (.fn a F0))=>(fs δ ch).bind fun p=>(dats p.1).bind fun ds=>(G a F0 ds).bind (al p.2)
 | _=>none
section
variable {X:Cx} {e:Expr} {es:List Expr} {fs:Fgs} {p pos:Pos} {x:Str} {i kk:Nat} {G:Orc}
theorem rk (hx:PE X (.Name x p) (iK i)) (hG:vK X.prog X.w X.K X.mg X.base kk X.H₀ G) (hr:Room kk X.A) (ha:GA X (e::es) fs)
  (he:qa6 (e::es) X.env=(false,eval e X.env)::qa6 es X.env:=by rfl) (hpl:(qj4 pos (qa6 es X.env)).any (·.1)=false:=by rfl):GE X (.Call (.Name x p) (e::es) [] pos) (eCl G i fs):=by
 intro pins s σ H Q I h;obtain ⟨δ,ch,F,ρ,c,ch',en,L,k⟩:=h;unfold eCl at L;split at L<;>first | (cases L;done) | skip
 rename_i a F0 hi;obtain ⟨q,hp,L⟩:=bS L;obtain ⟨ds,hd,L⟩:=bS L;obtain ⟨t,ht,L⟩:=bS L;obtain ⟨v,hv,rv,hF0⟩:=en.has i _ hi;subst rv;obtain ⟨⟨fo,uf,fd,g1,g2⟩,run⟩:=hG a F0 ds t ht
 have O:∀ {pins:List (Addr×Obj)} {σ:St} {H:Hp} {s:qa4},Inv X pins σ H s->PySem.W.FnAt a s.heap:=fun {pins σ H s} J=>by have e1:=(J.hok a _ (J.base.frzs a fo uf g1)).1;obtain ⟨oc,od,dt,sl⟩:=fo;cases (show dt=.func fd from g2);exact ⟨oc,od,fd,sl,e1⟩
 refine qn6 (thn (hx pins s σ H (fun v H'=>v=.ref a/\H'=H) I ⟨.ref a,hv,rfl,rfl⟩) fun u s1 h1=>?_);obtain ⟨v1,H1,I1,r1,rfl,rfl⟩:=h1;cases r1;refine PySem.W.callWith_F (O I1) (thn (ha pos pins s1 σ _ (fun vs H'=>∃ F' ρ',Adv X.K F _ ρ ch F' H' ρ' q.2/\RelCs X.K F' ρ' q.2.length q.1 vs) I1 ⟨δ,ch,F,ρ,q.1,q.2,en,hp,fun vs F' H' ρ' a r=>⟨F',ρ',a,r⟩⟩) fun us s2 h2=>?_) he hpl;obtain ⟨vs,H2,Z,r2,F2,ρ2,Y,rc⟩:=h2;refine ⟨O Z,zg5 (qq4 (run X.A X.stack s2 H2 F2 us vs Q hr (fun b o u z=>Z.base.frzs b o u z) Z.env0 (hF0.trans Y.old) Y.gh.fh r2 (cN hd rc) (j3 Y.gh L (k.adv en.gh Y))) fun r s' U=>?_)⟩;cases r with
 | error e=>exact U.elim
 | ok fl =>
  cases fl with
  | ret u=>exact Z.after U
  | next=>exact qg7 U
  | brk=>exact qg7 U
  | cont=>exact qg7 U
end
def SameX (F F':Hp):Prop:=∀ b o,F b=some o->(∀ ob φ,o≠.frz ob (.ext φ))->F' b=some o
section
variable {K:xA9} {F F':Hp}
theorem SameX.rd (e:SameX F F') (h:Rd F a u) (h1:∀ ob φ,u≠.frz ob (.ext φ)) (h2:∀ φ,u≠.ext φ):Rd F' a u:=by
 rcases h with h | ⟨o,h⟩
 . exact .inl (e _ _ h h1)
 . exact .inr ⟨o,e _ _ h fun ob φ z=>h2 φ (by cases z;rfl)⟩
mutual
theorem Rep.sameX (e:SameX F F'):∀ {d:Dt} {v:V},Rep K F d v->Rep K F' d v
 | .non,v,h=>h
 | .bl _,v,h=>h
 | .int _,v,h=>h
 | .str _,v,h=>h
 | .tup l,v,h=>by unfold Rep at h ⊢;obtain ⟨a,vs,h1,h2,h3⟩:=h;exact ⟨a,vs,h1,h2.imp (fun z=>e _ _ z fun _ _ z=>nomatch z) id,Reps.sameX e h3⟩
 | .lst l,v,h=>by unfold Rep at h ⊢;obtain ⟨a,vs,h1,h2,h3⟩:=h;exact ⟨a,vs,h1,h2.imp (fun z=>e.rd z (fun _ _ z=>nomatch z) fun _ z=>nomatch z) id,Reps.sameX e h3⟩
 | .dct ks l,v,h=>by unfold Rep at h ⊢;obtain ⟨a,vs,h1,h2,h3,h4⟩:=h;exact ⟨a,vs,h1,(e.rd h2 (fun _ _ z=>nomatch z) (fun _ z=>nomatch z)),h3,Reps.sameX e h4⟩
 | .dcT ks l,v,h=>by unfold Rep at h ⊢;obtain ⟨a,vs,h1,h2,h3,h4⟩:=h;exact ⟨a,vs,h1,(e.rd h2 (fun _ _ z=>nomatch z) (fun _ z=>nomatch z)),h3,Reps.sameX e h4⟩
 | .ins c ns l,v,h=>by unfold Rep at h ⊢;obtain ⟨a,C,dx,fs,h1,h2,h3,h4,h5⟩:=h;exact ⟨a,C,dx,fs,h1,h2,(e _ _ h3 (fun _ _ z=>nomatch z)),h4,Reps.sameX e h5⟩
theorem Reps.sameX (e:SameX F F'):∀ {l:List Dt} {vs:List V},Reps K F l vs->Reps K F' l vs
 | [],vs,h=>h
 | d::l,vs,h=>by unfold Reps at h ⊢;obtain ⟨v,ws,h1,h2,h3⟩:=h;exact ⟨v,ws,h1,Rep.sameX e h2,Reps.sameX e h3⟩
end
end
def deC (m:Nat) (ds caps:List Dt):De:=ds.map (fun d=>some (T.leaf d))++(qe6 (m-ds.length-caps.length) none++caps.map (fun d=>some (T.leaf d)))
def jw (m:Nat) (g:De->Option Out) (caps:List Dt):List Dt->Option T:=fun ds=>match g (deC m ds caps) with
 | some (.rt t)=>some t
 | some (.nx _)=>some (.leaf .non)
 | _=>none
theorem tq {F:Hp} {caps:List Dt} {fs:List V} (fh:Same F H) (r:Reps K F ds vs) (Z:Reps K F caps fs):En ⟨K,F,H,fun _=>False⟩ (deC N.length ds caps) (dl N vs fs) F H:=by
 have U:=r.length;have hc:=Z.length
 have q:∀ (i:Nat) (t:T),(deC N.length ds caps)[i]?=some (some t)->∃ d v,t=T.leaf d/\Rep K F d v/\(dl N vs fs)[i]?=some (some v):=fun i t h=>by
  unfold deC at h;unfold dl;rw [U,hc];by_cases hi:i<ds.length
  . rw [qb5 (by simpa using hi),qb1] at h;have O:ds[i]?=some ds[i]:=by simp [hi]
    rw [O] at h;cases h;obtain ⟨v,W,L⟩:=r.get O;refine ⟨_,v,rfl,L,?_⟩;rw [qb5 (by simp;lia),qb1,W];rfl
  . rw [qc4 (by simpa using hi),qa2] at h;rw [qc4 (by simp;lia),qa2,U];by_cases Y:i-ds.length<N.length-ds.length-caps.length
    . rw [qb5 (by simpa using Y),qi4] at h;split at h<;>cases h
    . rw [qc4 (by simpa using Y),ql1,qb1] at h;obtain ⟨d,O,e⟩:=mS h;cases e;obtain ⟨v,W,L⟩:=Z.get O;refine ⟨d,v,rfl,L,?_⟩;rw [qc4 (by simpa using Y),ql1,qb1,W];rfl
 refine ⟨fh,fun b o h _=>h,Same.refl _,fun b o h=>.inl h,?_,fun i t h=>?_,fun _ _=>False,fun i t v h=>?_,fun i b z=>z.elim,fun i j b z _=>z.elim⟩
 . unfold deC dl;simp [U,hc]
 . obtain ⟨d,v,_,_,e⟩:=q i t h;exact ⟨v,e⟩
 . obtain ⟨h1,h2⟩:=dn h;obtain ⟨d,v',rfl,L,e⟩:=q i t h1;rw [h2] at e;cases e;exact L
section
variable {P:qc5} {w:World} {K:xA9} {mg:Str->Option Value} {base:Heap} {N ps fr:List Str} {name qual:Str} {params:qj2} {body:List Stmt} {scope:Scope} {f c':Addr} {cl:List (Str×Addr)} {H:Hp} {fs:List V} {doc pm ctv:Value} {fo:Obj} {uf:HO} {k:Nat} {g:De->Option Out} {caps ds:List Dt} {F0:Hp} {t:T}
theorem ClAt.up (C:ClAt H f name qual params body scope cl fr fs c' doc pm ctv fo uf) (h:∀ b o u,H b=some (.frz o u)->H' b=some (.frz o u)):ClAt H' f name qual params body scope cl fr fs c' doc pm ctv fo uf:=⟨h _ _ _ C.fn,C.dat,let ⟨oc,z⟩:=C.cod;⟨oc,h _ _ _ z⟩,fun x c q=>let ⟨o,u,g,d⟩:=C.cel x c q;⟨o,u,h _ _ _ g,d⟩,C.inj,C.len,fun i x v h1 h2=>let ⟨c,o,u,e1,e2,e3⟩:=C.val i x v h1 h2;⟨c,o,u,e1,h _ _ _ e2,e3⟩,C.nms⟩
theorem rl (S:ClScope N ps fr scope) (ndn:∀ x,∀ y∈scope.names,y.1=x->scope.names.lookup x=some y.2) (C:ClAt H f name qual params body scope cl fr fs c' doc pm ctv fo uf) (rc:Reps K F0 caps fs)
  (hbd:∀ (s:qa4) (us:List Value),us.length=ps.length->za1 s (xF9 name qual params body scope cl .none .none doc pm none (.ref c') ctv) ⟨us,[]⟩ (ps.zip us))
  (hbody:∀ (A:qd7) (outer:List Env) (s:qa4) (H:Hp),Room k (A.deeper (gY qual scope s.heap.objs.size f (.ref c') cl))->DS (nE CX0 P w K mg base N qual scope f (.ref c') cl A outer s H E0 fun _ _=>False) body g)
  (hl:ds.length=ps.length) (ht:jw N.length g caps ds=some t) (A:qd7) (outer:List Env) (s:qa4) (H' F:Hp) (us:List Value) (vs:List V) (Q:VK) (hr:Room (k+1) A) (hp:∀ b o u,H b=some (.frz o u)->H' b=some (.frz o u)) (e0:Env0 P w K mg base A outer s H') (h0:Same F0 F) (fh:Same F H') (r:Vals vs us) (rd:Reps K F ds vs) (kq:KO K F H' t Q) :
  qs2 (model P w) A (.call (.ref f) ⟨us,[]⟩) (CR CX0 outer P w H' s Q E0) s:=by
 have C':=C.up hp;have hvl:vs.length=ps.length:=by rw [rd.length,hl]
 have cn:∀ b,b∈cl.map (·.2)->∃ o u,H' b=some (eS b o)/\o.data=.cell (some u):=fun b L=>by obtain ⟨x,hx⟩:=g5 L;exact C'.cel x b hx
 have hsx:SameX F (bY F cl):=fun b o e hn=>by
  rw [aQ fun z=>?_]
  . exact e
  . obtain ⟨ob,u,g,_⟩:=cn b z;have:=fh b o e;rw [g] at this;exact hn _ _ (qd5 this).symm
 have fh':Same (bY F cl) (bY H' cl):=fun b o e=>by obtain ⟨L,e⟩:=lg e;rw [aQ L];exact fh b o e
 have fin:∀ v Y H2,Rt ⟨K,bY F cl,bY H' cl,fun _=>False⟩ t v Y H2->(∀ b∈cl.map (·.2),H2 b=none)->Q v (dM H' cl H2):=fun v Y H2 R hn=>by
  obtain ⟨fh2,prot,old,nw,So,o,hs⟩:=R;have sin:∀ {b:Addr},b∈cl.map (·.2)->dM H' cl H2 b=H' b:=fun L=>if_pos L
  have U:∀ {b:Addr},b∉cl.map (·.2)->dM H' cl H2 b=H2 b:=fun L=>if_neg L
  let F3:Hp:=dM F cl Y;have Z:∀ {b:Addr},b∈cl.map (·.2)->F3 b=F b:=fun L=>if_pos L
  have O:∀ {b:Addr},b∉cl.map (·.2)->F3 b=Y b:=fun L=>if_neg L
  have nF2:∀ b,b∈cl.map (·.2)->Y b=none:=fun b L=>by
   cases z:Y b with
   | none=>rfl
   | some u=>have:=fh2 b u z;rw [hn b L] at this;cases this
  have h23:Same Y F3:=fun b u e=>by
   by_cases L:b∈cl.map (·.2)
   . rw [nF2 b L] at e;cases e
   . rw [O L];exact e
  have hh23:Same H2 (dM H' cl H2):=fun b u e=>by
   by_cases L:b∈cl.map (·.2)
   . rw [hn b L] at e;cases e
   . rw [U L];exact e
  refine kq v (dM H' cl H2) F3 So ⟨fun b u e=>?_,fun b u e=>?_,fun b u e=>?_,fun b u e=>?_⟩ (Own.step h23 (fun b u _ e=>hh23 b u e) o) fun b z=>?_
  . by_cases L:b∈cl.map (·.2)
    . rw [sin L];exact e
    . rw [U L];exact prot b u ((aQ L).trans e) id
  . by_cases L:b∈cl.map (·.2)
    . rw [Z L];exact e
    . rw [O L];exact old b u ((aQ L).trans e)
  . by_cases L:b∈cl.map (·.2)
    . rw [Z L] at e;rw [sin L];exact fh b u e
    . rw [O L] at e;rw [U L];exact fh2 b u e
  . by_cases L:b∈cl.map (·.2)
    . rw [Z L] at e;exact .inl e
    . rw [O L] at e;rcases nw b u e with y | y
      . exact .inl ((aQ L).symm.trans y)
      . exact .inr ((aQ L).symm.trans (y.elim id qg7))
  . obtain ⟨h1,⟨u,h2⟩,h3⟩:=hs b z;have L:b∉cl.map (·.2):=fun y=>by rw [hn b y] at h2;cases h2
    exact ⟨by rw [O L];exact h1,(aQ L).symm.trans (h3.elim id qg7),u,by rw [U L];exact h2⟩
 have hul:us.length=ps.length:=by rw [<- r.length];exact hvl
 refine uE (CX:=CX0) (E:=E0) S C' ndn hr e0 (hbd s us hul) hvl r fun hr2=>⟨_,hbody A outer s (bY H' cl) hr2,?_⟩
 have en:=tq (N:=N) fh' (rd.sameX hsx) ((rc.same h0).sameX hsx);unfold jw at ht;split at ht
 . rename_i t' q;cases ht;exact ⟨_,_,_,_,rfl,en,q,fun v Y H2 R=>fin v Y H2 R⟩
 . rename_i δ' q;cases ht;exact ⟨_,_,_,_,rfl,en,q,fun σ' Y H2 z=>fin .non Y H2 (z.rt (Step.refl z.fh) (t:=.leaf .non) (S:=fun _=>False) (fR (K:=K) (F:=Y)) fun _ y=>y.elim)⟩
 . cases ht
end
end L2
namespace L2
open PySem PySem.Spec PyProof.Rows
structure MadeH (H H':Hp) (f c':Addr) (qual:Str) (fo:Obj):Prop where
 fn:H' f=some (.frz fo (.ext fun h=>h.get? f=some fo))
 cod:∃ oc,H' c'=some (.frz oc (.code qual))
 old:Same H H'
 free:H f=none
noncomputable def tDef (P:Addr) (qs:List ((Nat×Nat)×Str)) (i:Nat) (name qual:Str) (params:qj2) (body:List Stmt) (scope:Scope) (clos:List (Str×Addr)):TS:=fun D σ H=>H P=some (.ctab qs)/\∀ (f c':Addr) (doc pm ctv:Value) (H':Hp),MadeH H H' f c' qual {cls:=.type "function",data:=.func (xF9 name qual params body scope clos .none .none doc pm none (.ref c') ctv)}->D.nx (σ.set i (some (.ref f))) H'
section
variable {X:Cx} {c P:Addr} {qs:List ((Nat×Nat)×Str)} {name qual:Str} {params:qj2} {body:List Stmt} {scope:Scope} {clos:List (Str×Addr)} {pos:Pos} {i:Nat}
theorem Bt (hN:X.N.Nodup) (hi:X.N[i]?=some name) (hx:Loc X.env.scope name) (Y:X.fn name=true∨X.env.scope.names.lookup name=some .local) (B:TabB X.mg X.base c P) (L:X.env.code=.ref c) (U:qualnameIn X.env name name=qual) (hq:((pos.line,pos.col),qual)∈qs) (hun:∀ q,((pos.line,pos.col),q)∈qs->q=qual) (O:ze3 scope X.env=pure clos)
  (hd0:params.defaults=[]) (Z:params.kw_defaults=[]) (ha:annTrees params none X.env=[]):PS X (.FunctionDef name params body [] none [] scope none name pos) (tDef P qs i name qual params body scope clos):=by
 intro pins s σ H D I h;obtain ⟨hP,q⟩:=h;refine PySem.W.nestDef_K hd0 Z ha ?_;rw [U];refine xz I B L hP hq hun O fun f c' doc pm ctv H' s' M I'=>?_
 exact gK I' hN hi hx (v:=.ref f) rfl (fun s2 I2=>⟨_,H',I2,q f c' doc pm ctv H' ⟨M.fn,M.cod,fun b o e=>M.old b o e,I.hok.fresh M.lof⟩⟩) Y
end
def aP (X:Cx) (b:Addr):Prop:=∃ x,X.env.cells.lookup x=some b
open Classical in
def jk (X:Cx) (H:Hp):Hp:=fun b=>if aP X b then none else H b
structure PlusC (X:Cx) (σ:St) (H H':Hp):Prop where
 out:∀ b,¬ aP X b->H' b=H b
 fre:∀ b,aP X b->H b=none
 cel:∀ x c,X.env.cells.lookup x=some c->∃ o v,H' c=some (eS c o)/\o.data=.cell v/\∀ (i:Nat) (val:V),X.N[i]?=some x->σ[i]?=some (some val)->(X.env.kindOf x=some .cell∨X.env.kindOf x=some .free)->∃ u,v=some u/\RelV val u
variable {b:Addr} {H':Hp} {Q:VK}
section
variable {X:Cx} {pins:List (Addr×Obj)} {σ:St} {H:Hp} {s:qa4}
theorem oB (h:aP X b):jk X H b=none:=if_pos h
theorem bH (h:¬ aP X b):jk X H b=H b:=if_neg h
open Classical in
theorem yg (I:Inv X pins σ H s) (L:∀ b,aP X b->b∉frs X.stack/\∀ o,X.base.get? b≠some o):∃ H',PlusC X σ H H'/\Env0 X.prog X.w X.K X.mg X.base X.A X.stack s H':=by
 let H':Hp:=fun b=>if aP X b then (s.heap.get? b).map (eS b) else H b
 have U:∀ {b:Addr},aP X b->H' b=(s.heap.get? b).map (eS b):=fun h=>if_pos h
 have q:∀ {b:Addr},¬ aP X b->H' b=H b:=fun h=>if_neg h
 have e0:=I.env0;refine ⟨H',⟨fun b h=>q h,fun b ⟨x,W⟩=>I.freeC x b W,fun x c e=>?_⟩,⟨e0.frames,e0.mod,fun b o e=>⟨(e0.bs b o e).1,?_⟩,e0.bsz,e0.funs,fun b Y=>?_,fun b u e=>?_,e0.bare,fun p hp=>by rw [q fun ⟨x,W⟩=>by have:=I.freeC x _ W;rw [e0.tb p hp] at this;cases this];exact e0.tb p hp⟩⟩
 . obtain ⟨v,o,O,hd⟩:=I.cell x c e;refine ⟨o,v,by rw [U ⟨x,e⟩,O];rfl,hd,fun i val h1 h2 h3=>?_⟩;obtain ⟨m,_,hl⟩:=I.loc;have hv:Vis X.env.scope x:=h3.elim (fun z=>.inr (.inl z)) fun z=>.inr (.inr z)
   obtain ⟨u,ru,lk⟩:=hl i x val h1 h2 hv;rcases lk with ⟨k1,_⟩ | ⟨_,c2,k2,o2,Z,k4⟩
   . rcases h3 with z | z<;>(rw [k1] at z;cases z)
   . rw [e] at k2;cases k2;rw [O] at Z;cases Z;rw [hd] at k4;cases k4;exact ⟨u,rfl,ru⟩
 . have:¬ aP X b:=fun z=>(L b z).2 o e
   rw [q this];exact (e0.bs b o e).2
 . have:¬ aP X b:=fun z=>(L b z).1 Y
   rw [q this];exact e0.frf b Y
 . have up:∀ c u,H c=some u->H' c=some u:=fun c u z=>by
    rw [q]
    . exact z
    . rintro ⟨x,W⟩;rw [I.freeC x c W] at z;cases z
   by_cases Y:aP X b
   . rw [U Y] at e;obtain ⟨o,O,rfl⟩:=mS e;exact ⟨O,O,⟨o,O⟩,fun h1 h2 z1 z2=>z2 o z1⟩
   . rw [q Y] at e;exact (I.hok b u e).stay (fun _ _ _ z=>z) (fun c z=>up c _ z) (fun c xs z=>up c _ z) fun c ob xs z=>up c _ z
theorem Inv.afterP {u:Value} {s':qa4} (I:Inv X pins σ H s) (Y:PlusC X σ H H') (ok':HOk X.prog X.w H' s.heap) (h:CE X.stack X.prog X.w H' s (fun v H2=>(∀ c,aP X c->H2 c=H' c)->Q v (jk X H2)) u s'):EP X pins σ Q u s':=by
 obtain ⟨v,H2,os,Z,un,hok,r,q⟩:=h;obtain ⟨hh,g,d,t,os'⟩:=s';obtain rfl:os'=s.os:=os
 have O:∀ {b:Addr},aP X b->∃ o,H' b=some (eS b o)/\s.heap.get? b=some o/\H2 b=some (eS b o)/\hh.get? b=some o:=fun {b} hb=>by obtain ⟨x,U⟩:=hb;obtain ⟨o,v,e,_⟩:=Y.cel x b U;have e2:=un.frzs b o _ e;exact ⟨o,e,(ok' b _ e).1,e2,(hok b _ e2).1⟩
 have W:∀ {b:Addr} {w:HO},H b=some w->¬ aP X b:=fun {b w} z ⟨x,U⟩=>by rw [I.freeC x b U] at z;cases z
 refine ⟨v,jk X H2,I.call (h':=hh) (g':=g) (d':=d) (t':=t) (ch:=[]) ⟨fun b o e n hb U=>?_,fun b o e n hb U=>?_,fun b o e n U=>?_,un.there,fun b xs e=>?_,fun b o w e=>?_,fun b ps e=>?_,fun b qs e=>?_⟩ (fun b w e=>?_) Z (fun b z=>absurd z (by simp)),r,q fun c L=>?_⟩
 . by_cases L:aP X b
   . obtain ⟨o',_,h1,_,h2⟩:=O L;rw [e] at h1;cases h1;exact h2
   . exact un.keep b o e (by rw [Y.out b L];exact n) hb U
 . by_cases L:aP X b
   . obtain ⟨o',_,h1,_,h2⟩:=O L;rw [e] at h1;cases h1;exact ⟨o.slots,h2⟩
   . exact un.slot b o e (by rw [Y.out b L];exact n) hb U
 . by_cases L:aP X b
   . exact oB L
   . rw [bH L];exact un.free b o e (by rw [Y.out b L];exact n) U
 . rw [bH (W e)];exact un.tups b xs (by rw [Y.out b (W e)];exact e)
 . rw [bH (W e)];exact un.frzs b o w (by rw [Y.out b (W e)];exact e)
 . rw [bH (W e)];exact un.tbls b ps (by rw [Y.out b (W e)];exact e)
 . rw [bH (W e)];exact un.cts b qs (by rw [Y.out b (W e)];exact e)
 . by_cases L:aP X b
   . rw [oB L] at e;cases e
   . rw [bH L] at e
     have up:∀ c u,H2 c=some u->(∀ ob φ,u≠.frz ob (.ext φ))->jk X H2 c=some u:=fun c u z hn=>by
      rw [bH]
      . exact z
      . intro hcc;obtain ⟨o',_,_,h1,_⟩:=O hcc;rw [z] at h1;exact hn _ _ (qd5 h1)
     exact (hok b w e).stay (fun _ _ _ z=>z) (fun c z=>up c _ z fun _ _ y=>nomatch y) (fun c xs z=>up c _ z fun _ _ y=>nomatch y) fun c ob xs z=>up c _ z fun _ _ y=>nomatch y
 . obtain ⟨o',h1,_,h2,_⟩:=O L;rw [h1,h2]
end
variable {σ:St} {H:Hp}
section
variable {X:Cx} {x:Str} {p pos:Pos} {e:Expr} {es:List Expr} {t:TA} {f:Addr} {fd:qo9} {ps:List Str} {sp:Sp} {k:Nat}
def Bu (X:Cx) (sp:Sp) (t:TA):TE:=fun σ H Q=>t σ H fun vs H1=>∀ H',PlusC X σ H1 H'->sp vs H' (fun v H2=>(∀ c,aP X c->H2 c=H' c)->Q v (jk X H2)) E0
theorem vM {pins:List (Addr×Obj)} {s:qa4} (I:Inv X pins σ H s) (L:∀ x,X.fn x=true):∀ b,aP X b->b∉frs X.stack/\∀ o,X.base.get? b≠some o:=fun b ⟨x,O⟩=>by
 have q:=I.ok.cab x b (L x) O;refine ⟨fun z=>?_,fun o e=>?_⟩
 . rcases qb2.mp (I.stkSub b z) with y | y
   . exact I.cne x b O y
   . obtain ⟨_,o,U,_⟩:=I.ok.funs.mem y;exact absurd (qa8 U) (qi9.mpr q)
 . exact absurd (qb4 (qa8 e) I.ok.bsz) (qi9.mpr q)
theorem vN (F:FnOk X.prog X.w X.K X.mg X.base CX0 k f fd ps sp) (hr:Room k X.A) (hg:Gl X x) (hm:X.mg x=some (.ref f)) (hk:xE9 X.K (.ref f)=true) (hb:Binds X.K fd ps []) (Z:∀ x,X.fn x=true)
  (ha:PA X (e::es) t) (Y:(x==("__debug__":Str))=false:=by decide) (he:qa6 (e::es) X.env=(false,eval e X.env)::qa6 es X.env:=by rfl) (U:(qj4 pos (qa6 es X.env)).any (·.1)=false:=by rfl) :
  PE X (.Call (.Name x p) (e::es) [] pos) (Bu X sp t):=by
 intro pins s σ H Q I h;refine qn6 (l9 I hg hm ?_ Y);refine PySem.W.callWith_K (h₀:=X.base) I.ok.mod.kin hk (thn (ha pos pins s σ H _ I h) fun us s1 ⟨vs,H1,L,r,q⟩=>⟨L.kIn,?_⟩) he U;obtain ⟨H',pc,e0⟩:=yg L (vM L Z);have hs:=q H' pc;have hl:(us++[]).length=ps.length:=by rw [qe8,<- r.length];exact F.len _ _ _ _ hs
 refine zg5 (qq4 (F.run X.A X.stack s1 H' ⟨us,[]⟩ (us++[]) vs _ E0 hr e0 (hb s1 us L.kIn hl) (by rw [qe8];exact r) hs) fun r s' O=>?_);cases r with
 | error e=>exact O.elim
 | ok fl =>
  cases fl with
  | ret u=>exact L.afterP pc e0.hok O
  | next=>exact qg7 O
  | brk=>exact qg7 O
  | cont=>exact qg7 O
end
def spR (P:qc5) (w:World) (K:xA9) (mg:Str->Option Value) (base:Heap) (kk n:Nat) (F:Orc->Fd):Sp:=fun vs H Q E=>∃ G,vK P w K mg base kk H G/\spG K n (F G) vs H Q E
variable {x:Str} {st:Stmt} {N ps:List Str} {kk n:Nat}
section
variable {P:qc5} {w:World} {K:xA9} {mg:Str->Option Value} {base:Heap}
theorem yh {k:Nat} {g:Orc->Fs} (D:DefF K mg x st ps) (S:FnScope N ps (ac st)) (hn:ps.length=n)
 (L:∀ (f:Addr) (cdv:Value) (A:qd7) (outer:List Env) (s:qa4) (H:Hp) (E:XK),Room k (A.deeper (qv4 x (ac st) s.heap.objs.size f cdv))->∀ G:Orc,vK P w K mg base kk H G->GS (iP CX0 P w K mg base N x (ac st) f cdv A outer s H E).nox (az st) (g G)) :
  OkF P w K mg base x (k+1) ps (spR P w K mg base kk n fun G=>e6 N.length (g G)):=by
 obtain ⟨f,fd,h1,h2,h3,Z⟩:=D.ex;refine ⟨f,fd,h1,h2,h3,Z.ok S (fun vs H Q E h=>?_) (fun cdv A outer s H vs Q E hr h=>?_)⟩
 . obtain ⟨G,_,F,ρ,cs,ch,c,ch',_,U,r,_⟩:=h;rw [r.length,U,hn]
 . obtain ⟨G,Y,F,ρ,cs,ch,c,ch',W,U,r,O,kq⟩:=h;refine ⟨_,L f cdv A outer s H E hr G Y,?_⟩;unfold e6 at O;dsimp only at O;split at O
   . rename_i c1 ch1 q;cases O;exact ⟨_,ch,F,ρ,_,dZ W r,q,fun v F' H' ρ' a z=>kq v F' H' ρ' a z⟩
   . rename_i δ1 ch1 q;cases O;exact ⟨_,ch,F,ρ,_,dZ W r,q,fun σ' F' H' ρ' a z=>kq .non F' H' ρ' a (fR (K:=K) (F:=F'))⟩
   . cases O
end
open Classical in
def tu (f1 f2:Addr) (F1:Hp) (g1 g2:List Dt->Option T):Orc:=fun a F0 ds=>if a=f1/\F0=F1/\ds.length=1 then g1 ds else if a=f2/\F0=F1/\ds.length=1 then g2 ds else none
variable {f1 f2:Addr} {F1:Hp} {g1 g2:List Dt->Option T}
theorem Bv {d:Dt}:tu f1 f2 F1 g1 g2 f1 F1 [d]=g1 [d]:=if_pos ⟨rfl,rfl,rfl⟩
theorem Bw {d:Dt} (h:f1≠f2):tu f1 f2 F1 g1 g2 f2 F1 [d]=g2 [d]:=(if_neg fun z=>h z.1.symm).trans (if_pos ⟨rfl,rfl,rfl⟩)
noncomputable def FnIn (H:Hp) (f:Addr) (name qual:Str) (params:qj2) (body:List Stmt) (scope:Scope) (cl:List (Str×Addr)):Prop:=∃ fo uf c' doc pm ctv,H f=some (.frz fo uf)/\fo.data=.func (xF9 name qual params body scope cl .none .none doc pm none (.ref c') ctv)/\∃ oc,H c'=some (.frz oc (.code qual))
variable {f:Addr} {qual:Str} {params:qj2} {body:List Stmt} {scope:Scope}
theorem FnIn.up {name:Str} {cl:List (Str×Addr)} (h:FnIn H f name qual params body scope cl) (s:∀ b o u,H b=some (.frz o u)->H' b=some (.frz o u)):FnIn H' f name qual params body scope cl:=by obtain ⟨fo,uf,c',doc,pm,ctv,h1,h2,oc,h3⟩:=h;exact ⟨fo,uf,c',doc,pm,ctv,s _ _ _ h1,h2,oc,s _ _ _ h3⟩
def dq (δ:Sl):List Nat->Option (List Dt)
 | []=>some []
 | j::js=>match δ[j]? with
  | some (some (.dat d))=>(dq δ js).map (d::·)
  | _=>none
structure NestD (X:Cx) (name qual:Str) (params:qj2) (body:List Stmt) (scope:Scope) (N ps fr:List Str) (js:List Nat) (g:De->Option Out) (kk:Nat):Prop where
 S:ClScope N ps fr scope
 ndn:∀ x,∀ y∈scope.names,y.1=x->scope.names.lookup x=some y.2
 one:ps.length=1
 fre:∀ x∈scope.names,x.2=.free->X.env.kindOf x.1=some .cell
 jl:js.length=fr.length
 nm:∀ (i j:Nat) (x:Str),fr[i]?=some x->js[i]?=some j->X.N[j]?=some x/\X.env.kindOf x=some .cell
 bd:∀ (s:qa4) (cl:List (Str×Addr)) (doc pm ctv cd:Value) (us:List Value),us.length=ps.length->za1 s (xF9 name qual params body scope cl .none .none doc pm none cd ctv) ⟨us,[]⟩ (ps.zip us)
 body:∀ (f c':Addr) (cl:List (Str×Addr)) (A:qd7) (outer:List Env) (s:qa4) (H:Hp),Room kk (A.deeper (gY qual scope s.heap.objs.size f (.ref c') cl))->DS (nE CX0 X.prog X.w X.K X.mg X.base N qual scope f (.ref c') cl A outer s H E0 fun _ _=>False) body g
variable {names:List (Str×qn7)} {cells:List (Str×Addr)} {c:Addr} {K:xA9} {δ:Sl} {ch:CH} {ρ:Nat->Addr} {js:List Nat}
section
variable {X:Cx}
theorem ki (h:(x,c)∈dD names cells):(x,qe2)∈names/\c=(cells.lookup x).getD 0:=by
 have q:∀ (names:List (Str×qn7)) (acc:List (Str×Addr)),(x,c)∈names.foldl (fun cs L=>if L.2==qe2 then (L.1,(cells.lookup L.1).getD 0)::cs else cs) acc->(x,c)∈acc∨((x,qe2)∈names/\c=(cells.lookup x).getD 0):=fun names=>by
  induction names with
  | nil=>intro acc h;exact .inl h
  | cons y r O =>
   intro acc h;rw [qi6] at h;rcases O _ h with z | z
   . split at z
     . rename_i hk;rcases qb2.mp z with e | z
       . obtain ⟨a,k⟩:=y;cases e;have hk:k=qe2:=by simpa using hk
         subst hk;exact .inr ⟨.head _,rfl⟩
       . exact .inl z
     . exact .inl z
   . exact .inr ⟨.tail _ z.1,z.2⟩
 rcases q names [] h with z | z
 . cases z
 . exact z
theorem tw (h:(x,qe2)∈names):∃ c,(dD names cells).lookup x=some c:=by
 have q:∀ (names:List (Str×qn7)) (acc:List (Str×Addr)),((x,qe2)∈names∨∃ c,acc.lookup x=some c)->∃ c,(names.foldl (fun cs L=>if L.2==qe2 then (L.1,(cells.lookup L.1).getD 0)::cs else cs) acc).lookup x=some c:=fun names=>by
  induction names with
  | nil =>
   intro acc h;rcases h with h | h
   . cases h
   . exact h
  | cons y r O =>
   intro acc h;rw [qi6];refine O _ ?_;rcases h with h | ⟨c,h⟩
   . rcases qb2.mp h with e | h
     . subst e;right;simp
     . exact .inl h
   . right;split
     . rw [qg5];cases x==y.1 with
       | true=>exact ⟨_,rfl⟩
       | false=>exact ⟨c,h⟩
     . exact ⟨c,h⟩
 exact q names [] (.inl h)
theorem kj {F:Hp} (en:Ge K δ ch σ F H ρ):∀ {js:List Nat} {caps:List Dt},dq δ js=some caps->∃ fs:List V,Reps K F caps fs/\fs.length=js.length/\∀ (i j:Nat) (v:V),js[i]?=some j->fs[i]?=some v->σ[j]?=some (some v)
 | [],caps,h=>by cases h;exact ⟨[],by simp only [Reps],rfl,fun i j v h=>by simp at h⟩
 | j::js,caps,h=>by
  simp only [dq] at h;split at h<;>first | (cases h;done) | skip
  rename_i d U;obtain ⟨cs,q,rfl⟩:=mS h;obtain ⟨v,L,Y⟩:=en.has j _ U;obtain ⟨fs,h1,h2,h3⟩:=kj en q;refine ⟨v::fs,by simp only [Reps];exact ⟨v,fs,rfl,Y,h1⟩,by simp [h2],fun i O W q1 q2=>?_⟩;cases i with
  | zero =>simp at q1 q2;subst q1 q2;exact L
  | succ i=>exact h3 i O W (by simpa using q1) (by simpa using q2)
theorem NestD.at {name:Str} {fr:List Str} {g:De->Option Out} (D:NestD X name qual params body scope N ps fr js g kk) (W:∀ x y c,X.env.cells.lookup x=some c->X.env.cells.lookup y=some c->x=y) (O:∀ x,X.env.kindOf x=some .cell->∃ c,X.env.cells.lookup x=some c)
 (pc:PlusC X σ H H') (fi:FnIn H' f name qual params body scope (dD scope.names X.env.cells)) {fs:List V} (hl:fs.length=js.length) (hv:∀ (i j:Nat) (v:V),js[i]?=some j->fs[i]?=some v->σ[j]?=some (some v)) (U:∀ x∈scope.names,x.2=.free->x.1∈fr) :
  ∃ c' doc pm ctv fo uf,ClAt H' f name qual params body scope (dD scope.names X.env.cells) fr fs c' doc pm ctv fo uf:=by
 obtain ⟨fo,uf,c',doc,pm,ctv,h1,h2,h3⟩:=fi;have cells:∀ x,(x,qe2)∈scope.names->∃ c,X.env.cells.lookup x=some c:=fun x hx=>O x (D.fre (x,.free) hx rfl)
 have look:∀ x c,(x,c)∈dD scope.names X.env.cells->X.env.cells.lookup x=some c:=fun x c h=>by obtain ⟨a,b⟩:=ki h;obtain ⟨c2,e⟩:=cells x a;rw [e] at b;rw [e,b];rfl
 have Y:∀ x c,(x,c)∈dD scope.names X.env.cells->∃ (i:Nat) (o:Obj) (v:V) (u:Value),fr[i]?=some x/\fs[i]?=some v/\H' c=some (eS c o)/\o.data=.cell (some u)/\RelV v u:=fun x c h=>by obtain ⟨a,_⟩:=ki h;obtain ⟨i,hi⟩:=qp5 (U _ a rfl);have hif:i<fr.length:=(gX hi).1;have hjl:=D.jl;have q:js[i]?=some js[i]:=gQ (by lia);have Z:fs[i]?=some fs[i]:=gQ (by lia);obtain ⟨n1,n2⟩:=D.nm i _ x hi q;obtain ⟨o,v,g1,g2,g3⟩:=pc.cel x c (look x c h);obtain ⟨u,rfl,ru⟩:=g3 _ _ n1 (hv i _ _ q Z) (.inl n2);exact ⟨i,o,_,u,hi,Z,g1,g2,ru⟩
 refine ⟨c',doc,pm,ctv,fo,uf,⟨h1,h2,h3,fun x c h=>?_,fun x y c L e2=>?_,?_,fun i x v L e2=>?_,fun x c e=>?_⟩⟩
 . obtain ⟨_,o,_,u,_,_,g1,g2,_⟩:=Y x c h;exact ⟨o,u,g1,g2⟩
 . exact W x y c (look x c (PySem.mem_of_lookup L)) (look y c (PySem.mem_of_lookup e2))
 . rw [hl,D.jl]
 . have hx:=D.S.frk x (qf5 L);obtain ⟨c,e⟩:=tw (cells:=X.env.cells) (PySem.mem_of_lookup hx);have hif:i<fr.length:=(gX L).1;have hjl:=D.jl;have q:js[i]?=some js[i]:=gQ (by lia);obtain ⟨n1,n2⟩:=D.nm i _ x L q;obtain ⟨o,w,g1,g2,g3⟩:=pc.cel x c (look x c (PySem.mem_of_lookup e));obtain ⟨u,rfl,ru⟩:=g3 _ _ n1 (hv i _ _ q e2) (.inl n2);exact ⟨c,o,u,e,g1,g2,ru⟩
 . obtain ⟨a,_⟩:=ki (PySem.mem_of_lookup e);exact D.ndn x _ a rfl
end
section
variable {X:Cx} {K:xA9}
theorem Adv.hide {F H1:Hp} {ρ1:Nat->Addr} {ch1:CH} {L:Hp} (g:Gh K F H ρ ch) (W:PlusC X σ H L) (a:Adv K F L ρ ch F1 H1 ρ1 ch1) (hc:∀ c,aP X c->H1 c=L c):Adv K F H ρ ch F1 (jk X H1) ρ1 ch1:=by
 have q:=W.fre
 have U:∀ {b:Addr},aP X b->∃ o,L b=some (eS b o):=fun {b} ⟨x,hx⟩=>by obtain ⟨o,v,e,_⟩:=W.cel x b hx;exact ⟨o,e⟩
 have Z:∀ {b:Addr} {o:HO},F1 b=some o->¬ aP X b:=fun {b o} e Y=>by
  obtain ⟨ob,g1⟩:=U Y;have g2:=a.gh.fh b o e;rw [hc b Y,g1] at g2;rcases a.nw b o e with z | z | ⟨xs,z⟩
  . have:=g.fh b o z;rw [q b Y] at this;cases this
  . rw [g1] at z;cases z
  . rw [z] at g2;cases g2
 have nP:∀ (i:Nat) (o:CO),ch1[i]?=some o->¬ aP X (ρ1 i):=fun i o e Y=>by
  obtain ⟨ob,g1⟩:=U Y;have g2:=hc _ Y;rw [g1] at g2;have ok:=a.gh.ok i o e;cases o with
  | lst l=>obtain ⟨vs,h1,_⟩:=ok;rw [h1] at g2;cases g2
  | tup l=>obtain ⟨vs,h1,_⟩:=ok;rw [h1] at g2;cases g2
  | dK l=>obtain ⟨vs,h1,_⟩:=ok;rw [h1] at g2;cases g2
  | ins c ns l=>obtain ⟨C,dx,fs,h0,h1,_⟩:=ok;rw [h1] at g2;cases g2
  | wk l=>obtain ⟨o,vs,h1,_⟩:=ok;rw [h1] at g2;cases g2
  | dT l=>obtain ⟨vs,h1,_⟩:=ok;rw [h1] at g2;cases g2
  | wt l=>obtain ⟨o,vs,h1,_⟩:=ok;rw [h1] at g2;cases g2
 refine ⟨⟨fun b o e=>?_,a.gh.inj,a.gh.out,fun i o e=>?_⟩,a.len,a.ext,fun i h1 h2=>?_,fun b o e h=>?_,a.old,fun b o e=>?_,fun b o u e=>?_⟩
 . rw [bH (Z e)];exact a.gh.fh b o e
 . have O:=nP i o e;exact (a.gh.ok i o e).mono (Same.refl _) (fun _ _=>rfl) (nL _) fun u hu=>by rw [bH O];exact hu
 . have:=a.fr i h1 h2
   have O:¬ aP X (ρ1 i):=fun z=>by obtain ⟨ob,g1⟩:=U z;rw [this] at g1;cases g1
   rw [<- W.out _ O];exact this
 . have O:¬ aP X b:=fun z=>by rw [q b z] at e;cases e
   rw [bH O];exact a.prot b o (by rw [W.out b O];exact e) h
 . rcases a.nw b o e with z | z | z
   . exact .inl z
   . exact .inr (.inl (by rw [<- W.out b (Z e)];exact z))
   . exact .inr (.inr z)
 . have O:¬ aP X b:=fun z=>by rw [q b z] at e;cases e
   rw [bH O];exact a.fz b o u (by rw [W.out b O];exact e)
end
section
variable {X:Cx} {e0:Expr} {p p1 p2 pos:Pos} {x n1 n2 q1 q2:Str} {par1 par2:qj2} {bod1 bod2:List Stmt} {sc1 sc2:Scope} {N1 ps1 fr1 N2 ps2 fr2:List Str} {js1 js2:List Nat} {g1 g2:De->Option Out} {k kk i1 i2:Nat} {ps:List Str} {FR:Orc->Fd} {f0:Fg}
noncomputable def tRt (X:Cx) (i1 i2:Nat) (n1 n2 q1 q2:Str) (par1 par2:qj2) (bod1 bod2:List Stmt) (sc1 sc2:Scope) (N1 N2:List Str) (js1 js2:List Nat) (g1 g2:De->Option Out) (f0:Fg) (FR:Orc->Fd):TE:=fun σ H Q =>∃ δ ch F ρ f1 f2 O ch0 q L c ch',Ge X.K δ ch σ F H ρ/\σ[i1]?=some (some (.ref f1))/\σ[i2]?=some (some (.ref f2))/\f1≠f2/\FnIn H f1 n1 q1 par1 bod1 sc1 (dD sc1.names X.env.cells)/\FnIn H f2 n2 q2 par2 bod2 sc2 (dD sc2.names X.env.cells)∧f0 δ ch=some (O,ch0)/\dq δ js1=some q/\dq δ js2=some L/\(∀ F0,FR (tu f1 f2 F0 (jw N1.length g1 q) (jw N2.length g2 L)) [O,.fn f1 F0,.fn f2 F0] ch0=some (c,ch'))/\KG X.K F H ρ ch c ch' Q
theorem DE (F:OkF X.prog X.w X.K X.mg X.base x k ps (spR X.prog X.w X.K X.mg X.base (kk+1) 3 FR)) (hr:Room k X.A) (hg:Gl X x) (hfn:∀ x,X.fn x=true) (h0:GE X e0 f0) (hv1:PE X (.Name n1 p1) (iK i1)) (hv2:PE X (.Name n2 p2) (iK i2))
  (D1:NestD X n1 q1 par1 bod1 sc1 N1 ps1 fr1 js1 g1 kk) (D2:NestD X n2 q2 par2 bod2 sc2 N2 ps2 fr2 js2 g2 kk) (ha1:∀ x∈sc1.names,x.2=.free->x.1∈fr1) (ha2:∀ x∈sc2.names,x.2=.free->x.1∈fr2) (hdb:(x==("__debug__":Str))=false:=by decide)
  (s0:qa6 [e0,.Name n1 p1,.Name n2 p2] X.env=(false,eval e0 X.env)::qa6 [.Name n1 p1,.Name n2 p2] X.env:=by rfl) (s1:qa6 [.Name n1 p1,.Name n2 p2] X.env=(false,eval (.Name n1 p1) X.env)::qa6 [.Name n2 p2] X.env:=by rfl) (s2:qa6 [.Name n2 p2] X.env=(false,eval (.Name n2 p2) X.env)::qa6 [] X.env:=by rfl)
  (hpl:(qj4 pos (qa6 [.Name n1 p1,.Name n2 p2] X.env)).any (·.1)=false:=by rfl) :
  PE X (.Call (.Name x p) [e0,.Name n1 p1,.Name n2 p2] [] pos) (tRt X i1 i2 n1 n2 q1 q2 par1 par2 bod1 bod2 sc1 sc2 N1 N2 js1 js2 g1 g2 f0 FR):=by
 obtain ⟨f,fd,hm,hk,hb,FF⟩:=F.ex;intro pins s σ H Q I h;refine (vN FF hr hg hm hk hb hfn (bU h0 (bU hv1 (bU hv2 dB s2) s1) s0) hdb s0 hpl) pins s σ H Q I ?_;obtain ⟨δ,ch,F,ρ,f1,f2,c0,ch0,Z,W,c,ch',en,v1,v2,hne,fi1,fi2,hf0,hc1,hc2,hrun,kq⟩:=h;refine ⟨δ,ch,F,ρ,c0,ch0,en,hf0,fun v F1 H1 ρ1 q r1=>⟨.ref f1,v1,.ref f2,v2,fun H' pc=>?_⟩⟩;have en1:=en.adv q
 have Y:∀ b o,H1 b=some o->H' b=some o:=fun b o z=>by rw [pc.out b fun y=>by rw [pc.fre b y] at z;cases z];exact z
 have up:∀ b o u,H b=some (.frz o u)->H' b=some (.frz o u):=fun b o u z=>Y _ _ (q.fz b o u z)
 obtain ⟨fs1,rc1,hl1,hs1⟩:=kj en hc1;obtain ⟨fs2,rc2,hl2,hs2⟩:=kj en hc2;have L:∀ x,X.env.kindOf x=some .cell->∃ c,X.env.cells.lookup x=some c:=fun x hx=>I.ok.has x (.inl hx)
 have fj1:=fi1.up up;have fj2:=fi2.up up;obtain ⟨c1',doc1,pm1,ctv1,fo1,uf1,C1⟩:=D1.at I.ok.inj L pc fj1 hl1 hs1 ha1
 obtain ⟨c2',doc2,pm2,ctv2,fo2,uf2,C2⟩:=D2.at I.ok.inj L pc fj2 hl2 hs2 ha2
 refine ⟨tu f1 f2 F1 (jw N1.length g1 Z) (jw N2.length g2 W),fun f F0 ds t hG=>?_,F1,ρ1,[c0,.fn f1 F1,.fn f2 F1],ch0,c,ch',⟨fun b o z=>Y b o (q.gh.fh b o z),q.gh.inj,q.gh.out,fun i o z=>?_⟩,rfl,⟨_,_,rfl,r1,_,_,rfl,⟨rfl,Same.refl _⟩,_,_,rfl,⟨rfl,Same.refl _⟩,rfl⟩,hrun F1,fun v' F2 H2 ρ2 a2 r2 hcs=>?_⟩
 . unfold tu at hG;split at hG
   . rename_i hh;obtain ⟨rfl,rfl,hd⟩:=hh;refine ⟨⟨fo1,uf1,_,C1.fn,C1.dat⟩,fun A outer s H2 F2 us vs Q2 O hp e0 h0 fh r rd U=>?_⟩;exact rl D1.S D1.ndn C1 (rc1.same q.old) (fun s us hu=>D1.bd s _ _ _ _ _ us hu) (fun A outer s H hr=>D1.body _ _ _ A outer s H hr) (by rw [hd,D1.one]) hG A outer s H2 F2 us vs Q2 O hp e0 h0 fh r rd U
   . split at hG
     . rename_i hh;obtain ⟨rfl,rfl,hd⟩:=hh;refine ⟨⟨fo2,uf2,_,C2.fn,C2.dat⟩,fun A outer s H2 F2 us vs Q2 O hp e0 h0 fh r rd U=>?_⟩;exact rl D2.S D2.ndn C2 (rc2.same q.old) (fun s us hu=>D2.bd s _ _ _ _ _ us hu) (fun A outer s H hr=>D2.body _ _ _ A outer s H hr) (by rw [hd,D2.one]) hG A outer s H2 F2 us vs Q2 O hp e0 h0 fh r rd U
     . cases hG
 . exact (q.gh.ok i o z).mono (Same.refl _) (fun _ _=>rfl) (nL _) fun u hu=>Y _ _ hu
 . exact kq.adv en.gh q v' F2 (jk X H2) ρ2 (Adv.hide q.gh pc a2 hcs) r2
end
noncomputable def rm (i:Nat) (name qual:Str) (params:qj2) (body:List Stmt) (scope:Scope) (clos:List (Str×Addr)):TS:=fun D σ H=>∀ (f c':Addr) (doc pm ctv:Value) (H':Hp),MadeH H H' f c' qual {cls:=.type "function",data:=.func (xF9 name qual params body scope clos .none .none doc pm none (.ref c') ctv)}->D.nx (σ.set i (some (.ref f))) H'
section
variable {X:Cx} {c P:Addr} {qs:List ((Nat×Nat)×Str)} {name qual:Str} {params:qj2} {body:List Stmt} {scope:Scope} {clos:List (Str×Addr)} {pos:Pos} {i:Nat}
theorem yi (hN:X.N.Nodup) (hi:X.N[i]?=some name) (hx:Loc X.env.scope name) (Z:X.fn name=true∨X.env.scope.names.lookup name=some .local) (B:TabB X.mg X.base c P) (L:X.env.code=.ref c) (hT:(P,qs)∈cF X.K) (U:qualnameIn X.env name name=qual) (hq:((pos.line,pos.col),qual)∈qs) (hun:∀ q,((pos.line,pos.col),q)∈qs->q=qual) (O:ze3 scope X.env=pure clos)
  (Y:params.defaults=[]) (W:params.kw_defaults=[]) (ha:annTrees params none X.env=[]):PS X (.FunctionDef name params body [] none [] scope none name pos) (rm i name qual params body scope clos):=fun pins s σ H D I h =>
 Bt hN hi hx Z B L U hq hun O Y W ha pins s σ H D I ⟨I.base.cts _ _ (I.ok.tb _ hT),h⟩
end
variable {g:Fs} {r:CV×CH} {sc:Scope}
section
variable {X:Cx} {e0:Expr} {pos:Pos} {n1 n2 q1 q2:Str} {par1 par2:qj2} {bod1 bod2:List Stmt} {sc1 sc2:Scope} {N1 N2:List Str} {js1 js2:List Nat} {g1 g2:De->Option Out} {i1 i2:Nat} {FR:Orc->Fd} {f0:Fg} {K:xA9}
noncomputable def zF (X:Cx) (i1 i2:Nat) (n1 n2 q1 q2:Str) (par1 par2:qj2) (bod1 bod2:List Stmt) (sc1 sc2:Scope) (σ:St) (H:Hp) (f1 f2:Addr):Prop:=σ[i1]?=some (some (.ref f1))/\σ[i2]?=some (some (.ref f2))/\f1≠f2/\FnIn H f1 n1 q1 par1 bod1 sc1 (dD sc1.names X.env.cells)/\FnIn H f2 n2 q2 par2 bod2 sc2 (dD sc2.names X.env.cells)
noncomputable def tG2 (X:Cx) (i1 i2:Nat) (n1 n2 q1 q2:Str) (par1 par2:qj2) (bod1 bod2:List Stmt) (sc1 sc2:Scope) (g:Fs):TS:=fun D σ H =>∃ δ ch F ρ f1 f2 o,Ge X.K δ ch σ F H ρ/\zF X i1 i2 n1 n2 q1 q2 par1 par2 bod1 bod2 sc1 sc2 σ H f1 f2/\g δ ch=some o/\PostG X.K F H ρ ch D o
theorem Adv.same {F:Hp} (g:Gh K F H ρ ch) (s:Same H H'):Adv K F H ρ ch F H' ρ ch:=⟨⟨fun b o e=>s b o (g.fh b o e),g.inj,g.out,fun i o e=>(g.ok i o e).mono (Same.refl _) (fun _ _=>rfl) (nL _) fun u q=>s _ _ q⟩,nL _,fun _ _=>rfl,fun i h1 h2=>absurd h2 (qi9.mpr h1),fun b o e _=>s b o e,Same.refl _,fun _ _ e=>.inl e,fun b o u e=>s b _ e⟩
def km (i1 i2:Nat) (δ:Sl):Sl:=(δ.set i1 none).set i2 none
theorem vO {p1 p2:Pos} {ss:List Stmt} (hne:i1≠i2) (hl1:∀ σ:St,σ.length=X.N.length->i1<σ.length/\i2<σ.length)
 (h1:PS X (.FunctionDef n1 par1 bod1 [] none [] sc1 none n1 p1) (rm i1 n1 q1 par1 bod1 sc1 (dD sc1.names X.env.cells))) (h2:PS X (.FunctionDef n2 par2 bod2 [] none [] sc2 none n2 p2) (rm i2 n2 q2 par2 bod2 sc2 (dD sc2.names X.env.cells)))
 (hs:PSs X ss (tG2 X i1 i2 n1 n2 q1 q2 par1 par2 bod1 bod2 sc1 sc2 g)) :
  GS X (.FunctionDef n1 par1 bod1 [] none [] sc1 none n1 p1::.FunctionDef n2 par2 bod2 [] none [] sc2 none n2 p2::ss) fun δ ch=>g (km i1 i2 δ) ch:=by
 intro pins s σ H D I h;refine e8 h1 (e8 h2 hs) pins s σ H D I ?_;obtain ⟨δ,ch,F,ρ,o,en,hg,k⟩:=h;obtain ⟨l1,l2⟩:=hl1 σ I.len;intro f1 c1 W pm1 U H1 M1 f2 c2 Y pm2 Z H2 O
 have hf:f1≠f2:=fun z=>by have:=O.free;rw [<- z,M1.fn] at this;cases this
 have sm:Same H H2:=fun b o e=>O.old b o (M1.old b o e)
 have a:=Adv.same en.gh sm;refine ⟨km i1 i2 δ,ch,F,ρ,f1,f2,o,⟨a.gh,by simp [km,en.len],fun j x L=>?_⟩,⟨?_,?_,hf,?_,?_⟩,hg,k.adv en.gh a⟩
 . unfold km at L;by_cases e2:i2=j
   . subst e2;rw [zb5 ] at L;cases q:(δ.set i1 none)[i2]? with
     | none=>rw [q] at L;cases L
     | some y=>rw [q] at L;cases L
   . rw [gN e2] at L;by_cases e1:i1=j
     . subst e1;rw [zb5] at L;cases q:δ[i1]? with
       | none=>rw [q] at L;cases L
       | some y=>rw [q] at L;cases L
     . rw [gN e1] at L;obtain ⟨v,hv,r⟩:=en.has j x L;exact ⟨v,by rw [gN e2,gN e1];exact hv,r⟩
 . rw [gN (qn9 hne)];exact qd8 l1
 . exact qd8 (by simpa using l2)
 . obtain ⟨oc,hc⟩:=M1.cod;exact ⟨_,_,c1,W,pm1,U,O.old _ _ M1.fn,rfl,oc,O.old _ _ hc⟩
 . obtain ⟨oc,hc⟩:=O.cod;exact ⟨_,_,c2,Y,pm2,Z,O.fn,rfl,oc,hc⟩
noncomputable def yj (N1 N2:List Str) (g1 g2:De->Option Out) (FR:Orc->Fd) (c0:CV) (ch0:CH) (q L:List Dt) (r:CV×CH):Prop:=∀ f1 f2 F0,f1≠f2->FR (tu f1 f2 F0 (jw N1.length g1 q) (jw N2.length g2 L)) [c0,.fn f1 F0,.fn f2 F0] ch0=some r
open Classical in
noncomputable def fRt (js1 js2:List Nat) (N1 N2:List Str) (g1 g2:De->Option Out) (f0:Fg) (FR:Orc->Fd):Fg:=fun δ ch=>(f0 δ ch).bind fun p=>(dq δ js1).bind fun a=>(dq δ js2).bind fun b =>if h:∃ r,yj N1 N2 g1 g2 FR p.1 p.2 a b r then some h.choose else none
theorem Bx {ch0:CH} {c0:CV} {a b:List Dt} (L:f0 δ ch=some (c0,ch0)) (O:dq δ js1=some a) (U:dq δ js2=some b) (h:yj N1 N2 g1 g2 FR c0 ch0 a b r):fRt js1 js2 N1 N2 g1 g2 f0 FR δ ch=some r:=by
 have q:∃ r,yj N1 N2 g1 g2 FR c0 ch0 a b r:=⟨r,h⟩
 have e:q.choose=r:=by have h1:=q.choose_spec 0 1 (fun _=>none) (by decide);have h2:=h 0 1 (fun _=>none) (by decide);exact qd5 (h1.symm.trans h2)
 unfold fRt;rw [L,O,U];simp only [qa1];rw [dif_pos q,e]
theorem By (h:fRt js1 js2 N1 N2 g1 g2 f0 FR δ ch=some r):∃ c0 ch0 a b,f0 δ ch=some (c0,ch0)/\dq δ js1=some a/\dq δ js2=some b/\yj N1 N2 g1 g2 FR c0 ch0 a b r:=by
 unfold fRt at h;obtain ⟨p,q,h⟩:=bS h;obtain ⟨a,O,h⟩:=bS h;obtain ⟨b,U,h⟩:=bS h;split at h
 . rename_i L;cases h;exact ⟨p.1,p.2,a,b,q,O,U,L.choose_spec⟩
 . cases h
theorem Bz {e:Expr} {ch':CH} {F:Hp} {c:CV} (en:Ge X.K δ ch σ F H ρ) (fs:zF X i1 i2 n1 n2 q1 q2 par1 par2 bod1 bod2 sc1 sc2 σ H f1 f2) (h:fRt js1 js2 N1 N2 g1 g2 f0 FR δ ch=some (c,ch')) (k:KG X.K F H ρ ch c ch' Q) :
  tRt X i1 i2 n1 n2 q1 q2 par1 par2 bod1 bod2 sc1 sc2 N1 N2 js1 js2 g1 g2 f0 FR σ H Q:=by
 obtain ⟨U,ch0,a,b,h0,Z,hb,hr⟩:=By h;obtain ⟨W,Y,q,O,L⟩:=fs;exact ⟨δ,ch,F,ρ,f1,f2,U,ch0,a,b,c,ch',en,W,Y,q,O,L,h0,Z,hb,fun F0=>hr f1 f2 F0 q,k⟩
theorem yk {e:Expr} {pos':Pos} {i:Nat} (h:cV sc N i x=true) (L:g6 sc x=true) (O:N.Nodup) (U:PE X e (tRt X i1 i2 n1 n2 q1 q2 par1 par2 bod1 bod2 sc1 sc2 N1 N2 js1 js2 g1 g2 f0 FR)) (e1:bA X sc:=by rfl) (e2:X.N=N:=by rfl) (W:X.fn x=true∨X.env.scope.names.lookup x=some .local:=by exact .inl rfl)
 (Y:qk4 e (some (.Name x pos')) pos.line X.env=pure false:=by rfl):PS X (.Assign [.Name x pos'] e pos) (tG2 X i1 i2 n1 n2 q1 q2 par1 par2 bod1 bod2 sc1 sc2 (aC i (fRt js1 js2 N1 N2 g1 g2 f0 FR))):=PS.mono (mt h L O U e1 e2 W Y) fun D σ H ⟨δ,ch,F,ρ,f1,f2,o,en,fs,q,k⟩=>by
 unfold aC at q;obtain ⟨p,hp,q⟩:=mS q;cases q;exact Bz (e:=e) en fs hp fun v F' H' ρ' a r=>k _ F' H' ρ' a ((en.adv a).put r i)
theorem vP {rest:List Stmt} {U O:Fs} (h1:PS X st (tG2 X i1 i2 n1 n2 q1 q2 par1 par2 bod1 bod2 sc1 sc2 U)) (h2:GS X rest O):PSs X (st::rest) (tG2 X i1 i2 n1 n2 q1 q2 par1 par2 bod1 bod2 sc1 sc2 (aw U O)):=PSs.mono (e8 h1 h2) fun D σ H ⟨δ,ch,F,ρ,f1,f2,o,en,fs,q,k⟩=>by
 unfold aw at q;obtain ⟨W,h1,q⟩:=bS q;refine ⟨δ,ch,F,ρ,f1,f2,W,en,fs,h1,?_⟩;cases W with
 | nx δ' ch'=>exact fun σ' F' H' ρ' a L=>⟨δ',ch',F',ρ',o,L,q,k.adv en.gh a⟩
 | rt c ch'=>cases q;exact k
 | bk δ' ch'=>cases q;exact k
 | ct δ' ch'=>cases q;exact k
end
def p7 (mg:Str->Option Value) (base:Heap):Prop:=∃ q ob,mg "__builtins__"=some (.ref q)/\q≠qu8/\base.get? q=some ob/\ob.cls=.type "module"/\ob.dict=some qu8/\ob.data=.plain
variable {P:Addr}
theorem TabB.mk' {mg:Str->Option Value} {base:Heap} (q:K.In base) (h:xK9 K c P=true) (b:p7 mg base):TabB mg base c P:=⟨xS9 q h,b⟩
def rn (H:Hp):Prop:=∀ b,H b=none∨(∃ o xs,H b=some (.frz o (.lst xs)))∨∃ qs,H b=some (.ctab qs)
def gi (K:xA9):Hp:=fun b=>((cF K).find? fun p=>p.1==b).map fun p=>.ctab p.2
theorem eM {u:HO} (h:gi K b=some u):∃ p∈cF K,p.1=b/\u=.ctab p.2:=by obtain ⟨p,hp,rfl⟩:=mS h;exact ⟨p,qx8 hp,by simpa using List.find?_some hp,rfl⟩
theorem vQ (L:∀ p∈cF K,∀ q∈cF K,p.1=q.1->p=q) {p:Addr×List ((Nat×Nat)×Str)} (hp:p∈cF K):gi K p.1=some (.ctab p.2):=by
 unfold gi;cases q:(cF K).find? fun x=>x.1==p.1 with
 | none =>have:=List.find?_eq_none.mp q p hp;simp at this
 | some r =>
  have h1:r.1=p.1:=by simpa using List.find?_some q
  rw [L r (qx8 q) p hp h1];rfl
def TabsIn (K:xA9) (h:Heap):Prop:=(∀ p∈cF K,K.lookup p.1=none/\(∃ c,xN9 h c p.1)/\h.get? p.1=some (xJ9 #[]))/\∀ p∈cF K,∀ q∈cF K,p.1=q.1->p=q
variable {a:Addr}
theorem tz {P:qc5} {w:World} {mg mb:Str->Option Value} {CX:CXT} {k:Nat} {fa:Addr} {fd:qo9} {sp:Sp} {s₁:qa4} {vs:List Value} {ns:List Int}
 (KX:K.In s₁.heap) (hns:s₁.heap.Ns qc3 mg) (Y:s₁.heap.Ns qu8 mb) (hbb:∀ x:Str,x≠"__name__"->mb x=qe4 x) (hlim:s₁.heap.NoLimit) (hg:s₁.gens=#[]) (hbm:p7 mg s₁.heap) (hT:TabsIn K s₁.heap)
 (ha:s₁.heap.get? a=some {cls:=.type "list",data:=.seq vs.toArray}) (hi:zg6 vs ns) (hl:ns.length<=qb0) (hr:Room k zg7)
 (F:∀ base:Heap,K.In base->base.Ns qc3 mg->p7 mg base->FnOk P w K mg base CX k fa fd [x] sp) (hbind:∀ (s:qa4) (u:Value),za1 s fd ⟨[u],[]⟩ [(x,u)])
 (hsp:∀ H:Hp,rn H->SqL K H a (ns.map V.int)->sp [.ref a] H (fun v _=>v=.bl true) fun _ _ _=>False)
 (hCX:∀ H e s',CX [] H s₁ (fun _ _ _=>False) e s'->False) :
  qs2 (model P w) zg7 (.call (.ref fa) ⟨[.ref a],[]⟩) (fun r s'=>r=.ok (.ret (.bool true))/\OldK s₁.heap s'.heap/\s'.os=s₁.os/\zc7 s'.gens) s₁:=by
 have rv:=k9 hi;have lenV:=hi.length;obtain ⟨hT,hnd⟩:=hT
 have tb:∀ {b:Addr} {u:HO},gi K b=some u->s₁.heap.get? b=some (xJ9 #[])/\K.lookup b=none/\∃ c,xN9 s₁.heap c b:=fun {b u} e=>by obtain ⟨p,hp,rfl,_⟩:=eM e;obtain ⟨h1,h2,h3⟩:=hT p hp;exact ⟨h3,h1,h2⟩
 have taN:gi K a=none:=by
  cases q:gi K a with
  | none=>rfl
  | some u =>have:=(tb q).1;rw [ha] at this;cases this
 -- H: the script,if it is none of the module's own,and the tables
 have core:∀ H:Hp,SqL K H a (ns.map V.int)->(∀ b,b≠a->H b=gi K b)->(H a=none∨(K.lookup a=none/\H a=some (.frz {cls:=.type "list",data:=.seq vs.toArray} (.lst (ns.map V.int)))))→
     qs2 (model P w) zg7 (.call (.ref fa) ⟨[.ref a],[]⟩) (fun r s'=>r=.ok (.ret (.bool true))/\OldK s₁.heap s'.heap/\s'.os=s₁.os/\zc7 s'.gens) s₁:=by
  intro H hS hH hA
  have O:∀ {b:Addr} {u:HO},H b=some u->(b=a/\K.lookup a=none/\u=.frz {cls:=.type "list",data:=.seq vs.toArray} (.lst (ns.map V.int)))∨(b≠a/\gi K b=some u):=fun {b u} e=>by
   by_cases Y:b=a
   . subst Y;rcases hA with z | ⟨z1,z2⟩
     . rw [z] at e;cases e
     . rw [z2] at e;cases e;exact .inl ⟨rfl,z1,rfl⟩
   . rw [hH b Y] at e;exact .inr ⟨Y,e⟩
  have hO:rn H:=fun b=>by
   cases q:H b with
   | none=>exact .inl rfl
   | some u =>
    rcases O q with ⟨_,_,rfl⟩ | ⟨_,z⟩
    . exact .inr (.inl ⟨_,_,rfl⟩)
    . obtain ⟨p,_,_,rfl⟩:=eM z;exact .inr (.inr ⟨_,rfl⟩)
  have hok:HOk P w H s₁.heap:=fun b u e=>by
   rcases O e with ⟨rfl,_,rfl⟩ | ⟨_,z⟩
   . exact ⟨ha,by rw [qa2];exact hl,vs,_,rv,ha⟩
   . obtain ⟨p,_,_,rfl⟩:=eM z;refine ⟨#[],(tb z).1,trivial,fun pos q v _ h=>?_⟩;cases h
  have L:∀ {b:Addr} {o:Obj},s₁.heap.get? b=some o->H b=none->(kN s₁.heap H).get? b=some o:=fun e n=>ua e n
  have noH:∀ {b:Addr} {o:Obj},s₁.heap.get? b=some o->o.data≠.seq vs.toArray->o≠xJ9 #[]->H b=none:=fun {b o} e d1 d2=>by
   cases q:H b with
   | none=>rfl
   | some u =>
    rcases O q with ⟨rfl,_,rfl⟩ | ⟨_,z⟩
    . rw [ha] at e;cases e;exact absurd rfl d1
    . have:=(tb z).1;rw [e] at this;cases this;exact absurd rfl d2
  have U:∀ {b:Addr} {m:Str->Option Value},s₁.heap.Ns b m->(kN s₁.heap H).Ns b m:=fun {b m} ⟨o,es,ep,e,d,r⟩=>⟨o,es,ep,L e (noH e (by rw [d];intro z;cases z) (fun z=>by rw [z] at d;cases d)),d,r⟩
  have hKb:K.In (kN s₁.heap H):=fun b o e=>L (KX b o e) (by
   cases q:H b with
   | none=>rfl
   | some u =>
    rcases O q with ⟨rfl,z,_⟩ | ⟨_,z⟩
    . rw [z] at e;cases e
    . rw [(tb z).2.1] at e;cases e)
  have hbmB:p7 mg (kN s₁.heap H):=by obtain ⟨bm,ob,b1,b2,b3,b4,b5,b6⟩:=hbm;exact ⟨bm,ob,b1,b2,L b3 (noH b3 (by rw [b6];intro z;cases z) fun z=>by rw [z] at b4;cases b4),b4,b5,b6⟩
  have hM:Mod K mg (kN s₁.heap H):=⟨hKb,U hns,⟨mb,U Y,hbb⟩,let ⟨mc,h1,h2⟩:=hlim;⟨mc,U h1,h2⟩⟩
  have e0:Env0 P w K mg (kN s₁.heap H) zg7 [] s₁ H:=⟨rfl,hM,fun b o e=>w9 e,Nat.le_of_eq (se _ _),trivial,fun b Y=>absurd (show b∈([]:List Addr) from Y) (by simp),hok,.of_eq hg,fun p hp=>by have h:=vQ hnd hp;rw [hH p.1 fun z=>by rw [z,taN] at h;cases h];exact h⟩
  refine qq4 ((F _ hKb (U hns) hbmB).run zg7 [] s₁ H ⟨[.ref a],[]⟩ [.ref a] [.ref a] _ _ hr e0 (hbind s₁ (.ref a)) (.cons rfl .nil) (hsp H hO hS)) fun r s' h=>?_
  cases r with
  | error e=>exact (hCX H e s' h).elim
  | ok fl =>
   cases fl with
   | next=>exact qg7 h
   | brk=>exact qg7 h
   | cont=>exact qg7 h
   | ret u =>
    obtain ⟨v,H',os,bare,un,Z,r',q⟩:=h;have q':v=.bl true:=q;subst q';obtain rfl:u=qu7 true:=r';refine ⟨rfl,⟨fun b o e=>?_,fun b o e=>un.there b o e (by simp)⟩,os,bare⟩;cases q:H b with
    | none=>exact .inl (un.keep b o e q (by intro z;exact absurd (show b∈([]:List Addr) from z) (by simp)) (by simp))
    | some u =>
     rcases O q with ⟨rfl,_,rfl⟩ | ⟨_,z⟩
     . have z2:=un.frzs b _ _ q;obtain ⟨e1,_⟩:=hok b _ q;obtain ⟨e2,_⟩:=Z b _ z2;rw [e] at e1;cases e1
       exact .inl e2
     . obtain ⟨g1,_,c,g2⟩:=tb z;obtain ⟨p,_,_,rfl⟩:=eM z;obtain ⟨ps,g3,_⟩:=Z b _ (un.cts b _ q);rw [e] at g1;cases g1;refine .inr (.inl ⟨(g2.tab e).isCodeTable,rfl,#[],ps,rfl,?_⟩);rw [g3];simp [xJ9]
 cases hk:K.lookup a with
 | some o =>have e:=KX a o hk;rw [ha] at e;cases e;exact core (gi K) (.inr ⟨_,vs.toArray,_,hk,rfl,rfl,rfl,by rw [qb9,lenV];exact hl,by simpa using rv⟩) (fun _ _=>rfl) (.inl taN)
 | none =>exact core (fun b=>if b=a then some (.frz {cls:=.type "list",data:=.seq vs.toArray} (.lst (ns.map V.int))) else gi K b) (.inl (.inr ⟨{cls:=.type "list",data:=.seq vs.toArray},if_pos rfl⟩)) (fun b Y=>if_neg Y) (.inr ⟨hk,if_pos rfl⟩)
theorem DF {l:xT9} {k:Nat} {q:qc5} {loose:List Str} {XP:(Str->Option Value)->Heap->Prop} {YP:World->Heap->Prop} {d:DefRec} {K:Params->xA9} {CX:World->CXT} {sp:World->Sp} 
 (hn:l.most=some n) (hn2:n<=qb0) (hdf:d.params.defaults=[]) (hr:Room k zg7)
 (hY:∀ (w:World) (h:Heap),YP w h->(K w.params).In h) (hT:∀ (w:World) (h:Heap),YP w h->TabsIn (K w.params) h)
 (F:∀ (w:World) (mg:Str->Option Value) (fa:Addr) (h:Heap),(K w.params).In h->h.Ns qc3 mg->mg d.name=some (.ref fa)→
 ∃ fd:qo9,(∀ (s:qa4) (u:Value),za1 s fd ⟨[u],[]⟩ [(x,u)])∧
 ∀ base:Heap,(K w.params).In base->base.Ns qc3 mg->p7 mg base->FnOk l.prog w (K w.params) mg base (CX w) k fa fd [x] (sp w))
 (hsp:∀ (w:World) (H:Hp) (a:Addr) (ns:List Int),ns.length<=n->rn H->SqL (K w.params) H a (ns.map V.int)->sp w [.ref a] H (fun v _=>v=.bl true) fun _ _ _=>False)
 (hCX:∀ (w:World) (H:Hp) (s:qa4) (e:Value) (s':qa4),CX w [] H s (fun _ _ _=>False) e s'->False) :
  PySem.W.WalkO q loose XP YP l.row.toRowW d [] (fun f vs=>PySem.call f vs):=by
 refine Att.zn hn hdf fun w s₀ U mg mb fa o pm cd doc a vs ns G Y ho hd hcd hmg Z O L hg=>?_
 have KX:=hY w _ Y;obtain ⟨fd,hb,hF⟩:=F w mg fa _ KX G.T.g hmg;exact tz KX G.T.g G.T.b G.T.builtins G.T.nolimit hg G.T.bmain (hT w _ Y) Z O (qb8 L hn2) hr hF hb (fun H hO hS=>hsp w H a ns L hO hS) fun H e s'=>hCX w H U e s'
section
variable {P:qc5} {u:World} {B:qd7} {Ex:Value->qa4->Prop} {s:qa4} {it l:Addr} {xs:Array Value}
end
section
variable {X:Cx} {e:Expr} {ta:TA} {p1 p2 pos1 pos2:Pos} {sc:Scope}
end
section
variable {X:Cx} {a:Expr} {fa:Fg} {p1 p2 pos1 pos2:Pos} {sc:Scope} {K:xA9}
end
def tE (K:xA9):Bool:=K.all fun p=>match p.2.data with
 | .seq its _=>(match its.toList with
  | [.int _ _,.str _ _]=>false
  | _=>true)
 | _=>true
theorem oC {o:Obj}:∀ {K:List (Addr×Obj)},K.lookup a=some o->(a,o)∈K
 | [],h=>by cases h
 | (b,u)::K,h=>by
  rw [qg5] at h;cases q:a==b with
  | true=>rw [q] at h;cases h;rw [beq_iff_eq.mp q];exact .head _
  | false=>rw [q] at h;exact .tail _ (oC h)
theorem vR {n:Int} {s:Str} (O:tE K=true) (h:SqT K H a [.int n,.str s]):H a=some (.tup ([qz8 n,qt6 s].map kV)):=by
 rcases h with h | ⟨o,its,m,hk,hc,Y,Z,r⟩
 . exact h
 . have q:=qj1.mp O (a,o) (oC hk);dsimp only at q;rw [Y] at q;dsimp only at q;generalize its.toList=w at q r;cases r with
   | cons U t =>
    cases t with
    | cons W L =>cases L;obtain ⟨t1,rfl⟩:=U;obtain ⟨L,rfl⟩:=W;cases q
variable {m:Nat}
section
variable {X:Cx} {o i e value:Expr} {pos pos' tpos:Pos} {fa fk fe:Fg} {K:xA9}
def lV:CV->Option (List Key)
 | .dat (.tup [.int n,.str s])=>some [.inl n,.inr s]
 | _=>none
theorem oD {F:Hp} {c:CV} {v:V} {ks:List Key} (q:tE K=true) (h:lV c=some ks) (r:RelC K F ρ m c v):∃ b,v=.ref b/\F b=some (.tup (ks.map kV)):=by
 unfold lV at h;split at h<;>cases h
 rename_i n s;have r:Rep K F (.tup [.int n,.str s]) v:=r;unfold Rep at r;obtain ⟨a,vs,rfl,h1,h2⟩:=r;unfold Reps at h2;obtain ⟨L,W,rfl,q1,h2⟩:=h2;unfold Reps at h2;obtain ⟨O,U,rfl,q2,h2⟩:=h2;unfold Reps at h2;subst h2;simp only [Rep] at q1 q2;subst q1 q2;exact ⟨a,rfl,vR q h1⟩
def eIxK (fa fk:Fg):Fg:=fun δ ch=>(fa δ ch).bind fun p=>(fk δ p.2).bind fun q=>match p.1 with
 | .ref i=>((q.2[i]?).bind asT).bind fun l=>(lV q.1).bind fun ks=>(lkC l ks).map fun c=>(c,q.2)
 | _=>none
def tF (fk fa:Fg):Ft:=fun δ ch=>(fk δ ch).bind fun p=>(fa δ p.2).bind fun q=>match q.1 with
 | .ref i=>((q.2[i]?).bind asT).bind fun l=>(lV p.1).map fun ks=>(!(lkC l ks).isSome,q.2)
 | _=>none
theorem BA {κ:Type} [DecidableEq κ] {F:Hp} {k:κ} {l:List (κ×CV)} {kvs:List (κ×V)} (h2:kvs.map (·.1)=l.map (·.1)) (h3:RelCs K F ρ n (l.map (·.2)) (kvs.map (·.2))):(da kvs k).isSome=(lkC l k).isSome:=by
 have L:=jF (k:=k) h2 h3;cases q:lkC l k with
 | none=>rw [q] at L;rw [L];rfl
 | some c=>rw [q] at L;obtain ⟨v,O,_⟩:=L;rw [O];rfl
theorem BB (hK:tE X.K=true) (hr:Room m X.A) (hk:GE X i fk) (ho:GE X o fa) (hm:qf4 .NotIn o=false:=by with_unfolding_all rfl):GT X (.Compare i [.NotIn] [o] pos) (tF fk fa):=
 PT.mono (ma (iS (gU hr) hk ho) hm) fun σ H Q ⟨δ,ch,F,ρ,c,ch',en,Y,kk⟩=>by
  unfold tF at Y;obtain ⟨⟨c1,ch1⟩,hp,O⟩:=bS Y;clear Y;obtain ⟨⟨c2,ch2⟩,hq,q⟩:=bS O;clear O;dsimp only at hq q;split at q<;>first | (cases q;done) | skip
  rename_i i;obtain ⟨l,U,L⟩:=bS q;obtain ⟨ob,hl,has⟩:=bS U;clear q U;obtain ⟨ks,hks,Z⟩:=mS L;cases Z;refine ⟨δ,ch,F,ρ,_,ch1,en,hp,fun v F1 H1 ρ1 a1 r1=>⟨δ,ch1,F1,ρ1,_,_,en.adv a1,hq,fun v2 F2 H2 ρ2 W r2=>?_⟩⟩;obtain ⟨b,rfl,hb⟩:=oD hK hks r1;obtain ⟨kvs,h1,h2,h3⟩:=Bq has (W.gh.ok i _ hl);refine ⟨_,da kvs ks,r2.2,.inr ⟨kvs,ks,b,h1,rfl,W.gh.fh _ _ (W.old _ _ hb),rfl⟩,_,rfl,?_⟩;rw [BA h2 h3];exact kk F2 _ ρ2 (a1.trans en.gh W)
noncomputable def eO (fo fk fe:Fg):Fs:=fun δ ch=>(fe δ ch).bind fun p=>(fo δ p.2).bind fun q=>(fk δ q.2).bind fun r=>match q.1 with
 | .ref i=>match r.2[i]? with
  | some (.dT l)=>(lV r.1).bind fun ks=>if l.length<qb0/\(l.map (·.1)).Nodup then some (.nx δ (r.2.set i (.dT (eJ l ks p.1)))) else none
  | _=>none
 | _=>none
theorem rp (hK:tE X.K=true) (hr:Room m X.A) (ho:GE X o fa) (hk:GE X i fk) (he:GE X e fe) (hs:qk4 e (some (.Subscript o i tpos)) pos.line X.env=pure false:=by rfl) :
  GS1 X (.Assign [.Subscript o i tpos] e pos) (eO fa fk fe):=
 PS.mono (qE (gU hr) ho hk he hs) fun D σ H ⟨δ,ch,F,ρ,og,en,hg,kk⟩=>by
  unfold eO at hg;obtain ⟨⟨c1,ch1⟩,hp,Z⟩:=bS hg;clear hg;obtain ⟨⟨c2,ch2⟩,hq,W⟩:=bS Z;clear Z;obtain ⟨⟨c3,ch3⟩,hw,q⟩:=bS W;clear W;dsimp only at hq hw q;split at q<;>first | (cases q;done) | skip
  rename_i i;split at q<;>first | (cases q;done) | skip
  rename_i l hl;obtain ⟨ks,hks,hg4⟩:=bS q;clear q;split at hg4<;>cases hg4
  rename_i hz;refine ⟨δ,ch,F,ρ,_,ch1,en,hp,fun v F1 H1 ρ1 a1 r1=>⟨δ,ch1,F1,ρ1,_,ch2,en.adv a1,hq,fun x F2 H2 ρ2 U r2=>⟨δ,ch2,F2,ρ2,_,ch3,(en.adv a1).adv U,hw,fun y F3 H3 Y L r3=>?_⟩⟩⟩;obtain ⟨b,rfl,hb⟩:=oD hK hks r3;have hi:i<ch3.length:=(gX hl).1;have a13:=(a1.trans en.gh U).trans en.gh L;have r1':=(r1.mono U.old U.ext U.len).mono L.old L.ext L.len;obtain ⟨kvs,q1,q2,q3⟩:=L.gh.ok i _ hl;obtain ⟨z1,z2⟩:=j5 (k:=ks) r1' hz.2 q2 q3
  have O:kvs.length=l.length:=by have:=congrArg qo0 q2;simpa using this
  refine ⟨_,upd H3 (Y i) (.dT (dk kvs ks v)),(r2.mono L.old L.ext L.len).2,DPut.t q1 (L.gh.fh _ _ hb) (by rw [O];exact hz.1),?_⟩;have a5:=Adv.upd (o:=.dT (eJ l ks c1)) (u:=.dT (dk kvs ks v)) L.gh hi q1 (fun _ _ z=>nomatch z) ⟨_,aq,z1,z2⟩;have aa:=a13.trans en.gh a5;exact kk σ F3 _ Y aa (en.adv aa)
noncomputable def kn (q:Int->Int->Int) (i:Nat) (fe:Fg):Fs:=fun δ ch=>match δ[i]? with
 | some (some (.dat (.int n)))=>(fe δ ch).bind fun p=>match p.1 with
  | .dat (.int m)=>some (.nx (δ.set i (some (.dat (.int (q n m))))) p.2)
  | _=>none
 | _=>none
theorem yl {x:Str} {j:Nat} (h:cV sc N j x=true) (W:g6 sc x=true) (Y:N.Nodup) (Z:GE X e fe) (e1:bA X sc:=by rfl) (e2:X.N=N:=by rfl) (hf:X.fn x=true∨X.env.scope.names.lookup x=some .local:=by exact .inl rfl) :
  GS1 X (.AugAssign (.Name x pos') .Add e pos) (kn (fun i j=>i+j) j fe):=by
 have e1:X.env.scope=sc:=e1;subst e1 e2;refine PS.mono (AD Y (gr h) (jV W) Z AE hf) fun D σ H ⟨δ,ch,F,ρ,og,en,q,kk⟩=>?_
 unfold kn at q;split at q<;>first | (cases q;done) | skip
 rename_i n hn;obtain ⟨⟨c1,ch1⟩,hp,q⟩:=bS q;dsimp only at q;split at q<;>first | (cases q;done) | skip
 rename_i m;cases q;obtain ⟨v,hv,O⟩:=en.has j _ hn;have O:Rep X.K F (.int n) v:=O;simp only [Rep] at O;subst O;refine ⟨_,hv,δ,ch,F,ρ,_,ch1,en,hp,fun w F1 H1 ρ1 U L=>?_⟩;have L:Rep X.K F1 (.int m) w:=L;simp only [Rep] at L;subst L;exact ⟨n,m,rfl,rfl,kk _ F1 H1 ρ1 U ((en.adv U).put (x:=.dat (.int (n+m))) (v:=.int (n+m)) (show Rep X.K F1 (.int (n+m)) (.int (n+m)) from ev) j)⟩
end
noncomputable def zG (outer:Scope) (NX N ps fr:List Str) (js:List Nat) (sc:Scope):Bool:=
 (match sc.kind with | .function=>true | _=>false)&&!sc.isCoroutine&&!sc.isGenerator&&decide N.Nodup&&decide (N.take ps.length=ps)&&decide (N.drop (N.length-fr.length)=fr)&&decide (ps.length+fr.length<=N.length)&&
 ps.all (fun x=>decide (sc.names.lookup x=some .local)||decide (sc.names.lookup x=some .cell))&&
 fr.all (fun x=>decide (sc.names.lookup x=some .free))&&
 sc.names.all (fun y=>!decide (y.2=.free)||decide (y.1∈fr))&&
 sc.names.all (fun y=>decide (sc.names.lookup y.1=some y.2))&&
 decide (ps.length=1)&&
 sc.names.all (fun y=>!decide (y.2=.free)||decide (outer.names.lookup y.1=some .cell))&&
 decide (js.length=fr.length)&&
 (fr.zip js).all (fun p=>decide (NX[p.2]?=some p.1)&&decide (outer.names.lookup p.1=some .cell))
structure NsC (outer:Scope) (NX N ps fr:List Str) (js:List Nat) (sc:Scope):Prop where
 S:ClScope N ps fr sc
 nd:N.Nodup
 ndn:∀ x,∀ y∈sc.names,y.1=x->sc.names.lookup x=some y.2
 one:ps.length=1
 fre:∀ x∈sc.names,x.2=.free->outer.names.lookup x.1=some .cell
 jl:js.length=fr.length
 nm:∀ (i j:Nat) (x:Str),fr[i]?=some x->js[i]?=some j->NX[j]?=some x/\outer.names.lookup x=some .cell
 all:∀ x∈sc.names,x.2=.free->x.1∈fr
theorem NsC.of {outer:Scope} {NX fr:List Str} (h:zG outer NX N ps fr js sc=true):NsC outer NX N ps fr js sc:=by
 unfold zG at h;simp only [qa9,qj1,qh7,qh9,decide_eq_true_eq,decide_eq_false_iff_not] at h;obtain ⟨⟨⟨⟨⟨⟨⟨⟨⟨⟨⟨⟨⟨⟨h1,h2⟩,h3⟩,h4⟩,h5⟩,h6⟩,h7⟩,h8⟩,h9⟩,Z⟩,W⟩,L⟩,U⟩,h14⟩,O⟩:=h;have q:∀ x∈sc.names,x.2=.free->x.1∈fr:=fun x Y e=>(Z x Y).resolve_left fun z=>z e
 have hk:sc.kind=.function:=by revert h1;cases sc.kind<;>simp
 refine ⟨⟨hk,h2,h3,h4,h5,h6,h7,h8,h9,fun x e=>q _ (PySem.mem_of_lookup e) rfl⟩,h4,fun x y hy e=>by rw [<- e];exact W y hy,L,fun x Y e=>(U x Y).resolve_left fun z=>z e,h14,fun i j x e1 e2=>?_,q⟩;have hm:(x,j)∈fr.zip js:=qf5 (i:=i) (by rw [qq0];exact ⟨e1,e2⟩);exact O (x,j) hm
variable {qs:List ((Nat×Nat)×Str)}
section
variable {X:Cx} {name qual:Str} {params:qj2} {body:List Stmt} {scope outer:Scope} {NX N ps fr:List Str} {js:List Nat} {g:De->Option Out} {kk i:Nat} {pos:Pos}
theorem NestD.of (C:NsC outer NX N ps fr js scope) (q:∀ (s:qa4) (cl:List (Str×Addr)) (doc pm ctv L:Value) (us:List Value),us.length=ps.length->za1 s (xF9 name qual params body scope cl .none .none doc pm none L ctv) ⟨us,[]⟩ (ps.zip us))
  (O:∀ (f c':Addr) (cl:List (Str×Addr)) (A:qd7) (outer:List Env) (s:qa4) (H:Hp),Room kk (A.deeper (gY qual scope s.heap.objs.size f (.ref c') cl))->DS (nE CX0 X.prog X.w X.K X.mg X.base N qual scope f (.ref c') cl A outer s H E0 fun _ _=>False) body g)
  (e1:bA X outer:=by rfl) (e2:X.N=NX:=by rfl):NestD X name qual params body scope N ps fr js g kk:=by
 have e1:X.env.scope=outer:=e1;subst e1 e2;exact ⟨C.S,C.ndn,C.one,C.fre,C.jl,C.nm,q,O⟩
def hasQ (qs:List ((Nat×Nat)×Str)) (pos:Pos) (qual:Str):Bool:=decide (((pos.line,pos.col),qual)∈qs)&&qs.all fun p=>!decide (p.1=(pos.line,pos.col))||decide (p.2=qual)
theorem rq (h:cV outer NX i name=true) (hl:g6 outer name=true) (nd:NX.Nodup) (C:NsC outer NX N ps fr js scope) (B:TabB X.mg X.base c P) (hT:(P,qs)∈cF X.K) (O:hasQ qs pos qual=true)
 (L:X.env.code=.ref c:=by rfl) (U:qualnameIn X.env name name=qual:=by rfl) (Y:params.defaults=[]:=by rfl) (W:params.kw_defaults=[]:=by rfl) (ha:annTrees params none X.env=[]:=by rfl)
 (e1:bA X outer:=by rfl) (e2:X.N=NX:=by rfl) (Z:X.fn name=true:=by rfl):PS X (.FunctionDef name params body [] none [] scope none name pos) (rm i name qual params body scope (dD scope.names X.env.cells)):=fun pins s σ H D I hh=>by
 have e1:X.env.scope=outer:=e1;subst e1 e2;unfold hasQ at O;simp only [qa9,qj1,qh7,qh9,decide_eq_true_eq,decide_eq_false_iff_not] at O;exact yi nd (gr h) (jV hl) (.inl Z) B L hT U O.1 (fun q hm=>(O.2 _ hm).resolve_left fun z=>z rfl) (gq fun x hx e=>I.ok.has x.1 (.inl (C.fre x hx e))) Y W ha pins s σ H D I hh
theorem BC {i1 i2:Nat} (h:decide (i1<NX.length/\i2<NX.length)=true) (e2:X.N=NX:=by rfl):∀ σ:St,σ.length=X.N.length->i1<σ.length/\i2<σ.length:=fun σ e=>by rw [e,e2];exact of_decide_eq_true h
end
structure DefC (K:xA9) (mg:Str->Option Value) (x:Str) (st:Stmt) (ps:List Str) (c:Addr):Prop where
 ex:∃ (f:Addr) (oc:Value) (od:Option Addr) (kV doc pm:Value) (an:Option Addr) (ct:Value) (osl:Array (Option Value)),mg x=some (.ref f)/\xE9 K (.ref f)=true/\Binds K (xC9 x x (bz st) (az st) (ac st) .none kV doc pm an (.ref c) ct) ps []∧K.lookup f=some ⟨oc,od,.func (xC9 x x (bz st) (az st) (ac st) .none kV doc pm an (.ref c) ct),osl⟩/\xG9 K (.ref c) x=true
variable {oc pm:Value} {od an:Option Addr} {h:Heap}
section
variable {P:qc5} {w:World} {K:xA9} {mg:Str->Option Value} {base:Heap} {x:Str} {st:Stmt} {N ps:List Str} {c:Addr}
theorem DefC.mk' {osl:Array (Option Value)} {kV doc ct:Value} (X:K.In h) (G:h.Ns qc3 mg)
 (a:xB9 K qc3 x=some (some (.ref f)))
 (l:K.lookup f=some ⟨oc,od,.func (xC9 x x (bz st) (az st) (ac st) .none kV doc pm an (.ref c) ct),osl⟩) (q:xG9 K (.ref c) x=true) (k:xE9 K (.ref f)=true)
 (L:∀ (kV doc pm:Value) (an:Option Addr) (cdv ct:Value) (us:List Value),us.length=ps.length->zg0 (xC9 x x (bz st) (az st) (ac st) .none kV doc pm an cdv ct) ⟨us,[]⟩=pure (ps.zip us)):DefC K mg x st ps c:=
 ⟨f,oc,od,kV,doc,pm,an,ct,osl,xI9 X G a,k,(mn l q k).binds L,l,q⟩
theorem ym {k:Nat} (D:DefC K mg x st ps c) (S:FnScope N ps (ac st)) (hn:ps.length=n)
 (L:∀ (f:Addr) (A:qd7) (outer:List Env) (s:qa4) (H:Hp) (E:XK),Room k (A.deeper (qv4 x (ac st) s.heap.objs.size f (.ref c)))->GS (iP CX0 P w K mg base N x (ac st) f (.ref c) A outer s H E).nox (az st) g) :
  OkF P w K mg base x (k+1) ps (spG K n (e6 N.length g)):=by
 obtain ⟨f,oc,od,kV,doc,pm,an,ct,osl,h1,h2,h3,Z,U⟩:=D.ex;refine ⟨f,_,h1,h2,h3,zh Z U S (fun vs H Q E h=>?_) fun A outer s H vs Q E hr h=>?_⟩
 . obtain ⟨F,ρ,cs,ch,c,ch',_,W,r,_⟩:=h;rw [r.length,W,hn]
 . obtain ⟨F,ρ,cs,ch,c,ch',Y,W,r,O,kq⟩:=h;refine ⟨_,PSs.nox (L f A outer s H E hr),?_⟩;unfold e6 at O;split at O
   . rename_i c1 ch1 q;cases O;exact ⟨_,ch,F,ρ,_,dZ Y r,q,fun v F' H' ρ' a z=>kq v F' H' ρ' a z⟩
   . rename_i δ1 ch1 q;cases O;exact ⟨_,ch,F,ρ,_,dZ Y r,q,fun σ' F' H' ρ' a z=>kq .non F' H' ρ' a (fR (K:=K) (F:=F'))⟩
   . cases O
theorem yn {P:Addr} (q:decide (x∈nestNames)=true) (h:o8 K x=some (P,qs)):(P,qs)∈cF K:=qw8.mpr ⟨x,of_decide_eq_true q,h⟩
end
section
variable {X:Cx} {a b:Expr} {ta:TA} {p1 p2 pos1 pos2:Pos} {sc:Scope} {fs:De->Option (List Dt)}
end
section
variable {X:Cx} {pins:List (Addr×Obj)} {s:qa4} {σ:St} {H:Hp}
end
theorem TabsIn.two {c' P':Addr} {qs':List ((Nat×Nat)×Str)} (kb:K.In h) (e:cF K=[(P,qs),(P',qs')]) (hne:P≠P') (n:K.lookup P=none) (n':K.lookup P'=none) (hc:xK9 K c P=true) (hc':xK9 K c' P'=true) (t:h.get? P=some (xJ9 #[])) (t':h.get? P'=some (xJ9 #[])):TabsIn K h:=by
 unfold TabsIn;rw [e];refine ⟨fun p hp=>?_,fun p hp q hq z=>?_⟩
 . rcases qb2.mp hp with rfl | hp
   . exact ⟨n,⟨c,xS9 kb hc⟩,t⟩
   . cases qb7.mp hp;exact ⟨n',⟨c',xS9 kb hc'⟩,t'⟩
 . rcases qb2.mp hp with rfl | hp<;>rcases qb2.mp hq with rfl | hq
   . rfl
   . cases qb7.mp hq;exact absurd z hne
   . cases qb7.mp hp;exact absurd z.symm hne
   . cases qb7.mp hp;cases qb7.mp hq;rfl
noncomputable def AtF (K:xA9) (x:Str) (st:Stmt):Prop:=∃ (f:Addr) (oc:Value) (od an:Option Addr) (sl:Array (Option Value)) (kV dc pm q ct:Value),xB9 K qc3 x=some (some (.ref f))/\K.lookup f=some ⟨oc,od,.func (xC9 x x (bz st) (az st) (ac st) .none kV dc pm an q ct),sl⟩/\xG9 K q x=true/\xE9 K (.ref f)=true
noncomputable def AtC (K:xA9) (x:Str) (st:Stmt) (c P:Addr):Prop:=∃ (f:Addr) (oc:Value) (od an:Option Addr) (sl:Array (Option Value)) (kV dc pm ct:Value) (L:Value) (xd:Option Addr) (q:Array Value) (xs:Array (Option Value)),
 xB9 K qc3 x=some (some (.ref f))/\K.lookup f=some ⟨oc,od,.func (xC9 x x (bz st) (az st) (ac st) .none kV dc pm an (.ref c) ct),sl⟩/\xG9 K (.ref c) x=true/\xE9 K (.ref f)=true∧
 K.lookup c=some ⟨L,xd,.fields q,xs⟩/\q[11]?=some (.ref P)
variable {dc:Value}
section
variable {K:xA9} {mg:Str->Option Value} {h:Heap} {x:Str} {st:Stmt} {ps:List Str} {c P:Addr}
theorem AtF.mk {sl:Array (Option Value)} {kV q ct:Value} (a:xB9 K qc3 x=some (some (.ref f))) (l:K.lookup f=some ⟨oc,od,.func (xC9 x x (bz st) (az st) (ac st) .none kV dc pm an q ct),sl⟩) (c:xG9 K q x=true) (k:xE9 K (.ref f)=true):AtF K x st:=⟨f,oc,od,an,sl,kV,dc,pm,q,ct,a,l,c,k⟩
theorem AtC.mk {sl:Array (Option Value)} {kV ct L:Value} {xd:Option Addr} {q:Array Value} {xs:Array (Option Value)} (a:xB9 K qc3 x=some (some (.ref f))) (l:K.lookup f=some ⟨oc,od,.func (xC9 x x (bz st) (az st) (ac st) .none kV dc pm an (.ref c) ct),sl⟩) (O:xG9 K (.ref c) x=true) (k:xE9 K (.ref f)=true) (cl:K.lookup c=some ⟨L,xd,.fields q,xs⟩) (U:q[11]?=some (.ref P)):AtC K x st c P:=⟨f,oc,od,an,sl,kV,dc,pm,ct,L,xd,q,xs,a,l,O,k,cl,U⟩
theorem AtF.df (A:AtF K x st) (X:K.In h) (G:h.Ns qc3 mg) (q:∀ (kV doc pm:Value) (an:Option Addr) (cdv ct:Value) (us:List Value),us.length=ps.length->zg0 (xC9 x x (bz st) (az st) (ac st) .none kV doc pm an cdv ct) ⟨us,[]⟩=pure (ps.zip us)):DefF K mg x st ps:=by obtain ⟨f,oc,od,an,sl,kV,dc,pm,L,ct,a,l,c,k⟩:=A;exact DefF.mk' X G a l c k q
theorem AtC.df (A:AtC K x st c P) (X:K.In h) (G:h.Ns qc3 mg) (q:∀ (kV doc pm:Value) (an:Option Addr) (cdv ct:Value) (us:List Value),us.length=ps.length->zg0 (xC9 x x (bz st) (az st) (ac st) .none kV doc pm an cdv ct) ⟨us,[]⟩=pure (ps.zip us)):DefC K mg x st ps c:=by obtain ⟨f,oc,od,an,sl,kV,dc,pm,ct,L,xd,O,xs,a,l,c,k,_⟩:=A;exact DefC.mk' X G a l c k q
end
variable {gg:List Dt->Option T}
section
variable {X:Cx} {e:Expr} {es:List Expr} {x:Str} {p pos:Pos} {fs:De->Option (List Dt)} {i:Nat}
theorem pvX (h:cV X.env.scope X.N i x=true):PE X (.Name x pos) (iK i):=pvD i h rfl rfl
theorem dbX (h:cV X.env.scope X.N i x=true):DB X (.Name x pos) (vB i):=A7 (pvX h)
theorem dlX (h:cV X.env.scope X.N i x=true):DL X (.Name x pos) (vL i):=A6 (pvX h)
theorem doF {k:Nat} {ff:List Dt->Option T} (h:aB X.env.scope x=true) (F:OkF X.prog X.w X.K X.mg X.base x k ps (spD X.K n ff)) (O:Room m X.A) (hk:k<=m) (W:DA X (e::es) fs) (U:(e::es).length=n:=by rfl) (L:qa6 (e::es) X.env=(false,eval e X.env)::qa6 es X.env:=by rfl) (q:(qj4 pos (qa6 es X.env)).any (·.1)=false:=by rfl):DO X (.Call (.Name x p) (e::es) [] pos) (ag ff fs):=cX h F (O.mono hk) W U rfl L q
theorem doB {id:String} {r:List V->Hp->VK->Prop} (h:aB X.env.scope x=true) (L:c8 X (.builtin id) r) (U:CRD X.K r gg) (Y:X.mg x=none) (W:qe4 x=some (.builtin id)) (Z:DAB X (e::es) fs) (O:qa6 (e::es) X.env=(false,eval e X.env)::qa6 es X.env:=by rfl) (q:(qj4 pos (qa6 es X.env)).any (·.1)=false:=by rfl):DO X (.Call (.Name x p) (e::es) [] pos) (ag gg fs):=nH h L U Y W Z rfl O q
theorem doT {Ty:String} {r:List V->Hp->VK->Prop} (h:aB X.env.scope x=true) (L:c8 X (.type Ty) r) (U:CRD X.K r gg) (Y:X.mg x=none) (W:qe4 x=some (.type Ty)) (Z:DAB X (e::es) fs) (O:qa6 (e::es) X.env=(false,eval e X.env)::qa6 es X.env:=by rfl) (q:(qj4 pos (qa6 es X.env)).any (·.1)=false:=by rfl):DO X (.Call (.Name x p) (e::es) [] pos) (ag gg fs):=hZ h L U Y W Z rfl O q
theorem dlG {d:Dt} (h:aB X.env.scope x=true) (q:ig X.K X.mg x d):DL X (.Name x pos) (kD d):=xJ h q rfl
end
section
variable {X:Cx} {o e:Expr} {fa fe:Fg} {apos cpos pos:Pos}
end
end L2
namespace HT
open PySem PySem.Spec PyProof.Rows
end HT
namespace L2
open PySem PySem.Spec PyProof.Rows
variable {K:xA9}
section
variable {X:Cx}
def gSlW:Dt->Option Int->Option Int->Option T
 | .tup l,lo,hi=>if HT.sIx l.length 0 lo=0/\HT.sIx l.length l.length hi=l.length then some (.leaf (.tup l)) else some (.leaf (.tup (pJ l lo hi)))
 | x,lo,hi=>gSl x lo hi
def vS (K:xA9):R2:=fun x y H Q=>∃ a b z xs,x=.ref a/\y=.ref b/\SqT K H a (z::xs)/\SqT K H b []/\Q (.ref a) H
theorem yo:OpR X (ql0 .Add) (vS X.K):=by
 intro pins s σ H x y v u Q I rx ry h;obtain ⟨a,b,z,xs,rfl,rfl,ha,hb,q⟩:=h;cases rx;cases ry;obtain ⟨its,r1,p1,_⟩:=I.tuple ha;obtain ⟨its2,r2,p2,_⟩:=I.tuple hb;cases r2;obtain ⟨⟨cls,dd,data,sl⟩,ho,hc,n,hd⟩:=id p1;obtain ⟨⟨cls2,Z,W,Y⟩,U,O,n2,L⟩:=id p2;simp only at hc hd O L;subst hc hd O L
 exact qw9 ⟨_,ho,rfl⟩ ⟨_,U,rfl⟩ qt7 za2 PySem.F.slot_tuple_add PySem.F.entry_tuple_add (PySem.F.args_tuple_add_2 _ _)
  (tuple_addW1 a b its.toArray #[] n n2 dd Z sl Y (by cases r1;simp) rfl) ⟨ho,U,⟨.ref a,H,I,rfl,q⟩⟩
def ko:Dt->Dt->Option T
 | .tup (d::l),.tup []=>some (.leaf (.tup (d::l)))
 | x,y=>u5 x y
theorem yp:OpR X (ql0 .Add) (fun x y H Q=>(n4 X.K x y H Q∨lu X.K x y H Q)∨vS X.K x y H Q):=OpR.or xS yo
theorem BD:R2D K (fun x y H Q=>(n4 K x y H Q∨lu K x y H Q)∨vS K x y H Q) ko:=by
 intro F H x y vx Z Q t O U Y L k;unfold ko at L;split at L
 . rename_i d l;cases L;obtain ⟨a,vs,rfl,h1,h2⟩:=U;obtain ⟨b,ws,rfl,h3,W⟩:=Y;simp only [Reps] at W;subst W;have q:=h2;simp only [Reps] at q;obtain ⟨v,us,rfl,_,_⟩:=q;refine .inr ⟨a,b,v,us,rfl,rfl,O.tup h1,O.tup h3,k.leaf.here O ?_⟩;simp only [Rep];exact ⟨a,_,rfl,h1,h2⟩
 . exact .inl (Bk F H _ _ vx Z Q t O U Y L k)
end
abbrev Hk3:=Str×Int×Bool
def h3 (k:Hk3):Dt:=.tup [.str k.1,.int k.2.1,.bl k.2.2]
section
variable {X:Cx} {pins:List (Addr×Obj)} {s:qa4} {σ:St} {H:Hp}
end
section
variable {X:Cx} {a:Expr} {fa:Fg} {p pos:Pos} {sc:Scope}
end
section
variable {X:Cx}
end
section
variable {P:qc5} {u:World} {A:qd7} {R:Result->qa4->Prop} {I:Addr} {fp wr:List Addr} {n:Nat} {Pv:Nat->Value->Prop} {St:Nat->Heap->Prop}
end
section
variable {P:qc5} {u:World} {A:qd7} {E:Value->qa4->Prop} {s:qa4} {l:Addr} {xs:Array (Int×Tok)} {d:Value}
end
section
variable {X:Cx} {e:Expr} {pos p kp kq:Pos} {sc:Scope} {fs:De->Option (List Dt)} {d:Int} {t:TA} {i:Nat}
end
def iz:Dt->Dt->Option T
 | .str x,.int n=>if 0<=n/\n<=1000/\x.length<=1000 then some (.leaf (.str (gz x n))) else none
 | _,_=>none
def zH:R2:=fun x y H Q=>∃ z n,x=.str z/\y=.int n/\(0<=n/\n<=1000/\z.length<=1000)/\Q (.str (gz z n)) H
theorem BE {z:Str} {n:Int} (h:0<=n/\n<=1000/\z.length<=1000):MulOk z n:=by
 obtain ⟨L,h1,h2⟩:=h;refine ⟨?_,fun h _=>?_,fun h _=>?_⟩
 . have q:decide (n < -(2^63:Int))=false:=decide_eq_false (by lia);have e2:decide (n ≥ 2^63)=false:=decide_eq_false (by lia);rw [q,e2];rfl
 . have e:(1000:Int)<=(2^63-1)/n:=(Int.le_ediv_iff_mul_le (by lia)).mpr (by lia);lia
 . have e:z.length*n.toNat<=1000*1000:=Nat.mul_le_mul h2 (by lia);have O:qb0=16777216:=za0;exact decide_eq_false (by lia)
theorem yq {X:Cx}:OpR X (ql0 .Mult) zH:=by intro pins s σ H x y v u Q I L U h;obtain ⟨z,n,rfl,rfl,O,q⟩:=h;obtain ⟨t,rfl⟩:=L;obtain ⟨t',rfl⟩:=U;exact SB.mul (BE O) fun W k=>⟨.str (gz z n),H,I.tok _,⟨_,rfl⟩,q⟩
theorem BF:R2D K zH iz:=by
 intro F H x y Y W Q t O L U q k;unfold iz at q;split at q<;>first | (cases q;done) | skip
 split at q<;>cases q
 rename_i h;cases L;cases U;exact ⟨_,_,rfl,rfl,h,k.str O⟩
open PySem
section
variable {K:Type} [DecidableEq K]
theorem tH {acc:List K} {k x:K}:x∈dw acc k↔x∈acc∨x=k:=by
 unfold dw;split
 . exact ⟨.inl,fun h=>h.elim id fun e=>e▸by assumption⟩
 . simp
theorem lW {x:K}:∀ {ss acc:List K},x∈ss.foldl dw acc↔x∈acc∨x∈ss
 | [],acc=>by simp
 | k::ss,acc=>by rw [qi6,lW,tH,qb2,or_assoc]
theorem du {ss:List K} {x:K}:x∈bL ss↔x∈ss:=by unfold bL;rw [lW];simp
theorem oE {acc:List K} {k:K} (h:acc.Nodup):(dw acc k).Nodup:=by
 unfold dw;split
 . exact h
 . rename_i hk;rw [qp3];exact ⟨h,by simp,fun a q b L e=>hk (by rw [qb7.mp L] at e;exact e▸q)⟩
theorem jm:∀ {ss acc:List K},acc.Nodup->(ss.foldl dw acc).Nodup
 | [],_,h=>h
 | k::ss,acc,h=>jm (ss:=ss) (oE h)
theorem iA (ss:List K):(bL ss).Nodup:=jm qx3
end
theorem oF:∀ ns:List Int,tp (ns.map .int)=some ns
 | []=>rfl
 | k::ns=>by rw [qa5];unfold tp;rw [oF ns];rfl
variable {ns:List Int}
theorem fY {x:Int}:x∈d5 ns↔x∈ns:=(cq ns).mem_iff
theorem oG (h1:ns.length<4000) (h2:(bL ns).length<64):d6 [.lst (ns.map .int)]=some (.lst ((d5 (bL ns)).map .int)):=by unfold d6 tm;dsimp only;rw [oF,qa1,if_pos ⟨h1,h2⟩]
section
variable {X:Cx} {K:Type} [DecidableEq K] [Inhabited K] {κ:SK X.prog X.w K}
end
section
variable {X:Cx} {e:Expr} {pos pos2 p p2:Pos} {sc:Scope} {fs:De->Option (List Dt)}
end
section
variable {X:Cx} {e o:Expr} {es:List Expr} {fo:De->Option Dt} {fs:De->Option (List Dt)} {apos cpos pos:Pos}
end
section
variable {X:Cx}
end
seal L2.PE L2.PS L2.PSs L2.PT L2.PW L2.PA L2.PI L2.PG L2.PTs L2.PO L2.PGs L2.c8 L2.OpR L2.IxR L2.SlR L2.MtR L2.UnR L2.DO L2.DL L2.DB L2.DT L2.DW L2.DS L2.DS1 L2.R2D L2.CRD L2.MRD L2.DG L2.DGs L2.DIF L2.DIB L2.DTs L2.DP L2.GE L2.GT L2.GW L2.GA L2.GS L2.GS1
theorem el1 {α:Type} {p:List α->Prop} (h:∀ a,p [a]):∀ us:List α,us.length=1->p us
 | [a],_=>h a
theorem el2 {α:Type} {p:List α->Prop} (h:∀ a b,p [a,b]):∀ us:List α,us.length=2->p us
 | [a,b],_=>h a b
theorem el3 {α:Type} {p:List α->Prop} (h:∀ a b c,p [a,b,c]):∀ us:List α,us.length=3->p us
 | [a,b,c],_=>h a b c
theorem el4 {α:Type} {p:List α->Prop} (h:∀ a b c d,p [a,b,c,d]):∀ us:List α,us.length=4->p us
 | [a,b,c,d],_=>h a b c d
theorem el5 {α:Type} {p:List α->Prop} (h:∀ a b c d e,p [a,b,c,d,e]):∀ us:List α,us.length=5->p us
 | [a,b,c,d,e],_=>h a b c d e
end L2
namespace P51
open PySem L2
def top (i:Nat):Stmt:=PySem.Challenge.pw_dimhouse_k51_all_places.main.body.getD i (.Pass ⟨0,0,0,0⟩)
noncomputable section
def k_A:List Key:=[.inr "copy",.inr "op",.inr "store",.inr "take",.inr "lay",.inr "say",.inr "if",.inr "end"]
noncomputable def dH:List Dt:=[(.tup [(.int 2),(.int 3)]),(.tup [(.int 3),(.int 5)]),(.tup [(.int 2),(.int 3)]),(.tup [(.int 3),(.int 4)]),(.tup [(.int 2),(.int 4)]),(.tup [(.int 1),(.int 2)]),(.tup [(.int 1),(.int 2)]),(.tup [(.int 1),(.int 2)])]
def de:Dt:=(.str "fresh")
def mJ:Dt:=(.str "safe")
def kr:Dt:=(.str "seen")
def lX:Dt:=(.tup [(.str "copy"),(.str "op"),(.str "load"),(.str "take"),(.str "hear")])
def iB:Dt:=(.str "spoilt")
noncomputable def z31:List Dt->Option T:=cb 2 ((ap (sIf (tB2 (gEq false) (toD (d2 aj (vB 0) (kD (.int 0)))) (kD (.str "end"))) (br (aK ae)) bV)
  (ap (sIf (tB2 (gEq false) (toD (d2 aj (vB 0) (kD (.int 0)))) (kD (.str "go"))) (br (aK (ab (toD (d2 aj (vB 0) (kD (.int 1)))) ae))) bV)
  (ap (sIf (tB2 (gEq false) (toD (d2 aj (vB 0) (kD (.int 0)))) (kD (.str "if"))) (br (aK (ab (toD (d2 aj (vB 0) (kD (.int 2)))) (ab (toD (d2 aT (vB 1) (kD (.int 1)))) ae)))) bV)
  (br (aK (ab (toD (d2 aT (vB 1) (kD (.int 1)))) ae)))))))
def y38:De->Option Bool:=(pA (iU (toD (d2 aj (vB 0) (kD (.int 2))))))
def q40:De->Option Dt:=(toD (d2 aj (vB 0) (kD (.int 0))))
def y41:De->Option Bool:=(tB2 (aY false) (vB 2) (toD (ag z31 (ab (toD (d2 aj (vB 1) (vB 0))) (ab (vL 0) ae)))))
noncomputable def q32:De->Option Out:=(ap (ar 6 (toT (toD (d2 aj (vB 2) (vB 5)))))
  (ap (ar 7 (toT (toD (aF [none,some 2,some 5] (ca pD (ab (vL 5) (ab (toD (ag bN (ab (vB 2) ae))) ae))) (ai 0) y41 (vL 0)))))
  (sIf (fOr (tB2 (gEq false) (toD (d2 aj (vB 6) (kD (.int 0)))) (kD (.str "end"))) (fOr (tB2 (gx fun i j=>decide (j<i)) (toD (ag bN (ab (vB 7) ae))) (kD (.int 0))) (cL (tB2 (aY false) (toD (d2 aj (vB 6) (kD (.int 0)))) (toD (aK (ab (kD (.str "store")) (ab (kD (.str "lay")) ae))))) (tB2 (aY false) (toD (d2 aj (vB 6) (kD (.int 1)))) (vB 3))))) (z15 4 (toD (aK (ab (vL 5) (ab (toD (ag bD (ab (toD (d2 aj (vB 1) (vB 5))) ae))) ae))))) bV)))
noncomputable def z33:List Dt->Option T:=cb 8 ((ap (ar 2 (toT (toD (d2 aj (vB 0) (kD (.int 2))))))
  (ap (ar 3 (toT (toD (aF [none] (fIt (toD (d2 ko (toD (d2 aj (vB 0) (kD (.int 0)))) (toD (d2 aj (vB 0) (kD (.int 1))))))) (ai 0) y38 q40))))
  (ap (ar 4 (bZ ae))
  (ap (cY (ca dQ (ab (toD (ag bN (ab (vB 2) ae))) ae)) (ai 5) q32)
  (br (aK (ab (toD (ag bD (ab (toD (d2 aj (vB 1) (kD (.int 0)))) ae))) (ab (toD (ag bD (ab (vB 4) ae))) ae)))))))))
noncomputable def q18:List Dt->Option T:=cb 3 ((ap (sIf (tB2 (gx fun i j=>decide (i<j)) (vB 0) (toD (ag bN (ab (vB 2) ae)))) (br (d2 aj (vB 2) (vB 0))) bV)
  (ap (sIf (tB2 (gEq false) (toD (d2 c7 (vB 1) (kD (.int 3)))) (kD (.int 0))) (br (d2 c7 (toD (d2 lN (vB 1) (kD (.int 3)))) (kD (.int 4)))) bV)
  (br (d2 c7 (toD (d2 j0 (vB 1) (kD (.int 69621)))) (toD (d2 pF (kD (.int 2)) (kD (.int 40)))))))))
def z3:List Dt->Option T:=cb 2 ((ap (sIf (tB2 (gx fun i j=>decide (i<j)) (vB 1) (toD (ag bN (ab (vB 0) ae)))) (br (d2 aj (vB 0) (vB 1))) bV) (br (toT (kD (.int 0))))))
def q41:De->Option Out:=(ap (z15 2 (toD (d2 c7 (vB 0) (vB 3)))) (ar 0 (toT (toD (d2 lN (vB 0) (vB 3))))))
def z11:List Dt->Option T:=cb 4 ((ap (ar 2 (bZ ae))
  (ap (cY (fIt (vL 1)) (ai 3) q41)
  (ia 2))))
noncomputable def y33:De->Option Out:=(ap (ar 9 (toT (toD (d2 aj (kD (.str "abcdefghijklmnopqrstuvwxyz")) (toD (d2 c7 (toD (d2 aT (toD (d2 aj (vB 3) (kD (.int 2)))) (vB 8))) (kD (.int 26)))))))) (z15 7 (toD (d2 aT (toD (d2 aT (toD (d2 iz (vB 6) (vB 5))) (vB 9))) (toD (d2 iz (vB 6) (toD (d2 eU (toD (d2 eU (vB 4) (kD (.int 1)))) (vB 5)))))))))
noncomputable def q15:List Dt->Option T:=cb 10 ((ap (ar 2 (toT (toD (d2 c7 (toD (d2 j0 (vB 0) (kD (.int 48271)))) (kD (.int 1000000007))))))
  (ap (ar 3 (toT (toD (ag z11 (ab (vL 2) (ab (toD (bZ (ab (kD (.int 6)) (ab (kD (.int 6)) (ab (kD (.int 26)) (ab (kD (.int 5)) ae)))))) ae))))))
  (ap (ar 4 (toT (toD (d2 aT (kD (.int 1)) (toD (d2 aj (vB 3) (kD (.int 0))))))))
  (ap (ar 5 (toT (toD (d2 c7 (toD (d2 aj (vB 3) (kD (.int 1)))) (vB 4)))))
  (ap (ar 6 (toT (toD (d2 aj (kD (.str "qxzjw")) (toD (d2 aj (vB 3) (kD (.int 3))))))))
  (ap (ar 7 (bZ ae))
  (ap (cY (ca dQ (ab (vL 1) ae)) (ai 8) y33)
  (ia 7)))))))))
noncomputable def y28:List Dt->Option T:=cb 14 ((ap (ar 5 (toT (toD (d2 c7 (toD (d2 j0 (vB 0) (kD (.int 48271)))) (kD (.int 1000000007))))))
  (ap (ar 6 (toT (toD (ag z11 (ab (vL 5) (ab (toD (bZ (ab (kD (.int 16)) (ab (toD (ag bN (ab (vB 4) ae))) (ab (toD (d2 aT (toD (ag bN (ab (vB 4) ae))) (kD (.int 2)))) (ab (toD (d2 aT (toD (ag bN (ab (vB 4) ae))) (kD (.int 2)))) (ab (kD (.int 9)) (ab (kD (.int 12)) (ab (vL 1) ae))))))))) ae))))))
  (ap (ar 7 (toT (toD (ag q18 (ab (toD (d2 aj (vB 6) (kD (.int 2)))) (ab (vL 0) (ab (vL 4) ae)))))))
  (ap (ar 8 (toT (toD (ag q18 (ab (toD (d2 aj (vB 6) (kD (.int 3)))) (ab (toD (d2 lN (vB 0) (kD (.int 5)))) (ab (vL 4) ae)))))))
  (ap (ar 9 (toT (toD (d2 aj (vB 4) (toD (d2 aj (vB 6) (kD (.int 1))))))))
  (ap (ar 10 (toT (toD (d2 aj (vB 2) (toD (d2 c7 (toD (d2 aj (vB 6) (kD (.int 5)))) (toD (ag bN (ab (vB 2) ae)))))))))
  (ap (ar 11 (toT (toD (d2 aj (vB 6) (kD (.int 0))))))
  (ap (sIf (cL (tB2 (aY false) (vB 11) (toD (aK (ab (kD (.int 7)) (ab (kD (.int 8)) ae))))) (tB2 (gx fun i j=>decide (j<i)) (toD (ag bN (ab (vB 3) ae))) (kD (.int 0)))) (ap (ar 12 (toT (toD (d2 aj (vB 3) (toD (d2 c7 (toD (d2 aj (vB 6) (kD (.int 5)))) (toD (ag bN (ab (vB 3) ae)))))))))
  (br (d2 aj (toD (bZ (ab (toD (aK (ab (kD (.str "take")) (ab (vL 9) (ab (vL 12) (ab (vL 7) ae)))))) (ab (toD (aK (ab (kD (.str "lay")) (ab (vL 12) (ab (vL 7) (ab (vL 8) ae)))))) ae)))) (toD (d2 eU (vB 11) (kD (.int 7))))))) bV)
  (ap (sIf (tB2 (aY false) (vB 11) (toD (aK (ab (kD (.int 3)) (ab (kD (.int 4)) (ab (kD (.int 7)) ae)))))) (br (aK (ab (kD (.str "load")) (ab (vL 9) (ab (vL 10) ae))))) bV)
  (ap (sIf (tB2 (aY false) (vB 11) (toD (aK (ab (kD (.int 5)) (ab (kD (.int 6)) (ab (kD (.int 8)) ae)))))) (br (aK (ab (kD (.str "store")) (ab (vL 10) (ab (vL 7) ae))))) bV)
  (ap (sIf (cL (tB2 (gx fun i j=>decide (j<i)) (vB 11) (kD (.int 8))) (tB2 (gx fun i j=>decide (i<j)) (vB 11) (kD (.int 15)))) (ap (ar 13 (toT (toD (bZ (ab (toD (aK (ab (kD (.str "hear")) (ab (vL 9) ae)))) (ab (toD (aK (ab (kD (.str "say")) (ab (vL 7) ae)))) (ab (toD (aK (ab (kD (.str "if")) (ab (vL 7) (ab (toD (d2 aj (vB 6) (kD (.int 6)))) ae))))) (ab (toD (aK (ab (kD (.str "if")) (ab (vL 7) (ab (toD (d2 aj (vB 6) (kD (.int 6)))) ae))))) (ab (toD (aK (ab (kD (.str "go")) (ab (toD (d2 aj (vB 6) (kD (.int 6)))) ae)))) ae)))))))))
  (br (d2 aj (toD (d2 aT (vB 13) (toD (bZ (ab (toD (aK (ab (kD (.str "end")) (ab (vL 7) ae)))) ae))))) (toD (d2 eU (vB 11) (kD (.int 9))))))) bV)
  (ap (sIf (tB2 (gEq false) (vB 11) (kD (.int 0))) (br (aK (ab (kD (.str "copy")) (ab (vL 9) (ab (vL 7) ae))))) bV)
  (br (aK (ab (kD (.str "op")) (ab (vL 9) (ab (toD (d2 aj (kD (.str "+-*<=&|^+")) (toD (d2 aj (vB 6) (kD (.int 4)))))) (ab (vL 7) (ab (vL 8) ae))))))))))))))))))))
noncomputable def q22:De->Option Out:=(z15 9 (toD (aK (ab (toD (d2 aj (vB 5) (vB 10))) (ab (toD (d2 c7 (toD (d2 j0 (toD (d2 aT (vB 8) (vB 10))) (kD (.int 982451653)))) (toD (d2 pF (kD (.int 2)) (kD (.int 40)))))) (ab (toD (d2 (gEq false) (toD (d2 aj (vB 4) (toD (d2 aT (kD (.int 3)) (toD (d2 c7 (vB 10) (kD (.int 6)))))))) (kD (.int 1)))) ae))))))
noncomputable def y20:De->Option Out:=(z15 11 (toD (aK (ab (toD (d2 aj (vB 5) (toD (d2 aT (kD (.int 8)) (vB 10))))) (ab (toD (d2 aT (kD (.int 1)) (toD (d2 aj (vB 4) (toD (d2 aT (kD (.int 9)) (toD (d2 c7 (vB 10) (kD (.int 2)))))))))) (ab (toD (d2 (gEq false) (toD (d2 aj (vB 4) (toD (d2 eU (kD (.int 7)) (vB 10))))) (kD (.int 1)))) ae))))))
def y36:De->Option Dt:=(toD (d2 aj (vB 0) (kD (.int 0))))
def z35:De->Option Dt:=(toD (d2 aj (vB 0) (kD (.int 0))))
def z21:De->Option Out:=(z15 12 (toD (ag y28 (ab (vL 14) (ab (toD (d2 aT (toD (ag bN (ab (vB 13) ae))) (kD (.int 1)))) (ab (toD (aF [none] (fIt (vB 9)) (ai 0) bf z35)) (ab (toD (aF [none] (fIt (vB 11)) (ai 0) bf y36)) (ab (vL 7) ae))))))))
noncomputable def y13:List Dt->Option T:=cb 15 ((ap (ar 3 (toT (toD (d2 c7 (toD (d2 j0 (toD (ag z3 (ab (vL 0) (ab (kD (.int 0)) ae)))) (kD (.int 69621)))) (kD (.int 1000000007))))))
  (ap (ar 4 (toT (toD (ag z11 (ab (vL 3) (ab (toD (bZ (ab (kD (.int 4)) (ab (kD (.int 3)) (ab (kD (.int 4)) (ab (kD (.int 2)) (ab (kD (.int 2)) (ab (kD (.int 2)) (ab (kD (.int 2)) (ab (kD (.int 2)) (ab (kD (.int 2)) (ab (kD (.int 8)) (ab (kD (.int 8)) (ab (kD (.int 4)) ae)))))))))))))) ae))))))
  (ap (ar 5 (toT (toD (ag q15 (ab (toD (ag z3 (ab (vL 0) (ab (kD (.int 1)) ae)))) (ab (kD (.int 12)) ae))))))
  (ap (ar 6 (toT (toD (bZ (ab (toD (d2 aT (kD (.int 1)) (toD (d2 aj (vB 4) (kD (.int 0)))))) (ab (toD (d2 aj (vB 4) (kD (.int 1)))) (ab (toD (d2 aT (kD (.int 2)) (toD (d2 aj (vB 4) (kD (.int 2)))))) ae)))))))
  (ap (sIf (cL (iU (vB 2)) (tB2 (gEq false) (toD (d2 aj (vB 4) (kD (.int 11)))) (kD (.int 1)))) (ar 6 (toT (toD (bZ (ab (kD (.int 8)) (ab (kD (.int 4)) (ab (kD (.int 12)) ae))))))) bV)
  (ap (ar 7 (toT (toD (ag q15 (ab (toD (ag z3 (ab (vL 0) (ab (kD (.int 2)) ae)))) (ab (toD (d2 aj (vB 6) (kD (.int 2)))) ae))))))
  (ap (ar 8 (toT (toD (ag z3 (ab (vL 0) (ab (kD (.int 3)) ae))))))
  (ap (ar 9 (bZ ae))
  (ap (cY (ca dQ (ab (toD (d2 aj (vB 6) (kD (.int 0)))) ae)) (ai 10) q22)
  (ap (ar 11 (bZ ae))
  (ap (cY (ca dQ (ab (toD (d2 aj (vB 6) (kD (.int 1)))) ae)) (ai 10) y20)
  (ap (ar 12 (bZ ae))
  (ap (ar 13 (toT (toD (vSl (vB 0) (ie (kD (.int 4))) (ie (toD (d2 aT (kD (.int 4)) (vB 1))))))))
  (ap (cY (fIt (vL 13)) (ai 14) z21)
  (ap (z15 12 (toD (aK (ab (kD (.str "end")) (ab (toD (ag q18 (ab (toD (d2 c7 (vB 3) (toD (d2 aT (toD (ag bN (ab (vB 7) ae))) (kD (.int 1)))))) (ab (vL 8) (ab (vL 7) ae))))) ae)))))
  (br (aK (ab (toD (ag bD (ab (vB 9) ae))) (ab (toD (ag bD (ab (vB 11) ae))) (ab (toD (ag bD (ab (vB 12) ae))) ae)))))))))))))))))))))
noncomputable def z54:List Dt->Option T:=cb 2 ((ap (sIf (tB2 (gEq false) (toD (d2 aj (vB 1) (kD (.int 0)))) (kD (.str "go"))) (br (aK (ab (toD (d2 aj (vB 1) (kD (.int 1)))) ae))) bV)
  (ap (sIf (tB2 (gEq false) (toD (d2 aj (vB 1) (kD (.int 0)))) (kD (.str "if"))) (br (aK (ab (toD (d2 aj (vB 1) (kD (.int 2)))) (ab (toD (d2 aT (vB 0) (kD (.int 1)))) ae)))) bV)
  (ap (sIf (tB2 (gEq false) (toD (d2 aj (vB 1) (kD (.int 0)))) (kD (.str "end"))) (br (aK ae)) bV)
  (br (aK (ab (toD (d2 aT (vB 0) (kD (.int 1)))) ae)))))))
def z82:De->Option Dt:=(toD (ag z54 (ab (vL 0) (ab (vL 1) ae))))
def bR:List Dt->Option T:=cb 1 ((br (aF [none,none] (ca f8 (ab (toD (d2 aj (vB 0) (kD (.int 2)))) ae)) (dP 2 (aJ (ai 0) (aJ (ai 1) dO))) bf z82)))
def q68:List Dt->Option T:=cb 1 ((br (vIf (tB2 (aY false) (toD (d2 aj (vB 0) (kD (.int 0)))) (kD lX)) (d2 aj (vB 0) (kD (.int 1))) (toT (kD .non)))))
noncomputable def y67:List Dt->Option T:=cb 2 ((ap (sIf (fSi true k_A dH (toD (d2 aj (vB 0) (kD (.int 0))))) (br (aK ae)) bV)
  (ap (ar 1 (toT (toD (vSg k_A dH (toD (d2 aj (vB 0) (kD (.int 0))))))))
  (br (vSl (vB 0) (ie (toD (d2 aj (vB 1) (kD (.int 0))))) (ie (toD (d2 aj (vB 1) (kD (.int 1))))))))))
def z53:De->Option Out:=(sIf (cL (iU (toD (nT "str" (vB 2)))) (tB2 (aY true) (vB 2) (vB 1))) (z15 1 (vL 2)) bV)
def z58:List Dt->Option T:=cb 3 ((ap (ar 1 (bZ ae))
  (ap (cY (fIt (toD (ag y67 (ab (vL 0) ae)))) (ai 2) z53)
  (ia 1))))
def z36:De->Option Bool:=(tB2 (gEq true) (vB 0) (toD (ag q68 (ab (vL 1) ae))))
def q37:De->Option Out:=(q43 2 (aF [none,some 0] (fIt (vB 3)) (ai 0) z36 (vL 0)))
def y17:List Dt->Option T:=cb 4 ((ap (ar 2 (ag z58 (ab (vL 0) ae)))
  (ap (cY (fIt (vL 1)) (ai 3) q37)
  (br (ag iy (ab (vB 2) ae))))))
def y24:Fg:=(eN (bZ ae))
def q50:De->Option Dt:=(toD (d2 aj (vB 1) (vB 0)))
noncomputable def z50:Fs:=(aw (aC 6 (eDV 2 (ag y17 (ab (toD (d2 aj (vB 1) (vB 5))) (ab (toD (aF [none,some 3] (fIt (toD (d2 aj (vB 2) (vB 5)))) (ai 0) bf q50)) ae)))))
  (e5 (tDV 2 (tB2 (gEq true) (vB 6) (toD (d2 aj (vB 3) (vB 5))))) (aw (lF (eV 3) (eD (vL 5)) (eV 6))
  (aC 4 (eD (kD (.bl true))))) dX))
def y49:Fs:=(aw (aC 4 (eD (kD (.bl false)))) (io (ca sT (ab (toD (d2 eU (toD (ag bN (ab (vB 1) ae))) (kD (.int 1)))) (ab (toD (uX (kD (.int 1)))) (ab (toD (uX (kD (.int 1)))) ae)))) [5] (ai 5) z50))
def y71:Ft:=(tD (iU (vB 4)))
noncomputable def y11:Fd:=e6 7 ((aw (aC 1 (eD (toD (d2 aj (vB 0) (kD (.int 2))))))
  (aw (aC 2 (eD (toD (ag bR (ab (vL 0) ae)))))
  (aw (aC 3 (n8 [none] (fIt (vL 1)) [0] (ai 0) bf y24))
  (aw (aC 4 (eD (kD (.bl true))))
  (aw (b8 y71 y49 100000)
  (dz (eV 3))))))))
def q54:De->Option Bool:=(pA (iU (toD (d2 aj (vB 0) (kD (.int 2))))))
def q53:De->Option Dt:=(toD (d2 aj (vB 0) (kD (.int 0))))
def z4:List Dt->Option T:=cb 1 ((br (aF [none] (fIt (toD (d2 ko (toD (d2 aj (vB 0) (kD (.int 0)))) (toD (d2 aj (vB 0) (kD (.int 1))))))) (ai 0) q54 q53)))
noncomputable def q17:De->Option Out:=(sIf (fOr (tB2 (gEq false) (toD (d2 aj (vB 4) (kD (.int 0)))) (kD (.str "end"))) (cL (tB2 (aY false) (toD (d2 aj (vB 4) (kD (.int 0)))) (toD (aK (ab (kD (.str "store")) (ab (kD (.str "lay")) ae))))) (tB2 (aY false) (toD (d2 aj (vB 4) (kD (.int 1)))) (vB 1)))) (z15 2 (vL 3)) bV)
def y19:List Dt->Option T:=cb 5 ((ap (ar 1 (toT (toD (ag z4 (ab (vL 0) ae)))))
  (ap (ar 2 (bZ ae))
  (ap (cY (ca f8 (ab (toD (d2 aj (vB 0) (kD (.int 2)))) ae)) (dP 2 (aJ (ai 3) (aJ (ai 4) dO))) q17)
  (ia 2)))))
def q19:De->Option Bool:=(tB2 (gx fun i j=>decide (i<=j)) (vB 0) (vB 1))
def q12:De->Option Out:=(q43 1 (aF [none,some 2] (fIt (vB 3)) (ai 0) q19 (vL 0)))
def q14:List Dt->Option T:=cb 4 ((ap (ar 1 (bZ ae))
  (ap (cY (ca f8 (ab (toD (ag bR (ab (vL 0) ae))) ae)) (dP 2 (aJ (ai 2) (aJ (ai 3) dO))) q12)
  (ia 1))))
def z34:De->Option Dt:=(toD (aK (ab (vL 0) (ab (toD (ag bD (ab (toD (d2 aj (vB 1) (vB 0))) ae))) ae))))
noncomputable def y21:List Dt->Option T:=cb 3 ((ap (ar 1 (toT (toD (ag (d9 y11) (ab (vL 0) ae)))))
  (ap (ar 2 (toT (toD (ag d6 (ab (toD (d2 aT (toD (ag y19 (ab (vL 0) ae))) (toD (ag q14 (ab (vL 0) ae))))) ae)))))
  (br (aK (ab (toD (ag bD (ab (toD (d2 aj (vB 1) (kD (.int 0)))) ae))) (ab (toD (ag bD (ab (toD (aF [none,some 1] (fIt (vB 2)) (ai 0) bf z34)) ae))) ae)))))))
def y61:De->Option Dt:=(toD (d2 aj (vB 0) (kD (.int 0))))
def z8:List Dt->Option T:=cb 1 ((br (aF [none] (fIt (toD (d2 aj (vB 0) (kD (.int 1))))) (ai 0) bf y61)))
def q30:De->Option Out:=(sIf (cL (tB2 (gEq false) (toD (d2 aj (vB 4) (kD (.int 0)))) (kD (.str "end"))) (tB2 (aY true) (vB 3) (vB 2))) iX bV)
def y30:List Dt->Option T:=cb 5 ((ap (ar 2 (toT (toD (ag z8 (ab (vL 1) ae)))))
  (ap (cY (ca f8 (ab (toD (d2 aj (vB 0) (kD (.int 2)))) ae)) (dP 2 (aJ (ai 3) (aJ (ai 4) dO))) q30)
  (br (toT (kD .non))))))
def q28:De->Option Dt:=(toD (d2 (aY false) (vB 0) (vB 1)))
def y12:De->Option Bool:=(iU (toD (ag (xI fun bs=>bs.any id) (ab (toD (aF [none,some 2] (fIt (toD (d2 aj (vB 1) (vB 0)))) (ai 0) bf q28)) ae))))
noncomputable def q29:De->Option Out:=(ap (ar 4 (toT (toD (aF [none,some 0,some 2] (fIt (vB 2)) (ai 0) y12 (vL 0)))))
  (ap (ar 3 (toT (toD (d2 (gx fun i j=>decide (i<j)) (toD (ag bN (ab (vB 4) ae))) (toD (ag bN (ab (vB 2) ae)))))))
  (ar 2 (toT (vL 4)))))
def y35:De->Option Bool:=(iU (vB 3))
def y16:List Dt->Option T:=cb 5 ((ap (ar 2 (toT (vL 1)))
  (ap (ar 3 (toT (kD (.bl true))))
  (ap (cM y35 q29 100000)
  (ia 2)))))
def q20:De->Option Bool:=(tB2 (aY true) (vB 0) (vB 1))
noncomputable def y26:Fd:=e6 7 ((aw (aC 2 (eD (toD (ag z8 (ab (vL 1) ae)))))
  (aw (aC 3 (eD (toD (ag bR (ab (vL 0) ae)))))
  (aw (aC 4 (eD (toD (ag y16 (ab (vL 3) (ab (toD (aF [none,some 2] (ca dQ (ab (toD (ag bN (ab (vB 3) ae))) ae)) (ai 0) q20 (vL 0))) ae))))))
  (aw (e5 (tD (tB2 (gEq false) (toD (ag bN (ab (vB 4) ae))) (kD (.int 0)))) (dz (eD (kD .non))) dX)
  (aw dy
  (aw dy
  (aw dy
  dy))))))))
def y57:De->Option Bool:=(tB2 (aY true) (vB 0) (vB 1))
def y44:De->Option Dt:=(toD (aF [none,some 1] (fIt (vB 0)) (ai 0) y57 (vL 0)))
def z22:List Dt->Option T:=cb 3 ((ap (ar 2 (toT (toD (ag z8 (ab (vL 1) ae))))) (br (aF [none,some 2] (fIt (toD (ag bR (ab (vL 0) ae)))) (ai 0) bf y44))))
def q89 (G:Orc):Fs:=(eO (eV 3) (eD (vL 4)) (eD (kD .non)))
def z89 (G:Orc):Fs:=(e5 (tF (eD (vL 8)) (eV 3)) (aw (eO (eV 3) (eD (vL 8)) (eD (vL 7))) (n5 (eV 5) (eD (vL 8)))) dX)
def y90 (G:Orc):Fs:=(aw (aC 7 (eIx (eV 5) (eD (vL 6))))
  (aw (kn (fun i j=>i+j) 6 (eD (kD (.int 1))))
  (aw (e5 (j6 (eCl G 2 (aO (eD (vL 7)) cG))) dy dX)
  (j9 (eCl G 1 (aO (eD (vL 7)) cG)) (ggN 8) (z89 G) 100000))))
def q90 (G:Orc):Ft:=(iY (e2 (gx fun i j=>decide (i<j)) (eD (vL 6)) (eB bN (aO (eV 5) cG))))
def q67 (G:Orc):Fd:=e6 9 ((aw (aC 3 eNT)
  (aw (io (fIt (vL 0)) [4] (ai 4) (q89 G))
  (aw (aC 5 (eLT (eV 3)))
  (aw (aC 6 (eD (kD (.int 0))))
  (aw (b8 (q90 G) (y90 G) 100000)
  (dz (eD (kD .non)))))))))
noncomputable def q23:List Dt->Option T:=cb 3 ((ap (sIf (cL (tB2 (gEq false) (vB 0) (kD de)) (cL (tB2 (aY false) (toD (d2 aj (vB 1) (kD (.int 0)))) (toD (aK (ab (kD (.str "load")) (ab (kD (.str "take")) ae))))) (tB2 (gEq false) (toD (d2 aj (vB 1) (kD (.int 2)))) (vB 2)))) (br (toT (kD kr))) bV)
  (ap (sIf (cL (tB2 (gEq false) (vB 0) (kD de)) (cL (tB2 (gEq false) (toD (d2 aj (vB 1) (kD (.int 0)))) (kD (.str "store"))) (tB2 (gEq false) (toD (d2 aj (vB 1) (kD (.int 1)))) (vB 2)))) (br (toT (kD mJ))) bV)
  (ap (sIf (cL (tB2 (gEq false) (vB 0) (kD kr)) (cL (tB2 (aY false) (toD (d2 aj (vB 1) (kD (.int 0)))) (toD (aK (ab (kD (.str "store")) (ab (kD (.str "lay")) ae))))) (tB2 (gEq false) (toD (d2 aj (vB 1) (kD (.int 1)))) (vB 2)))) (br (toT (kD iB))) bV)
  (ia 0)))))
def y48:De->Option Dt:=(toD (aK (ab (vL 0) (ab (vL 1) ae))))
noncomputable def bu:De->Option Out:=(ap (ar 1 (toT (toD (ag q23 (ab (toD (d2 aj (vB 0) (kD (.int 1)))) (ab (toD (d2 aj (vB 3) (toD (d2 aj (vB 0) (kD (.int 0)))))) (ab (vL 2) ae))))))) (br (vIf (tB2 (gEq false) (vB 1) (kD mJ)) (bZ ae) (aF [none,some 1] (fIt (toD (d2 aj (vB 4) (toD (d2 aj (vB 0) (kD (.int 0))))))) (ai 0) bf y48))))
def bv:De->Option Out:=(br (d2 (gEq false) (toD (ag q23 (ab (toD (d2 aj (vB 0) (kD (.int 1)))) (ab (toD (d2 aj (vB 2) (toD (d2 aj (vB 0) (kD (.int 0)))))) (ab (vL 1) ae))))) (kD iB)))
def z59:De->Option Dt:=(toD (aK (ab (vL 0) (ab (kD de) ae))))
def y59:Fg:=(eD (toD (aF [none] (fIt (toD (d2 aT (toD (bZ (ab (kD (.int 0)) ae))) (toD (ag z8 (ab (vL 1) ae)))))) (ai 0) bf z59)))
noncomputable def y51:Fd:=e6 8 ((aw (e5 (tD (tB2 (aY true) (vB 2) (toD (ag z4 (ab (vL 0) ae))))) (dz (eD (kD .non))) dX)
  (aw (aC 3 (eD (toD (d2 aj (vB 0) (kD (.int 2))))))
  (aw (aC 4 (eD (toD (ag z22 (ab (vL 0) (ab (vL 1) ae))))))
  (fun δ ch=>(aw (aC 7 (fRt [2,3,4] [2,3] ["place","mark","name","rows","inner"] ["place","name","rows"] bu bv y59 q67))
  (dz (eIf (iY (e2 (gIs false) (eV 7) (eD (kD .non)))) (eD (kD .non)) (eD (toD zD))))) (km 5 6 δ) ch)))))
def z41:Fs:=(aw (aC 3 (eC y51 (aO (eD (vL 0)) (aO (eD (vL 1)) (aO (eD (vL 2)) cG))))) (e5 (iY (e2 (gIs true) (eV 3) (eD (kD .non)))) dy dX))
def z30:Fd:=e6 4 ((aw (io (fIt (toD (ag z4 (ab (vL 0) ae)))) [2] (ai 2) z41) (dz (eD (kD .non)))))
def y55:De->Option Dt:=(toD (aK (ab (toD (d2 aj (vB 0) (kD (.int 0)))) (ab (toD (d2 aj (vB 0) (kD (.int 1)))) (ab (kD (.bl false)) ae)))))
def z43:De->Option Out:=(sIf (tB2 (aY true) (vB 7) (vB 5)) iX bV)
def y45:De->Option Out:=(cY (fIt (toD (d2 aj (vB 2) (vB 4)))) (ai 7) z43)
noncomputable def z27:List Dt->Option T:=cb 8 ((ap (ar 2 (toT (toD (ag (d9 y11) (ab (vL 0) ae)))))
  (ap (ar 3 (toT (toD (d2 aT (toD (bZ (ab (toD (aK (ab (kD (.int 0)) (ab (toD (d2 aj (vB 1) (kD (.int 0)))) (ab (kD (.bl true)) ae))))) ae))) (toD (aF [none] (fIt (toD (d2 aj (vB 1) (kD (.int 1))))) (ai 0) bf y55))))))
  (ap (cY (fIt (vL 3)) (dP 3 (aJ (ai 4) (aJ (ai 5) (aJ (ai 6) dO)))) y45)
  (br (toT (kD .non)))))))
noncomputable def q51:Fd:=e6 3 ((aw (aC 2 (eN (ag y30 (ab (vL 0) (ab (vL 1) ae)))))
  (aw (e5 (iY (e2D 2 (gIs false) (eV 2) (eD (kD .non)))) (aC 2 (eC y26 (aO (eD (vL 0)) (aO (eD (vL 1)) cG)))) dX)
  (aw (e5 (iY (e2D 2 (gIs false) (eV 2) (eD (kD .non)))) (aC 2 (eC z30 (aO (eD (vL 0)) (aO (eD (vL 1)) cG)))) dX)
  (aw (e5 (iY (e2D 2 (gIs false) (eV 2) (eD (kD .non)))) (aC 2 (eN (ag z27 (ab (vL 0) (ab (vL 1) ae))))) dX)
  (dz (eV 2)))))))
def z37:Fd:=e6 2 ((dz (e2D 2 (gIs false) (eC q51 (aO (eD (vL 0)) (aO (eD (vL 1)) cG))) (eD (kD .non)))))
def z69:De->Option Bool:=(tB2 (gEq true) (toD (d2 aj (vB 0) (kD (.int 0)))) (vB 1))
def y37:List Dt->Option T:=cb 2 ((br (aK (ab (toD (d2 aj (vB 0) (kD (.int 0)))) (ab (toD (ag bD (ab (toD (aF [none,some 1] (fIt (toD (d2 aj (vB 0) (kD (.int 1))))) (ai 0) z69 (vL 0))) ae))) ae)))))
def y86:De->Option Bool:=(tB2 (gEq true) (toD (d2 aj (vB 0) (kD (.int 0)))) (vB 1))
noncomputable def y56:De->Option Out:=(ap (ar 6 (toT (toD (ag y37 (ab (vL 3) (ab (vL 5) ae))))))
  (ap (sIf (tB2 (gEq true) (vB 6) (toD (aK (ab (toD (d2 aj (vB 3) (kD (.int 0)))) (ab (toD (ag bD (ab (toD (aF [none,some 5] (fIt (toD (d2 aj (vB 3) (kD (.int 1))))) (ai 0) y86 (vL 0))) ae))) ae))))) iX bV)
  (sIf (tB2 (gEq true) (toD (d2 (gEq false) (vB 6) (vB 3))) (toD (d2 (aY true) (vB 5) (vB 4)))) iX bV)))
noncomputable def rz:List Dt->Option T:=cb 7 ((ap (ar 1 (toT (toD (ag y13 (ab (vL 0) (ab (kD (.int 24)) (ab (kD (.bl true)) ae)))))))
  (ap (ar 2 (toT (toD (ag (d9 y11) (ab (vL 1) ae)))))
  (ap (ar 3 (toT (toD (ag y21 (ab (vL 1) ae)))))
  (ap (sIf (fOr (pA (iU (toD (nT "tuple" (vB 3))))) (fOr (tB2 (gEq true) (vB 3) (toD (ag z33 (ab (vL 1) (ab (vL 2) ae))))) (tB2 (xQ true) (toD (ag (d9 z37) (ab (vL 1) (ab (vL 3) ae)))) (kD (.bl true))))) iX bV)
  (ap (ar 4 (toT (toD (aF [none,none] (fIt (toD (d2 aj (vB 3) (kD (.int 1))))) (dP 2 (aJ (ai 0) (aJ (ai 1) dO))) bf (vL 0)))))
  (ap (cY (ca dQ (ab (toD (ag bN (ab (toD (d2 aj (vB 1) (kD (.int 2)))) ae))) ae)) (ai 5) y56)
  (br (d2 (gEq false) (toD (ag y21 (ab (vL 1) ae))) (vB 3))))))))))
end
structure Txt (P:qc5) (w:World) (K:xA9) (mg:Str->Option Value):Prop where
 n_any:mg "any"=none
 n_enumerate:mg "enumerate"=none
 n_isinstance:mg "isinstance"=none
 n_len:mg "len"=none
 n_list:mg "list"=none
 n_range:mg "range"=none
 n_set:mg "set"=none
 n_sorted:mg "sorted"=none
 n_str:mg "str"=none
 n_tuple:mg "tuple"=none
 g_A:xL P w K mg "ATOM_PLACES" k_A dH
 g_D:ig K mg "FRESH" de
 g_F:ig K mg "SAFE" mJ
 g_E:ig K mg "SEEN" kr
 g_B:ig K mg "SETTING" lX
 g_C:ig K mg "SPOILT" iB
 is:tE K=true
 k_str:j2 K "str"
 k_tuple:j2 K "tuple"
local macro_rules | `(tactic| walk_at "x") => `(tactic| (repeat' (first | ((with_reducible show DB _ _ _); first | refine DO.toB ?_ | exact dbX (by kernel_rfl) | refine DL.toB ?_) | ((with_reducible show DL _ _ _); first | refine DO.toL ?_ | exact dlX (by kernel_rfl) | exact fA | exact A8 | exact lm | exact ck | exact dlG (by kernel_rfl) ‹Txt _ _ _ _›.g_D | exact dlG (by kernel_rfl) ‹Txt _ _ _ _›.g_F | exact dlG (by kernel_rfl) ‹Txt _ _ _ _›.g_E | exact dlG (by kernel_rfl) ‹Txt _ _ _ _›.g_B | exact dlG (by kernel_rfl) ‹Txt _ _ _ _›.g_C) | ((with_reducible show DO _ _ _); first | refine Bg ‹Room _ _› ?_ ?_ | refine DL.toO ?_ | refine fE ?_ | refine c6 ?_ | refine doF (by kernel_rfl) ‹_› ‹Room _ _› (by decide) ?_ | refine cK jD qV ?_ ?_ | refine cK AK Dj ?_ ?_ | refine cK AL Dk ?_ ?_ | refine cK vj Br ?_ ?_ | refine cK pf uQ ?_ ?_ | refine doB (by kernel_rfl) (nB rfl) (zy (f := fun bs => bs.any id)) ‹Txt _ _ _ _›.n_any uA ?_ | refine doB (by kernel_rfl) np zw ‹Txt _ _ _ _›.n_len uz ?_ | refine doB (by kernel_rfl) call_sortedS c_sorted ‹Txt _ _ _ _›.n_sorted bt_sorted ?_ | refine doT (by kernel_rfl) cR jE ‹Txt _ _ _ _›.n_tuple fu ?_ | refine fB (uR ‹Room _ _›) r_eq ?_ ?_ (aV _) | refine fB (pG ‹Room _ _›) Bb ?_ ?_ (aV _) | refine fB ui ic ?_ ?_ (aV _) | refine fB zf ic ?_ ?_ (aV _) | refine fB zg ic ?_ ?_ (aV _) | refine fB op_ge ic ?_ ?_ (aV _) | refine fB gp pH ?_ ?_ (aV _) | refine fB mf mx ?_ ?_ (aV _) | refine Dm ‹Room _ _› ?_ ?_ | refine uY ‹Room _ _› ?_ ?_ | refine uW ?_ ?_ ?_ | refine zt ?_ ?_ ?_ | refine do_not ?_ | refine Bf ?_ | refine do_and ?_ ?_ | refine do_or ?_ ?_ | refine do_one ?_ | refine cK yp BD ?_ ?_ | refine cK yq BF ?_ ?_) | ((with_reducible show DT _ _ _); first | refine dE (uR ‹Room _ _›) r_eq ?_ ?_ (aV _) | refine dE (pG ‹Room _ _›) Bb ?_ ?_ (aV _) | refine dE ui ic ?_ ?_ (aV _) | refine dE zf ic ?_ ?_ (aV _) | refine dE zg ic ?_ ?_ (aV _) | refine dE op_ge ic ?_ ?_ (aV _) | refine dE gp pH ?_ ?_ (aV _) | refine dE mf mx ?_ ?_ (aV _) | refine Dn ‹Room _ _› ?_ ?_ | refine uZ ‹Room _ _› ?_ ?_ | refine DW.t (pB ?_ ?_) | refine DW.t (qR ?_ ?_) | refine uK ?_ | refine hV ?_ (fun _ => rfl)) | ((with_reducible show DA _ _ _); first | refine aZ ?_ ?_ | exact bq) | ((with_reducible show DAB _ _ _); first | refine fC ?_ ?_ | exact hX) | refine pB ?_ ?_ | refine qR ?_ ?_ | refine qQ ?_ | refine uL ?_ | exact dp_none | refine xH ?_)))
seal qf7 toD toT vB vL kD d2 aK bZ ag ab ae tB2 cL fOr pA iU vSl ie Dl vIf vNot uX vAnd vOr
variable {X:Cx} {e:Expr} {i:Nat} {sc:Scope} {N:List Str} {x:Str} {pos':Pos}
theorem dsN {f:De->Option T} {pos:Pos} (h:cz sc N=true) (q:N.Nodup) (L:DO X e f) (e0:N[i]?=some x:=by rfl) (e1:bA X sc:=by rfl) (e2:X.N=N:=by rfl) (O:X.fn x=true∨X.env.scope.names.lookup x=some .local:=by exact .inl rfl) (U:qk4 e (some (.Name x pos')) pos.line X.env=pure false:=by rfl):DS1 X (.Assign [.Name x pos'] e pos) (ar i f):=uN (nsN h i e0) (nsL h i e0) q L e1 e2 O U
theorem gsN {f:Fg} {pos:Pos} (h:cz sc N=true) (q:N.Nodup) (L:GE X e f) (e0:N[i]?=some x:=by rfl) (e1:bA X sc:=by rfl) (e2:X.N=N:=by rfl) (O:X.fn x=true∨X.env.scope.names.lookup x=some .local:=by exact .inl rfl) (U:qk4 e (some (.Name x pos')) pos.line X.env=pure false:=by rfl):GS1 X (.Assign [.Name x pos'] e pos) (aC i f):=Bl (nsN h i e0) (nsL h i e0) q L e1 e2 O U
theorem doC {p pos:Pos} {iter elt:Expr} {ifs:List Expr} {scope:Scope} {src:List (Option Nat)} {fi:De->Option (List Dt)} {ft:De->Option Bool} {fe:De->Option Dt} (M:List Str) (h:(uC X.N X.env.scope scope M src&&cV (jU scope X.env.scope) M 0 x&&loOk (jU scope X.env.scope) x&&decide (src[0]?=some none))=true) (hi:DIB X (.Name x p) iter fi) (W:∀ C s H ex,DTs (cxC X M scope C s H ex) ifs ft) (q:∀ C s H ex,DL (cxC X M scope C s H ex) elt fe) (U:X.calm=true:=by rfl) (O:∀ x,qg8 iter X.env x=pure x:=by intro _;rfl):DO X (.ListComp elt [⟨.Name x p,iter,ifs,0⟩] scope pos) (aF src fi (ai 0) ft fe):=by simp only [qa9] at h;exact jC (ts:=[0]) (CmpScope.of h.1.1.1) U hi (fun L C s H ex=>ax (bP h.1.1.2 h.1.2 L (scC rfl))) W q (by simp only [qj5,zh8,qm8];exact h.2) O
theorem fnS {P:List Str} (h:N.Nodup/\N.take P.length=P/\(∀ x∈P,sc.names.lookup x=some .local∨sc.names.lookup x=some .cell)/\∀ y∈sc.names,y.2≠.free) (a:sc.kind=.function:=by rfl) (b:sc.isCoroutine=false:=by rfl) (c:sc.isGenerator=false:=by rfl):FnScope N P sc:=⟨a,b,c,h.1,h.2.1,h.2.2.1,h.2.2.2⟩
section
variable {P:qc5} {w:World} {K:xA9} {mg:Str->Option Value} {base:Heap}
abbrev z39:Stmt:=top 44
theorem y81:FnScope ["_law_row_here","_law_at"] ["_law_row_here","_law_at"] (ac z39):=fnS (by decide +kernel)
theorem z81 (T:Txt P w K mg) (D:DefF K mg "_law_leads" z39 ["_law_row_here","_law_at"]):OkF P w K mg base "_law_leads" 1 ["_law_row_here","_law_at"] (spD K 2 z31):=
 bM D y81 rfl fun f cdv A outer s H E q=>(ah (bF (by walk_at "x") (am (aA (fE bq))) aS)
     (ah (bF (by walk_at "x") (am (aA (by walk_at "x"))) aS)
     (ah (bF (by walk_at "x") (am (aA (by walk_at "x"))) aS)
     (am (aA (by walk_at "x"))))))
abbrev q25:Stmt:=top 45
theorem y25:FnScope ["_law_program_here","_law_need","_law_rows","_law_names_here","_law_found","_law_at","_law_row_here","_law_back"] ["_law_program_here","_law_need"] (ac q25):=fnS (by decide +kernel)
theorem bh:cz (ac q25) ["_law_program_here","_law_need","_law_rows","_law_names_here","_law_found","_law_at","_law_row_here","_law_back"]=true:=by decide +kernel
theorem q49:aB (ac q25) "range"=true:=by decide +kernel
theorem q86 (T:Txt P w K mg) (D:DefF K mg "_law_due" q25 ["_law_program_here","_law_need"]) (L:OkF P w K mg base "_law_leads" 1 ["_law_row_here","_law_at"] (spD K 2 (z31))):OkF P w K mg base "_law_due" 2 ["_law_program_here","_law_need"] (spD K 2 z33):=
 bM D y25 rfl fun f cdv A outer s H E O=>(ah (dsN bh y25.nd (DL.toO (by walk_at "x")))
     (ah (il (nsN bh 3) (nsL bh 3) y25.nd (M:=["_law_one"]) (src:=[none]) (ts:=[0]) (CmpScope.of (by kernel_rfl)) rfl (bc (by walk_at "x")) (fun q _ _ _ _=>(ax (bP (N:=["_law_one"]) (i:=0) (by decide +kernel) (by decide +kernel) q (scC (outer:=ac q25) (by exact rfl))))) (fun _ _ _ _=>cU (by walk_at "x")) (fun _ _ _ _=>(by walk_at "x")) (by decide +kernel))
     (ah (dsN bh y25.nd (c6 bq))
     (ah (cx qd3 rfl (dj q49 T.n_range (by walk_at "x")) (ax (aE (nsN bh 5) (nsL bh 5) y25.nd)) (ah (dsN bh y25.nd (DL.toO (by walk_at "x")))
     (ah (il (nsN bh 7) (nsL bh 7) y25.nd (M:=["_law_k","_law_rows","_law_at"]) (src:=[none,some 2,some 5]) (ts:=[0]) (CmpScope.of (by kernel_rfl)) rfl (DIF.toB (sH q49 T.n_range (by walk_at "x"))) (fun q _ _ _ _=>(ax (bP (N:=["_law_k","_law_rows","_law_at"]) (i:=0) (by decide +kernel) (by decide +kernel) q (scC (outer:=ac q25) (by exact rfl))))) (fun _ _ _ _=>cU (by walk_at "x")) (fun _ _ _ _=>(by walk_at "x")) (by decide +kernel))
     (am (bF (by walk_at "x") (am (bX (pvN 4 bh) (by walk_at "x"))) aS)))))
     (am (aA (by walk_at "x")))))))
abbrev z46:Stmt:=top 41
theorem y84:FnScope ["_law_digit","_law_cell","_law_boxes"] ["_law_digit","_law_cell","_law_boxes"] (ac z46):=fnS (by decide +kernel)
theorem y83 (T:Txt P w K mg) (D:DefF K mg "_law_atom" z46 ["_law_digit","_law_cell","_law_boxes"]):OkF P w K mg base "_law_atom" 1 ["_law_digit","_law_cell","_law_boxes"] (spD K 3 q18):=
 bM D y84 rfl fun f cdv A outer s H E q=>(ah (bF (by walk_at "x") (am (aA (by walk_at "x"))) aS)
     (ah (bF (by walk_at "x") (am (aA (by walk_at "x"))) aS)
     (am (aA (cK pf uQ (by walk_at "x") (DO.toB (cK ug zu (DL.toB fA) (DL.toB fA))))))))
abbrev q34:Stmt:=top 38
theorem q72:FnScope ["_law_script","_law_k"] ["_law_script","_law_k"] (ac q34):=fnS (by decide +kernel)
theorem z73 (T:Txt P w K mg) (D:DefF K mg "_law_cell_at" q34 ["_law_script","_law_k"]):OkF P w K mg base "_law_cell_at" 1 ["_law_script","_law_k"] (spD K 2 z3):=
 bM D q72 rfl fun f cdv A outer s H E q=>(ah (bF (by walk_at "x") (am (aA (by walk_at "x"))) aS)
     (am (aA (DL.toO fA))))
abbrev z29:Stmt:=top 39
theorem q33:FnScope ["_law_number","_law_sizes","_law_digits_here","_law_size"] ["_law_number","_law_sizes"] (ac z29):=fnS (by decide +kernel)
theorem bI:cz (ac z29) ["_law_number","_law_sizes","_law_digits_here","_law_size"]=true:=by decide +kernel
theorem z75 (T:Txt P w K mg) (D:DefF K mg "_law_digits" z29 ["_law_number","_law_sizes"]):OkF P w K mg base "_law_digits" 1 ["_law_number","_law_sizes"] (spD K 2 z11):=
 bM D q33 rfl fun f cdv A outer s H E q=>(ah (dsN bI q33.nd (c6 bq))
     (ah (cx qd3 rfl (eG (by walk_at "x")) (ax (aE (nsN bI 3) (nsL bI 3) q33.nd)) (ah (bX (pvN 2 bI) (by walk_at "x"))
     (am (dsN bI q33.nd (DL.toO (by walk_at "x"))))))
     (am (eF (pvN 2 bI)))))
abbrev z26:Stmt:=top 40
theorem z12:FnScope ["_law_cell","_law_many","_law_number","_law_digits_here","_law_size","_law_at","_law_fill","_law_found","_law_k","_law_letter"] ["_law_cell","_law_many"] (ac z26):=fnS (by decide +kernel)
theorem aI:cz (ac z26) ["_law_cell","_law_many","_law_number","_law_digits_here","_law_size","_law_at","_law_fill","_law_found","_law_k","_law_letter"]=true:=by decide +kernel
theorem z63:aB (ac z26) "range"=true:=by decide +kernel
theorem z80 (T:Txt P w K mg) (D:DefF K mg "_law_names" z26 ["_law_cell","_law_many"]) (q:OkF P w K mg base "_law_digits" 1 ["_law_number","_law_sizes"] (spD K 2 (z11))):OkF P w K mg base "_law_names" 2 ["_law_cell","_law_many"] (spD K 2 q15):=
 bM D z12 rfl fun f cdv A outer s H E L=>(ah (dsN aI z12.nd (DL.toO (by walk_at "x")))
     (ah (dsN aI z12.nd (DL.toO (by walk_at "x")))
     (ah (dsN aI z12.nd (DL.toO (by walk_at "x")))
     (ah (dsN aI z12.nd (DL.toO (by walk_at "x")))
     (ah (dsN aI z12.nd (DL.toO (by walk_at "x")))
     (ah (dsN aI z12.nd (c6 bq))
     (ah (cx qd3 rfl (dj z63 T.n_range (by walk_at "x")) (ax (aE (nsN aI 8) (nsL aI 8) z12.nd)) (ah (dsN aI z12.nd (DL.toO (by walk_at "x")))
     (am (bX (pvN 7 aI) (by walk_at "x")))))
     (am (eF (pvN 7 aI))))))))))
abbrev q39:Stmt:=top 42
theorem z14:FnScope ["_law_cell","_law_many","_law_cells","_law_shelves","_law_boxes","_law_number","_law_digits_here","_law_one","_law_other","_law_x","_law_c","_law_kind","_law_f","_law_some"] ["_law_cell","_law_many","_law_cells","_law_shelves","_law_boxes"] (ac q39):=fnS (by decide +kernel)
theorem bC:cz (ac q39) ["_law_cell","_law_many","_law_cells","_law_shelves","_law_boxes","_law_number","_law_digits_here","_law_one","_law_other","_law_x","_law_c","_law_kind","_law_f","_law_some"]=true:=by decide +kernel
theorem y85 (T:Txt P w K mg) (D:DefF K mg "_law_row" q39 ["_law_cell","_law_many","_law_cells","_law_shelves","_law_boxes"]) (L:OkF P w K mg base "_law_atom" 1 ["_law_digit","_law_cell","_law_boxes"] (spD K 3 (q18))) (q:OkF P w K mg base "_law_digits" 1 ["_law_number","_law_sizes"] (spD K 2 (z11))):OkF P w K mg base "_law_row" 2 ["_law_cell","_law_many","_law_cells","_law_shelves","_law_boxes"] (spD K 5 y28):=
 bM D z14 rfl fun f cdv A outer s H E O=>(ah (dsN bC z14.nd (DL.toO (by walk_at "x")))
     (ah (dsN bC z14.nd (DL.toO (by walk_at "x")))
     (ah (dsN bC z14.nd (DL.toO (by walk_at "x")))
     (ah (dsN bC z14.nd (DL.toO (by walk_at "x")))
     (ah (dsN bC z14.nd (DL.toO (by walk_at "x")))
     (ah (dsN bC z14.nd (DL.toO (by walk_at "x")))
     (ah (dsN bC z14.nd (DL.toO (by walk_at "x")))
     (ah (bF (by walk_at "x") (ah (dsN bC z14.nd (DL.toO (by walk_at "x")))
     (am (aA (by walk_at "x")))) aS)
     (ah (bF (by walk_at "x") (am (aA (by walk_at "x"))) aS)
     (ah (bF (by walk_at "x") (am (aA (by walk_at "x"))) aS)
     (ah (bF (by walk_at "x") (ah (dsN bC z14.nd (DL.toO (by walk_at "x")))
     (am (aA (by walk_at "x")))) aS)
     (ah (bF (by walk_at "x") (am (aA (by walk_at "x"))) aS)
     (am (aA (by walk_at "x")))))))))))))))
abbrev z16:Stmt:=top 43
theorem y1:FnScope ["_law_script","_law_most","_law_wide","_law_head","_law_digits_here","_law_names_here","_law_sizes","_law_boxes","_law_start","_law_cells","_law_k","_law_shelves","_law_rows","_law_some","_law_cell"] ["_law_script","_law_most","_law_wide"] (ac z16):=fnS (by decide +kernel)
theorem ak:cz (ac z16) ["_law_script","_law_most","_law_wide","_law_head","_law_digits_here","_law_names_here","_law_sizes","_law_boxes","_law_start","_law_cells","_law_k","_law_shelves","_law_rows","_law_some","_law_cell"]=true:=by decide +kernel
theorem q38:aB (ac z16) "range"=true:=by decide +kernel
theorem z52:aB (ac z16) "_law_row"=true:=by decide +kernel
theorem y73 (T:Txt P w K mg) (D:DefF K mg "_law_program" z16 ["_law_script","_law_most","_law_wide"]) (L:OkF P w K mg base "_law_atom" 1 ["_law_digit","_law_cell","_law_boxes"] (spD K 3 (q18))) (O:OkF P w K mg base "_law_cell_at" 1 ["_law_script","_law_k"] (spD K 2 (z3))) (U:OkF P w K mg base "_law_digits" 1 ["_law_number","_law_sizes"] (spD K 2 (z11))) (W:OkF P w K mg base "_law_names" 2 ["_law_cell","_law_many"] (spD K 2 (q15))) (q:OkF P w K mg base "_law_row" 2 ["_law_cell","_law_many","_law_cells","_law_shelves","_law_boxes"] (spD K 5 (y28))):OkF P w K mg base "_law_program" 3 ["_law_script","_law_most","_law_wide"] (spD K 3 y13):=
 bM D y1 rfl fun f cdv A outer s H E Y=>(ah (dsN ak y1.nd (DL.toO (by walk_at "x")))
     (ah (dsN ak y1.nd (DL.toO (by walk_at "x")))
     (ah (dsN ak y1.nd (DL.toO (by walk_at "x")))
     (ah (dsN ak y1.nd (DL.toO (by walk_at "x")))
     (ah (bF (by walk_at "x") (am (dsN ak y1.nd (DL.toO (by walk_at "x")))) aS)
     (ah (dsN ak y1.nd (DL.toO (by walk_at "x")))
     (ah (dsN ak y1.nd (DL.toO (by walk_at "x")))
     (ah (dsN ak y1.nd (c6 bq))
     (ah (cx qd3 rfl (dj q38 T.n_range (by walk_at "x")) (ax (aE (nsN ak 10) (nsL ak 10) y1.nd)) (am (bX (pvN 9 ak) (DO.toL (fE (aZ (by walk_at "x") (aZ (DO.toL (cK pf uQ (by walk_at "x") (DO.toB (cK ug zu (DL.toB fA) (DL.toB fA))))) (aZ (by walk_at "x") bq))))))))
     (ah (dsN ak y1.nd (c6 bq))
     (ah (cx qd3 rfl (dj q38 T.n_range (by walk_at "x")) (ax (aE (nsN ak 10) (nsL ak 10) y1.nd)) (am (bX (pvN 11 ak) (by walk_at "x"))))
     (ah (dsN ak y1.nd (c6 bq))
     (ah (dsN ak y1.nd (DL.toO (by walk_at "x")))
     (ah (cx qd3 rfl (eG (by walk_at "x")) (ax (aE (nsN ak 14) (nsL ak 14) y1.nd)) (am (bX (pvN 12 ak) (DO.toL (cX z52 q (Y.mono (by decide)) (aZ (by walk_at "x") (aZ (by walk_at "x") (aZ (DO.toL (doC ["_law_one"] (by kernel_rfl) (bc (by walk_at "x")) (fun _ _ _ _=>bW) (fun _ _ _ _=>(by walk_at "x")))) (aZ (DO.toL (doC ["_law_one"] (by kernel_rfl) (bc (by walk_at "x")) (fun _ _ _ _=>bW) (fun _ _ _ _=>(by walk_at "x")))) (aZ (by walk_at "x") bq))))))))))
     (ah (bX (pvN 12 ak) (by walk_at "x"))
     (am (aA (by walk_at "x"))))))))))))))))))
abbrev y53:Stmt:=top 1
theorem y88:FnScope ["number","row"] ["number","row"] (ac y53):=fnS (by decide +kernel)
theorem z88 (T:Txt P w K mg) (D:DefF K mg "ways_of" y53 ["number","row"]):OkF P w K mg base "ways_of" 1 ["number","row"] (spD K 2 z54):=
 bM D y88 rfl fun f cdv A outer s H E q=>(ah (bF (by walk_at "x") (am (aA (by walk_at "x"))) aS)
     (ah (bF (by walk_at "x") (am (aA (by walk_at "x"))) aS)
     (ah (bF (by walk_at "x") (am (aA (fE bq))) aS)
     (am (aA (by walk_at "x"))))))
abbrev gE:Stmt:=top 2
theorem q94:FnScope ["program"] ["program"] (ac gE):=fnS (by decide +kernel)
theorem z68:aB (ac gE) "enumerate"=true:=by decide +kernel
theorem y93 (T:Txt P w K mg) (D:DefF K mg "ways" gE ["program"]) (L:OkF P w K mg base "ways_of" 1 ["number","row"] (spD K 2 (z54))):OkF P w K mg base "ways" 2 ["program"] (spD K 1 bR):=bM D q94 rfl fun f cdv A outer s H E O=>(am (aA (jC (M:=["number","row"]) (src:=[none,none]) (ts:=[0,1]) (CmpScope.of (by kernel_rfl)) rfl (DIF.toB (db z68 T.n_enumerate (by walk_at "x"))) (fun q _ _ _ _=>(iV rfl (bG (ax (bP (N:=["number","row"]) (i:=0) (by decide +kernel) (by decide +kernel) q (scC (outer:=ac gE) (by exact rfl)))) (bG (ax (bP (N:=["number","row"]) (i:=1) (by decide +kernel) (by decide +kernel) q (scC (outer:=ac gE) (by exact rfl)))) fS)))) (fun _ _ _ _=>bW) (fun _ _ _ _=>(by walk_at "x")) (by decide +kernel))))
abbrev z67:Stmt:=top 10
theorem q92:FnScope ["row"] ["row"] (ac z67):=fnS (by decide +kernel)
theorem z92 (T:Txt P w K mg) (D:DefF K mg "gives" z67 ["row"]):OkF P w K mg base "gives" 1 ["row"] (spD K 1 q68):=bM D q92 rfl fun f cdv A outer s H E q=>(am (aA (by walk_at "x")))
abbrev y50:Stmt:=top 8
theorem z85:FnScope ["row","bounds"] ["row"] (ac y50):=fnS (by decide +kernel)
theorem vT:cz (ac y50) ["row","bounds"]=true:=by decide +kernel
theorem y40:aB (ac y50) "ATOM_PLACES"=true:=by decide +kernel
theorem y91 (T:Txt P w K mg) (D:DefF K mg "atoms" y50 ["row"]):OkF P w K mg base "atoms" 1 ["row"] (spD K 1 y67):=
 bM D z85 rfl fun f cdv A outer s H E q=>(ah (bF (Bi y40 T.g_A (by walk_at "x")) (am (aA (fE bq))) aS)
     (ah (dsN vT z85.nd (DL.toO (DO.toL (Dq y40 T.g_A (by walk_at "x")))))
     (am (aA (by walk_at "x")))))
abbrev y42:Stmt:=top 9
theorem q70:FnScope ["row","boxes","atom"] ["row"] (ac y42):=fnS (by decide +kernel)
theorem fI:cz (ac y42) ["row","boxes","atom"]=true:=by decide +kernel
theorem q63:aB (ac y42) "isinstance"=true:=by decide +kernel
theorem q85:aB (ac y42) "str"=true:=by decide +kernel
theorem z93 (T:Txt P w K mg) (D:DefF K mg "reads" y42 ["row"]) (q:OkF P w K mg base "atoms" 1 ["row"] (spD K 1 (y67))):OkF P w K mg base "reads" 2 ["row"] (spD K 1 z58):=
 bM D q70 rfl fun f cdv A outer s H E L=>(ah (dsN fI q70.nd (c6 bq))
     (ah (cx qd3 rfl (eG (by walk_at "x")) (ax (aE (nsN fI 2) (nsL fI 2) q70.nd)) (am (bF (DW.t (pB (hV (DO.toB (lx q63 q85 T.n_isinstance T.n_str A1 T.k_str (by walk_at "x"))) (fun _=>rfl)) (qQ (by walk_at "x")))) (am (bX (pvN 1 fI) (by walk_at "x"))) aS)))
     (am (eF (pvN 1 fI)))))
abbrev z17:Stmt:=top 11
theorem z40:FnScope ["row","behind","boxes","later"] ["row","behind"] (ac z17):=fnS (by decide +kernel)
theorem cj:cz (ac z17) ["row","behind","boxes","later"]=true:=by decide +kernel
theorem q55:aB (ac z17) "sorted"=true:=by decide +kernel
theorem z62:aB (ac z17) "set"=true:=by decide +kernel
theorem z71 (T:Txt P w K mg) (D:DefF K mg "needed_ahead" z17 ["row","behind"]) (L:OkF P w K mg base "gives" 1 ["row"] (spD K 1 (q68))) (q:OkF P w K mg base "reads" 2 ["row"] (spD K 1 (z58))):OkF P w K mg base "needed_ahead" 3 ["row","behind"] (spD K 2 y17):=
 bM D z40 rfl fun f cdv A outer s H E O=>(ah (dsN cj z40.nd (by walk_at "x"))
     (ah (cx qd3 rfl (eG (by walk_at "x")) (ax (aE (nsN cj 3) (nsL cj 3) z40.nd)) (am (lU (pvN 2 cj) (doC ["box","row"] (by kernel_rfl) (bc (by walk_at "x")) (fun _ _ _ _=>cU (by walk_at "x")) (fun _ _ _ _=>(by walk_at "x"))))))
     (am (aA (p6 q55 z62 rfl T.n_sorted T.n_set (by walk_at "x"))))))
abbrev y31:Stmt:=top 12
theorem z25:FnScope ["program","rows","onward","found","changed","number","boxes"] ["program"] (ac y31):=fnS (by decide +kernel)
theorem bw:cz (ac y31) ["program","rows","onward","found","changed","number","boxes"]=true:=by decide +kernel
theorem q74:aB (ac y31) "range"=true:=by decide +kernel
theorem z55:aB (ac y31) "needed_ahead"=true:=by decide +kernel
theorem y89 (T:Txt P w K mg) (D:DefF K mg "needed" y31 ["program"]) (q:OkF P w K mg base "ways" 2 ["program"] (spD K 1 (bR))) (L:OkF P w K mg base "needed_ahead" 3 ["row","behind"] (spD K 2 (y17))):OkF P w K mg base "needed" 4 ["program"] (spG K 1 (y11)):=
 ip D z25 rfl fun f cdv A outer s H E O=>(ay (gsN bw z25.nd (au (by walk_at "x")))
     (ay (gsN bw z25.nd (au (by walk_at "x")))
     (ay (gsN bw z25.nd (xV (M:=["row"]) (src:=[none]) (ts:=[0]) (CmpScope.of (by kernel_rfl)) rfl (eG (by walk_at "x")) (fun U _ _ _ _=>(ax (bP (N:=["row"]) (i:=0) (by decide +kernel) (by decide +kernel) U (scC (outer:=ac y31) (by exact rfl))))) (fun _ _ _ _=>bW) (fun _ _ _ _=>(pP (c6 bq))) (by decide +kernel)))
     (ay (gsN bw z25.nd (au lm))
     (ay (n6 100000 qd3 (pQ (by walk_at "x")) (ay (gsN bw z25.nd (au lm))
     (bt (pS qd3 rfl (sU q74 T.n_range (by walk_at "x")) (ax (aE (nsN bw 5) (nsL bw 5) z25.nd)) (ay (gsN bw z25.nd (Dz 2 (cX z55 L (O.mono (by decide)) (aZ (by walk_at "x") (aZ (DO.toL (doC ["way","found"] (by kernel_rfl) (bc (by walk_at "x")) (fun _ _ _ _=>bW) (fun _ _ _ _=>(by walk_at "x")))) bq)))))
     (bt (im (DC 2 (by walk_at "x")) (ay (Bm O (b7 (pvN 3 bw)) (au (by walk_at "x")) (b7 (pvN 6 bw)))
     (bt (gsN bw z25.nd (au lm)))) eI)))))))
     (bt (fG (b7 (pvN 3 bw)))))))))
abbrev y34:Stmt:=top 18
theorem q76:FnScope ["program"] ["program"] (ac y34):=fnS (by decide +kernel)
theorem q78 (T:Txt P w K mg) (D:DefF K mg "plain_names" y34 ["program"]):OkF P w K mg base "plain_names" 1 ["program"] (spD K 1 z4):=bM D q76 rfl fun f cdv A outer s H E q=>(am (aA (doC ["head"] (by kernel_rfl) (bc (by walk_at "x")) (fun _ _ _ _=>cU (by walk_at "x")) (fun _ _ _ _=>(by walk_at "x")))))
abbrev z20:Stmt:=top 34
theorem z24:FnScope ["program","names","found","number","row"] ["program"] (ac z20):=fnS (by decide +kernel)
theorem aN:cz (ac z20) ["program","names","found","number","row"]=true:=by decide +kernel
theorem z49:aB (ac z20) "enumerate"=true:=by decide +kernel
theorem q71 (T:Txt P w K mg) (D:DefF K mg "rows_by_kind" z20 ["program"]) (q:OkF P w K mg base "plain_names" 1 ["program"] (spD K 1 (z4))):OkF P w K mg base "rows_by_kind" 2 ["program"] (spD K 1 y19):=
 bM D z24 rfl fun f cdv A outer s H E L=>(ah (dsN aN z24.nd (DL.toO (by walk_at "x")))
     (ah (dsN aN z24.nd (c6 bq))
     (ah (cx qd3 rfl (db z49 T.n_enumerate (by walk_at "x")) (iV rfl (bG (ax (aE (nsN aN 3) (nsL aN 3) z24.nd)) (bG (ax (aE (nsN aN 4) (nsL aN 4) z24.nd)) fS))) (am (bF (by walk_at "x") (am (bX (pvN 2 aN) (by walk_at "x"))) aS)))
     (am (eF (pvN 2 aN))))))
abbrev z13:Stmt:=top 33
theorem y22:FnScope ["program","found","number","onward"] ["program"] (ac z13):=fnS (by decide +kernel)
theorem aH:cz (ac z13) ["program","found","number","onward"]=true:=by decide +kernel
theorem z42:aB (ac z13) "enumerate"=true:=by decide +kernel
theorem y62 (T:Txt P w K mg) (D:DefF K mg "rows_led_back_to" z13 ["program"]) (q:OkF P w K mg base "ways" 2 ["program"] (spD K 1 (bR))):OkF P w K mg base "rows_led_back_to" 3 ["program"] (spD K 1 q14):=
 bM D y22 rfl fun f cdv A outer s H E L=>(ah (dsN aH y22.nd (c6 bq))
     (ah (cx qd3 rfl (db z42 T.n_enumerate (by walk_at "x")) (iV rfl (bG (ax (aE (nsN aH 2) (nsL aH 2) y22.nd)) (bG (ax (aE (nsN aH 3) (nsL aH 3) y22.nd)) fS))) (am (lU (pvN 1 aH) (doC ["way","number"] (by kernel_rfl) (bc (by walk_at "x")) (fun _ _ _ _=>cU (by walk_at "x")) (fun _ _ _ _=>(by walk_at "x"))))))
     (am (eF (pvN 1 aH)))))
abbrev y15:Stmt:=top 35
theorem z48:FnScope ["program","wanted","places"] ["program"] (ac y15):=fnS (by decide +kernel)
theorem gj:cz (ac y15) ["program","wanted","places"]=true:=by decide +kernel
theorem q60:aB (ac y15) "needed"=true:=by decide +kernel
theorem y60:aB (ac y15) "sorted"=true:=by decide +kernel
theorem y68:aB (ac y15) "set"=true:=by decide +kernel
theorem q64:aB (ac y15) "tuple"=true:=by decide +kernel
theorem y80 (T:Txt P w K mg) (D:DefF K mg "all_places" y15 ["program"]) (q:OkF P w K mg base "needed" 4 ["program"] (spG K 1 (y11))) (L:OkF P w K mg base "rows_by_kind" 2 ["program"] (spD K 1 (y19))) (U:OkF P w K mg base "rows_led_back_to" 3 ["program"] (spD K 1 (q14))):OkF P w K mg base "all_places" 5 ["program"] (spD K 1 y21):=
 bM D z48 rfl fun f cdv A outer s H E O=>(ah (dsN gj z48.nd (DL.toO (DO.toL (cX q60 (okD q) (O.mono (by decide)) (by walk_at "x")))))
     (ah (dsN gj z48.nd (DL.toO (DO.toL (oz y60 y68 rfl T.n_sorted T.n_set (by walk_at "x")))))
     (am (aA (fE (aZ (by walk_at "x") (aZ (DO.toL (hZ q64 cR jE T.n_tuple fu (fC (DO.toB (doC ["row","wanted"] (by kernel_rfl) (bc (by walk_at "x")) (fun _ _ _ _=>bW) (fun _ _ _ _=>(by walk_at "x")))) hX))) bq)))))))
abbrev q46:Stmt:=top 19
theorem y82:FnScope ["code"] ["code"] (ac q46):=fnS (by decide +kernel)
theorem q82 (T:Txt P w K mg) (D:DefF K mg "kept_rows" q46 ["code"]):OkF P w K mg base "kept_rows" 1 ["code"] (spD K 1 z8):=bM D y82 rfl fun f cdv A outer s H E q=>(am (aA (doC ["keep"] (by kernel_rfl) (bc (by walk_at "x")) (fun _ _ _ _=>bW) (fun _ _ _ _=>(by walk_at "x")))))
abbrev q31:Stmt:=top 24
theorem y39:FnScope ["program","code","kept","number","row"] ["program","code"] (ac q31):=fnS (by decide +kernel)
theorem cB:cz (ac q31) ["program","code","kept","number","row"]=true:=by decide +kernel
theorem y54:aB (ac q31) "enumerate"=true:=by decide +kernel
theorem z84 (T:Txt P w K mg) (D:DefF K mg "end_fault" q31 ["program","code"]) (q:OkF P w K mg base "kept_rows" 1 ["code"] (spD K 1 (z8))):OkF P w K mg base "end_fault" 2 ["program","code"] (spD K 2 y30):=
 bM D y39 rfl fun f cdv A outer s H E L=>(ah (dsN cB y39.nd (DL.toO (by walk_at "x")))
     (ah (cx qd3 rfl (db y54 T.n_enumerate (by walk_at "x")) (iV rfl (bG (ax (aE (nsN cB 3) (nsL cB 3) y39.nd)) (bG (ax (aE (nsN cB 4) (nsL cB 4) y39.nd)) fS))) (am (bF (by walk_at "x") (am fF) aS)))
     (am (aA (DL.toO ck)))))
abbrev q13:Stmt:=top 25
theorem z18:FnScope ["onward","rows","left","fewer","staying"] ["onward","rows"] (ac q13):=fnS (by decide +kernel)
theorem aW:cz (ac q13) ["onward","rows","left","fewer","staying"]=true:=by decide +kernel
theorem z72 (T:Txt P w K mg) (D:DefF K mg "endless_rows" q13 ["onward","rows"]):OkF P w K mg base "endless_rows" 1 ["onward","rows"] (spD K 2 y16):=
 bM D z18 rfl fun f cdv A outer s H E L=>(ah (dsN aW z18.nd (DL.toO (by walk_at "x")))
     (ah (dsN aW z18.nd (DL.toO lm))
     (ah (uO 100000 qd3 (by walk_at "x") (ah (il (nsN aW 4) (nsL aW 4) z18.nd (M:=["row","onward","left"]) (src:=[none,some 0,some 2]) (ts:=[0]) (CmpScope.of (by kernel_rfl)) rfl (bc (by walk_at "x")) (fun q _ _ _ _=>(ax (bP (N:=["row","onward","left"]) (i:=0) (by decide +kernel) (by decide +kernel) q (scC (outer:=ac q13) (by exact rfl))))) (fun _ _ _ _=>cU (hV (DO.toB (nH (by decide +kernel) (nB rfl) (zy (f:=fun bs=>bs.any id)) T.n_any uA (fC (DO.toB (jC (M:=["way","left"]) (src:=[none,some 2]) (ts:=[0]) (CmpScope.of (by kernel_rfl)) rfl (bc (by walk_at "x")) (fun q _ _ _ _=>(ax (bP (N:=["way","left"]) (i:=0) (by decide +kernel) (by decide +kernel) q (scC (scC (outer:=ac q13) (by exact rfl)))))) (fun _ _ _ _=>bW) (fun _ _ _ _=>(by walk_at "x")) (by decide +kernel))) hX) (e1:=(scC (outer:=ac q13) rfl)))) (fun _=>rfl))) (fun _ _ _ _=>(by walk_at "x")) (by decide +kernel))
     (ah (dsN aW z18.nd (DL.toO (by walk_at "x")))
     (am (dsN aW z18.nd (DL.toO (by walk_at "x")))))))
     (am (eF (pvN 2 aW))))))
abbrev q21:Stmt:=top 26
theorem q35:FnScope ["program","code","kept","onward","endless","walked","here"] ["program","code"] (ac q21):=fnS (by decide +kernel)
theorem dJ:cz (ac q21) ["program","code","kept","onward","endless","walked","here"]=true:=by decide +kernel
theorem q62:aB (ac q21) "range"=true:=by decide +kernel
theorem q48:aB (ac q21) "endless_rows"=true:=by decide +kernel
theorem q80 (T:Txt P w K mg) (D:DefF K mg "ring_fault" q21 ["program","code"]) (U:OkF P w K mg base "kept_rows" 1 ["code"] (spD K 1 (z8))) (q:OkF P w K mg base "ways" 2 ["program"] (spD K 1 (bR))) (L:OkF P w K mg base "endless_rows" 1 ["onward","rows"] (spD K 2 (y16))):OkF P w K mg base "ring_fault" 3 ["program","code"] (spG K 2 (y26)):=
 ip D q35 rfl fun f cdv A outer s H E O=>(ay (gsN dJ q35.nd (au (by walk_at "x")))
     (ay (gsN dJ q35.nd (au (by walk_at "x")))
     (ay (gsN dJ q35.nd (au (DO.toL (cX q48 L (O.mono (by decide)) (aZ (by walk_at "x") (aZ (DO.toL (doC ["row","kept"] (by kernel_rfl) (DIF.toB (dj q62 T.n_range (by walk_at "x"))) (fun _ _ _ _=>cU (by walk_at "x")) (fun _ _ _ _=>(by walk_at "x")))) bq))))))
     (ay (im (pQ (by walk_at "x")) (bt (fG (au ck))) eI)
     (ay dY
     (ay dY
     (ay dY
     (bt dY))))))))
abbrev q26:Stmt:=top 20
theorem q61:FnScope ["program","code","kept"] ["program","code"] (ac q26):=fnS (by decide +kernel)
theorem kU:cz (ac q26) ["program","code","kept"]=true:=by decide +kernel
theorem y79 (T:Txt P w K mg) (D:DefF K mg "inner_ways" q26 ["program","code"]) (O:OkF P w K mg base "kept_rows" 1 ["code"] (spD K 1 (z8))) (q:OkF P w K mg base "ways" 2 ["program"] (spD K 1 (bR))):OkF P w K mg base "inner_ways" 3 ["program","code"] (spD K 2 z22):=
 bM D q61 rfl fun f cdv A outer s H E U=>(ah (dsN kU q61.nd (DL.toO (by walk_at "x")))
     (am (aA (doC ["onward","kept"] (by kernel_rfl) (bc (by walk_at "x")) (fun _ _ _ _=>bW) (fun _ _ _ _=>(DO.toL (jC (M:=["way","kept"]) (src:=[none,some 1]) (ts:=[0]) (CmpScope.of (by kernel_rfl)) rfl (bc (by walk_at "x")) (fun L _ _ _ _=>(ax (bP (N:=["way","kept"]) (i:=0) (by decide +kernel) (by decide +kernel) L (scC (scC (outer:=ac q26) (by exact rfl)))))) (fun _ _ _ _=>cU (by walk_at "x")) (fun _ _ _ _=>(by walk_at "x")) (by decide +kernel))))))))
abbrev q44:Stmt:=top 4
theorem z32:FnScope ["starts","behind","fits","came_from","start","queue","looked","here","there"] ["starts","behind","fits"] (ac q44):=fnS (by decide +kernel)
theorem aM:cz (ac q44) ["starts","behind","fits","came_from","start","queue","looked","here","there"]=true:=by decide +kernel
theorem q79:aB (ac q44) "list"=true:=by decide +kernel
theorem q84:aB (ac q44) "len"=true:=by decide +kernel
theorem q91 (T:Txt P w K mg) (D:DefF K mg "route" q44 ["starts","behind","fits"]):OkF P w K mg base "route" 4 ["starts","behind","fits"] (spR P w K mg base 3 3 q67):=
 yh D z32 rfl fun f cdv A outer s H E q G L=>(ay (gsN aM z32.nd xZ)
     (ay (pS qd3 rfl (eG (by walk_at "x")) (ax (aE (nsN aM 4) (nsL aM 4) z32.nd)) (bt (rp T.is q (b7 (pvN 3 aM)) (au (by walk_at "x")) (au ck))))
     (ay (gsN aM z32.nd (vh q79 rfl T.n_list xy (b7 (pvN 3 aM))))
     (ay (gsN aM z32.nd (au fA))
     (ay (n6 100000 qd3 (pR ui ic (au (by walk_at "x")) (u8 q84 np zw T.n_len uz (ci (b7 (pvN 5 aM)) gA)) (aV _)) (ay (gsN aM z32.nd (Du q (b7 (pvN 5 aM)) (au (by walk_at "x"))))
     (ay (yl (nsN aM 6) (nsL aM 6) z32.nd (au fA))
     (ay (im (u7 (rk (pvN 2 aM) L (q.mono (by decide)) (ci (au (by walk_at "x")) gA)) (fun _=>rfl)) (bt dY) eI)
     (bt (yb 100000 qd3 rfl (rk (pvN 1 aM) L (q.mono (by decide)) (ci (au (by walk_at "x")) gA)) (ya (aE (nsN aM 8) (nsL aM 8) z32.nd)) (bt (im (BB T.is q (au (by walk_at "x")) (b7 (pvN 3 aM))) (ay (rp T.is q (b7 (pvN 3 aM)) (au (by walk_at "x")) (au (by walk_at "x")))
     (bt (sM (b7 (pvN 5 aM)) (au (by walk_at "x"))))) eI))))))))
     (bt (fG (au ck))))))))
abbrev y29:Stmt:=top 21
theorem y76:FnScope ["mark","row","name"] ["mark","row","name"] (ac y29):=fnS (by decide +kernel)
theorem kt:cz (ac y29) ["mark","row","name"]=true:=by decide +kernel
theorem z76 (T:Txt P w K mg) (D:DefF K mg "mark_behind" y29 ["mark","row","name"]):OkF P w K mg base "mark_behind" 1 ["mark","row","name"] (spD K 3 q23):=
 bM D y76 rfl fun f cdv A outer s H E q=>(ah (bF (by walk_at "x") (am (aA (by walk_at "x"))) aS)
     (ah (bF (by walk_at "x") (am (aA (by walk_at "x"))) aS)
     (ah (bF (by walk_at "x") (am (aA (by walk_at "x"))) aS)
     (am (eF (pvN 0 kt))))))
abbrev q16:Stmt:=top 22
theorem z38:FnScope ["program","code","name","rows","inner","behind","spoils","found"] ["program","code","name"] (ac q16):=fnS (by decide +kernel)
theorem bJ:cz (ac q16) ["program","code","name","rows","inner","behind","spoils","found"]=true:=by decide +kernel
theorem q73:aB (ac q16) "route"=true:=by decide +kernel
abbrev q42:Stmt:=(az q16).getD 3 (.Pass ⟨0,0,0,0⟩)
theorem y27:NsC (ac q16) ["program","code","name","rows","inner","behind","spoils","found"] ["place","mark","name","rows","inner"] ["place"] ["name","rows","inner"] [2,3,4] (ac q42):=NsC.of (by decide +kernel)
theorem y65:cV (ac q42) ["place","mark","name","rows","inner"] 1 "mark"=true:=by decide +kernel
theorem q66:g6 (ac q42) "mark"=true:=by decide +kernel
abbrev y72:Stmt:=(az q16).getD 4 (.Pass ⟨0,0,0,0⟩)
theorem q36:NsC (ac q16) ["program","code","name","rows","inner","behind","spoils","found"] ["place","name","rows"] ["place"] ["name","rows"] [2,3] (ac y72):=NsC.of (by decide +kernel)
theorem z90 {c W:Addr} (T:Txt P w K mg) (D:DefC K mg "spoilt" q16 ["program","code","name"] c) (B:TabB mg base c W) (U:(W,m9 "spoilt" (az q16))∈cF K) (z64:OkF P w K mg base "inner_ways" 3 ["program","code"] (spD K 2 (z22))) (L:OkF P w K mg base "route" 4 ["starts","behind","fits"] (spR P w K mg base 3 3 q67)) (Y:OkF P w K mg base "plain_names" 1 ["program"] (spD K 1 (z4))) (Z:OkF P w K mg base "mark_behind" 1 ["mark","row","name"] (spD K 3 (q23))) (z19:OkF P w K mg base "kept_rows" 1 ["code"] (spD K 1 (z8))):OkF P w K mg base "spoilt" 5 ["program","code","name"] (spG K 3 (y51)):=
 ym D z38 rfl fun f A outer s H E O=>(ay (im (pQ (by walk_at "x")) (bt (fG (au ck))) eI)
     (ay (gsN bJ z38.nd (au (by walk_at "x")))
     (ay (gsN bJ z38.nd (au (by walk_at "x")))
     (vO (i1:=5) (i2:=6) (by decide) (BC (NX:=["program","code","name","rows","inner","behind","spoils","found"]) rfl) (rq (qual:="spoilt.<locals>.behind") (nsN bJ 5) (nsL bJ 5) z38.nd y27 B U (by decide +kernel)) (rq (qual:="spoilt.<locals>.spoils") (nsN bJ 6) (nsL bJ 6) z38.nd q36 B U (by decide +kernel))
     (vP (yk (nsN bJ 7) (nsL bJ 7) z38.nd (DE (i1:=5) (i2:=6) L (O.mono (by decide)) (glD q73) (fun _=>rfl) (au (DO.toL (doC ["row"] (by kernel_rfl) (bc (DO.toB (cK jD qV (by walk_at "x") (by walk_at "x")))) (fun _ _ _ _=>bW) (fun _ _ _ _=>(by walk_at "x"))))) (pvN 5 bJ) (pvN 6 bJ) (NestD.of y27 (fun s cl doc pm ctv cd us q=>match us,q with | [_],_=>.of_eq rfl) fun f c' cl A outer s H O=>(ah (uN y65 q66 y27.nd (DL.toO (by walk_at "x")))
     (am (aA (zt (by walk_at "x") (c6 bq) (doC ["way","mark"] (by kernel_rfl) (bc (by walk_at "x")) (fun _ _ _ _=>bW) (fun _ _ _ _=>(by walk_at "x")))))))) (NestD.of q36 (fun s cl doc pm ctv cd us q=>match us,q with | [_],_=>.of_eq rfl) fun f c' cl A outer s H O=>(am (aA (by walk_at "x")))) y27.all q36.all))
     (bt (fG (Dw (pR gp pH (b7 (pvN 7 bJ)) (au ck) (aV _)) (au ck) (au (DO.toL xP))))))))))
abbrev y23:Stmt:=top 27
theorem z45:FnScope ["program","code","name","rows"] ["program","code"] (ac y23):=fnS (by decide +kernel)
theorem cC:cz (ac y23) ["program","code","name","rows"]=true:=by decide +kernel
theorem z57:aB (ac y23) "spoilt"=true:=by decide +kernel
theorem y74 (T:Txt P w K mg) (D:DefF K mg "spoil_fault" y23 ["program","code"]) (L:OkF P w K mg base "plain_names" 1 ["program"] (spD K 1 (z4))) (q:OkF P w K mg base "spoilt" 5 ["program","code","name"] (spG K 3 (y51))):OkF P w K mg base "spoil_fault" 6 ["program","code"] (spG K 2 (z30)):=
 ip D z45 rfl fun f cdv A outer s H E O=>(ay (pS qd3 rfl (eG (by walk_at "x")) (ax (aE (nsN cC 2) (nsL cC 2) z45.nd)) (ay (gsN cC z45.nd (jG z57 q (O.mono (by decide)) (ci (au (by walk_at "x")) (ci (au (by walk_at "x")) (ci (au (by walk_at "x")) gA))) (y32 (y32 (y32 mC)))))
     (bt (im (pR mf mx (b7 (pvN 3 cC)) (au ck) (aV _)) (bt dY) eI))))
     (bt (fG (au ck))))
abbrev q27:Stmt:=top 29
theorem y18:FnScope ["program","code","wanted","places","start","boxes","begin","box"] ["program","code"] (ac q27):=fnS (by decide +kernel)
theorem aL:cz (ac q27) ["program","code","wanted","places","start","boxes","begin","box"]=true:=by decide +kernel
theorem q59:aB (ac q27) "needed"=true:=by decide +kernel
theorem z79 (T:Txt P w K mg) (D:DefF K mg "lost_fault" q27 ["program","code"]) (q:OkF P w K mg base "needed" 4 ["program"] (spG K 1 (y11))):OkF P w K mg base "lost_fault" 5 ["program","code"] (spD K 2 z27):=
 bM D y18 rfl fun f cdv A outer s H E L=>(ah (dsN aL y18.nd (DL.toO (DO.toL (cX q59 (okD q) (L.mono (by decide)) (by walk_at "x")))))
     (ah (dsN aL y18.nd (DL.toO (DO.toL (cK jD qV (by walk_at "x") (DO.toB (doC ["keep"] (by kernel_rfl) (bc (by walk_at "x")) (fun _ _ _ _=>bW) (fun _ _ _ _=>(by walk_at "x"))))))))
     (ah (cx qd3 rfl (eG (by walk_at "x")) (iV rfl (bG (ax (aE (nsN aL 4) (nsL aL 4) y18.nd)) (bG (ax (aE (nsN aL 5) (nsL aL 5) y18.nd)) (bG (ax (aE (nsN aL 6) (nsL aL 6) y18.nd)) fS)))) (am (cx qd3 rfl (eG (by walk_at "x")) (ax (aE (nsN aL 7) (nsL aL 7) y18.nd)) (am (bF (by walk_at "x") (am fF) aS)))))
     (am (aA (DL.toO ck))))))
abbrev q45:Stmt:=top 30
theorem y52:FnScope ["program","code","found"] ["program","code"] (ac q45):=fnS (by decide +kernel)
theorem cZ:cz (ac q45) ["program","code","found"]=true:=by decide +kernel
theorem y63:aB (ac q45) "ring_fault"=true:=by decide +kernel
theorem y58:aB (ac q45) "spoil_fault"=true:=by decide +kernel
theorem z91 (T:Txt P w K mg) (D:DefF K mg "fault" q45 ["program","code"]) (W:OkF P w K mg base "end_fault" 2 ["program","code"] (spD K 2 (y30))) (q:OkF P w K mg base "ring_fault" 3 ["program","code"] (spG K 2 (y26))) (L:OkF P w K mg base "spoil_fault" 6 ["program","code"] (spG K 2 (z30))) (U:OkF P w K mg base "lost_fault" 5 ["program","code"] (spD K 2 (z27))):OkF P w K mg base "fault" 7 ["program","code"] (spG K 2 (q51)):=
 ip D y52 rfl fun f cdv A outer s H E O=>(ay (gsN cZ y52.nd (pP (by walk_at "x")))
     (ay (im (mD 2 gp pH (b7 (pvN 2 cZ)) (au ck) (aV _)) (bt (gsN cZ y52.nd (jG y63 q (O.mono (by decide)) (ci (au (by walk_at "x")) (ci (au (by walk_at "x")) gA)) (y32 (y32 mC))))) eI)
     (ay (im (mD 2 gp pH (b7 (pvN 2 cZ)) (au ck) (aV _)) (bt (gsN cZ y52.nd (jG y58 L (O.mono (by decide)) (ci (au (by walk_at "x")) (ci (au (by walk_at "x")) gA)) (y32 (y32 mC))))) eI)
     (ay (im (mD 2 gp pH (b7 (pvN 2 cZ)) (au ck) (aV _)) (bt (gsN cZ y52.nd (pP (by walk_at "x")))) eI)
     (bt (fG (b7 (pvN 2 cZ))))))))
abbrev q56:Stmt:=top 31
theorem q93:FnScope ["program","code"] ["program","code"] (ac q56):=fnS (by decide +kernel)
theorem q75:aB (ac q56) "fault"=true:=by decide +kernel
theorem y92 (T:Txt P w K mg) (D:DefF K mg "holds" q56 ["program","code"]) (q:OkF P w K mg base "fault" 7 ["program","code"] (spG K 2 (q51))):OkF P w K mg base "holds" 8 ["program","code"] (spG K 2 (z37)):=ip D q93 rfl fun f cdv A outer s H E L=>(bt (fG (yc 2 gp pH (jG q75 q (L.mono (by decide)) (ci (au (by walk_at "x")) (ci (au (by walk_at "x")) gA)) (y32 (y32 mC))) (au ck) (aV _))))
abbrev z47:Stmt:=top 36
theorem y87:FnScope ["code","row"] ["code","row"] (ac z47):=fnS (by decide +kernel)
theorem y70:aB (ac z47) "tuple"=true:=by decide +kernel
theorem q88 (T:Txt P w K mg) (D:DefF K mg "without" z47 ["code","row"]):OkF P w K mg base "without" 1 ["code","row"] (spD K 2 y37):=bM D y87 rfl fun f cdv A outer s H E q=>(am (aA (fE (aZ (by walk_at "x") (aZ (DO.toL (hZ y70 cR jE T.n_tuple fu (fC (DO.toB (doC ["keep","row"] (by kernel_rfl) (bc (by walk_at "x")) (fun _ _ _ _=>cU (by walk_at "x")) (fun _ _ _ _=>(by walk_at "x")))) hX))) bq)))))
abbrev dv:Stmt:=top 46
theorem sc_law:FnScope ["_law_script","_law_program_here","_law_need","_law_code","_law_kept","_law_row_here","_law_less"] ["_law_script"] (ac dv):=fnS (by decide +kernel)
theorem fJ:cz (ac dv) ["_law_script","_law_program_here","_law_need","_law_code","_law_kept","_law_row_here","_law_less"]=true:=by decide +kernel
theorem q81:aB (ac dv) "needed"=true:=by decide +kernel
theorem z83:aB (ac dv) "holds"=true:=by decide +kernel
theorem q69:aB (ac dv) "isinstance"=true:=by decide +kernel
theorem z65:aB (ac dv) "tuple"=true:=by decide +kernel
theorem q83:aB (ac dv) "range"=true:=by decide +kernel
theorem BG {f:Addr} {fd:qo9} (T:Txt P w K mg) (D:Fun K "law" "law" dv f fd) (Z:OkF P w K mg base "_law_due" 2 ["_law_program_here","_law_need"] (spD K 2 (z33))) (W:OkF P w K mg base "_law_program" 3 ["_law_script","_law_most","_law_wide"] (spD K 3 (y13))) (y66:OkF P w K mg base "all_places" 5 ["program"] (spD K 1 (y21))) (L:OkF P w K mg base "holds" 8 ["program","code"] (spG K 2 (z37))) (q:OkF P w K mg base "needed" 4 ["program"] (spG K 1 (y11))) (Y:OkF P w K mg base "without" 1 ["code","row"] (spD K 2 (y37))):FnOk P w K mg base CX0 9 f fd ["_law_script"] (spD K 1 rz):=
 Di D sc_law rfl fun cdv A outer s H E O=>(ah (dsN fJ sc_law.nd (DL.toO (by walk_at "x")))
     (ah (dsN fJ sc_law.nd (DL.toO (DO.toL (cX q81 (okD q) (O.mono (by decide)) (by walk_at "x")))))
     (ah (dsN fJ sc_law.nd (DL.toO (by walk_at "x")))
     (ah (bF (DW.t (qR (uK (hV (DO.toB (lx q69 z65 T.n_isinstance T.n_tuple fu T.k_tuple (by walk_at "x"))) (fun _=>rfl))) (qR (by walk_at "x") (uL (dE sL u4 (DO.toB (cX z83 (okD L) (O.mono (by decide)) (by walk_at "x"))) (DL.toB lm) (aV _)))))) (am fF) aS)
     (ah (il (nsN fJ 4) (nsL fJ 4) sc_law.nd (M:=["_law_row_here","_law_boxes"]) (src:=[none,none]) (ts:=[0,1]) (CmpScope.of (by kernel_rfl)) rfl (bc (by walk_at "x")) (fun U _ _ _ _=>(iV rfl (bG (ax (bP (N:=["_law_row_here","_law_boxes"]) (i:=0) (by decide +kernel) (by decide +kernel) U (scC (outer:=ac dv) (by exact rfl)))) (bG (ax (bP (N:=["_law_row_here","_law_boxes"]) (i:=1) (by decide +kernel) (by decide +kernel) U (scC (outer:=ac dv) (by exact rfl)))) fS)))) (fun _ _ _ _=>bW) (fun _ _ _ _=>(by walk_at "x")) (by decide +kernel))
     (ah (cx qd3 rfl (dj q83 T.n_range (by walk_at "x")) (ax (aE (nsN fJ 5) (nsL fJ 5) sc_law.nd)) (ah (dsN fJ sc_law.nd (DL.toO (by walk_at "x")))
     (ah (bF (dE (pG O) Bb (by walk_at "x") (DO.toB (fE (aZ (by walk_at "x") (aZ (DO.toL (hZ z65 cR jE T.n_tuple fu (fC (DO.toB (doC ["_law_one","_law_row_here"] (by kernel_rfl) (bc (by walk_at "x")) (fun _ _ _ _=>cU (by walk_at "x")) (fun _ _ _ _=>(by walk_at "x")))) hX))) bq)))) (aV _)) (am fF) aS)
     (am (bF (by walk_at "x") (am fF) aS)))))
     (am (aA (by walk_at "x")))))))))
end
end P51
namespace L2
open PySem PySem.Spec PyProof.Rows
variable {acc:List Str} {x:Str}
theorem vU {k:Str}:x∈dw acc k↔x∈acc∨x=k:=by
 unfold dw;split
 . rename_i h;exact ⟨.inl,fun z=>z.elim id fun e=>e▸h⟩
 . simp
theorem fK:∀ {ss acc:List Str},x∈ss.foldl dw acc↔x∈acc∨x∈ss
 | [],acc=>by simp
 | s::ss,acc=>by rw [qi6,fK,vU,qb2,or_assoc]
variable {ss:List Str}
theorem onces_mem:x∈bL ss↔x∈ss:=by unfold bL;rw [fK];simp
theorem p8 {k:Str} (h:acc.Nodup):(dw acc k).Nodup:=by
 unfold dw;split
 . exact h
 . rename_i hk;rw [qp3];exact ⟨h,by simp,fun a q b L e=>hk (by rw [qb7.mp L] at e;exact e▸q)⟩
theorem ei:∀ {ss acc:List Str},acc.Nodup->(ss.foldl dw acc).Nodup
 | [],acc,h=>h
 | s::ss,acc,h=>by rw [qi6];exact ei (p8 h)
theorem oH (ss:List Str):(bL ss).Nodup:=ei qx3
def Sd (l:List Str):Prop:=l.Pairwise fun a b=>leS a b=true/\a≠b
theorem yr (q:ss.Nodup):Sd (eX ss):=by
 have h1:=iq ss;have h2:(eX ss).Pairwise fun a b=>a≠b:=(cO ss).nodup_iff.mpr q
 exact h1.and h2
theorem Sd.nodup {l:List Str} (h:Sd l):l.Nodup:=qz4 (fun z=>z.2) h
theorem vV:∀ {l m:List Str},Sd l->Sd m->(∀ x,x∈l↔x∈m)->l=m
 | [],[],_,_,_=>rfl
 | [],b::m,_,_,h=>by simpa using (h b).mpr (.head _)
 | a::l,[],_,_,h=>by simpa using (h a).mp (.head _)
 | a::l,b::m,U,W,h=>by
  have L:=qh5.mp U;have q:=qh5.mp W
  have e:a=b:=by
   rcases qb2.mp ((h a).mp (.head _)) with z | z
   . exact z
   . rcases qb2.mp ((h b).mpr (.head _)) with y | y
     . exact y.symm
     . exact n9 (L.1 b y).1 (q.1 a z).1
  subst e;congr 1;refine vV L.2 q.2 fun x=>⟨fun O=>?_,fun O=>?_⟩
  . rcases qb2.mp ((h x).mp (.tail _ O)) with z | z
    . exact absurd z.symm (L.1 x O).2
    . exact z
  . rcases qb2.mp ((h x).mpr (.tail _ O)) with z | z
    . exact absurd z.symm (q.1 x O).2
    . exact z
theorem cQ {α:Type} [DecidableEq α]:∀ {l m:List α},l.Nodup->(∀ x∈l,x∈m)->l.length<=m.length
 | [],m,_,_=>qh8 _
 | a::l,m,h,L=>by
  obtain ⟨h1,h2⟩:=ql9.mp h;have O:a∈m:=L a (.head _);have:=cQ (m:=m.erase a) h2 fun x q=>(List.mem_erase_of_ne (show x≠a from fun e=>h1 (by rw [<- e];exact q))).mpr (L x (.tail _ q))
  rw [List.length_erase_of_mem O] at this;have hp:=List.length_pos_of_mem O;rw [qc0];lia
theorem DH {l m:List Str} (O:Sd l) (U:Sd m) (h:∀ x∈l,x∈m) (W:l≠m):l.length<m.length:=by
 by_cases z:∃ x,x∈m/\x∉l
 . obtain ⟨x,h1,h2⟩:=z
   have:=cQ (l:=x::l) (m:=m) (ql9.mpr ⟨h2,O.nodup⟩) fun y L=>by
    rcases qb2.mp L with rfl | L
    . exact h1
    . exact h y L
   rw [qc0] at this;lia
 . exact absurd (vV O U fun x=>⟨h x,fun Y=>qx4 fun q=>z ⟨x,Y,q⟩⟩) W
inductive Atm where
 | nm (x:Str) | vl (i:Int)
inductive Rw where
 | copy (x:Str) (a:Atm) | op (x s:Str) (a b:Atm) | load (x c:Str) | store (c:Str) (a:Atm) | take (x f:Str) (a:Atm) | lay (f:Str) (a b:Atm) | hear (x:Str) | say (a:Atm) | iff (a:Atm) (g:Nat) | go (g:Nat) | fin (a:Atm)
def Rw.atoms:Rw->List Atm
 | .copy _ a=>[a] | .op _ _ a b=>[a,b] | .load _ _=>[] | .store _ a=>[a] | .take _ _ a=>[a] | .lay _ a b=>[a,b] | .hear _=>[] | .say a=>[a] | .iff a _=>[a] | .go _=>[] | .fin a=>[a]
def nms:List Atm->List Str
 | []=>[]
 | .nm x::r=>x::nms r
 | .vl _::r=>nms r
def Rw.reads (r:Rw):List Str:=bL (nms r.atoms)
def Rw.sets:Rw->Option Str
 | .copy x _=>some x | .op x _ _ _=>some x | .load x _=>some x | .take x _ _=>some x | .hear x=>some x
 | _=>none
def Rw.outs (n:Nat):Rw->List Nat
 | .go g=>[g] | .iff _ g=>[g,n+1] | .fin _=>[]
 | _=>[n+1]
theorem mK:∀ l:List Atm,(nms l).length<=l.length
 | []=>nL _
 | .nm x::r=>Nat.succ_le_succ (mK r)
 | .vl _::r=>Nat.le_succ_of_le (mK r)
theorem Rw.reads_len (r:Rw):r.reads.length<=2:=by
 have h1:=lS (nms r.atoms);have h2:=mK r.atoms;have h3:r.atoms.length<=2:=by cases r<;>simp [Rw.atoms]
 unfold Rw.reads;lia
theorem Rw.outs_len (r:Rw) (n:Nat):(r.outs n).length<=2:=by cases r<;>simp [Rw.outs]
def jn (r:Rw) (q:List (List Str)):List Str:=q.flatMap fun l=>l.filter fun b=>decide (r.sets≠some b)
def NA (r:Rw) (q:List (List Str)):List Str:=eX (bL (r.reads++jn r q))
theorem tI:x∈eX ss↔x∈ss:=(cO ss).mem_iff
variable {r:Rw}
theorem BH {O:List (List Str)} {b:Str}:b∈NA r O↔b∈r.reads∨(r.sets≠some b/\∃ l∈O,b∈l):=by
 unfold NA jn;rw [tI,onces_mem,qg3,List.mem_flatMap];constructor
 . rintro (h | ⟨l,L,q⟩)
   . exact .inl h
   . rw [qd6,decide_eq_true_eq] at q;exact .inr ⟨q.2,l,L,q.1⟩
 . rintro (h | ⟨h,l,L,q⟩)
   . exact .inl h
   . exact .inr ⟨l,L,qd6.mpr ⟨q,decide_eq_true_eq.mpr h⟩⟩
theorem DI (r:Rw) (q:List (List Str)):Sd (NA r q):=yr (oH _)
inductive Needs (rows:List Rw):Nat->Str->Prop
 | here {i:Nat} {r:Rw} {b:Str}:rows[i]?=some r->b∈r.reads->Needs rows i b
 | on {i j:Nat} {r:Rw} {b:Str}:rows[i]?=some r->r.sets≠some b->j∈r.outs i->Needs rows j b->Needs rows i b
def nw (rows:List Rw) (found:List (List Str)) (i:Nat):List Str:=match rows[i]? with
 | some r=>NA r ((r.outs i).map fun j=>found.getD j [])
 | none=>[]
variable {rows:List Rw} {i:Nat}
theorem p9 {found:List (List Str)} {b:Str} (h:rows[i]?=some r):b∈nw rows found i↔b∈r.reads∨(r.sets≠some b/\∃ j∈r.outs i,b∈found.getD j []):=by
 unfold nw;rw [h];show b∈NA r _↔_;rw [BH];simp only [qc6];constructor
 . rintro (h | ⟨h,l,⟨j,q,rfl⟩,L⟩)
   . exact .inl h
   . exact .inr ⟨h,j,q,L⟩
 . rintro (h | ⟨h,j,q,L⟩)
   . exact .inl h
   . exact .inr ⟨h,_,⟨j,q,rfl⟩,L⟩
theorem zI (rows:List Rw) (found:List (List Str)) (i:Nat):Sd (nw rows found i):=by
 unfold nw;split
 . exact DI _ _
 . exact qp0
theorem mL {α:Type} {l:List (List α)} {j:Nat} {b:α} (h:b∈l.getD j []):∃ m,l[j]?=some m/\b∈m:=by
 rw [qc7] at h;cases q:l[j]? with
 | none=>rw [q] at h;simp at h
 | some m=>rw [q] at h;exact ⟨m,rfl,h⟩
theorem jI {α:Type} {l:List (List α)} {j:Nat} {m:List α} (h:l[j]?=some m):l.getD j []=m:=by rw [qc7,h];rfl
structure Fnd (rows:List Rw) (B:List Str) (found:List (List Str)):Prop where
 len:found.length=rows.length
 sd:∀ (i:Nat) (l:List Str),found[i]?=some l->Sd l
 sub:∀ (i:Nat) (l:List Str) (b:Str),found[i]?=some l->b∈l->b∈B
 nd:∀ (i:Nat) (l:List Str) (b:Str),found[i]?=some l->b∈l->Needs rows i b
 inc:∀ (i:Nat) (l:List Str) (b:Str),found[i]?=some l->b∈l->b∈nw rows found i
def tot (found:List (List Str)):Nat:=(found.map qo0).sum
theorem Fnd.start {B:List Str}:Fnd rows B (rows.map fun _=>[]):=by
 have L:∀ (i:Nat) (l:List Str),(rows.map fun _=>([]:List Str))[i]?=some l->l=[]:=fun i l h=>by rw [qb1] at h;obtain ⟨r,_,e⟩:=mS h;exact e.symm
 refine ⟨by simp,fun i l h=>?_,fun i l b h q=>?_,fun i l b h q=>?_,fun i l b h q=>?_⟩
 . rw [L i l h];exact qp0
 all_goals (rw [L i l h] at q;cases q)
variable {n:Nat}
section
variable {rows:List Rw} {B:List Str} {found:List (List Str)}
theorem rA {f g:List (List Str)} (h:∀ j b,b∈f.getD j []->b∈g.getD j []) {b:Str} (L:b∈nw rows f i):b∈nw rows g i:=by
 cases q:rows[i]? with
 | none=>unfold nw at L;rw [q] at L;cases L
 | some r =>rw [p9 q] at L ⊢;exact L.imp id fun ⟨h1,j,O,L⟩=>⟨h1,j,O,h j b L⟩
theorem Fnd.step (F:Fnd rows B found) (Y:∀ (i:Nat) (r:Rw) (b:Str),rows[i]?=some r->b∈r.reads->b∈B) (hi:i<rows.length):Fnd rows B (found.set i (nw rows found i)):=by
 have O:i<found.length:=by rw [F.len];exact hi
 obtain ⟨r,U⟩:∃ r,rows[i]?=some r:=⟨rows[i],by simp [hi]⟩
 have mono:∀ j b,b∈found.getD j []->b∈(found.set i (nw rows found i)).getD j []:=fun j b q=>by
  obtain ⟨m,L,W⟩:=mL q;by_cases e:i=j
  . subst e;rw [jI (qd8 O)];exact F.inc i m b L W
  . rw [jI (l:=found.set i (nw rows found i)) (m:=m) (by rw [gN e];exact L)];exact W
 refine ⟨by simp [F.len],fun j l h=>?_,fun j l b h q=>?_,fun j l b h q=>?_,fun j l b h q=>?_⟩
 . by_cases e:i=j
   . subst e;rw [qd8 O] at h;cases h;exact zI _ _ _
   . rw [gN e] at h;exact F.sd j l h
 . by_cases e:i=j
   . subst e;rw [qd8 O] at h;cases h;rcases (p9 U).mp q with z | ⟨_,j,_,z⟩
     . exact Y i r b U z
     . obtain ⟨m,L,q⟩:=mL z;exact F.sub j m b L q
   . rw [gN e] at h;exact F.sub j l b h q
 . by_cases e:i=j
   . subst e;rw [qd8 O] at h;cases h;rcases (p9 U).mp q with z | ⟨h1,j,Z,z⟩
     . exact .here U z
     . obtain ⟨m,L,q⟩:=mL z;exact .on U h1 Z (F.nd j m b L q)
   . rw [gN e] at h;exact F.nd j l b h q
 . by_cases e:i=j
   . subst e;rw [qd8 O] at h;cases h;exact rA mono q
   . rw [gN e] at h;exact rA mono (F.inc j l b h q)
theorem rB:∀ {found:List (List Str)} {i:Nat} {l m:List Str},found[i]?=some l->tot (found.set i m)+l.length=tot found+m.length
 | [],i,l,m,h=>by simp at h
 | x::f,0,l,m,h=>by simp at h;subst h;simp only [tot,qn8,qa5,qr4];lia
 | x::f,i+1,l,m,h=>by have:=rB (found:=f) (i:=i) (l:=l) (m:=m) (by simpa using h);simp only [tot,qr5,qa5,qr4] at this ⊢;lia
theorem tot_le:∀ {found:List (List Str)},(∀ l∈found,l.length<=n)->tot found<=found.length*n
 | [],_=>by simp [tot]
 | x::f,h=>by
  have:=tot_le (found:=f) fun l q=>h l (.tail _ q)
  have h1:=h x (.head _);simp only [tot,qa5,qr4,qc0,Nat.succ_mul] at this ⊢;lia
theorem Fnd.short (F:Fnd rows B found) {l:List Str} (h:found[i]?=some l):l.length<=B.length:=cQ (F.sd i l h).nodup fun b q=>F.sub i l b h q
theorem Fnd.tot_le (F:Fnd rows B found):tot found<=rows.length*B.length:=by
 rw [<- F.len];refine L2.tot_le fun l q=>?_
 obtain ⟨i,h⟩:=qp5 q;exact F.short h
theorem Fnd.more (F:Fnd rows B found) {l:List Str} (h:found[i]?=some l) (q:nw rows found i≠l):tot found<tot (found.set i (nw rows found i)):=by have h1:=rB (m:=nw rows found i) h;have h2:=DH (F.sd i l h) (zI rows found i) (fun x L=>F.inc i l x h L) (qn9 q);lia
def Fix (rows:List Rw) (found:List (List Str)):Prop:=∀ (i:Nat) (l:List Str),found[i]?=some l->nw rows found i=l
end
variable {j:Int}
theorem gAdd_i {i:Int}:aT (.int i) (.int j)=some (.leaf (.int (i+j))):=rfl
variable {y:Str}
theorem vW (h:x.length+y.length<=qb0):aT (.str x) (.str y)=some (.leaf (.str (x++y))):=if_pos h
variable {l m:List Dt}
theorem vX (h:l.length+m.length<=qb0):aT (.lst l) (.lst m)=some (.lst (l++m)):=if_pos h
theorem gSub_i {i:Int}:eU (.int i) (.int j)=some (.leaf (.int (i-j))):=rfl
theorem BI {i:Int} (h:ji i j=true):j0 (.int i) (.int j)=some (.leaf (.int (i*j))):=if_pos h
theorem gF {i:Int} (h:0<j):c7 (.int i) (.int j)=some (.leaf (.int (i%j))):=if_pos h
theorem BJ {i:Int} (h:nJ i j=true):pF (.int i) (.int j)=some (.leaf (.int (i^j.toNat))):=if_pos h
theorem vY:nJ 2 40=true:=by decide
@[irreducible] def wide:Int:=1099511627776
theorem rC:wide=1099511627776:=by unfold wide;rfl
theorem Es:pF (.int 2) (.int 40)=some (.leaf (.int wide)):=by rw [BJ vY,rC];rfl
theorem vZ:(0:Int)<wide:=by rw [rC];decide
theorem gMod_w {i:Int}:c7 (.int i) (.int wide)=some (.leaf (.int (i%wide))):=gF vZ
theorem gCmp_i {f:Int->Int->Bool} {i:Int}:gx f (.int i) (.int j)=some (.leaf (.bl (f i j))):=rfl
theorem DJ (h:(cmpbs l m&&decide (deeps l<=59))=true):eqD (.tup l) (.tup m)=some (peqs l m):=if_pos h
theorem DK (h:(cmpbs l m&&decide (deeps l<=59))=true):eqD (.lst l) (.lst m)=some (peqs l m):=if_pos h
variable {neg b:Bool}
theorem v0 {x y:Dt} (h:eqD x y=some b):gEq neg x y=some (.leaf (.bl (if neg then !b else b))):=by unfold gEq;rw [h];rfl
theorem gEq_ii {i:Int}:gEq false (.int i) (.int j)=some (.leaf (.bl (decide (i=j)))):=rfl
theorem gEq_ss {i j:Str}:gEq false (.str i) (.str j)=some (.leaf (.bl (decide (i=j)))):=rfl
theorem gNe_ss {i j:Str}:gEq true (.str i) (.str j)=some (.leaf (.bl (!decide (i=j)))):=rfl
theorem oI {i:Int}:aj (.lst l) (.int i)=(atI l i).map .leaf:=rfl
theorem zJ {i:Int}:aj (.tup l) (.int i)=(atI l i).map .leaf:=rfl
theorem DM {i:Int} (h:x.length<=qb0):aj (.str x) (.int i)=(atI x.cps.toList i).map fun c=>.leaf (.str ⟨#[c]⟩):=if_pos h
theorem DN {x:Dt} (h:(bB x&&l.all bB)=true):aY neg x (.lst l)=some (.leaf (.bl (if neg then !(l.any fun y=>eqF y x) else l.any fun y=>eqF y x))):=by cases x<;>simp only [aY,gIn,inD]<;>first | rw [if_pos h];rfl | cases h
theorem zK {x:Dt} (h:(bB x&&l.all bB)=true):aY neg x (.tup l)=some (.leaf (.bl (if neg then !(l.any fun y=>eqF y x) else l.any fun y=>eqF y x))):=by cases x<;>simp only [aY,gIn,inD]<;>first | rw [if_pos h];rfl | cases h
theorem gLen_l:bN [.lst l]=some (.leaf (.int l.length)):=rfl
theorem gLen_t:bN [.tup l]=some (.leaf (.int l.length)):=rfl
theorem DQ:bD [.lst l]=some (.leaf (.tup l)):=rfl
theorem BK (h:eT j=true):dQ [.int j]=some (gv 0 j.toNat):=if_pos h
theorem v4 (q:-1000000000<=j) (h1:j<=1000000000):eT j=true:=by unfold eT;simp only [qa9,decide_eq_true_eq];lia
theorem BL (h:n<=1000000000):dQ [.int n]=some (gv 0 n):=by rw [BK (v4 (by lia) (by lia))];rfl
theorem itD_l:itD (.lst l)=some l:=rfl
theorem itD_t:itD (.tup l)=some l:=rfl
theorem truD_b:uJ (.bl b)=some b:=rfl
theorem asB_b:asB (.leaf (.bl b))=some b:=rfl
theorem DR {b:Int}:asI (.int b)=some b:=rfl
theorem small (h:n<=1000000):n<=qb0:=qb8 h (by decide)
theorem oJ (h:n<1000000):n<qb0:=qb4 h (by decide)
variable {src:List (Option Nat)} {fi:De->Option (List Dt)} {bb:Dt->De->Option De} {ft:De->Option Bool} {fe:De->Option Dt} {δ:De} {ds:List Dt}
theorem v6 {ys:List Dt} (h1:fi δ=some ds) (h2:bK bb ft fe (dC src δ) ds=some ys) (h3:ys.length<=1000000):aF src fi bb ft fe δ=some (.lst ys):=by unfold aF;rw [h1,qa1,h2,qa1];exact if_pos (small h3)
variable {g:De->Option Out}
theorem aU {d:Dt} {r:List Dt} {δ1 δ2:De} (h1:bb d δ=some δ1) (h2:g δ1=some (.nx δ2)):cw bb g (d::r) δ=cw bb g r δ2:=by show ((bb d δ).bind fun δ1=>(g δ1).bind fun o=>match o with | .nx δ2=>cw bb g r δ2 | .ct δ2=>cw bb g r δ2 | .bk δ2=>some (.nx δ2) | .rt t=>some (.rt t) | .re t δ2=>some (.re t δ2))=_;rw [h1,qa1,h2];rfl
theorem bj {α:Type} {l:List α} {k:Nat}:atI l (k:Int)=l[k]?:=by
 unfold atI ixN;rw [if_pos (by lia)];by_cases h:k<l.length
 . rw [if_pos (by lia)];simp
 . rw [if_neg (by lia)];simp;lia
theorem gMul_r {i:Int} (h1:-1000000000000000000<j) (h2:j<1000000000000000000):j0 (.int i) (.int j)=some (.leaf (.int (i*j))):=BI (xE h1 h2)
def oK (o:Option Out) (g:De->Option Out):Option Out:=o.bind fun o=>match o with
 | .nx δ'=>g δ'
 | o=>some o
theorem aX {g1 g2:De->Option Out}:ap g1 g2 δ=oK (g1 δ) g2:=rfl
theorem aD:oK (some (.nx δ)) g=g δ:=rfl
theorem DU {t:T}:oK (some (.rt t)) g=some (.rt t):=rfl
def jx:Option Out->Option T
 | some (.rt t)=>some t
 | some (.nx _)=>some (.leaf .non)
 | _=>none
theorem gG {m:Nat}:cb m g ds=jx (g (ds.map (fun d=>some (.leaf d))++qe6 (m-ds.length) none)):=rfl
theorem Et {t:T}:jx (some (.rt t))=some t:=rfl
def gk {α:Type} (b:Option Bool) (f g:De->Option α) (δ:De):Option α:=b.bind fun b=>if b then f δ else g δ
theorem iC {α:Type} {f g:De->Option α}:gk (some true) f g δ=f δ:=rfl
theorem eQ {α:Type} {f g:De->Option α}:gk (some false) f g δ=g δ:=rfl
theorem dA {α:Type} {f g:De->Option α} (h:b=true):gk (some b) f g δ=f δ:=by subst h;rfl
theorem dg {α:Type} {f g:De->Option α} (h:b=false):gk (some b) f g δ=g δ:=by subst h;rfl
theorem jo {c:De->Option Bool} {g1 g2:De->Option Out}:sIf c g1 g2 δ=gk (c δ) g1 g2 δ:=rfl
theorem vIf_d {c:De->Option Bool} {g1 g2:De->Option T}:vIf c g1 g2 δ=gk (c δ) g1 g2 δ:=rfl
def kB (b:Bool):De->Option Bool:=fun _=>some b
theorem kB_d:kB b δ=some b:=rfl
variable {f:De->Option Bool}
theorem i8 {g:De->Option Bool}:cL f g δ=gk (f δ) g (kB false) δ:=rfl
theorem DV {g:De->Option Bool}:fOr f g δ=gk (f δ) (kB true) g δ:=rfl
def mkL (ds:List Dt):Option T:=if ds.length<=qb0 then some (.lst ds) else none
def mkTp (ds:List Dt):Option T:=if ds.length<=qb0 then some (.leaf (.tup ds)) else none
theorem bT (h:ds.length<=1000000):mkL ds=some (.lst ds):=if_pos (small h)
theorem yt (h:ds.length<=1000000):mkTp ds=some (.leaf (.tup ds)):=if_pos (small h)
theorem BM {f:De->Option (List Dt)}:bZ f δ=(f δ).bind mkL:=rfl
theorem BN {f:De->Option (List Dt)}:aK f δ=(f δ).bind mkTp:=rfl
theorem Eu:aF src fi bb ft fe δ=(fi δ).bind fun ds=>(bK bb ft fe (dC src δ) ds).bind mkL:=rfl
def appL (l:List Dt) (i:Nat) (δ:De) (d:Dt):Option Out:=if l.length<qb0 then some (.nx (δ.set i (some (.lst (l++[d]))))) else none
theorem dh {d:Dt} (h:l.length<1000000):appL l i δ d=some (.nx (δ.set i (some (.lst (l++[d]))))):=if_pos (oJ h)
theorem iD {f:De->Option Dt} (h:δ[i]?=some (some (.lst l))):z15 i f δ=(f δ).bind (appL l i δ):=by unfold z15;rw [h];rfl
theorem ku:∀ ts:List Str,iW (ts.map .str)=some ts
 | []=>rfl
 | t::r=>by show (iW (r.map .str)).map (t::·)=_;rw [ku r];rfl
theorem BO {α:Type} {xs:List α} {i:Int} (L:0<=i) (h1:i<xs.length):∃ v,atI xs i=some v/\v∈xs:=by
 obtain ⟨n,rfl⟩:=Int.eq_ofNat_of_zero_le L;have q:n<xs.length:=by lia
 exact ⟨xs[n],xm (by simp [q]),zb8 q⟩
theorem yu (x:Str):x.length=x.cps.toList.length:=by show x.cps.size=_;simp
theorem mM {i:Int} (q:x.length<=1000000) (L:0<=i) (h1:i<x.length):∃ c,aj (.str x) (.int i)=some (.leaf (.str ⟨#[c]⟩))/\c∈x.cps.toList:=by obtain ⟨c,e,O⟩:=BO (xs:=x.cps.toList) L (by rw [<- yu];exact h1);refine ⟨c,?_,O⟩;rw [DM (small q),e];rfl
theorem rD (h:l.length+m.length<=1000000):aT (.lst l) (.lst m)=some (.lst (l++m)):=vX (small h)
theorem Ev {i:Int}:bB (.int i)=true:=rfl
theorem Ew:bB (.str x)=true:=rfl
theorem eqF_s:eqF (.str x) (.str y)=decide (x=y):=by show (x==y)=_;rw [qj8];simp
theorem eqF_i {x y:Int}:eqF (.int x) (.int y)=decide (x=y):=by show (x==y)=_;rw [qj8];simp
theorem kw:∀ {l m:List Dt},l.all bB=true->m.all bB=true->cmpbs l m=true
 | [],m,_,_=>by cases m<;>simp [cmpbs]
 | _::_,[],_,_=>by simp [cmpbs]
 | d::l,e::m,h,h'=>by
  simp only [qj5,qa9] at h h';simp only [cmpbs,kw h.2 h'.2,qm8];cases d<;>first | (cases h.1;done) | skip
  all_goals cases e<;>first | (cases h'.1;done) | rfl
theorem kx:∀ {l:List Dt},l.all bB=true->deeps l=0
 | [],_=>by simp [deeps]
 | d::l,h=>by simp only [qj5,qa9] at h;simp only [deeps,kx h.2];cases d<;>first | (cases h.1;done) | rfl
theorem v7 (q:l.all bB=true) (L:m.all bB=true):gEq neg (.lst l) (.lst m)=some (.leaf (.bl (if neg then !peqs l m else peqs l m))):=v0 (DK (by rw [kw q L,kx q];rfl))
theorem sFor_d:cY fi bb g δ=(fi δ).bind fun ds=>cw bb g ds δ:=rfl
theorem atI_0 {α:Type} {l:List α}:atI l 0=l[0]?:=bj (k:=0)
theorem atI_1 {α:Type} {l:List α}:atI l 1=l[1]?:=bj (k:=1)
theorem atI_2 {α:Type} {l:List α}:atI l 2=l[2]?:=bj (k:=2)
theorem atI_3 {α:Type} {l:List α}:atI l 3=l[3]?:=bj (k:=3)
theorem atI_4 {α:Type} {l:List α}:atI l 4=l[4]?:=bj (k:=4)
theorem atI_5 {α:Type} {l:List α}:atI l 5=l[5]?:=bj (k:=5)
theorem atI_6 {α:Type} {l:List α}:atI l 6=l[6]?:=bj (k:=6)
theorem atI_11 {α:Type} {l:List α}:atI l 11=l[11]?:=bj (k:=11)
variable {ch:CH}
theorem BP {δ:Sl} {d:Dt} (h:δ[i]?=some (some (.dat d))):(lo δ ch)[i]?=some (some (.leaf d)):=by
 have L:∀ (δ:Sl) (u:List Nat) (i:Nat),δ[i]?=some (some (.dat d))->(loA ch u δ)[i]?=some (some (.leaf d)):=fun δ=>by
  induction δ with
  | nil=>intro u i h;simp at h
  | cons x r q =>
   intro u i h;cases i with
   | zero =>simp only [qh3,qj3] at h;subst h;rfl
   | succ i =>
    have h':r[i]?=some (some (.dat d)):=by simpa using h
    cases x with
    | none=>simpa [loA] using q u i h'
    | some c=>cases c with
     | dat e=>simpa [loA] using q u i h'
     | ref j=>simpa [loA] using q (j::u) i h'
     | fn a F0=>simpa [loA] using q u i h'
 exact L δ [] i h
theorem zL {δ:Sl} {d:Dt} (h:δ[i]?=some (some (.dat d))):vL i (lo δ ch)=some d:=by unfold vL;rw [BP h]
open PySem
theorem BQ:(qa0 "copy"=qa0 "op")=False:=eq_false (by decide +kernel)
theorem yv:(qa0 "copy"=qa0 "load")=False:=eq_false (by decide +kernel)
theorem wV:(qa0 "copy"=qa0 "store")=False:=eq_false (by decide +kernel)
theorem yw:(qa0 "copy"=qa0 "take")=False:=eq_false (by decide +kernel)
theorem zM:(qa0 "copy"=qa0 "lay")=False:=eq_false (by decide +kernel)
theorem yx:(qa0 "copy"=qa0 "hear")=False:=eq_false (by decide +kernel)
theorem zN:(qa0 "copy"=qa0 "say")=False:=eq_false (by decide +kernel)
theorem BR:(qa0 "copy"=qa0 "if")=False:=eq_false (by decide +kernel)
theorem BS:(qa0 "copy"=qa0 "go")=False:=eq_false (by decide +kernel)
theorem zO:(qa0 "copy"=qa0 "end")=False:=eq_false (by decide +kernel)
theorem BT:(qa0 "op"=qa0 "copy")=False:=eq_false (by decide +kernel)
theorem BU:(qa0 "op"=qa0 "load")=False:=eq_false (by decide +kernel)
theorem zP:(qa0 "op"=qa0 "store")=False:=eq_false (by decide +kernel)
theorem BV:(qa0 "op"=qa0 "take")=False:=eq_false (by decide +kernel)
theorem Cu:(qa0 "op"=qa0 "lay")=False:=eq_false (by decide +kernel)
theorem BW:(qa0 "op"=qa0 "hear")=False:=eq_false (by decide +kernel)
theorem Cv:(qa0 "op"=qa0 "say")=False:=eq_false (by decide +kernel)
theorem DX:(qa0 "op"=qa0 "if")=False:=eq_false (by decide +kernel)
theorem DY:(qa0 "op"=qa0 "go")=False:=eq_false (by decide +kernel)
theorem Cw:(qa0 "op"=qa0 "end")=False:=eq_false (by decide +kernel)
theorem yy:(qa0 "load"=qa0 "copy")=False:=eq_false (by decide +kernel)
theorem BX:(qa0 "load"=qa0 "op")=False:=eq_false (by decide +kernel)
theorem wW:(qa0 "load"=qa0 "store")=False:=eq_false (by decide +kernel)
theorem yz:(qa0 "load"=qa0 "take")=False:=eq_false (by decide +kernel)
theorem zQ:(qa0 "load"=qa0 "lay")=False:=eq_false (by decide +kernel)
theorem yA:(qa0 "load"=qa0 "hear")=False:=eq_false (by decide +kernel)
theorem zR:(qa0 "load"=qa0 "say")=False:=eq_false (by decide +kernel)
theorem BY:(qa0 "load"=qa0 "if")=False:=eq_false (by decide +kernel)
theorem BZ:(qa0 "load"=qa0 "go")=False:=eq_false (by decide +kernel)
theorem zS:(qa0 "load"=qa0 "end")=False:=eq_false (by decide +kernel)
theorem wX:(qa0 "store"=qa0 "copy")=False:=eq_false (by decide +kernel)
theorem zT:(qa0 "store"=qa0 "op")=False:=eq_false (by decide +kernel)
theorem wY:(qa0 "store"=qa0 "load")=False:=eq_false (by decide +kernel)
theorem wZ:(qa0 "store"=qa0 "take")=False:=eq_false (by decide +kernel)
theorem yB:(qa0 "store"=qa0 "lay")=False:=eq_false (by decide +kernel)
theorem w4:(qa0 "store"=qa0 "hear")=False:=eq_false (by decide +kernel)
theorem yC:(qa0 "store"=qa0 "say")=False:=eq_false (by decide +kernel)
theorem zU:(qa0 "store"=qa0 "if")=False:=eq_false (by decide +kernel)
theorem zV:(qa0 "store"=qa0 "go")=False:=eq_false (by decide +kernel)
theorem yD:(qa0 "store"=qa0 "end")=False:=eq_false (by decide +kernel)
theorem yE:(qa0 "take"=qa0 "copy")=False:=eq_false (by decide +kernel)
theorem B0:(qa0 "take"=qa0 "op")=False:=eq_false (by decide +kernel)
theorem yF:(qa0 "take"=qa0 "load")=False:=eq_false (by decide +kernel)
theorem w6:(qa0 "take"=qa0 "store")=False:=eq_false (by decide +kernel)
theorem zW:(qa0 "take"=qa0 "lay")=False:=eq_false (by decide +kernel)
theorem yG:(qa0 "take"=qa0 "hear")=False:=eq_false (by decide +kernel)
theorem zX:(qa0 "take"=qa0 "say")=False:=eq_false (by decide +kernel)
theorem B1:(qa0 "take"=qa0 "if")=False:=eq_false (by decide +kernel)
theorem B2:(qa0 "take"=qa0 "go")=False:=eq_false (by decide +kernel)
theorem zY:(qa0 "take"=qa0 "end")=False:=eq_false (by decide +kernel)
theorem zZ:(qa0 "lay"=qa0 "copy")=False:=eq_false (by decide +kernel)
theorem Cy:(qa0 "lay"=qa0 "op")=False:=eq_false (by decide +kernel)
theorem z0:(qa0 "lay"=qa0 "load")=False:=eq_false (by decide +kernel)
theorem yH:(qa0 "lay"=qa0 "store")=False:=eq_false (by decide +kernel)
theorem Aa:(qa0 "lay"=qa0 "take")=False:=eq_false (by decide +kernel)
theorem Ab:(qa0 "lay"=qa0 "hear")=False:=eq_false (by decide +kernel)
theorem B3:(qa0 "lay"=qa0 "say")=False:=eq_false (by decide +kernel)
theorem Cz:(qa0 "lay"=qa0 "if")=False:=eq_false (by decide +kernel)
theorem CA:(qa0 "lay"=qa0 "go")=False:=eq_false (by decide +kernel)
theorem B4:(qa0 "lay"=qa0 "end")=False:=eq_false (by decide +kernel)
theorem yI:(qa0 "hear"=qa0 "copy")=False:=eq_false (by decide +kernel)
theorem B5:(qa0 "hear"=qa0 "op")=False:=eq_false (by decide +kernel)
theorem yJ:(qa0 "hear"=qa0 "load")=False:=eq_false (by decide +kernel)
theorem w8:(qa0 "hear"=qa0 "store")=False:=eq_false (by decide +kernel)
theorem yK:(qa0 "hear"=qa0 "take")=False:=eq_false (by decide +kernel)
theorem Ac:(qa0 "hear"=qa0 "lay")=False:=eq_false (by decide +kernel)
theorem Ad:(qa0 "hear"=qa0 "say")=False:=eq_false (by decide +kernel)
theorem B6:(qa0 "hear"=qa0 "if")=False:=eq_false (by decide +kernel)
theorem B7:(qa0 "hear"=qa0 "go")=False:=eq_false (by decide +kernel)
theorem Ae:(qa0 "hear"=qa0 "end")=False:=eq_false (by decide +kernel)
theorem yL:(qa0 "say"=qa0 "store")=False:=eq_false (by decide +kernel)
theorem CB:(qa0 "say"=qa0 "if")=False:=eq_false (by decide +kernel)
theorem CC:(qa0 "say"=qa0 "go")=False:=eq_false (by decide +kernel)
theorem B8:(qa0 "say"=qa0 "end")=False:=eq_false (by decide +kernel)
theorem Af:(qa0 "if"=qa0 "store")=False:=eq_false (by decide +kernel)
theorem DZ:(qa0 "if"=qa0 "go")=False:=eq_false (by decide +kernel)
theorem CD:(qa0 "if"=qa0 "end")=False:=eq_false (by decide +kernel)
theorem Ah:(qa0 "go"=qa0 "store")=False:=eq_false (by decide +kernel)
theorem CG:(qa0 "go"=qa0 "end")=False:=eq_false (by decide +kernel)
theorem yM:(qa0 "end"=qa0 "store")=False:=eq_false (by decide +kernel)
theorem CI:(qa0 "end"=qa0 "if")=False:=eq_false (by decide +kernel)
theorem CJ:(qa0 "end"=qa0 "go")=False:=eq_false (by decide +kernel)
section
variable {c f m:Str} {fa fb fe fk fo fx:Fg} {fs:Fgs} {g:Fd} {δ:Sl} {ch ch1 ch2 ch3:CH} {i:Nat} {ns:List Str} {l cs:List CV} {x v w:CV} {d:Dt} {o o':CO}
theorem v8 (q:fs δ ch=some (cs,ch2)):eC g fs δ ch=g cs ch2:=by unfold eC;rw [q,qa1]
theorem v9 (q:fe δ ch=some (v,ch1)) (L:fa δ ch1=some (.ref i,ch2)) (hk:fk δ ch2=some (.dat d,ch3)) (O:ch3[i]?=some o) (hp:xU o d v=some o'):lF fa fk fe δ ch=some (.nx δ (ch3.set i o')):=by unfold lF;rw [q,qa1];dsimp only;rw [L,qa1];dsimp only;rw [hk,qa1];simp only [O,qa1,hp,qe5]
theorem B9 (h1:fa δ ch=some (.ref i,ch1)) (h2:fb δ ch1=some (.dat d,ch2)) (L:ch2[i]?=some o) (q:ixO o d=some x):eIx fa fb δ ch=some (x,ch2):=by unfold eIx;rw [h1,qa1];dsimp only;rw [h2,qa1];simp only [L,qa1,q,qe5]
theorem Ea {g:Dt->Dt->Option T} {y z:Dt} {t:T} (h1:fa δ ch=some (x,ch1)) (h2:fb δ ch1=some (v,ch2)) (O:vw ch2 x=some y) (L:vw ch2 v=some z) (q:g y z=some t):e2 g fa fb δ ch=al ch2 t:=by unfold e2;rw [h1,qa1];dsimp only;rw [h2,qa1];simp only [O,L,qa1,q]
theorem Eb {g:List Dt->Option T} {t:T} (h1:fs δ ch=some (cs,ch1)) (h2:vws ch1 cs=some ds) (h3:g ds=some t):eB g fs δ ch=al ch1 t:=by unfold eB;rw [h1,qa1];dsimp only;rw [h2,qa1,h3,qa1]
theorem gl {fd:De->Option Dt} (h:fd (lo δ ch)=some d):eD fd δ ch=some (.dat d,ch):=by unfold eD;rw [h];rfl
theorem Ec (h:ft (lo δ ch)=some b):tD ft δ ch=some (b,ch):=by unfold tD;rw [h];rfl
theorem kz (h:δ[i]?=some (some v)):eV i δ ch=some (v,ch):=by unfold eV;rw [h]
theorem aR (h:fa δ ch=some (v,ch1)):aC i fa δ ch=some (.nx (δ.set i (some v)) ch1):=by unfold aC;rw [h];rfl
theorem oM (h:fa δ ch=some (v,ch1)):dz fa δ ch=some (.rt v ch1):=by unfold dz;rw [h];rfl
theorem wa (h:fa δ ch=some (.dat (.bl b),ch1)):j6 fa δ ch=some (b,ch1):=by unfold j6;rw [h];rfl
theorem wb (q:i<δ.length):mgS [i] δ ((lo δ ch).set i (some (.leaf d)))=δ.set i (some (.dat d)):=by
 have h2:(lo δ ch).length=δ.length:=fU ch [] δ;apply List.ext_getElem?;intro j;unfold mgS;rw [qp6];by_cases e:i=j
 . subst e;rw [qd8 q,gQ q,qd8 (by rw [h2];exact q)];simp
 . rw [gN e,gN e];have L:¬ j=i:=fun z=>e z.symm
   cases h:δ[j]? with
   | none=>rfl
   | some x=>simp [L]
theorem mN {g:Fs} {r:List Dt} {δ2:Sl} (q:i<δ.length) (h:g (δ.set i (some (.dat d))) ch=some (.nx δ2 ch2)):kQ [i] (ai i) g (d::r) δ ch=kQ [i] (ai i) g r δ2 ch2:=by show ((ai i d (lo δ ch)).bind fun δ1=>(g (mgS [i] δ δ1) ch).bind fun o=>_)=_;unfold ai;rw [qa1,wb q,h];rfl
end
def Atm.d:Atm->Dt
 | .nm x=>.str x
 | .vl i=>.int i
noncomputable def Rw.d:Rw->Dt
 | .copy x a=>.tup [.str "copy",.str x,a.d]
 | .op x s a b=>.tup [.str "op",.str x,.str s,a.d,b.d]
 | .load x c=>.tup [.str "load",.str x,.str c]
 | .store c a=>.tup [.str "store",.str c,a.d]
 | .take x f a=>.tup [.str "take",.str x,.str f,a.d]
 | .lay f a b=>.tup [.str "lay",.str f,a.d,b.d]
 | .hear x=>.tup [.str "hear",.str x]
 | .say a=>.tup [.str "say",a.d]
 | .iff a g=>.tup [.str "if",a.d,.int g]
 | .go g=>.tup [.str "go",.int g]
 | .fin a=>.tup [.str "end",a.d]
def dI (j:Nat):Dt:=.int (j:Int)
def dS (l:List Str):Dt:=.lst (l.map .str)
def dF (f:List (List Str)):Dt:=.lst (f.map dS)
def dR (rows:List Rw):Dt:=.tup (rows.map Rw.d)
theorem bE {α:Type} {f h:α->Dt}:∀ {l:List α},(∀ a∈l,∃ δ1,bb (f a) δ=some δ1/\ft δ1=some true/\fe δ1=some (h a))->bK bb ft fe δ (l.map f)=some (l.map h)
 | [],_=>rfl
 | a::l,q=>by obtain ⟨δ1,h1,h2,h3⟩:=q a qe0;rw [qa5];unfold bK;rw [h1,qa1,h2,qa1,if_pos rfl,h3,qa1,bE fun e L=>q e (qd1 _ L)];rfl
theorem bn {α:Type} {f h:α->Dt} {p:α->Bool}:∀ {l:List α},(∀ a∈l,∃ δ1,bb (f a) δ=some δ1/\ft δ1=some (p a)/\(p a=true->fe δ1=some (h a)))->bK bb ft fe δ (l.map f)=some ((l.filter p).map h)
 | [],_=>rfl
 | a::l,q=>by
  obtain ⟨δ1,h1,h2,h3⟩:=q a qe0;have L:=bn (l:=l) fun e O=>q e (qd1 _ O)
  rw [qa5];unfold bK;rw [h1,qa1,h2,qa1];cases hp:p a with
  | true =>rw [if_pos rfl,h3 hp,qa1,L,List.filter_cons_of_pos hp];rfl
  | false =>rw [if_neg (by simp),L,List.filter_cons_of_neg (by simp [hp])]
theorem tJ {α:Type} {f:α->Dt}:∀ (l:List α) (i:Nat),ce i (l.map f)=(l.mapIdx fun k a=>Dt.tup [.int ((i+k:Nat):Int),f a])
 | [],_=>rfl
 | a::l,i=>by rw [qa5,ce,tJ l (i+1),zb9];congr 1;congr 1;funext k a;rw [show i+1+k=i+(k+1) by lia]
theorem kA {α:Type} {f:α->Dt} {h:Nat->α->Dt}:∀ {l:List α} (i:Nat),(∀ k a,∃ δ1,bb (.tup [.int ((k:Nat):Int),f a]) δ=some δ1/\fe δ1=some (h k a))->bK bb bf fe δ (ce i (l.map f))=some (l.mapIdx fun k a=>h (i+k) a)
 | [],_,_=>rfl
 | a::l,i,q=>by obtain ⟨δ1,h1,h3⟩:=q i a;rw [qa5,ce];unfold bK;rw [h1,qa1];show ((fe δ1).bind fun y=>_)=_;rw [h3,qa1,kA (i+1) q,zb9];show some _=some _;congr 1;congr 1;congr 1;funext k a;rw [show i+1+k=i+(k+1) by lia]
theorem cD (l:List Str):(l.map Dt.str).all bB=true:=by rw [qj1];intro x q;obtain ⟨y,_,rfl⟩:=qc6.mp q;rfl
theorem rE (l:List Str) (x:Str):((l.map Dt.str).any fun y=>eqF y (.str x))=decide (x∈l):=by
 induction l with
 | nil=>rfl
 | cons a l q =>
  rw [qa5,qi5,q,show eqF (.str a) (.str x)=decide (a=x) from rfl];by_cases h:a=x
  . simp [h]
  . have:¬ x=a:=fun z=>h z.symm
    simp [h,this]
theorem iE {l:List Str}:aY neg (.str x) (.lst (l.map .str))=some (.leaf (.bl (if neg then !decide (x∈l) else decide (x∈l)))):=by rw [DN (by rw [cD];rfl),rE]
theorem oN {l:List Str} (h:l.length<64):iy [.lst (l.map .str)]=some (.lst ((eX (bL l)).map .str)):=by unfold iy tm;dsimp only;rw [ku,qa1,if_pos ⟨by lia,qx1 (lS l) h⟩]
def extL (l m:List Dt) (i:Nat) (δ:De):Option Out:=if l.length+m.length<=qb0 then some (.nx (δ.set i (some (.lst (l++m))))) else none
theorem rF (h:l.length+m.length<=1000000):extL l m i δ=some (.nx (δ.set i (some (.lst (l++m))))):=if_pos (small h)
theorem Ai {f:De->Option T} (h:δ[i]?=some (some (.lst l))) (q:f δ=some (.lst m)):q43 i f δ=extL l m i δ:=by unfold q43;rw [h];dsimp only;rw [q];rfl
theorem lY:∀ {l m:List Str},peqs (l.map .str) (m.map .str)=decide (l=m)
 | [],[]=>rfl
 | [],_::_=>rfl
 | _::_,[]=>rfl
 | a::l,b::m=>by rw [qa5,qa5];show (decide (a=b)&&peqs (l.map .str) (m.map .str))=_;rw [lY];by_cases h1:a=b<;>by_cases h2:l=m<;>simp [h1,h2]
theorem wc {l m:List Str}:gEq neg (.lst (l.map .str)) (.lst (m.map .str))=some (.leaf (.bl (if neg then !decide (l=m) else decide (l=m)))):=by rw [v7 (cD l) (cD m),lY]
def cS (l:List Str):CO:=.lst (l.map fun x=>.dat (.str x))
structure Pl (ch:CH) (fi:Nat) (refs:List Nat) (found:List (List Str)):Prop where
 top:ch[fi]?=some (.lst (refs.map CV.ref))
 len:refs.length=found.length
 out:fi∉refs
 has:∀ (k r:Nat) (l:List Str),refs[k]?=some r->found[k]?=some l->ch[r]?=some (cS l)
theorem mO {d:Dt}:∀ n:Nat,vwD ch n (.dat d)=some d
 | 0=>by simp only [vwD]
 | n+1=>by simp only [vwD]
theorem lZ:∀ l:List Str,dG (vwD ch n) (l.map fun x=>CV.dat (.str x))=some (l.map .str)
 | []=>rfl
 | x::l=>by rw [qa5];unfold dG;rw [mO,qa1,lZ l];rfl
theorem oO {r:Nat} {l:List Str} (h:ch[r]?=some (cS l)):vwD ch (n+1) (.ref r)=some (dS l):=by unfold vwD;rw [h];show (dG (vwD ch n) _).map _=_;rw [lZ];rfl
theorem l4:∀ {refs:List Nat} {found:List (List Str)},refs.length=found.length->(∀ (k r:Nat) (l:List Str),refs[k]?=some r->found[k]?=some l->ch[r]?=some (cS l))->dG (vwD ch (n+1)) (refs.map CV.ref)=some (found.map dS)
 | [],[],_,_=>rfl
 | [],_::_,h,_=>by cases h
 | _::_,[],h,_=>by cases h
 | r::refs,l::found,h,q=>by rw [qa5];unfold dG;rw [oO (q 0 r l rfl rfl),qa1,l4 (by simpa using h) fun k r l h1 h2=>q (k+1) r l (by simpa using h1) (by simpa using h2)];rfl
section
variable {ch:CH} {fi:Nat} {refs:List Nat} {found:List (List Str)}
theorem Pl.view (h:Pl ch fi refs found):vwD ch 2 (.ref fi)=some (dF found):=by unfold vwD;rw [h.top];show (dG (vwD ch 1) _).map _=_;rw [l4 h.len h.has];rfl
theorem Pl.lt (h:Pl ch fi refs found):fi<ch.length:=(gX h.top).1
theorem rG {g:CH} {o:CO} (h:ch[i]?=some o):(ch++g)[i]?=some o:=by rw [qb5 (gX h).1];exact h
theorem Pl.app (h:Pl ch fi refs found) (g:CH):Pl (ch++g) fi refs found:=⟨rG h.top,h.len,h.out,fun k r l h1 h2=>rG (h.has k r l h1 h2)⟩
theorem Pl.put (h:Pl ch fi refs found) {new:Nat} {m:List Str} (U:ch[new]?=some (cS m)) (L:new≠fi):Pl (ch.set fi (.lst ((refs.map CV.ref).set i (.ref new)))) fi (refs.set i new) (found.set i m):=by
 have q:=h.lt;refine ⟨by rw [qd8 q,List.map_set],by simp [h.len],fun z=>?_,fun k r l h1 h2=>?_⟩
 . rcases qx9 z with z | z
   . exact h.out z
   . exact L z.symm
 . have O:r≠fi:=fun e=>by
    rw [e] at h1;rcases qx9 (qf5 h1) with z | z
    . exact h.out z
    . exact L z.symm
   rw [gN (qn9 O)];rw [qy8] at h1 h2;split at h1
   . rename_i e;subst e;rw [if_pos rfl] at h2;split at h1<;>cases h1
     split at h2<;>cases h2
     exact U
   . rename_i e;rw [if_neg e] at h2;exact h.has k r l h1 h2
end
theorem Ca {m:Nat} {f:De->Option T} {δ:Sl} {l:List Str} (h:f (loD m δ ch)=some (.lst (l.map .str))):eDV m f δ ch=some (.ref ch.length,ch++[cS l]):=by unfold eDV;rw [h,qa1];unfold nY;dsimp only;rw [if_pos (cD l),qa1];unfold al cS;simp
theorem Cb {m:Nat} {δ:Sl} (h:f (loD m δ ch)=some b):tDV m f δ ch=some (b,ch):=by unfold tDV;rw [h];rfl
variable {g1 g2:Fs} {δ1:Sl} {ch1:CH}
theorem av {δ:Sl} (h:g1 δ ch=some (.nx δ1 ch1)):aw g1 g2 δ ch=g2 δ1 ch1:=by unfold aw;rw [h];rfl
variable {c:Ft}
theorem rH {δ:Sl} (h:c δ ch=some (b,ch1)):e5 c g1 g2 δ ch=if b then g1 δ ch1 else g2 δ ch1:=by unfold e5;rw [h];rfl
theorem qa {δ:Sl} (h:c δ ch=some (true,ch1)):e5 c g1 g2 δ ch=g1 δ ch1:=by rw [rH h,if_pos rfl]
theorem mP {δ:Sl} (h:c δ ch=some (false,ch1)):e5 c g1 g2 δ ch=g2 δ ch1:=by rw [rH h,if_neg (by simp)]
theorem oP {g:Fs} {δ:Sl} {ch2:CH} (h:c δ ch=some (true,ch1)) (q:g δ ch1=some (.nx δ1 ch2)):b8 c g (n+1) δ ch=b8 c g n δ1 ch2:=by show ((c δ ch).bind fun p=>_)=_;rw [h,qa1];dsimp only;rw [if_pos rfl,q];rfl
theorem oQ {g:Fs} {δ:Sl} (h:c δ ch=some (false,ch1)):b8 c g (n+1) δ ch=some (.nx δ ch1):=by show ((c δ ch).bind fun p=>_)=_;rw [h,qa1];rfl
theorem fZ {m:Nat} {g:Fs} {cs:List CV} {ch':CH} {c:CV} (h:g (cs.map some++qe6 (m-cs.length) none) ch=some (.rt c ch')):e6 m g cs ch=some (c,ch'):=by unfold e6;rw [h]
theorem Cc {k:Nat} (h:k<n):ixN n (k:Int)=some k:=by unfold ixN;rw [if_pos (by lia),if_pos (by lia)];simp
theorem Cd {l:List CV} {k:Nat} {c:CV} (h:k<l.length):xU (.lst l) (dI k) c=some (.lst (l.set k c)):=by unfold xU dI;simp only [DR,qa1,Cc h,qe5]
theorem tK (h:n<=1000):sT [.int ((n:Int)-1),.int (-1),.int (-1)]=some (((qc2 n).map fun i=>n-1-i).map dI):=by
 unfold sT
 have e:(qd0 ((n:Int)-1) (-1) (-1)).toNat=n:=by
  unfold qd0;rw [if_neg (by decide)];by_cases q:(n:Int)-1 > -1
  . rw [if_pos q];have:((n:Int)-1 - -1-1)/(- -1)=(n:Int)-1:=by rw [show (- -1:Int)=1 by decide,Int.ediv_one];lia
    rw [this];lia
  . rw [if_neg q];lia
 dsimp only;rw [if_pos (show vk ((n:Int)-1) (-1) (-1)=true by unfold vk;simp;lia),e];congr 1;unfold pU;rw [qc9];refine qm9 fun i hi=>?_
 have:=qd9.mp hi;show Dt.int _=Dt.int ((n-1-i:Nat):Int);congr 1;lia
section
variable {α:Type} [DecidableEq α]
abbrev CF (α:Type):=List (α×Option α)
def ks (cf:CF α):List α:=cf.map (·.1)
def gH (h:α) (cf:CF α) (t:α):CF α:=if t∈ks cf then cf else cf++[(t,some h)]
def cE (h:α) (cf:CF α) (ts:List α):CF α:=ts.foldl (gH h) cf
def bO (cf:CF α) (s:α):CF α:=if s∈ks cf then cf else cf++[(s,none)]
variable {beh:α->List α} {fit:α->Bool} {starts:List α}
theorem gI (cf cf':CF α):ks (cf++cf')=ks cf++ks cf':=qi7
theorem tM {cf:CF α} {t:α} {q:Option α} (h:cf[i]?=some (t,q)):t∈ks cf:=qc6.mpr ⟨(t,q),qf5 h,rfl⟩
theorem eR (h:α):∀ (ts:List α) (cf:CF α),∃ e,cE h cf ts=cf++e/\(∀ p∈e,p.2=some h/\p.1∈ts)/\((ks cf).Nodup->(ks (cE h cf ts)).Nodup)/\∀ t∈ts,t∈ks (cE h cf ts)
 | [],cf=>⟨[],by simp [cE],by simp,fun z=>z,by simp⟩
 | t::ts,cf=>by
  obtain ⟨e,h1,h2,h3,Z⟩:=eR h ts (gH h cf t);have e0:cE h cf (t::ts)=cE h (gH h cf t) ts:=rfl;rw [e0]
  have U:t∈ks (cE h (gH h cf t) ts):=by
   rw [h1,gI];refine qp4 _ ?_;unfold gH;split
   . assumption
   . rw [gI];exact qc8 _ (by simp [ks])
  have L:∀ u∈t::ts,u∈ks (cE h (gH h cf t) ts):=fun u O=>by
   rcases qb2.mp O with rfl | O
   . exact U
   . exact Z u O
  by_cases q:t∈ks cf
  . have:gH h cf t=cf:=if_pos q;rw [this] at h1 h3 ⊢;refine ⟨e,h1,fun p hp=>⟨(h2 p hp).1,qd1 _ (h2 p hp).2⟩,h3,?_⟩;rw [this] at L;exact L
  . have:gH h cf t=cf++[(t,some h)]:=if_neg q;rw [this] at h1 h3 ⊢;refine ⟨(t,some h)::e,by rw [h1,qg9];rfl,fun p hp=>?_,fun Y=>h3 ?_,?_⟩
    . rcases qb2.mp hp with rfl | hp
      . exact ⟨rfl,qe0⟩
      . exact ⟨(h2 p hp).1,qd1 _ (h2 p hp).2⟩
    . rw [gI];refine qp3.mpr ⟨Y,by simp [ks],fun a ha b W=>?_⟩;simp [ks] at W;subst W;rintro rfl;exact q ha
    . rw [this] at L;exact L
def look (cf:CF α) (t:α):Option (Option α):=(cf.find? fun p=>decide (p.1=t)).map (·.2)
end
inductive Mrk where
 | fresh | seen | safe | spoilt
deriving DecidableEq
def Rw.gets:Rw->Str->Bool
 | .load _ c,nm=>decide (c=nm) | .take _ f _,nm=>decide (f=nm)
 | _,_=>false
def Rw.puts:Rw->Str->Bool
 | .store c _,nm=>decide (c=nm) | .lay f _ _,nm=>decide (f=nm)
 | _,_=>false
def Rw.stores:Rw->Str->Bool
 | .store c _,nm=>decide (c=nm)
 | _,_=>false
def mb:Mrk->Rw->Str->Mrk
 | .fresh,r,nm=>if r.gets nm then .seen else if r.stores nm then .safe else .fresh
 | .seen,r,nm=>if r.puts nm then .spoilt else .seen
 | m,_,_=>m
section
variable (rows:List Rw) (kept:List Nat) (nm:Str)
def oR (t:Nat×Mrk):List (Nat×Mrk):=match rows[t.1]? with
 | none=>[]
 | some r=>if mb t.2 r nm=.safe then [] else ((r.outs t.1).filter fun w=>!decide (w∈kept)).map fun w=>(w,mb t.2 r nm)
def tN (t:Nat×Mrk):Bool:=match rows[t.1]? with
 | none=>false
 | some r=>decide (mb t.2 r nm=.spoilt)
def iF:List (Nat×Mrk):=(0::kept).map fun k=>(k,.fresh)
end
section
variable {rows:List Rw} {kept:List Nat} {nm:Str}
theorem tP {m:Mrk} (h:mb m r nm=.spoilt):m=.spoilt∨(m=.seen/\r.puts nm=true):=by
 cases m with
 | fresh=>simp only [mb] at h;split at h<;>(try split at h)<;>cases h
 | seen =>
  simp only [mb] at h;cases h1:r.puts nm<;>simp [h1] at h
  exact .inr ⟨rfl,rfl⟩
 | safe=>cases h
 | spoilt=>exact .inl rfl
end
section
variable {rows:List Rw} {kept:List Nat} {nm:Str}
theorem we {t u:Nat×Mrk} (h:u∈oR rows kept nm t):∃ r,rows[t.1]?=some r/\mb t.2 r nm≠.safe/\u.1∈r.outs t.1/\u.1∉kept/\u.2=mb t.2 r nm:=by
 unfold oR at h;split at h
 . cases h
 . rename_i r e;split at h
   . cases h
   . rename_i L;obtain ⟨w,q,rfl⟩:=qc6.mp h;obtain ⟨h1,h2⟩:=qd6.mp q;exact ⟨r,e,L,h1,by simpa using h2,rfl⟩
end
theorem tQ {d:Dt} {δ:Sl} (h:δ[i]?=some (some (.dat d))):eD (vL i) δ ch=some (.dat d,ch):=gl (zL h)
section
variable {α:Type} [DecidableEq α] (ky:α->Int×Str)
def nD (t:α):Dt:=.tup [.int (ky t).1,.str (ky t).2]
def nK (t:α):List Key:=[.inl (ky t).1,.inr (ky t).2]
def pC:Option α->CV
 | none=>.dat .non
 | some p=>.dat (nD ky p)
def cfD (cf:CF α):List (List Key×CV):=cf.map fun p=>(nK ky p.1,pC ky p.2)
def lsC (l:List α):CO:=.lst (l.map fun t=>.dat (nD ky t))
def hpR (ch0:CH) (cf:CF α) (J:List (List α)):CH:=ch0++(.dT (cfD ky cf)::lsC ky (ks cf)::J.map (lsC ky))
def sR (st:Dt) (f1 f2:Addr) (F0:Hp) (q:Nat) (x4 x6 O L:Option CV):Sl:=[some (.dat st),some (.fn f1 F0),some (.fn f2 F0),some (.ref q),x4,some (.ref (q+1)),x6,O,L]
variable {ky}
theorem mQ (hk:∀ a b,ky a=ky b->a=b) {a b:α} (h:nK ky a=nK ky b):a=b:=by unfold nK at h;simp only [qo4,qz8.injEq,qt6.injEq,and_true] at h;exact hk a b (Prod.ext h.1 h.2)
theorem mR (t:α):lV (.dat (nD ky t))=some (nK ky t):=rfl
theorem Aj (hk:∀ a b,ky a=ky b->a=b) (t:α):∀ cf:CF α,lkC (cfD ky cf) (nK ky t)=(look cf t).map (pC ky)
 | []=>rfl
 | p::cf=>by
  have q:=Aj hk t cf;unfold lkC cfD look at q ⊢;rw [qa5];by_cases e:p.1=t
  . rw [qr9 (by simp [e]),qr9 (by simp [e])];rfl
  . rw [qs0 (by simpa using fun z=>e (mQ hk z)),qs0 (by simpa using e)];exact q
theorem Ed {cf:CF α} {t:α}:(look cf t).isSome=decide (t∈ks cf):=by
 induction cf with
 | nil=>rfl
 | cons p cf q =>
  unfold look at q ⊢;by_cases e:p.1=t
  . rw [qr9 (by simp [e])];simp [ks,e]
  . rw [qs0 (by simpa using e),q];rw [decide_eq_decide];show t∈ks cf↔t∈p.1::ks cf;constructor
    . exact qd1 _
    . intro h;rcases qb2.mp h with z | z
      . exact absurd z.symm e
      . exact z
theorem qb (hk:∀ a b,ky a=ky b->a=b) {t:α} {c:Option α}:∀ {cf:CF α},t∉ks cf->eJ (cfD ky cf) (nK ky t) (pC ky c)=cfD ky (cf++[(t,c)])
 | [],_=>rfl
 | p::cf,h=>by
  have h1:p.1≠t:=fun z=>h (z▸qe0)
  have h2:t∉ks cf:=fun z=>h (qd1 _ z)
  show eJ ((nK ky p.1,pC ky p.2)::cfD ky cf) _ _=_;unfold eJ;rw [if_neg fun z=>h1 (mQ hk z),qb hk h2];rfl
theorem wf (hk:∀ a b,ky a=ky b->a=b) {cf:CF α} (h:(ks cf).Nodup):((cfD ky cf).map (·.1)).Nodup:=by
 have e:(cfD ky cf).map (·.1)=(ks cf).map (nK ky):=by unfold cfD ks;rw [qc9,qc9];rfl
 rw [e];rw [qw5,List.pairwise_map];exact qz4 (fun h z=>h (mQ hk z)) (qw5.mp h)
theorem rJ (cf:CF α):(cfD ky cf).length=cf.length:=qa2 ..
section
variable {ch0:CH} {cf cf':CF α} {J:List (List α)}
theorem hp_0:(hpR ky ch0 cf J)[ch0.length]?=some (.dT (cfD ky cf)):=by unfold hpR;simp
theorem Ce:(hpR ky ch0 cf J)[ch0.length+1]?=some (lsC ky (ks cf)):=by unfold hpR;rw [gR (by lia),show ch0.length+1-ch0.length=1 by lia];rfl
theorem hp_J {l:List α}:(hpR ky ch0 cf (J++[l]))[ch0.length+2+J.length]?=some (lsC ky l):=by unfold hpR;rw [qc4 (by lia),show ch0.length+2+J.length-ch0.length=J.length+1+1 by lia,qn0,qn0,qi7,qc4 (by simp)];simp
theorem Cf:(hpR ky ch0 cf J).length=ch0.length+2+J.length:=by unfold hpR;simp;lia
theorem Cg {t:α} {q:Option α}:((hpR ky ch0 cf J).set ch0.length (.dT (cfD ky (cf++[(t,q)])))).set (ch0.length+1) (.lst ((ks cf).map (fun t=>.dat (nD ky t))++[.dat (nD ky t)]))=hpR ky ch0 (cf++[(t,q)]) J:=by unfold hpR;rw [qt3 _ _ (by lia),qt4,qt3 _ _ (by lia),show ch0.length+1-ch0.length=1 by lia,qn8,qr5,qn8];unfold lsC;rw [gI,qi7];rfl
end
end
def RT0:Fs:=eO (eV 3) (eD (vL 4)) (eD (kD .non))
def RT1:Fs:=e5 (tF (eD (vL 8)) (eV 3)) (aw (eO (eV 3) (eD (vL 8)) (eD (vL 7))) (n5 (eV 5) (eD (vL 8)))) dX
def RTc:Ft:=iY (e2 (gx fun i j=>decide (i<j)) (eD (vL 6)) (eB bN (aO (eV 5) cG)))
variable {x4 x6:Option CV}
section
variable {α:Type} [DecidableEq α] {ky:α->Int×Str} (hk:∀ a b,ky a=ky b->a=b) {st:Dt} {f1 f2:Addr} {F0:Hp} {ch0:CH} {cf:CF α} {J:List (List α)} {G:Orc}
include hk in
theorem yN {h t:α} (Y:(ks cf).Nodup) (hl:cf.length<100000) :
  RT1 (sR st f1 f2 F0 ch0.length x4 x6 (some (.dat (nD ky h))) (some (.dat (nD ky t)))) (hpR ky ch0 cf J)=some (.nx (sR st f1 f2 F0 ch0.length x4 x6 (some (.dat (nD ky h))) (some (.dat (nD ky t)))) (hpR ky ch0 (gH h cf t) J)):=by
 generalize hδ:sR st f1 f2 F0 ch0.length x4 x6 (some (.dat (nD ky h))) (some (.dat (nD ky t)))=δ;have O:eD (vL 8) δ=fun ch=>some (.dat (nD ky t),ch):=funext fun ch=>tQ (by rw [<- hδ];rfl)
 have W:eD (vL 7) δ=fun ch=>some (.dat (nD ky h),ch):=funext fun ch=>tQ (by rw [<- hδ];rfl)
 have U:eV 3 δ=fun ch=>some (.ref ch0.length,ch):=funext fun ch=>kz (by rw [<- hδ];rfl)
 have v5:eV 5 δ=fun ch=>some (.ref (ch0.length+1),ch):=funext fun ch=>kz (by rw [<- hδ];rfl)
 have L:tF (eD (vL 8)) (eV 3) δ (hpR ky ch0 cf J)=some (!decide (t∈ks cf),hpR ky ch0 cf J):=by unfold tF;rw [O,U];simp only [qa1];rw [hp_0];simp only [qa1,asT,mR,qe5];rw [Aj hk,qs5,Ed]
 unfold RT1;by_cases q:t∈ks cf
 . rw [decide_eq_true q] at L;rw [mP L,show gH h cf t=cf from if_pos q];rfl
 . rw [decide_eq_false q] at L;rw [qa L,show gH h cf t=cf++[(t,some h)] from if_neg q]
   have hp:eO (eV 3) (eD (vL 8)) (eD (vL 7)) δ (hpR ky ch0 cf J)=some (.nx δ ((hpR ky ch0 cf J).set ch0.length (.dT (cfD ky (cf++[(t,some h)]))))):=by unfold eO;rw [W,U,O];simp only [qa1];rw [hp_0];simp only [mR,qa1];rw [if_pos ⟨by rw [rJ];exact small (by lia),wf hk Y⟩,<- qb hk (c:=some h) q];rfl
   rw [av hp];unfold n5;rw [v5,O];simp only [qa1]
   have Z:((hpR ky ch0 cf J).set ch0.length (.dT (cfD ky (cf++[(t,some h)]))))[ch0.length+1]?=some (lsC ky (ks cf)):=by rw [gN (by lia)];exact Ce
   rw [Z];unfold lsC;dsimp only;rw [if_pos (by rw [qa2,show (ks cf).length=cf.length from qa2 ..];exact small (by lia)),Cg]
include hk in
theorem l5 {h:α} {l:List α} {m:Nat}:∀ (d i n:Nat) (cf:CF α) (q:Option CV),i+d=l.length->d<n->(ks cf).Nodup->cf.length+d<100000→
  ∃ U,kR (ch0.length+2+J.length) (ggN 8) RT1 n i (sR st f1 f2 F0 ch0.length x4 x6 (some (.dat (nD ky h))) q) (hpR ky ch0 cf (J++[l]))=some (.nx (sR st f1 f2 F0 ch0.length x4 x6 (some (.dat (nD ky h))) U) (hpR ky ch0 (cE h cf (l.drop i)) (J++[l])))
 | 0,i,n,cf,q,hi,hn,O,Z=>by obtain ⟨n,rfl⟩:∃ m,n=m+1:=⟨n-1,by lia⟩;refine ⟨q,?_⟩;unfold kR;rw [hp_J];unfold lsC;dsimp only;rw [List.getElem?_eq_none (by rw [qa2];lia),List.drop_eq_nil_of_le (by lia)];rfl
 | d+1,i,n,cf,q,hi,hn,O,Z=>by
  obtain ⟨n,rfl⟩:∃ m,n=m+1:=⟨n-1,by lia⟩;have L:i<l.length:=by lia
  obtain ⟨e,h1,h2,h3,h4⟩:=eR h [l[i]] cf;have e1:cE h cf [l[i]]=gH h cf l[i]:=rfl;rw [e1] at h1 h3;have W:(gH h cf l[i]).length<=cf.length+1:=by unfold gH;split<;>simp
  obtain ⟨U,Y⟩:=l5 (l:=l) (m:=m) d (i+1) n (gH h cf l[i]) (some (.dat (nD ky l[i]))) (by lia) (by lia) (h3 O) (by lia);refine ⟨U,?_⟩;unfold kR;rw [hp_J];unfold lsC;dsimp only;rw [qb1,gQ L];simp only [qe5];have hb:ggN 8 (.dat (nD ky l[i])) (hpR ky ch0 cf (J++[l])) (sR st f1 f2 F0 ch0.length x4 x6 (some (.dat (nD ky h))) q)=some (sR st f1 f2 F0 ch0.length x4 x6 (some (.dat (nD ky h))) (some (.dat (nD ky l[i])))):=rfl;rw [hb,qa1,yN hk O (by lia),qa1];dsimp only;rw [Y];have:l.drop i=l[i]::l.drop (i+1):=qx5 L;rw [this];rfl
end
section
variable {α:Type} [DecidableEq α] {ky:α->Int×Str} (hk:∀ a b,ky a=ky b->a=b) {st:Dt} {f1 f2:Addr} {F0:Hp} {ch0:CH} {cf:CF α} {J:List (List α)} {G:Orc}
def RN2 (G:Orc):Fs:=aw (aC 7 (eIx (eV 5) (eD (vL 6)))) (aw (kn (fun i j=>i+j) 6 (eD (kD (.int 1)))) (aw (e5 (j6 (eCl G 2 (aO (eD (vL 7)) cG))) dy dX) (j9 (eCl G 1 (aO (eD (vL 7)) cG)) (ggN 8) RT1 100000)))
def RNf (G:Orc):Fd:=e6 9 (aw (aC 3 eNT) (aw (io (fIt (vL 0)) [4] (ai 4) RT0) (aw (aC 5 (eLT (eV 3))) (aw (aC 6 (eD (kD (.int 0)))) (aw (b8 RTc (RN2 G) 100000) (dz (eD (kD .non))))))))
def bfN (beh:α->List α):Nat->CF α->Nat->List (List α)->CF α×List (List α)
 | 0,cf,_,J=>(cf,J)
 | n+1,cf,k,J=>match cf[k]? with
  | none=>(cf,J)
  | some (h,_)=>bfN beh n (cE h cf (beh h)) (k+1) (J++[beh h])
theorem tR {U:List α} {h:α} {ts:List α} {cf:CF α} (q:∀ t∈ks cf,t∈U) (L:∀ t∈ts,t∈U):∀ t∈ks (cE h cf ts),t∈U:=fun t z=>by
 obtain ⟨e,h1,h2,_,_⟩:=eR h ts cf;rw [h1,gI] at z;rcases qg3.mp z with z | z
 . exact q t z
 . obtain ⟨p,hp,rfl⟩:=qc6.mp z;exact L _ (h2 p hp).2
include hk in
theorem Ak {U:List α} {beh:α->List α} (hU:∀ t∈U,∀ u∈beh t,u∈U) (hUl:U.length<=10000) (Y:∀ t∈U,(beh t).length<=1000) (h1:∀ t∈U,G f1 F0 [nD ky t]=some (.lst ((beh t).map (nD ky)))) (h2:∀ t∈U,G f2 F0 [nD ky t]=some (.leaf (.bl false))) :
  ∀ (n:Nat) (cf:CF α) (k:Nat) (J:List (List α)) (x4 Z O:Option CV),(ks cf).Nodup->(∀ t∈ks cf,t∈U)->k<=cf.length->U.length<n+k→
   ∃ δ',b8 RTc (RN2 G) n (sR st f1 f2 F0 ch0.length x4 (some (.dat (.int k))) Z O) (hpR ky ch0 cf J)=some (.nx δ' (hpR ky ch0 (bfN beh n cf k J).1 (bfN beh n cf k J).2))
 | n,cf,k,J,x4,Z,O,nd,hc,hk0,hn=>by
  have hcl':cf.length<=U.length:=by
   have:=cQ nd hc
   rwa [show (ks cf).length=cf.length from qa2 ..] at this
  have hcl:cf.length<=10000:=by lia
  obtain ⟨n,rfl⟩:∃ m,n=m+1:=⟨n-1,by lia⟩
  have hlen:vws (hpR ky ch0 cf J) [.ref (ch0.length+1)]=some [.lst ((ks cf).map (nD ky))]:=by
   have e:vw (hpR ky ch0 cf J) (.ref (ch0.length+1))=some (.lst ((ks cf).map (nD ky))):=by
    show ((hpR ky ch0 cf J)[ch0.length+1]?).bind vwO=_;rw [Ce];unfold lsC vwO;simp only [qa1]
    have:∀ l:List α,dats (l.map fun t=>CV.dat (nD ky t))=some (l.map (nD ky)):=fun l=>by
     induction l with
     | nil=>rfl
     | cons a l ih=>simp only [qa5,dats,ih,qe5]
    rw [this];rfl
   unfold vws;rw [e];rfl
  have L:RTc (sR st f1 f2 F0 ch0.length x4 (some (.dat (.int k))) Z O) (hpR ky ch0 cf J)=some (decide ((k:Int)<cf.length),hpR ky ch0 cf J):=by
   unfold RTc iY
   have e:eB bN (aO (eV 5) cG) (sR st f1 f2 F0 ch0.length x4 (some (.dat (.int k))) Z O) (hpR ky ch0 cf J)=some (.dat (.int (cf.length:Int)),hpR ky ch0 cf J):=by
    rw [Eb (cs:=[.ref (ch0.length+1)]) (ch1:=hpR ky ch0 cf J) rfl hlen (t:=.leaf (.int (cf.length:Int))) (by show some (T.leaf (.int (((ks cf).map (nD ky)).length:Int)))=_;rw [qa2,show (ks cf).length=cf.length from qa2 ..])]
    rfl
   rw [Ea (tQ (d:=.int k) rfl) e rfl rfl (t:=.leaf (.bl (decide ((k:Int)<cf.length)))) rfl];rfl
  unfold bfN;cases q:cf[k]? with
  | none =>have:=ql5.mp q;rw [decide_eq_false (by lia)] at L;exact ⟨_,oQ L⟩
  | some x =>
   obtain ⟨h,pq⟩:=x;dsimp only;have hkl:=(gX q).1;have W:h∈U:=hc h (tM q);rw [decide_eq_true (by lia)] at L
   have s1:aC 7 (eIx (eV 5) (eD (vL 6))) (sR st f1 f2 F0 ch0.length x4 (some (.dat (.int k))) Z O) (hpR ky ch0 cf J)=some (.nx (sR st f1 f2 F0 ch0.length x4 (some (.dat (.int k))) (some (.dat (nD ky h))) O) (hpR ky ch0 cf J)):=by
    have hx:ixO (lsC ky (ks cf)) (.int (k:Int))=some (.dat (nD ky h)):=by
     show (some (k:Int)).bind (atI _)=_;rw [qa1,bj,qb1];have:(ks cf)[k]?=some h:=by unfold ks;rw [qb1,q];rfl
     rw [this];rfl
    rw [aR (B9 (i:=ch0.length+1) (kz rfl) (tQ (d:=.int k) rfl) Ce hx)];rfl
   have s2:kn (fun i j=>i+j) 6 (eD (kD (.int 1))) (sR st f1 f2 F0 ch0.length x4 (some (.dat (.int k))) (some (.dat (nD ky h))) O) (hpR ky ch0 cf J)=some (.nx (sR st f1 f2 F0 ch0.length x4 (some (.dat (.int ((k+1:Nat):Int)))) (some (.dat (nD ky h))) O) (hpR ky ch0 cf J)):=by show some (Og.nx _ _)=some (Og.nx _ _);rw [show ((k+1:Nat):Int)=(k:Int)+1 by lia];rfl
   have cl:∀ (i:Nat) (fa:Addr) (t:T),(sR st f1 f2 F0 ch0.length x4 (some (.dat (.int ((k+1:Nat):Int)))) (some (.dat (nD ky h))) O)[i]?=some (some (.fn fa F0))->G fa F0 [nD ky h]=some t→
       eCl G i (aO (eD (vL 7)) cG) (sR st f1 f2 F0 ch0.length x4 (some (.dat (.int ((k+1:Nat):Int)))) (some (.dat (nD ky h))) O) (hpR ky ch0 cf J)=al (hpR ky ch0 cf J) t:=fun i fa t e1 e2=>by
    unfold eCl;rw [e1];dsimp only
    have:aO (eD (vL 7)) cG (sR st f1 f2 F0 ch0.length x4 (some (.dat (.int ((k+1:Nat):Int)))) (some (.dat (nD ky h))) O) (hpR ky ch0 cf J)=some ([.dat (nD ky h)],hpR ky ch0 cf J):=by unfold aO;rw [tQ (d:=nD ky h) rfl];rfl
    rw [this];simp only [qa1,dats,qe5];rw [e2];rfl
   have tf:j6 (eCl G 2 (aO (eD (vL 7)) cG)) (sR st f1 f2 F0 ch0.length x4 (some (.dat (.int ((k+1:Nat):Int)))) (some (.dat (nD ky h))) O) (hpR ky ch0 cf J)=some (false,hpR ky ch0 cf J):=wa (by rw [cl 2 f2 _ rfl (h2 h W)];rfl)
   obtain ⟨e,p1,p2,p3,p4⟩:=eR h (beh h) cf;obtain ⟨y8,hp⟩:=l5 hk (st:=st) (f1:=f1) (f2:=f2) (F0:=F0) (ch0:=ch0) (J:=J) (x4:=x4) (x6:=some (.dat (.int ((k+1:Nat):Int)))) (h:=h) (l:=beh h) (m:=0) (beh h).length 0 100000 cf O (by lia) (by have:=Y h W;lia) nd (by have:=Y h W;lia)
   have body:RN2 G (sR st f1 f2 F0 ch0.length x4 (some (.dat (.int k))) Z O) (hpR ky ch0 cf J)=some (.nx (sR st f1 f2 F0 ch0.length x4 (some (.dat (.int ((k+1:Nat):Int)))) (some (.dat (nD ky h))) y8) (hpR ky ch0 (cE h cf (beh h)) (J++[beh h]))):=by
    unfold RN2;rw [av s1,av s2,av (by rw [mP tf];rfl)];unfold j9
    have hJ:al (hpR ky ch0 cf J) (.lst ((beh h).map (nD ky)))=some (.ref (ch0.length+2+J.length),hpR ky ch0 cf (J++[beh h])):=by show some (CV.ref (hpR ky ch0 cf J).length,hpR ky ch0 cf J++[CO.lst (((beh h).map (nD ky)).map CV.dat)])=_;rw [Cf];unfold hpR lsC;rw [qi7,qg9,qc9];rfl
    rw [cl 1 f1 _ rfl (h1 h W),hJ];simp only [qa1];rw [hp,List.drop_zero]
   obtain ⟨δ',hd⟩:=Ak hU hUl Y h1 h2 n (cE h cf (beh h)) (k+1) (J++[beh h]) x4 (some (.dat (nD ky h))) y8 (p3 nd) (tR hc (hU h W)) (by rw [p1,qb3];lia) (by lia);exact ⟨δ',by rw [oP (n:=n) L body];exact hd⟩
include hk in
theorem l6 {t:α}:∀ {cf:CF α},t∈ks cf->(∀ p∈cf,p.2=none)->eJ (cfD ky cf) (nK ky t) (.dat .non)=cfD ky cf
 | [],h,_=>by cases h
 | p::cf,h,L=>by
  show eJ ((nK ky p.1,pC ky p.2)::cfD ky cf) _ _=(nK ky p.1,pC ky p.2)::cfD ky cf;unfold eJ;by_cases e:p.1=t
  . rw [if_pos (by rw [e]),L p qe0];rfl
  . rw [if_neg fun z=>e (mQ hk z),l6 (by
     rcases qb2.mp h with z | z
     . exact absurd z.symm e
     . exact z) fun q O=>L q (qd1 _ O)]
def sSN (st:Dt) (f1 f2:Addr) (F0:Hp) (q:Nat) (x4:Option CV):Sl:=[some (.dat st),some (.fn f1 F0),some (.fn f2 F0),some (.ref q),x4,none,none,none,none]
include hk in
theorem qc {x4:Option CV} {t:α} (L:(ks cf).Nodup) (O:∀ p∈cf,p.2=none) (U:cf.length<100000):RT0 (sSN st f1 f2 F0 ch0.length (some (.dat (nD ky t)))) (ch0++[.dT (cfD ky cf)])=some (.nx (sSN st f1 f2 F0 ch0.length (some (.dat (nD ky t)))) (ch0++[.dT (cfD ky (bO cf t))])):=by
 unfold RT0 eO;rw [show eD (kD .non) (sSN st f1 f2 F0 ch0.length (some (.dat (nD ky t)))) (ch0++[.dT (cfD ky cf)])=some (.dat .non,ch0++[.dT (cfD ky cf)]) from rfl];simp only [qa1];rw [kz (v:=.ref ch0.length) rfl];simp only [qa1];rw [tQ (d:=nD ky t) rfl];simp only [qa1];rw [gR (nL _),qt4];simp only [qh3,mR,qa1];rw [if_pos ⟨by rw [rJ];exact oJ (by lia),wf hk L⟩,qt3 _ _ (nL _),qt4];unfold bO;by_cases q:t∈ks cf
 . rw [if_pos q,l6 hk q O];rfl
 . rw [if_neg q,<- qb hk (c:=none) q];rfl
theorem yO (cf:CF α) (t:α):(bO cf t).length<=cf.length+1:=by unfold bO;split<;>simp
theorem wg {cf:CF α} {t:α} (L:(ks cf).Nodup):(ks (bO cf t)).Nodup:=by
 unfold bO;split
 . exact L
 . rename_i q;rw [gI];refine qp3.mpr ⟨L,by simp [ks],fun a U b O=>?_⟩;simp [ks] at O;subst O;rintro rfl;exact q U
theorem wj {cf:CF α} {t:α} (q:∀ p∈cf,p.2=none):∀ p∈bO cf t,p.2=none:=fun p hp=>by
 unfold bO at hp;split at hp
 . exact q p hp
 . rcases qg3.mp hp with z | z
   . exact q p z
   . cases qb7.mp z;rfl
include hk in
theorem kE:∀ (ss:List α) (cf:CF α) (x4:Option CV),(ks cf).Nodup->(∀ p∈cf,p.2=none)->cf.length+ss.length<100000→
  ∃ q,kQ [4] (ai 4) RT0 (ss.map (nD ky)) (sSN st f1 f2 F0 ch0.length x4) (ch0++[.dT (cfD ky cf)])=some (.nx (sSN st f1 f2 F0 ch0.length q) (ch0++[.dT (cfD ky (ss.foldl bO cf))]))
 | [],cf,x4,_,_,_=>⟨x4,rfl⟩
 | s::ss,cf,x4,L,O,W=>by have Y:cf.length+(ss.length+1)<100000:=W;obtain ⟨q,U⟩:=kE ss (bO cf s) (some (.dat (nD ky s))) (wg L) (wj O) (by have:=yO cf s;lia);refine ⟨q,?_⟩;rw [qa5,qi6,<- U];exact mN (show 4<9 by decide) (qc hk (x4:=x4) L O (by lia))
include hk in
theorem mT {starts:List α} (Y:starts.length<=10000):∃ q,∀ o:Option Og,b8 RTc (RN2 G) 100000 (sR (.lst (starts.map (nD ky))) f1 f2 F0 ch0.length q (some (.dat (.int ((0:Nat):Int)))) none none) (hpR ky ch0 (starts.foldl bO []) [])=o→
  RNf G [.dat (.lst (starts.map (nD ky))),.fn f1 F0,.fn f2 F0] ch0=match o with
   | some (.rt c ch')=>some (c,ch')
   | some (.nx _ ch')=>some (.dat .non,ch')
   | _=>none:=by
 obtain ⟨q,h1⟩:=kE hk (st:=.lst (starts.map (nD ky))) (f1:=f1) (f2:=f2) (F0:=F0) (ch0:=ch0) starts [] none (by simp [ks]) (by simp) (by simp;lia);refine ⟨q,fun o W=>?_⟩;unfold RNf e6
 show (match aw (aC 3 eNT) _ [some (.dat (.lst (starts.map (nD ky)))),some (.fn f1 F0),some (.fn f2 F0),none,none,none,none,none,none] ch0 with
  | some (.rt c ch')=>some (c,ch') | some (.nx _ ch')=>some (.dat .non,ch') | _=>none)=_
 have O:aC 3 eNT [some (.dat (.lst (starts.map (nD ky)))),some (.fn f1 F0),some (.fn f2 F0),none,none,none,none,none,none] ch0=some (.nx (sSN (.lst (starts.map (nD ky))) f1 f2 F0 ch0.length none) (ch0++[.dT (cfD ky [])])):=rfl
 have e2:io (fIt (vL 0)) [4] (ai 4) RT0 (sSN (.lst (starts.map (nD ky))) f1 f2 F0 ch0.length none) (ch0++[.dT (cfD ky [])])=some (.nx (sSN (.lst (starts.map (nD ky))) f1 f2 F0 ch0.length q) (ch0++[.dT (cfD ky (starts.foldl bO []))])):=by unfold io fIt;rw [zL (d:=.lst (starts.map (nD ky))) rfl];exact h1
 have U:aC 5 (eLT (eV 3)) (sSN (.lst (starts.map (nD ky))) f1 f2 F0 ch0.length q) (ch0++[.dT (cfD ky (starts.foldl bO []))])=some (.nx (sR (.lst (starts.map (nD ky))) f1 f2 F0 ch0.length q none none none) (hpR ky ch0 (starts.foldl bO []) [])):=by
  have:eLT (eV 3) (sSN (.lst (starts.map (nD ky))) f1 f2 F0 ch0.length q) (ch0++[.dT (cfD ky (starts.foldl bO []))])=some (.ref (ch0.length+1),hpR ky ch0 (starts.foldl bO []) []):=by unfold eLT;rw [kz (v:=.ref ch0.length) rfl];simp only [qa1];rw [gR (nL _),qt4];simp only [qh3,qb3,qc0,qg4,qg9];unfold hpR lsC cfD ks;rw [qc9,qc9];rfl
  rw [aR this];rfl
 have L:aC 6 (eD (kD (.int 0))) (sR (.lst (starts.map (nD ky))) f1 f2 F0 ch0.length q none none none) (hpR ky ch0 (starts.foldl bO []) [])=some (.nx (sR (.lst (starts.map (nD ky))) f1 f2 F0 ch0.length q (some (.dat (.int ((0:Nat):Int)))) none none) (hpR ky ch0 (starts.foldl bO []) [])):=rfl;rw [av O,av e2,av U,av L];subst W;unfold aw;generalize b8 RTc (RN2 G) 100000 (sR (.lst (starts.map (nD ky))) f1 f2 F0 ch0.length q (some (.dat (.int ((0:Nat):Int)))) none none) (hpR ky ch0 (starts.foldl bO []) [])=o;cases o with
 | none=>rfl
 | some o=>cases o<;>rfl
include hk in
theorem Ch {U starts:List α} {beh:α->List α} (hU:∀ t∈U,∀ u∈beh t,u∈U) (hUl:U.length<=9000) (O:∀ t∈U,(beh t).length<=1000) (hs:∀ t∈starts,t∈U) (W:starts.length<=10000) :
  ∃ (cf:CF α) (J:List (List α)),∀ (ch0:CH) (G:Orc) (f1 f2:Addr) (F0:Hp),(∀ t∈U,G f1 F0 [nD ky t]=some (.lst ((beh t).map (nD ky))))->(∀ t∈U,G f2 F0 [nD ky t]=some (.leaf (.bl false)))→
      RNf G [.dat (.lst (starts.map (nD ky))),.fn f1 F0,.fn f2 F0] ch0=some (.dat .non,hpR ky ch0 cf J):=by
 have L:∀ (ss:List α) (cf:CF α),(ks cf).Nodup->(∀ t∈ks cf,t∈U)->(∀ s∈ss,s∈U)->(ks (ss.foldl bO cf)).Nodup/\∀ t∈ks (ss.foldl bO cf),t∈U:=fun ss=>by
  induction ss with
  | nil=>intro cf h1 h2 _;exact ⟨h1,h2⟩
  | cons s ss Y =>
   intro cf h1 h2 h3;refine Y _ (wg h1) (fun t q=>?_) fun t q=>h3 t (.tail _ q)
   unfold bO at q;split at q
   . exact h2 t q
   . rw [gI] at q;rcases qg3.mp q with z | z
     . exact h2 t z
     . have:t=s:=by simpa [ks] using z
       rw [this];exact h3 s (.head _)
 obtain ⟨Z,hc⟩:=L starts [] (by simp [ks]) (by simp [ks]) hs;refine ⟨(bfN beh 100000 (starts.foldl bO []) 0 []).1,(bfN beh 100000 (starts.foldl bO []) 0 []).2,fun ch0 G f1 f2 F0 g1 g2=>?_⟩;obtain ⟨y4,hr⟩:=mT hk (G:=G) (f1:=f1) (f2:=f2) (F0:=F0) (ch0:=ch0) W;obtain ⟨δ',hw⟩:=Ak hk (st:=.lst (starts.map (nD ky))) (ch0:=ch0) hU (by lia) O g1 g2 100000 _ 0 [] y4 none none Z hc (qh8 _) (by lia);rw [hr _ hw]
end
end L2
local macro_rules | `(tactic| walk_at "d") => `(tactic| simp -implicitDefEqProofs only [L2.gG, L2.Et, L2.aX, L2.aD, L2.DU, L2.bV, L2.ar, L2.br, L2.ia, L2.jo, L2.iC, L2.eQ, L2.kB_d, L2.sFor_d, L2.toT, L2.toD, L2.T.d, L2.kD, L2.vL, L2.vB, L2.d2, L2.tB2, L2.iU, L2.pA, L2.i8, L2.DV, L2.vNot, L2.vIf_d, L2.ae, L2.ab, L2.BN, L2.BM, L2.bT, L2.yt, L2.dh, L2.ag, L2.Eu, L2.vSl, L2.Dl, L2.ie, L2.nT, L2.zz, L2.nS, L2.uX, L2.fIt, L2.ca, L2.ai, L2.dC, L2.bf, L2.gAdd_i, L2.atI_0, L2.atI_1, L2.atI_2, L2.atI_3, L2.atI_4, L2.atI_5, L2.atI_6, L2.atI_11, L2.rD, L2.DN, L2.zK, L2.Ev, L2.Ew, L2.eqF_s, L2.eqF_i, qj5, zh8, qi5, List.any_nil, L2.gSub_i, L2.gMul_r, L2.gF, L2.Es, L2.gMod_w, L2.gCmp_i, L2.gEq_ii, L2.gEq_ss, L2.gNe_ss, L2.uT, L2.oI, L2.zJ, L2.gLen_l, L2.gLen_t, L2.DQ, L2.itD_l, L2.itD_t, L2.truD_b, L2.asB_b, L2.DR, qa5, qh4, qc0, qg4, zb7, qw1, qe6, qh3, qn0, qn8, qr5, qa1, Option.bind_none, qe5, Option.map_none, qn1, Option.join_none, Nat.reduceAdd, Nat.reduceSub, Nat.reduceLeDiff, Int.reduceLT, Int.reduceEq, eq_self, Int.reduceNeg, Int.reduceLE, if_true, if_false, ite_true, ite_false, qf9, decide_true, decide_false, Bool.not_true, Bool.not_false, qm8, qj6, zh6, zh5, za3, za5, qs7, ze8, String.reduceBEq, reduceCtorEq])
local macro_rules | `(tactic| walk_at "k") => `(tactic| simp -implicitDefEqProofs only [L2.gG, L2.Et, L2.aX, L2.aD, L2.DU, L2.bV, L2.ar, L2.br, L2.ia, L2.jo, L2.iC, L2.eQ, L2.kB_d, L2.sFor_d, L2.toT, L2.toD, L2.T.d, L2.kD, L2.vL, L2.vB, L2.d2, L2.tB2, L2.iU, L2.pA, L2.i8, L2.DV, L2.vNot, L2.vIf_d, L2.ae, L2.ab, L2.BN, L2.BM, L2.bT, L2.yt, L2.dh, L2.ag, L2.Eu, L2.vSl, L2.Dl, L2.ie, L2.nT, L2.zz, L2.nS, L2.uX, L2.fIt, L2.ca, L2.ai, L2.dC, L2.bf, L2.gAdd_i, L2.atI_0, L2.atI_1, L2.atI_2, L2.atI_3, L2.atI_4, L2.atI_5, L2.atI_6, L2.atI_11, L2.rD, L2.DN, L2.zK, L2.Ev, L2.Ew, L2.eqF_s, L2.eqF_i, qj5, zh8, qi5, List.any_nil, L2.gSub_i, L2.gMul_r, L2.gF, L2.Es, L2.gMod_w, L2.gCmp_i, L2.gEq_ii, L2.gEq_ss, L2.gNe_ss, L2.uT, L2.oI, L2.zJ, L2.gLen_l, L2.gLen_t, L2.DQ, L2.itD_l, L2.itD_t, L2.truD_b, L2.asB_b, L2.DR, qa5, qh4, qc0, qg4, zb7, qw1, qe6, qh3, qn0, qn8, qr5, qa1, Option.bind_none, qe5, Option.map_none, qn1, Option.join_none, Nat.reduceAdd, Nat.reduceSub, Nat.reduceLeDiff, Int.reduceLT, Int.reduceEq, eq_self, Int.reduceNeg, Int.reduceLE, if_true, if_false, ite_true, ite_false, qf9, decide_true, decide_false, Bool.not_true, Bool.not_false, qm8, qj6, zh6, zh5, za3, za5, qs7, ze8, String.reduceBEq, reduceCtorEq, L2.BQ, L2.yv, L2.wV, L2.yw, L2.zM, L2.yx, L2.zN, L2.BR, L2.BS, L2.zO, L2.BT, L2.BU, L2.zP, L2.BV, L2.Cu, L2.BW, L2.Cv, L2.DX, L2.DY, L2.Cw, L2.yy, L2.BX, L2.wW, L2.yz, L2.zQ, L2.yA, L2.zR, L2.BY, L2.BZ, L2.zS, L2.wX, L2.zT, L2.wY, L2.wZ, L2.yB, L2.w4, L2.yC, L2.zU, L2.zV, L2.yD, L2.yE, L2.B0, L2.yF, L2.w6, L2.zW, L2.yG, L2.zX, L2.B1, L2.B2, L2.zY, L2.zZ, L2.Cy, L2.z0, L2.yH, L2.Aa, L2.Ab, L2.B3, L2.Cz, L2.CA, L2.B4, L2.yI, L2.B5, L2.yJ, L2.w8, L2.yK, L2.Ac, L2.Ad, L2.B6, L2.B7, L2.Ae, L2.yL, L2.CB, L2.CC, L2.B8, L2.Af, L2.DZ, L2.CD, L2.Ah, L2.CG, L2.yM, L2.CI, L2.CJ])
namespace P51
open PySem L2
theorem qd (n:Nat) (r:Rw):z54 [.int n,r.d]=some (.leaf (.tup ((r.outs n).map dI))):=by cases r<;>kernel_rfl
def dW (rows:List Rw):Dt:=.lst (rows.mapIdx fun k r=>.tup ((r.outs k).map dI))
theorem jJ (c s:Dt) (rows:List Rw) (h:rows.length<=1000):bR [.tup [c,s,dR rows]]=some (.lst (rows.mapIdx fun k r=>.tup ((r.outs k).map dI))):=by
 unfold bR;walk_at "k";unfold f8 dR;walk_at "k"
 rw [kA (h:=fun k r=>.tup ((r.outs k).map dI)) 0 fun k a=>⟨_,rfl,by unfold z82;walk_at "k";rw [qd];walk_at "k"⟩]
 walk_at "k";rw [bT (by rw [List.length_mapIdx];lia)];walk_at "k";simp
theorem wl (r:Rw):q68 [r.d]=some (.leaf (match r.sets with | some x=>.str x | none=>.non)):=by cases r<;>kernel_rfl
theorem wm (r:Rw):y67 [r.d]=some (.leaf (.tup (r.atoms.map Atm.d))):=by cases r<;>kernel_rfl
theorem gJ (q:Option T):∀ (L:List Atm) (acc:List Str) (O:Option T),acc.length+L.length<=10->∃ y,cw (ai 2) z53 (L.map Atm.d) [q,some (.lst (acc.map .str)),O]=some (.nx [q,some (.lst (((nms L).foldl dw acc).map .str)),y])
 | [],acc,O,_=>⟨O,rfl⟩
 | .vl i::L,acc,O,h=>by obtain ⟨y,e⟩:=gJ q L acc (some (.leaf (.int i))) (by simp at h ⊢;lia);refine ⟨y,?_⟩;rw [qa5,aU (δ1:=[q,some (.lst (acc.map .str)),some (.leaf (.int i))]) (δ2:=[q,some (.lst (acc.map .str)),some (.leaf (.int i))]) rfl (by unfold z53;walk_at "k"<;>rfl)];exact e
 | .nm x::L,acc,O,h=>by
  have W:acc.length<10:=by simp at h;lia
  obtain ⟨y,e⟩:=gJ q L (dw acc x) (some (.leaf (.str x))) (by
   have:(dw acc x).length<=acc.length+1:=by unfold dw;split<;>simp
   simp at h ⊢;lia)
  refine ⟨y,?_⟩;rw [qa5,aU (δ1:=[q,some (.lst (acc.map .str)),some (.leaf (.str x))]) (δ2:=[q,some (.lst ((dw acc x).map .str)),some (.leaf (.str x))]) rfl ?_]
  . exact e
  . unfold z53 dw;walk_at "k";rw [iE];walk_at "k";by_cases U:x∈acc
    . rw [dg (by simp [U]),if_pos U];rfl
    . rw [dA (by simp [U]),if_neg U,iD rfl];walk_at "k";rw [dh (by rw [qa2];lia)];simp
theorem wn (r:Rw):z58 [r.d]=some (.lst (r.reads.map .str)):=by
 have q:r.atoms.length<=2:=by cases r<;>simp [Rw.atoms]
 obtain ⟨y,e⟩:=gJ (some (.leaf r.d)) r.atoms [] none (by simp;lia);unfold z58;walk_at "k";rw [wm];walk_at "k";rw [show ([]:List Dt)=([]:List Str).map .str from rfl,e];walk_at "k";rfl
theorem tT (r:Rw) (l:List Str):bK (ai 0) z36 (vL 0) [none,some (.leaf r.d)] (l.map .str)=some ((l.filter fun b=>decide (r.sets≠some b)).map .str):=
 bn fun b _=>⟨[some (.leaf (.str b)),some (.leaf r.d)],rfl,by
  unfold z36;walk_at "k";rw [wl];walk_at "k";cases q:r.sets with
  | none =>walk_at "k";rw [show gEq true (Dt.str b) Dt.non=some (.leaf (.bl true)) from rfl];simp [asB]
  | some x =>
   walk_at "k";by_cases h:b=x
   . simp [h]
   . have:¬ x=b:=fun z=>h z.symm
     simp [h,this],fun _=>rfl⟩
theorem kF (r:Rw) (q:Option T):∀ (L:List (List Str)) (acc:List Str) (O:Option T),acc.length+(L.map qo0).sum<=1000->∃ y,cw (ai 3) q37 (L.map dS) [some (.leaf r.d),q,some (.lst (acc.map .str)),O]=some (.nx [some (.leaf r.d),q,some (.lst ((acc++jn r L).map .str)),y])
 | [],acc,O,_=>⟨O,by unfold jn;simp [cw]⟩
 | l::L,acc,O,h=>by
  simp only [qa5,qr4] at h;have U:=qd4 (fun b=>decide (r.sets≠some b)) l;obtain ⟨y,e⟩:=kF r q L (acc++l.filter fun b=>decide (r.sets≠some b)) (some (.leaf (dS l))) (by rw [qb3];lia);refine ⟨y,?_⟩;rw [qa5,aU (δ1:=[some (.leaf r.d),q,some (.lst (acc.map .str)),some (.leaf (dS l))]) (δ2:=[some (.leaf r.d),q,some (.lst ((acc++l.filter fun b=>decide (r.sets≠some b)).map .str)),some (.leaf (dS l))]) rfl ?_]
  . rw [e];unfold jn;simp
  . unfold q37;rw [Ai (l:=acc.map .str) (m:=(l.filter fun b=>decide (r.sets≠some b)).map .str) rfl (v6 (ds:=l.map .str) rfl (tT r l) (by rw [qa2];lia)),rF (by rw [qa2,qa2];lia)];simp
theorem wo (r:Rw) (q:List (List Str)) (h:(q.map qo0).sum<=60):y17 [r.d,.lst (q.map dS)]=some (.lst ((NA r q).map .str)):=by
 have O:=r.reads_len
 have U:(jn r q).length<=(q.map qo0).sum:=by
  clear h O;induction q with
  | nil=>simp [jn]
  | cons l q L =>have W:=qd4 (fun b=>decide (r.sets≠some b)) l;unfold jn at L ⊢;simp only [List.flatMap_cons,qb3,qa5,qr4];lia
 obtain ⟨y,e⟩:=kF r (some (.leaf (.lst (q.map dS)))) q r.reads none (by lia);unfold y17;walk_at "k";rw [wn];walk_at "k";rw [e];walk_at "k";rw [oN (by rw [qb3];lia)];rfl
variable {found:List (List Str)}
theorem wq (q:∀ l∈found,l.length<=12):∀ js:List Nat,((js.map fun j=>found.getD j []).map qo0).sum<=12*js.length
 | []=>qh8 _
 | j::js=>by
  have L:=wq q js
  have:(found.getD j []).length<=12:=by
   rw [qc7];cases h:found[j]? with
   | none=>simp
   | some l=>exact q l (qf5 h)
  simp only [qa5,qr4,qc0];lia
variable {i:Nat} {r:Rw}
section
variable {P:Dt} {rows:List Rw} {B:List Str} {found:List (List Str)} {fi:Nat} {refs:List Nat} {ch:CH}
theorem rK (h:rows[i]?=some r):aj (dW rows) (.int i)=some (.leaf (.tup ((r.outs i).map dI))):=by unfold dW;rw [oI,bj,qp6,h];rfl
theorem qe (h:rows[i]?=some r):aj (dR rows) (.int i)=some (.leaf r.d):=by unfold dR;rw [zJ,bj,qb1,h];rfl
theorem i9 {l:List Str} (h:found[i]?=some l):aj (dF found) (.int i)=some (.leaf (dS l)):=by unfold dF;rw [oI,bj,qb1,h];rfl
theorem tU (L:rows[i]?=some r) (Z:∀ l∈found,l.length<=12) (Y:∀ j∈r.outs i,j<found.length) (W U:Option T) :
  ag y17 (ab (toD (d2 aj (vB 1) (vB 5))) (ab (toD (aF [none,some 3] (fIt (toD (d2 aj (vB 2) (vB 5)))) (ai 0) bf q50)) ae)) [some (.leaf P),some (.leaf (dR rows)),some (.leaf (dW rows)),some (.leaf (dF found)),W,some (.leaf (.int i)),U]=some (.lst ((nw rows found i).map .str)):=by
 walk_at "k";rw [qe L,rK L];walk_at "k"
 rw [bE (h:=fun j=>dS (found.getD j [])) fun j O=>⟨[some (.leaf (dI j)),some (.leaf (dF found))],rfl,rfl,by have q:=Y j O;unfold q50 dI;walk_at "k";rw [i9 (l:=found[j]) (by simp [q])];walk_at "k";rw [jI (m:=found[j]) (by simp [q])]⟩]
 walk_at "k";have ho:=r.outs_len i;rw [bT (by rw [qa2];lia)];walk_at "k";have e:(r.outs i).map (fun j=>dS (found.getD j []))=((r.outs i).map fun j=>found.getD j []).map dS:=by rw [qc9];rfl
 rw [e,wo r _ (qb8 (wq Z _) (by lia))];unfold nw;rw [L]
def sl (P:Dt) (rows:List Rw) (fi:Nat) (c:Bool) (q x6:Option CV):Sl:=[some (.dat P),some (.dat (dR rows)),some (.dat (dW rows)),some (.ref fi),some (.dat (.bl c)),q,x6]
theorem yP (Y:Pl ch fi refs found) {i:Nat} {l:List Str} (hr:rows[i]?=some r) (hl:found[i]?=some l) (hs:∀ l∈found,l.length<=12) (hj:∀ j∈r.outs i,j<found.length) (c:Bool) (x6:Option CV) :
  ∃ U q c' ch',z50 (sl P rows fi c (some (.dat (dI i))) x6) ch=some (.nx (sl P rows fi c' (some (.dat (dI i))) (some (.ref ch.length))) ch')/\Pl ch' fi U q/\ch.length<=ch'.length/\(∀ k,k<ch.length->k≠fi->ch'[k]?=ch[k]?)∧((nw rows found i=l/\q=found/\c'=c)∨(nw rows found i≠l/\q=found.set i (nw rows found i)/\c'=true)):=by
 have Z:=Y.lt;have L:=Y.app [cS (nw rows found i)];have O:(ch++[cS (nw rows found i)])[ch.length]?=some (cS (nw rows found i)):=by simp
 have h1:aC 6 (eDV 2 (ag y17 (ab (toD (d2 aj (vB 1) (vB 5))) (ab (toD (aF [none,some 3] (fIt (toD (d2 aj (vB 2) (vB 5)))) (ai 0) bf q50)) ae)))) (sl P rows fi c (some (.dat (dI i))) x6) ch=some (.nx (sl P rows fi c (some (.dat (dI i))) (some (.ref ch.length))) (ch++[cS (nw rows found i)])):=by refine aR (Ca ?_);have:=tU (P:=P) hr hs hj (some (.leaf (.bl c))) (x6.bind fun c=>(vwD ch 2 c).map T.leaf);rw [<- this];congr 1;unfold loD sl;simp only [qa5,qh4,qa1,mO,qe5,Y.view];rfl
 have h2:tDV 2 (tB2 (gEq true) (vB 6) (toD (d2 aj (vB 3) (vB 5)))) (sl P rows fi c (some (.dat (dI i))) (some (.ref ch.length))) (ch++[cS (nw rows found i)])=some (!decide (nw rows found i=l),ch++[cS (nw rows found i)]):=by refine Cb ?_;unfold loD sl;simp only [qa5,qh4,qa1,mO,qe5,L.view,oO O];walk_at "k";unfold dI;rw [i9 hl];walk_at "k";unfold dS;rw [wc];rfl
 unfold z50;rw [av h1];by_cases W:nw rows found i=l
 . refine ⟨refs,found,c,_,?_,L,by simp,fun k hk _=>qb5 hk,.inl ⟨W,rfl,rfl⟩⟩;rw [decide_eq_true W] at h2;rw [mP h2];rfl
 . have hi:i<refs.length:=by rw [Y.len];exact (gX hl).1
   have h3:lF (eV 3) (eD (vL 5)) (eV 6) (sl P rows fi c (some (.dat (dI i))) (some (.ref ch.length))) (ch++[cS (nw rows found i)])=some (.nx (sl P rows fi c (some (.dat (dI i))) (some (.ref ch.length))) ((ch++[cS (nw rows found i)]).set fi (.lst ((refs.map CV.ref).set i (.ref ch.length))))):=v9 (kz rfl) (kz rfl) (gl rfl) L.top (Cd (by rw [qa2];exact hi))
   refine ⟨refs.set i ch.length,found.set i (nw rows found i),true,_,?_,L.put (i:=i) O (qm6 Z),?_,?_,.inr ⟨W,rfl,rfl⟩⟩
   . rw [decide_eq_false W] at h2;rw [qa h2,av h3];exact aR rfl
   . simp
   . intro k hk hf;rw [gN (qn9 hf)];exact qb5 hk
theorem pass (hB:∀ (i:Nat) (r:Rw) (b:Str),rows[i]?=some r->b∈r.reads->b∈B) (hO:∀ (i:Nat) (r:Rw) (j:Nat),rows[i]?=some r->j∈r.outs i->j<rows.length) (hb:B.length<=12) :
  ∀ (js:List Nat) (refs:List Nat) (found:List (List Str)) (c:Bool) (x5 x6:Option CV) (ch:CH),Pl ch fi refs found->Fnd rows B found->(∀ j∈js,j<rows.length)→
  ∃ U L c' y5 y6 ch',kQ [5] (ai 5) z50 (js.map dI) (sl P rows fi c x5 x6) ch=some (.nx (sl P rows fi c' y5 y6) ch')/\Pl ch' fi U L/\Fnd rows B L/\ch.length<=ch'.length/\(∀ k,k<ch.length->k≠fi->ch'[k]?=ch[k]?)∧tot found<=tot L/\(c'=true->c=true∨tot found<tot L)/\(c'=false->c=false/\L=found/\∀ j∈js,∀ l,found[j]?=some l->nw rows found j=l)
 | [],refs,found,c,x5,x6,ch,pl,F,_=>⟨refs,found,c,x5,x6,ch,rfl,pl,F,nL _,fun _ _ _=>rfl,nL _,.inl,fun h=>⟨h,rfl,fun j hj=>by cases hj⟩⟩
 | j::js,refs,found,c,x5,x6,ch,pl,F,hj=>by
  have W:=hj j (.head _);have hr:rows[j]?=some rows[j]:=by simp [W]
  have hlt:j<found.length:=by rw [F.len];exact W
  have hl:found[j]?=some found[j]:=by simp [hlt]
  have hs:∀ l∈found,l.length<=12:=fun l hl=>by obtain ⟨i,h⟩:=qp5 hl;exact qb8 (F.short h) hb
  obtain ⟨Y,found1,c1,ch1,e1,pl1,le1,kp1,q1⟩:=yP (P:=P) pl hr hl hs (fun k hk=>by rw [F.len];exact hO j _ k hr hk) c x6
  have F1:Fnd rows B found1:=by
   rcases q1 with ⟨_,rfl,_⟩ | ⟨_,rfl,_⟩
   . exact F
   . exact F.step hB W
  obtain ⟨Z,O,c2,y5,y6,ch2,e2,pl2,F2,le2,kp2,t2,q2,q3⟩:=pass hB hO hb js Y found1 c1 (some (.dat (dI j))) (some (.ref ch.length)) ch1 pl1 F1 fun k hk=>hj k (.tail _ hk)
  refine ⟨Z,O,c2,y5,y6,ch2,?_,pl2,F2,qb8 le1 le2,fun k hk hf=>(kp2 k (qb4 hk le1) hf).trans (kp1 k hk hf),?_,?_,?_⟩
  . rw [qa5,mN (δ2:=sl P rows fi c1 (some (.dat (dI j))) (some (.ref ch.length))) (show 5<7 by decide) e1];exact e2
  . rcases q1 with ⟨_,rfl,_⟩ | ⟨ne,rfl,_⟩
    . exact t2
    . exact qb8 (qj0 (F.more hl ne)) t2
  . intro h;rcases q1 with ⟨_,rfl,rfl⟩ | ⟨ne,rfl,_⟩
    . exact q2 h
    . exact .inr (qb4 (F.more hl ne) t2)
  . intro h;obtain ⟨h1,h2,h3⟩:=q3 h;rcases q1 with ⟨q,rfl,rfl⟩ | ⟨ne,rfl,rfl⟩
    . refine ⟨h1,h2,fun k hk l hl2=>?_⟩;rcases qb2.mp hk with rfl | hk
      . rw [hl] at hl2;cases hl2;exact q
      . exact h3 k hk l hl2
    . cases h1
theorem loop (hB:∀ (i:Nat) (r:Rw) (b:Str),rows[i]?=some r->b∈r.reads->b∈B) (hO:∀ (i:Nat) (r:Rw) (j:Nat),rows[i]?=some r->j∈r.outs i->j<rows.length) (hb:B.length<=12) (hn:rows.length<=1000) :
  ∀ (m:Nat) (refs:List Nat) (found:List (List Str)) (x5 x6:Option CV) (ch:CH),Pl ch fi refs found->Fnd rows B found->rows.length*B.length+2<=m+tot found→
  ∃ W q y5 y6 ch',b8 y71 y49 m (sl P rows fi true x5 x6) ch=some (.nx (sl P rows fi false y5 y6) ch')/\Pl ch' fi W q/\Fnd rows B q/\Fix rows q/\ch.length<=ch'.length/\(∀ k,k<ch.length->k≠fi->ch'[k]?=ch[k]?)
 | 0,refs,found,x5,x6,ch,pl,F,hm=>by have:=F.tot_le;lia
 | m+1,refs,found,x5,x6,ch,pl,F,hm=>by
  obtain ⟨O,L,c1,y5,y6,ch1,e1,pl1,F1,Y,kp1,t1,q1,q2⟩:=pass (P:=P) hB hO hb ((qc2 rows.length).map fun i=>rows.length-1-i) refs found false x5 x6 ch pl F fun j hj=>by obtain ⟨i,hi,rfl⟩:=qc6.mp hj;have:=qd9.mp hi;lia
  have hb1:y49 (sl P rows fi true x5 x6) ch=some (.nx (sl P rows fi c1 y5 y6) ch1):=by unfold y49;rw [av (δ1:=sl P rows fi false x5 x6) (ch1:=ch) (aR rfl)];show (sT [.int (((rows.map Rw.d).length:Int)-1),.int (-1),.int (-1)]).bind _=_;rw [qa2,tK hn,qa1];exact e1
  rw [oP (ch1:=ch) rfl hb1];cases c1 with
  | true =>
   rcases q1 rfl with h | h
   . cases h
   . obtain ⟨Z,U,z5,z6,ch2,e2,pl2,F2,x2,le2,kp2⟩:=loop hB hO hb hn m O L y5 y6 ch1 pl1 F1 (by lia);exact ⟨Z,U,z5,z6,ch2,e2,pl2,F2,x2,qb8 Y le2,fun k hk hf=>(kp2 k (qb4 hk Y) hf).trans (kp1 k hk hf)⟩
  | false =>
   obtain ⟨_,rfl,q3⟩:=q2 rfl
   have hm2:∃ m',m=m'+1:=by have:=F1.tot_le;exact ⟨m-1,by lia⟩
   obtain ⟨m',rfl⟩:=hm2;refine ⟨O,L,y5,y6,ch1,oQ rfl,pl1,F1,fun i l hl=>?_,Y,kp1⟩;have hi:i<rows.length:=by rw [<- F1.len];exact (gX hl).1
   exact q3 i (qc6.mpr ⟨rows.length-1-i,qd9.mpr (by lia),by lia⟩) l hl
end
theorem Ee (δ:Sl) (ch:CH):y24 δ ch=some (.ref ch.length,ch++[.lst []]):=by unfold y24 eN;rw [BM];show (((some []).bind mkL).bind _)=_;rw [qa1,bT (by simp)];rfl
theorem oS:∀ (ds:List Dt) (ch:CH),f9 [0] (ai 0) bf y24 [none] ds ch=some (((qc2 ds.length).map fun k=>ch.length+k).map CV.ref,ch++qe6 ds.length (.lst []))
 | [],ch=>by simp [f9]
 | d::ds,ch=>by
  unfold f9 ai;rw [qa1];show ((y24 (mgS [0] [none] ((lo [none] ch).set 0 (some (.leaf d)))) ch).bind fun p=>(f9 [0] (ai 0) bf y24 [none] ds p.2).map fun q=>(p.1::q.1,q.2))=_;rw [Ee,qa1];dsimp only;rw [oS ds (ch++[CO.lst []]),qe5];simp only [qc0,zc5,qa5,qc9,Nat.add_zero,qb3,qg4,List.replicate_succ,qg9,zd9];congr 3;refine qm9 fun k _=>?_
  simp only [Function.comp_apply];congr 1;lia
variable {c s:Dt} {rows:List Rw}
theorem tV {B:List Str} (hB:∀ (i:Nat) (r:Rw) (b:Str),rows[i]?=some r->b∈r.reads->b∈B) (hO:∀ (i:Nat) (r:Rw) (j:Nat),rows[i]?=some r->j∈r.outs i->j<rows.length) (Z:B.length<=12) (O:rows.length<=1000) (ch:CH) :
  ∃ fi refs found ch',y11 [.dat (.tup [c,s,dR rows])] ch=some (.ref fi,ch')/\Pl ch' fi refs found/\Fnd rows B found/\Fix rows found/\ch.length<=fi/\(∀ k,k<ch.length->ch'[k]?=ch[k]?):=by
 have Y:((qc2 rows.length).map fun k=>ch.length+k).length=rows.length:=by simp
 have U:Pl (ch++qe6 rows.length (.lst [])++[.lst (((qc2 rows.length).map fun k=>ch.length+k).map CV.ref)]) (ch.length+rows.length) ((qc2 rows.length).map fun k=>ch.length+k) (rows.map fun _=>[]):=by
  refine ⟨?_,by simp,fun h=>?_,fun k r l h1 h2=>?_⟩
  . rw [qc4 (by simp)];simp
  . obtain ⟨k,hk,e⟩:=qc6.mp h;have:=qd9.mp hk;lia
  . rw [qb1] at h1 h2;obtain ⟨k',L,rfl⟩:=mS h1;obtain ⟨w,_,rfl⟩:=mS h2;have q:=(gX L).1;rw [qk3] at q;rw [qv5 q] at L;cases L;rw [qg9,qc4 (by lia),Nat.add_sub_cancel_left,qb5 (by simp;exact q),qi4,if_pos q];rfl
 have W:rows.length*B.length<=1000*12:=Nat.mul_le_mul O Z;obtain ⟨refs,found,y5,y6,ch',e,pl,F,x,le,kp⟩:=loop (P:=.tup [c,s,dR rows]) hB hO Z O 100000 _ _ none none _ U Fnd.start (by lia);refine ⟨_,refs,found,ch',?_,pl,F,x,by lia,fun k hk=>?_⟩
 . unfold y11;refine fZ ?_;have s1:aC 1 (eD (toD (d2 aj (vB 0) (kD (.int 2))))) [some (.dat (.tup [c,s,dR rows])),none,none,none,none,none,none] ch=some (.nx [some (.dat (.tup [c,s,dR rows])),some (.dat (dR rows)),none,none,none,none,none] ch):=aR (gl rfl)
   have s2:aC 2 (eD (toD (ag bR (ab (vL 0) ae)))) [some (.dat (.tup [c,s,dR rows])),some (.dat (dR rows)),none,none,none,none,none] ch=some (.nx [some (.dat (.tup [c,s,dR rows])),some (.dat (dR rows)),some (.dat (dW rows)),none,none,none,none] ch):=by refine aR (gl ?_);show ((bR [.tup [c,s,dR rows]]).map T.d)=_;rw [jJ c s rows O];rfl
   have s3:aC 3 (n8 [none] (fIt (vL 1)) [0] (ai 0) bf y24) [some (.dat (.tup [c,s,dR rows])),some (.dat (dR rows)),some (.dat (dW rows)),none,none,none,none] ch=some (.nx [some (.dat (.tup [c,s,dR rows])),some (.dat (dR rows)),some (.dat (dW rows)),some (.ref (ch.length+rows.length)),none,none,none] (ch++qe6 rows.length (.lst [])++[.lst (((qc2 rows.length).map fun k=>ch.length+k).map CV.ref)])):=by refine aR ?_;show ((f9 [0] (ai 0) bf y24 [none] (rows.map Rw.d) ch).bind fun p=>if p.1.length<=qb0 then some (CV.ref p.2.length,p.2++[.lst p.1]) else none)=_;rw [oS,qa1,qa2,if_pos (small (by simp;lia))];simp
   show aw _ _ [some (.dat (.tup [c,s,dR rows])),none,none,none,none,none,none] ch=_;rw [av s1,av s2,av s3,av (δ1:=sl (.tup [c,s,dR rows]) rows (ch.length+rows.length) true none none) (aR rfl),av e];exact oM rfl
 . rw [kp k (by simp;lia) (by lia),qg9,qb5 hk]
structure Hd where
 x:Str
 n:Int
 b:Bool
def hdD (h:Hd):Dt:=.tup [.str h.x,.int h.n,.bl h.b]
theorem rL {α:Type} (f:α->Dt) (cs ss:List α) (q:cs.length+ss.length<=1000):ko (.tup (cs.map f)) (.tup (ss.map f))=some (.leaf (.tup ((cs++ss).map f))):=by
 cases cs with
 | nil=>rfl
 | cons a cs =>
  cases ss with
  | nil=>rw [qe8];rfl
  | cons b ss =>show (if ((a::cs).map f).length+((b::ss).map f).length<=qb0/\(a::cs).map f≠[]/\(b::ss).map f≠[] then _ else none)=_;rw [if_pos ⟨by rw [qa2,qa2];exact small (by lia),by simp,by simp⟩,qi7];rfl
theorem kG (cs ss:List Hd) (R:Dt) (q:cs.length+ss.length<=1000):z4 [.tup [.tup (cs.map hdD),.tup (ss.map hdD),R]]=some (.lst ((((cs++ss).filter fun h=>!h.b).map (·.x)).map .str)):=by
 unfold z4;walk_at "k";rw [rL hdD cs ss q];walk_at "k"
 rw [bn (h:=fun h:Hd=>Dt.str h.x) (p:=fun h=>!h.b) fun h _=>⟨_,rfl,by
  unfold q54 hdD;walk_at "k"
  try rfl,fun _=>by unfold q53 hdD;walk_at "k"⟩]
 walk_at "k";rw [bT (by rw [qa2];exact qb8 (qd4 _ _) (by rw [qb3];lia)),qc9];walk_at "k";rfl
abbrev pgD (cs ss:List Hd) (rows:List Rw):Dt:=.tup [.tup (cs.map hdD),.tup (ss.map hdD),dR rows]
def kdB (N:List Str):Rw->Bool
 | .fin _=>true
 | .store c _=>decide (c∈N)
 | .lay f _ _=>decide (f∈N)
 | _=>false
def kds (N:List Str):Nat->List Rw->List Nat
 | _,[]=>[]
 | k,r::q=>(if kdB N r then [k] else [])++kds N (k+1) q
variable {N:List Str} {j:Nat}
theorem kds_mem:∀ {k:Nat} {L:List Rw},j∈kds N k L↔k<=j/\∃ r,L[j-k]?=some r/\kdB N r=true
 | k,[]=>by simp [kds]
 | k,r::L=>by
  rw [kds,qg3,kds_mem];constructor
  . rintro (h | ⟨h,q,h1,h2⟩)
    . split at h
      . rename_i O;rw [qb7.mp h];exact ⟨qu9 _,r,by simp,O⟩
      . cases h
    . refine ⟨by lia,q,?_,h2⟩;rw [show j-k=(j-(k+1))+1 by lia];exact h1
  . rintro ⟨h,q,h1,h2⟩;by_cases e:j=k
    . subst e;rw [qt4] at h1;cases h1;left;rw [if_pos h2];exact .head _
    . right;refine ⟨by lia,q,?_,h2⟩;rw [show j-k=(j-(k+1))+1 by lia] at h1;exact h1
theorem rM (N:List Str):∀ (k:Nat) (q:List Rw),(kds N k q).length<=q.length
 | _,[]=>nL _
 | k,r::q=>by have:=rM N (k+1) q;rw [kds,qb3,qc0];split<;>simp<;>lia
theorem tW (N:List Str) (r:Rw) (O L q:Option T):fOr (tB2 (gEq false) (toD (d2 aj (vB 4) (kD (.int 0)))) (kD (.str "end"))) (cL (tB2 (aY false) (toD (d2 aj (vB 4) (kD (.int 0)))) (toD (aK (ab (kD (.str "store")) (ab (kD (.str "lay")) ae))))) (tB2 (aY false) (toD (d2 aj (vB 4) (kD (.int 1)))) (vB 1))) [O,some (.leaf (dS N)),L,q,some (.leaf r.d)]=some (kdB N r):=by cases r<;>simp only [Rw.d,kdB,dS]<;>walk_at "k"<;>(try rw [iE])<;>(try rfl)
theorem rN (N:List Str) (q:Option T):∀ (L:List Rw) (k:Nat) (acc:List Nat) (O x4:Option T),acc.length+L.length<=1000->∃ W U,cw (dP 2 (aJ (ai 3) (aJ (ai 4) dO))) q17 (ce k (L.map Rw.d)) [q,some (.leaf (dS N)),some (.lst (acc.map dI)),O,x4]=some (.nx [q,some (.leaf (dS N)),some (.lst ((acc++kds N k L).map dI)),W,U])
 | [],k,acc,O,x4,_=>⟨O,x4,by rw [kds,qe8];rfl⟩
 | r::L,k,acc,O,x4,h=>by
  have Y:dP 2 (aJ (ai 3) (aJ (ai 4) dO)) (.tup [.int (k:Nat),r.d]) [q,some (.leaf (dS N)),some (.lst (acc.map dI)),O,x4]=some [q,some (.leaf (dS N)),some (.lst (acc.map dI)),some (.leaf (.int (k:Nat))),some (.leaf r.d)]:=rfl
  have e2:q17 [q,some (.leaf (dS N)),some (.lst (acc.map dI)),some (.leaf (.int (k:Nat))),some (.leaf r.d)]=some (.nx [q,some (.leaf (dS N)),some (.lst ((acc++if kdB N r then [k] else []).map dI)),some (.leaf (.int (k:Nat))),some (.leaf r.d)]):=by
   unfold q17;rw [jo,tW];cases kdB N r with
   | false =>rw [eQ];simp;rfl
   | true =>rw [iC];rw [iD (l:=acc.map dI) rfl,show vL 3 [q,some (.leaf (dS N)),some (.lst (acc.map dI)),some (.leaf (.int (k:Nat))),some (.leaf r.d)]=some (dI k) from rfl,qa1,dh (by rw [qa2];simp at h;lia)];simp
  obtain ⟨W,U,e⟩:=rN N q L (k+1) (acc++if kdB N r then [k] else []) (some (.leaf (.int (k:Nat)))) (some (.leaf r.d)) (by simp at h ⊢;split<;>simp<;>lia);refine ⟨W,U,?_⟩;rw [qa5,ce,aU Y e2,e,kds,qg9]
theorem qf (cs ss:List Hd) (rows:List Rw) (q:cs.length+ss.length<=1000) (O:rows.length<=1000):y19 [pgD cs ss rows]=some (.lst ((kds (((cs++ss).filter fun h=>!h.b).map (·.x)) 0 rows).map dI)):=by
 unfold y19;rw [gG];generalize U:((cs++ss).filter fun h=>!h.b).map (·.x)=N
 have L:ar 1 (toT (toD (ag z4 (ab (vL 0) ae)))) [some (.leaf (pgD cs ss rows)),none,none,none,none]=some (.nx [some (.leaf (pgD cs ss rows)),some (.leaf (dS N)),none,none,none]):=by have:=kG cs ss (dR rows) q;rw [U] at this;walk_at "k";rw [this];rfl
 obtain ⟨Z,Y,e2⟩:=rN N (some (.leaf (pgD cs ss rows))) rows 0 [] none none (by simpa using O);show jx (ap _ _ [some (.leaf (pgD cs ss rows)),none,none,none,none])=_;rw [aX,L,aD,aX];show jx (ap _ _ [some (.leaf (pgD cs ss rows)),some (.leaf (dS N)),some (.lst ([].map dI)),none,none])=_;rw [aX];have W:cY (ca f8 (ab (toD (d2 aj (vB 0) (kD (.int 2)))) ae)) (dP 2 (aJ (ai 3) (aJ (ai 4) dO))) q17 [some (.leaf (pgD cs ss rows)),some (.leaf (dS N)),some (.lst (([]:List Nat).map dI)),none,none]=cw (dP 2 (aJ (ai 3) (aJ (ai 4) dO))) q17 (ce 0 (rows.map Rw.d)) [some (.leaf (pgD cs ss rows)),some (.leaf (dS N)),some (.lst (([]:List Nat).map dI)),none,none]:=rfl;rw [W,e2,aD];rfl
def bks:Nat->List Rw->List Nat
 | _,[]=>[]
 | k,r::q=>(r.outs k).filter (fun j=>decide (j<=k))++bks (k+1) q
theorem bks_mem:∀ {k:Nat} {L:List Rw},j∈bks k L↔∃ i r,L[i]?=some r/\j∈r.outs (k+i)/\j<=k+i
 | k,[]=>by simp [bks]
 | k,r::L=>by
  rw [bks,qg3,bks_mem,qd6];constructor
  . rintro (⟨h1,h2⟩ | ⟨i,q,h1,h2,h3⟩)
    . exact ⟨0,r,rfl,h1,by simpa using h2⟩
    . exact ⟨i+1,q,h1,by rw [show k+(i+1)=k+1+i by lia];exact h2,by lia⟩
  . rintro ⟨i,q,h1,h2,h3⟩;cases i with
    | zero =>cases h1;exact .inl ⟨h2,by simpa using h3⟩
    | succ i=>exact .inr ⟨i,q,h1,by rw [show k+1+i=k+(i+1) by lia];exact h2,by lia⟩
theorem rO:∀ (k:Nat) (q:List Rw),(bks k q).length<=2*q.length
 | _,[]=>nL _
 | k,r::q=>by have h1:=rO (k+1) q;have h2:=qb8 (qd4 (fun j=>decide (j<=k)) (r.outs k)) (r.outs_len k);rw [bks,qb3,qc0];lia
theorem tX (k:Nat) (js:List Nat):bK (ai 0) q19 (vL 0) [none,some (.leaf (.int (k:Nat)))] (js.map dI)=some ((js.filter fun j=>decide (j<=k)).map dI):=bn fun j _=>⟨_,rfl,by unfold q19;show some (decide (((j:Nat):Int)<=(k:Nat)))=_;congr 1;rw [decide_eq_decide];lia,fun _=>rfl⟩
theorem rP (q:Option T):∀ (O:List Rw) (k:Nat) (acc:List Nat) (L U:Option T),acc.length+2*O.length<=10000->∃ W Y,cw (dP 2 (aJ (ai 2) (aJ (ai 3) dO))) q12 (ce k (O.mapIdx fun i r=>.tup ((r.outs (k+i)).map dI))) [q,some (.lst (acc.map dI)),L,U]=some (.nx [q,some (.lst ((acc++bks k O).map dI)),W,Y])
 | [],k,acc,L,U,_=>⟨L,U,by rw [bks,qe8];rfl⟩
 | r::O,k,acc,L,U,h=>by
  rw [qc0] at h;have h2:=qb8 (qd4 (fun j=>decide (j<=k)) (r.outs k)) (r.outs_len k);have e1:dP 2 (aJ (ai 2) (aJ (ai 3) dO)) (.tup [.int (k:Nat),.tup ((r.outs k).map dI)]) [q,some (.lst (acc.map dI)),L,U]=some [q,some (.lst (acc.map dI)),some (.leaf (.int (k:Nat))),some (.leaf (.tup ((r.outs k).map dI)))]:=rfl
  have e2:q12 [q,some (.lst (acc.map dI)),some (.leaf (.int (k:Nat))),some (.leaf (.tup ((r.outs k).map dI)))]=some (.nx [q,some (.lst ((acc++(r.outs k).filter fun j=>decide (j<=k)).map dI)),some (.leaf (.int (k:Nat))),some (.leaf (.tup ((r.outs k).map dI)))]):=by
   unfold q12;rw [Ai (l:=acc.map dI) (m:=((r.outs k).filter fun j=>decide (j<=k)).map dI) rfl,rF (by rw [qa2,qa2];lia)]
   . rw [qi7];rfl
   . show (bK (ai 0) q19 (vL 0) [none,some (.leaf (.int (k:Nat)))] ((r.outs k).map dI)).bind mkL=_;rw [tX,qa1,bT (by rw [qa2];lia)]
  obtain ⟨W,Y,e⟩:=rP q O (k+1) (acc++(r.outs k).filter fun j=>decide (j<=k)) (some (.leaf (.int (k:Nat)))) (some (.leaf (.tup ((r.outs k).map dI)))) (by rw [qb3];lia);refine ⟨W,Y,?_⟩;rw [zb9,ce,Nat.add_zero,aU e1 e2]
  have Z:(fun i r=>Dt.tup (zi0 dI (Rw.outs (k+(i+1)) r)))=fun i r=>Dt.tup (zi0 dI (Rw.outs (k+1+i) r)):=by funext i r;rw [show k+(i+1)=k+1+i by lia]
  rw [Z,e,bks,qg9]
theorem oT (c s:Dt) (rows:List Rw) (L:rows.length<=1000):q14 [.tup [c,s,dR rows]]=some (.lst ((bks 0 rows).map dI)):=by
 unfold q14;rw [gG];obtain ⟨W,U,e2⟩:=rP (some (.leaf (.tup [c,s,dR rows]))) rows 0 [] none none (by simp;lia);have q:=jJ c s rows L;show jx (ap _ _ [some (.leaf (.tup [c,s,dR rows])),some (.lst (([]:List Nat).map dI)),none,none])=_;rw [aX]
 have O:cY (ca f8 (ab (toD (ag bR (ab (vL 0) ae))) ae)) (dP 2 (aJ (ai 2) (aJ (ai 3) dO))) q12 [some (.leaf (.tup [c,s,dR rows])),some (.lst (([]:List Nat).map dI)),none,none]=cw (dP 2 (aJ (ai 2) (aJ (ai 3) dO))) q12 (ce 0 (rows.mapIdx fun i r=>.tup ((r.outs (0+i)).map dI))) [some (.leaf (.tup [c,s,dR rows])),some (.lst (([]:List Nat).map dI)),none,none]:=by walk_at "k";rw [q];simp only [qt5];rfl
 rw [O,e2,aD];rfl
variable {ch:CH} {n:Nat}
theorem oU:∀ l:List Str,dG (svD ch n) (l.map fun x=>CV.dat (.str x))=some (l.map .str)
 | []=>rfl
 | x::l=>by rw [qa5];unfold dG;rw [show svD ch n (.dat (.str x))=some (.str x) by cases n<;>(unfold svD;rfl),qa1,oU l];rfl
theorem oV:∀ {refs:List Nat} {found:List (List Str)},refs.length=found.length->(∀ (k r:Nat) (l:List Str),refs[k]?=some r->found[k]?=some l->ch[r]?=some (cS l))->dG (svD ch 3) (refs.map CV.ref)=some (found.map dS)
 | [],[],_,_=>rfl
 | [],_::_,h,_=>by cases h
 | _::_,[],h,_=>by cases h
 | r::refs,l::found,h,q=>by
  have e:svD ch 3 (.ref r)=some (dS l):=by unfold svD;rw [q 0 r l rfl rfl];show (dG (svD ch 2) _).map _=_;rw [oU];rfl
  rw [qa5];unfold dG;rw [e,qa1,oV (by simpa using h) fun k r l h1 h2=>q (k+1) r l (by simpa using h1) (by simpa using h2)];rfl
theorem qg {c s:Dt} {B:List Str} (L:∀ (i:Nat) (r:Rw) (b:Str),rows[i]?=some r->b∈r.reads->b∈B) (U:∀ (i:Nat) (r:Rw) (j:Nat),rows[i]?=some r->j∈r.outs i->j<rows.length) (W:B.length<=12) (O:rows.length<=1000) :
  ∃ found,d9 y11 [.tup [c,s,dR rows]]=some (.leaf (dF found))/\Fnd rows B found:=by
 obtain ⟨fi,refs,found,ch',e,q,F,_⟩:=tV (c:=c) (s:=s) L U W O [];refine ⟨found,?_,F⟩;unfold d9;rw [qa5,qh4,e,qa1];show (svD ch' 4 (.ref fi)).map T.leaf=_;unfold svD;rw [q.top];show ((dG (svD ch' 3) _).map Dt.lst).map T.leaf=_;rw [oV q.len q.has];rfl
def plc (N:List Str) (rows:List Rw):List Nat:=(d5 (bL ((kds N 0 rows++bks 0 rows).map fun j:Nat=>(j:Int)))).map Int.toNat
theorem wu (N:List Str) (rows:List Rw):(d5 (bL ((kds N 0 rows++bks 0 rows).map fun j:Nat=>(j:Int)))).map Dt.int=(plc N rows).map dI:=by
 unfold plc;rw [qc9];refine qm9 fun x q=>?_
 rw [fY,du] at q;obtain ⟨j,_,rfl⟩:=qc6.mp q;rfl
theorem plc_mem:j∈plc N rows↔j∈kds N 0 rows∨j∈bks 0 rows:=by
 unfold plc;rw [<- qg3,qc6];constructor
 . rintro ⟨x,q,rfl⟩;rw [fY,du] at q;obtain ⟨j,L,rfl⟩:=qc6.mp q;exact L
 . intro h;exact ⟨(j:Int),by rw [fY,du];exact qc6.mpr ⟨j,h,rfl⟩,rfl⟩
theorem mU (q:∀ (i:Nat) (r:Rw) (j:Nat),rows[i]?=some r->j∈r.outs i->j<rows.length) (h:j∈plc N rows):j<rows.length:=by
 rcases plc_mem.mp h with h | h
 . obtain ⟨_,r,h1,_⟩:=kds_mem.mp h;exact (gX h1).1
 . obtain ⟨i,r,h1,h2,_⟩:=bks_mem.mp h;rw [qt5] at h2;exact q i r j h1 h2
theorem yQ {l:List Int} (q:l.Nodup) (h:∀ x∈l,∃ j:Nat,j<n/\x=(j:Int)):l.length<=n:=by
 have:=cQ q (m:=(qc2 n).map fun j:Nat=>(j:Int)) fun x L=>by obtain ⟨j,O,rfl⟩:=h x L;exact qc6.mpr ⟨j,qd9.mpr O,rfl⟩
 simpa using this
theorem jp {N:List Str} (O:∀ (i:Nat) (r:Rw) (j:Nat),rows[i]?=some r->j∈r.outs i->j<rows.length):(bL ((kds N 0 rows++bks 0 rows).map fun j:Nat=>(j:Int))).length<=rows.length:=yQ (iA _) fun x q=>by rw [du] at q;obtain ⟨j,L,rfl⟩:=qc6.mp q;exact ⟨j,mU (N:=N) O (plc_mem.mpr (qg3.mp L)),rfl⟩
theorem mV (q:∀ (i:Nat) (r:Rw) (j:Nat),rows[i]?=some r->j∈r.outs i->j<rows.length):(plc N rows).length<=rows.length:=by unfold plc;rw [qa2,(cq _).length_eq];exact jp q
def kpD (k:Nat×List Str):Dt:=.tup [dI k.1,.tup (k.2.map .str)]
def cdD (bg:List Str) (ks:List (Nat×List Str)):Dt:=.tup [.tup (bg.map .str),.tup (ks.map kpD)]
def iG (N:List Str) (rows:List Rw) (found:List (List Str)):List (Nat×List Str):=(plc N rows).map fun j=>(j,found.getD j [])
theorem mW {B:List Str} (F:Fnd rows B found) (h:j<rows.length):found[j]?=some (found.getD j []):=by
 have:j<found.length:=by rw [F.len];exact h
 simp [this]
variable {cs ss:List Hd}
theorem kW {B:List Str} (hB:∀ (i:Nat) (r:Rw) (b:Str),rows[i]?=some r->b∈r.reads->b∈B) (q:∀ (i:Nat) (r:Rw) (j:Nat),rows[i]?=some r->j∈r.outs i->j<rows.length) (hb:B.length<=12) (hn:rows.length<=60) (Y:0<rows.length) (O:cs.length+ss.length<=1000) (en:d9 y11 [pgD cs ss rows]=some (.leaf (dF found))) (F:Fnd rows B found) :
  y21 [pgD cs ss rows]=some (.leaf (cdD (found.getD 0 []) (iG (((cs++ss).filter fun h=>!h.b).map (·.x)) rows found))):=by
 have L:=qf cs ss rows O (by lia);have eb:=oT (.tup (cs.map hdD)) (.tup (ss.map hdD)) rows (by lia);generalize ((cs++ss).filter fun h=>!h.b).map (·.x)=N at L ⊢;have l1:=rM N 0 rows;have l2:=rO 0 rows
 have eg:aT (.lst ((kds N 0 rows).map dI)) (.lst ((bks 0 rows).map dI))=some (.lst (((kds N 0 rows++bks 0 rows).map fun j:Nat=>(j:Int)).map .int)):=by rw [rD (by rw [qa2,qa2];lia),<- qi7,qc9];rfl
 have es:=oG (ns:=(kds N 0 rows++bks 0 rows).map fun j:Nat=>(j:Int)) (by rw [qa2,qb3];lia) (qx1 (jp q) (by lia));rw [wu] at es;unfold y21;rw [gG]
 have s1:ar 1 (toT (toD (ag (d9 y11) (ab (vL 0) ae)))) [some (.leaf (pgD cs ss rows)),none,none]=some (.nx [some (.leaf (pgD cs ss rows)),some (.leaf (dF found)),none]):=by walk_at "k";rw [en];rfl
 have U:ar 2 (toT (toD (ag d6 (ab (toD (d2 aT (toD (ag y19 (ab (vL 0) ae))) (toD (ag q14 (ab (vL 0) ae))))) ae)))) [some (.leaf (pgD cs ss rows)),some (.leaf (dF found)),none]=some (.nx [some (.leaf (pgD cs ss rows)),some (.leaf (dF found)),some (.leaf (.lst ((plc N rows).map dI)))]):=by walk_at "k";rw [L,eb];walk_at "k";rw [eg];walk_at "k";rw [es];rfl
 show jx (ap _ _ [some (.leaf (pgD cs ss rows)),none,none])=_;rw [aX,s1,aD,aX,U,aD]
 have Z:bK (ai 0) bf z34 [none,some (.leaf (dF found))] ((plc N rows).map dI)=some ((iG N rows found).map kpD):=by
  have:=bn (f:=dI) (h:=fun j=>kpD (j,found.getD j [])) (p:=fun _=>true) (bb:=ai 0) (ft:=bf) (fe:=z34) (δ:=[none,some (.leaf (dF found))]) (l:=plc N rows) fun j W=>⟨[some (.leaf (dI j)),some (.leaf (dF found))],rfl,rfl,fun _=>by unfold z34;have h2:=i9 (mW F (mU q W));unfold dI;walk_at "k";rw [h2];rfl⟩
  rw [this,List.filter_eq_self.mpr fun _ _=>rfl];unfold iG;rw [qc9];rfl
 have h2:=i9 (mW F Y);walk_at "k"
 have l3:((iG N rows found).map kpD).length<=1000000:=by have:=mV (N:=N) q;unfold iG;simp;lia
 rw [show aj (dF found) (.int 0)=_ from h2,Z,qa1,bT l3];rfl
theorem rQ (l:List Nat) (x:Nat):((l.map dI).any fun y=>eqF y (dI x))=decide (x∈l):=by
 rw [qj8,zc0];constructor
 . rintro ⟨y,L,e⟩;obtain ⟨z,q,rfl⟩:=qc6.mp L;have:(z:Int)=x:=by simpa [dI,eqF] using e
   have:z=x:=by lia
   subst this;exact decide_eq_true q
 . intro h;exact ⟨dI x,qc6.mpr ⟨x,of_decide_eq_true h,rfl⟩,by simp [dI,eqF]⟩
theorem oW (l:List Nat):(l.map dI).all bB=true:=by rw [qj1];intro y q;obtain ⟨z,L,rfl⟩:=qc6.mp q;rfl
variable {neg:Bool} {l:List Nat}
theorem fL {x:Nat}:aY neg (dI x) (.lst (l.map dI))=some (.leaf (.bl (if neg then !decide (x∈l) else decide (x∈l)))):=by
 show gIn neg (dI x) (.lst (l.map dI))=_;unfold gIn
 have:inD (dI x) (.lst (l.map dI))=some (decide (x∈l)):=by show (if bB (dI x)&&(l.map dI).all bB then some ((l.map dI).any fun y=>eqF y (dI x)) else none)=_;rw [oW,rQ];rfl
 rw [this];rfl
theorem jK (b:Dt) (ks:List (Nat×List Str)) (h:ks.length<=1000):z8 [.tup [b,.tup (ks.map kpD)]]=some (.lst ((ks.map (·.1)).map dI)):=by unfold z8;walk_at "k";rw [bE (h:=fun p:Nat×List Str=>dI p.1) fun p hp=>⟨_,rfl,rfl,by unfold y61 kpD;walk_at "k"⟩];walk_at "k";rw [bT (by rw [qa2];lia),qc9];walk_at "k";rfl
def ja (kept:List Nat) (rows:List Rw):List Dt:=rows.mapIdx fun k r=>.lst (((r.outs k).filter fun w=>!decide (w∈kept)).map dI)
theorem z94 (kept outs:List Nat) (L:outs.length<=10):y44 [some (.leaf (.tup (outs.map dI))),some (.leaf (.lst (kept.map dI)))]=some (.lst ((outs.filter fun w=>!decide (w∈kept)).map dI)):=by
 unfold y44;walk_at "k"
 rw [bn (h:=dI) (p:=fun w=>!decide (w∈kept)) fun w q=>⟨_,rfl,by unfold y57;walk_at "k";rw [fL];rfl,fun _=>rfl⟩]
 walk_at "k";rw [bT (by rw [qa2];exact qb8 (qd4 _ _) (by lia))];walk_at "k"
theorem wv (c s b:Dt) (rows:List Rw) (ks:List (Nat×List Str)) (h:rows.length<=1000) (hk:ks.length<=1000):z22 [.tup [c,s,dR rows],.tup [b,.tup (ks.map kpD)]]=some (.lst (ja (ks.map (·.1)) rows)):=by unfold z22;walk_at "k";rw [jK b ks hk];walk_at "k";rw [jJ c s rows h];walk_at "k";unfold ja;rw [qy0,qy0,bE (h:=fun p:Rw×Nat=>Dt.lst (((p.1.outs p.2).filter fun w=>!decide (w∈ks.map (·.1))).map dI)) fun p hp=>⟨_,rfl,rfl,z94 _ _ (qb8 (Rw.outs_len _ _) (by decide))⟩];walk_at "k";rw [bT (by rw [qa2,List.length_zipIdx];lia)];walk_at "k"
abbrev kcD (b:Dt) (ks:List (Nat×List Str)):Dt:=.tup [b,.tup (ks.map kpD)]
abbrev pcD (c s:Dt) (rows:List Rw):Dt:=.tup [c,s,dR rows]
def jb (rows:List Rw) (i:Nat):List Nat:=match rows[i]? with
 | some r=>r.outs i
 | none=>[]
theorem iH (h:rows[i]?=some r):jb rows i=r.outs i:=by unfold jb;rw [h]
def stay (rows:List Rw) (l:List Nat):List Nat:=l.filter fun i=>(jb rows i).any fun j=>decide (j∈l)
theorem l7:∀ bs:List Bool,lw (bs.map .bl)=some bs
 | []=>rfl
 | b::bs=>by rw [qa5];unfold lw;rw [l7 bs];rfl
theorem ww (l js:List Nat):bK (ai 0) bf q28 [none,some (.leaf (.lst (l.map dI)))] (js.map dI)=some ((js.map fun j=>decide (j∈l)).map .bl):=by
 have:=bE (f:=dI) (h:=fun j=>Dt.bl (decide (j∈l))) (bb:=ai 0) (ft:=bf) (fe:=q28) (δ:=[none,some (.leaf (.lst (l.map dI)))]) (l:=js) fun j _=>⟨[some (.leaf (dI j)),some (.leaf (.lst (l.map dI)))],rfl,rfl,by unfold q28;show (aY false (dI j) (.lst (l.map dI))).map T.d=_;rw [fL];rfl⟩
 rw [this,qc9];rfl
theorem tY (rows:List Rw) (l:List Nat) (i:Nat) (hi:i<rows.length):y12 [some (.leaf (dI i)),some (.leaf (dW rows)),some (.leaf (.lst (l.map dI)))]=some ((jb rows i).any fun j=>decide (j∈l)):=by
 have q:rows[i]?=some rows[i]:=by simp [hi]
 have e:=rK q;have L:((rows[i]).outs i).length<=2:=Rw.outs_len _ _;unfold y12;rw [show dI i=Dt.int (i:Nat) from rfl];walk_at "k";rw [e];walk_at "k";rw [ww,qa1,bT (by simp;lia)];walk_at "k";unfold xI;dsimp only;rw [l7,iH q];walk_at "k";simp [List.any_map,Function.comp_def]
theorem tZ (rows:List Rw) (l:List Nat) (q:∀ i∈l,i<rows.length):bK (ai 0) y12 (vL 0) [none,some (.leaf (dW rows)),some (.leaf (.lst (l.map dI)))] (l.map dI)=some ((stay rows l).map dI):=bn fun i hi=>⟨_,rfl,tY rows l i (q i hi),fun _=>rfl⟩
variable {g:De->Option Out} {δ:De}
theorem Ef {c:De->Option Bool} {δ2:De} (h:c δ=some true) (q:g δ=some (.nx δ2)):cM c g (n+1) δ=cM c g n δ2:=by rw [cM,h,qa1,if_pos rfl,q];rfl
theorem Eg {c:De->Option Bool} (h:c δ=some false):cM c g (n+1) δ=some (.nx δ):=by rw [cM,h,qa1,if_neg (by decide)]
theorem kH (h:i∈stay rows l):i∈l:=(qd6.mp h).1
theorem kI (rows:List Rw) (l:List Nat):(stay rows l).length<=l.length:=qd4 _ _
theorem wx (h:¬ (stay rows l).length<l.length):stay rows l=l:=by have:=kI rows l;exact (qk6 (p:=fun i=>(jb rows i).any fun j=>decide (j∈l))).eq_of_length (by unfold stay at *;lia)
theorem wy (rows:List Rw) (l:List Nat) (O:∀ i∈l,i<rows.length) (Y:l.length<=1000) (q L x4:Option T) :
  q29 [some (.leaf (dW rows)),q,some (.leaf (.lst (l.map dI))),L,x4]=some (.nx [some (.leaf (dW rows)),q,some (.leaf (.lst ((stay rows l).map dI))),some (.leaf (.bl (decide ((stay rows l).length<l.length)))),some (.leaf (.lst ((stay rows l).map dI)))]):=by
 have U:=tZ rows l O;have Z:=kI rows l
 have W:toD (aF [none,some 0,some 2] (fIt (vB 2)) (ai 0) y12 (vL 0)) [some (.leaf (dW rows)),q,some (.leaf (.lst (l.map dI))),L,x4]=some (.lst ((stay rows l).map dI)):=by show qz7 T.d ((bK (ai 0) y12 (vL 0) [none,some (.leaf (dW rows)),some (.leaf (.lst (l.map dI)))] (l.map dI)).bind mkL)=_;rw [U,qa1,bT (by rw [qa2];lia)];rfl
 have s1:ar 4 (toT (toD (aF [none,some 0,some 2] (fIt (vB 2)) (ai 0) y12 (vL 0)))) [some (.leaf (dW rows)),q,some (.leaf (.lst (l.map dI))),L,x4]=some (.nx [some (.leaf (dW rows)),q,some (.leaf (.lst (l.map dI))),L,some (.leaf (.lst ((stay rows l).map dI)))]):=by unfold ar toT;rw [W];rfl
 unfold q29;rw [aX,s1,aD];walk_at "k";simp
theorem kJ (rows:List Rw) (hn:rows.length<=500) (q:Option T):∀ (f:Nat) (l:List Nat) (x4:Option T),l.length<f->(∀ i∈l,i<rows.length)->l.Nodup->l.length<=1000→
  ∃ (E:List Nat) (W:Option T),cM y35 q29 (f+1) [some (.leaf (dW rows)),q,some (.leaf (.lst (l.map dI))),some (.leaf (.bl true)),x4]=some (.nx [some (.leaf (dW rows)),q,some (.leaf (.lst (E.map dI))),some (.leaf (.bl false)),W])/\stay rows E=E/\E.Nodup/\(∀ i∈E,i∈l)/\∀ C:Nat->Prop,(∀ i,C i->i∈l)->(∀ i,C i->∃ j∈jb rows i,C j)->∀ i,C i->i∈E
 | 0,l,x4,h,_,_,_=>absurd h (qm2 _)
 | f+1,l,x4,h,Y,Z,h1=>by
  have hb:=wy rows l Y h1 q (some (.leaf (.bl true))) x4;have hc:y35 [some (.leaf (dW rows)),q,some (.leaf (.lst (l.map dI))),some (.leaf (.bl true)),x4]=some true:=rfl;have hs:=kI rows l
  have keep:∀ C:Nat->Prop,(∀ i,C i->i∈l)->(∀ i,C i->∃ j∈jb rows i,C j)->∀ i,C i->i∈stay rows l:=fun C O L i hi=>by obtain ⟨j,hj,U⟩:=L i hi;refine qd6.mpr ⟨O i hi,?_⟩;rw [zc0];exact ⟨j,hj,decide_eq_true (O j U)⟩
  rw [Ef hc hb];by_cases z:(stay rows l).length<l.length
  . rw [decide_eq_true z];obtain ⟨E,W,e,g1,g2,g3,g4⟩:=kJ rows hn q f (stay rows l) (some (.leaf (.lst ((stay rows l).map dI)))) (by lia) (fun i hi=>Y i (kH hi)) (Z.sublist qk6) (by lia);exact ⟨E,W,e,g1,g2,fun i hi=>kH (g3 i hi),fun C O L=>g4 C (keep C O L) L⟩
  . rw [decide_eq_false z];have hf:=wx z;refine ⟨stay rows l,_,Eg rfl,by rw [hf];exact hf,Z.sublist qk6,fun i hi=>kH hi,keep⟩
theorem qh (rows:List Rw) (l:List Nat) (U:rows.length<=500) (q:∀ i∈l,i<rows.length) (L:l.Nodup) :
  ∃ E:List Nat,y16 [dW rows,.lst (l.map dI)]=some (.leaf (.lst (E.map dI)))/\stay rows E=E/\E.Nodup/\(∀ i∈E,i∈l)/\∀ C:Nat->Prop,(∀ i,C i->i∈l)->(∀ i,C i->∃ j∈jb rows i,C j)->∀ i,C i->i∈E:=by
 have h1:l.length<=rows.length:=by
  have:=cQ L (m:=qc2 rows.length) fun x O=>qd9.mpr (q x O)
  simpa using this
 obtain ⟨E,W,e,g⟩:=kJ rows U (some (.leaf (.lst (l.map dI)))) 99999 l none (by lia) q L (by lia);refine ⟨E,?_,g⟩;unfold y16;walk_at "k";rw [show (100000:Nat)=99999+1 from rfl,e];walk_at "k"
def ms:Mrk->Str
 | .fresh=>"fresh" | .seen=>"seen" | .safe=>"safe" | .spoilt=>"spoilt"
theorem mX:∀ {a b:Mrk},ms a=ms b->a=b:=fun {a b} h=>by cases a<;>cases b<;>first | rfl | (exfalso;revert h;unfold ms;decide +kernel)
theorem Eh (a b:Mrk):decide (ms a=ms b)=decide (a=b):=by rw [decide_eq_decide];exact ⟨mX,fun h=>by rw [h]⟩
theorem Ei (r:Rw) (nm:Str) (x:Option T):tB2 (aY false) (toD (d2 aj (vB 1) (kD (.int 0)))) (toD (aK (ab (kD (.str "load")) (ab (kD (.str "take")) ae)))) [x,some (.leaf r.d),some (.leaf (.str nm))]=some (match r with | .load _ _=>true | .take _ _ _=>true | _=>false):=by cases r<;>simp only [Rw.d]<;>walk_at "k"
theorem Ej (r:Rw) (nm:Str) (x:Option T):tB2 (aY false) (toD (d2 aj (vB 1) (kD (.int 0)))) (toD (aK (ab (kD (.str "store")) (ab (kD (.str "lay")) ae)))) [x,some (.leaf r.d),some (.leaf (.str nm))]=some (match r with | .store _ _=>true | .lay _ _ _=>true | _=>false):=by cases r<;>simp only [Rw.d]<;>walk_at "k"
theorem Ek (r:Rw) (nm:Str) (x:Option T):tB2 (gEq false) (toD (d2 aj (vB 1) (kD (.int 0)))) (kD (.str "store")) [x,some (.leaf r.d),some (.leaf (.str nm))]=some (match r with | .store _ _=>true | _=>false):=by cases r<;>simp only [Rw.d]<;>walk_at "k"
theorem mY (a b:Mrk) (x y:Option T):tB2 (gEq false) (vB 0) (kD (.str (ms b))) [some (.leaf (.str (ms a))),x,y]=some (decide (a=b)):=by rw [<- Eh];rfl
theorem rR (m:Mrk) (r:Rw) (nm:Str):q23 [.str (ms m),r.d,.str nm]=some (.leaf (.str (ms (mb m r nm)))):=by
 have q:cL (tB2 (gEq false) (vB 0) (kD de)) (cL (tB2 (aY false) (toD (d2 aj (vB 1) (kD (.int 0)))) (toD (aK (ab (kD (.str "load")) (ab (kD (.str "take")) ae))))) (tB2 (gEq false) (toD (d2 aj (vB 1) (kD (.int 2)))) (vB 2))) [some (.leaf (.str (ms m))),some (.leaf r.d),some (.leaf (.str nm))]=some (decide (m=.fresh)&&r.gets nm):=by
  rw [i8,show tB2 (gEq false) (vB 0) (kD de) [some (.leaf (.str (ms m))),some (.leaf r.d),some (.leaf (.str nm))]=_ from mY m .fresh _ _];cases decide (m=.fresh)
  . rfl
  . rw [iC,i8,Ei];cases r<;>rfl
 have e2:cL (tB2 (gEq false) (vB 0) (kD de)) (cL (tB2 (gEq false) (toD (d2 aj (vB 1) (kD (.int 0)))) (kD (.str "store"))) (tB2 (gEq false) (toD (d2 aj (vB 1) (kD (.int 1)))) (vB 2))) [some (.leaf (.str (ms m))),some (.leaf r.d),some (.leaf (.str nm))]=some (decide (m=.fresh)&&r.stores nm):=by
  rw [i8,show tB2 (gEq false) (vB 0) (kD de) [some (.leaf (.str (ms m))),some (.leaf r.d),some (.leaf (.str nm))]=_ from mY m .fresh _ _];cases decide (m=.fresh)
  . rfl
  . rw [iC,i8,Ek];cases r<;>rfl
 have L:cL (tB2 (gEq false) (vB 0) (kD kr)) (cL (tB2 (aY false) (toD (d2 aj (vB 1) (kD (.int 0)))) (toD (aK (ab (kD (.str "store")) (ab (kD (.str "lay")) ae))))) (tB2 (gEq false) (toD (d2 aj (vB 1) (kD (.int 1)))) (vB 2))) [some (.leaf (.str (ms m))),some (.leaf r.d),some (.leaf (.str nm))]=some (decide (m=.seen)&&r.puts nm):=by
  rw [i8,show tB2 (gEq false) (vB 0) (kD kr) [some (.leaf (.str (ms m))),some (.leaf r.d),some (.leaf (.str nm))]=_ from mY m .seen _ _];cases decide (m=.seen)
  . rfl
  . rw [iC,i8,Ej];cases r<;>rfl
 unfold q23;rw [gG];show jx (ap _ _ [some (.leaf (.str (ms m))),some (.leaf r.d),some (.leaf (.str nm))])=_;rw [aX,jo,q];cases h1:(decide (m=.fresh)&&r.gets nm) with
 | true =>
  have:m=.fresh/\r.gets nm=true:=by simpa using h1
  rw [this.1];simp only [mb,this.2,if_true];rfl
 | false =>
  rw [eQ,bV,aD,aX,jo,e2];cases h2:(decide (m=.fresh)&&r.stores nm) with
  | true =>
   have:m=.fresh/\r.stores nm=true:=by simpa using h2
   rw [this.1] at h1 ⊢;simp only [decide_true,qj6] at h1;simp only [mb,this.2,h1,if_true,qf9,if_false];rfl
  | false =>
   rw [eQ,bV,aD,aX,jo,L];cases h3:(decide (m=.seen)&&r.puts nm) with
   | true =>
    have:m=.seen/\r.puts nm=true:=by simpa using h3
    rw [this.1];simp only [mb,this.2,if_true];rfl
   | false =>
    rw [eQ,bV,aD];cases m with
    | fresh =>simp only [decide_true,qj6] at h1 h2;simp only [mb,h1,h2,qf9,if_false];rfl
    | seen =>simp only [decide_true,qj6] at h3;simp only [mb,h3,qf9,if_false];rfl
    | safe=>rfl
    | spoilt=>rfl
def c9 (t:Nat×Mrk):Dt:=.tup [dI t.1,.str (ms t.2)]
theorem rS (h:rows[i]?=some r):aj (dR rows) (dI i)=some (.leaf r.d):=by unfold dR dI;rw [zJ,bj,qb1,h];rfl
theorem Ci {kept:List Nat} (h:rows[i]?=some r):aj (.lst (ja kept rows)) (dI i)=some (.leaf (.lst (((r.outs i).filter fun w=>!decide (w∈kept)).map dI))):=by unfold ja dI;rw [oI,bj,qp6,h];rfl
theorem wz (t:Nat×Mrk):aj (c9 t) (.int 0)=some (.leaf (dI t.1)):=by unfold c9;walk_at "k"
theorem Al (t:Nat×Mrk):aj (c9 t) (.int 1)=some (.leaf (.str (ms t.2))):=by unfold c9;walk_at "k"
theorem El {a b:Mrk}:decide (ms a=ms b)=decide (a=b):=by rw [decide_eq_decide];exact ⟨mX,fun h=>by rw [h]⟩
theorem t0 {nm:Str} {t:Nat×Mrk} (h:t.1<rows.length):jw 3 bv [.str nm,dR rows] [c9 t]=some (.leaf (.bl (tN rows nm t))):=by
 have q:rows[t.1]?=some rows[t.1]:=gQ h;unfold jw
 show (match bv [some (.leaf (c9 t)),some (.leaf (.str nm)),some (.leaf (dR rows))] with
  | some (.rt t)=>some t | some (.nx _)=>some (.leaf .non) | _=>none)=_
 have e:bv [some (.leaf (c9 t)),some (.leaf (.str nm)),some (.leaf (dR rows))]=some (.rt (.leaf (.bl (tN rows nm t)))):=by unfold bv;walk_at "k";rw [Al,wz];walk_at "k";rw [rS q];walk_at "k";rw [rR];unfold iB;walk_at "k";unfold tN;simp only [q];rw [<- El];rfl
 rw [e]
theorem t5 {kept:List Nat} {nm:Str} {t:Nat×Mrk} (h:t.1<rows.length):jw 5 bu [.str nm,dR rows,.lst (ja kept rows)] [c9 t]=some (.lst ((oR rows kept nm t).map c9)):=by
 have q:rows[t.1]?=some rows[t.1]:=gQ h;unfold jw
 show (match bu [some (.leaf (c9 t)),none,some (.leaf (.str nm)),some (.leaf (dR rows)),some (.leaf (.lst (ja kept rows)))] with
  | some (.rt t)=>some t | some (.nx _)=>some (.leaf .non) | _=>none)=_
 have e:bu [some (.leaf (c9 t)),none,some (.leaf (.str nm)),some (.leaf (dR rows)),some (.leaf (.lst (ja kept rows)))]=some (.rt (.lst ((oR rows kept nm t).map c9))):=by
  unfold bu;walk_at "k";rw [Al,wz];walk_at "k";rw [rS q];walk_at "k";rw [rR];unfold mJ;walk_at "k";unfold oR;simp only [q];generalize L:mb t.2 rows[t.1] nm=m;by_cases e:m=.safe
  . rw [dA (by simp [e,ms]),if_pos e];walk_at "k"
  . rw [dg (by simp only [decide_eq_false_iff_not];exact fun z=>e (mX (b:=.safe) z)),if_neg e];walk_at "k";rw [wz];walk_at "k";rw [Ci q];walk_at "k";rw [bE (h:=fun w:Nat=>c9 (w,m)) fun w _=>⟨_,rfl,rfl,by unfold y48 c9;walk_at "k"⟩];walk_at "k";rw [bT (by rw [qa2];exact qb8 (qd4 _ _) (qb8 (Rw.outs_len _ _) (by decide))),qc9];walk_at "k";rfl
 rw [e]
def ky (t:Nat×Mrk):Int×Str:=((t.1:Int),ms t.2)
theorem Cj (a b:Nat×Mrk) (h:ky a=ky b):a=b:=by unfold ky at h;simp only [Prod.mk.injEq] at h;exact Prod.ext (by lia) (mX h.2)
def Un (n:Nat):List (Nat×Mrk):=(qc2 n).flatMap fun k=>[(k,.fresh),(k,.seen),(k,.safe),(k,.spoilt)]
theorem mem_Un {t:Nat×Mrk}:t∈Un n↔t.1<n:=by
 unfold Un;rw [List.mem_flatMap];constructor
 . rintro ⟨k,hk,h⟩;have hk:=qd9.mp hk;simp at h;rcases h with rfl | rfl | rfl | rfl<;>exact hk
 . intro h;refine ⟨t.1,qd9.mpr h,?_⟩;obtain ⟨k,m⟩:=t;cases m<;>simp
theorem Ck (n:Nat):(Un n).length=4*n:=by
 unfold Un;induction n with
 | zero=>rfl
 | succ n q=>rw [List.range_succ,List.flatMap_append,qb3,q];simp;lia
def sl8 (P C:Dt) (nm:Str) (L x4 q:Option CV):Sl:=[some (.dat P),some (.dat C),some (.dat (.str nm)),L,x4,none,none,q]
def kps (ks:List (Nat×List Str)):List Nat:=ks.map (·.1)
abbrev wA (kept:List Nat) (t:Nat×Mrk):Prop:=t.2=.fresh∨t.2=.seen/\t.1∉kept
theorem wC {kept:List Nat} {nm:Str} (hp:∀ (i:Nat) (r:Rw),rows[i]?=some r->r.puts nm=true->i∈kept) {t:Nat×Mrk} (q:wA kept t):tN rows nm t=false:=by
 unfold tN;split
 . rfl
 . rename_i r e;refine decide_eq_false fun z=>?_
   rcases tP z with z | ⟨z,L⟩
   . rcases q with h | ⟨h,_⟩<;>rw [h] at z<;>cases z
   . rcases q with h | ⟨_,h⟩
     . rw [h] at z;cases z
     . exact h (hp _ r e L)
theorem wD {kept:List Nat} {nm:Str} (hp:∀ (i:Nat) (r:Rw),rows[i]?=some r->r.puts nm=true->i∈kept) {t u:Nat×Mrk} (W:wA kept t) (O:u∈oR rows kept nm t):wA kept u:=by
 obtain ⟨r,e,g1,_,L,U⟩:=we O;have:=wC hp W;unfold tN at this;rw [e] at this;unfold wA;rw [U];cases q:mb t.2 r nm with
 | fresh=>exact .inl rfl
 | seen=>exact .inr ⟨rfl,L⟩
 | safe=>exact absurd q g1
 | spoilt=>exact absurd q (of_decide_eq_false this)
theorem qi {b:Dt} {ks:List (Nat×List Str)} {nm:Str} {ch0:CH} (hl:cs.length+ss.length<=1000) (h:nm∈((cs++ss).filter fun h=>!h.b).map (·.x)) (hr:rows.length<=1000) (L:0<rows.length) (hk:ks.length<=1000) (Y:∀ k∈kps ks,k<rows.length) (hO:∀ (k:Nat) (r:Rw) (w:Nat),rows[k]?=some r->w∈r.outs k->w<rows.length) (hp:∀ (i:Nat) (r:Rw),rows[i]?=some r->r.puts nm=true->i∈kps ks) :
  ∃ ch',y51 [.dat (pgD cs ss rows),.dat (kcD b ks),.dat (.str nm)] ch0=some (.dat .non,ch'):=by
 obtain ⟨cf,J,h1⟩:=Ch (ky:=ky) Cj (U:=(Un rows.length).filter fun t=>decide (wA (kps ks) t)) (starts:=iF (kps ks)) (beh:=oR rows (kps ks) nm)
  (fun t q u hu=>by obtain ⟨r,e,_,g,_⟩:=we hu;exact qd6.mpr ⟨mem_Un.mpr (hO _ r _ e g),decide_eq_true (wD hp (of_decide_eq_true (qd6.mp q).2) hu)⟩)
  (qb8 (qd4 _ _) (by rw [Ck];lia))
  (fun t q=>by
   unfold oR;split
   . simp
   . split
     . simp
     . rw [qa2];exact qb8 (qd4 _ _) (qb8 (Rw.outs_len _ _) (by decide)))
  (fun t q=>by
   obtain ⟨k,O,rfl⟩:=qc6.mp q;refine qd6.mpr ⟨mem_Un.mpr ?_,decide_eq_true (.inl rfl)⟩;rcases qb2.mp O with rfl | z
   . exact L
   . exact Y k z)
  (by unfold iF kps;simp;lia)
 refine ⟨hpR ky ch0 cf J,?_⟩;let Z:Option CV->Option CV->Option CV->Sl:=sl8 (pgD cs ss rows) (kcD b ks) nm;refine fZ ?_;show aw _ _ (Z none none none) ch0=_
 have t1:tD (tB2 (aY true) (vB 2) (toD (ag z4 (ab (vL 0) ae)))) (Z none none none) ch0=some (false,ch0):=Ec (by show tB2 (aY true) (vB 2) (toD (ag z4 (ab (vL 0) ae))) [some (.leaf (pgD cs ss rows)),some (.leaf (kcD b ks)),some (.leaf (.str nm)),none,none,none,none,none]=_;walk_at "k";unfold pgD;rw [kG cs ss _ hl];walk_at "k";rw [iE];simp only [if_true];rw [decide_eq_true h];rfl)
 have t2:aC 3 (eD (toD (d2 aj (vB 0) (kD (.int 2))))) (Z none none none) ch0=some (.nx (Z (some (.dat (dR rows))) none none) ch0):=by
  rw [aR (gl (d:=dR rows) (by show toD (d2 aj (vB 0) (kD (.int 2))) [some (.leaf (pgD cs ss rows)),some (.leaf (kcD b ks)),some (.leaf (.str nm)),none,none,none,none,none]=_;unfold pgD;walk_at "k"))]
  rfl
 have t3:aC 4 (eD (toD (ag z22 (ab (vL 0) (ab (vL 1) ae))))) (Z (some (.dat (dR rows))) none none) ch0=some (.nx (Z (some (.dat (dR rows))) (some (.dat (.lst (ja (kps ks) rows)))) none) ch0):=by
  rw [aR (gl (d:=.lst (ja (kps ks) rows)) (by show toD (ag z22 (ab (vL 0) (ab (vL 1) ae))) [some (.leaf (pgD cs ss rows)),some (.leaf (kcD b ks)),some (.leaf (.str nm)),some (.leaf (dR rows)),none,none,none,none]=_;walk_at "k";unfold pgD kcD;rw [wv _ _ _ rows ks hr hk];rfl))]
  rfl
 rw [av (by rw [mP t1];rfl),av t2,av t3];show aw _ _ (Z (some (.dat (dR rows))) (some (.dat (.lst (ja (kps ks) rows)))) none) ch0=_;generalize hδ:Z (some (.dat (dR rows))) (some (.dat (.lst (ja (kps ks) rows)))) none=δ
 have f0:y59 δ ch0=some (.dat (.lst ((iF (kps ks)).map (nD ky))),ch0):=by rw [<- hδ];refine gl ?_;show toD (aF [none] (fIt (toD (d2 aT (toD (bZ (ab (kD (.int 0)) ae))) (toD (ag z8 (ab (vL 1) ae)))))) (ai 0) bf z59) [some (.leaf (pgD cs ss rows)),some (.leaf (kcD b ks)),some (.leaf (.str nm)),some (.leaf (dR rows)),some (.leaf (.lst (ja (kps ks) rows))),none,none,none]=_;walk_at "k";unfold kcD;rw [jK b ks hk];walk_at "k";rw [vX (small (by simp;lia))];walk_at "k";rw [show (Dt.int 0::(ks.map (fun x=>x.1)).map dI)=(0::kps ks).map dI from rfl,bE (h:=fun k:Nat=>c9 (k,.fresh)) fun k _=>⟨_,rfl,rfl,by unfold z59 c9 de;walk_at "k";rfl⟩];walk_at "k";rw [bT (by unfold kps;simp;lia)];unfold iF;rw [qc9];rfl
 have fr:fRt [2,3,4] [2,3] ["place","mark","name","rows","inner"] ["place","name","rows"] bu bv y59 q67 δ ch0=some (.dat .non,hpR ky ch0 cf J):=by
  refine Bx (c0:=.dat (.lst ((iF (kps ks)).map (nD ky)))) (ch0:=ch0) (a:=[.str nm,dR rows,.lst (ja (kps ks) rows)]) (b:=[.str nm,dR rows]) f0 (by rw [<- hδ];rfl) (by rw [<- hδ];rfl) fun f1 f2 F0 W=>?_
  refine h1 ch0 _ f1 f2 F0 (fun t q=>?_) fun t q=>?_
  . rw [Bv];exact t5 (mem_Un.mp (qd6.mp q).1)
  . rw [Bw W];rw [<- wC hp (of_decide_eq_true (qd6.mp q).2)];exact t0 (mem_Un.mp (qd6.mp q).1)
 rw [av (aR fr),<- hδ];refine oM ?_;rfl
variable {b:Dt}
theorem kK {cs:List Hd} {ks:List (Nat×List Str)} (h1:∀ nm∈((cs++ss).filter fun h=>!h.b).map (·.x),∀ ch0,∃ ch',y51 [.dat (pgD cs ss rows),.dat (kcD b ks),.dat (.str nm)] ch0=some (.dat .non,ch')) :
  ∀ (l:List Str) (L q:Option CV) (ch:CH),(∀ nm∈l,nm∈((cs++ss).filter fun h=>!h.b).map (·.x))->∃ O U ch',kQ [2] (ai 2) z41 (l.map .str) [some (.dat (pgD cs ss rows)),some (.dat (kcD b ks)),L,q] ch=some (.nx [some (.dat (pgD cs ss rows)),some (.dat (kcD b ks)),O,U] ch')
 | [],L,q,ch,_=>⟨L,q,ch,rfl⟩
 | nm::l,L,q,ch,W=>by
  obtain ⟨ch1,Y⟩:=h1 nm (W nm (.head _)) ch;obtain ⟨O,U,ch',e⟩:=kK h1 l (some (.dat (.str nm))) (some (.dat .non)) ch1 fun n Z=>W n (.tail _ Z)
  refine ⟨O,U,ch',?_⟩;rw [qa5,mN (δ2:=[some (.dat (pgD cs ss rows)),some (.dat (kcD b ks)),some (.dat (.str nm)),some (.dat .non)]) (ch2:=ch1) (show 2<4 by decide) ?_]
  . exact e
  . unfold z41;show aw _ _ [some (.dat (pgD cs ss rows)),some (.dat (kcD b ks)),some (.dat (.str nm)),q] ch=_;rw [av (aR ((v8 (cs:=[.dat (pgD cs ss rows),.dat (kcD b ks),.dat (.str nm)]) (ch2:=ch) rfl).trans Y))];rfl
theorem wE {b:Dt} {ks:List (Nat×List Str)} (O:cs.length+ss.length<=1000) (Z:rows.length<=1000) (q:0<rows.length) (hk:ks.length<=1000) (L:∀ k∈ks.map (·.1),k<rows.length) (hO:∀ (k:Nat) (r:Rw) (w:Nat),rows[k]?=some r->w∈r.outs k->w<rows.length)
 (hp:∀ nm∈((cs++ss).filter fun h=>!h.b).map (·.x),∀ (i:Nat) (r:Rw),rows[i]?=some r->r.puts nm=true->i∈ks.map (·.1)) (ch0:CH):∃ ch',z30 [.dat (pgD cs ss rows),.dat (kcD b ks)] ch0=some (.dat .non,ch'):=by
 obtain ⟨W,Y,ch',e⟩:=kK (b:=b) (fun nm U ch=>qi (b:=b) (ch0:=ch) O U Z q hk L hO (hp nm U)) (((cs++ss).filter fun h=>!h.b).map (·.x)) none none ch0 fun _ h=>h
 refine ⟨ch',?_⟩;unfold z30;refine fZ ?_;show aw _ _ [some (.dat (pgD cs ss rows)),some (.dat (kcD b ks)),none,none] ch0=_;rw [av (δ1:=[some (.dat (pgD cs ss rows)),some (.dat (kcD b ks)),W,Y]) (ch1:=ch') ?_]
 . rfl
 . unfold io
   have:fIt (toD (ag z4 (ab (vL 0) ae))) (lo [some (.dat (pgD cs ss rows)),some (.dat (kcD b ks)),none,none] ch0)=some ((((cs++ss).filter fun h=>!h.b).map (·.x)).map .str):=by show fIt (toD (ag z4 (ab (vL 0) ae))) [some (.leaf (pgD cs ss rows)),some (.leaf (kcD b ks)),none,none]=_;walk_at "k";rw [kG cs ss _ O];rfl
   rw [this,qa1];exact e
variable {x y:Dt}
theorem ej {g:Dt->Dt->Option T} {fa fb:De->Option Dt} (h1:fa δ=some x) (h2:fb δ=some y):d2 g fa fb δ=g x y:=by unfold d2;rw [h1,h2];rfl
theorem be {f:De->Option T} {t:T} (h:f δ=some t):toD f δ=some t.d:=by unfold toD;rw [h];rfl
theorem iI {src:List (Option Nat)} {fi:De->Option (List Dt)} {bb:Dt->De->Option De} {ft:De->Option Bool} {fe:De->Option Dt} {ds ys:List Dt} (h1:fi δ=some ds) (h2:bK bb ft fe (dC src δ) ds=some ys) (h3:ys.length<=1000000):aF src fi bb ft fe δ=some (.lst ys):=by unfold aF;rw [h1,qa1,h2,qa1,if_pos (small h3)]
variable {f:De->Option Dt}
theorem fM {F:List Dt->Option T} (h:f δ=some x):ag F (ab f ae) δ=F [x]:=by unfold ag ab ae;rw [h];rfl
theorem fN {F:List Dt->Option T} {g:De->Option Dt} (h:f δ=some x) (h2:g δ=some y):ag F (ab f (ab g ae)) δ=F [x,y]:=by unfold ag ab ae;rw [h,h2];rfl
theorem t6 (kept:List Nat) (n:Nat):bK (ai 0) q20 (vL 0) [none,some (.leaf (.lst (kept.map dI)))] ((qc2 n).map dI)=some (((qc2 n).filter fun i=>!decide (i∈kept)).map dI):=bn fun j _=>⟨[some (.leaf (dI j)),some (.leaf (.lst (kept.map dI)))],rfl,by unfold q20;show ((aY true (dI j) (.lst (kept.map dI))).bind asB)=_;rw [fL];rfl,fun _=>rfl⟩
theorem jc (n:Nat) (h:n<=1000000):dQ [.int n]=some ((qc2 n).map dI):=by rw [BL (by lia)];unfold gv dI;simp
theorem yR {E kept:List Nat} (Z:stay rows E=E) (hk:∀ i∈E,i∉kept) (W:∀ (i j:Nat),j∈jb rows i->j<=i->j∈kept) (O:∀ i∈E,i<rows.length):E=[]:=by
 have L:∀ (d i:Nat),rows.length<=i+d->i∉E:=fun d=>by
  induction d with
  | zero=>exact fun i h z=>absurd (O i z) (by lia)
  | succ d U =>
   intro i h z;have hz:=z;rw [<- Z] at z;obtain ⟨j,Y,e⟩:=zc0.mp (qd6.mp z).2;have q:j∈E:=of_decide_eq_true e;by_cases c:j<=i
   . exact hk j q (W i j Y c)
   . exact U j (by lia) q
 cases E with
 | nil=>rfl
 | cons a l=>exact absurd (.head _) (L rows.length a (by lia))
theorem yS {ks:List (Nat×List Str)} (hn:rows.length<=500) (W:ks.length<=1000) (Z:∀ (i j:Nat),j∈jb rows i->j<=i->j∈ks.map (·.1)) (ch0:CH):y26 [.dat (pcD c s rows),.dat (kcD b ks)] ch0=some (.dat .non,ch0):=by
 have ek:=jK b ks W;have ew:=jJ c s rows (by lia);generalize ks.map (·.1)=kept at ek Z ⊢;have U:((qc2 rows.length).filter fun i=>!decide (i∈kept)).Nodup:=List.nodup_range.sublist qk6
 have q:∀ i,i∈(qc2 rows.length).filter (fun i=>!decide (i∈kept))↔i<rows.length/\i∉kept:=fun i=>by rw [qd6,qd9];simp
 obtain ⟨E,ee,hE,Y,L,maxE⟩:=qh rows ((qc2 rows.length).filter fun i=>!decide (i∈kept)) hn (fun i hi=>((q i).mp hi).1) U
 have lE:E.length<=rows.length:=by
  have:=cQ Y (m:=qc2 rows.length) fun x hx=>qd9.mpr ((q x).mp (L x hx)).1
  simpa using this
 have s1:aC 2 (eD (toD (ag z8 (ab (vL 1) ae)))) [some (.dat (pcD c s rows)),some (.dat (kcD b ks)),none,none,none,none,none] ch0=some (.nx [some (.dat (pcD c s rows)),some (.dat (kcD b ks)),some (.dat (.lst (kept.map dI))),none,none,none,none] ch0):=by refine aR (v:=.dat (.lst (kept.map dI))) (gl ?_);show (z8 [kcD b ks]).map T.d=_;rw [show z8 [kcD b ks]=_ from ek];rfl
 have s2:aC 3 (eD (toD (ag bR (ab (vL 0) ae)))) [some (.dat (pcD c s rows)),some (.dat (kcD b ks)),some (.dat (.lst (kept.map dI))),none,none,none,none] ch0=some (.nx [some (.dat (pcD c s rows)),some (.dat (kcD b ks)),some (.dat (.lst (kept.map dI))),some (.dat (dW rows)),none,none,none] ch0):=by refine aR (v:=.dat (dW rows)) (gl ?_);show (bR [pcD c s rows]).map T.d=_;rw [show bR [pcD c s rows]=_ from ew];rfl
 have s3:aC 4 (eD (toD (ag y16 (ab (vL 3) (ab (toD (aF [none,some 2] (ca dQ (ab (toD (ag bN (ab (vB 3) ae))) ae)) (ai 0) q20 (vL 0))) ae))))) [some (.dat (pcD c s rows)),some (.dat (kcD b ks)),some (.dat (.lst (kept.map dI))),some (.dat (dW rows)),none,none,none] ch0=some (.nx [some (.dat (pcD c s rows)),some (.dat (kcD b ks)),some (.dat (.lst (kept.map dI))),some (.dat (dW rows)),some (.dat (.lst (E.map dI))),none,none] ch0):=by
  refine aR (v:=.dat (.lst (E.map dI))) (gl ?_);show toD (ag y16 (ab (vL 3) (ab (toD (aF [none,some 2] (ca dQ (ab (toD (ag bN (ab (vB 3) ae))) ae)) (ai 0) q20 (vL 0))) ae))) [some (.leaf (pcD c s rows)),some (.leaf (kcD b ks)),some (.leaf (.lst (kept.map dI))),some (.leaf (dW rows)),none,none,none]=_
  have e1:ca dQ (ab (toD (ag bN (ab (vB 3) ae))) ae) [some (.leaf (pcD c s rows)),some (.leaf (kcD b ks)),some (.leaf (.lst (kept.map dI))),some (.leaf (dW rows)),none,none,none]=some ((qc2 rows.length).map dI):=by unfold dW;walk_at "k";rw [List.length_mapIdx,jc _ (by lia)]
  have a2:=be (iI (src:=[none,some 2]) (bb:=ai 0) (ft:=q20) (fe:=vL 0) e1 (t6 kept rows.length) (by rw [qa2];exact qb8 (qd4 _ _) (by simp;lia)))
  exact be (t:=.leaf (.lst (E.map dI))) ((fN (x:=dW rows) rfl a2).trans ee)
 have O:E=[]:=yR hE (fun i hi=>((q i).mp (L i hi)).2) Z fun i hi=>((q i).mp (L i hi)).1
 subst O;unfold y26;refine fZ ?_;show aw _ _ [some (.dat (pcD c s rows)),some (.dat (kcD b ks)),none,none,none,none,none] ch0=_;rw [av s1,av s2,av s3];rfl
def fnB:Rw->Bool
 | .fin _=>true
 | _=>false
theorem wF (P C:Option T) (kept:List Nat) (k:Nat) (r:Rw) (h:(fnB r&&!decide (k∈kept))=false):q30 [P,C,some (.leaf (.lst (kept.map dI))),some (.leaf (dI k)),some (.leaf r.d)]=some (.nx [P,C,some (.leaf (.lst (kept.map dI))),some (.leaf (dI k)),some (.leaf r.d)]):=by
 unfold q30;cases r<;>(simp only [Rw.d];walk_at "k")<;>try rfl
 rw [fL];walk_at "k";have:k∈kept:=by simpa [fnB] using h
 simp [this];rfl
theorem wG (P C:Option T) (kept:List Nat):∀ (L:List Rw) (k:Nat) (O x4:Option T),(∀ (i:Nat) (r:Rw),L[i]?=some r->fnB r=true->k+i∈kept)->∃ W U,cw (dP 2 (aJ (ai 3) (aJ (ai 4) dO))) q30 (ce k (L.map Rw.d)) [P,C,some (.leaf (.lst (kept.map dI))),O,x4]=some (.nx [P,C,some (.leaf (.lst (kept.map dI))),W,U])
 | [],k,O,x4,_=>⟨O,x4,rfl⟩
 | r::L,k,O,x4,h=>by
  obtain ⟨W,U,e⟩:=wG P C kept L (k+1) (some (.leaf (dI k))) (some (.leaf r.d)) fun i q hi Y=>by
   have:=h (i+1) q hi Y
   rwa [show k+1+i=k+(i+1) by lia]
  refine ⟨W,U,?_⟩
  have Z:(fnB r&&!decide (k∈kept))=false:=by
   cases hr:fnB r with
   | false=>rfl
   | true =>have:k∈kept:=h 0 r rfl hr;simp [this]
  have hb:=wF P C kept k r Z;show ((q30 [P,C,some (.leaf (.lst (kept.map dI))),some (.leaf (dI k)),some (.leaf r.d)]).bind _)=_;rw [hb];exact e
theorem Cl {ks:List (Nat×List Str)} (q:ks.length<=1000) (hk:∀ (i:Nat) (r:Rw),rows[i]?=some r->fnB r=true->i∈ks.map (·.1)) :
  y30 [pcD c s rows,kcD b ks]=some (.leaf .non):=by
 unfold y30;walk_at "k";rw [show z8 [kcD b ks]=_ from jK b ks q];walk_at "k";unfold f8 dR;walk_at "k"
 obtain ⟨O,L,e⟩:=wG (some (.leaf (pcD c s rows))) (some (.leaf (kcD b ks))) (ks.map (·.1)) rows 0 none none fun i r h1 h2=>by rw [qt5];exact hk i r h1 h2
 rw [e];rfl
theorem wH {l:List Str} {x:Str}:aY neg (.str x) (.tup (l.map .str))=some (.leaf (.bl (if neg then !decide (x∈l) else decide (x∈l)))):=by rw [zK (by rw [cD];rfl),rE]
theorem rT (O U q L x4 x6:Option T) (bs:List Str):∀ (l:List Str) (W:Option T),(∀ b∈l,b∈bs)->∃ y,cw (ai 7) z43 (l.map .str) [O,U,q,L,x4,some (.leaf (.tup (bs.map .str))),x6,W]=some (.nx [O,U,q,L,x4,some (.leaf (.tup (bs.map .str))),x6,y])
 | [],W,_=>⟨W,rfl⟩
 | b::l,W,h=>by
  obtain ⟨y,e⟩:=rT O U q L x4 x6 bs l (some (.leaf (.str b))) (fun c Y=>h c (.tail _ Y));refine ⟨y,?_⟩;rw [qa5,aU (δ1:=[O,U,q,L,x4,some (.leaf (.tup (bs.map .str))),x6,some (.leaf (.str b))]) (δ2:=[O,U,q,L,x4,some (.leaf (.tup (bs.map .str))),x6,some (.leaf (.str b))]) rfl ?_]
  . exact e
  . unfold z43;walk_at "k";rw [wH];walk_at "k";rw [dg (by simp [h b (.head _)])];rfl
def plD (p:Nat×List Str×Bool):Dt:=.tup [dI p.1,.tup (p.2.1.map .str),.bl p.2.2]
theorem oX (O U L:Option T) {B:List Str} (F:Fnd rows B found):∀ (ps:List (Nat×List Str×Bool)) (x4 Y x6 W:Option T),(∀ p∈ps,p.1<rows.length/\∀ l,found[p.1]?=some l->∀ b∈l,b∈p.2.1)->∃ y4 y5 Z y7,cw (dP 3 (aJ (ai 4) (aJ (ai 5) (aJ (ai 6) dO)))) y45 (ps.map plD) [O,U,some (.leaf (dF found)),L,x4,Y,x6,W]=some (.nx [O,U,some (.leaf (dF found)),L,y4,y5,Z,y7])
 | [],x4,Y,x6,W,_=>⟨x4,Y,x6,W,rfl⟩
 | p::ps,x4,Y,x6,W,h=>by
  obtain ⟨hp,hB⟩:=h p (.head _);obtain ⟨l,hl⟩:∃ l,found[p.1]?=some l:=⟨found[p.1]'(by rw [F.len];exact hp),by simp⟩;obtain ⟨y,e1⟩:=rT O U (some (.leaf (dF found))) L (some (.leaf (dI p.1))) (some (.leaf (.bl p.2.2))) p.2.1 l W (hB l hl);obtain ⟨y4,y5,Z,y7,e⟩:=oX O U L F ps (some (.leaf (dI p.1))) (some (.leaf (.tup (p.2.1.map .str)))) (some (.leaf (.bl p.2.2))) y (fun q hq=>h q (.tail _ hq));refine ⟨y4,y5,Z,y7,?_⟩;rw [qa5,aU (δ1:=[O,U,some (.leaf (dF found)),L,some (.leaf (dI p.1)),some (.leaf (.tup (p.2.1.map .str))),some (.leaf (.bl p.2.2)),W]) rfl (δ2:=[O,U,some (.leaf (dF found)),L,some (.leaf (dI p.1)),some (.leaf (.tup (p.2.1.map .str))),some (.leaf (.bl p.2.2)),y]) ?_]
  . exact e
  . unfold y45
    have e2:aj (dF found) (dI p.1)=some (.leaf (dS l)):=by unfold dF dI;rw [oI,bj,qb1,hl];rfl
    walk_at "k";rw [e2];walk_at "k";exact e1
variable {bg:List Str}
theorem yT {B:List Str} {ks:List (Nat×List Str)} (Z:∀ (i:Nat) (r:Rw) (b:Str),rows[i]?=some r->b∈r.reads->b∈B) (hO:∀ (i:Nat) (r:Rw) (j:Nat),rows[i]?=some r->j∈r.outs i->j<rows.length) (hb:B.length<=12) (hn:rows.length<=500) (hp:0<rows.length) (e:d9 y11 [pcD c s rows]=some (.leaf (dF found))) (F:Fnd rows B found) (O:∀ l,found[0]?=some l->∀ b∈l,b∈bg) (hk:∀ k∈ks,k.1<rows.length/\∀ l,found[k.1]?=some l->∀ b∈l,b∈k.2) (U:ks.length<=900) :
  z27 [pcD c s rows,kcD (.tup (bg.map .str)) ks]=some (.leaf .non):=by
 unfold z27;walk_at "k";rw [e];walk_at "k";rw [bE (h:=fun k:Nat×List Str=>plD (k.1,k.2,false)) fun k _=>⟨_,rfl,rfl,by unfold y55 kpD;walk_at "k";rfl⟩];walk_at "k";rw [bT (by rw [qa2];lia)];walk_at "k"
 have ps:=oX (some (.leaf (pcD c s rows))) (some (.leaf (kcD (.tup (bg.map .str)) ks))) (some (.leaf (.lst (((0,bg,true)::ks.map fun k=>(k.1,k.2,false)).map plD)))) F ((0,bg,true)::ks.map fun k=>(k.1,k.2,false)) none none none none (fun p q=>by
  rcases qb2.mp q with rfl | q
  . exact ⟨hp,O⟩
  . obtain ⟨k,L,rfl⟩:=qc6.mp q;exact hk k L)
 obtain ⟨Y,y5,W,y7,ps⟩:=ps;rw [rD (by simp;lia)];walk_at "k";rw [show Dt.tup [Dt.int 0,Dt.tup (zi0 Dt.str bg),Dt.bl true]=plD (0,bg,true) from rfl,show zi0 (fun k:Nat×List Str=>plD (k.1,k.2,false)) ks=(ks.map fun k=>(k.1,k.2,false)).map plD by rw [qc9];rfl,<- qa5,ps];rfl
structure Inp (cs ss:List Hd) (rows:List Rw) (B bg:List Str) (ks:List (Nat×List Str)) (found:List (List Str)):Prop where
 hB:∀ (i:Nat) (r:Rw) (b:Str),rows[i]?=some r->b∈r.reads->b∈B
 hO:∀ (i:Nat) (r:Rw) (j:Nat),rows[i]?=some r->j∈r.outs i->j<rows.length
 hb:B.length<=12
 hn:rows.length<=400
 hp:0<rows.length
 en:d9 y11 [pgD cs ss rows]=some (.leaf (dF found))
 F:Fnd rows B found
 hbg:∀ l,found[0]?=some l->∀ b∈l,b∈bg
 hk:∀ k∈ks,k.1<rows.length/\∀ l,found[k.1]?=some l->∀ b∈l,b∈k.2
 hkl:ks.length<=900
 hh:cs.length+ss.length<=1000
 ends:∀ (i:Nat) (r:Rw),rows[i]?=some r->fnB r=true->i∈ks.map (·.1)
 back:∀ (i j:Nat),j∈jb rows i->j<=i->j∈ks.map (·.1)
 put:∀ nm∈((cs++ss).filter fun h=>!h.b).map (·.x),∀ (i:Nat) (r:Rw),rows[i]?=some r->r.puts nm=true->i∈ks.map (·.1)
theorem wI {cs:List Hd} {rows:List Rw} {B bg:List Str} {ks:List (Nat×List Str)} (I:Inp cs ss rows B bg ks found):d9 z37 [pgD cs ss rows,kcD (.tup (bg.map .str)) ks]=some (.leaf (.bl true)):=by
 have Z:y30 [pgD cs ss rows,kcD (.tup (bg.map .str)) ks]=some (.leaf .non):=Cl (c:=.tup (cs.map hdD)) (s:=.tup (ss.map hdD)) (b:=.tup (bg.map .str)) (rows:=rows) (ks:=ks) (by have:=I.hkl;lia) I.ends;have O:y26 [.dat (pgD cs ss rows),.dat (kcD (.tup (bg.map .str)) ks)] []=some (.dat .non,[]):=yS (c:=.tup (cs.map hdD)) (s:=.tup (ss.map hdD)) (b:=.tup (bg.map .str)) (rows:=rows) (ks:=ks) (by have:=I.hn;lia) (by have:=I.hkl;lia) I.back []
 obtain ⟨ch1,es⟩:=wE (b:=.tup (bg.map .str)) I.hh (by have:=I.hn;lia) I.hp (by have:=I.hkl;lia) (fun k hk=>by obtain ⟨p,hp,rfl⟩:=qc6.mp hk;exact (I.hk p hp).1) I.hO I.put []
 have W:z27 [pgD cs ss rows,kcD (.tup (bg.map .str)) ks]=some (.leaf .non):=yT (c:=.tup (cs.map hdD)) (s:=.tup (ss.map hdD)) (bg:=bg) (ks:=ks) I.hB I.hO I.hb (by have:=I.hn;lia) I.hp I.en I.F I.hbg I.hk I.hkl;generalize hP:pgD cs ss rows=P at*
 generalize hC:kcD (.tup (bg.map .str)) ks=C at*
 have q:∀ (g:Fs) (ch:CH),e5 (iY (e2D 2 (gIs false) (eV 2) (eD (kD .non)))) g dX [some (.dat P),some (.dat C),some (.dat .non)] ch=g [some (.dat P),some (.dat C),some (.dat .non)] ch:=fun g ch=>qa (g1:=g) (ch1:=ch) rfl
 have nD:∀ (F:List Dt->Option T) (x:Option CV) (ch:CH),F [P,C]=some (.leaf .non)->aC 2 (eN (ag F (ab (vL 0) (ab (vL 1) ae)))) [some (.dat P),some (.dat C),x] ch=some (.nx [some (.dat P),some (.dat C),some (.dat .non)] ch):=fun F x ch h=>by refine aR (v:=.dat .non) ?_;unfold eN;show ((F [P,C]).bind _)=_;rw [h];rfl
 have L:∀ (F:Fd) (x:Option CV) (ch ch':CH),F [.dat P,.dat C] ch=some (.dat .non,ch')->aC 2 (eC F (aO (eD (vL 0)) (aO (eD (vL 1)) cG))) [some (.dat P),some (.dat C),x] ch=some (.nx [some (.dat P),some (.dat C),some (.dat .non)] ch'):=fun F x ch ch' h=>aR (v:=.dat .non) ((v8 (cs:=[.dat P,.dat C]) (ch2:=ch) rfl).trans h)
 have U:q51 [.dat P,.dat C] []=some (.dat .non,ch1):=by unfold q51;refine fZ ?_;show aw _ _ [some (.dat P),some (.dat C),none] []=_;rw [av (nD _ _ _ Z),av ((q _ _).trans (L _ _ _ _ O)),av ((q _ _).trans (L _ _ _ _ es)),av ((q _ _).trans (nD _ _ _ W))];rfl
 have Y:z37 [.dat P,.dat C] []=some (.dat (.bl true),ch1):=by unfold z37;refine fZ ?_;unfold dz e2D;show ((((eC q51 (aO (eD (vL 0)) (aO (eD (vL 1)) cG)) [some (.dat P),some (.dat C)] []).bind _)).map _)=_;rw [v8 (cs:=[.dat P,.dat C]) (ch2:=[]) rfl,U];rfl
 unfold d9;rw [qa5,qa5,qh4,Y];rfl
theorem wJ (n:Nat) (r:Rw):z31 [r.d,.int n]=some (.leaf (.tup ((r.outs n).map dI))):=by cases r<;>kernel_rfl
theorem Cm (L:∀ (i:Nat) (r:Rw) (j:Nat),rows[i]?=some r->j∈r.outs i->j<rows.length):plc N rows=(qc2 rows.length).filter fun j=>decide (j∈plc N rows):=by
 have e:d5 (bL ((kds N 0 rows++bks 0 rows).map fun j:Nat=>(j:Int)))=((qc2 rows.length).filter fun j=>decide (j∈plc N rows)).map fun j:Nat=>(j:Int):=by
  refine gB ((List.perm_ext_iff_of_nodup ((cq _).nodup_iff.mpr (iA _)) ?_).mpr fun x=>?_) (ix _) ?_
  . exact qy9 _ (fun a b h=>by lia) (List.nodup_range.sublist qk6)
  . rw [fY,du,qc6,qc6];constructor
    . rintro ⟨j,q,rfl⟩;have hp:j∈plc N rows:=plc_mem.mpr (qg3.mp q);exact ⟨j,qd6.mpr ⟨qd9.mpr (mU L hp),decide_eq_true hp⟩,rfl⟩
    . rintro ⟨j,q,rfl⟩;exact ⟨j,qg3.mpr (plc_mem.mp (of_decide_eq_true (qd6.mp q).2)),rfl⟩
  . exact qy9 _ (fun a b h=>by lia) (qr8.sublist qk6)
 have e2:plc N rows=(d5 (bL ((kds N 0 rows++bks 0 rows).map fun j:Nat=>(j:Int)))).map Int.toNat:=rfl;rw [e,qc9] at e2
 conv=>lhs;rw [e2]
 conv=>rhs;rw [<- List.map_id ((qc2 rows.length).filter fun j=>decide (j∈plc N rows))]
 exact qm9 fun x _=>by simp
theorem yU (a n:Nat) (h:a<=n) (q:n<=1000000):pD [dI a,.int n]=some (((qc2 (n-a)).map fun k=>a+k).map dI):=by
 show pD [.int a,.int n]=_;unfold pD;have h1:eT (a:Int)=true:=by unfold eT;simp;lia
 have h2:eT (n:Int)=true:=by unfold eT;simp;lia
 dsimp only;rw [h1,h2,qu4,if_pos rfl];unfold gv dI;rw [show ((n:Int)-a).toNat=n-a by lia,qc9];rfl
theorem wK {x:Nat}:aY neg (dI x) (.tup (l.map dI))=some (.leaf (.bl (if neg then !decide (x∈l) else decide (x∈l)))):=by rw [zK (by rw [oW];rfl),rQ]
def bkL (rows:List Rw) (q:Nat):List Nat:=((qc2 (rows.length-q)).map fun k=>q+k).filter fun k=>decide (q∈jb rows k)
theorem Cn {at':Nat} (O:at'<=rows.length):bkL rows at'≠[]↔at'∈bks 0 rows:=by
 rw [bks_mem];constructor
 . intro h;obtain ⟨k,hk⟩:=List.exists_mem_of_ne_nil _ h;obtain ⟨h1,h2⟩:=qd6.mp hk;obtain ⟨d,L,rfl⟩:=qc6.mp h1;have L:=qd9.mp L;have q:rows[at'+d]?=some (rows[at'+d]'(by lia)):=by simp
   refine ⟨at'+d,_,q,?_,by lia⟩;have:=of_decide_eq_true h2;rw [iH q] at this
   rwa [qt5]
 . rintro ⟨i,r,h1,h2,h3⟩ z;have hi:=(gX h1).1;rw [qt5] at h2 h3
   have:i∈bkL rows at':=by refine qd6.mpr ⟨qc6.mpr ⟨i-at',qd9.mpr (by lia),by lia⟩,?_⟩;rw [iH h1];exact decide_eq_true h2
   rw [z] at this;cases this
theorem yV (rows:List Rw) (q:Nat):bK (ai 0) y41 (vL 0) [none,some (.leaf (dR rows)),some (.leaf (dI q))] (((qc2 (rows.length-q)).map fun k=>q+k).map dI)=some ((bkL rows q).map dI):=
 bn fun k hk=>⟨[some (.leaf (dI k)),some (.leaf (dR rows)),some (.leaf (dI q))],rfl,by
  obtain ⟨d,O,rfl⟩:=qc6.mp hk;have O:=qd9.mp O;have L:rows[q+d]?=some (rows[q+d]'(by lia)):=by simp
  have U:toD (ag z31 (ab (toD (d2 aj (vB 1) (vB 0))) (ab (vL 0) ae))) [some (.leaf (dI (q+d))),some (.leaf (dR rows)),some (.leaf (dI q))]=some (.tup (((rows[q+d]'(by lia)).outs (q+d)).map dI)):=be (t:=.leaf _) ((fN (x:=(rows[q+d]'(by lia)).d) (y:=dI (q+d)) (be (t:=.leaf _) ((ej (x:=dR rows) (y:=dI (q+d)) rfl rfl).trans (qe L))) rfl).trans (wJ _ _))
  unfold y41 tB2;rw [ej (x:=dI q) rfl U,wK,iH L];rfl,fun _=>rfl⟩
theorem orE {f g:De->Option Bool} {a b:Bool} (h1:f δ=some a) (h2:a=false->g δ=some b):fOr f g δ=some (a||b):=by
 rw [DV,h1];cases a with
 | true=>rfl
 | false=>exact h2 rfl
def plB (N:List Str):Rw->Bool
 | .store c _=>decide (c∈N)
 | .lay f _ _=>decide (f∈N)
 | _=>false
theorem wL (N:List Str) (r:Rw) (bk:List Nat) (L O q x4 U:Option T):fOr (tB2 (gEq false) (toD (d2 aj (vB 6) (kD (.int 0)))) (kD (.str "end"))) (fOr (tB2 (gx fun i j=>decide (j<i)) (toD (ag bN (ab (vB 7) ae))) (kD (.int 0))) (cL (tB2 (aY false) (toD (d2 aj (vB 6) (kD (.int 0)))) (toD (aK (ab (kD (.str "store")) (ab (kD (.str "lay")) ae))))) (tB2 (aY false) (toD (d2 aj (vB 6) (kD (.int 1)))) (vB 3)))) [L,O,q,some (.leaf (dS N)),x4,U,some (.leaf r.d),some (.leaf (.lst (bk.map dI)))]=some (kdB N r||decide (bk≠[])):=by
 have e:tB2 (gx fun i j=>decide (j<i)) (toD (ag bN (ab (vB 7) ae))) (kD (.int 0)) [L,O,q,some (.leaf (dS N)),x4,U,some (.leaf r.d),some (.leaf (.lst (bk.map dI)))]=some (decide (bk≠[])):=by
  show some (decide ((0:Int)<((bk.map dI).length:Nat)))=_;cases bk with
  | nil=>rfl
  | cons a l=>simp
 have W:tB2 (gEq false) (toD (d2 aj (vB 6) (kD (.int 0)))) (kD (.str "end")) [L,O,q,some (.leaf (dS N)),x4,U,some (.leaf r.d),some (.leaf (.lst (bk.map dI)))]=some (fnB r):=by cases r<;>simp only [Rw.d]<;>walk_at "k"<;>rfl
 have e2:cL (tB2 (aY false) (toD (d2 aj (vB 6) (kD (.int 0)))) (toD (aK (ab (kD (.str "store")) (ab (kD (.str "lay")) ae))))) (tB2 (aY false) (toD (d2 aj (vB 6) (kD (.int 1)))) (vB 3)) [L,O,q,some (.leaf (dS N)),x4,U,some (.leaf r.d),some (.leaf (.lst (bk.map dI)))]=some (plB N r):=by cases r<;>simp only [Rw.d,plB,dS]<;>walk_at "k"<;>(try rw [iE])<;>(try rfl)
 rw [orE W fun _=>orE e fun _=>e2];congr 1;cases r<;>simp [fnB,plB,kdB,Bool.or_comm]
theorem rV {g:De->Option Dt} (h:f δ=some x) (h2:g δ=some y):aK (ab f (ab g ae)) δ=some (.leaf (.tup [x,y])):=by rw [BN];unfold ab ae;rw [h,h2];exact yt (ds:=[x,y]) (by simp)
noncomputable def dst (O:Option T) (found:List (List Str)) (rows:List Rw) (N:List Str) (acc:List (Nat×List Str)) (L x6 q:Option T):De:=[O,some (.leaf (dF found)),some (.leaf (dR rows)),some (.leaf (dS N)),some (.lst (acc.map kpD)),L,x6,q]
variable {a:Nat}
theorem wM (L x6 U:Option T) {acc:List (Nat×List Str)} (O:rows[a]?=some r) (hn:rows.length<=1000) (hf:found[a]?=some (found.getD a [])) (hl:acc.length<=1000) :
  ∃ Y y7,q32 (dst L found rows N (acc) (some (.leaf (dI a))) x6 U)=some (.nx (dst L found rows N ((acc++if a∈plc N rows then [(a,found.getD a [])] else [])) (some (.leaf (dI a))) Y y7)):=by
 have ha:=(gX O).1;refine ⟨some (.leaf r.d),some (.leaf (.lst ((bkL rows a).map dI))),?_⟩
 have s1:ar 6 (toT (toD (d2 aj (vB 2) (vB 5)))) (dst L found rows N (acc) (some (.leaf (dI a))) x6 U)=some (.nx (dst L found rows N (acc) (some (.leaf (dI a))) (some (.leaf r.d)) U)):=by unfold ar toT;rw [be (t:=.leaf r.d) ((ej (x:=dR rows) (y:=dI a) rfl rfl).trans (qe O))];rfl
 have Z:ar 7 (toT (toD (aF [none,some 2,some 5] (ca pD (ab (vL 5) (ab (toD (ag bN (ab (vB 2) ae))) ae))) (ai 0) y41 (vL 0)))) (dst L found rows N (acc) (some (.leaf (dI a))) (some (.leaf r.d)) U)=some (.nx (dst L found rows N (acc) (some (.leaf (dI a))) (some (.leaf r.d)) (some (.leaf (.lst ((bkL rows a).map dI)))))):=by
  unfold ar toT
  rw [be (iI (src:=[none,some 2,some 5]) (ds:=((qc2 (rows.length-a)).map fun k=>a+k).map dI) (by
   unfold dst dR;walk_at "k";rw [qa2,yU a _ (by lia) (by lia)]) (yV rows a) (by
   rw [qa2];exact qb8 (qd4 _ _) (by simp;lia)))]
  rfl
 have W:=wL N r (bkL rows a) L (some (.leaf (dF found))) (some (.leaf (dR rows))) (some (.lst (acc.map kpD))) (some (.leaf (dI a)))
 have hm:(kdB N r||decide (bkL rows a≠[]))=decide (a∈plc N rows):=by
  rw [qj8,qh7,decide_eq_true_iff,decide_eq_true_iff,plc_mem,Cn (by lia),kds_mem];constructor
  . rintro (h | h)
    . exact .inl ⟨qh8 _,r,by simpa using O,h⟩
    . exact .inr h
  . rintro (⟨_,q,h1,h2⟩ | h)
    . have h1:rows[a]?=some q:=by simpa using h1
      rw [O] at h1;cases h1;exact .inl h2
    . exact .inr h
 rw [hm] at W;unfold q32;rw [aX,s1,aD,aX,Z,aD,jo,show fOr _ _ (dst _ _ _ _ _ _ _ _)=_ from W];by_cases h:a∈plc N rows
 . rw [decide_eq_true h,iC,if_pos h,iD rfl]
   have e:toD (aK (ab (vL 5) (ab (toD (ag bD (ab (toD (d2 aj (vB 1) (vB 5))) ae))) ae))) (dst L found rows N (acc) (some (.leaf (dI a))) (some (.leaf r.d)) (some (.leaf (.lst ((bkL rows a).map dI)))))=some (kpD (a,found.getD a [])):=by have e1:=be (f:=d2 aj (vB 1) (vB 5)) (δ:=(dst L found rows N (acc) (some (.leaf (dI a))) (some (.leaf r.d)) (some (.leaf (.lst ((bkL rows a).map dI)))))) (t:=.leaf (dS (found.getD a []))) ((ej (x:=dF found) (y:=dI a) rfl rfl).trans (i9 hf));have e2:=be (t:=.leaf (.tup ((found.getD a []).map .str))) ((fM (F:=bD) e1).trans rfl);exact be (rV (x:=dI a) rfl e2)
   rw [e,qa1,dh (by rw [qa2];lia)];simp [dst]
 . rw [decide_eq_false h,eQ,if_neg h,qe8];rfl
theorem wN (L:Option T) {N:List Str} {rows:List Rw} {found:List (List Str)} (hn:rows.length<=100) (Z:∀ a,a<rows.length->found[a]?=some (found.getD a [])):∀ (js:List Nat) (acc:List (Nat×List Str)) (O x6 q:Option T),(∀ j∈js,j<rows.length)->acc.length+js.length<=1000→
  ∃ y5 U Y,cw (ai 5) q32 (js.map dI) (dst L found rows N (acc) O x6 q)=some (.nx (dst L found rows N ((acc++(js.filter fun j=>decide (j∈plc N rows)).map fun j=>(j,found.getD j []))) y5 U Y))
 | [],acc,O,x6,q,_,_=>⟨O,x6,q,by simp [cw]⟩
 | j::js,acc,O,x6,q,hj,hl=>by
  have W:=hj j (.head _);rw [qc0] at hl;obtain ⟨U,Y,e1⟩:=wM L x6 q (N:=N) (rows:=rows) (found:=found) (acc:=acc) (a:=j) (r:=rows[j]) (by simp) (by lia) (Z j W) (by lia);obtain ⟨z5,z6,z7,e2⟩:=wN L hn Z js (acc++if j∈plc N rows then [(j,found.getD j [])] else []) (some (.leaf (dI j))) U Y (fun k hk=>hj k (.tail _ hk)) (by split<;>simp<;>lia);refine ⟨z5,z6,z7,?_⟩;rw [qa5,aU (δ1:=(dst L found rows N (acc) (some (.leaf (dI j))) x6 q)) rfl e1,e2];by_cases h:j∈plc N rows
  . simp [h]
  . simp [h]
theorem Co (O:cs.length+ss.length<=1000) (hn:rows.length<=100) (Z:0<rows.length) (L:∀ (i:Nat) (r:Rw) (j:Nat),rows[i]?=some r->j∈r.outs i->j<rows.length) (q:∀ a,a<rows.length->found[a]?=some (found.getD a [])) :
  z33 [pgD cs ss rows,dF found]=some (.leaf (cdD (found.getD 0 []) (iG (((cs++ss).filter fun h=>!h.b).map (·.x)) rows found))):=by
 have en:toD (aF [none] (fIt (toD (d2 ko (toD (d2 aj (vB 0) (kD (.int 0)))) (toD (d2 aj (vB 0) (kD (.int 1))))))) (ai 0) y38 q40) [some (.leaf (pgD cs ss rows)),some (.leaf (dF found)),some (.leaf (dR rows)),none,none,none,none,none]=some (dS (((cs++ss).filter fun h=>!h.b).map (·.x))):=by
  walk_at "k";rw [rL hdD cs ss O];walk_at "k"
  rw [bn (h:=fun h:Hd=>Dt.str h.x) (p:=fun h=>!h.b) fun h _=>⟨_,rfl,by
   unfold y38 hdD;walk_at "k"
   try rfl,fun _=>by unfold q40 hdD;walk_at "k"⟩]
  walk_at "k";rw [bT (by rw [qa2];exact qb8 (qd4 _ _) (by rw [qb3];lia))];unfold dS;rw [qc9];rfl
 generalize ((cs++ss).filter fun h=>!h.b).map (·.x)=N at en ⊢;obtain ⟨y5,U,y7,e⟩:=wN (some (.leaf (pgD cs ss rows))) (N:=N) hn q (qc2 rows.length) [] none none none (fun j W=>qd9.mp W) (by simp;lia);unfold z33;rw [gG];show jx (ap _ _ [some (.leaf (pgD cs ss rows)),some (.leaf (dF found)),none,none,none,none,none,none])=_;rw [aX,show ar 2 (toT (toD (d2 aj (vB 0) (kD (.int 2))))) [some (.leaf (pgD cs ss rows)),some (.leaf (dF found)),none,none,none,none,none,none]=some (.nx [some (.leaf (pgD cs ss rows)),some (.leaf (dF found)),some (.leaf (dR rows)),none,none,none,none,none]) from rfl,aD,aX]
 have s3:ar 3 (toT (toD (aF [none] (fIt (toD (d2 ko (toD (d2 aj (vB 0) (kD (.int 0)))) (toD (d2 aj (vB 0) (kD (.int 1))))))) (ai 0) y38 q40))) [some (.leaf (pgD cs ss rows)),some (.leaf (dF found)),some (.leaf (dR rows)),none,none,none,none,none]=some (.nx [some (.leaf (pgD cs ss rows)),some (.leaf (dF found)),some (.leaf (dR rows)),some (.leaf (dS N)),none,none,none,none]):=by unfold ar toT;rw [en];rfl
 rw [s3,aD,aX,show ar 4 (bZ ae) [some (.leaf (pgD cs ss rows)),some (.leaf (dF found)),some (.leaf (dR rows)),some (.leaf (dS N)),none,none,none,none]=some (.nx [some (.leaf (pgD cs ss rows)),some (.leaf (dF found)),some (.leaf (dR rows)),some (.leaf (dS N)),some (.lst []),none,none,none]) from rfl,aD,aX]
 have Y:cY (ca dQ (ab (toD (ag bN (ab (vB 2) ae))) ae)) (ai 5) q32 [some (.leaf (pgD cs ss rows)),some (.leaf (dF found)),some (.leaf (dR rows)),some (.leaf (dS N)),some (.lst []),none,none,none]=some (.nx [some (.leaf (pgD cs ss rows)),some (.leaf (dF found)),some (.leaf (dR rows)),some (.leaf (dS N)),some (.lst ((iG N rows found).map kpD)),y5,U,y7]):=by
  unfold cY
  have:ca dQ (ab (toD (ag bN (ab (vB 2) ae))) ae) [some (.leaf (pgD cs ss rows)),some (.leaf (dF found)),some (.leaf (dR rows)),some (.leaf (dS N)),some (.lst []),none,none,none]=some ((qc2 rows.length).map dI):=by unfold dR;walk_at "k";rw [qa2,jc _ (by lia)]
  rw [this,qa1];refine e.trans ?_;unfold dst;rw [qw1,<- Cm L];rfl
 rw [Y,aD];have h2:=i9 (q 0 Z)
 have l3:((iG N rows found).map kpD).length<=1000000:=by have:=mV (N:=N) L;unfold iG;simp;lia
 walk_at "k";rw [show aj (dF found) (.int 0)=_ from h2];rfl
theorem f6 {α:Type} {f:α->Dt} (h:∀ a b,cJ (f a) (f b)=true):∀ l m:List α,cmpbs (l.map f) (m.map f)=true
 | [],_=>by simp [cmpbs]
 | _::_,[]=>by simp [cmpbs]
 | a::l,b::m=>by rw [qa5,qa5];unfold cmpbs;rw [h a b,f6 h l m];rfl
theorem iJ {α:Type} {f:α->Dt} (h:∀ a,em (f a)<=n):∀ l:List α,deeps (l.map f)<=n
 | []=>qh8 _
 | a::l=>by have h1:=h a;have h2:=iJ h l;rw [qa5];unfold deeps;lia
theorem rW (x y:Str):cJ (.str x) (.str y)=true:=rfl
theorem oY (x:Str):em (.str x)<=0:=by simp [em]
theorem Cp (p q:Nat×List Str):cJ (kpD p) (kpD q)=true:=by unfold kpD;simp only [cJ,cmpbs,f6 rW,qm8];rfl
theorem yW (p:Nat×List Str):em (kpD p)<=5:=by have:=iJ oY p.2;simp only [kpD,em,deeps,dI];lia
theorem jL (bs:List Str) (L q:List (Nat×List Str)):gEq neg (cdD bs L) (cdD bs q)=some (.leaf (.bl (if neg then !peqs (L.map kpD) (q.map kpD) else peqs (L.map kpD) (q.map kpD)))):=by
 unfold cdD;have h1:=iJ oY bs;have h2:=iJ yW L;refine v0 ((DJ ?_).trans ?_)
 . rw [qa9];refine ⟨?_,decide_eq_true ?_⟩
   . simp only [cmpbs,cJ,f6 rW,f6 Cp,qu4]
   . simp only [deeps,em];lia
 . simp only [peqs,peq,peqs_self,qj6,qm8]
theorem oZ:∀ {l m:List Dt},peqs l m=true->l.length=m.length
 | [],[],_=>rfl
 | [],_::_,h=>by simp [peqs] at h
 | _::_,[],h=>by simp [peqs] at h
 | _::l,_::m,h=>by unfold peqs at h;rw [qc0,qc0,oZ (qp7.mp h).2]
def les (j:Nat) (ks:List (Nat×List Str)):List (Nat×List Str):=ks.filter fun k=>!decide ((k.1:Int)=(j:Int))
theorem wO (C:De->Option Bool) (q:C=tB2 (gEq true) (toD (d2 aj (vB 0) (kD (.int 0)))) (vB 1)) (j:Nat) (ks:List (Nat×List Str)):bK (ai 0) C (vL 0) [none,some (.leaf (dI j))] (ks.map kpD)=some ((les j ks).map kpD):=bn fun k _=>⟨[some (.leaf (kpD k)),some (.leaf (dI j))],rfl,by subst q;rfl,fun _=>rfl⟩
theorem yX (j:Nat) (ks:List (Nat×List Str)):(les j ks).length<=ks.length:=qd4 _ _
theorem wP (j:Nat) (ks:List (Nat×List Str)):peqs ((les j ks).map kpD) (ks.map kpD)=!decide (j∈ks.map (·.1)):=by
 by_cases h:j∈ks.map (·.1)
 . rw [decide_eq_true h];cases e:peqs ((les j ks).map kpD) (ks.map kpD) with
   | false=>rfl
   | true =>have:=oZ e;rw [qa2,qa2] at this;obtain ⟨k,hk,rfl⟩:=qc6.mp h;have:(les k.1 ks).length<ks.length:=List.length_filter_lt_length_iff_exists.mpr ⟨k,hk,by simp⟩;lia
 . rw [decide_eq_false h,show les j ks=ks from List.filter_eq_self.mpr fun k hk=>by simp only [qh9,decide_eq_false_iff_not];intro z;exact h (qc6.mpr ⟨k,hk,by lia⟩),peqs_self]
   rfl
theorem rX (x:Dt) (j:Nat) (ks:List (Nat×List Str)) (hl:ks.length<=1000) (C:De->Option Bool) (O:C=tB2 (gEq true) (toD (d2 aj (vB 0) (kD (.int 0)))) (vB 1)) (h1:δ[i]?=some (some (.leaf (cdD bg ks)))) (h2:δ[a]?=some (some (.leaf (dI j)))):aK (ab (toD (d2 aj (vB i) (kD (.int 0)))) (ab (toD (ag bD (ab (toD (aF [none,some a] (fIt (toD (d2 aj (vB i) (kD (.int 1))))) (ai 0) C (vL 0))) ae))) ae)) δ=some (.leaf (cdD bg (les j ks))):=by
 have q:vB i δ=some (cdD bg ks):=by unfold vB;rw [h1];rfl
 have U:toD (d2 aj (vB i) (kD (.int 0))) δ=some (.tup (bg.map .str)):=be (t:=.leaf _) ((ej q (y:=.int 0) rfl).trans rfl);have W:toD (d2 aj (vB i) (kD (.int 1))) δ=some (.tup (ks.map kpD)):=be (t:=.leaf _) ((ej q (y:=.int 1) rfl).trans rfl)
 have Z:fIt (toD (d2 aj (vB i) (kD (.int 1)))) δ=some (ks.map kpD):=by unfold fIt;rw [W];rfl
 have L:=be (iI (src:=[none,some a]) (bb:=ai 0) (ft:=C) (fe:=vL 0) Z (ys:=(les j ks).map kpD) (by
  have:dC [none,some a] δ=[none,some (.leaf (dI j))]:=by simp [dC,h2]
  rw [this];exact wO C O j ks) (by
  have:=yX j ks;rw [qa2];lia))
 have Y:=be (t:=.leaf (.tup ((les j ks).map kpD))) ((fM (F:=bD) L).trans rfl);exact rV U Y
theorem qj (j:Nat) (bg:List Str) (ks:List (Nat×List Str)) (q:ks.length<=1000):y37 [cdD bg ks,dI j]=some (.leaf (cdD bg (les j ks))):=by unfold y37;rw [gG];show jx (br _ [some (.leaf (cdD bg ks)),some (.leaf (dI j))])=_;unfold br;rw [rX .non j ks q z69 rfl (i:=0) (a:=1) (bg:=bg) rfl rfl];rfl
def dlw (U q O:Option T) (bg:List Str) (ks:List (Nat×List Str)) (L x6:Option T):De:=[U,q,O,some (.leaf (cdD bg ks)),some (.leaf (.lst ((ks.map (·.1)).map dI))),L,x6]
theorem wQ (L O q x6:Option T) (j:Nat) (bg:List Str) (ks:List (Nat×List Str)) (U:ks.length<=1000) :
  y56 (dlw L O q bg ks (some (.leaf (dI j))) x6)=some (.nx (dlw L O q bg ks (some (.leaf (dI j))) (some (.leaf (cdD bg (les j ks)))))):=by
 have s1:ar 6 (toT (toD (ag y37 (ab (vL 3) (ab (vL 5) ae))))) (dlw L O q bg ks (some (.leaf (dI j))) x6)=some (.nx (dlw L O q bg ks (some (.leaf (dI j))) (some (.leaf (cdD bg (les j ks)))))):=by unfold ar toT;rw [be ((fN (x:=cdD bg ks) (y:=dI j) rfl rfl).trans (qj j bg ks U))];rfl
 unfold y56;rw [aX,s1,aD,aX,jo];generalize hδ:(dlw L O q bg ks (some (.leaf (dI j))) (some (.leaf (cdD bg (les j ks)))))=δ;have Y:vB 6 δ=some (cdD bg (les j ks)):=by rw [<- hδ];rfl
 have b3:vB 3 δ=some (cdD bg ks):=by rw [<- hδ];rfl
 have b5:vB 5 δ=some (dI j):=by rw [<- hδ];rfl
 have b4:vB 4 δ=some (.lst ((ks.map (·.1)).map dI)):=by rw [<- hδ];rfl
 have e1:=be (rX .non j ks U y86 rfl (i:=3) (a:=5) (bg:=bg) (δ:=δ) (by rw [<- hδ];rfl) (by rw [<- hδ];rfl));have Z:=ej (g:=gEq true) Y e1;rw [show T.d (.leaf (cdD bg (les j ks)))=cdD bg (les j ks) from rfl,jL,peqs_self] at Z;have t2:=be ((ej (g:=gEq false) Y b3).trans (jL bg _ _));have t3:=be ((ej (g:=aY true) b5 b4).trans fL);have W:=ej (g:=gEq true) t2 t3;rw [wP] at W;unfold tB2;rw [Z];show oK (gk (some false) _ _ δ) _=_;rw [eQ,bV,aD,jo,W]
 have:gEq true (T.d (.leaf (.bl (if false=true then !!decide (j∈ks.map (·.1)) else !decide (j∈ks.map (·.1)))))) (T.d (.leaf (.bl (if true=true then !decide (j∈ks.map (·.1)) else decide (j∈ks.map (·.1))))))=some (.leaf (.bl false)):=by cases decide (j∈ks.map (·.1))<;>rfl
 rw [this];rfl
theorem wR (O q L:Option T) (bg:List Str) (ks:List (Nat×List Str)) (Z:ks.length<=1000):∀ (js:List Nat) (U x6:Option T),∃ Y W,cw (ai 5) y56 (js.map dI) (dlw O q L bg ks U x6)=some (.nx (dlw O q L bg ks Y W))
 | [],U,x6=>⟨U,x6,rfl⟩
 | j::js,U,x6=>by obtain ⟨Y,W,e⟩:=wR O q L bg ks Z js (some (.leaf (dI j))) (some (.leaf (cdD bg (les j ks))));refine ⟨Y,W,?_⟩;rw [qa5,aU (δ1:=(dlw O q L bg ks (some (.leaf (dI j))) x6)) rfl (wQ O q L x6 j bg ks Z)];exact e
theorem cg {α β:Type} (f:α->β) (l:List α) (k:Nat) (h:k<l.length) (d:α):atI (l.map f) (k:Int)=some (f (l.getD k d)):=by unfold atI ixN;rw [if_pos (by lia),qa2,if_pos (by lia)];simp [h]
theorem jM (ns:List Int) (k:Nat):z3 [.lst (ns.map .int),.int k]=some (.leaf (.int (ns.getD k 0))):=by
 unfold z3;walk_at "d";by_cases h:k<ns.length
 . rw [dA (by simpa using h)];walk_at "d";rw [cg Dt.int ns k h 0];rfl
 . rw [dg (by simpa using h)];walk_at "d";simp [List.getD,show ns.length<=k by lia]
theorem mZ {i j:Int} (q:0<j) (h1:j<10000000000000):lN (.int i) (.int j)=some (.leaf (.int (i/j))):=if_pos ⟨q,by lia⟩
theorem jq (q:Option T):∀ (zs:List Nat) (n:Int) (done:List Nat) (L:Option T),(∀ z∈zs,0<z/\z<10000000000000)->done.length+zs.length<=100->∃ (n':Int) (ds:List Nat) (y:Option T),cw (ai 3) q41 (zs.map dI) [some (.leaf (.int n)),q,some (.lst (done.map dI)),L]=some (.nx [some (.leaf (.int n')),q,some (.lst ((done++ds).map dI)),y])/\ds.length=zs.length/\∀ (i d z:Nat),ds[i]?=some d->zs[i]?=some z->d<z
 | [],n,done,L,_,_=>⟨n,[],L,by simp [cw],rfl,fun i d z h=>by simp at h⟩
 | z::zs,n,done,L,U,O=>by
  obtain ⟨h0,h1⟩:=U z (.head _);have m0:=Int.emod_nonneg n (show (z:Int)≠0 by lia);have m1:=Int.emod_lt_of_pos n (show (0:Int)<z by lia);obtain ⟨d,hd⟩:∃ d:Nat,n%(z:Int)=(d:Int):=⟨(n%(z:Int)).toNat,by lia⟩;obtain ⟨n',ds,y,e,Z,Y⟩:=jq q zs (n/z) (done++[d]) (some (.leaf (dI z))) (fun w hw=>U w (.tail _ hw)) (by simp at O ⊢;lia);refine ⟨n',d::ds,y,?_,by simp [Z],fun i d' W h1 h2=>?_⟩
  . rw [qa5,aU (δ1:=[some (.leaf (.int n)),q,some (.lst (done.map dI)),some (.leaf (dI z))]) (δ2:=[some (.leaf (.int (n/z))),q,some (.lst ((done++[d]).map dI)),some (.leaf (dI z))]) rfl ?_]
    . rw [e];simp
    . unfold q41 dI;walk_at "d";rw [iD rfl];walk_at "d";rw [gF (by lia),hd];walk_at "d";rw [dh (by rw [qa2];simp at O;lia)];walk_at "d";rw [mZ (by lia) (by lia)];walk_at "d";simp [dI]
  . cases i with
    | zero =>simp at h1 h2;subst h1 h2;lia
    | succ i=>exact Y i d' W (by simpa using h1) (by simpa using h2)
theorem jd (n:Int) (zs:List Nat) (O:∀ z∈zs,0<z/\z<10000000000000) (U:zs.length<=50):∃ ds:List Nat,z11 [.int n,.lst (zs.map dI)]=some (.lst (ds.map dI))/\ds.length=zs.length/\∀ (i d z:Nat),ds[i]?=some d->zs[i]?=some z->d<z:=by obtain ⟨n',ds,y,e,L,q⟩:=jq (some (.leaf (.lst (zs.map dI)))) zs n [] none O (by simp;lia);refine ⟨ds,?_,L,q⟩;unfold z11;walk_at "d";rw [show ([]:List Dt)=([]:List Nat).map dI from rfl,e];walk_at "d"
theorem l8 {α:Type} (a:Array α):∀ (n:Nat) (acc:Array α),((qe6 n a).foldl (· ++ ·) acc).size=acc.size+n*a.size
 | 0,acc=>by simp
 | n+1,acc=>by rw [List.replicate_succ,qi6,l8 a n,Array.size_append,Nat.succ_mul];lia
theorem rY (c:Nat) (n:Nat):(gz ⟨#[c]⟩ n).length<=n+1:=by
 unfold gz;split
 . simp [Str.empty,ze2]
 . split
   . simp [ze2]
   . show ((qe6 (n:Int).toNat #[c]).foldl (· ++ ·) #[]).size<=n+1;rw [l8];simp
theorem rZ (c n:Nat) (h:n<=10):iz (.str ⟨#[c]⟩) (.int n)=some (.leaf (.str (gz ⟨#[c]⟩ n))):=if_pos ⟨by lia,by lia,by simp [ze2]⟩
theorem yY (c d m n:Nat) (q:m<=10) (L:n<=10):∃ w:Str,((qz7 T.d ((qz7 T.d (iz (.str ⟨#[c]⟩) (.int m))).bind fun x=>aT x (.str ⟨#[d]⟩))).bind fun x=>(qz7 T.d (iz (.str ⟨#[c]⟩) (.int n))).bind fun y=>aT x y)=some (.leaf (.str w)):=by
 have U:=rY c m;have O:=rY c n;have W:qb0=16777216:=za0;refine ⟨gz ⟨#[c]⟩ m++⟨#[d]⟩++gz ⟨#[c]⟩ n,?_⟩;rw [rZ c m q,rZ c n L];show ((((aT (.str (gz ⟨#[c]⟩ m)) (.str ⟨#[d]⟩)).map T.d).bind fun y=>aT y (.str (gz ⟨#[c]⟩ n))))=_;rw [vW (by simp [ze2] at *;lia)];show aT (.str (gz ⟨#[c]⟩ m++⟨#[d]⟩)) (.str (gz ⟨#[c]⟩ n))=_
 have e:(gz ⟨#[c]⟩ m++(⟨#[d]⟩:Str)).length=(gz ⟨#[c]⟩ m).length+1:=by show ((gz ⟨#[c]⟩ m).cps++#[d]).size=_;rw [Array.size_append];rfl
 rw [vW (by rw [e];lia)]
theorem t7 (U W L:Option T) (e0 e1 e2 O q sz:Nat) (c k:Nat) (acc:List Str) (Z:Option T) (h2:e2<26) (ha:q<sz) (hz:sz<=6) (hl:acc.length<=1000) :
  ∃ (w:Str) (y9:Option T),y33 [U,W,L,some (.leaf (.lst ([e0,e1,e2,O].map dI))),some (.leaf (dI sz)),some (.leaf (dI q)),some (.leaf (.str ⟨#[c]⟩)),some (.lst (acc.map .str)),some (.leaf (dI k)),Z]=some (.nx [U,W,L,some (.leaf (.lst ([e0,e1,e2,O].map dI))),some (.leaf (dI sz)),some (.leaf (dI q)),some (.leaf (.str ⟨#[c]⟩)),some (.lst ((acc++[w]).map .str)),some (.leaf (dI k)),y9]):=by
 obtain ⟨ch,Y,_⟩:=mM (x:="abcdefghijklmnopqrstuvwxyz") (i:=((e2:Int)+(k:Int))%26) (by decide) (by lia) (by
  have:(("abcdefghijklmnopqrstuvwxyz":Str).length:Int)=26:=by decide
  lia)
 obtain ⟨w,hw⟩:=yY c ch q (sz-1-q) (by lia) (by lia);refine ⟨w,some (.leaf (.str ⟨#[ch]⟩)),?_⟩;unfold y33
 have s1:ar 9 (toT (toD (d2 aj (kD (.str "abcdefghijklmnopqrstuvwxyz")) (toD (d2 c7 (toD (d2 aT (toD (d2 aj (vB 3) (kD (.int 2)))) (vB 8))) (kD (.int 26))))))) [U,W,L,some (.leaf (.lst ([e0,e1,e2,O].map dI))),some (.leaf (dI sz)),some (.leaf (dI q)),some (.leaf (.str ⟨#[c]⟩)),some (.lst (acc.map .str)),some (.leaf (dI k)),Z]=some (.nx [U,W,L,some (.leaf (.lst ([e0,e1,e2,O].map dI))),some (.leaf (dI sz)),some (.leaf (dI q)),some (.leaf (.str ⟨#[c]⟩)),some (.lst (acc.map .str)),some (.leaf (dI k)),some (.leaf (.str ⟨#[ch]⟩))]):=by unfold dI;walk_at "k";rw [show aj (Dt.str "abcdefghijklmnopqrstuvwxyz") (Dt.int (((e2:Int)+(k:Int))%26))=_ from Y];rfl
 rw [aX,s1,aD,iD rfl]
 have e:(toD (d2 aT (toD (d2 aT (toD (d2 iz (vB 6) (vB 5))) (vB 9))) (toD (d2 iz (vB 6) (toD (d2 eU (toD (d2 eU (vB 4) (kD (.int 1)))) (vB 5))))))) [U,W,L,some (.leaf (.lst ([e0,e1,e2,O].map dI))),some (.leaf (dI sz)),some (.leaf (dI q)),some (.leaf (.str ⟨#[c]⟩)),some (.lst (acc.map .str)),some (.leaf (dI k)),some (.leaf (.str ⟨#[ch]⟩))]=some (.str w):=by
  have h3:((sz:Nat):Int)-1-((q:Nat):Int)=((sz-1-q:Nat):Int):=by lia
  rw [<- h3] at hw;unfold dI;walk_at "k";rw [hw];rfl
 rw [e,qa1,dh (by rw [qa2];lia)];simp
theorem o4 (W Y O:Option T) (e0 e1 e2 U q sz c:Nat) (h2:e2<26) (ha:q<sz) (hz:sz<=6):∀ (ks:List Nat) (acc:List Str) (Z L:Option T),acc.length+ks.length<=1000->∃ (l:List Str) (y8 y9:Option T),l.length=ks.length/\cw (ai 8) y33 (ks.map dI) [W,Y,O,some (.leaf (.lst ([e0,e1,e2,U].map dI))),some (.leaf (dI sz)),some (.leaf (dI q)),some (.leaf (.str ⟨#[c]⟩)),some (.lst (acc.map .str)),Z,L]=some (.nx [W,Y,O,some (.leaf (.lst ([e0,e1,e2,U].map dI))),some (.leaf (dI sz)),some (.leaf (dI q)),some (.leaf (.str ⟨#[c]⟩)),some (.lst ((acc++l).map .str)),y8,y9])
 | [],acc,Z,L,_=>⟨[],Z,L,rfl,by rw [qe8];rfl⟩
 | k::ks,acc,Z,L,h=>by rw [qc0] at h;obtain ⟨w,z9,e⟩:=t7 W Y O e0 e1 e2 U q sz c k acc L h2 ha hz (by lia);obtain ⟨l,y8,y9,hl,e2⟩:=o4 W Y O e0 e1 e2 U q sz c h2 ha hz ks (acc++[w]) (some (.leaf (dI k))) z9 (by simp;lia);refine ⟨w::l,y8,y9,by simp [hl],?_⟩;rw [qa5,aU (δ1:=[W,Y,O,some (.leaf (.lst ([e0,e1,_,U].map dI))),some (.leaf (dI sz)),some (.leaf (dI q)),some (.leaf (.str ⟨#[c]⟩)),some (.lst (acc.map .str)),some (.leaf (dI k)),L]) rfl e,e2];simp
theorem four (h:l.length=4):∃ a b c d,l=[a,b,c,d]:=by
 match l,h with
 | [a,b,c,d],_=>exact ⟨a,b,c,d,rfl⟩
theorem o5 (c:Int) (m:Nat) (hm:m<=100):∃ l:List Str,l.length=m/\q15 [.int c,.int m]=some (.lst (l.map .str)):=by
 obtain ⟨ds,e1,hl,O⟩:=jd (c*48271%1000000007) [6,6,26,5] (by intro z hz;simp at hz;lia) (by decide);obtain ⟨q,L,Z,Y,rfl⟩:=four hl;have h0:=O 0 q 6 rfl rfl;have h1:=O 1 L 6 rfl rfl;have h2:=O 2 Z 26 rfl rfl;have h3:=O 3 Y 5 rfl rfl
 obtain ⟨cc,W,_⟩:=mM (x:="qxzjw") (i:=(Y:Int)) (by decide) (by lia) (by
  have:(("qxzjw":Str).length:Int)=5:=by decide
  lia)
 obtain ⟨l,y8,y9,U,e2⟩:=o4 (some (.leaf (.int c))) (some (.leaf (.int m))) (some (.leaf (.int (c*48271%1000000007)))) q L Z Y (L%(1+q)) (1+q) cc h2 (qz5 _ (by lia)) (by lia) (qc2 m) [] none none (by simp;lia);refine ⟨l,by simpa using U,?_⟩;unfold q15;walk_at "d";rw [show Dt.lst [Dt.int 6,Dt.int 6,Dt.int 26,Dt.int 5]=.lst ([6,6,26,5].map dI) from rfl,e1];simp only [qa5,qh4,dI];walk_at "d";rw [gF (by lia)];walk_at "d";rw [W];walk_at "d";rw [jc m (by lia),qa1];have e3:(L:Int)%(1+(q:Int))=((L%(1+q):Nat):Int):=by simp
 have e4:(1:Int)+(q:Int)=((1+q:Nat):Int):=by lia
 rw [e3,e4];simp only [qa5,qh4,dI] at e2;rw [e2];rfl
theorem wS {B:List Str} {k:Nat} (h:k<B.length):aj (.lst (B.map .str)) (.int k)=some (.leaf (.str (B.getD k ""))):=by rw [oI,cg Dt.str B k h ""];rfl
theorem t8 {B:List Str} {k:Nat} (h:k<B.length):B.getD k ""∈B:=by simp [qc7,h]
theorem m6 (d:Nat) (c:Int) (B:List Str):∃ a:Atm,q18 [.int d,.int c,.lst (B.map .str)]=some (.leaf a.d)/\∀ x,a=.nm x->x∈B:=by
 unfold q18;walk_at "d";rw [qa2];by_cases h:d<B.length
 . rw [dA (by simpa using h)];walk_at "d";rw [cg Dt.str B d h ""];exact ⟨.nm (B.getD d ""),rfl,fun x e=>by cases e;exact t8 h⟩
 . rw [dg (by simpa using h)];walk_at "d";by_cases h2:c%3=0
   . rw [dA (by simpa using h2)];walk_at "d";rw [mZ (by decide) (by decide)];walk_at "d";exact ⟨.vl _,rfl,fun x e=>by cases e⟩
   . rw [dg (by simpa using h2)];walk_at "d";exact ⟨.vl _,rfl,fun x e=>by cases e⟩
def Gd (B:List Str) (q:Nat) (r:Rw):Prop:=(∀ b∈r.reads,b∈B)/\∀ i j,j∈r.outs i->j<q∨j=i+1
theorem o6 {B:List Str} (h:∀ x,Atm.nm x∈r.atoms->x∈B):∀ b∈r.reads,b∈B:=fun b L=>by
 have L:=onces_mem.mp L
 have q:∀ as:List Atm,b∈nms as->Atm.nm b∈as:=fun as=>by
  induction as with
  | nil=>intro h;cases h
  | cons a as O =>
   cases a with
   | nm x =>
    intro h;rcases qb2.mp h with rfl | h
    . exact .head _
    . exact .tail _ (O h)
   | vl i=>exact fun h=>.tail _ (O h)
 exact h b (q _ L)
theorem Em (h:l.length=7):∃ a b c d e f g,l=[a,b,c,d,e,f,g]:=by
 match l,h with
 | [a,b,c,d,e,f,g],_=>exact ⟨a,b,c,d,e,f,g,rfl⟩
theorem yZ (cell:Int) (many:Nat) (C S B:List Str) (hm:0<many) (hm2:many<=1000) (hC:0<C.length) (hC2:C.length<=100) (hS:S.length<=100) (hB:0<B.length) (hB2:B.length<=100) :
  ∃ r:Rw,y28 [.int cell,.int many,.lst (C.map .str),.lst (S.map .str),.lst (B.map .str)]=some (.leaf r.d)/\Gd B many r:=by
 obtain ⟨ds,e1,hl,hd⟩:=jd (cell*48271%1000000007) [16,B.length,B.length+2,B.length+2,9,12,many] (by intro z hz;simp at hz;lia) (by simp);obtain ⟨k,b,p,q,sg,cc,g,rfl⟩:=Em hl;have h0:=hd 0 k _ rfl rfl;have h1:=hd 1 b _ rfl rfl;have h4:=hd 4 sg _ rfl rfl;have h6:=hd 6 g _ rfl rfl;clear hd hl;obtain ⟨a1,ea1,ha1⟩:=m6 p cell B;obtain ⟨a2,ea2,ha2⟩:=m6 q (cell/5) B;have hx:=wS h1;have hcm:cc%C.length<C.length:=qz5 _ hC;have hc:=wS hcm
 obtain ⟨sn,hsn,_⟩:=mM (x:="+-*<=&|^+") (i:=(sg:Int)) (by decide) (by lia) (by
  have:(("+-*<=&|^+":Str).length:Int)=9:=by decide
  lia)
 simp only [qa5,qh4,dI] at e1;unfold y28;walk_at "d";rw [qa2,show z11 [Dt.int (cell*48271%1000000007),Dt.lst [Dt.int 16,Dt.int B.length,Dt.int ((B.length:Int)+2),Dt.int ((B.length:Int)+2),Dt.int 9,Dt.int 12,Dt.int many]]=_ from e1];walk_at "d";rw [ea1];walk_at "d";rw [mZ (by decide) (by decide)];walk_at "d";rw [ea2];walk_at "d";rw [cg Dt.str B b h1 ""];walk_at "d";rw [qa2,gF (by lia)];walk_at "d";rw [show ((cc:Nat):Int)%((C.length:Nat):Int)=((cc%C.length:Nat):Int) by simp,cg Dt.str C _ hcm ""];walk_at "d";generalize C.getD (cc%C.length) ""=cn;generalize B.getD b ""=xn;have hk:(k:Int)=0∨(k:Int)=1∨(k:Int)=2∨(k:Int)=3∨(k:Int)=4∨(k:Int)=5∨(k:Int)=6∨(k:Int)=7∨(k:Int)=8∨(k:Int)=9∨(k:Int)=10∨(k:Int)=11∨(k:Int)=12∨(k:Int)=13∨(k:Int)=14∨(k:Int)=15:=by lia
 clear hx hc h0;have g0:∀ (r:Rw),(∀ x,Atm.nm x∈r.atoms->x∈B)->(∀ i j,j∈r.outs i->j<many∨j=i+1)->Gd B many r:=fun r x y=>⟨o6 x,y⟩
 have q0:∀ x,Atm.nm x∈([]:List Atm)->x∈B:=fun x h=>by cases h
 have q1:∀ x,Atm.nm x∈[a1]->x∈B:=fun x h=>ha1 x (qb7.mp h).symm
 have q2:∀ x,Atm.nm x∈[a1,a2]->x∈B:=fun x h=>by
  rcases qb2.mp h with h | h
  . exact ha1 x h.symm
  . exact ha2 x (qb7.mp h).symm
 have o1:∀ i j:Nat,j∈[i+1]->j<many∨j=i+1:=fun i j h=>.inr (qb7.mp h)
 have o2:∀ i j:Nat,j∈[g,i+1]->j<many∨j=i+1:=fun i j h=>by
  rcases qb2.mp h with rfl | h
  . exact .inl h6
  . exact .inr (qb7.mp h)
 have o3:∀ i j:Nat,j∈[g]->j<many∨j=i+1:=fun i j h=>.inl (qb7.mp h▸h6)
 rcases hk with hk | hk | hk | hk | hk | hk | hk | hk | hk | hk | hk | hk | hk | hk | hk | hk<;>rw [hk]<;>clear hk
 . walk_at "k";exact ⟨.copy xn a1,rfl,g0 _ q1 o1⟩
 . walk_at "k";rw [hsn];exact ⟨.op xn ⟨#[sn]⟩ a1 a2,rfl,g0 _ q2 o1⟩
 . walk_at "k";rw [hsn];exact ⟨.op xn ⟨#[sn]⟩ a1 a2,rfl,g0 _ q2 o1⟩
 . walk_at "k";exact ⟨.load xn cn,rfl,g0 _ q0 o1⟩
 . walk_at "k";exact ⟨.load xn cn,rfl,g0 _ q0 o1⟩
 . walk_at "k";exact ⟨.store cn a1,rfl,g0 _ q1 o1⟩
 . walk_at "k";exact ⟨.store cn a1,rfl,g0 _ q1 o1⟩
 . walk_at "k";rw [qa2];by_cases z:0<S.length
   . rw [dA (by simpa using z)];walk_at "k";rw [qa2,gF (by lia)];walk_at "k";rw [show ((cc:Nat):Int)%((S.length:Nat):Int)=((cc%S.length:Nat):Int) by simp,cg Dt.str S _ (qz5 _ z) ""];walk_at "k";exact ⟨.take xn (S.getD (cc%S.length) "") a1,rfl,g0 _ q1 o1⟩
   . rw [dg (by simpa using z)];walk_at "k";exact ⟨.load xn cn,rfl,g0 _ q0 o1⟩
 . walk_at "k";rw [qa2];by_cases z:0<S.length
   . rw [dA (by simpa using z)];walk_at "k";rw [qa2,gF (by lia)];walk_at "k";rw [show ((cc:Nat):Int)%((S.length:Nat):Int)=((cc%S.length:Nat):Int) by simp,cg Dt.str S _ (qz5 _ z) ""];walk_at "k";exact ⟨.lay (S.getD (cc%S.length) "") a1 a2,rfl,g0 _ q2 o1⟩
   . rw [dg (by simpa using z)];walk_at "k";exact ⟨.store cn a1,rfl,g0 _ q1 o1⟩
 . walk_at "k";exact ⟨.hear xn,rfl,g0 _ q0 o1⟩
 . walk_at "k";exact ⟨.say a1,rfl,g0 _ q1 o1⟩
 . walk_at "k";exact ⟨.iff a1 g,rfl,g0 _ q1 o2⟩
 . walk_at "k";exact ⟨.iff a1 g,rfl,g0 _ q1 o2⟩
 . walk_at "k";exact ⟨.go g,rfl,g0 _ q0 o3⟩
 . walk_at "k";exact ⟨.fin a1,rfl,g0 _ q1 fun i j h=>by cases h⟩
 . walk_at "k";rw [hsn];exact ⟨.op xn ⟨#[sn]⟩ a1 a2,rfl,g0 _ q2 o1⟩
theorem qk {D:List Nat} (h:j<D.length):atI (D.map dI) (j:Int)=some (dI (D.getD j 0)):=cg dI D j h 0
theorem t9 (Z x1 W Y x6 x7 O q L U:Option T) (D:List Nat) (N:List Str) (st:Int) (acc:List Hd) (k:Nat) (hD:D.length=12) (hN:N.length=12) (hk:k<8) (hl:acc.length<=1000) :
  ∃ h:Hd,q22 [Z,x1,W,Y,some (.leaf (.lst (D.map dI))),some (.leaf (.lst (N.map .str))),x6,x7,some (.leaf (.int st)),some (.lst (acc.map hdD)),some (.leaf (dI k)),O,q,L,U]=some (.nx [Z,x1,W,Y,some (.leaf (.lst (D.map dI))),some (.leaf (.lst (N.map .str))),x6,x7,some (.leaf (.int st)),some (.lst ((acc++[h]).map hdD)),some (.leaf (dI k)),O,q,L,U]):=by
 have i1:k<N.length:=by lia
 have i2:3+k%6<D.length:=by lia
 refine ⟨⟨N.getD k "",(st+k)*982451653%wide,decide (((D.getD (3+k%6) 0:Nat):Int)=1)⟩,?_⟩;unfold q22;rw [iD rfl]
 have e:toD (aK (ab (toD (d2 aj (vB 5) (vB 10))) (ab (toD (d2 c7 (toD (d2 j0 (toD (d2 aT (vB 8) (vB 10))) (kD (.int 982451653)))) (toD (d2 pF (kD (.int 2)) (kD (.int 40)))))) (ab (toD (d2 (gEq false) (toD (d2 aj (vB 4) (toD (d2 aT (kD (.int 3)) (toD (d2 c7 (vB 10) (kD (.int 6)))))))) (kD (.int 1)))) ae)))) [Z,x1,W,Y,some (.leaf (.lst (D.map dI))),some (.leaf (.lst (N.map .str))),x6,x7,some (.leaf (.int st)),some (.lst (acc.map hdD)),some (.leaf (dI k)),O,q,L,U]=some (hdD ⟨N.getD k "",(st+k)*982451653%wide,decide (((D.getD (3+k%6) 0:Nat):Int)=1)⟩):=by rw [show dI k=Dt.int (k:Nat) from rfl];walk_at "d";rw [cg Dt.str N k i1 ""];walk_at "d";rw [show (3:Int)+((k:Nat):Int)%6=((3+k%6:Nat):Int) by lia,qk i2];unfold dI;walk_at "d";rfl
 rw [e,qa1,dh (by rw [qa2];lia)];simp
theorem o7 (x0 x1 Z x3 x6 x7 O q L U:Option T) (D:List Nat) (N:List Str) (st:Int) (hD:D.length=12) (hN:N.length=12):∀ (ks:List Nat) (acc:List Hd) (W:Option T),(∀ k∈ks,k<8)->acc.length+ks.length<=1000->∃ (hs:List Hd) (Y:Option T),hs.length=ks.length/\cw (ai 10) q22 (ks.map dI) [x0,x1,Z,x3,some (.leaf (.lst (D.map dI))),some (.leaf (.lst (N.map .str))),x6,x7,some (.leaf (.int st)),some (.lst (acc.map hdD)),W,O,q,L,U]=some (.nx [x0,x1,Z,x3,some (.leaf (.lst (D.map dI))),some (.leaf (.lst (N.map .str))),x6,x7,some (.leaf (.int st)),some (.lst ((acc++hs).map hdD)),Y,O,q,L,U])
 | [],acc,W,_,_=>⟨[],W,rfl,by rw [qe8];rfl⟩
 | k::ks,acc,W,hk,h=>by rw [qc0] at h;obtain ⟨w,e⟩:=t9 x0 x1 Z x3 x6 x7 O q L U D N st acc k hD hN (hk k (.head _)) (by lia);obtain ⟨l,Y,hl,e2⟩:=o7 x0 x1 Z x3 x6 x7 O q L U D N st hD hN ks (acc++[w]) (some (.leaf (dI k))) (fun j hj=>hk j (.tail _ hj)) (by simp;lia);refine ⟨w::l,Y,by simp [hl],?_⟩;rw [qa5,aU (δ1:=[x0,x1,Z,x3,some (.leaf (.lst (D.map dI))),some (.leaf (.lst (N.map .str))),x6,x7,some (.leaf (.int st)),some (.lst (acc.map hdD)),some (.leaf (dI k)),O,q,L,U]) rfl e,e2];simp
theorem ql (Y x1 U W x6 x7 Z q L O:Option T) (D:List Nat) (N:List Str) (st:Int) (acc:List Hd) (k:Nat) (hD:D.length=12) (hN:N.length=12) (hk:k<4) (hl:acc.length<=1000) :
  ∃ h:Hd,y20 [Y,x1,U,W,some (.leaf (.lst (D.map dI))),some (.leaf (.lst (N.map .str))),x6,x7,some (.leaf (.int st)),Z,some (.leaf (dI k)),some (.lst (acc.map hdD)),q,L,O]=some (.nx [Y,x1,U,W,some (.leaf (.lst (D.map dI))),some (.leaf (.lst (N.map .str))),x6,x7,some (.leaf (.int st)),Z,some (.leaf (dI k)),some (.lst ((acc++[h]).map hdD)),q,L,O]):=by
 have i1:8+k<N.length:=by lia
 have i2:9+k%2<D.length:=by lia
 have i3:7-k<D.length:=by lia
 refine ⟨⟨N.getD (8+k) "",1+((D.getD (9+k%2) 0:Nat):Int),decide (((D.getD (7-k) 0:Nat):Int)=1)⟩,?_⟩;unfold y20;rw [iD rfl]
 have e:toD (aK (ab (toD (d2 aj (vB 5) (toD (d2 aT (kD (.int 8)) (vB 10))))) (ab (toD (d2 aT (kD (.int 1)) (toD (d2 aj (vB 4) (toD (d2 aT (kD (.int 9)) (toD (d2 c7 (vB 10) (kD (.int 2)))))))))) (ab (toD (d2 (gEq false) (toD (d2 aj (vB 4) (toD (d2 eU (kD (.int 7)) (vB 10))))) (kD (.int 1)))) ae)))) [Y,x1,U,W,some (.leaf (.lst (D.map dI))),some (.leaf (.lst (N.map .str))),x6,x7,some (.leaf (.int st)),Z,some (.leaf (dI k)),some (.lst (acc.map hdD)),q,L,O]=some (hdD ⟨N.getD (8+k) "",1+((D.getD (9+k%2) 0:Nat):Int),decide (((D.getD (7-k) 0:Nat):Int)=1)⟩):=by rw [show dI k=Dt.int (k:Nat) from rfl];walk_at "d";rw [show (8:Int)+((k:Nat):Int)=((8+k:Nat):Int) by lia,cg Dt.str N (8+k) i1 ""];walk_at "d";rw [show (9:Int)+((k:Nat):Int)%2=((9+k%2:Nat):Int) by lia,qk i2,show (7:Int)-((k:Nat):Int)=((7-k:Nat):Int) by lia,qk i3];unfold dI;walk_at "d";rfl
 rw [e,qa1,dh (by rw [qa2];lia)];simp
theorem kL (x0 x1 Y Z x6 x7 x9 q L O:Option T) (D:List Nat) (N:List Str) (st:Int) (hD:D.length=12) (hN:N.length=12):∀ (ks:List Nat) (acc:List Hd) (U:Option T),(∀ k∈ks,k<4)->acc.length+ks.length<=1000->∃ (hs:List Hd) (W:Option T),hs.length=ks.length/\cw (ai 10) y20 (ks.map dI) [x0,x1,Y,Z,some (.leaf (.lst (D.map dI))),some (.leaf (.lst (N.map .str))),x6,x7,some (.leaf (.int st)),x9,U,some (.lst (acc.map hdD)),q,L,O]=some (.nx [x0,x1,Y,Z,some (.leaf (.lst (D.map dI))),some (.leaf (.lst (N.map .str))),x6,x7,some (.leaf (.int st)),x9,W,some (.lst ((acc++hs).map hdD)),q,L,O])
 | [],acc,U,_,_=>⟨[],U,rfl,by rw [qe8];rfl⟩
 | k::ks,acc,U,hk,h=>by rw [qc0] at h;obtain ⟨w,e⟩:=ql x0 x1 Y Z x6 x7 x9 q L O D N st acc k hD hN (hk k (.head _)) (by lia);obtain ⟨l,W,hl,e2⟩:=kL x0 x1 Y Z x6 x7 x9 q L O D N st hD hN ks (acc++[w]) (some (.leaf (dI k))) (fun j hj=>hk j (.tail _ hj)) (by simp;lia);refine ⟨w::l,W,by simp [hl],?_⟩;rw [qa5,aU (δ1:=[x0,x1,Y,Z,some (.leaf (.lst (D.map dI))),some (.leaf (.lst (N.map .str))),x6,x7,some (.leaf (.int st)),x9,some (.leaf (dI k)),some (.lst (acc.map hdD)),q,L,O]) rfl e,e2];simp
theorem r0 (fe:De->Option Dt) (q:fe=toD (d2 aj (vB 0) (kD (.int 0)))) (cs:List Hd):bK (ai 0) bf fe [none] (cs.map hdD)=some ((cs.map (·.x)).map .str):=by
 have:=bE (f:=hdD) (h:=fun h:Hd=>Dt.str h.x) (bb:=ai 0) (ft:=bf) (fe:=fe) (δ:=[none]) (l:=cs) fun h _=>⟨[some (.leaf (hdD h))],rfl,rfl,by rw [q];rfl⟩
 rw [this,qc9];rfl
theorem wT (Y Z L W x4 x5 x6 O q:Option T) (B:List Str) (cs ss:List Hd) (all:List Int) (acc:List Rw) (c:Int) (hB:0<B.length) (U:B.length<=100) (hc:0<cs.length) (hc2:cs.length<=100) (hs:ss.length<=100) (ha:all.length<=100) (hl:acc.length<=1000) :
  ∃ r:Rw,z21 [Y,Z,L,W,x4,x5,x6,some (.leaf (.lst (B.map .str))),O,some (.lst (cs.map hdD)),q,some (.lst (ss.map hdD)),some (.lst (acc.map Rw.d)),some (.leaf (.lst (all.map .int))),some (.leaf (.int c))]=some (.nx [Y,Z,L,W,x4,x5,x6,some (.leaf (.lst (B.map .str))),O,some (.lst (cs.map hdD)),q,some (.lst (ss.map hdD)),some (.lst ((acc++[r]).map Rw.d)),some (.leaf (.lst (all.map .int))),some (.leaf (.int c))])/\Gd B (all.length+1) r:=by
 obtain ⟨r,er,hr⟩:=yZ c (all.length+1) (cs.map (·.x)) (ss.map (·.x)) B (by lia) (by lia) (by simpa using hc) (by simpa using hc2) (by simpa using hs) hB U;refine ⟨r,?_,hr⟩;have e1:=r0 z35 rfl cs;have e2:=r0 y36 rfl ss;unfold z21;rw [iD rfl]
 have e:toD (ag y28 (ab (vL 14) (ab (toD (d2 aT (toD (ag bN (ab (vB 13) ae))) (kD (.int 1)))) (ab (toD (aF [none] (fIt (vB 9)) (ai 0) bf z35)) (ab (toD (aF [none] (fIt (vB 11)) (ai 0) bf y36)) (ab (vL 7) ae)))))) [Y,Z,L,W,x4,x5,x6,some (.leaf (.lst (B.map .str))),O,some (.lst (cs.map hdD)),q,some (.lst (ss.map hdD)),some (.lst (acc.map Rw.d)),some (.leaf (.lst (all.map .int))),some (.leaf (.int c))]=some r.d:=by walk_at "d";rw [e1,e2,qa1,qa1,bT (by simp;lia),bT (by simp;lia)];walk_at "d";rw [qa2,show y28 [Dt.int c,Dt.int ((all.length:Int)+1),Dt.lst ((cs.map (·.x)).map .str),Dt.lst ((ss.map (·.x)).map .str),Dt.lst (B.map .str)]=_ from er];rfl
 rw [e,qa1,dh (by rw [qa2];lia)];simp
theorem r6 (x0 x1 W Z x4 x5 x6 x8 L:Option T) (B:List Str) (cs ss:List Hd) (all:List Int) (hB:0<B.length) (Y:B.length<=100) (hc:0<cs.length) (hc2:cs.length<=100) (hs:ss.length<=100) (ha:all.length<=100):∀ (ls:List Int) (acc:List Rw) (O:Option T),acc.length+ls.length<=1000->∃ (rs:List Rw) (U:Option T),rs.length=ls.length/\(∀ r∈rs,Gd B (all.length+1) r)/\cw (ai 14) z21 (ls.map .int) [x0,x1,W,Z,x4,x5,x6,some (.leaf (.lst (B.map .str))),x8,some (.lst (cs.map hdD)),L,some (.lst (ss.map hdD)),some (.lst (acc.map Rw.d)),some (.leaf (.lst (all.map .int))),O]=some (.nx [x0,x1,W,Z,x4,x5,x6,some (.leaf (.lst (B.map .str))),x8,some (.lst (cs.map hdD)),L,some (.lst (ss.map hdD)),some (.lst ((acc++rs).map Rw.d)),some (.leaf (.lst (all.map .int))),U])
 | [],acc,O,_=>⟨[],O,rfl,fun r hr=>(by cases hr),by rw [qe8];rfl⟩
 | c::ls,acc,O,h=>by
  rw [qc0] at h;obtain ⟨r,e,hr⟩:=wT x0 x1 W Z x4 x5 x6 x8 L B cs ss all acc c hB Y hc hc2 hs ha (by lia);obtain ⟨l,U,hl,hg,e2⟩:=r6 x0 x1 W Z x4 x5 x6 x8 L B cs ss all hB Y hc hc2 hs ha ls (acc++[r]) (some (.leaf (.int c))) (by simp;lia);refine ⟨r::l,U,by simp [hl],fun q hq=>?_,?_⟩
  . rcases qb2.mp hq with rfl | hq
    . exact hr
    . exact hg q hq
  . rw [qa5,aU (δ1:=[x0,x1,W,Z,x4,x5,x6,some (.leaf (.lst (B.map .str))),x8,some (.lst (cs.map hdD)),L,some (.lst (ss.map hdD)),some (.lst (acc.map Rw.d)),some (.leaf (.lst (all.map .int))),some (.leaf (.int c))]) rfl e,e2];simp
structure Prg (B:List Str) (rows:List Rw):Prop where
 b:B.length<=12
 n:rows.length<=60
 rd:∀ (i:Nat) (r:Rw) (b:Str),rows[i]?=some r->b∈r.reads->b∈B
 out:∀ (i:Nat) (r:Rw) (j:Nat),rows[i]?=some r->j∈r.outs i->j<rows.length
 last:∃ (i:Nat) (a:Atm),rows[i]?=some (Rw.fin a)
theorem Prg.pos {B:List Str} (h:Prg B rows):0<rows.length:=by obtain ⟨i,a,e⟩:=h.last;have:=(gX e).1;lia
theorem Cq {B:List Str} {q:List Rw} {a:Atm} (hB:B.length<=12) (hn:q.length<=59) (W:∀ r∈q,Gd B (q.length+1) r) (ha:∀ x,a=.nm x->x∈B):Prg B (q++[.fin a]):=by
 have L:∀ (i:Nat) (r:Rw),(q++[Rw.fin a])[i]?=some r->(i<q.length/\r∈q)∨(i=q.length/\r=.fin a):=fun i r h=>by
  by_cases z:i<q.length
  . rw [qb5 z] at h;exact .inl ⟨z,qf5 h⟩
  . have hi:=(gX h).1;simp at hi;obtain rfl:i=q.length:=by lia
    rw [gR (nL _),qt4] at h;cases h;exact .inr ⟨rfl,rfl⟩
 refine ⟨hB,by simp;lia,fun i r b h Y=>?_,fun i r j h U=>?_,q.length,a,by simp⟩
 . rcases L i r h with ⟨_,O⟩ | ⟨_,rfl⟩
   . exact (W r O).1 b Y
   . exact o6 (fun x Z=>ha x (qb7.mp Z).symm) b Y
 . rcases L i r h with ⟨hi,O⟩ | ⟨_,rfl⟩
   . rw [qb3,qs8];rcases (W r O).2 i j U with z | z<;>lia
   . cases U
noncomputable def prT:De->Option Out:=(ap (ar 7 (toT (toD (ag q15 (ab (toD (ag z3 (ab (vL 0) (ab (kD (.int 2)) ae)))) (ab (toD (d2 aj (vB 6) (kD (.int 2)))) ae))))))
  (ap (ar 8 (toT (toD (ag z3 (ab (vL 0) (ab (kD (.int 3)) ae))))))
  (ap (ar 9 (bZ ae))
  (ap (cY (ca dQ (ab (toD (d2 aj (vB 6) (kD (.int 0)))) ae)) (ai 10) q22)
  (ap (ar 11 (bZ ae))
  (ap (cY (ca dQ (ab (toD (d2 aj (vB 6) (kD (.int 1)))) ae)) (ai 10) y20)
  (ap (ar 12 (bZ ae))
  (ap (ar 13 (toT (toD (vSl (vB 0) (ie (kD (.int 4))) (ie (toD (d2 aT (kD (.int 4)) (vB 1))))))))
  (ap (cY (fIt (vL 13)) (ai 14) z21)
  (ap (z15 12 (toD (aK (ab (kD (.str "end")) (ab (toD (ag q18 (ab (toD (d2 c7 (vB 3) (toD (d2 aT (toD (ag bN (ab (vB 7) ae))) (kD (.int 1)))))) (ab (vL 8) (ab (vL 7) ae))))) ae)))))
  (br (aK (ab (toD (ag bD (ab (vB 9) ae))) (ab (toD (ag bD (ab (vB 11) ae))) (ab (toD (ag bD (ab (vB 12) ae))) ae)))))))))))))))
theorem wU (ns:List Int):∃ q:List Int,gSl (.lst (ns.map .int)) (some 4) (some 28)=some (.lst (q.map .int))/\q.length<=24:=by
 refine ⟨(ns.drop (HT.sIx (ns.map Dt.int).length 0 (some 4))).take (HT.sIx (ns.map Dt.int).length (ns.map Dt.int).length (some 28)-HT.sIx (ns.map Dt.int).length 0 (some 4)),?_,?_⟩
 . show some (T.lst (pJ (ns.map Dt.int) (some 4) (some 28)))=_;unfold pJ;rw [List.map_take,List.map_drop]
 . have L:=HT.Ep (ns.map Dt.int).length 0 4;have e2:=HT.Ep (ns.map Dt.int).length (ns.map Dt.int).length 28;rw [show (some (4:Int))=some (((4:Nat):Int)) from rfl,show (some (28:Int))=some (((28:Nat):Int)) from rfl,L,e2];simp;lia
theorem Cr (ns:List Int) (q:Int) (D:List Nat) (N:List Str) (a b c:Nat) (hD:D.length=12) (hN:N.length=12) (ha:1<=a) (ha2:a<=8) (hb:b<=4) (hc:1<=c) (hc2:c<=12) :
  ∃ (cs ss:List Hd) (rows:List Rw) (B:List Str),jx (prT [some (.leaf (.lst (ns.map .int))),some (.leaf (.int 24)),some (.leaf (.bl true)),some (.leaf (.int q)),some (.leaf (.lst (D.map dI))),some (.leaf (.lst (N.map .str))),some (.leaf (.lst [.int a,.int b,.int c])),none,none,none,none,none,none,none,none])=some (.leaf (pgD cs ss rows))/\cs.length<=8/\ss.length<=4/\Prg B rows:=by
 obtain ⟨B,hB,eB⟩:=o5 (ns.getD 2 0) c (by lia);obtain ⟨ls,Z,hls⟩:=wU ns;have c2:z3 [.lst (ns.map .int),.int 2]=some (.leaf (.int (ns.getD 2 0))):=jM ns 2;have c3:z3 [.lst (ns.map .int),.int 3]=some (.leaf (.int (ns.getD 3 0))):=jM ns 3;generalize ns.getD 2 0=n2 at c2 eB;generalize ns.getD 3 0=U at c3;obtain ⟨cs,y10,l1,e1⟩:=o7 (some (.leaf (.lst (ns.map .int)))) (some (.leaf (.int 24))) (some (.leaf (.bl true))) (some (.leaf (.int q))) (some (.leaf (.lst [.int a,.int b,.int c]))) (some (.leaf (.lst (B.map .str)))) none none none none D N U hD hN (qc2 a) [] none (fun k hk=>by have:=qd9.mp hk;lia) (by simp;lia);rw [qk3] at l1;obtain ⟨ss,Y,l2,e2⟩:=kL (some (.leaf (.lst (ns.map .int)))) (some (.leaf (.int 24))) (some (.leaf (.bl true))) (some (.leaf (.int q))) (some (.leaf (.lst [.int a,.int b,.int c]))) (some (.leaf (.lst (B.map .str)))) (some (.lst (cs.map hdD))) none none none D N U hD hN (qc2 b) [] y10 (fun k hk=>by have:=qd9.mp hk;lia) (by simp;lia);rw [qk3] at l2;obtain ⟨rs,y14,l3,hg,e3⟩:=r6 (some (.leaf (.lst (ns.map .int)))) (some (.leaf (.int 24))) (some (.leaf (.bl true))) (some (.leaf (.int q))) (some (.leaf (.lst (D.map dI)))) (some (.leaf (.lst (N.map .str)))) (some (.leaf (.lst [.int a,.int b,.int c]))) (some (.leaf (.int U))) Y B cs ss ls (by lia) (by lia) (by lia) (by lia) (by lia) (by lia) ls [] none (by simp;lia);obtain ⟨at',L,W⟩:=m6 (q%((B.length:Int)+1)).toNat U B
 have O:((q%((B.length:Int)+1)).toNat:Int)=q%((B.length:Int)+1):=by have:=Int.emod_nonneg q (show ((B.length:Int)+1)≠0 by lia);lia
 rw [O] at L;refine ⟨cs,ss,rs++[.fin at'],B,?_,by lia,by lia,Cq (by lia) (by lia) (fun r hr=>by rw [l3];exact hg r hr) W⟩;unfold prT;walk_at "d";rw [c2];walk_at "d";rw [eB];walk_at "d";rw [c3];walk_at "d";rw [qh4,qw1] at e1 e2 e3;rw [jc a (by lia),qa1,e1];walk_at "d";rw [jc b (by lia),qa1,e2];walk_at "d";rw [show gSl (Dt.lst (ns.map Dt.int)) (some 4) (some (4+24))=_ from Z];walk_at "d";rw [e3];walk_at "d";rw [iD rfl];walk_at "d";rw [qa2,gF (by lia)];walk_at "d";rw [L];walk_at "d";rw [dh (by rw [qa2];lia)];walk_at "d";unfold pgD dR;rw [qi7];rfl
theorem qm:y13=cb 15 ((ap (ar 3 (toT (toD (d2 c7 (toD (d2 j0 (toD (ag z3 (ab (vL 0) (ab (kD (.int 0)) ae)))) (kD (.int 69621)))) (kD (.int 1000000007))))))
  (ap (ar 4 (toT (toD (ag z11 (ab (vL 3) (ab (toD (bZ (ab (kD (.int 4)) (ab (kD (.int 3)) (ab (kD (.int 4)) (ab (kD (.int 2)) (ab (kD (.int 2)) (ab (kD (.int 2)) (ab (kD (.int 2)) (ab (kD (.int 2)) (ab (kD (.int 2)) (ab (kD (.int 8)) (ab (kD (.int 8)) (ab (kD (.int 4)) ae)))))))))))))) ae))))))
  (ap (ar 5 (toT (toD (ag q15 (ab (toD (ag z3 (ab (vL 0) (ab (kD (.int 1)) ae)))) (ab (kD (.int 12)) ae))))))
  (ap (ar 6 (toT (toD (bZ (ab (toD (d2 aT (kD (.int 1)) (toD (d2 aj (vB 4) (kD (.int 0)))))) (ab (toD (d2 aj (vB 4) (kD (.int 1)))) (ab (toD (d2 aT (kD (.int 2)) (toD (d2 aj (vB 4) (kD (.int 2)))))) ae)))))))
  (ap (sIf (cL (iU (vB 2)) (tB2 (gEq false) (toD (d2 aj (vB 4) (kD (.int 11)))) (kD (.int 1)))) (ar 6 (toT (toD (bZ (ab (kD (.int 8)) (ab (kD (.int 4)) (ab (kD (.int 12)) ae))))))) bV)
  prT)))))):=rfl
theorem qo (ns:List Int):∃ (cs ss:List Hd) (rows:List Rw) (B:List Str),y13 [.lst (ns.map .int),.int 24,.bl true]=some (.leaf (pgD cs ss rows))/\cs.length<=8/\ss.length<=4/\Prg B rows:=by
 have Z:z3 [.lst (ns.map .int),.int 0]=some (.leaf (.int (ns.getD 0 0))):=jM ns 0;have c1:z3 [.lst (ns.map .int),.int 1]=some (.leaf (.int (ns.getD 1 0))):=jM ns 1;generalize ns.getD 0 0=Y at Z;generalize ns.getD 1 0=n1 at c1;obtain ⟨N,hN,eN⟩:=o5 n1 12 (by decide);obtain ⟨D,eD,q,hd⟩:=jd (Y*69621%1000000007) [4,3,4,2,2,2,2,2,2,8,8,4] (by intro z O;simp at O;lia) (by decide);have q:D.length=12:=q;have L:∀ j z:Nat,j<12->([4,3,4,2,2,2,2,2,2,8,8,4]:List Nat)[j]?=some z->D.getD j 0<z:=fun j z hj O=>hd j _ z (by simp [q,hj]) O
 have g0:=L 0 4 (by decide) rfl;have g1:=L 1 3 (by decide) rfl;have g2:=L 2 4 (by decide) rfl;have a0:(D.map dI)[0]?=some (dI (D.getD 0 0)):=by simp [q]
 have a1:(D.map dI)[1]?=some (dI (D.getD 1 0)):=by simp [q]
 have a2:(D.map dI)[2]?=some (dI (D.getD 2 0)):=by simp [q]
 have U:(D.map dI)[11]?=some (dI (D.getD 11 0)):=by simp [q]
 clear hd L;have W:z11 [Dt.int (Y*69621%1000000007),Dt.lst [Dt.int 4,Dt.int 3,Dt.int 4,Dt.int 2,Dt.int 2,Dt.int 2,Dt.int 2,Dt.int 2,Dt.int 2,Dt.int 8,Dt.int 8,Dt.int 4]]=some (.lst (D.map dI)):=eD;have rest:=Cr ns (Y*69621%1000000007) D N;rw [qm];walk_at "d";rw [Z];walk_at "d";rw [W];walk_at "d";rw [c1];walk_at "d";rw [show q15 [.int n1,.int 12]=_ from eN];walk_at "d";rw [a0,a1,a2];simp only [dI];walk_at "d";rw [U,show ((qz7 T.d (qz7 T.leaf (some (dI (D.getD 11 0))))).bind fun x=>gEq false x (Dt.int 1)).bind asB=some (decide (((D.getD 11 0:Nat):Int)=1)) from rfl];by_cases h:((D.getD 11 0:Nat):Int)=1
 . rw [dA (by simpa using h)];walk_at "d";exact rest 8 4 12 q hN (by decide) (by decide) (by decide) (by decide) (by decide)
 . rw [dg (by simpa using h)];walk_at "d";exact rest (1+D.getD 0 0) (D.getD 1 0) (2+D.getD 2 0) q hN (by lia) (by lia) (by lia) (by lia) (by lia)
theorem kM:(iG N rows found).map (·.1)=plc N rows:=by unfold iG;rw [qc9];exact List.map_id _
theorem Cs {B:List Str} (P:Prg B rows) (Z:cs.length+ss.length<=100) (en:d9 y11 [pgD cs ss rows]=some (.leaf (dF found))) (F:Fnd rows B found):Inp cs ss rows B (found.getD 0 []) (iG (((cs++ss).filter fun h=>!h.b).map (·.x)) rows found) found:=by
 have hn:=P.n;have hp:=P.pos
 have q:∀ (j:Nat) (l:List Str),found[j]?=some l->∀ b∈l,b∈found.getD j []:=fun j l h b Y=>by rw [jI h];exact Y
 generalize W:((cs++ss).filter fun h=>!h.b).map (·.x)=N;refine ⟨P.rd,P.out,P.b,by lia,hp,en,F,q 0,fun k hk=>?_,?_,by lia,fun i r h1 h2=>?_,fun i j h1 h2=>?_,fun nm O i r h1 h2=>?_⟩
 . obtain ⟨j,U,rfl⟩:=qc6.mp hk;exact ⟨mU P.out U,q j⟩
 . have:=mV (N:=N) P.out;unfold iG;rw [qa2];lia
 . rw [kM];refine plc_mem.mpr (.inl (kds_mem.mpr ⟨qh8 _,r,by simpa using h1,?_⟩));cases r<;>first | rfl | cases h2
 . rw [kM];cases L:rows[i]? with
   | none =>unfold jb at h1;rw [L] at h1;cases h1
   | some r =>rw [iH L] at h1;exact plc_mem.mpr (.inr (bks_mem.mpr ⟨i,r,L,by rwa [qt5],by lia⟩))
 . rw [kM];rw [W] at O;refine plc_mem.mpr (.inl (kds_mem.mpr ⟨qh8 _,r,by simpa using h1,?_⟩));cases r<;>simp only [Rw.puts,decide_eq_true_eq,qf9] at h2
   all_goals
    subst h2;exact decide_eq_true O
theorem main (ns:List Int) (h:ns.length<=63):rz [.lst (ns.map .int)]=some (.leaf (.bl true)):=by
 obtain ⟨cs,ss,rows,B,ep,U,hs,P⟩:=qo ns;have hn:=P.n;have hp:=P.pos;obtain ⟨found,en,F⟩:=qg (c:=.tup (cs.map hdD)) (s:=.tup (ss.map hdD)) P.rd P.out P.b (by lia);have en:d9 y11 [pgD cs ss rows]=some (.leaf (dF found)):=en;have I:=Cs (cs:=cs) (ss:=ss) P (by lia) en F;have W:=kW P.rd P.out P.b hn hp (by lia) en F;have Z:=Co (cs:=cs) (ss:=ss) (rows:=rows) (found:=found) (by lia) (by lia) hp P.out fun a ha=>mW F ha
 have O:=wI I;have hkl:=I.hkl;generalize iG (((cs++ss).filter fun h=>!h.b).map (·.x)) rows found=ks at*
 generalize found.getD 0 []=bg at*
 generalize hP:pgD cs ss rows=q at*
 have O:d9 z37 [q,cdD bg ks]=some (.leaf (.bl true)):=O;unfold rz;rw [gG];show jx (ap _ _ [some (.leaf (.lst (ns.map .int))),none,none,none,none,none,none])=_
 have s1:ar 1 (toT (toD (ag y13 (ab (vL 0) (ab (kD (.int 24)) (ab (kD (.bl true)) ae)))))) [some (.leaf (.lst (ns.map .int))),none,none,none,none,none,none]=some (.nx [some (.leaf (.lst (ns.map .int))),some (.leaf q),none,none,none,none,none]):=by unfold ar toT;rw [be (t:=.leaf q) ((show ag y13 (ab (vL 0) (ab (kD (.int 24)) (ab (kD (.bl true)) ae))) [some (.leaf (.lst (ns.map .int))),none,none,none,none,none,none]=y13 [.lst (ns.map .int),.int 24,.bl true] from rfl).trans ep)];rfl
 rw [aX,s1,aD];clear s1;generalize (some (T.leaf (.lst (ns.map .int))):Option T)=L
 have Y:ar 2 (toT (toD (ag (d9 y11) (ab (vL 1) ae)))) [L,some (.leaf q),none,none,none,none,none]=some (.nx [L,some (.leaf q),some (.leaf (dF found)),none,none,none,none]):=by unfold ar toT;rw [be ((fM (x:=q) rfl).trans en)];rfl
 have s3:ar 3 (toT (toD (ag y21 (ab (vL 1) ae)))) [L,some (.leaf q),some (.leaf (dF found)),none,none,none,none]=some (.nx [L,some (.leaf q),some (.leaf (dF found)),some (.leaf (cdD bg ks)),none,none,none]):=by unfold ar toT;rw [be ((fM (x:=q) rfl).trans W)];rfl
 rw [aX,Y,aD,aX,s3,aD,aX,jo];generalize hδ:[L,some (.leaf q),some (.leaf (dF found)),some (.leaf (cdD bg ks)),none,none,none]=δ;have b3:vB 3 δ=some (cdD bg ks):=by rw [<- hδ];rfl
 have t1:pA (iU (toD (nT "tuple" (vB 3)))) δ=some false:=by rw [<- hδ];rfl
 have t2:tB2 (gEq true) (vB 3) (toD (ag z33 (ab (vL 1) (ab (vL 2) ae)))) δ=some false:=by unfold tB2;rw [ej b3 (be ((fN (x:=q) (y:=dF found) (by rw [<- hδ];rfl) (by rw [<- hδ];rfl)).trans Z)),show T.d (.leaf (cdD bg ks))=cdD bg ks from rfl,jL,peqs_self];rfl
 have t3:tB2 (xQ true) (toD (ag (d9 z37) (ab (vL 1) (ab (vL 3) ae)))) (kD (.bl true)) δ=some false:=by unfold tB2;rw [ej (be ((fN (x:=q) (y:=cdD bg ks) (by rw [<- hδ];rfl) (by rw [<- hδ];rfl)).trans O)) (y:=.bl true) rfl];rfl
 rw [orE t1 fun _=>orE t2 fun _=>t3];show jx (oK (gk (some false) _ _ δ) _)=_;rw [eQ,bV,aD,<- hδ,aX]
 have s4:ar 4 (toT (toD (aF [none,none] (fIt (toD (d2 aj (vB 3) (kD (.int 1))))) (dP 2 (aJ (ai 0) (aJ (ai 1) dO))) bf (vL 0)))) [L,some (.leaf q),some (.leaf (dF found)),some (.leaf (cdD bg ks)),none,none,none]=some (.nx (dlw L (some (.leaf q)) (some (.leaf (dF found))) bg ks none none)):=by
  unfold ar toT
  have U:bK (dP 2 (aJ (ai 0) (aJ (ai 1) dO))) bf (vL 0) [none,none] (ks.map kpD)=some ((ks.map (·.1)).map dI):=by rw [bE (h:=fun k:Nat×List Str=>dI k.1) fun k _=>⟨_,rfl,rfl,rfl⟩,qc9];rfl
  rw [be (iI (src:=[none,none]) (ds:=ks.map kpD) (by rfl) U (by rw [qa2,qa2];lia))];rfl
 obtain ⟨y5,y6,eg⟩:=wR L (some (.leaf q)) (some (.leaf (dF found))) bg ks (by lia) (qc2 rows.length) none none
 have s5:cY (ca dQ (ab (toD (ag bN (ab (toD (d2 aj (vB 1) (kD (.int 2)))) ae))) ae)) (ai 5) y56 (dlw L (some (.leaf q)) (some (.leaf (dF found))) bg ks none none)=some (.nx (dlw L (some (.leaf q)) (some (.leaf (dF found))) bg ks y5 y6)):=by
  unfold cY
  have:ca dQ (ab (toD (ag bN (ab (toD (d2 aj (vB 1) (kD (.int 2)))) ae))) ae) (dlw L (some (.leaf q)) (some (.leaf (dF found))) bg ks none none)=some ((qc2 rows.length).map dI):=by rw [<- hP];unfold dlw pgD dR;walk_at "k";rw [qa2,jc _ (by lia)]
  rw [this,qa1];exact eg
 rw [s4,aD,aX,s5,aD];unfold br;rw [ej (g:=gEq false) (be ((fM (x:=q) rfl).trans W)) (y:=cdD bg ks) rfl,show T.d (.leaf (cdD bg ks))=cdD bg ks from rfl,jL,peqs_self];rfl
def m7 (K:xA9):Sp:=fun vs H Q _=>∃ (a:Addr) (ns:List Int),vs=[.ref a]/\SqL K H a (ns.map V.int)/\ns.length<=63/\rn H/\∀ H',Q (.bl true) H'
variable {K:xA9}
theorem Ct {vs:List V} {H:Hp} {Q:VK} {E:XK} (h:m7 K vs H Q E):spD K 1 rz vs H Q E:=by
 obtain ⟨a,ns,rfl,O,L,U,q⟩:=h;refine ⟨H,[.lst (ns.map .int)],.leaf (.bl true),Same.refl H,rfl,?_,main ns L,fun v H' F' S st o _=>?_⟩
 . simp only [Reps,Rep];exact ⟨_,[],rfl,⟨a,_,rfl,O,Reps.map (fun _=>ev) ns⟩,rfl⟩
 . have o:Rep K F' (.bl true) v:=o;simp only [Rep] at o;subst o;exact q H'
variable {h:Heap}
theorem all_mk {l:xT9} {w:World} {mg:Str->Option Value} {fa:Addr} (X:K.In h) (G:h.Ns qc3 mg) (hfa:mg "law"=some (.ref fa))
 (a0:AtF K "_law_leads" z39)
 (a1:AtF K "_law_due" q25)
 (a2:AtF K "_law_atom" z46)
 (a3:AtF K "_law_cell_at" q34)
 (a4:AtF K "_law_digits" z29)
 (a5:AtF K "_law_names" z26)
 (a6:AtF K "_law_row" q39)
 (a7:AtF K "_law_program" z16)
 (a8:AtF K "ways_of" y53)
 (a9:AtF K "ways" gE)
 (a10:AtF K "gives" z67)
 (a11:AtF K "atoms" y50)
 (a12:AtF K "reads" y42)
 (a13:AtF K "needed_ahead" z17)
 (a14:AtF K "needed" y31)
 (a15:AtF K "plain_names" y34)
 (a16:AtF K "rows_by_kind" z20)
 (a17:AtF K "rows_led_back_to" z13)
 (a18:AtF K "all_places" y15)
 (a19:AtF K "kept_rows" q46)
 (a20:AtF K "end_fault" q31)
 (a21:AtF K "endless_rows" q13)
 (a22:AtF K "ring_fault" q21)
 (a23:AtF K "inner_ways" q26)
 (a24:AtF K "route" q44)
 (a25:AtF K "mark_behind" y29)
 {cc26 Pt26:Addr} (a26:AtC K "spoilt" q16 cc26 Pt26) (hd26:xK9 K cc26 Pt26=true) (to26:o8 K "spoilt"=some (Pt26,m9 "spoilt" (az q16)))
 (a27:AtF K "spoil_fault" y23)
 (a28:AtF K "lost_fault" q27)
 (a29:AtF K "fault" q45)
 (a30:AtF K "holds" q56)
 (a31:AtF K "without" z47)
 (a32:AtF K "law" dv)
 (z_any:xB9 K qc3 "any"=some none)
 (z_enumerate:xB9 K qc3 "enumerate"=some none)
 (z_isinstance:xB9 K qc3 "isinstance"=some none)
 (z_len:xB9 K qc3 "len"=some none)
 (z_list:xB9 K qc3 "list"=some none)
 (z_range:xB9 K qc3 "range"=some none)
 (z_set:xB9 K qc3 "set"=some none)
 (z_sorted:xB9 K qc3 "sorted"=some none)
 (z_str:xB9 K qc3 "str"=some none)
 (z_tuple:xB9 K qc3 "tuple"=some none)
 {d_A:Addr} {o_A:Obj} {m_A:Nat} {t0_A:Tok} {t1_A:Tok} {t2_A:Tok} {t3_A:Tok} {t4_A:Tok} {t5_A:Tok} {t6_A:Tok} {t7_A:Tok} {Y:Addr} {L:Addr} {U:Addr} {q:Addr} {O:Addr} {Z:Addr} {a6_A:Addr} {a7_A:Addr} (b_A:xB9 K qc3 "ATOM_PLACES"=some (some (.ref d_A))) (l_A:K.lookup d_A=some o_A) (e_A:o_A.ExactDict) (f_A:o_A.data=.dict #[⟨qk1 w.params "copy",.str "copy" t0_A,.ref Y⟩,⟨qk1 w.params "op",.str "op" t1_A,.ref L⟩,⟨qk1 w.params "store",.str "store" t2_A,.ref U⟩,⟨qk1 w.params "take",.str "take" t3_A,.ref q⟩,⟨qk1 w.params "lay",.str "lay" t4_A,.ref O⟩,⟨qk1 w.params "say",.str "say" t5_A,.ref Z⟩,⟨qk1 w.params "if",.str "if" t6_A,.ref a6_A⟩,⟨qk1 w.params "end",.str "end" t7_A,.ref a7_A⟩] m_A) (z_A:(d_A==qi8)=false)
 {o0_A:Obj} {i0_A:Array Value} {m0_A:Nat} (l0_A:K.lookup Y=some o0_A) (e0_A:o0_A.cls=.type "tuple") (f0_A:o0_A.data=.seq i0_A m0_A) (r0_A:Vals [V.int 2,V.int 3] i0_A.toList)
 {o1_A:Obj} {i1_A:Array Value} {m1_A:Nat} (l1_A:K.lookup L=some o1_A) (e1_A:o1_A.cls=.type "tuple") (f1_A:o1_A.data=.seq i1_A m1_A) (r1_A:Vals [V.int 3,V.int 5] i1_A.toList)
 {o2_A:Obj} {i2_A:Array Value} {m2_A:Nat} (l2_A:K.lookup U=some o2_A) (e2_A:o2_A.cls=.type "tuple") (f2_A:o2_A.data=.seq i2_A m2_A) (r2_A:Vals [V.int 2,V.int 3] i2_A.toList)
 {o3_A:Obj} {i3_A:Array Value} {m3_A:Nat} (l3_A:K.lookup q=some o3_A) (e3_A:o3_A.cls=.type "tuple") (f3_A:o3_A.data=.seq i3_A m3_A) (r3_A:Vals [V.int 3,V.int 4] i3_A.toList)
 {o4_A:Obj} {i4_A:Array Value} {m4_A:Nat} (l4_A:K.lookup O=some o4_A) (e4_A:o4_A.cls=.type "tuple") (f4_A:o4_A.data=.seq i4_A m4_A) (r4_A:Vals [V.int 2,V.int 4] i4_A.toList)
 {o5_A:Obj} {i5_A:Array Value} {m5_A:Nat} (l5_A:K.lookup Z=some o5_A) (e5_A:o5_A.cls=.type "tuple") (f5_A:o5_A.data=.seq i5_A m5_A) (r5_A:Vals [V.int 1,V.int 2] i5_A.toList)
 {o6_A:Obj} {i6_A:Array Value} {m6_A:Nat} (l6_A:K.lookup a6_A=some o6_A) (e6_A:o6_A.cls=.type "tuple") (f6_A:o6_A.data=.seq i6_A m6_A) (r6_A:Vals [V.int 1,V.int 2] i6_A.toList)
 {o7_A:Obj} {i7_A:Array Value} {m7_A:Nat} (l7_A:K.lookup a7_A=some o7_A) (e7_A:o7_A.cls=.type "tuple") (f7_A:o7_A.data=.seq i7_A m7_A) (r7_A:Vals [V.int 1,V.int 2] i7_A.toList)
 {u_D:Value} (b_D:xB9 K qc3 "FRESH"=some (some u_D)) (r_D:RelV (.str "fresh") u_D)
 {u_F:Value} (b_F:xB9 K qc3 "SAFE"=some (some u_F)) (r_F:RelV (.str "safe") u_F)
 {u_E:Value} (b_E:xB9 K qc3 "SEEN"=some (some u_E)) (r_E:RelV (.str "seen") u_E)
 {d_B:Addr} {o_B:Obj} {i_B:Array Value} {m_B:Nat} (b_B:xB9 K qc3 "SETTING"=some (some (.ref d_B))) (l_B:K.lookup d_B=some o_B) (e_B:o_B.cls=.type "tuple") (f_B:o_B.data=.seq i_B m_B) (r_B:Vals [V.str "copy",V.str "op",V.str "load",V.str "take",V.str "hear"] i_B.toList)
 {u_C:Value} (b_C:xB9 K qc3 "SPOILT"=some (some u_C)) (r_C:RelV (.str "spoilt") u_C)
 (zIS:tE K=true)
 (kd_str:j2 K "str")
 (kd_tuple:j2 K "tuple")
 : ∃ fd:qo9,(∀ (s:qa4) (v:Value),za1 s fd ⟨[v],[]⟩ [("_law_script",v)])/\∀ base:Heap,K.In base->base.Ns qc3 mg->p7 mg base->FnOk l.prog w K mg base CX0 9 fa fd ["_law_script"] (m7 K):=by
 obtain ⟨f32,oc32,od32,an32,sl32,kV32,dc32,pm32,cd32,ct32,a32,l32,c32,k32⟩:=a32;have e:=hfa.symm.trans (xI9 X G a32);cases e;have T:Txt l.prog w K mg:={n_any:=xH9 X G z_any,n_enumerate:=xH9 X G z_enumerate,n_isinstance:=xH9 X G z_isinstance,n_len:=xH9 X G z_len,n_list:=xH9 X G z_list,n_range:=xH9 X G z_range,n_set:=xH9 X G z_set,n_sorted:=xH9 X G z_sorted,n_str:=xH9 X G z_str,n_tuple:=xH9 X G z_tuple,g_A:=xM [("copy",t0_A,.ref Y,.ref Y),("op",t1_A,.ref L,.ref L),("store",t2_A,.ref U,.ref U),("take",t3_A,.ref q,.ref q),("lay",t4_A,.ref O,.ref O),("say",t5_A,.ref Z,.ref Z),("if",t6_A,.ref a6_A,.ref a6_A),("end",t7_A,.ref a7_A,.ref a7_A)] (xI9 X G b_A) l_A e_A f_A z_A (show (["copy","op","store","take","lay","say","if","end"]:List Str).Nodup by decide +kernel) (by simp [RelV]) (fun F=>xN (.cons (cy l0_A e0_A f0_A r0_A (by decide) (by simp [Reps,Rep])) (.cons (cy l1_A e1_A f1_A r1_A (by decide) (by simp [Reps,Rep])) (.cons (cy l2_A e2_A f2_A r2_A (by decide) (by simp [Reps,Rep])) (.cons (cy l3_A e3_A f3_A r3_A (by decide) (by simp [Reps,Rep])) (.cons (cy l4_A e4_A f4_A r4_A (by decide) (by simp [Reps,Rep])) (.cons (cy l5_A e5_A f5_A r5_A (by decide) (by simp [Reps,Rep])) (.cons (cy l6_A e6_A f6_A r6_A (by decide) (by simp [Reps,Rep])) (.cons (cy l7_A e7_A f7_A r7_A (by decide) (by simp [Reps,Rep])) .nil))))))))),g_D:=ii ⟨_,xI9 X G b_D,r_D⟩,g_F:=ii ⟨_,xI9 X G b_F,r_F⟩,g_E:=ii ⟨_,xI9 X G b_E,r_E⟩,g_B:=u3 (xI9 X G b_B) l_B e_B f_B r_B (by decide) (fun F=>by simp [Reps,Rep]),g_C:=ii ⟨_,xI9 X G b_C,r_C⟩,is:=zIS,k_str:=kd_str,k_tuple:=kd_tuple};have D0:DefF K mg "_law_leads" z39 ["_law_row_here","_law_at"]:=a0.df X G fun _ _ _ _ _ _=>el2 fun _ _=>rfl
 have D1:DefF K mg "_law_due" q25 ["_law_program_here","_law_need"]:=a1.df X G fun _ _ _ _ _ _=>el2 fun _ _=>rfl
 have D2:DefF K mg "_law_atom" z46 ["_law_digit","_law_cell","_law_boxes"]:=a2.df X G fun _ _ _ _ _ _=>el3 fun _ _ _=>rfl
 have D3:DefF K mg "_law_cell_at" q34 ["_law_script","_law_k"]:=a3.df X G fun _ _ _ _ _ _=>el2 fun _ _=>rfl
 have D4:DefF K mg "_law_digits" z29 ["_law_number","_law_sizes"]:=a4.df X G fun _ _ _ _ _ _=>el2 fun _ _=>rfl
 have D5:DefF K mg "_law_names" z26 ["_law_cell","_law_many"]:=a5.df X G fun _ _ _ _ _ _=>el2 fun _ _=>rfl
 have D6:DefF K mg "_law_row" q39 ["_law_cell","_law_many","_law_cells","_law_shelves","_law_boxes"]:=a6.df X G fun _ _ _ _ _ _=>el5 fun _ _ _ _ _=>rfl
 have D7:DefF K mg "_law_program" z16 ["_law_script","_law_most","_law_wide"]:=a7.df X G fun _ _ _ _ _ _=>el3 fun _ _ _=>rfl
 have D8:DefF K mg "ways_of" y53 ["number","row"]:=a8.df X G fun _ _ _ _ _ _=>el2 fun _ _=>rfl
 have D9:DefF K mg "ways" gE ["program"]:=a9.df X G fun _ _ _ _ _ _=>el1 fun _=>rfl
 have D10:DefF K mg "gives" z67 ["row"]:=a10.df X G fun _ _ _ _ _ _=>el1 fun _=>rfl
 have D11:DefF K mg "atoms" y50 ["row"]:=a11.df X G fun _ _ _ _ _ _=>el1 fun _=>rfl
 have D12:DefF K mg "reads" y42 ["row"]:=a12.df X G fun _ _ _ _ _ _=>el1 fun _=>rfl
 have D13:DefF K mg "needed_ahead" z17 ["row","behind"]:=a13.df X G fun _ _ _ _ _ _=>el2 fun _ _=>rfl
 have D14:DefF K mg "needed" y31 ["program"]:=a14.df X G fun _ _ _ _ _ _=>el1 fun _=>rfl
 have D15:DefF K mg "plain_names" y34 ["program"]:=a15.df X G fun _ _ _ _ _ _=>el1 fun _=>rfl
 have D16:DefF K mg "rows_by_kind" z20 ["program"]:=a16.df X G fun _ _ _ _ _ _=>el1 fun _=>rfl
 have D17:DefF K mg "rows_led_back_to" z13 ["program"]:=a17.df X G fun _ _ _ _ _ _=>el1 fun _=>rfl
 have D18:DefF K mg "all_places" y15 ["program"]:=a18.df X G fun _ _ _ _ _ _=>el1 fun _=>rfl
 have D19:DefF K mg "kept_rows" q46 ["code"]:=a19.df X G fun _ _ _ _ _ _=>el1 fun _=>rfl
 have D20:DefF K mg "end_fault" q31 ["program","code"]:=a20.df X G fun _ _ _ _ _ _=>el2 fun _ _=>rfl
 have D21:DefF K mg "endless_rows" q13 ["onward","rows"]:=a21.df X G fun _ _ _ _ _ _=>el2 fun _ _=>rfl
 have D22:DefF K mg "ring_fault" q21 ["program","code"]:=a22.df X G fun _ _ _ _ _ _=>el2 fun _ _=>rfl
 have D23:DefF K mg "inner_ways" q26 ["program","code"]:=a23.df X G fun _ _ _ _ _ _=>el2 fun _ _=>rfl
 have D24:DefF K mg "route" q44 ["starts","behind","fits"]:=a24.df X G fun _ _ _ _ _ _=>el3 fun _ _ _=>rfl
 have D25:DefF K mg "mark_behind" y29 ["mark","row","name"]:=a25.df X G fun _ _ _ _ _ _=>el3 fun _ _ _=>rfl
 have D26:DefC K mg "spoilt" q16 ["program","code","name"] cc26:=a26.df X G fun _ _ _ _ _ _=>el3 fun _ _ _=>rfl
 have D27:DefF K mg "spoil_fault" y23 ["program","code"]:=a27.df X G fun _ _ _ _ _ _=>el2 fun _ _=>rfl
 have D28:DefF K mg "lost_fault" q27 ["program","code"]:=a28.df X G fun _ _ _ _ _ _=>el2 fun _ _=>rfl
 have D29:DefF K mg "fault" q45 ["program","code"]:=a29.df X G fun _ _ _ _ _ _=>el2 fun _ _=>rfl
 have D30:DefF K mg "holds" q56 ["program","code"]:=a30.df X G fun _ _ _ _ _ _=>el2 fun _ _=>rfl
 have D31:DefF K mg "without" z47 ["code","row"]:=a31.df X G fun _ _ _ _ _ _=>el2 fun _ _=>rfl
 refine ⟨xC9 "law" "law" (bz dv) (az dv) (ac dv) .none kV32 dc32 pm32 an32 cd32 ct32,fun s v=>.of_eq rfl,fun base kb _ bm=>?_⟩;have q65:=z81 (P:=l.prog) (w:=w) (base:=base) T D0;have z74:=q86 (P:=l.prog) (w:=w) (base:=base) T D1 q65;have y46:=y83 (P:=l.prog) (w:=w) (base:=base) T D2;have q57:=z73 (P:=l.prog) (w:=w) (base:=base) T D3;have z23:=z75 (P:=l.prog) (w:=w) (base:=base) T D4;have y64:=z80 (P:=l.prog) (w:=w) (base:=base) T D5 z23;have z60:=y85 (P:=l.prog) (w:=w) (base:=base) T D6 y46 z23;have q58:=y73 (P:=l.prog) (w:=w) (base:=base) T D7 y46 q57 z23 y64 z60;have z78:=z88 (P:=l.prog) (w:=w) (base:=base) T D8;have h_ways:=y93 (P:=l.prog) (w:=w) (base:=base) T D9 z78;have z86:=z92 (P:=l.prog) (w:=w) (base:=base) T D10;have z87:=y91 (P:=l.prog) (w:=w) (base:=base) T D11;have q87:=z93 (P:=l.prog) (w:=w) (base:=base) T D12 z87;have z44:=z71 (P:=l.prog) (w:=w) (base:=base) T D13 z86 q87;have z28:=y89 (P:=l.prog) (w:=w) (base:=base) T D14 h_ways z44;have q24:=q78 (P:=l.prog) (w:=w) (base:=base) T D15;have z56:=q71 (P:=l.prog) (w:=w) (base:=base) T D16 q24;have q47:=y62 (P:=l.prog) (w:=w) (base:=base) T D17 h_ways;have y66:=y80 (P:=l.prog) (w:=w) (base:=base) T D18 z28 z56 q47;have z19:=q82 (P:=l.prog) (w:=w) (base:=base) T D19;have y69:=z84 (P:=l.prog) (w:=w) (base:=base) T D20 z19;have y43:=z72 (P:=l.prog) (w:=w) (base:=base) T D21;have q52:=q80 (P:=l.prog) (w:=w) (base:=base) T D22 z19 h_ways y43;have z64:=y79 (P:=l.prog) (w:=w) (base:=base) T D23 z19 h_ways;have z77:=q91 (P:=l.prog) (w:=w) (base:=base) T D24;have z61:=z76 (P:=l.prog) (w:=w) (base:=base) T D25;have z70:=z90 (P:=l.prog) (w:=w) (base:=base) T D26 (TabB.mk' kb hd26 bm) (yn rfl to26) z64 z77 q24 z61 z19;have y47:=y74 (P:=l.prog) (w:=w) (base:=base) T D27 q24 z70;have z66:=z79 (P:=l.prog) (w:=w) (base:=base) T D28 z28;have y77:=z91 (P:=l.prog) (w:=w) (base:=base) T D29 y69 q52 y47 z66;have y75:=y92 (P:=l.prog) (w:=w) (base:=base) T D30 y77;have y78:=q88 (P:=l.prog) (w:=w) (base:=base) T D31;exact (BG T (mn (st:=dv) l32 c32 k32) z74 q58 y66 y75 z28 y78).imp fun vs H Q E z=>Ct z
abbrev z51:Stmt:=top 28
theorem Ey {ts:List Addr} (X:K.In h) (Y:∀ P∈ts,h.get? P=some (xJ9 #[])) {U q:Addr} (a0:AtC K "spoilt" q16 U q) (hd0:xK9 K U q=true) (n0:K.lookup q=none) (m0:q∈ts) {O L:Addr} (a1:AtC K "way_to_reading" z51 O L) (Z:xK9 K O L=true) (n1:K.lookup L=none) (m1:L∈ts) (e:cF K=[(L,m9 "way_to_reading" (az z51)),(q,m9 "spoilt" (az q16))]) (ne:L≠q):TabsIn K h:=TabsIn.two X e ne n1 n0 Z hd0 (Y _ m1) (Y _ m0)
theorem walk {l:xT9} {q:qc5} {loose:List Str} {XP:(Str->Option Value)->Heap->Prop} {YP:World->Heap->Prop} {d:DefRec} {K:Params->xA9} (Z:l.most=some 63) (L:d.params.defaults=[])
  (Y:∀ (w:World) (h:Heap),YP w h->(K w.params).In h) (U:∀ (w:World) (h:Heap),YP w h->TabsIn (K w.params) h)
  (F:∀ (w:World) (mg:Str->Option Value) (fa:Addr) (h:Heap),(K w.params).In h->h.Ns qc3 mg->mg d.name=some (.ref fa)→
   ∃ fd:qo9,(∀ (s:qa4) (u:Value),za1 s fd ⟨[u],[]⟩ [("_law_script",u)])/\∀ base:Heap,(K w.params).In base->base.Ns qc3 mg->p7 mg base->FnOk l.prog w (K w.params) mg base CX0 9 fa fd ["_law_script"] (m7 (K w.params))) :
  PySem.W.WalkO q loose XP YP l.row.toRowW d [] (fun f vs=>PySem.call f vs):=
 L2.DF (n:=63) (k:=9) (x:="_law_script") (CX:=fun _=>CX0) (sp:=fun w=>m7 (K w.params)) Z (by decide) L ⟨rfl,by decide,by decide⟩ Y U F (fun _ _ a ns O hO hS=>⟨a,ns,rfl,hS,O,hO,fun _=>rfl⟩) fun _ _ _ _ _ z=>z
end P51
open PySem PySem.W PyProof.Rows
local macro_rules | `(tactic| walk_at "f") => `(tactic| (refine' L2.AtF.mk ?za ?zl ?zc ?zk; (case za => k_is); (case zl => k_is); (case zc => k_is); (case zk => k_is)))
local macro_rules | `(tactic| walk_at "c") => `(tactic| (refine' L2.AtC.mk ?za ?zl ?zc ?zk ?zx ?zp; (case za => k_is); (case zl => k_is); (case zc => k_is); (case zk => k_is); (case zx => k_is); (case zp => exact rfl)))
set_option maxRecDepth 100000 in
set_option maxHeartbeats 0 in
theorem PySem.Challenge.cw_dimhouse_k51_all_places_holds : PySem.Challenge.rw_dimhouse_k51_all_places.Holds := by
 w_on;o_law
 refine holds_open (q:=P51.seen) (loose:=[PySem.Str.ofString "ATOM_PLACES"]) (Xt:=fun s=>xlAt P51.seen [] s&&recOk (zh0 (ze6 PySem.Challenge.rw_dimhouse_k51_all_places.row)) s) (XP:=XL P51.seen []) (Yf:=Hook.obs P51.hook) (Ya:=Hook.val P51.hook) (YP:=Hook.says P51.hook) (N:=2712) ?hl (Hook.of P51.hook) (Hook.keeps P51.hook) (fun s e=>xl_of s (qp7.mp e).1) XL.keeps (by rfl) (by rfl) (by rfl) (fun s e=>recFacts_of (qp7.mp e).2) (by rfl) (by first | assumption | decide +kernel) (by decide +kernel) ⟨rfl,rfl,rfl,rfl,rfl,by decide +kernel⟩ ?hw ?hc
 case hl=>exact LeftO.of_split "special-get-raises" fun w=>P51.map_two (P51.run_false w) (P51.run_true w)
 case hw=>w_witness2
 delta P51.hook
 k_fill
 refine P51.walk (l:=PySem.Challenge.rw_dimhouse_k51_all_places) rfl rfl (fun w h Y=>PySem.W.km_in_of Y) ?T ?F
 case T =>
  intro w h Y;refine' P51.Ey (PySem.W.km_in_of Y) (PySem.W.km_tabs_of Y) ?a0 ?hd0 ?n0 ?m0 ?a1 ?hd1 ?n1 ?m1 ?e ?ne
  (case a0=>walk_at "c")
  (case hd0=>kernel_rfl)
  (case n0=>kernel_rfl)
  (case m0=>simp)
  (case a1=>walk_at "c")
  (case hd1=>kernel_rfl)
  (case n1=>kernel_rfl)
  (case m1=>simp)
  (case e=>kernel_rfl)
  (case ne=>decide)
 case F =>
  intro w mg fa h U G L;refine' P51.all_mk U G L ?a0 ?a1 ?a2 ?a3 ?a4 ?a5 ?a6 ?a7 ?a8 ?a9 ?a10 ?a11 ?a12 ?a13 ?a14 ?a15 ?a16 ?a17 ?a18 ?a19 ?a20 ?a21 ?a22 ?a23 ?a24 ?a25 ?a26 ?hd26 ?to26 ?a27 ?a28 ?a29 ?a30 ?a31 ?a32 ?z_any ?z_enumerate ?z_isinstance ?z_len ?z_list ?z_range ?z_set ?z_sorted ?z_str ?z_tuple ?b_A ?l_A ?e_A ?f_A ?z_A ?l0_A ?e0_A ?f0_A ?r0_A ?l1_A ?e1_A ?f1_A ?r1_A ?l2_A ?e2_A ?f2_A ?r2_A ?l3_A ?e3_A ?f3_A ?r3_A ?l4_A ?e4_A ?f4_A ?r4_A ?l5_A ?e5_A ?f5_A ?r5_A ?l6_A ?e6_A ?f6_A ?r6_A ?l7_A ?e7_A ?f7_A ?r7_A ?b_D ?r_D ?b_F ?r_F ?b_E ?r_E ?b_B ?l_B ?e_B ?f_B ?r_B ?b_C ?r_C ?zIS ?kd_str ?kd_tuple
  (case a0=>walk_at "f")
  (case a1=>walk_at "f")
  (case a2=>walk_at "f")
  (case a3=>walk_at "f")
  (case a4=>walk_at "f")
  (case a5=>walk_at "f")
  (case a6=>walk_at "f")
  (case a7=>walk_at "f")
  (case a8=>walk_at "f")
  (case a9=>walk_at "f")
  (case a10=>walk_at "f")
  (case a11=>walk_at "f")
  (case a12=>walk_at "f")
  (case a13=>walk_at "f")
  (case a14=>walk_at "f")
  (case a15=>walk_at "f")
  (case a16=>walk_at "f")
  (case a17=>walk_at "f")
  (case a18=>walk_at "f")
  (case a19=>walk_at "f")
  (case a20=>walk_at "f")
  (case a21=>walk_at "f")
  (case a22=>walk_at "f")
  (case a23=>walk_at "f")
  (case a24=>walk_at "f")
  (case a25=>walk_at "f")
  (case a26=>walk_at "c")
  (case hd26=>kernel_rfl)
  (case to26=>kernel_rfl)
  (case a27=>walk_at "f")
  (case a28=>walk_at "f")
  (case a29=>walk_at "f")
  (case a30=>walk_at "f")
  (case a31=>walk_at "f")
  (case a32=>walk_at "f")
  (case z_any | z_enumerate | z_isinstance | z_len | z_list | z_range | z_set | z_sorted | z_str | z_tuple | b_A | l_A=>k_is)
  (case e_A=>exact ⟨rfl,rfl,rfl⟩)
  (case f_A=>rfl)
  (case z_A=>rfl)
  (case l0_A=>k_is)
  (case e0_A=>rfl)
  (case f0_A=>rfl)
  (case r0_A=>exact (.cons ⟨_,rfl⟩ (.cons ⟨_,rfl⟩ .nil)))
  (case l1_A=>k_is)
  (case e1_A=>rfl)
  (case f1_A=>rfl)
  (case r1_A=>exact (.cons ⟨_,rfl⟩ (.cons ⟨_,rfl⟩ .nil)))
  (case l2_A=>k_is)
  (case e2_A=>rfl)
  (case f2_A=>rfl)
  (case r2_A=>exact (.cons ⟨_,rfl⟩ (.cons ⟨_,rfl⟩ .nil)))
  (case l3_A=>k_is)
  (case e3_A=>rfl)
  (case f3_A=>rfl)
  (case r3_A=>exact (.cons ⟨_,rfl⟩ (.cons ⟨_,rfl⟩ .nil)))
  (case l4_A=>k_is)
  (case e4_A=>rfl)
  (case f4_A=>rfl)
  (case r4_A=>exact (.cons ⟨_,rfl⟩ (.cons ⟨_,rfl⟩ .nil)))
  (case l5_A=>k_is)
  (case e5_A=>rfl)
  (case f5_A=>rfl)
  (case r5_A=>exact (.cons ⟨_,rfl⟩ (.cons ⟨_,rfl⟩ .nil)))
  (case l6_A=>k_is)
  (case e6_A=>rfl)
  (case f6_A=>rfl)
  (case r6_A=>exact (.cons ⟨_,rfl⟩ (.cons ⟨_,rfl⟩ .nil)))
  (case l7_A=>k_is)
  (case e7_A=>rfl)
  (case f7_A=>rfl)
  (case r7_A=>exact (.cons ⟨_,rfl⟩ (.cons ⟨_,rfl⟩ .nil)))
  (case b_D=>k_is)
  (case r_D=>exact ⟨_,rfl⟩)
  (case b_F=>k_is)
  (case r_F=>exact ⟨_,rfl⟩)
  (case b_E=>k_is)
  (case r_E=>exact ⟨_,rfl⟩)
  (case b_B | l_B=>k_is)
  (case e_B=>rfl)
  (case f_B=>rfl)
  (case r_B=>exact (.cons ⟨_,rfl⟩ (.cons ⟨_,rfl⟩ (.cons ⟨_,rfl⟩ (.cons ⟨_,rfl⟩ (.cons ⟨_,rfl⟩ .nil))))))
  (case b_C=>k_is)
  (case r_C=>exact ⟨_,rfl⟩)
  (case zIS=>kernel_rfl)
  (case kd_str=>exact fun d O=>by cases d<;>first | (cases O;done) | k_is | rfl)
  (case kd_tuple=>exact fun d O=>by cases d<;>first | (cases O;done) | k_is | rfl)
