import PyProof.Rows.All
import KE.KNest
import Wide.All
import OpenK.AllK
import Wide.FinOn
import Lean
import PyProof.EqAt
import PyProof.EqKinds
import PyProof.TupleCall
import PySem.Challenge.RW_dimhouse_k55_whole_fewest
open Array renaming length_toList→qf1,getElem?_eq_getElem→qh3,getElem?_eq_none→qq3,getElem?_toList→qr0,toList_append→qz3,toList_push→zc4,toList→zl6
open Bool renaming and_eq_true→qa9,false_ne_true→qb5,false_eq_true→qd1,eq_false_iff→qf9,not_eq_true'→qi7,eq_iff_iff→qj0,or_eq_true→qj1,true_and→ql3,and_true→qu9,and_false→qw2,and_eq_false_imp→qw5,and_eq_true_iff→qx4,or_eq_false_iff→qx5,or_false→qx7,not_true→qy0,not_false→zb2,false_or→zd1,and_self→zd2,false_and→zi7,true_or→zm0
open Classical renaming byContradiction→qs7
open False renaming elim→qg9
open ForInStep renaming yield→qq9
open Int renaming toNat_natCast→qe8
open Lean renaming maxHeartbeats→qr4,maxRecDepth→qt3
open List renaming length_map→qa1,map_cons→qa4,mem_cons→qa5,mem_singleton→qb1,getElem?_map→qb3,getD_eq_getElem?_getD→qb4,size_toArray→qb6,range→qb7,replicate→qb9,length_append→qc4,map_map→qc6,mem_of_getElem?→qc7,mem_map→qc8,getElem?_append_left→qc9,getElem?_set_self→qd0,map_append→qd3,mem_cons_of_mem→qd4,getElem?_append_right→qd5,mem_range→qd8,mem_append_right→qe2,length_cons→qe4,length_filter_le→qe6,mem_cons_self→qe7,not_mem_nil→qf4,nodup_cons→qg0,pairwise_cons→qg6,append_nil→qh0,lookup_cons→qh1,mem_filter→qi1,mem_append→qi3,foldl_cons→qi4,mem_append_left→qi8,getElem?_eq_none_iff→qj3,any_eq_true→qj5,replicate_succ→qj6,range'→qj8,append_assoc→qk0,getElem?_cons_succ→qk7,all_eq_true→qk9,any_cons→ql2,getElem?_replicate→qm1,all_cons→qm2,getLast?_cons_cons→qm3,map_nil→qm4,nodup_append→qm6,length_replicate→qn4,getElem?_set_ne→qo0,getElem?_of_mem→qo1,getElem?_eq_getElem→qo3,flatten_cons→qp0,length→qp7,range'_succ→qq1,find?_cons→qq8,nil_append→qr3,length_range→qr8,mem_iff_getElem→qs1,pairwise_append→qs2,nodup_nil→qs5,getElem?_zip_eq_some→qs6,getElem?_range→qt4,map_congr_left→qt5,filter_sublist→qt7,forIn_cons→qu8,set_cons_zero→qv0,set_cons_succ→qv1,sum_cons→qv4,pairwise_map→qv8,reverse_cons→qw1,ext_getElem→qw8,eq_nil_of_length_eq_zero→qw9,getElem_mem→qx1,getElem?_mapIdx→qx6,filterMap_cons→qy6,of_mem_zip→qz1,length_eraseIdx_of_lt→za2,nodup_iff_pairwise_ne→za3,mem_filterMap→za4,forIn_nil→za7,drop_eq_getElem_cons→za8,mem_of_find?_eq_some→zb0,mapIdx_eq_zipIdx_map→zb3,getElem?_take_of_lt→zb6,take_sublist→zb7,getElem?_set→zc0,ext_getElem?→zc5,pairwise_mergeSort→zd7,length_eq_zero_iff→ze1,getElem?_cons_zero→ze5,length_take→ze7,cons_append→ze8,drop_length→zf0,pairwise_lt_range→zf6,find?_cons_of_neg→zf8,length_singleton→zh0,length_nil→zh1,getElem?_eq_none→zh9,foldl→zi2,all_nil→zm2,Perm→zn0
open List.Pairwise renaming nil→qr7,imp→qv9
open List.Perm renaming refl→zb1
open List.cons renaming injEq→zh3
open Nat renaming ne_of_lt→qb8,le_trans→qc0,lt_of_lt_of_le→qc2,lt_succ_of_lt→qh4,le_of_lt→qi2,lt_irrefl→qk4,zero_le→qk6,ne_of_gt→ql6,lt_succ_self→qn2,le_refl→qn6,lt_trans→qp6,mod_lt→qu3,not_lt→qy5,not_lt_zero→qz8,le_succ→zd5,le_add_right→ze9,mul_le_mul→zi9,succ_mul→zl9,sub_self→zm3,sub_zero→zm4
open Ne renaming symm→qh5
open Option renaming bind_some→qa6,map_some→qo2,isSome_map→qr6,join_some→qt2,isSome_iff_exists→qu0,bind_eq_some_iff→qu5,map_eq_some_iff→qv5
open Option.some renaming inj→qd6,injEq→qv6
open PyProof.Rows renaming callWith_type1→qf5,slot_tuple_getitem→qo8,envOfC→zb5,subscriptTail_builtinR→zf5,AllBare→zg0,IntsAre→zg8,subscriptTail→zk3
open PyProof.Rows.F renaming plain_set_update_loop→qv2,entry_set_update_loop→ze0
open PySem renaming wpAny_pure→qa2,Shared→qa3,starEach→qa8,sizeLine→qb2,mainGlobals→qc1,Program→qc5,wpAny_newObj_type→qd7,bootBuiltins→qe0,Around→qe1,wpAny_callSpecial?_slot→qe5,wpAny_call_entry→qf2,rawInt→qf7,wpAny_setState_of→qf8,wpAny_bind→qg4,wpAny_seqItems→qg5,SetTable→qg8,Builtin→qh6,compareOp→qh8,wpAny_holding→qh9,cellsFrom→qi0,foldedSetIterable→qi6,codeAny_builtin→qj2,behindInMarks→qj4,assignEach→qj9,builtinLookup_eq_fast→qk2,wpAny_field→qk5,sysModules→qk8,Arguments→ql1,wpAny_setField→ql4,plainId_quiet→ql5,backTo→ql8,wpAny_mono→ql9,wpAny_typeNameOfWhole_keyiter→qm0,wpAny_ite_split→qm8,binaryOp→qm9,wpAny_isInstance→qn3,wpAny_setField_rec→qn5,firstArgMember→qn8,wpAny_truthy_bool→qo4,swapsWith→qo5,wpAny_passesOwn→qo6,wpAny_pyIter_list→qo7,wpAny_typeNameOf_keyiter→qp2,scanBound→qp3,typeLookup_type→qp4,wpAny_attempt→qp8,pyNext→qp9,wpAny_askSetting→qq0,wpAny_pyIter_tuple→qq4,wpAny_Call_Name_kw→qq5,NameKind→qq6,codeAny→qq7,wpAny_updateSeq→qr2,FuncData→qr5,codeAmong→qs3,IsPair→qs8,wpAny_fieldsOf→qt0,wpAny_letGo→qt6,codeAny_mono→qt9,wpAny_rule→qu1,tupleKind_room_in1→qu7,getattributeRaised→qv3,sliceBounds→qv7,fits_of_scanBound→qw0,wpAny_tryCatch→qw3,wpAny_typeOf→qw4,noFill_tuple_add→qw7,argBest→qx2,wpAny_updateSeq_pair→qx3,builtinsNs→qy2,typeLookup→qy3,call_meets→qy4,wpAny_execs_nil→qy7,holding→qy8,letOwnedTupleGo→qy9,sizeLine_eq→qz0,wpAny_specialOf→qz2,wpAny_of_eq→qz5,concat_meets→za5,isSubtype_stop→za9,assign→zb4,wpAny_pyIter_slot→zc1,wpAny_dictEntries→zc2,wpAny_pyNext_tuple_item→zc7,BindsTo→zc8,seq_tuple_add→zc9,attributeBase→zd0,wpAny_handled→zd4,wpAny_onRaise→zd6,setField→zd8,relayAll→zd9,setNext→ze2,richCompare→ze4,wpAny_eqBool_int→ze6,wpAny_pyNext_list_item→zf1,wpAny_pyNext_tuple_end→zf2,wpAny_pyNext_range_end→zf3,wpAny_pyIter_rangeiter→zf4,TriplesOk→zf9,storeName→zg1,wpAny_storeName_local→zg2,wpAny_isTrue_Compare1→zg3,wpAny_pyNext_list_end→zg4,Keyword→zg5,InCallC→zg6,codeAny_call_function→zg7,wpAny_notOrdered_dict→zh4,wpAny_dictEpoch→zh6,wpAny_isOneOf_keyiter→zh7,pickOrder→zh8,typeIs_int→zi1,closureFor→zi3,setEntries→zi4,pyIter→zi6,isSubtype_type→zi8,IsRangeIter→zj0,getItem→zj1,subscripted→zj2,keywordEach→zj3,valueAt→zj4,wpAny_throw→zj5,tupleKind→zj7,wpAny_standAt→zj8,swapsWithSole→zj9,swappedStores→zk0,PassesOwn→zk1,bindArgs→zk2,compPost→zk4,comprehension→zk5,seqItems?→zk6,newExc→zk7,raiseNew→zk8,updateSeq→zl0,wpAny_call→zl2,callerA→zl3,setsByText→zl4,name_of_addr→zl7,IsPart→zl8,newTuple→zm5,treeTable→zm6,DictEntry→zm9,Result→zn1
open PySem.Around renaming under_plainId→qg3
open PySem.AutoSeq1 renaming wpAny_loadPart'→qu2
open PySem.Builtin.Builtins renaming bindParams→qz9
open PySem.Builtin.Dict renaming updateFrom→ze3,showsAll→zh5
open PySem.Builtin.Dict_items renaming ownsTuple→qx9
open PySem.Builtin.List renaming listExtendWith→qi5,listLengthHint→qm7,listTooLong→qp1,listSameRef→qp5,listItems→zf7
open PySem.Builtin.Range renaming rangeSize→qd2,rangeFitsLong→qz7
open PySem.Builtin.Slice renaming slicePlaces→qn7,sliceAdjust→qs4,sliceApplied→za1
open PySem.Builtin.SmallTypes renaming nextOf→qg1,ownedTupleIsFree→qj7,ownedTupleHandOut→qs9
open PySem.Builtin.Str renaming occurrences→qu6
open PySem.Builtin.Tuple renaming tupleExact→qo9
open PySem.Calls renaming Name_function_global→za0
open PySem.F renaming slot_dict_keyiterator_next→qk3,slot_tuple_iterator_next→qn0,called_set→qr1,slot_tuple_getattribute→qt1,slot_list_getattribute→qu4,args_dict_keyiterator_next_1→qw6,entry_dict_keyiterator_next→qx0,args_tuple_iterator_next_1→qx8,entry_tuple_iterator_next→qz4,slot_zip_next→qz6
open PySem.Heap renaming get?_push_size→qa7,lt_size→qb0,size_push→qd9,get?_update_self→qe3,SameBut→qg2,get?_update_other→qh7,get?_push_of_some→ql0,ExtBut→zd3
open PySem.Heap.SameBut renaming update→qf6
open PySem.NameKind renaming free→qe9
open PySem.Obj renaming data_mapFields→qf0,isFreed_of_fields→qk1,mapSeq→qn1,cls_mapFields→qr9,mapFields→qs0
open PySem.PassesOwn renaming never→qc3
open PySem.PyData renaming keyHash→qm5
open PySem.SeqAt renaming EqAt→qh2,RcAt→zb8,RcNeAt→zh2
open PySem.SeqAt.EqAt renaming of_refs→za6,same→zg9
open PySem.SeqAt.RcAt renaming lists_lengths→zb9
open PySem.SetTable renaming below→qg7,grown→qn9,insertAt→zc3
open PySem.Shared renaming TypeIs→zk9
open PySem.Str renaming ofString→qa0,length→zi0
open PySem.Value renaming ref→qf3,none→qi9,type→ql7,bool→qy1,isStrOf→zj6,int→zm7,str→zm8
open PySem.W.OpenRow renaming toRowW→zi5
open PySem.W.RowW renaming records→zl5
open PySem.pickOrder renaming go→zm1
open Sum renaming inr→qq2,inl→zc6
open ToString renaming toString→zl1
open True renaming intro→qt8
set_option Elab.async false
set_option linter.all false
namespace P55
open PySem PySem.W PyProof.Rows
section
local macro_rules | `(tactic| o_head $_) => `(tactic| exact (by assumption : ∀ p : Prop, p) _)
set_option maxRecDepth 100000 in
set_option maxHeartbeats 0 in
theorem pre(U:∀p:Prop,p):PySem.Challenge.rw_dimhouse_k55_whole_fewest.row.Holds:=by k_head
end
noncomputable def seen:qc5:={PySem.Challenge.pw_dimhouse_k55_whole_fewest with main:={PySem.Challenge.pw_dimhouse_k55_whole_fewest.main with body:=[1,2,3,4,6,7,8,9,10,11,12,14,15,16,17,18,19,20,21,22,24,25,26,27,28,29,30,31,33,34,36,37,38,39,40,41,42,43,44,45,46,47,48].filterMap fun i=>PySem.Challenge.pw_dimhouse_k55_whole_fewest.main.body[i]?}}
noncomputable abbrev hook:Hook:=kmHook P55.pre.heap_1 [2,3,15,17,18,20,21,22,25,26,27,29,30,32,33,34,36,37,39,40,41,42,43,44,45,46,47,48,49,50,51,53,54,56,57,58,60,61,63,64,65,67,68,70,71,72,75,76,77,80,81,82,85,86,87,90,91,92,95,96,97,99,100,102,103,104,107,108,109,111,112,114,115,116,119,120,121,124,125,126,128,129,131,132,133,135,136,138,139,140,143,144,145,147,148,150,151,152,154,155,157,158,159,162,163,164,167,168,169,171,172,174,175,176,178,179,181,182,183,185,186,188,189,190,192,193,195,196,197,199,200,202,203,204,206,207,209,210,211,214,215,216,219,220,221,223,224,226,227,228,230,231,233,234,235,238,239,240,243,244,245,248,249] (fun _=>by kernel_rfl) [134,105]
theorem map_two {α β γ:Type} {x:Option α} {f:α→β} {g:α→γ} {a:β} {b:γ} (h:x.map f=some a) (h':x.map g=some b):x.map (fun s=>(f s,g s))=some (a,b):=by
  cases x with
  |none=>cases h
  |some s=>simp only[qo2,qv6]at h h' ⊢;rw[h,h']
set_option maxRecDepth 100000 in
set_option maxHeartbeats 0 in
theorem run_false(w:World):(fencedOpening zm6 PySem.Challenge.rw_dimhouse_k55_whole_fewest.row.prog w 2854).map (fun s₀=>(topFrom zm6 PySem.Challenge.rw_dimhouse_k55_whole_fewest.row.prog (w.withFollow "special-get-raises" false) 2854 s₀).map (fun s=>(openSeen seen [PySem.Str.ofString "ATOM_PLACES"] (importedModules PySem.Challenge.rw_dimhouse_k55_whole_fewest.row.prog.main.body) (fun s=>xlAt seen [] s&&recOk (zl5 (zi5 PySem.Challenge.rw_dimhouse_k55_whole_fewest.row)) s) true s,Hook.obs hook s)))=some (some (openGood seen [PySem.Str.ofString "ATOM_PLACES"],Hook.val hook (w.withFollow "special-get-raises" false))):=by kernel_rfl
set_option maxRecDepth 100000 in
set_option maxHeartbeats 0 in
theorem run_true(w:World):(fencedOpening zm6 PySem.Challenge.rw_dimhouse_k55_whole_fewest.row.prog w 2854).map (fun s₀=>(topFrom zm6 PySem.Challenge.rw_dimhouse_k55_whole_fewest.row.prog (w.withFollow "special-get-raises" true) 2854 s₀).map (fun s=>(openSeen seen [PySem.Str.ofString "ATOM_PLACES"] (importedModules PySem.Challenge.rw_dimhouse_k55_whole_fewest.row.prog.main.body) (fun s=>xlAt seen [] s&&recOk (zl5 (zi5 PySem.Challenge.rw_dimhouse_k55_whole_fewest.row)) s) true s,Hook.obs hook s)))=some (some (openGood seen [PySem.Str.ofString "ATOM_PLACES"],Hook.val hook (w.withFollow "special-get-raises" true))):=by kernel_rfl
end P55
set_option maxRecDepth 100000
set_option maxHeartbeats 4000000
set_option compiler.extract_closed false
open PySem.W renaming Frag→xA9,nsIn→xB9,fnOf→xC9,kia_one→xD9,mg_none_of→xE9,keepIn→xF9,fnX→xG9,codeIn→xH9,mg_of→xI9,tabObj→xJ9,codeHdIn→xK9,kitOne→xL9,kitx_dict→xM9,CodeHd→xN9,instObj→xO9,methodObj→xP9,kitx_list→xQ9,cellsFrom_some→xR9,codeHd_of_K→xS9,OpenLaw→xT9
open PySem renaming Addr→J9,World→Ja,Stmt→Jb,Expr→Jc,Scope→Jd
noncomputable section
theorem ω{p:Prop}(h:¬p:=by decide +kernel):p=False:=eq_false h
def χ{p:Prop}(h:p:=by decide +kernel):p:=h
def Ψ{p:Prop}(h:p:=by walk_at "x"):p:=h
def Θ{p:Prop}(h:p:=by lia):p:=h
def Ξ{p:Prop}(h:p:=by simp):p:=h
def Ω{p:Prop}(h:p:=by decide):p:=h
open Option renaming some→ς,none→ψ
open Bool renaming true→θ,false→ξ
abbrev η:=@List
abbrev ζ:=@Option
theorem bS{α β:Type _}{o:ζ α}{f:α->ζ β}{b:β}(h:o.bind f=ς b):∃a,o=ς a/\f a=ς b:=qu5.mp h
theorem mS{α β:Type _}{o:ζ α}{f:α->β}{b:β}(h:o.map f=ς b):∃a,o=ς a/\f a=b:=qv5.mp h
theorem gX{α:Type _}{l:η α}{i:Nat}{a:α}(h:l[i]?=ς a):∃z:i<l.length,l[i]=a:=List.getElem?_eq_some_iff.mp h
open PySem PySem.Spec PyProof.Rows in abbrev gN := @List.getElem?_set_ne
open PySem PySem.Spec PyProof.Rows in abbrev gP := @Heap.get?_push_of_some
open PySem PySem.Spec PyProof.Rows in abbrev wB := @wpAny_bind
open PySem PySem.Spec PyProof.Rows in abbrev gQ := @List.getElem?_eq_getElem
open PySem PySem.Spec PyProof.Rows in abbrev nL := @Nat.le_refl
set_option maxRecDepth 100000
namespace L2
open PySem PySem.Spec PyProof.Rows
abbrev Key:=Sum Int Str
def j1:Key->Value->Bool
 |.inl k,v=>Value.isInt k v
 |.inr x,v=>zj6 x v
noncomputable def keyH(w:Ja):Key->Int
 |.inl k=>hashInt k
 |.inr x=>hashStr w x
theorem bx:∀{k:Key}{v:Value},j1 k v=θ->(∃i t,k=zc6 i/\v=zm7 i t)∨(∃x t,k=qq2 x/\v=zm8 x t)
 |.inl i,v,h=>by obtain⟨t,e⟩:=Value.isInt_shape (k:=i) (v:=v) h;exact .inl ⟨i,t,rfl,e⟩
 |.inr x,v,h=>by obtain⟨t,e⟩:=Value.isStrOf_shape (x:=x) (v:=v) h;exact .inr ⟨x,t,rfl,e⟩
theorem tR(i:Int)(t:Tok):j1 (.inl i) (.int i t)=θ:=by simp[j1,Value.isInt]
theorem tT(x:Str)(t:Tok):j1 (.inr x) (.str x t)=θ:=by simp[j1,zj6]
theorem Cl(a b:Int):decide ((zc6 a:Key)=zc6 b)=(a==b):=by
 by_cases e:a=b
 .subst e;simp
 .have h:¬ (zc6 a:Key)=zc6 b:=fun q=>e (zc6.inj q)
  rw[decide_eq_false h];exact(beq_eq_false_iff_ne.mpr e).symm
theorem Cm(a b:Str):decide ((qq2 a:Key)=qq2 b)=decide (a=b):=by
 by_cases e:a=b
 .subst e;simp
 .have h:¬ (qq2 a:Key)=qq2 b:=fun q=>e (qq2.inj q)
  rw[decide_eq_false h,decide_eq_false e]
theorem Cn(a:Int)(b:Str):decide ((zc6 a:Key)=qq2 b)=ξ:=decide_eq_false (fun q=>nomatch q)
theorem Co(a:Str)(b:Int):decide ((qq2 a:Key)=zc6 b)=ξ:=decide_eq_false (fun q=>nomatch q)
def aE(prog:qc5)(w:Ja):PySem.KeyKind prog w Key where
 is:=j1
 hash:=keyH w
 inj:=fun v a b Z Y=>by
  rcases bx Z with ⟨i,t,rfl,rfl⟩|⟨x,t,rfl,rfl⟩
  .rcases bx Y with ⟨j,u,rfl,e⟩|⟨y,u,rfl,e⟩
   .injection e with U _;rw[U]
   .exact nomatch e
  .rcases bx Y with ⟨j,u,rfl,e⟩|⟨y,u,rfl,e⟩
   .exact nomatch e
   .injection e with U _;rw[U]
 byValue:=fun k v h=>by rcases bx h with ⟨i,t,rfl,rfl⟩|⟨x,t,rfl,rfl⟩<;>rfl
 pyHash:=fun W h=>by
  rcases bx W with ⟨i,t,rfl,rfl⟩|⟨x,t,rfl,rfl⟩
  .exact wpAny_pyHash_int h
  .exact wpAny_pyHash_str h
 eqBool:=fun hu W h=>by
  rcases bx hu with ⟨i,t,rfl,rfl⟩|⟨x,t,rfl,rfl⟩
  .rcases bx W with ⟨j,u,rfl,rfl⟩|⟨y,u,rfl,rfl⟩
   .rw[Cl]at h;exact ze6 h
   .rw[Cn]at h;exact qh2.int_str i t y u _ _ _ _ h
  .rcases bx W with ⟨j,u,rfl,rfl⟩|⟨y,u,rfl,rfl⟩
   .rw[Co]at h;exact qh2.str_int x t j u _ _ _ _ h
   .rw[Cm]at h;exact wpAny_eqBool_str h
 «strs»:=fun k x t v h=>by
  rcases bx h with ⟨i,u,rfl,e⟩|⟨y,u,rfl,e⟩
  .exact nomatch e
  .injection e with U _;subst U;cases v<;>rfl
theorem oq(prog:qc5)(w:Ja)(i:Int)(t:Tok):(aE prog w).is (.inl i) (.int i t)=θ:=tR i t
theorem fW(prog:qc5)(w:Ja)(x:Str)(t:Tok):(aE prog w).is (.inr x) (.str x t)=θ:=tT x t
inductive V where
 |non|bl (b:Bool)|int (i:Int)|str (x:Str)|byt (b:Array UInt8)|flt (b:UInt64)|ref (a:J9)|ty (n:String)
 deriving DecidableEq
def RelV:V->Value->Prop
 |.non,u=>u=qi9
 |.bl b,u=>u=qy1 b
 |.int i,u=>∃t,u=zm7 i t
 |.str x,u=>∃t,u=zm8 x t
 |.byt b,u=>∃t,u=Value.bytes b t
 |.flt b,u=>∃t,u=Value.float b t
 |.ref a,u=>u=qf3 a
 |.ty n,u=>u=ql7 n
abbrev Vals:η V->η Value->Prop:=Paired RelV
variable{xs:η V}{us:η Value}
theorem Vals.length(r:Vals xs us):xs.length=us.length:=Paired.length r
theorem Vals.get:∀{xs:η V}{us:η Value}{i:Nat}{x:V},Vals xs us->xs[i]?=ς x->∃u,us[i]?=ς u/\RelV x u
 |_,_,_,_,.nil,e=>by simp at e
 |_,_,0,_,.cons r _,e=>by simp at e;subst e;exact⟨_,rfl,r⟩
 |_,_,i+1,x,.cons _ t,e=>by obtain⟨u,h1,h2⟩:=Vals.get (i:=i) (x:=x) t (by simpa using e);exact⟨u,by simpa using h1,h2⟩
variable{u:Value}
theorem Vals.set{x:V}(r:RelV x u):∀{xs:η V}{us:η Value}(i:Nat),Vals xs us->Vals (xs.set i x) (us.set i u)
 |_,_,_,.nil=>.nil
 |_,_,0,.cons _ t=>.cons r t
 |_,_,i+1,.cons q t=>.cons q (Vals.set r i t)
theorem Vals.append:∀{xs ys:η V}{us U:η Value},Vals xs us->Vals ys U->Vals (xs++ys) (us++U)
 |_,_,_,_,.nil,s=>s
 |_,_,_,_,.cons r t,s=>.cons r (Vals.append t s)
theorem Vals.take:∀{xs:η V}{us:η Value}(n:Nat),Vals xs us->Vals (xs.take n) (us.take n)
 |_,_,0,_=>.nil
 |_,_,_+1,.nil=>.nil
 |_,_,n+1,.cons r t=>.cons r (Vals.take n t)
theorem Vals.drop:∀{xs:η V}{us:η Value}(n:Nat),Vals xs us->Vals (xs.drop n) (us.drop n)
 |_,_,0,r=>r
 |_,_,_+1,.nil=>.nil
 |_,_,n+1,.cons _ t=>Vals.drop n t
def RelO:ζ V->ζ Value->Prop
 |some v,ς u=>RelV v u
 |none,ψ=>True
 |_,_=>False
def KV{κ:Type}:η (κ×V)->η (κ×Value)->Prop:=Paired fun(p:κ×V)(q:κ×Value)=>p.1=q.1/\RelV p.2 q.2
def kV:Key->V
 |.inl i=>.int i
 |.inr x=>.str x
inductive HO where
 |e (xs:List V)
 |t (xs:List V)
 |dK (J6:List (Key×V))|dT (J6:List (List Key×V))
 |set (S:Int->Bool) (n:Nat)
 |ins (C dx:J9) (fs:List (Str×V))
 |own (x:J9)
 |xd (fs:List (Str×V))
 |met (f x:J9)
 |rng (lo hi:Int)
 |frz (o:Obj) (u:HO)
 |tbl (ps:Array Value)
 |code (q:Str)
 |ctab (qs:List ((Nat×Nat)×Str))
 |ext (φ:Heap->Prop)
abbrev Hp:=J9->ζ HO
noncomputable def upd(H:Hp)(a:J9)(o:HO):Hp:=fun b=>if b=a then ς o else H b
variable{H:Hp}{a:J9}{o:HO}
theorem aw:upd H a o a=ς o:=by unfold upd;rw[if_pos rfl]
variable{b:J9}
theorem aq(h:b≠a):upd H a o b=H b:=by unfold upd;rw[if_neg h]
theorem E8{u:HO}(h:H a=ς o)(h':H b=ς u)(d:o≠u):a≠b:=by intro e;subst e;rw[h]at h';exact d (qd6 h')
theorem bA(h:H a=ς o)(h':H b=ψ):a≠b:=by intro e;subst e;rw[h]at h';cases h'
section
variable(P:qc5)(w:Ja)
def ObjOk(H:Hp)(h:Heap)(a:J9):HO->Prop
 |.e xs=>xs.length<=qb2/\∃(J8:η Value)(n:Nat),Vals xs J8/\h.get? a=ς {cls:=.type "list",data:=.seq J8.toArray n}
 |.t xs=>xs.length<=qb2/\∃J8:η Value,Vals xs J8/\IsTup h a J8.toArray
 |.dK J6=>J6.length<=qb2/\(a==qk8)=ξ/\∃vs,KV J6 vs/\h.DictOf (aE P w) a vs
 | .dT J6=>J6.length<=qb2/\(a==qk8)=ξ/\∃xs:η (η Key×J9×Value),
     Paired (fun(p:η Key×V)(q:η Key×J9×Value)=>p.1=q.1/\H q.2.1=ς (.t (p.1.map kV))/\RelV p.2 q.2.2) J6 xs∧
     ∃o es ep,h.get? a=ς o/\o.ExactDict/\o.data=.dict es ep/\es.toList=xs.map (entryOfKey (zj7 (aE P w)))/\(xs.map (·.1)).Nodup
 |.set S n=>h.SetOf (intKind P w) a S n
 |.ins C dx fs=>H dx=ς (.own a)/\fs.length<=1000/\dx≠a/\h.get? a=ς (xO9 C dx)∧∃mA,h.Ns1 dx mA/\(∀f,RelO (fs.lookup f) (mA f))/\PySem.Within mA (fs.map (·.1))
 |.own _=>∃o,h.get? a=ς o
 |.xd fs=>∃mA,h.Ns1 a mA/\∀f,RelO (fs.lookup f) (mA f)
 |.rng lo hi=>∃t u v,h.get? a=ς {cls:=.type "range",data:=.fields #[.int lo t,.int hi u,.int 1 v]}
 |.frz o u=>h.get? a=ς o/\ObjOk H h a u
 |.tbl ps=>h.get? a=ς {cls:=.none,data:=.fields ps}
 |.code q=>h.CodeRec (.ref a) q
 |.ctab qs=>∃ps:Array Value,h.get? a=ς {cls:=.none,data:=.fields ps}/\zf9 ps.toList/\∀(pos:Pos)(q:Str)(v:Value),((pos.line,pos.col),q)∈qs->qs3 pos ps.toList=ς v->∃c o,v=.ref c/\H c=ς (.frz o (.code q))
 |.met f x=>h.get? a=ς (xP9 (.ref f) (.ref x))
 |.ext φ=>φ h/\(∃o,h.get? a=ς o)/\∀h1 h2:Heap,φ h1->(∀o,h1.get? a=ς o->h2.get? a=ς o)->φ h2
def HOk(H:Hp)(h:Heap):Prop:=∀a o,H a=ς o->ObjOk P w H h a o
end
section
variable{P:qc5}{w:Ja}{H H':Hp}{h h':Heap}{a:J9}{o:HO}
theorem ObjOk.lt(x:ObjOk P w H h a o):a<h.objs.size:=by
 cases o with
 |e xs=>obtain⟨_,_,_,_,e⟩:=x;exact qb0 e
 |t xs=>obtain⟨_,_,_,p⟩:=x;exact p.lt
 |dK J6=>obtain⟨_,_,_,_,o,_,_,e,_⟩:=x;exact qb0 e
 |dT J6=>obtain⟨_,_,_,_,o,_,_,e,_⟩:=x;exact qb0 e
 |set S n=>obtain⟨o,_,_,_,e,_⟩:=x;exact qb0 e
 |ins C dx fs=>obtain⟨_,_,_,e,_⟩:=x;exact qb0 e
 |own y=>obtain⟨_,e⟩:=x;exact qb0 e
 |xd fs=>obtain⟨_,⟨_,_,_,e,_⟩,_⟩:=x;exact qb0 e
 |rng lo hi=>obtain⟨_,_,_,e⟩:=x;exact qb0 e
 |frz ob u=>obtain⟨e,_⟩:=x;exact qb0 e
 |tbl ps=>exact qb0 (show h.get? a=ς _ from x)
 |code q=>obtain⟨c,o,vs,t,e,g,_⟩:=x;cases e;exact qb0 g
 |ctab qs=>obtain⟨ps,g,_⟩:=x;exact qb0 g
 |met f y=>exact qb0 (show h.get? a=ς _ from x)
 |ext φ=>obtain⟨_,⟨_,e⟩,_⟩:=x;exact qb0 e
theorem Paired.mapP{α β:Type}{F G:α->β->Prop}:∀{W:η α}{U:η β},Paired F W U->(∀a b,F a b->G a b)->Paired G W U
 |_,_,.nil,_=>.nil
 |_,_,.cons r t,f=>.cons (f _ _ r) (Paired.mapP t f)
theorem ObjOk.stay (x:ObjOk P w H h a o) (k:∀ b u,(b=a∨H b=ς (.own a))->h.get? b=ς u->h'.get? b=ς u)
  (ho:∀b,H b=ς (.own a)->H' b=ς (.own a)) (ht:∀b xs,H b=ς (.t xs)->H' b=ς (.t xs)) (U:∀b ob q,H b=ς (.frz ob (.code q))->H' b=ς (.frz ob (.code q))):ObjOk P w H' h' a o:=by
 induction o with
 |e xs=>obtain⟨z,J8,n,r,e⟩:=x;exact⟨z,J8,n,r,k _ _ (.inl rfl) e⟩
 |t xs=>obtain⟨z,J8,r,ob,e,c⟩:=x;exact⟨z,J8,r,ob,k _ _ (.inl rfl) e,c⟩
 |dK J6=>obtain⟨z,y,vs,r,ob,es,ep,e,c⟩:=x;exact⟨z,y,vs,r,ob,es,ep,k _ _ (.inl rfl) e,c⟩
 |dT J6=>obtain⟨z,y,xs,r,ob,es,ep,e,c⟩:=x;exact⟨z,y,xs,Paired.mapP r fun p q z=>⟨z.1,ht _ _ z.2.1,z.2.2⟩,ob,es,ep,k _ _ (.inl rfl) e,c⟩
 |set S n=>obtain⟨ob,es,ep,t,e,c⟩:=x;exact⟨ob,es,ep,t,k _ _ (.inl rfl) e,c⟩
 |ins C dx fs=>obtain⟨d,z,ne,e,mA,⟨od,es,ep,e2,c⟩,r⟩:=x;exact⟨ho _ d,z,ne,k _ _ (.inl rfl) e,mA,⟨od,es,ep,k _ _ (.inr d) e2,c⟩,r⟩
 |own y=>obtain⟨ob,e⟩:=x;exact⟨ob,k _ _ (.inl rfl) e⟩
 |xd fs=>obtain⟨mA,⟨od,es,ep,e,c⟩,r⟩:=x;exact⟨mA,⟨od,es,ep,k _ _ (.inl rfl) e,c⟩,r⟩
 |rng lo hi=>obtain⟨t,u,v,e⟩:=x;exact⟨t,u,v,k _ _ (.inl rfl) e⟩
 |frz ob u Y=>obtain⟨e,q⟩:=x;exact⟨k _ _ (.inl rfl) e,Y q⟩
 |tbl ps=>have e:h.get? a=ς {cls:=.none,data:=.fields ps}:=x;show h'.get? a=ς {cls:=.none,data:=.fields ps};exact k a _ (.inl rfl) e
 |code q=>obtain⟨c,o,vs,t,e,g,r⟩:=x;cases e;exact⟨a,o,vs,t,rfl,k a _ (.inl rfl) g,r⟩
 |ctab qs=>obtain⟨ps,g,Z,r2⟩:=x;exact⟨ps,k a _ (.inl rfl) g,Z,fun pos q v h1 h2=>let ⟨c,ob,e,g⟩:=r2 pos q v h1 h2;⟨c,ob,e,U c ob q g⟩⟩
 |met f y=>have e:h.get? a=ς (xP9 (.ref f) (.ref y)):=x;show h'.get? a=ς (xP9 (.ref f) (.ref y));exact k a _ (.inl rfl) e
 |ext φ=>obtain⟨p,⟨o,e⟩,st⟩:=x;exact⟨st _ _ p fun o q=>k _ _ (.inl rfl) q,⟨o,k _ _ (.inl rfl) e⟩,st⟩
theorem HOk.lt(x:HOk P w H h)(e:H a=ς o):a<h.objs.size:=(x a o e).lt
theorem HOk.fresh(x:HOk P w H h)(e:h.objs.size<=a):H a=ψ:=by
 cases q:H a with
 |none=>rfl
 |some u=>exact absurd (qc2 (x.lt q) e) (qk4 _)
theorem HOk.kept(x:HOk P w H h)(k:∀b u,h.get? b=ς u->h'.get? b=ς u):HOk P w H h':=fun a o e=>(x a o e).stay (fun b u _ q=>k b u q) (fun _ q=>q) (fun _ _ q=>q) fun _ _ _ q=>q
theorem HOk.laid(x:HOk P w H h)(k:∀b u,h.get? b=ς u->h'.get? b=ς u)(hp:h.objs.size<=a)(new:ObjOk P w (upd H a o) h' a o):HOk P w (upd H a o) h':=fun b u e=>by
 have U:=x.fresh hp;by_cases W:b=a
 .subst W;rw[aw]at e;cases e;exact new
 .rw[aq W]at e;exact(x b u e).stay (fun c v _ q=>k c v q) (fun c q=>by rw[aq (bA q U)];exact q) (fun c xs q=>by rw[aq (bA q U)];exact q) fun c ob xs q=>by rw[aq (bA q U)];exact q
end
def Rd(H:Hp)(a:J9)(u:HO):Prop:=H a=ς u∨∃o,H a=ς (.frz o u)
def Rd.of{u:HO}(h:H a=ς u):Rd H a u:=.inl h
variable{P:qc5}{w:Ja}{h:Heap}
theorem Rd.ok{u:HO}(r:Rd H a u)(x:HOk P w H h):ObjOk P w H h a u:=by
 rcases r with r|⟨o,r⟩
 .exact x a u r
 .obtain⟨_,q⟩:=x a _ r;exact q
def Mut:ζ HO->Prop
 |some (.e _)=>True
 |some (.dK _)=>True
 |some (.dT _)=>True
 |some (.set _ _)=>True
 |some (.ins _ _ _)=>True
 |some (.ext _)=>True
 |_=>False
section
variable{P:qc5}{w:Ja}{H:Hp}{h h':Heap}{x e:J9}{o':HO}
theorem HOk.write (ok:HOk P w H h) (Y:Mut (H x)) (he:e=x∨H e=ς (.own x)) (k:∀ b u,b≠e->h.get? b=ς u->h'.get? b=ς u) (heo:∃ u,h'.get? e=ς u)
  (new:ObjOk P w (upd H x o') h' x o'):HOk P w (upd H x o') h':=fun b u q=>by
 have W:∀c y,H c=ς (.own y)->c≠x:=fun c y r z=>by subst z;rw[r]at Y;exact Y
 have Z:∀c xs,H c=ς (.t xs)->c≠x:=fun c xs r z=>by subst z;rw[r]at Y;exact Y
 have ncod:∀c ob xs,H c=ς (.frz ob (.code xs))->c≠x:=fun c ob xs r z=>by subst z;rw[r]at Y;exact Y
 by_cases hb:b=x
 .subst hb;rw[aw]at q;cases q;exact new
 .rw[aq hb]at q;by_cases U:b=e
  .have q':H b=ς (.own x):=by
    rcases he with z|z
    .exact absurd (U.trans z) hb
    .rw[U];exact z
   rw[q]at q';cases q'
   obtain⟨v,hv⟩:=heo;exact⟨v,by rw[U];exact hv⟩
  .refine(ok b u q).stay (fun c v hc r=>k c v ?_ r) (fun c r=>by rw[aq (W c b r)];exact r) (fun c xs r=>by rw[aq (Z c xs r)];exact r) fun c ob xs r=>by rw[aq (ncod c ob xs r)];exact r
   rcases hc with rfl|hc
   .exact U
   .rintro rfl;rcases he with z|z
    .exact W c b hc z
    .rw[hc]at z;cases z;exact hb rfl
end
structure Un(fs ex:List J9)(H H':Hp)(h h':Heap):Prop where
 keep:∀b o,h.get? b=ς o->H b=ψ->b∉fs->b∉ex->h'.get? b=ς o
 slot:∀b o,h.get? b=ς o->H b=ψ->b∈fs->b∉ex->∃sl,h'.get? b=ς {o with slots:=sl}
 free:∀b o,h.get? b=ς o->H b=ψ->b∉ex->H' b=ψ
 there:∀b o,h.get? b=ς o->b∉ex->∃o',h'.get? b=ς o'
 tups:∀b xs,H b=ς (.t xs)->H' b=ς (.t xs)
 frzs:∀b o u,H b=ς (.frz o u)->H' b=ς (.frz o u)
 tbls:∀b ps,H b=ς (.tbl ps)->∃more,H' b=ς (.tbl (ps++more))
 cts:∀b qs,H b=ς (.ctab qs)->H' b=ς (.ctab qs)
section
variable{fs fs' ex ex':η J9}{H H1 H2:Hp}{h h1 h2 h':Heap}{a x e:J9}{o:HO}
theorem Un.any(u:Un fs ex H H1 h h1){ob:Obj}(q:h.get? b=ς ob)(n:H b=ψ)(W:b∉ex):∃sl,h1.get? b=ς {ob with slots:=sl}:=by
 by_cases U:b∈fs
 .exact u.slot b ob q n U W
 .exact⟨ob.slots,u.keep b ob q n U W⟩
theorem Un.kept(k:∀b u,h.get? b=ς u->h'.get? b=ς u):Un fs ex H H h h':=⟨fun b ob q _ _ _=>k b ob q,fun b ob q _ _ _=>⟨ob.slots,k b ob q⟩,fun _ _ _ n _=>n,fun b ob q _=>⟨ob,k b ob q⟩,fun _ _ q=>q,fun _ _ _ q=>q,fun _ ps q=>⟨#[],by rw[q];simp⟩,fun _ _ q=>q⟩
theorem Un.refl:Un fs ex H H h h:=Un.kept fun _ _ q=>q
theorem Un.laid(k:∀b u,h.get? b=ς u->h'.get? b=ς u)(hp:h.objs.size<=a)(U:H a=ψ):Un fs ex H (upd H a o) h h' where
 keep:=fun b u q _ _ _=>k b u q
 slot:=fun b u q _ _ _=>⟨u.slots,k b u q⟩
 free:=fun b u q n _=>by rw[aq (qb8 (qc2 (qb0 q) hp))];exact n
 there:=fun b u q _=>⟨u,k b u q⟩
 tups:=fun b xs q=>by rw[aq (bA q U)];exact q
 frzs:=fun b u xs q=>by rw[aq (bA q U)];exact q
 tbls:=fun b ps q=>⟨#[],by rw[aq (bA q U),q];simp⟩
 cts:=fun b qs q=>by rw[aq (bA q U)];exact q
theorem Un.write(W:Mut (H x))(he:e=x∨H e=ς (.own x))(k:∀b u,b≠e->h.get? b=ς u->h'.get? b=ς u)(Z:∃u,h'.get? e=ς u):Un fs ex H (upd H x o) h h':=by
 have hx:∀b,H b=ψ->b≠x:=fun b n z=>by subst z;rw[n]at W;exact W
 have hb:∀b,H b=ψ->b≠e:=fun b n z=>by
  subst z;rcases he with r|r
  .exact hx b n r
  .rw[n]at r;cases r
 have Y:∀b u,H b=ς u->¬ Mut (ς u)->b≠x:=fun b u q nm z=>by subst z;rw[q]at W;exact nm W
 refine⟨fun b u q n _ _=>k b u (hb b n) q,fun b u q n _ _=>⟨u.slots,k b u (hb b n) q⟩,fun b u q n _=>by rw[aq (hx b n)];exact n,fun b u q _=>?_,fun b xs q=>by rw[aq (Y b _ q fun z=>z)];exact q,fun b u xs q=>by rw[aq (Y b _ q fun z=>z)];exact q,fun b ps q=>⟨#[],by rw[aq (Y b _ q fun z=>z),q];simp⟩,fun b xs q=>by rw[aq (Y b _ q fun z=>z)];exact q⟩
 by_cases U:b=e
 .subst U;exact Z
 .exact⟨u,k b u U q⟩
end
noncomputable def trk(h:Heap)(H:Hp):η J9:=(qb7 h.objs.size).filter fun a=>(H a).isSome
def lq(h:Heap)(H:Hp):Heap:=PySem.W.hideAll h (trk h H)
theorem tU(h:Heap)(H:Hp):(lq h H).objs.size=h.objs.size:=PySem.W.hideAll_size _ _
theorem vz{o:Obj}(e:h.get? b=ς o)(n:H b=ψ):(lq h H).get? b=ς o:=PySem.W.hideAll_get _ e fun U=>by have q:(H b).isSome=θ:=(qi1.mp U).2;rw[n]at q;simp at q
theorem zb{o:Obj}(e:(lq h H).get? b=ς o):h.get? b=ς o/\H b=ψ:=by
 have U:h.get? b=ς o:=PySem.W.of_hideAll (trk h H) e;refine⟨U,?_⟩;cases q:H b with
 |none=>rfl
 |some x=>have Y:b∈trk h H:=qi1.mpr ⟨qd8.mpr (qb0 U),by simp[q]⟩;have z:(lq h H).get? b=ψ:=PySem.W.hideAll_none (trk h H) Y;rw[z]at e;cases e
noncomputable def ze(g h:Heap)(L:J9):η (J9×Obj):=(qb7 h.objs.size).filterMap fun a=>if a=L∨(g.get? a).isSome=θ then ψ else(h.get? a).map fun o=>(a,o)
def rest(g h:Heap)(L d:J9):η (J9×Obj):=(ze g h L).filter fun p=>decide (p.1≠d)
def nestNames:η Str:=["way_to_reading","spoilt"]
noncomputable def ou(x:Str)(ss:η Jb):η ((Nat×Nat)×Str):=ss.filterMap fun st=>match st with
 |.FunctionDef name _ _ _ _ _ _ _ _ pos=>ς ((pos.line,pos.col),x++".<locals>."++name)
 |_=>ψ
def p9(K:xA9)(x:Str):ζ (J9×η ((Nat×Nat)×Str)):=match PySem.W.tabIn K x with
 |some (_,P)=>(match xB9 K qc1 x with
  |some (ς (.ref f))=>(match K.lookup f with
   |some o=>(match o.data with
    |.func fd=>(match fd.body with
     |.stmts b=>ς (P,ou x b)
     |_=>ψ)
    |_=>ψ)
   |none=>ψ)
  |_=>ψ)
 |none=>ψ
def cS(K:xA9):η (J9×η ((Nat×Nat)×Str)):=nestNames.filterMap (p9 K)
structure Mod(K:xA9)(mg:Str->Option Value)(base:Heap):Prop where
 kin:K.In base
 glob:base.Ns qc1 mg
 blt:∃mb,base.Ns qy2 mb/\∀x:Str,x≠"__name__"->mb x=qe0 x
 nolimit:base.NoLimit
structure Cx where
 prog:qc5
 w:Ja
 K:xA9
 mg:Str->Option Value
 base:Heap
 A:qe1
 N:List Str
 s₀:qa3
 H₀:Hp
 env:Env
 outer:List Env
 stack:List Env
 ex:List J9
 fn:Str->Bool
 calm:Bool
 pn:List (J9×Obj)
 xe:Value->qa3->Prop
noncomputable def frs(l:η Env):η J9:=l.filterMap (·.frame)
abbrev Cx.fs(X:Cx):η J9:=frs X.outer
def Vis(sc:Jd)(x:Str):Prop:=sc.names.lookup x=ς .local∨sc.names.lookup x=ς .cell∨sc.names.lookup x=ς .free
def Loc(sc:Jd)(x:Str):Prop:=sc.names.lookup x=ς .local∨sc.names.lookup x=ς .cell
def Look(env:Env)(h:Heap)(m:Str->ζ Value)(x:Str)(u:Value):Prop:=(env.kindOf x=ς .local/\m x=ς u)∨((env.kindOf x=ς .cell∨env.kindOf x=ς .free)/\∃c,env.cells.lookup x=ς c/\h.IsCell c (ς u))
structure Cx.Ok(X:Cx):Prop where
 mod:Mod X.K X.mg X.base
 kind:X.env.scope.kind=.function
 glob:X.env.globals=qc1
 blt:X.env.builtins=qy2
 above:X.s₀.heap.objs.size<=X.env.locals
 inj:∀x y c,X.env.cells.lookup x=ς c->X.env.cells.lookup y=ς c->x=y
 has:∀x,(X.env.kindOf x=ς .cell∨X.env.kindOf x=ς .free)->∃c,X.env.cells.lookup x=ς c
 cab:∀x c,X.fn x=θ->X.env.cells.lookup x=ς c->X.s₀.heap.objs.size<=c
 hd:X.calm=θ->X.A.handled=ψ
 frames:X.A.frames=ς X.stack
 stk:X.stack=X.outer∨(X.stack=X.env::X.outer/\X.env.frame=ς X.env.locals)
 exf:∀b∈X.ex,b≠X.env.locals/\∀x c,X.env.cells.lookup x=ς c->c≠b
 bs:∀b o,X.base.get? b=ς o->X.s₀.heap.get? b=ς o/\X.H₀ b=ψ
 bsz:X.base.objs.size<=X.s₀.heap.objs.size
 noex:∀b o,X.base.get? b=ς o->b∉X.ex
 exfs:∀b∈X.ex,b∉X.fs
 funs:X.s₀.heap.FunFrames X.base X.outer
 frf:∀b∈X.fs,X.H₀ b=ψ
 tb:∀p∈cS X.K,X.H₀ p.1=ς (.ctab p.2)
structure Inv(X:Cx)(J1:List (J9×Obj))(σ:List (Option V))(H:Hp)(s:qa3):Prop where
 ok:X.Ok
 os:s.os=X.s₀.os
 bare:zg0 s.gens
 base:Un X.fs X.ex X.H₀ H X.s₀.heap s.heap
 loc:∃m,s.heap.Ns X.env.locals m/\∀(i:Nat)(x:Str)(v:V),X.N[i]?=ς x->σ[i]?=ς (ς v)->Vis X.env.scope x->∃u,RelV v u/\Look X.env s.heap m x u
 cell:∀x c,X.env.cells.lookup x=ς c->∃v,s.heap.IsCell c v
 free:H X.env.locals=ψ
 freeC:∀x c,X.env.cells.lookup x=ς c->H c=ψ
 pin:∀p∈X.pn++J1,s.heap.get? p.1=ς p.2/\H p.1=ψ/\p.1≠X.env.locals/\p.1∉X.fs/\∀v,p.2.data≠.cell v
 hok:HOk X.prog X.w H s.heap
 len:σ.length=X.N.length
variable{g':Array GenState}{t' i j:Nat}{d':Drawn}{ch:η J9}{it:J9}{N:η Str}{x:Str}{M:Model}{A:qe1}{E:Value->qa3->Prop}{v:V}{Q:Unit->qa3->Prop}{s':qa3}
section
variable{X:Cx}{J1:η (J9×Obj)}{σ:η (ζ V)}{H H':Hp}{s:qa3}{h':Heap}
theorem Cx.Ok.nofr(ok:X.Ok){o:Obj}(e:X.base.get? b=ς o):b∉X.fs:=fun U=>by have:=(ok.funs.mem U).1;rw[e]at this;cases this
theorem Inv.bs(I:Inv X J1 σ H s):∀b o,X.base.get? b=ς o->s.heap.get? b=ς o/\H b=ψ:=fun b o e=>⟨I.base.keep b o (I.ok.bs b o e).1 (I.ok.bs b o e).2 (I.ok.nofr e) (I.ok.noex b o e),I.base.free b o (I.ok.bs b o e).1 (I.ok.bs b o e).2 (I.ok.noex b o e)⟩
theorem Inv.bk(I:Inv X J1 σ H s):∀b o,X.base.get? b=ς o->s.heap.get? b=ς o:=fun b o e=>(I.bs b o e).1
theorem Inv.mod(I:Inv X J1 σ H s):Mod X.K X.mg X.base:=I.ok.mod
theorem Inv.kIn(I:Inv X J1 σ H s):X.K.In s.heap:=I.ok.mod.kin.keeps I.bk
theorem Inv.fr(I:Inv X J1 σ H s):∃m,Fr X.base X.env.locals s.heap m:=
 let ⟨m,hn,_⟩:=I.loc
 ⟨m,hn,I.bk,qc0 I.ok.bsz I.ok.above⟩
theorem Inv.lt(I:Inv X J1 σ H s):X.env.locals<s.heap.objs.size:=let ⟨_,hn,_⟩:=I.loc;hn.lt
theorem Inv.sz(I:Inv X J1 σ H s):X.s₀.heap.objs.size<=s.heap.objs.size:=qc0 I.ok.above (qi2 I.lt)
theorem Inv.nofs(I:Inv X J1 σ H s)(h:s.heap.objs.size<=a):a∉X.fs:=fun U=>by obtain⟨_,o,W,_⟩:=I.ok.funs.mem U;exact absurd (qc2 (qb0 W) (qc0 I.sz h)) (qk4 _)
theorem Inv.cne(I:Inv X J1 σ H s):∀x c,X.env.cells.lookup x=ς c->c≠X.env.locals:=fun x c e z=>by obtain⟨v,o,Z,Y⟩:=I.cell x c e;obtain⟨m,⟨o',es,ep,U,W,_⟩,_⟩:=I.loc;rw[z,U]at Z;cases Z;rw[W]at Y;cases Y
theorem Inv.funs(I:Inv X J1 σ H s):s.heap.FunFrames X.base X.outer:=by
 have all:∀(l:η Env),(∀b∈frs l,b∈X.fs)->X.s₀.heap.FunFrames X.base l->s.heap.FunFrames X.base l:=by
  intro l;induction l with
  |nil=>intro _ _;trivial
  |cons env r ih=>
   intro Z hl;obtain⟨hk,⟨L,o,U,hn,ho,hd⟩,hr⟩:=hl;have Y:L∈X.fs:=Z L (by unfold frs;rw[qy6,U];exact qe7);obtain⟨sl,e⟩:=I.base.slot L o ho (I.ok.frf L Y) Y fun z=>I.ok.exfs L z Y
   exact⟨hk,⟨L,_,U,hn,e,hd⟩,ih (fun b W=>Z b (by unfold frs;rw[qy6,U];exact qd4 _ W)) hr⟩
 exact all X.outer (fun _ W=>W) I.ok.funs
theorem Inv.stack(I:Inv X J1 σ H s):s.heap.FunFrames X.base X.stack:=by
 rcases I.ok.stk with e|⟨e,U⟩
 .rw[e];exact I.funs
 .rw[e];obtain⟨m,W,_⟩:=I.loc;refine .cons (by rw[I.ok.kind];decide) U W ?_ I.funs;exact Heap.get?_none_of_le (qc0 I.ok.bsz I.ok.above)
theorem Inv.stkSub(I:Inv X J1 σ H s):∀b∈frs X.stack,b∈X.env.locals::X.fs:=fun b U=>by
 rcases I.ok.stk with e|⟨e,W⟩
 .rw[e]at U;exact qd4 _ U
 .rw[e]at U;unfold frs at U;rw[qy6,W]at U;exact U
theorem Inv.stkFree(I:Inv X J1 σ H s):∀b∈frs X.stack,H b=ψ:=fun b U=>by
 rcases qa5.mp (I.stkSub b U)with e|U
 .rw[e];exact I.free
 .obtain⟨_,o,W,_⟩:=I.ok.funs.mem U;exact I.base.free b o W (I.ok.frf b U) fun z=>I.ok.exfs b z U
def Inv.step(I:Inv X J1 σ H s)
 (Y:∀b∈ch,(b∈X.ex∨X.s₀.heap.objs.size<=b)/\b≠X.env.locals/\(∀x c,X.env.cells.lookup x=ς c->c≠b)/\∀p∈X.pn++J1,p.1≠b)
 (keep:∀b o,b≠X.env.locals->b∉X.fs->b∉ch->s.heap.get? b=ς o->H b=ψ->h'.get? b=ς o)
 (slot:∀b o,b≠X.env.locals->b∈X.fs->b∉ch->s.heap.get? b=ς o->H b=ψ->∃sl,h'.get? b=ς {o with slots:=sl}) (free:∀b o,b∉ch->s.heap.get? b=ς o->H b=ψ->H' b=ψ)
 (there:∀b o,b∉ch->s.heap.get? b=ς o->∃o',h'.get? b=ς o')
 (tups:∀b xs,H b=ς (.t xs)->H' b=ς (.t xs)) (frzs:∀b o u,H b=ς (.frz o u)->H' b=ς (.frz o u)) (tbls:∀b ps,H b=ς (.tbl ps)->∃more,H' b=ς (.tbl (ps++more))) (cts:∀b qs,H b=ς (.ctab qs)->H' b=ς (.ctab qs))
 (ns:∀m,s.heap.Ns X.env.locals m->h'.Ns X.env.locals m) (hok:HOk X.prog X.w H' h') (hg:zg0 g') :
  Inv X J1 σ H' {s with heap:=h',gens:=g',drawn:=d',toks:=t'}:=by
 have neL:∀b o,X.s₀.heap.get? b=ς o->b≠X.env.locals:=fun b o e=>qb8 (qc2 (qb0 e) I.ok.above)
 have neC:∀b o,X.s₀.heap.get? b=ς o->b∉X.ex->b∉ch:=fun b o e U hb=>by
  rcases(Y b hb).1 with z|z
  .exact U z
  .exact absurd (qc2 (qb0 e) z) (qk4 _)
 have Z:∀x c,X.env.cells.lookup x=ς c->∀v,s.heap.IsCell c v->h'.IsCell c v:=fun x c e v ⟨o,ho,hd⟩=>by
  have W:c∉ch:=fun z=>(Y c z).2.2.1 x c e rfl
  by_cases hc:c∈X.fs
  .obtain⟨sl,q⟩:=slot c o (I.cne x c e) hc W ho (I.freeC x c e);exact⟨_,q,hd⟩
  .exact⟨o,keep c o (I.cne x c e) hc W ho (I.freeC x c e),hd⟩
 refine⟨I.ok,I.os,hg,⟨fun b o e n hb U=>?_,fun b o e n hb U=>?_,fun b o e n U=>?_,fun b o e U=>?_,fun b xs e=>tups b xs (I.base.tups b xs e),fun b o xs e=>frzs b o xs (I.base.frzs b o xs e),fun b ps e=>?_,fun b qs e=>cts b qs (I.base.cts b qs e)⟩,?_,fun x c e=>?_,?_,fun x c e=>?_,fun p hp=>?_,hok,I.len⟩
 .exact keep b o (neL b o e) hb (neC b o e U) (I.base.keep b o e n hb U) (I.base.free b o e n U)
 .obtain⟨sl,e1⟩:=I.base.slot b o e n hb U;obtain⟨sl',e2⟩:=slot b _ (neL b o e) hb (neC b o e U) e1 (I.base.free b o e n U);exact⟨sl',e2⟩
 .obtain⟨o',e1⟩:=I.base.there b o e U;exact free b o' (neC b o e U) e1 (I.base.free b o e n U)
 .obtain⟨o',e1⟩:=I.base.there b o e U;exact there b o' (neC b o e U) e1
 .obtain⟨m1,e1⟩:=I.base.tbls b ps e;obtain⟨m2,e2⟩:=tbls b _ e1;exact⟨m1++m2,by rw[e2,Array.append_assoc]⟩
 .obtain⟨m,hn,hl⟩:=I.loc;refine⟨m,ns m hn,fun i x v e1 e2 e3=>?_⟩;obtain⟨u,r,l⟩:=hl i x v e1 e2 e3;refine⟨u,r,?_⟩;rcases l with l|⟨k,c,e,z⟩
  .exact .inl l
  .exact .inr ⟨k,c,e,Z x c e _ z⟩
 .obtain⟨v,z⟩:=I.cell x c e;exact⟨v,Z x c e v z⟩
 .obtain⟨m,⟨o,_,_,ho,_⟩,_⟩:=I.loc;exact free _ o (fun z=>(Y _ z).2.1 rfl) ho I.free
 .obtain⟨v,o,ho,hd⟩:=I.cell x c e;exact free c o (fun z=>(Y c z).2.2.1 x c e rfl) ho (I.freeC x c e)
 .obtain⟨e,n,ne,nf,d⟩:=I.pin p hp;have W:p.1∉ch:=fun z=>(Y p.1 z).2.2.2 p hp rfl
  exact⟨keep p.1 p.2 ne nf W e n,free p.1 p.2 W e n,ne,nf,d⟩
theorem Inv.un(I:Inv X J1 σ H s)(u:Un X.fs [] H H' s.heap h')(Y:HOk X.prog X.w H' h'):Inv X J1 σ H' {s with heap:=h',toks:=t'}:=by
 obtain⟨m,⟨o,es,ep,ho,r⟩,_⟩:=id I.loc;obtain⟨sl,hL⟩:=u.any ho I.free Ξ
 exact I.step (g':=s.gens) (d':=s.drawn) (ch:=[]) (fun _ z=>nomatch z) (fun b o _ hb _ e n=>u.keep b o e n hb Ξ) (fun b o _ hb _ e n=>u.slot b o e n hb Ξ) (fun b o _ e n=>u.free b o e n Ξ) (fun b o _ e=>u.there b o e Ξ) u.tups u.frzs u.tbls u.cts (fun m' hm=>by
  obtain⟨o',W,Z,U,r'⟩:=hm;rw[ho]at U;cases U
  exact⟨_,W,Z,hL,r'⟩) Y I.bare
theorem Inv.call{ch:η J9}(I:Inv X J1 σ H s)(u:Un (frs X.stack) ch H H' s.heap h')(hok:HOk X.prog X.w H' h')(hg:zg0 g')
 (Y:∀b∈ch,(b∈X.ex∨X.s₀.heap.objs.size<=b)/\b≠X.env.locals/\(∀x c,X.env.cells.lookup x=ς c->c≠b)/\∀p∈X.pn++J1,p.1≠b) :
  Inv X J1 σ H' {s with heap:=h',gens:=g',drawn:=d',toks:=t'}:=by
 obtain⟨m,⟨o,es,ep,ho,r⟩,_⟩:=id I.loc;obtain⟨sl,hL⟩:=u.any ho I.free fun z=>(Y _ z).2.1 rfl
 exact I.step (ch:=ch) Y (fun b o hL hb U e n=>u.keep b o e n (fun z=>(qa5.mp (I.stkSub b z)).elim hL hb) U) (fun b o _ _ U e n=>u.any e n U) (fun b o U e n=>u.free b o e n U) (fun b o U e=>u.there b o e U) u.tups u.frzs u.tbls u.cts (fun m' hm=>by
  obtain⟨o',Z,ep',W,r'⟩:=hm;rw[ho]at W;cases W
  exact⟨_,Z,ep',hL,r'⟩) hok hg
theorem Inv.turned(I:Inv X J1 σ H s)(k:∀b o,b≠it->s.heap.get? b=ς o->h'.get? b=ς o)(Z:H it=ψ)(Y:it≠X.env.locals)
 (h1:it∈X.ex∨X.s₀.heap.objs.size<=it) (h2:∀x c,X.env.cells.lookup x=ς c->c≠it) (h3:∀p∈X.pn++J1,p.1≠it):Inv X J1 σ H {s with heap:=h',toks:=t'}:=by
 have W:∀b u,H b=ς u->b≠it:=fun b u e z=>by rw[z,Z]at e;cases e
 refine I.step (g':=s.gens) (d':=s.drawn) (ch:=[it]) (fun b hb=>?_) (fun b o _ _ U e _=>k b o (fun z=>U (by simp[z])) e) (fun b o _ _ U e _=>⟨o.slots,k b o (fun z=>U (by simp[z])) e⟩) (fun _ _ _ _ n=>n)
  (fun b o U e=>⟨o,k b o (fun z=>U (by simp[z])) e⟩) (fun _ _ e=>e) (fun _ _ _ e=>e) (fun b ps e=>⟨#[],by rw[e];simp⟩) (fun _ _ e=>e) (fun m hm=>?_) (fun b u e=>?_) I.bare
 .have e:b=it:=by simpa using hb
  subst e;exact⟨h1,Y,h2,h3⟩
 .obtain⟨o,es,ep,ho,r⟩:=hm;exact⟨o,es,ep,k _ o (qh5 Y) ho,r⟩
 .refine(I.hok b u e).stay (fun c v U q=>k c v ?_ q) (fun _ q=>q) (fun _ _ q=>q) fun _ _ _ q=>q
  rcases U with z|z
  .rw[z];exact W b u e
  .exact W c _ z
theorem Inv.tok(I:Inv X J1 σ H s)(t:Nat):Inv X J1 σ H {s with toks:=t}:=I.un (h':=s.heap) (t':=t) Un.refl I.hok
theorem Inv.kept(I:Inv X J1 σ H s)(k:∀b u,s.heap.get? b=ς u->h'.get? b=ς u):Inv X J1 σ H {s with heap:=h',toks:=t'}:=I.un (Un.kept k) (I.hok.kept k)
theorem Inv.laid (I:Inv X J1 σ H s) (k:∀ b u,s.heap.get? b=ς u->h'.get? b=ς u) (hp:s.heap.objs.size<=a) (new:ObjOk X.prog X.w (upd H a o) h' a o) :
  Inv X J1 σ (upd H a o) {s with heap:=h',toks:=t'}:=I.un (Un.laid k hp (I.hok.fresh hp)) (I.hok.laid k hp new)
theorem Inv.write{x e:J9}(I:Inv X J1 σ H s)(Y:Mut (H x))(W:e=x∨H e=ς (.own x))(k:∀b u,b≠e->s.heap.get? b=ς u->h'.get? b=ς u)(U:∃u,h'.get? e=ς u)(new:ObjOk X.prog X.w (upd H x o) h' x o):Inv X J1 σ (upd H x o) {s with heap:=h',toks:=t'}:=I.un (Un.write Y W k U) (I.hok.write Y W k U new)
theorem Inv.weak{U:η (ζ V)}(I:Inv X J1 σ H s)(Z:U.length=σ.length)(w:∀(i:Nat) v,U[i]?=ς (ς v)->σ[i]?=ς (ς v)):Inv X J1 U H s:=⟨I.ok,I.os,I.bare,I.base,let ⟨m,hn,hl'⟩:=I.loc;⟨m,hn,fun i x v Y W e3=>hl' i x v Y (w i v W) e3⟩,I.cell,I.free,I.freeC,I.pin,I.hok,Z.trans I.len⟩
theorem Inv.pins_of{U:η (J9×Obj)}(I:Inv X J1 σ H s)(h:∀p∈U,s.heap.get? p.1=ς p.2/\H p.1=ψ/\p.1≠X.env.locals/\p.1∉X.fs/\∀v,p.2.data≠.cell v):Inv X U σ H s:=⟨I.ok,I.os,I.bare,I.base,I.loc,I.cell,I.free,I.freeC,fun p hp=>(qi3.mp hp).elim (fun z=>I.pin p (qi8 _ z)) (h p),I.hok,I.len⟩
theorem oy(Y:N.Nodup)(a:N[i]?=ς x)(b:N[j]?=ς x):i=j:=by obtain⟨h1,W⟩:=gX a;obtain⟨h2,U⟩:=gX b;exact(List.getElem_inj Y).mp (W.trans U.symm)
theorem lJ(I:Inv X J1 σ H s)(hN:X.N.Nodup)(hi:X.N[i]?=ς x)(hx:Loc X.env.scope x)(r:RelV v u)
 (h:∀s',Inv X J1 (σ.set i (ς v)) H s'->(∃a,qg2 a s.heap s'.heap/\(a=X.env.locals∨X.env.cells.lookup x=ς a))->Q () s') (hf:X.fn x=θ∨X.env.scope.names.lookup x=ς .local:=by first|exact .inl rfl|exact .inr rfl|assumption):wpAny M A (zg1 X.env x u) Q E s:=by
 obtain⟨m,hn,hl⟩:=id I.loc;have hcls:(X.env.scope.kind==.class||(X.env.scope.kind==.module&&X.env.locals != X.env.globals))=ξ:=by rw[I.ok.kind];rfl
 have hiσ:i<σ.length:=by rw[I.len];exact(gX hi).1
 have cne:=I.cne
 have Y:∀{a:J9}{h':Heap},(∃o,s.heap.get? a=ς o/\H a=ψ)->qg2 a s.heap h'->HOk X.prog X.w H h':=fun {a h'} ha U b ob e=>by
  obtain⟨_,_,hfree⟩:=ha;refine(I.hok b ob e).stay (fun c w' Z q=>(U.2 c ?_).trans q) (fun _ q=>q) (fun _ _ q=>q) fun _ _ _ q=>q
  rintro rfl;rcases Z with rfl|Z
  .rw[hfree]at e;cases e
  .rw[hfree]at Z;cases Z
 rcases hx with hk|hk
 .refine zg2 hk hn (fun h' hn' U=>?_) hcls;obtain⟨oL,_,_,hoL,_⟩:=id hn;refine h _ ⟨I.ok,I.os,I.bare,⟨fun b o e n hb hx=>?_,fun b o e n hb hx=>?_,I.base.free,fun b o e hx=>?_,I.base.tups,I.base.frzs,I.base.tbls,I.base.cts⟩,⟨_,hn',fun j y v' W e2 e3=>?_⟩,fun y c e=>?_,I.free,I.freeC,fun p hp=>?_,Y ⟨oL,hoL,I.free⟩ U,by simpa using I.len⟩ ⟨_,U,.inl rfl⟩
  .exact(U.2 b (qb8 (qc2 (qb0 e) I.ok.above))).trans (I.base.keep b o e n hb hx)
  .obtain⟨sl,W⟩:=I.base.slot b o e n hb hx;exact⟨sl,(U.2 b (qb8 (qc2 (qb0 e) I.ok.above))).trans W⟩
  .obtain⟨o',W⟩:=I.base.there b o e hx;exact⟨o',(U.2 b (qb8 (qc2 (qb0 e) I.ok.above))).trans W⟩
  .by_cases hj:j=i
   .subst hj;rw[hi]at W;cases W
    rw[qd0 hiσ]at e2;cases e2;exact⟨u,r,.inl ⟨hk,Ξ⟩⟩
   .rw[gN (qh5 hj)]at e2;obtain⟨u',r',q⟩:=hl j y v' W e2 e3;refine⟨u',r',?_⟩;rcases q with ⟨k,e⟩|⟨k,c,e,z⟩
    .refine .inl ⟨k,?_⟩;have:y≠x:=fun e=>hj (oy hN W (e▸hi))
     simp[this,e]
    .exact .inr ⟨k,c,e,z.sameBut U (cne y c e)⟩
  .obtain⟨w',z⟩:=I.cell y c e;exact⟨w',z.sameBut U (cne y c e)⟩
  .obtain⟨e,n,ne,nf,d⟩:=I.pin p hp;exact⟨(U.2 p.1 ne).trans e,n,ne,nf,d⟩
 .have hfn:X.fn x=θ:=by
   rcases hf with z|z
   .exact z
   .rw[z]at hk;cases hk
  obtain⟨c,Z⟩:=I.ok.has x (.inl hk);obtain⟨w',z⟩:=I.cell x c Z;refine wpAny_storeName_cell I.ok.kind hk Z z (fun h' hc' U=>?_);obtain⟨oc,hoc,hocd⟩:=id z;refine h {s with heap:=h'} ⟨I.ok,I.os,I.bare,⟨fun b o e n hb hx=>?_,fun b o e n hb hx=>?_,I.base.free,fun b o e hx=>?_,I.base.tups,I.base.frzs,I.base.tbls,I.base.cts⟩,⟨m,hn.sameBut U (qh5 (cne x c Z)),fun j y v' W e2 e3=>?_⟩,fun y c' e=>?_,I.free,I.freeC,fun p hp=>?_,Y ⟨oc,hoc,I.freeC x c Z⟩ U,by simpa using I.len⟩ ⟨c,U,.inr Z⟩
  .exact(U.2 b (qb8 (qc2 (qb0 e) (I.ok.cab x c hfn Z)))).trans (I.base.keep b o e n hb hx)
  .obtain⟨sl,W⟩:=I.base.slot b o e n hb hx;exact⟨sl,(U.2 b (qb8 (qc2 (qb0 e) (I.ok.cab x c hfn Z)))).trans W⟩
  .obtain⟨o',W⟩:=I.base.there b o e hx;exact⟨o',(U.2 b (qb8 (qc2 (qb0 e) (I.ok.cab x c hfn Z)))).trans W⟩
  .by_cases hj:j=i
   .subst hj;rw[hi]at W;cases W
    rw[qd0 hiσ]at e2;cases e2;exact⟨u,r,.inr ⟨.inl hk,c,Z,hc'⟩⟩
   .rw[gN (qh5 hj)]at e2;obtain⟨u',r',q⟩:=hl j y v' W e2 e3;refine⟨u',r',?_⟩;rcases q with q|⟨k,c',e,z'⟩
    .exact .inl q
    .refine .inr ⟨k,c',e,z'.sameBut U ?_⟩;rintro rfl;exact hj (oy hN W (I.ok.inj _ _ _ e Z▸hi))
  .by_cases hcc:c'=c
   .subst hcc;exact⟨_,hc'⟩
   .obtain⟨w2,z2⟩:=I.cell y c' e;exact⟨w2,z2.sameBut U hcc⟩
  .obtain⟨e,n,ne,nf,d⟩:=I.pin p hp;refine⟨(U.2 p.1 ?_).trans e,n,ne,nf,d⟩;intro q;rw[q,hoc]at e;have q':oc=p.2:=qd6 e;exact d w' (by rw[<- q'];exact hocd)
theorem hJ(I:Inv X J1 σ H s)(U:X.N.Nodup)(hi:X.N[i]?=ς x)(Z:Loc X.env.scope x)(r:RelV v u)
 (h:∀s',Inv X J1 (σ.set i (ς v)) H s'->Q () s') (W:X.fn x=θ∨X.env.scope.names.lookup x=ς .local:=by first|exact .inl rfl|exact .inr rfl|assumption):wpAny M A (zg1 X.env x u) Q E s:=
 lJ I U hi Z r (fun s' Y _=>h s' Y) W
theorem Inv.call'(I:Inv X J1 σ H s)(Y:s'.os=s.os)(u:Un (frs X.stack) ch H H' s.heap s'.heap)(U:HOk X.prog X.w H' s'.heap)(Z:zg0 s'.gens)
 (W:∀b∈ch,(b∈X.ex∨X.s₀.heap.objs.size<=b)/\b≠X.env.locals/\(∀x c,X.env.cells.lookup x=ς c->c≠b)/\∀p∈X.pn++J1,p.1≠b):Inv X J1 σ H' s':=by
 obtain⟨h',g',d',t',o'⟩:=s';have e:o'=s.os:=Y;subst e;exact I.call (g':=g') (t':=t') (d':=d') u U Z W
end
abbrev XK:=Value->ζ J9->Hp->Prop
abbrev St:=η (ζ V)
abbrev VK:=V->Hp->Prop
abbrev TE:=St->Hp->VK->Prop
abbrev TT:=St->Hp->(Bool->Hp->Prop)->Prop
abbrev TA:=St->Hp->(η V->Hp->Prop)->Prop
structure Ends where
 nx:St->Hp->Prop
 rt:VK
 bk:St->Hp->Prop:=fun _ _=>False
 ct:St->Hp->Prop:=fun _ _=>False
abbrev TS:=Ends->St->Hp->Prop
def EP(X:Cx)(J1:η (J9×Obj))(σ:St)(Q:VK)(u:Value)(s':qa3):Prop:=∃v H',Inv X J1 σ H' s'/\RelV v u/\Q v H'
def TP(X:Cx)(J1:η (J9×Obj))(σ:St)(Q:Bool->Hp->Prop)(b:Bool)(s':qa3):Prop:=∃H',Inv X J1 σ H' s'/\Q b H'
def AP(X:Cx)(J1:η (J9×Obj))(σ:St)(Q:η V->Hp->Prop)(us:η Value)(s':qa3):Prop:=∃vs H',Inv X J1 σ H' s'/\Vals vs us/\Q vs H'
def SP(X:Cx)(J1:η (J9×Obj))(D:Ends)(f:Flow)(s':qa3):Prop:=
 match f with
 |.next=>∃U H',Inv X J1 U H' s'/\D.nx U H'
 |.brk=>∃U H',Inv X J1 U H' s'/\D.bk U H'
 |.cont=>∃U H',Inv X J1 U H' s'/\D.ct U H'
 |.ret u=>∃v U H',Inv X J1 U H' s'/\RelV v u/\D.rt v H'
def PE(X:Cx)(e:Jc)(t:TE):Prop:=∀(J1:η (J9×Obj))(s:qa3)(σ:St)(H:Hp)(Q:VK),Inv X J1 σ H s->t σ H Q->wpAny (model X.prog X.w) X.A (eval e X.env) (EP X J1 σ Q) X.xe s
def PT(X:Cx)(e:Jc)(t:TT):Prop:=∀(J1:η (J9×Obj))(s:qa3)(σ:St)(H:Hp)(Q:Bool->Hp->Prop),Inv X J1 σ H s->t σ H Q->wpAny (model X.prog X.w) X.A (isTrue e X.env (eval e X.env)) (TP X J1 σ Q) X.xe s
def PW(X:Cx)(e:Jc)(t:TT):Prop:=∀(U:Sem Value)(J1:η (J9×Obj))(s:qa3)(σ:St)(H:Hp)(Q:Bool->Hp->Prop),Inv X J1 σ H s->t σ H Q->wpAny (model X.prog X.w) X.A (isTrue e X.env U) (TP X J1 σ Q) X.xe s
variable{X:Cx}{e:Jc}
def PW.pt{t:TT}(h:PW X e t):PT X e t:=h _
def PA(X:Cx)(es:η Jc)(t:TA):Prop:=∀(pos:Pos)(J1:η (J9×Obj))(s:qa3)(σ:St)(H:Hp)(Q:η V->Hp->Prop),Inv X J1 σ H s->t σ H Q->wpAny (model X.prog X.w) X.A (spliced (ql8 pos (qa8 es X.env))) (AP X J1 σ Q) X.xe s
def PS(X:Cx)(st:Jb)(t:TS):Prop:=∀(J1:η (J9×Obj))(s:qa3)(σ:St)(H:Hp)(D:Ends),Inv X J1 σ H s->t D σ H->wpAny (model X.prog X.w) X.A (exec st X.env) (SP X J1 D) X.xe s
def PSs(X:Cx)(st:η Jb)(t:TS):Prop:=∀(J1:η (J9×Obj))(s:qa3)(σ:St)(H:Hp)(D:Ends),Inv X J1 σ H s->t D σ H->wpAny (model X.prog X.w) X.A (execs st X.env) (SP X J1 D) X.xe s
variable{s:qa3}
theorem thn{α:Type}{t:Sem α}{Q U:α->qa3->Prop}(h:wpAny M A t Q E s)(W:∀a s,Q a s->U a s):wpAny M A t U E s:=ql9 h W fun _ _ x=>x
variable{J1:η (J9×Obj)}{σ:St}{R:V->V->Hp->Prop}{pos:Pos}{c:Jc}
section
variable{X:Cx}
theorem bin{a b:Jc}{ta tb:TE}(Z:PE X a ta)(hb:PE X b tb)(I:Inv X J1 σ H s)(h:ta σ H fun x H1=>tb σ H1 fun y H2=>R x y H2)
 {α:Type} {Q:α->qa3->Prop} {f:Value->Value->Sem α}
 (hf:∀v u Y x y H2,Inv X J1 σ H2 Y->RelV x v->RelV y u->R x y H2->wpAny (model X.prog X.w) X.A (f v u) Q X.xe Y) :
  wpAny (model X.prog X.w) X.A (eval a X.env) (fun v U=>wpAny (model X.prog X.w) X.A (eval b X.env) (fun u W=>wpAny (model X.prog X.w) X.A (f v u) Q X.xe W) X.xe U) X.xe s:=by
 refine thn (Z J1 s σ H _ I h) fun v s1 ⟨x,H1,I1,r1,q1⟩=>?_
 refine thn (hb J1 s1 σ H1 _ I1 q1) fun u Y ⟨y,H2,I2,r2,q2⟩=>?_
 exact hf v u Y x y H2 I2 r1 r2 q2
def fT(i:Nat):TE:=fun σ H Q=>∃v,σ[i]?=ς (ς v)/\Q v H
def tC(v:V):TE:=fun _ H Q=>Q v H
theorem Cp(hN:X.N[i]?=ς x)(hv:Vis X.env.scope x)(W:(x==("__debug__":Str))=ξ:=by decide)(Y:(x==("__classdict__":Str))=ξ:=by decide):PE X (.Name x pos) (fT i):=by
 intro J1 s σ H Q I h;obtain⟨v,e,h⟩:=h;obtain⟨m,hn,hl⟩:=I.loc;obtain⟨u,r,l⟩:=hl i x v hN e hv;have fin:EP X J1 σ Q u s:=⟨v,H,I,r,h⟩;rcases l with ⟨hk,hm⟩|⟨hk,c,Z,U⟩
 .exact wpAny_Name (wpAny_loadName_local I.ok.kind hk hn hm fin) W
 .rcases hk with hk|hk
  .exact wpAny_Name (wpAny_loadName_cell I.ok.kind hk Z U fin) W
  .exact wpAny_Name (wpAny_loadName_free I.ok.kind hk Z U fin Y) W
theorem Cq{i j pos}:PE X (.Constant (.int i) j pos) (tC (.int i)):=fun _ _ _ H _ I h=>wpAny_Constant_int ⟨.int i,H,I.tok _,⟨_,rfl⟩,h⟩
theorem E9{b j pos}:PE X (.Constant (.bool b) j pos) (tC (.bl b)):=fun _ _ _ H _ I h=>Constant_bool ⟨.bl b,H,I,rfl,h⟩
theorem Cr{j pos}:PE X (.Constant .none j pos) (tC .non):=fun _ _ _ H _ I h=>Constant_none ⟨.non,H,I,rfl,h⟩
theorem Cs{x j pos}:PE X (.Constant (.str x) j pos) (tC (.str x)):=fun _ _ _ H _ I h=>Calls.Constant_str ⟨.str x,H,I.tok _,⟨_,rfl⟩,h⟩
def Gl(X:Cx)(x:Str):Prop:=X.env.kindOf x=ς .globalImplicit
theorem mO{Q:Value->qa3->Prop}(I:Inv X J1 σ H s)(Y:Gl X x)(U:X.mg x=ς u)(h:Q u s)
 (W:(x==("__debug__":Str))=ξ:=by decide):wpAny (model X.prog X.w) X.A (eval (.Name x pos) X.env) Q E s:=
 za0 I.ok.kind Y (Calls.loadGlobal_global (by rw[I.ok.glob];exact I.mod.glob.keeps I.bk) U h) W
theorem eF{Q:Value->qa3->Prop}(I:Inv X J1 σ H s)(Y:Gl X x)(Z:X.mg x=ψ)(W:qe0 x=ς u)(h:Q u s)
 (hn:x≠"__name__":=by decide) (U:(x==("__debug__":Str))=ξ:=by decide):wpAny (model X.prog X.w) X.A (eval (.Name x pos) X.env) Q E s:=by
 obtain⟨mb,h1,h2⟩:=I.mod.blt;exact za0 I.ok.kind Y (Calls.loadGlobal_builtin (by rw[I.ok.glob];exact I.mod.glob.keeps I.bk) Z (by rw[I.ok.blt];exact h1.keeps I.bk) ((h2 x hn).trans W) h) U
theorem zf(W:Gl X x)(Y:X.mg x=ς u)(r:RelV v u)(U:(x==("__debug__":Str))=ξ:=by decide):PE X (.Name x pos) (tC v):=fun _ _ _ H _ I h=>mO I W Y ⟨v,H,I,r,h⟩ U
theorem zg(Y:Gl X x)(Z:X.mg x=ψ)(W:qe0 x=ς u)(r:RelV v u)(hn:x≠"__name__":=by decide)(U:(x==("__debug__":Str))=ξ:=by decide):PE X (.Name x pos) (tC v):=fun _ _ _ H _ I h=>eF I Y Z W ⟨v,H,I,r,h⟩ hn U
variable{a b:Jc}{ta tb:TE}{pos:Pos}
def PC(X:Cx)(op:CmpOp)(a b:Jc)(t:TE):Prop:=
 ∀(J1:η (J9×Obj))(s:qa3)(σ:St)(H:Hp)(Q:VK),Inv X J1 σ H s->t σ H Q→
  wpAny (model X.prog X.w) X.A (eval a X.env) (fun v W=>wpAny (model X.prog X.w) X.A (eval b X.env) (fun u U=>wpAny (model X.prog X.w) X.A (qh8 op v u) (EP X J1 σ Q) X.xe U) X.xe W) X.xe s
def tB(t:TE):TT:=fun σ H Q=>t σ H fun x H1=>∃c,x=.bl c/\Q c H1
theorem Ct{op:CmpOp}{t:TE}(h:PC X op a b t)(h1:qj4 op b=ξ:=by first|exact nobehind _ Ω Ω|rfl):PE X (.Compare a [op] [b] pos) t:=fun J1 s σ H Q I U=>wpAny_Compare1 (h J1 s σ H Q I U) h1
theorem mP{op:CmpOp}{t:TE}(h:PC X op a b t)(h1:qj4 op b=ξ:=by first|exact nobehind _ Ω Ω|rfl):PT X (.Compare a [op] [b] pos) (tB t):=by intro J1 s σ H Q I U;refine zg3 (thn (h J1 s σ H _ I U) fun v s1 h1=>thn h1 fun u Z h2=>thn h2 fun c s3 ⟨x,H1,W,Y,q1⟩=>?_) h1;obtain⟨d,rfl,q⟩:=q1;cases Y;exact qo4 ⟨H1,W,q⟩
variable{tA tB':TT}{rest:η Jc}
def tAnd(t u:TT):TT:=fun σ H Q=>t σ H fun c H1=>if c=θ then u σ H1 Q else Q ξ H1
def tOr(t u:TT):TT:=fun σ H Q=>t σ H fun c H1=>if c=θ then Q θ H1 else u σ H1 Q
def tNot(t:TT):TT:=fun σ H Q=>t σ H fun c H1=>Q (!c) H1
theorem zh(U:PT X a tA):PW X (.BoolOp .And [a] pos) tA:=by
 intro W J1 s σ H Q I h;refine isTrue_and (thn (U J1 s σ H Q I h) fun c s1 e=>?_);cases c with
 |true=>exact isTrue_and_nil e
 |false=>exact e
theorem Cu(U:PT X a tA):PW X (.BoolOp .Or [a] pos) tA:=by
 intro W J1 s σ H Q I h;refine isTrue_or (thn (U J1 s σ H Q I h) fun c s1 e=>?_);cases c with
 |false=>exact isTrue_or_nil e
 |true=>exact e
theorem Cv(W:PT X a tA)(Z:PW X (.BoolOp .And (b::rest) pos) tB'):PW X (.BoolOp .And (a::b::rest) pos) (tAnd tA tB'):=by
 intro Y J1 s σ H Q I h;refine isTrue_and (thn (W J1 s σ H _ I h) fun c s1 ⟨H1,U,q1⟩=>?_);cases c with
 |true=>exact Z Y J1 s1 σ H1 Q U q1
 |false=>exact⟨H1,U,q1⟩
theorem Fa(W:PT X a tA)(Z:PW X (.BoolOp .Or (b::rest) pos) tB'):PW X (.BoolOp .Or (a::b::rest) pos) (tOr tA tB'):=by
 intro Y J1 s σ H Q I h;refine isTrue_or (thn (W J1 s σ H _ I h) fun c s1 ⟨H1,U,q1⟩=>?_);cases c with
 |true=>exact⟨H1,U,q1⟩
 |false=>exact Z Y J1 s1 σ H1 Q U q1
theorem Cw(U:PT X a tA):PT X (.UnaryOp .Not a pos) (tNot tA):=by intro J1 s σ H Q I h;exact isTrue_not (U J1 s σ H (fun c H1=>Q (!c) H1) I h)
def Fb(ta tb:TE):TE:=fun σ H Q=>ta σ H fun x H1=>∃c,x=.bl c/\if c=θ then tb σ H1 Q else Q (.bl ξ) H1
theorem Cy{op}{t:TE}(h:PE X a t):PE X (.BoolOp op [a] pos) t:=fun J1 s σ H Q I U=>BoolOp_one (h J1 s σ H Q I U)
theorem Cz(W:PE X a ta)(Y:PE X (.BoolOp .And (b::rest) pos) tb):PE X (.BoolOp .And (a::b::rest) pos) (Fb ta tb):=by
 intro J1 s σ H Q I h;refine BoolOp_and (thn (W J1 s σ H _ I h) fun v s1 ⟨x,H1,U,Z,q1⟩=>?_);obtain⟨c,rfl,q1⟩:=q1;cases Z;refine qo4 ?_;cases c with
 |true=>exact Y J1 s1 σ H1 Q U q1
 |false=>exact⟨.bl ξ,H1,U,rfl,q1⟩
def tIf(t:TT)(ta tb:TE):TE:=fun σ H Q=>t σ H fun c H1=>if c=θ then ta σ H1 Q else tb σ H1 Q
theorem vA(Y:PT X c tA)(W:PE X a ta)(Z:PE X b tb):PE X (.IfExp c a b pos) (tIf tA ta tb):=by
 intro J1 s σ H Q I h;refine wpAny_IfExp (thn (Y J1 s σ H _ I h) fun d s1 ⟨H1,U,q1⟩=>?_);cases d with
 |true=>exact W J1 s1 σ H1 Q U q1
 |false=>exact Z J1 s1 σ H1 Q U q1
end
def SqL(K:xA9)(H:Hp)(a:J9)(xs:η V):Prop:=Rd H a (.e xs)∨∃(o:Obj)(J8:Array Value)(n:Nat),K.lookup a=ς o/\o.cls=.type "list"/\o.dict=ψ/\o.data=.seq J8 n/\J8.size<=qb2/\Vals xs J8.toList
def SqT(K:xA9)(H:Hp)(a:J9)(xs:η V):Prop:=H a=ς (.t xs)∨∃(o:Obj)(J8:Array Value)(n:Nat),K.lookup a=ς o/\o.cls=.type "tuple"/\o.data=.seq J8 n/\J8.size<=qb2/\Vals xs J8.toList
def absV:Value->ζ V
 |.none=>ς .non
 |.bool b=>ς (.bl b)
 |.int i _=>ς (.int i)
 |.str x _=>ς (.str x)
 |.bytes b _=>ς (.byt b)
 |.float b _=>ς (.flt b)
 |.ref a=>ς (.ref a)
 |.type n=>ς (.ty n)
 |_=>ψ
def RelV.abs{x:V}(r:RelV x u):absV u=ς x:=by
 cases x with
 |non=>cases r;rfl
 |bl _=>cases r;rfl
 |int _=>obtain⟨t,rfl⟩:=r;rfl
 |str _=>obtain⟨t,rfl⟩:=r;rfl
 |byt _=>obtain⟨t,rfl⟩:=r;rfl
 |flt _=>obtain⟨t,rfl⟩:=r;rfl
 |ref _=>cases r;rfl
 |ty _=>cases r;rfl
variable{y:V}
theorem RelV.inj{x:V}(r:RelV x u)(q:RelV y u):x=y:=qd6 (r.abs.symm.trans q.abs)
theorem Vals.inj:∀{xs ys:η V}{us:η Value},Vals xs us->Vals ys us->xs=ys
 |_,_,_,.nil,.nil=>rfl
 |_,_,_,.cons r t,.cons U t'=>by rw[r.inj U,Vals.inj t t']
variable{K:xA9}
section
variable{X:Cx}{J1:η (J9×Obj)}{σ:St}{H:Hp}{s:qa3}{a:J9}{xs ys:η V}
theorem SqL.of(h:H a=ς (.e xs)):SqL K H a xs:=.inl (.inl h)
def SqT.of(h:H a=ς (.t xs)):SqT K H a xs:=.inl h
theorem Inv.list(I:Inv X J1 σ H s)(h:SqL X.K H a xs):∃J8:η Value,Vals xs J8/\PlainL s.heap a J8.toArray/\xs.length<=qb2:=by
 rcases h with h|⟨o,J8,n,hk,Y,U,W,Z,r⟩
 .obtain⟨z,J8,n,r,e⟩:=h.ok I.hok;exact⟨J8,r,⟨_,n,e,rfl,rfl,rfl⟩,z⟩
 .refine⟨J8.toList,r,⟨o,n,I.kIn a o hk,Y,U,by simpa using W⟩,?_⟩;have e:=r.length;simp only[qf1]at e;lia
theorem Inv.tuple(I:Inv X J1 σ H s)(h:SqT X.K H a xs):∃J8:η Value,Vals xs J8/\IsTup s.heap a J8.toArray/\xs.length<=qb2:=by
 rcases h with h|⟨o,J8,n,hk,W,U,Y,r⟩
 .obtain⟨z,J8,r,p⟩:=(Rd.of h).ok I.hok;exact⟨J8,r,p,z⟩
 .refine⟨J8.toList,r,⟨o,I.kIn a o hk,W,n,by simpa using U⟩,?_⟩;have e:=r.length;simp only[qf1]at e;lia
theorem Inv.list_inj(I:Inv X J1 σ H s)(h:SqL X.K H a xs)(h':SqL X.K H a ys):xs=ys:=by
 obtain⟨J8,r,⟨o,n,e,_,_,d⟩,_⟩:=I.list h;obtain⟨its',W,⟨o',Z,U,_,_,d'⟩,_⟩:=I.list h';rw[e]at U;cases U
 rw[d]at d';injection d' with Y _;have:J8=its':=by simpa using congrArg zl6 Y
 subst this;exact r.inj W
theorem Inv.tuple_inj(I:Inv X J1 σ H s)(h:SqT X.K H a xs)(h':SqT X.K H a ys):xs=ys:=by
 obtain⟨J8,r,⟨o,e,_,n,d⟩,_⟩:=I.tuple h;obtain⟨its',W,⟨o',U,_,Z,d'⟩,_⟩:=I.tuple h';rw[e]at U;cases U
 rw[d]at d';injection d' with Y _;have:J8=its':=by simpa using congrArg zl6 Y
 subst this;exact r.inj W
end
noncomputable abbrev Cx.wish(X:Cx)(E:Value->qa3->Prop):Cx:={X with xe:=E}
abbrev Cx.nox(X:Cx):Cx:=X.wish fun _ _=>False
theorem Cx.Ok.wish(ok:X.Ok)(E:Value->qa3->Prop):(X.wish E).Ok:=⟨ok.mod,ok.kind,ok.glob,ok.blt,ok.above,ok.inj,ok.has,ok.cab,ok.hd,ok.frames,ok.stk,ok.exf,ok.bs,ok.bsz,ok.noex,ok.exfs,ok.funs,ok.frf,ok.tb⟩
theorem Cx.Ok.unwish(ok:(X.wish E).Ok):X.Ok:=⟨ok.mod,ok.kind,ok.glob,ok.blt,ok.above,ok.inj,ok.has,ok.cab,ok.hd,ok.frames,ok.stk,ok.exf,ok.bs,ok.bsz,ok.noex,ok.exfs,ok.funs,ok.frf,ok.tb⟩
section
variable{X:Cx}{J1:η (J9×Obj)}{σ:St}{H:Hp}{s:qa3}{E:Value->qa3->Prop}
theorem Inv.wish(I:Inv X J1 σ H s)(E:Value->qa3->Prop):Inv (X.wish E) J1 σ H s:=⟨I.ok.wish E,I.os,I.bare,I.base,I.loc,I.cell,I.free,I.freeC,I.pin,I.hok,I.len⟩
theorem Inv.unwish(I:Inv (X.wish E) J1 σ H s):Inv X J1 σ H s:=⟨I.ok.unwish,I.os,I.bare,I.base,I.loc,I.cell,I.free,I.freeC,I.pin,I.hok,I.len⟩
theorem SP.unwish{D:Ends}{f:Flow}(h:SP (X.wish E) J1 D f s'):SP X J1 D f s':=by
 cases f with
 |next=>obtain⟨U,H',I,q⟩:=h;exact⟨U,H',I.unwish,q⟩
 |brk=>obtain⟨U,H',I,q⟩:=h;exact⟨U,H',I.unwish,q⟩
 |cont=>obtain⟨U,H',I,q⟩:=h;exact⟨U,H',I.unwish,q⟩
 |ret u=>obtain⟨v,U,H',I,r,q⟩:=h;exact⟨v,U,H',I.unwish,r,q⟩
theorem PSs.nox{st:η Jb}{t:TS}(h:PSs X.nox st t):PSs X st t:=fun J1 s σ H D I U=>ql9 (h J1 s σ H D (I.wish _) U) (fun _ _ q=>q.unwish) fun _ _ z=>qg9 z
end
variable{tc:TT}
section
variable{X:Cx}{st:Jb}{rest:η Jb}{t u:TS}{e:Jc}{te:TE}{pos:Pos}
def Fc:TS:=fun D σ H=>D.nx σ H
def tSeq(t u:TS):TS:=fun D σ H=>t {D with nx:=u D} σ H
theorem mQ:PSs X [] Fc:=fun _ _ σ H _ I h=>qy7 ⟨σ,H,I,h⟩
theorem hV(h1:PS X st t)(h2:PSs X rest u):PSs X (st::rest) (tSeq t u):=by
 intro J1 s σ H D I h;refine wpAny_execs_cons (thn (h1 J1 s σ H {D with nx:=u D} I h) fun f s1 q=>?_);cases f with
 |next=>obtain⟨U,H',W,q⟩:=q;exact h2 J1 s1 U H' D W q
 |ret v=>exact q
 |brk=>exact q
 |cont=>exact q
def rH(h1:PS X st t):PSs X [st] t:=by
 intro J1 s σ H D I h;refine wpAny_execs_cons (thn (h1 J1 s σ H D I h) fun f s1 q=>?_);cases f with
 |next=>exact qy7 q
 |ret v=>exact q
 |brk=>exact q
 |cont=>exact q
def CA:TS:=fun D σ H=>D.bk σ H
theorem vC:PS X (.Break pos) CA:=fun _ _ σ H _ I h=>wpAny_Break ⟨σ,H,I,h⟩
theorem Inv.quiet(I:Inv X J1 σ H s):interactive X.env=ξ:=by simp[interactive,I.ok.kind]
def Fd(te:TE):TS:=fun D σ H=>te σ H fun _ H1=>D.nx σ H1
theorem mR(W:PE X e te)(U:qo5 e ψ pos.line X.env=pure ξ:=by rfl):PS X (.Expr e pos) (Fd te):=by intro J1 s σ H D I h;exact wpAny_Expr_any (thn (W J1 s σ H _ I h) fun v s1 ⟨x,H1,Y,Z,q1⟩=>⟨σ,H1,Y,q1⟩) I.quiet U
def tRet(te:TE):TS:=fun D σ H=>te σ H D.rt
theorem qb(U:PE X e te):PS X (.Return (ς e) pos) (tRet te):=by intro J1 s σ H D I h;exact wpAny_Return_some (thn (U J1 s σ H _ I h) fun v s1 ⟨x,H1,W,Y,q1⟩=>⟨x,σ,H1,W,Y,q1⟩)
def tIfS(c:TT)(t u:TS):TS:=fun D σ H=>c σ H fun b H1=>if b=θ then t D σ H1 else u D σ H1
theorem vD{a b:η Jb}(Y:PT X c tc)(W:PSs X a t)(Z:PSs X b u):PS X (.If c a b pos) (tIfS tc t u):=by
 intro J1 s σ H D I h;refine wpAny_If (thn (Y J1 s σ H _ I h) fun d s1 ⟨H1,U,q1⟩=>?_);cases d with
 |true=>exact W J1 s1 σ H1 D U q1
 |false=>exact Z J1 s1 σ H1 D U q1
end
abbrev TG:=V->St->Hp->(St->Hp->Prop)->Prop
abbrev TGs:=η V->St->Hp->(St->Hp->Prop)->Prop
def PG(X:Cx)(U:Jc)(t:TG):Prop:=
 ∀(J1:η (J9×Obj))(s:qa3)(σ:St)(H:Hp)(v:V)(u:Value)(Q:St->Hp->Prop),Inv X J1 σ H s->RelV v u->t v σ H Q→
  wpAny (model X.prog X.w) X.A (zb4 U X.env u) (fun _ s'=>∃W H',Inv X J1 W H' s'/\Q W H') X.xe s
def PGs(X:Cx)(ts:η Jc)(t:TGs):Prop:=
 ∀(J1:η (J9×Obj))(s:qa3)(σ:St)(H:Hp)(vs:η V)(us:η Value)(Q:St->Hp->Prop),Inv X J1 σ H s->Vals vs us->t vs σ H Q→
  wpAny (model X.prog X.w) X.A (assignInOrder ((qj9 ts X.env).map (·.2)) us) (fun _ s'=>∃U H',Inv X J1 U H' s'/\Q U H') X.xe s
abbrev CB:=V->V->V->Hp->(Hp->Prop)->Prop
def PSet(X:Cx)(t:CB):Prop:=
 ∀(J1:η (J9×Obj))(s:qa3)(σ:St)(H:Hp)(o i v:V)(W U u:Value)(Q:Hp->Prop),Inv X J1 σ H s->RelV o W->RelV i U->RelV v u->t o i v H Q→
  wpAny (model X.prog X.w) X.A (setItem W U u) (fun _ s'=>∃H',Inv X J1 σ H' s'/\Q H') X.xe s
abbrev TIp:=V->V->Hp->VK->Prop
def PIp(X:Cx)(op:Operator)(t:TIp):Prop:=
 ∀(J1:η (J9×Obj))(s:qa3)(σ:St)(H:Hp)(x y:V)(v u:Value)(Q:VK),Inv X J1 σ H s->RelV x v->RelV y u->t x y H Q→
  wpAny (model X.prog X.w) X.A (inplaceOp op v u) (EP X J1 σ Q) X.xe s
variable{es:η Jc}{n:Nat}{tg:Jc}{te:TE}{g:TG}{pos':Pos}
section
variable{X:Cx}{pos:Pos}
def hW(i:Nat):TG:=fun v σ H Q=>Q (σ.set i (ς v)) H
theorem rJ(U:X.N.Nodup)(hi:X.N[i]?=ς x)(Z:Loc X.env.scope x)(W:X.fn x=θ∨X.env.scope.names.lookup x=ς .local:=by first|exact .inl rfl|exact .inr rfl|assumption):PG X (.Name x pos) (hW i):=by intro J1 s σ H v u Q I r h;exact wpAny_assign_Name (hJ I U hi Z r (fun s' Y=>⟨_,H,Y,h⟩) W)
def gNil:TGs:=fun vs σ H Q=>vs=[]/\Q σ H
def Fe(t:TG)(u:TGs):TGs:=fun vs σ H Q=>∃v r,vs=v::r/\t v σ H fun U H'=>u r U H' Q
theorem rK:PGs X [] gNil:=by intro J1 s σ H vs us Q I r h;obtain⟨e,h⟩:=h;subst e;cases r;exact assignInOrder_nil ⟨σ,H,I,h⟩
def j2{t:TG}{u:TGs}(h1:PG X e t)(h2:PGs X es u)
 (W:(qj9 (e::es) X.env).map (·.2)=zb4 e X.env::(qj9 es X.env).map (·.2):=by rfl):PGs X (e::es) (Fe t u):=by
 intro J1 s σ H vs us Q I r h;obtain⟨v,vr,Y,h⟩:=h;subst Y;cases r with
 |cons r Z=>rw[W];refine assignInOrder_cons (thn (h1 J1 s σ H _ _ _ I r h) fun _ s1 ⟨U,H1,I1,q1⟩=>?_);exact h2 J1 s1 U H1 _ _ Q I1 Z q1
def gTup(K:xA9)(n:Nat)(t:TGs):TG:=fun v σ H Q=>∃a xs,v=.ref a/\SqT K H a xs/\xs.length=n/\t xs σ H Q
def vE{k:Nat}{t:TGs}(hc:X.calm=θ)(h:PGs X es t)
 (hn:(qj9 es X.env).length=n:=by rfl) (U:(qj9 es X.env).findIdx? (·.1)=ψ:=by rfl):PG X (.Tuple es k pos) (gTup X.K n t):=by
 intro J1 s σ H v u Q I r W;obtain⟨a,xs,e1,hq,Z,W⟩:=W;subst e1;cases r;obtain⟨J8,Y,ht,hz⟩:=I.tuple hq;refine assign_Tuple_tuple (I.ok.hd hc) ht (by simp[hn,<- Z,Y.length]) U fun h' hx=>?_
 have I1:Inv X J1 σ H {s with heap:=h'}:=I.kept (t':=s.toks) fun b o e=>hx b o (qb8 (qb0 e)) e
 exact h J1 _ σ H xs _ Q I1 (by simpa using Y) W
def gSub(to ti:TE)(t:CB):TG:=fun v σ H Q=>to σ H fun o H1=>ti σ H1 fun i H2=>t o i v H2 fun U=>Q σ U
theorem CC {o i:Jc} {to ti:TE} {t:CB} (ho:PE X o to) (hi:PE X i ti) (hs:PSet X t)
  (ha:∀v,zb4 (.Subscript o i pos) X.env v=(do
   let U <- qy8 [v] (eval o X.env);let W <- qy8 [v,U] (eval i X.env)
   standAt pos
   qy8 [v,U,W] (setItem U W v)
   release [v,U,W] []):=by intro _;rfl):PG X (.Subscript o i pos) (gSub to ti t):=by
 intro J1 s σ H v u Q I r h;rw[ha];refine wB (qh9 (thn (ho J1 s σ H _ I h) fun U s1 ⟨x,H1,I1,r1,q1⟩=>?_));refine wB (qh9 (thn (hi J1 s1 σ H1 _ I1 q1) fun W s2 ⟨y,H2,Y,r2,q2⟩=>?_));refine wB (zj8 (wB (qh9 (thn (hs J1 s2 σ H2 x y v U W u _ Y r1 r2 r q2) fun _ s3 ⟨H3,I3,Z⟩=>?_))));exact wpAny_release ⟨σ,H3,I3,Z⟩
def zi(te:TE)(g:TG):TS:=fun D σ H=>te σ H fun x H1=>g x σ H1 D.nx
theorem vF(Y:PE X e te)(U:PG X tg g)(W:zj9 [tg] e pos.line X.env=pure ξ:=by rfl)(Z:zk0 [tg] e X.env=pure ψ:=by rfl)
 (h1:(qj9 [tg] X.env).map (·.2)=[zb4 tg X.env]:=by rfl):PS X (.Assign [tg] e pos) (zi te g):=by
 intro J1 s σ H D I h;refine wpAny_Assign_stores (thn (Y J1 s σ H _ I h) fun v s1 ⟨x,H1,I1,r1,q1⟩=>?_) W Z;rw[h1];exact thn (U J1 s1 σ H1 x v _ I1 r1 q1) fun _ s2 q=>q
theorem CD (U:X.N.Nodup) (hi:X.N[i]?=ς x) (hx:Loc X.env.scope x) (Y:PE X e te) (W:qo5 e (ς (.Name x pos')) pos.line X.env=pure ξ:=by rfl) (Z:X.fn x=θ∨X.env.scope.names.lookup x=ς .local:=by first | exact .inl rfl | exact .inr rfl | assumption) :
  PS X (.Assign [.Name x pos'] e pos) (zi te (hW i)):=by
 intro J1 s σ H D I h;refine wpAny_Assign_Name (thn (Y J1 s σ H _ I h) fun v s1 ⟨y,H1,I1,r1,q1⟩=>?_) W;exact hJ I1 U hi hx r1 (fun s2 I2=>⟨_,H1,I2,q1⟩) Z
def tAug(i:Nat)(te:TE)(ti:TIp):TS:=fun D σ H=>∃x,σ[i]?=ς (ς x)/\te σ H fun y H1=>ti x y H1 fun z H2=>D.nx (σ.set i (ς z)) H2
theorem CG {op:Operator} {ti:TIp} (hN:X.N.Nodup) (hi:X.N[i]?=ς x) (Z:Loc X.env.scope x) (he:PE X e te) (ho:PIp X op ti) (hf:X.fn x=θ∨X.env.scope.names.lookup x=ς .local:=by first | exact .inl rfl | exact .inr rfl | assumption) :
  PS X (.AugAssign (.Name x pos') op e pos) (tAug i te ti):=by
 intro J1 s σ H D I h;obtain⟨v,e1,h⟩:=h;obtain⟨m,hn,hl⟩:=I.loc;have Y:Vis X.env.scope x:=by rcases Z with k|k;exact .inl k;exact .inr (.inl k)
 obtain⟨u,r,l⟩:=hl i x v hi e1 Y;refine wpAny_AugAssign_Name ?_
 have go:wpAny (model X.prog X.w) X.A (eval e X.env) (fun w W=>wpAny (model X.prog X.w) X.A (inplaceOp op u w) (fun r s₃=>wpAny (model X.prog X.w) X.A (zg1 X.env x r) (fun _=>SP X J1 D .next) X.xe s₃) X.xe W) X.xe s:=by
  refine thn (he J1 s σ H _ I h) fun w s1 ⟨y,H1,I1,r1,q1⟩=>?_
  refine thn (ho J1 s1 σ H1 v y u w _ I1 r r1 q1) fun z s2 ⟨zv,H2,I2,r2,q2⟩=>?_
  exact hJ I2 hN hi Z r2 (fun s3 I3=>⟨_,H2,I3,q2⟩) hf
 rcases l with ⟨hk,hm⟩|⟨hk,c,hc,U⟩
 .exact wpAny_loadName_local I.ok.kind hk hn hm go
 .rcases hk with hk|hk
  .exact wpAny_loadName_cell I.ok.kind hk hc U go
  .rcases Z with k|k
   .have:X.env.scope.names.lookup x=ς .free:=hk;rw[k]at this;cases this
   .have:X.env.scope.names.lookup x=ς .free:=hk;rw[k]at this;cases this
def ipI(f:Int->Int->Int):TIp:=fun x y H Q=>∃i j,x=.int i/\y=.int j/\Q (.int (f i j)) H
theorem CH:PIp X .Add (ipI fun i j=>i+j):=by intro J1 s σ H x y v u Q I Y Z h;obtain⟨i,j,W,U,q⟩:=h;subst W;subst U;obtain⟨t,rfl⟩:=Y;obtain⟨t',rfl⟩:=Z;exact iadd_int ⟨.int _,H,I.tok _,⟨_,rfl⟩,q⟩
end
variable{body:η Jb}{tb:TS}
section
variable{X:Cx}{pos:Pos}
def CI(c:TT)(tb:TS):TS:=fun D σ H=>∃W:Nat->St->Hp->Prop,(∃m,W m σ H)/\∀m σ H,W m σ H→
 c σ H fun b H1=>if b=θ then ∃N:St->Hp->Prop,(∀U H',N U H'->∃Y,Y<m/\W Y U H')/\tb {D with nx:=N,ct:=N,bk:=D.nx} σ H1 else D.nx σ H1
theorem vG(hp:zk1 (model X.prog X.w) X.A X.env X.xe)(hc:PT X c tc)(hb:PSs X body tb):PS X (.While c body [] pos) (CI tc tb):=by
 intro J1 s σ H D I h;obtain⟨W,⟨m0,w0⟩,Z⟩:=h;refine wpAny_While (codeAny_whileLoop (fun n s'=>∃ σ' H',Inv X J1 σ' H' s'/\W n σ' H') ?_ m0 ⟨σ,H,I,w0⟩);rintro n s1 ⟨Y,H1,I1,w1⟩;refine qo6 hp (thn (hc J1 s1 Y H1 _ I1 (Z n Y H1 w1)) fun b s2 ⟨H2,I2,q2⟩=>?_);cases b with
 |true=>
  obtain⟨N,hN,q2⟩:=q2;rw[if_pos rfl];refine qo6 hp (thn (hb J1 s2 Y H2 _ I2 q2) fun f s3 q3=>?_);cases f with
  |next=>obtain⟨U,H3,I3,n3⟩:=q3;obtain⟨m',hm,w3⟩:=hN U H3 n3;exact⟨m',hm,U,H3,I3,w3⟩
  |cont=>obtain⟨U,H3,I3,n3⟩:=q3;obtain⟨m',hm,w3⟩:=hN U H3 n3;exact⟨m',hm,U,H3,I3,w3⟩
  |brk=>exact q3
  |ret v=>exact q3
 |false=>rw[if_neg qb5];exact qy7 ⟨Y,H2,I2,q2⟩
end
structure It where
 go:Nat->Hp->Prop
 yld:Nat->Hp->V->Hp->Prop
 stop:Nat->Hp->Prop
def e9(X:Cx)(J1:η (J9×Obj))(H:Hp)(b:J9):Prop:=H b=ψ/\b≠X.env.locals/\b∉X.fs/\(b∈X.ex∨X.s₀.heap.objs.size<=b)/\(∀x c,X.env.cells.lookup x=ς c->c≠b)/\∀p∈X.pn++J1,p.1≠b
theorem Inv.fpOk{H':Hp}(I:Inv X J1 σ H s)(U:s.heap.objs.size<=b)(W:H' b=ψ):e9 X J1 H' b:=by
 refine⟨W,ql6 (qc2 I.lt U),I.nofs U,.inr (qc0 I.sz U),fun x c e z=>?_,fun p hp z=>?_⟩
 .obtain⟨v,q⟩:=I.cell x c e;exact absurd (qc2 q.lt (by rw[z];exact U)) (qk4 _)
 .exact absurd (qc2 (qb0 (I.pin p hp).1) (by rw[z];exact U)) (qk4 _)
structure Turn(P:qc5)(w:Ja)(K:xA9)(tg:Jc)(J:It)(fp:List J9)(it:J9)(tn:Nat->Heap->Prop):Prop where
 mem:it∈fp
 obj:∀i h,tn i h->∀b∈fp,∃o,h.get? b=ς o/\∀v,o.data≠.cell v
 keep:∀i h h',tn i h->(∀b∈fp,∀o,h.get? b=ς o->h'.get? b=ς o)->tn i h'
 item:∀(X:Cx),X.prog=P->X.w=w->X.K=K->X.calm=θ->∀(i:Nat)(J1:List (J9×Obj))(s:qa3)(σ:St)(H:Hp)(E:Value->qa3->Prop),Inv X J1 σ H s->(∀b∈fp,e9 X J1 H b)->tn i s.heap->J.go i H→
  wpAny (model P w) X.A (qp9 (.ref it)) (fun r s1=>∃u,r=ς u∧wpAny (model P w) X.A (qy9 tg (.ref it) u) (fun _ s2=>∃x H',Inv X J1 σ H' s2/\RelV x u/\J.yld i H x H'/\tn (i+1) s2.heap/\∀b∈fp,H' b=ψ) E s1) E s
 done:∀(X:Cx),X.prog=P->X.w=w->X.K=K->X.calm=θ->∀(i:Nat)(J1:List (J9×Obj))(s:qa3)(σ:St)(H:Hp)(E:Value->qa3->Prop),Inv X J1 σ H s->(∀b∈fp,e9 X J1 H b)->tn i s.heap->J.stop i H→
  wpAny (model P w) X.A (qp9 (.ref it)) (fun r s1=>r=ψ/\Inv X J1 σ H s1) E s
 self:∀(A:qe1)(i:Nat)(s:qa3)(Q E:Value->qa3->Prop),tn i s.heap->Q (.ref it) s->wpAny (model P w) A (zi6 (.ref it)) Q E s
abbrev TI:=St->Hp->(It->Hp->Prop)->Prop
def PIE(X:Cx)(J1:η (J9×Obj))(σ:St)(tg:Jc)(R:It->Hp->Prop)(U:Value)(W:qa3):Prop:=∃(it:J9)(fp:η J9)(Y:Nat->Heap->Prop)(J:It)(H':Hp),U=.ref it/\Inv X J1 σ H' W/\Turn X.prog X.w X.K tg J fp it Y/\Y 0 W.heap/\(∀b∈fp,e9 X J1 H' b)/\R J H'
def PI(X:Cx)(tg iter:Jc)(wi:TI):Prop:=
 ∀(J1:η (J9×Obj))(s:qa3)(σ:St)(H:Hp)(R:It->Hp->Prop),Inv X J1 σ H s->wi σ H R→
  wpAny (model X.prog X.w) X.A (eval iter X.env) (fun v s1=>wpAny (model X.prog X.w) X.A (zi6 v) (PIE X J1 σ tg R) X.xe s1) X.xe s
theorem lK{o:Obj}{n:String}{vs:Array Value}(Y:s.heap.get? it=ς o)(Z:o.cls=.type n)(W:o.data=.fields vs)
 (hn:["enumerate","zip","dict_itemiterator","dict_reverseitemiterator","odict_iterator","itertools.zip_longest","itertools.pairwise"].contains n=ξ) (U:Q () s):wpAny M A (qy9 tg (.ref it) u) Q E s:=by
 unfold qy9
 cases tg<;>first
  |exact qa2 U
  | (cases u<;>first
      |exact qa2 U
      | (refine wB (wpAny_load Y ?_)
         rw[Z,W];show wpAny M A (if(["enumerate","zip","dict_itemiterator","dict_reverseitemiterator","odict_iterator","itertools.zip_longest","itertools.pairwise"].contains n&&vs[0]?==ς (qf7 _))=θ then _ else _) Q E s;rw[if_neg (by intro h;rw[hn,zi7]at h;cases h)];exact qa2 U))
def Itl(K:xA9)(a:J9):It:=⟨fun i H=>∃xs x,SqL K H a xs/\xs[i]?=ς x,fun i H x H'=>H'=H/\∀xs,SqL K H a xs->xs[i]?=ς x,fun i H=>∃xs,SqL K H a xs/\xs.length<=i⟩
def Itt(K:xA9)(a:J9):It:=⟨fun i H=>∃xs x,SqT K H a xs/\xs[i]?=ς x,fun i H x H'=>H'=H/\∀xs,SqT K H a xs->xs[i]?=ς x,fun i H=>∃xs,SqT K H a xs/\xs.length<=i⟩
def Itr(lo:Int)(n:Nat):It:=⟨fun i _=>i<n,fun i H x H'=>H'=H/\x=.int (lo+i),fun i _=>n<=i⟩
theorem tV(a it:J9):Turn P w K tg (Itl K a) [it] it (fun i h=>h.IsListIter it a i) where
 mem:=by simp
 obj:=fun i h st b U=>by
  have e:b=it:=by simpa using U
  subst e;obtain⟨o,e,c,d⟩:=st;exact⟨o,e,fun v z=>by rw[d]at z;cases z⟩
 keep:=fun i h h' st k=>st.at fun o e=>k it Ξ o e
 item:=by
  intro X hP hw hK hc i J1 s σ H E I Z st hg;subst hP hw hK;obtain⟨xs,x,Y,hx⟩:=hg;obtain⟨J8,rv,p,hz⟩:=I.list Y;obtain⟨u,hu,ru⟩:=rv.get hx;obtain⟨f0,f1,f2,f3,f4,f5⟩:=Z it Ξ;refine zf1 st p.isList (x:=u) (by simpa using hu) fun h' W sb=>?_
  have I1:Inv X J1 σ H {s with heap:=h'}:=I.turned (t':=s.toks) (fun b o U e=>(sb.2 b U).trans e) f0 f1 f3 f4 f5;obtain⟨o,e,c,d⟩:=id W;exact⟨u,rfl,lK (s:={s with heap:=h'}) e c d Ω ⟨x,H,I1,ru,⟨rfl,fun ys hy=>by rw[I.list_inj hy Y];exact hx⟩,W,fun b U=>(Z b U).1⟩⟩
 done:=by intro X hP hw hK hc i J1 s σ H E I Z st hg;subst hP hw hK;obtain⟨xs,Y,hx⟩:=hg;obtain⟨J8,rv,p,hz⟩:=I.list Y;obtain⟨f0,f1,f2,f3,f4,f5⟩:=Z it Ξ;have hl:=rv.length;exact zg4 (I.ok.hd hc) st p.isList (by simp;lia) fun h' eb=>⟨rfl,I.turned (t':=s.toks) (fun b o U e=>eb b o U e) f0 f1 f3 f4 f5⟩
 self:=fun _ _ _ _ _ st h=>wpAny_pyIter_listiter st h
theorem qc(a it:J9):Turn P w K tg (Itt K a) [it] it (fun i h=>h.IsTupleIter it a i) where
 mem:=by simp
 obj:=fun i h st b U=>by
  have e:b=it:=by simpa using U
  subst e;obtain⟨o,e,c,d⟩:=st;exact⟨o,e,fun v z=>by rw[d]at z;cases z⟩
 keep:=fun i h h' st k=>st.at fun o e=>k it Ξ o e
 item:=by
  intro X hP hw hK hc i J1 s σ H E I Z st hg;subst hP hw hK;obtain⟨xs,x,Y,hx⟩:=hg;obtain⟨J8,rv,p,hz⟩:=I.tuple Y;obtain⟨u,hu,ru⟩:=rv.get hx;obtain⟨f0,f1,f2,f3,f4,f5⟩:=Z it Ξ;refine zc7 st (show s.heap.IsTuple a J8.toArray from p) (x:=u) (by simpa using hu) fun h' W sb=>?_
  have I1:Inv X J1 σ H {s with heap:=h'}:=I.turned (t':=s.toks) (fun b o U e=>(sb.2 b U).trans e) f0 f1 f3 f4 f5;obtain⟨o,e,c,d⟩:=id W;exact⟨u,rfl,lK (s:={s with heap:=h'}) e c d Ω ⟨x,H,I1,ru,⟨rfl,fun ys hy=>by rw[I.tuple_inj hy Y];exact hx⟩,W,fun b U=>(Z b U).1⟩⟩
 done:=by intro X hP hw hK hc i J1 s σ H E I Z st hg;subst hP hw hK;obtain⟨xs,Y,hx⟩:=hg;obtain⟨J8,rv,p,hz⟩:=I.tuple Y;obtain⟨f0,f1,f2,f3,f4,f5⟩:=Z it Ξ;have hl:=rv.length;exact zf2 (I.ok.hd hc) st (show s.heap.IsTuple a J8.toArray from p) (by simp;lia) fun h' eb=>⟨rfl,I.turned (t':=s.toks) (fun b o U e=>eb b o U e) f0 f1 f3 f4 f5⟩
 self:=fun _ _ _ _ _ st h=>wpAny_pyIter_tupleiter st h
theorem qd{w:Ja}(it:J9)(lo:Int)(n:Nat):Turn P w K tg (Itr lo n) [it] it (fun i h=>zj0 h it (lo+(i:Nat)*1) ((n:Int)-(i:Nat)) 1) where
 mem:=by simp
 obj:=fun i h st b U=>by
  have e:b=it:=by simpa using U
  subst e
  exact⟨_,st,fun v z=>by have z':Data.fields _=Data.cell v:=z;cases z'⟩
 keep:=fun i h h' st k=>k it Ξ _ st
 item:=by
  intro X hP hw hK hc i J1 s σ H E I Z st hg;subst hP hw hK;obtain⟨f0,f1,f2,f3,f4,f5⟩:=Z it Ξ;have W:=Walks.range (prog:=X.prog) (w:=X.w) (I.ok.hd hc) it lo 1 n;refine W.item i s _ _ hg st fun v h' tk hv Y kk=>?_
  obtain⟨t,rfl⟩:=hv;have I1:Inv X J1 σ H {s with heap:=h',toks:=tk}:=I.turned (fun b o U e=>kk b o (by simpa using U) e) f0 f1 f3 f4 f5;refine⟨_,rfl,lK (s:={s with heap:=h',toks:=tk}) (n:="range_iterator") Y rfl rfl Ω ⟨.int (lo+i),H,I1,⟨t,?_⟩,⟨rfl,rfl⟩,Y,fun b U=>(Z b U).1⟩⟩;rw[Int.mul_one]
 done:=by intro X hP hw hK hc i J1 s σ H E I Z st hg;subst hP hw hK;obtain⟨f0,f1,f2,f3,f4,f5⟩:=Z it Ξ;exact zf3 (I.ok.hd hc) st (by have:n<=i:=hg;lia) fun h' eb=>⟨rfl,I.turned (t':=s.toks) (fun b o U e=>eb b o U e) f0 f1 f3 f4 f5⟩
 self:=fun _ _ _ _ _ st h=>zf4 st h
variable{l:Jc}{tl:TE}{ta:TA}{p:Pos}{fp:η J9}
section
variable{X:Cx}{tg:Jc}
def Ff(K:xA9)(tl:TE):TI:=fun σ H R=>tl σ H fun x H1=>∃a,x=.ref a/\(∃xs,SqL K H1 a xs)/\R (Itl K a) H1
def iTup(K:xA9)(tl:TE):TI:=fun σ H R=>tl σ H fun x H1=>∃a,x=.ref a/\(∃xs,SqT K H1 a xs)/\R (Itt K a) H1
def rL(W:PE X l tl):PI X tg l (Ff X.K tl):=by
 intro J1 s σ H R I h;refine thn (W J1 s σ H _ I h) fun v s1 ⟨x,H1,U,r1,q1⟩=>?_
 obtain⟨a,e,⟨xs,Y⟩,q⟩:=q1;subst e;cases r1;obtain⟨J8,rv,p,hz⟩:=U.list Y;refine qo7 p.isList ?_;refine⟨s1.heap.objs.size,[s1.heap.objs.size],_,_,H1,rfl,U.kept (t':=s1.toks) fun b o e=>gP _ e,tV a _,⟨_,qa7 _ rfl,rfl,rfl⟩,fun b Z=>?_,q⟩;have e:b=s1.heap.objs.size:=by simpa using Z
 subst e;exact U.fpOk (nL _) (U.hok.fresh (nL _))
def vH(W:PE X l tl):PI X tg l (iTup X.K tl):=by
 intro J1 s σ H R I h;refine thn (W J1 s σ H _ I h) fun v s1 ⟨x,H1,U,r1,q1⟩=>?_
 obtain⟨a,e,⟨xs,Y⟩,q⟩:=q1;subst e;cases r1;obtain⟨J8,rv,p,hz⟩:=U.tuple Y;refine qq4 (show s1.heap.IsTuple a J8.toArray from p) ?_;refine⟨s1.heap.objs.size,[s1.heap.objs.size],_,_,H1,rfl,U.kept (t':=s1.toks) fun b o e=>gP _ e,qc a _,⟨_,qa7 _ rfl,rfl,rfl⟩,fun b Z=>?_,q⟩;have e:b=s1.heap.objs.size:=by simpa using Z
 subst e;exact U.fpOk (nL _) (U.hok.fresh (nL _))
theorem oz{R:It->Hp->Prop}{lo hi:Int}{t u v:Tok}{tk:Nat}(I:Inv X J1 σ H s)(h1:-(2^62)<=lo)(h2:lo<2^62)(h3:-(2^62)<=hi)(Z:hi<2^62)
 (q:R (Itr lo (hi-lo).toNat) H):wpAny (model X.prog X.w) X.A (zi6 (.ref s.heap.objs.size)) (PIE X J1 σ tg R) E {s with heap:=s.heap.push {cls:=.type "range",data:=.fields #[.int lo t,.int hi u,.int 1 v]},toks:=tk}:=by
 refine wpAny_pyIter_range (IsRange.new ..) (small_one h1 h2 h3 Z) ?_;have U:Inv X J1 σ H {s with heap:=s.heap.push {cls:=.type "range",data:=.fields #[.int lo t,.int hi u,.int 1 v]},toks:=tk}:=I.kept fun b o e=>gP _ e
 refine⟨(s.heap.push {cls:=.type "range",data:=.fields #[.int lo t,.int hi u,.int 1 v]}).objs.size,[(s.heap.push {cls:=.type "range",data:=.fields #[.int lo t,.int hi u,.int 1 v]}).objs.size],_,_,H,rfl,U.kept (t':=tk) fun b o e=>gP _ e,qd _ lo (hi-lo).toNat,?_,fun b hb=>?_,q⟩
 .have Y:lo+((0:Nat):Int)*1=lo:=by simp
  have W:(((hi-lo).toNat:Nat):Int)-((0:Nat):Int)=qd2 lo hi 1:=by rw[rangeSize_one];split<;>lia
  show zj0 _ _ (lo+((0:Nat):Int)*1) ((((hi-lo).toNat:Nat):Int)-((0:Nat):Int)) 1;rw[Y,W];exact qa7 _ rfl
 .have e:b=(s.heap.push {cls:=.type "range",data:=.fields #[.int lo t,.int hi u,.int 1 v]}).objs.size:=by simpa using hb
  subst e;exact U.fpOk (nL _) (U.hok.fresh (nL _))
def Bl(ta:TA):TI:=fun σ H R=>ta σ H fun vs H1=>∃j:Int,vs=[.int j]/\-(2^62)<=j/\j<2^62/\R (Itr 0 j.toNat) H1
def Bm(ta:TA):TI:=fun σ H R=>ta σ H fun vs H1=>∃i j:Int,vs=[.int i,.int j]/\(-(2^62)<=i/\i<2^62/\-(2^62)<=j/\j<2^62)/\R (Itr i (j-i).toNat) H1
theorem tW{a:Jc}(W:Gl X "range")(hm:X.mg "range"=ψ)(U:PA X [a] ta)(Y:qa8 [a] X.env=[(ξ,eval a X.env)]:=by rfl):PI X tg (.Call (.Name "range" p) [a] [] pos) (Bl ta):=by
 intro J1 s σ H R I h;refine Call_ (eF I W hm boot_range (qf5 (thn (U pos J1 s σ H _ I h) fun us s1 ⟨vs,H1,I1,r1,q1⟩=>?_) Y rfl));obtain⟨j,e,q1,q2,q⟩:=q1;subst e;cases r1 with
 |cons r Z=>cases Z;obtain⟨t,rfl⟩:=r;exact call_range_1 (oz I1 Θ Θ q1 q2 (by simpa using q))
theorem tX {a b:Jc} (hg:Gl X "range") (Y:X.mg "range"=ψ) (ha:PA X [a,b] ta) (hs:qa8 [a,b] X.env=[(ξ,eval a X.env),(ξ,eval b X.env)]:=by rfl) (U:qa8 [b] X.env=[(ξ,eval b X.env)]:=by rfl) :
  PI X tg (.Call (.Name "range" p) [a,b] [] pos) (Bm ta):=by
 intro J1 s σ H R I h;refine Call_ (eF I hg Y boot_range (qf5 (thn (ha pos J1 s σ H _ I h) fun us s1 ⟨vs,H1,I1,r1,q1⟩=>?_) (by rw[hs,U]) (by rw[U];rfl)));obtain⟨i,j,e,⟨q1,q2,Z,q4⟩,q⟩:=q1;subst e;cases r1 with
 |cons r W=>
  cases W with
  |cons r' W=>cases W;obtain⟨t,rfl⟩:=r;obtain⟨t',rfl⟩:=r';exact call_range_2 (oz I1 q1 q2 Z q4 q)
def tFor(wi:TI)(g:TG)(tb:TS):TS:=fun D σ H=>wi σ H fun J H1=>∃W:Nat->Nat->St->Hp->Prop,(∃m,W 0 m σ H1)/\∀i m σ H,W i m σ H→ (J.stop i H/\D.nx σ H)∨(J.go i H/\∃N:St->Hp->Prop,(∀U H',N U H'->∃Z,Z<m/\W (i+1) Z U H')/\∀x H',J.yld i H x H'->g x σ H' fun Y H2=>tb {D with nx:=N,ct:=N,bk:=D.nx} Y H2)
def iM(fp:η J9)(h:Heap):η (J9×Obj):=fp.filterMap fun b=>(h.get? b).map fun o=>(b,o)
theorem fg{o:Obj}(U:b∈fp)(e:h.get? b=ς o):(b,o)∈iM fp h:=za4.mpr ⟨b,U,by rw[e];rfl⟩
theorem tY{p:J9×Obj}(hp:p∈iM fp h):p.1∈fp/\h.get? p.1=ς p.2:=by
 obtain⟨b,W,e⟩:=za4.mp hp;cases q:h.get? b with
 |none=>rw[q]at e;cases e
 |some o=>rw[q]at e;have U:(b,o)=p:=qd6 e;subst U;exact⟨W,q⟩
theorem Inv.pinned(I:Inv X J1 σ H s)(Y:∀b∈fp,e9 X J1 H b)(Z:∀b∈fp,∃o,s.heap.get? b=ς o/\∀v,o.data≠.cell v):Inv X (J1++iM fp s.heap) σ H s:=
 I.pins_of fun p hp=>(qi3.mp hp).elim (fun z=>I.pin p (qe2 _ z)) fun z=>by
  obtain⟨W,e⟩:=tY z;obtain⟨f0,f1,f2,_⟩:=Y p.1 W;obtain⟨o,U,d⟩:=Z p.1 W;rw[e]at U;cases U
  exact⟨e,f0,f1,f2,d⟩
theorem Inv.unpinned{U:η (J9×Obj)}(I:Inv X (J1++U) σ H s):Inv X J1 σ H s:=I.pins_of fun p hp=>I.pin p (qe2 _ (qi8 _ hp))
theorem vI{iter:Jc}{wi:TI}(hp:zk1 (model X.prog X.w) X.A X.env X.xe)(hc:X.calm=θ)(hi:PI X tg iter wi)(hg:PG X tg g)(hb:PSs X body tb)
 (hs:∀x,qi6 iter X.env x=pure x:=by intro _;rfl):PS X (.For tg iter body [] pos) (tFor wi g tb):=by
 intro J1 s σ H D I h;refine wpAny_For (thn (hi J1 s σ H _ I h) fun v s1 h1=>thn h1 fun itv s2 h2=>?_) hs;obtain⟨it,fp,tn,J,H2,e,I2,T,st2,f2,W,⟨m0,w0⟩,turn⟩:=h2;subst e
 -- what stays θ of the iterator's objects through the loop
 have Y:∀{H':Hp},(∀b∈fp,H' b=ψ)->∀b∈fp,e9 X J1 H' b:=fun hn b hb=>⟨hn b hb,(f2 b hb).2⟩
 refine codeAny_forLoop_any (fun n s'=>∃i σ' H',Inv X J1 σ' H' s'/\tn i s'.heap/\(∀b∈fp,H' b=ψ)/\W i n σ' H') ?_ m0 ⟨0,σ,H2,I2,st2,fun b hb=>(f2 b hb).1,w0⟩;rintro n s3 ⟨i,σ3,H3,I3,st3,fr3,w3⟩;rcases turn i n σ3 H3 w3 with ⟨stop,qn⟩|⟨go,N,hN,step⟩
 .refine qo6 hp (thn (T.done X rfl rfl rfl hc i J1 s3 σ3 H3 X.xe I3 (Y fr3) st3 stop) fun r s4 ⟨hr,I4⟩=>?_);subst hr;exact qy7 ⟨σ3,H3,I4,qn⟩
 .refine qo6 hp (thn (T.item X rfl rfl rfl hc i J1 s3 σ3 H3 X.xe I3 (Y fr3) st3 go) fun r s4 ⟨u,hr,h4⟩=>?_);subst hr;refine qo6 hp (thn h4 fun _ s5 ⟨x,H5,I5,r5,y5,st5,fr5⟩=>?_);have I5':=I5.pinned (Y fr5) (T.obj _ _ st5);refine qo6 hp (thn (hg _ s5 σ3 H5 x u _ I5' r5 (step x H5 y5)) fun _ s6 ⟨σ6,H6,I6,q6⟩=>?_);refine qo6 hp (thn (hb _ s6 σ6 H6 _ I6 q6) fun f s7 q7=>?_)
  have Z:∀{U:St}{H7:Hp},Inv X (J1++iM fp s5.heap) U H7 s7->N U H7->∃m,m<n/\∃i σ' H',Inv X J1 σ' H' s7/\tn i s7.heap/\(∀b∈fp,H' b=ψ)/\W i m σ' H':=fun {U H7} I7 n7=>by obtain⟨m',hm,w7⟩:=hN U H7 n7;refine⟨m',hm,i+1,U,H7,I7.unpinned,T.keep _ _ _ st5 fun b hb o e=>(I7.pin (b,o) (qe2 _ (qe2 _ (fg hb e)))).1,fun b hb=>?_,w7⟩;obtain⟨o,e,d⟩:=T.obj _ _ st5 b hb;exact(I7.pin (b,o) (qe2 _ (qe2 _ (fg hb e)))).2.1
  cases f with
  |next=>obtain⟨U,H7,I7,n7⟩:=q7;exact Z I7 n7
  |cont=>obtain⟨U,H7,I7,n7⟩:=q7;exact Z I7 n7
  |brk=>obtain⟨U,H7,I7,q7⟩:=q7;exact⟨U,H7,I7.unpinned,q7⟩
  |ret v=>obtain⟨x7,U,H7,I7,r7,q7⟩:=q7;exact⟨x7,U,H7,I7.unpinned,r7,q7⟩
end
abbrev R2:=V->V->Hp->VK->Prop
def OpR(X:Cx)(f:Value->Value->Sem Value)(r:R2):Prop:=
 ∀(J1:η (J9×Obj))(s:qa3)(σ:St)(H:Hp)(x y:V)(v u:Value)(Q:VK),Inv X J1 σ H s->RelV x v->RelV y u->r x y H Q→
  wpAny (model X.prog X.w) X.A (f v u) (EP X J1 σ Q) X.xe s
def UnR(X:Cx)(f:Value->Sem Value)(r:V->Hp->VK->Prop):Prop:=
 ∀(J1:η (J9×Obj))(s:qa3)(σ:St)(H:Hp)(x:V)(v:Value)(Q:VK),Inv X J1 σ H s->RelV x v->r x H Q→
  wpAny (model X.prog X.w) X.A (f v) (EP X J1 σ Q) X.xe s
def cz(X:Cx)(f:Value)(r:η V->Hp->VK->Prop):Prop:=
 ∀(J1:η (J9×Obj))(s:qa3)(σ:St)(H:Hp)(xs:η V)(us:η Value)(Q:VK),Inv X J1 σ H s->Vals xs us->r xs H Q→
  wpAny (model X.prog X.w) X.A (call f us) (EP X J1 σ Q) X.xe s
def TruR(X:Cx)(r:V->Hp->(Bool->Hp->Prop)->Prop):Prop:=
 ∀(J1:η (J9×Obj))(s:qa3)(σ:St)(H:Hp)(x:V)(v:Value)(Q:Bool->Hp->Prop),Inv X J1 σ H s->RelV x v->r x H Q→
  wpAny (model X.prog X.w) X.A (truthy v) (TP X J1 σ Q) X.xe s
def tOp(r:R2)(ta tb:TE):TE:=fun σ H Q=>ta σ H fun x H1=>tb σ H1 fun y H2=>r x y H2 Q
def tUn(r:V->Hp->VK->Prop)(ta:TE):TE:=fun σ H Q=>ta σ H fun x H1=>r x H1 Q
def rI(C:Int->Int->Prop)(g:Int->Int->V):R2:=fun x y H Q=>∃i j,x=.int i/\y=.int j/\C i j/\Q (g i j) H
def rI0(g:Int->Int->V):R2:=fun x y H Q=>∃i j,x=.int i/\y=.int j/\Q (g i j) H
def rU(g:Int->V):V->Hp->VK->Prop:=fun x H Q=>∃i,x=.int i/\Q (g i) H
variable{f:Value->Value->Sem Value}{r:R2}
section
variable{X:Cx}{a b c:Jc}{ta tb tc:TE}{pos:Pos}
theorem CJ(Z:PE X a ta)(hb:PE X b tb)(I:Inv X J1 σ H s)
 (h:ta σ H fun x H1=>tb σ H1 fun y H2=>R x y H2) {Q:Value->qa3->Prop} 
 (hf:∀v u Y x y H2,Inv X J1 σ H2 Y->RelV x v->RelV y u->R x y H2->wpAny (model X.prog X.w) X.A (f v u) Q X.xe Y) :
  wpAny (model X.prog X.w) X.A (eval a X.env) (fun v U=>wpAny (model X.prog X.w) X.A (eval b X.env) (fun u W=>wpAny (model X.prog X.w) X.A (f v u) Q X.xe W) X.xe U) X.xe s:=by
 refine thn (Z J1 s σ H _ I h) fun v s1 ⟨x,H1,I1,r1,q1⟩=>?_
 refine thn (hb J1 s1 σ H1 _ I1 q1) fun u Y ⟨y,H2,I2,r2,q2⟩=>?_
 exact hf v u Y x y H2 I2 r1 r2 q2
theorem Fh{op:Operator}(ho:OpR X (qm9 op) r)(U:PE X a ta)(hb:PE X b tb):PE X (.BinOp a op b pos) (tOp r ta tb):=by intro J1 s σ H Q I h;exact wpAny_BinOp (CJ U hb I h fun v u Z x y H2 I2 W Y q=>ho J1 Z σ H2 x y v u Q I2 W Y q)
theorem Fi{op:UnaryOp}{r:V->Hp->VK->Prop}(W:UnR X (unaryOp op) r)(U:PE X a ta):PE X (.UnaryOp op a pos) (tUn r ta):=by intro J1 s σ H Q I h;exact UnaryOp_ (thn (U J1 s σ H _ I h) fun v s1 ⟨x,H1,Y,Z,q1⟩=>W J1 s1 σ H1 x v Q Y Z q1)
def opI{C:Int->Int->Prop}{g:Int->Int->Int}
 (U:∀(i j:Int)(t u:Tok)(s:qa3)(Q E:Value->qa3->Prop),C i j->Q (.int (g i j) s.toks) {s with toks:=s.toks+1}->wpAny (model X.prog X.w) X.A (f (.int i t) (.int j u)) Q E s) :
  OpR X f (rI C fun i j=>.int (g i j)):=by
 intro J1 s σ H x y v u Q I W Y h;obtain⟨i,j,rfl,rfl,Z,q⟩:=h;obtain⟨t,rfl⟩:=W;obtain⟨t',rfl⟩:=Y;exact U i j t t' s _ _ Z ⟨.int (g i j),H,I.tok _,⟨_,rfl⟩,q⟩
def opI0{g:Int->Int->Int}
 (U:∀(i j:Int)(t u:Tok)(s:qa3)(Q E:Value->qa3->Prop),Q (.int (g i j) s.toks) {s with toks:=s.toks+1}->wpAny (model X.prog X.w) X.A (f (.int i t) (.int j u)) Q E s) :
  OpR X f (rI0 fun i j=>.int (g i j)):=by
 intro J1 s σ H x y v u Q I W Y h;obtain⟨i,j,rfl,rfl,q⟩:=h;obtain⟨t,rfl⟩:=W;obtain⟨t',rfl⟩:=Y;exact U i j t t' s _ _ ⟨.int (g i j),H,I.tok _,⟨_,rfl⟩,q⟩
def CK{g:Int->Int->Bool}
 (U:∀(i j:Int)(t u:Tok)(s:qa3)(Q E:Value->qa3->Prop),Q (.bool (g i j)) s->wpAny (model X.prog X.w) X.A (f (.int i t) (.int j u)) Q E s) :
  OpR X f (rI0 fun i j=>.bl (g i j)):=by
 intro J1 s σ H x y v u Q I W Y h;obtain⟨i,j,rfl,rfl,q⟩:=h;obtain⟨t,rfl⟩:=W;obtain⟨t',rfl⟩:=Y;exact U i j t t' s _ _ ⟨.bl (g i j),H,I,rfl,q⟩
def CL(i j:Int):Prop:=0<=j/\j<=1000000/\i.natAbs<2^64
def CMul(i j:Int):Prop:=(-(2^64)<i/\i<2^64)∨(-(2^64)<j/\j<2^64)
def CMul.ok{i j:Int}(h:CMul i j):IntMulOk i j:=by
 rcases h with ⟨h1,h2⟩|⟨h1,h2⟩
 .exact .of_left (intBits_le_64 h1 h2)
 .exact .of_right (intBits_le_64 h1 h2)
theorem CM:OpR X (qm9 .Add) (rI0 fun i j=>.int (i+j)):=opI0 fun _ _ _ _ _ _ _ q=>add_int q
theorem CN:OpR X (qm9 .Sub) (rI0 fun i j=>.int (i-j)):=opI0 fun _ _ _ _ _ _ _ q=>sub_int q
theorem CO:OpR X (qm9 .Mult) (rI CMul fun i j=>.int (i*j)):=opI fun _ _ _ _ _ _ _ U q=>mul_int q U.ok
theorem qe:OpR X (qm9 .Mod) (rI (fun _ j=>0<j) fun i j=>.int (i%j)):=opI fun i j _ _ _ _ _ U q=>by have h1:(0:Int)<j:=U;exact mod_int' Θ (by rw[Int.fmod_eq_emod_of_nonneg i Θ];exact q)
theorem j3:OpR X (qm9 .Pow) (rI CL fun i j=>.int (i^j.toNat)):=opI fun _ _ _ _ _ _ _ U q=>pow_int_small U.1 U.2.1 U.2.2 q
def unI {f:Value->Sem Value} {g:Int->Int}
  (U:∀(i:Int)(t:Tok)(s:qa3)(Q E:Value->qa3->Prop),Q (.int (g i) s.toks) {s with toks:=s.toks+1}->wpAny (model X.prog X.w) X.A (f (.int i t)) Q E s) :
  UnR X f (rU fun i=>.int (g i)):=by
 intro J1 s σ H x v Q I W h;obtain⟨i,rfl,q⟩:=h;obtain⟨t,rfl⟩:=W;exact U i t s _ _ ⟨.int (g i),H,I.tok _,⟨_,rfl⟩,q⟩
theorem CP:UnR X (unaryOp .USub) (rU fun i=>.int (-i)):=unI fun _ _ _ _ _ q=>neg_int q
end
def CQ:V->V->Bool
 |.non,.non=>θ|.non,.int _=>θ|.int _,.non=>θ|.non,.bl _=>θ|.bl _,.non=>θ|.non,.str _=>θ|.str _,.non=>θ
 |.int _,.int _=>θ|.bl _,.bl _=>θ|.str _,.str _=>θ|.byt _,.byt _=>θ
 |.int _,.str _=>θ|.str _,.int _=>θ|.bl _,.str _=>θ|.str _,.bl _=>θ
 |_,_=>ξ
def rEq:R2:=fun x y H Q=>CQ x y=θ/\Q (.bl (decide (x=y))) H
def rNe:R2:=fun x y H Q=>CQ x y=θ/\Q (.bl (!decide (x=y))) H
theorem rM{i j:Int}:decide (V.int i=V.int j)=(i==j):=by rw[qj0];simp
theorem vJ{i j:Bool}:decide (V.bl i=V.bl j)=(i==j):=by rw[qj0];simp
theorem rO{i j:Str}:decide (V.str i=V.str j)=(i==j):=by rw[qj0];simp
theorem rP{i j:Array UInt8}:decide (V.byt i=V.byt j)=(i.toList==j.toList):=by rw[qj0];cases i;cases j;simp
section
variable{X:Cx}{a b c:Jc}{ta tb tc:TE}{pos:Pos}
theorem aK{Q:VK}{k k':Bool}(I:Inv X J1 σ H s)(q:Q (.bl k) H)(e:k=k'):EP X J1 σ Q (.bool k') s:=by subst e;exact⟨.bl k,H,I,rfl,q⟩
def Fj:OpR X (qh8 .Eq) rEq:=by
 intro J1 s σ H x y v u Q I Z U h;obtain⟨Y,q⟩:=h;cases x with
 |non=>
  cases Z;cases y with
  |non=>cases U;exact PySem.EqNone.eq_none_none (aK I q Ξ)
  |bl j=>cases U;exact PySem.EqNone.eq_none_bool (aK I q Ξ)
  |int j=>obtain⟨t',rfl⟩:=U;exact PySem.EqNone.eq_none_int (aK I q Ξ)
  |str j=>obtain⟨t',rfl⟩:=U;exact PySem.EqNone.eq_none_str (aK I q Ξ)
  |_=>exact absurd (show ξ=θ from Y) qb5
 |bl i=>
  cases Z;cases y with
  |non=>cases U;exact PySem.EqNone.eq_bool_none (aK I q Ξ)
  |bl j=>cases U;exact eq_bool (aK I q vJ)
  |str j=>obtain⟨t',rfl⟩:=U;exact PySem.EqMixed.eq_bool_str (aK I q Ξ)
  |_=>exact absurd (show ξ=θ from Y) qb5
 |int i=>
  obtain⟨t,rfl⟩:=Z;cases y with
  |non=>cases U;exact PySem.EqNone.eq_int_none (aK I q Ξ)
  |int j=>obtain⟨t',rfl⟩:=U;exact eq_int (aK I q rM)
  |str j=>obtain⟨t',rfl⟩:=U;exact PySem.EqMixed.eq_int_str (aK I q Ξ)
  |_=>exact absurd (show ξ=θ from Y) qb5
 |str i=>
  obtain⟨t,rfl⟩:=Z;cases y with
  |non=>cases U;exact PySem.EqNone.eq_str_none (aK I q Ξ)
  |bl j=>cases U;exact PySem.EqMixed.eq_str_bool (aK I q Ξ)
  |int j=>obtain⟨t',rfl⟩:=U;exact PySem.EqMixed.eq_str_int (aK I q Ξ)
  |str j=>obtain⟨t',rfl⟩:=U;exact eq_str (aK I q rO)
  |_=>exact absurd (show ξ=θ from Y) qb5
 |byt i=>
  obtain⟨t,rfl⟩:=Z;cases y with
  |byt j=>obtain⟨t',rfl⟩:=U;exact PySem.W.eq_bytes (aK I q rP)
  |_=>exact absurd (show ξ=θ from Y) qb5
 |_=>cases y<;>exact absurd (show ξ=θ from Y) qb5
def Fk:OpR X (qh8 .NotEq) rNe:=by
 intro J1 s σ H x y v u Q I Z U h;obtain⟨Y,q⟩:=h;cases x with
 |non=>
  cases Z;cases y with
  |non=>cases U;exact PySem.EqNone.ne_none_none (aK I q Ξ)
  |bl j=>cases U;exact PySem.EqNone.ne_none_bool (aK I q Ξ)
  |int j=>obtain⟨t',rfl⟩:=U;exact PySem.EqNone.ne_none_int (aK I q Ξ)
  |str j=>obtain⟨t',rfl⟩:=U;exact PySem.EqNone.ne_none_str (aK I q Ξ)
  |_=>exact absurd (show ξ=θ from Y) qb5
 |bl i=>
  cases Z;cases y with
  |non=>cases U;exact PySem.EqNone.ne_bool_none (aK I q Ξ)
  |bl j=>cases U;exact ne_bool (aK I q (congrArg not vJ))
  |str j=>obtain⟨t',rfl⟩:=U;exact PySem.EqMixed.ne_bool_str (aK I q Ξ)
  |_=>exact absurd (show ξ=θ from Y) qb5
 |int i=>
  obtain⟨t,rfl⟩:=Z;cases y with
  |non=>cases U;exact PySem.EqNone.ne_int_none (aK I q Ξ)
  |int j=>obtain⟨t',rfl⟩:=U;exact ne_int (aK I q (congrArg not rM))
  |str j=>obtain⟨t',rfl⟩:=U;exact PySem.EqMixed.ne_int_str (aK I q Ξ)
  |_=>exact absurd (show ξ=θ from Y) qb5
 |str i=>
  obtain⟨t,rfl⟩:=Z;cases y with
  |non=>cases U;exact PySem.EqNone.ne_str_none (aK I q Ξ)
  |bl j=>cases U;exact PySem.EqMixed.ne_str_bool (aK I q Ξ)
  |int j=>obtain⟨t',rfl⟩:=U;exact PySem.EqMixed.ne_str_int (aK I q Ξ)
  |str j=>obtain⟨t',rfl⟩:=U;exact ne_str (aK I q (congrArg not rO))
  |_=>exact absurd (show ξ=θ from Y) qb5
 |byt i=>
  obtain⟨t,rfl⟩:=Z;cases y with
  |byt j=>obtain⟨t',rfl⟩:=U;exact PySem.W.ne_bytes (aK I q (congrArg not rP))
  |_=>exact absurd (show ξ=θ from Y) qb5
 |_=>cases y<;>exact absurd (show ξ=θ from Y) qb5
theorem vK:OpR X (qh8 .Lt) (rI0 fun i j=>.bl (decide (i<j))):=CK fun _ _ _ _ _ _ _ q=>lt_int q
theorem Bn:OpR X (qh8 .Gt) (rI0 fun i j=>.bl (decide (j<i))):=CK fun _ _ _ _ _ _ _ q=>gt_int q
theorem Bo:OpR X (qh8 .GtE) (rI0 fun i j=>.bl (decide (j<=i))):=CK fun _ _ _ _ _ _ _ q=>ge_int q
theorem tZ:OpR X (qh8 .In) (fun x y H Q=>∃i j,x=.str i/\y=.str j/\Q (.bl (!(qu6 j i 0 j.length 1).isEmpty)) H):=by intro J1 s σ H x y v u Q I U W h;obtain⟨i,j,rfl,rfl,q⟩:=h;obtain⟨t,rfl⟩:=U;obtain⟨t',rfl⟩:=W;exact in_str (aK I q rfl)
theorem vM:OpR X (qh8 .Is) (fun x y H Q=>y=.non/\Q (.bl (decide (x=.non))) H):=by
 intro J1 s σ H x y v u Q I U W h;obtain⟨rfl,q⟩:=h;cases W;refine is_none_gen (aK I q ?_)
 cases x<;>first
  |(cases U;rfl)
  |(obtain⟨t,rfl⟩:=U;rfl)
theorem rQ:OpR X (qh8 .IsNot) (fun x y H Q=>y=.non/\Q (.bl (!decide (x=.non))) H):=by
 intro J1 s σ H x y v u Q I U W h;obtain⟨rfl,q⟩:=h;cases W;refine isnot_none_gen (aK I q ?_)
 cases x<;>first
  |(cases U;rfl)
  |(obtain⟨t,rfl⟩:=U;rfl)
theorem OpR.or{U:R2}(h:OpR X f r)(h':OpR X f U):OpR X f (fun x y H Q=>r x y H Q∨U x y H Q):=by
 intro J1 s σ H x y v u Q I W Y q;rcases q with q|q
 .exact h J1 s σ H x y v u Q I W Y q
 .exact h' J1 s σ H x y v u Q I W Y q
theorem bP(b:Jc){op:CmpOp}(h:op≠.In:=by decide)(h2:op≠.NotIn:=by decide):qj4 op b=ξ:=by
 have W:(op==CmpOp.In)=ξ:=by cases op<;>first|rfl|exact absurd rfl h
 have U:(op==CmpOp.NotIn)=ξ:=by cases op<;>first|rfl|exact absurd rfl h2
 cases b<;>simp[qj4,W,U]
theorem rR{op:CmpOp}(ho:OpR X (qh8 op) r)(U:PE X a ta)(hb:PE X b tb)(hm:qj4 op b=ξ):PE X (.Compare a [op] [b] pos) (tOp r ta tb):=by intro J1 s σ H Q I h;exact wpAny_Compare1 (CJ U hb I h fun v u Z x y H2 I2 W Y q=>ho J1 Z σ H2 x y v u Q I2 W Y q) hm
def Fl(t:TE):TT:=fun σ H Q=>t σ H fun x H'=>∃k,x=.bl k/\Q k H'
theorem mT{op:CmpOp}(ho:OpR X (qh8 op) r)(ha:PE X a ta)(Y:PE X b tb)(W:qj4 op b=ξ):PT X (.Compare a [op] [b] pos) (Fl (tOp r ta tb)):=by
 intro J1 s σ H Q I h
 refine zg3 (thn (ha J1 s σ H _ I h) fun v s1 ⟨x,H1,I1,r1,q1⟩=>thn (Y J1 s1 σ H1 _ I1 q1) fun u s2 ⟨y,H2,U,r2,q2⟩=>thn (ho J1 s2 σ H2 x y v u _ U r1 r2 q2) fun c s3 ⟨z,H3,I3,r3,k,e,Z⟩=>?_) W
 subst e;cases r3;exact qo4 ⟨H3,I3,Z⟩
def CS(K:xA9)(x:V)(H:Hp)(k:Bool):Prop:=
 match x with
 |.non=>k=ξ
 |.bl b=>k=b
 |.int i=>k=(i != 0)
 |.str y=>y.length<=qb2/\k=((y.length:Int) != 0)
 |.byt y=>y.size<=qb2/\k=((y.size:Int) != 0)
 |.ref p=>(∃xs,SqL K H p xs/\k=!xs.isEmpty)∨(∃xs,SqT K H p xs/\k=!xs.isEmpty)∨∃J6,H p=ς (.dK J6)/\k=!J6.isEmpty
 |_=>False
theorem qf{κ:Type}{J6:η (κ×V)}{vs:η (κ×Value)}(r:KV J6 vs):(!vs.isEmpty)=!J6.isEmpty:=by cases r<;>rfl
theorem j4{J8:η Value}(r:Vals xs J8):(!J8.toArray.isEmpty)=!xs.isEmpty:=by cases r<;>simp
def iN:(qb2:Nat)<2^63:=by rw[qz0];decide
theorem CT:TruR X (fun x H Q=>∃k,CS X.K x H k/\Q k H):=by
 intro J1 s σ H x v Q I rx h;obtain⟨k,e,q⟩:=h;have hl:=iN;have hs:qb2=16777216:=qz0;cases x with
 |non=>cases rx;have e':k=ξ:=e;subst e';exact truthy_none ⟨H,I,q⟩
 |bl b=>cases rx;have e':k=b:=e;subst e';exact qo4 ⟨H,I,q⟩
 |int i=>obtain⟨t,rfl⟩:=rx;have e':k=(i != 0):=e;subst e';exact PySem.P.truthy_int ⟨H,I,q⟩
 |str y=>obtain⟨t,rfl⟩:=rx;obtain⟨hy,e'⟩:y.length<=qb2/\k=((y.length:Int) != 0):=e;subst e';exact PySem.P.truthy_str Θ ⟨H,I.tok _,q⟩
 |byt y=>obtain⟨t,rfl⟩:=rx;obtain⟨hy,e'⟩:y.size<=qb2/\k=((y.size:Int) != 0):=e;subst e';exact PySem.W.truthy_bytes Θ ⟨H,I.tok _,q⟩
 |ref p=>
  cases rx;have e':(∃xs,SqL X.K H p xs/\k=!xs.isEmpty)∨(∃xs,SqT X.K H p xs/\k=!xs.isEmpty)∨∃J6,H p=ς (.dK J6)/\k=!J6.isEmpty:=e;rcases e' with ⟨xs,hx,e'⟩|⟨xs,hx,e'⟩|⟨J6,hx,e'⟩
  .subst e';obtain⟨J8,r,pl,hz⟩:=I.list hx;have hlen:=r.length;exact wpAny_truthy_list pl.isList (by simp only[qb6];lia) ⟨H,I.tok _,by rw[j4 r];exact q⟩
  .subst e';obtain⟨J8,r,pl,hz⟩:=I.tuple hx;have hlen:=r.length;exact truthy_tuple pl (by simp only[qb6];lia) ⟨H,I.tok _,by rw[j4 r];exact q⟩
  .subst e';obtain⟨hz,hS,vs,r,m⟩:J6.length<=qb2/\(p==qk8)=ξ/\∃vs,KV J6 vs/\s.heap.DictOf (aE X.prog X.w) p vs:=I.hok p _ hx;have hlen:J6.length=vs.length:=Paired.length r;exact wpAny_truthy_dict hS m Θ ⟨H,I.tok _,by rw[qf r];exact q⟩
 |_=>exact(show False from e).elim
theorem vN (W:PE X a ta) (Y:∀ U,isTrue a X.env U=(do let v <- U;standAt a.pos;qy8 [v] (truthy v))) :
  PT X a (fun σ H Q=>ta σ H fun x H'=>∃k,CS X.K x H' k/\Q k H'):=by
 intro J1 s σ H Q I h;exact isTrue_plain (thn (W J1 s σ H _ I h) fun v s1 ⟨x,H1,Z,r1,q1⟩=>CT J1 s1 σ H1 x v Q Z r1 q1) (Y _)
theorem qg:OpR X (qm9 .Add) (fun x y H Q=>∃i j,x=.str i/\y=.str j/\i.length+j.length<=qb2/\Q (.str (i++j)) H):=by intro J1 s σ H x y v u Q I U W h;obtain⟨i,j,rfl,rfl,Y,q⟩:=h;obtain⟨t,rfl⟩:=U;obtain⟨t',rfl⟩:=W;exact add_str (fun t' tk=>⟨.str (i++j),H,I.tok _,⟨_,rfl⟩,q⟩) Y
theorem fK{x:V}(r:Vals [x] us):∃u,us=[u]/\RelV x u:=by
 cases r with
 |cons W U=>cases U;exact⟨_,rfl,W⟩
theorem rS{x:V}(r:Vals [x,y] us):∃u w',us=[u,w']/\RelV x u/\RelV y w':=by
 cases r with
 |cons W Y=>
  cases Y with
  |cons U Z=>cases Z;exact⟨_,_,rfl,W,U⟩
def LenV(K:xA9)(x:V)(H:Hp)(n:Nat):Prop:=
 match x with
 |.str y=>y.length<=qb2/\n=y.length
 |.byt y=>y.size<=qb2/\n=y.size
 |.ref p=>(∃xs,SqL K H p xs/\n=xs.length)∨∃xs,SqT K H p xs/\n=xs.length
 |_=>False
theorem vO:cz X (.builtin "len") (fun xs H Q=>∃x n,xs=[x]/\LenV X.K x H n/\Q (.int n) H):=by
 intro J1 s σ H xs us Q I r h;obtain⟨x,n,rfl,e,q⟩:=h;obtain⟨u,rfl,rx⟩:=fK r;have hl:=iN;have hs:qb2=16777216:=qz0;cases x with
 |str y=>obtain⟨t,rfl⟩:=rx;obtain⟨hy,e'⟩:y.length<=qb2/\n=y.length:=e;subst e';exact len_str Θ ⟨.int _,H,I.tok _,⟨_,rfl⟩,q⟩
 |byt y=>obtain⟨t,rfl⟩:=rx;obtain⟨hy,e'⟩:y.size<=qb2/\n=y.size:=e;subst e';exact PySem.W.len_bytes Θ ⟨.int _,H,I.tok _,⟨_,rfl⟩,q⟩
 |ref p=>
  cases rx;have e':(∃xs,SqL X.K H p xs/\n=xs.length)∨∃xs,SqT X.K H p xs/\n=xs.length:=e;rcases e' with ⟨xs,hx,e'⟩|⟨xs,hx,e'⟩
  .subst e';obtain⟨J8,r',pl,hz⟩:=I.list hx;have hlen:=r'.length;exact Calls.call_len_list pl.isList (by simp only[qb6];lia) ⟨.int xs.length,H,I.tok _,⟨_,by simp only[qb6];rw[hlen]⟩,q⟩
  .subst e';obtain⟨J8,r',pl,hz⟩:=I.tuple hx;have hlen:=r'.length;exact len_tuple pl (by simp only[qb6];lia) ⟨.int xs.length,H,I.tok _,⟨_,by simp only[qb6];rw[hlen]⟩,q⟩
 |_=>exact(show False from e).elim
end
structure ObjM(h:Heap)(x dx C:J9)(mA:Str->Option Value):Prop where
 obj:h.get? x=ς (xO9 C dx)
 ns:h.Ns1 dx mA
 ne:dx≠x
variable{dx:J9}{mA:Str->ζ Value}
theorem t5(n:h.Ns1 dx mA):∃od,h.get? dx=ς od/\∀name,PySem.W.lookIn name od=ς (mA name):=by
 obtain⟨o,es,ep,ho,Y,hk,_,hm⟩:=n;refine⟨o,ho,fun name=>?_⟩;have e:=hm name;unfold nsFind findBy at e;rw[<- Array.find?_toList]at e;unfold PySem.W.lookIn;rw[Y];dsimp only;split
 .rename_i y q;rw[q]at e;exact congrArg ς e
 .rename_i q;rw[q]at e
  have a:es.toList.any (·.refKey)=ξ:=by rw[List.any_eq_false];intro y hy;obtain⟨z,t,U⟩:=hk y (Array.mem_toList_iff.mp hy);simp[zm9.refKey,U]
  have Z:¬ es.toList.any (·.refKey)=θ:=by rw[a];exact qb5
  rw[if_neg Z];exact congrArg ς e
variable{C:J9}
theorem ObjM.look{x:J9}(I:ObjM h x dx C mA):∃od,PySem.W.InstAt h x (xO9 C dx) C (ς od)/\∀name,PySem.W.lookIn name od=ς (mA name):=
 let ⟨od,ho,hl⟩:=t5 I.ns
 ⟨od,⟨I.obj,rfl,rfl,ho⟩,hl⟩
section
variable{prog:qc5}{w:Ja}{A:qe1}{E:Value->qa3->Prop}{s:qa3}{K:xA9}{x dx C f:J9}{mA:Str->ζ Value}{name:Str}{v:Value}
end
theorem RelO.some_of{o:ζ Value}(r:RelO (ς v) o):∃u,o=ς u/\RelV v u:=by
 cases o with
 |none=>exact(show False from r).elim
 |some u=>exact⟨u,rfl,r⟩
section
variable{P:qc5}{w:Ja}{H H':Hp}{h h':Heap}{a C dx:J9}{fs fs':η (Str×V)}
theorem zj(U:HOk P w H h)(e:H a=ς (.ins C dx fs)):∃mA,ObjM h a dx C mA/\(∀f,RelO (fs.lookup f) (mA f))/\PySem.Within mA (fs.map (·.1))/\fs.length<=1000/\H dx=ς (.own a):=by obtain⟨d,z,W,ob,mA,n,r,q⟩:=(show ObjOk P w H h a (.ins C dx fs)from U a _ e);exact⟨mA,⟨ob,n,W⟩,r,q,z,d⟩
end
structure Cls(K:xA9)(C:J9):Prop where
 pg:PySem.W.plainGet K C Str.empty=θ
 hd:PySem.W.hasDictIn K C=θ
 po:PySem.W.plainOver K C=θ
 sa:PySem.W.findIn K (.ref C) "__setattr__"=ς (ς (.builtin "object.__setattr__"))
theorem Cls.get(c:Cls K C)(f:Str):PySem.W.plainGet K C f=θ:=c.pg
section
variable{X:Cx}{J1:η (J9×Obj)}{σ:St}{H:Hp}{s:qa3}{a C dx:J9}{fs:η (Str×V)}{f:Str}{v:V}{A:qe1}{E:Value->qa3->Prop}
end
section
variable{X:Cx}{o e value:Jc}{f:Str}{pos pos' tpos:Pos}{ta tv:TE}
end
section
variable{X:Cx}{J1:η (J9×Obj)}{σ:St}{H:Hp}{s:qa3}{A:qe1}{E Q:Value->qa3->Prop}{c:Value}{b:Bool}
inductive TyOf(K:xA9)(H:Hp):V->Value->Prop where
 |non:TyOf K H .non (.type "NoneType")
 |bl (x:Bool):TyOf K H (.bl x) (.type "bool")
 |int (i:Int):TyOf K H (.int i) (.type "int")
 |str (x:Str):TyOf K H (.str x) (.type "str")
 |flt (x:UInt64):TyOf K H (.flt x) (.type "float")
 |e {a:J9} {xs:List V} (e:H a=ς (.e xs)):TyOf K H (.ref a) (.type "list")
 |frz {a:J9} {o:Obj} {xs:List V} (e:H a=ς (.frz o (.e xs))):TyOf K H (.ref a) (.type "list")
 |t {a:J9} {xs:List V} (e:H a=ς (.t xs)):TyOf K H (.ref a) (.type "tuple")
 |dK {a:J9} {J6:List (Key×V)} (e:H a=ς (.dK J6)):TyOf K H (.ref a) (.type "dict")
 |dT {a:J9} {J6:List (List Key×V)} (e:H a=ς (.dT J6)):TyOf K H (.ref a) (.type "dict")
 | ins {a C dx:J9} {fs:List (Str×V)} (e:H a=ς (.ins C dx fs)) (cl:Cls K C) (ha:PySem.W.findIn K (.ref C) "__class__"=ς (ς (.builtin "object.__class__")))
     (hn:PySem.W.specialIn K (.builtin "object.__class__") "__get__"=ς (ς (.builtin "getset_descriptor.__get__"))) (htk:PySem.W.takesIn K (.builtin "object.__class__")=ς θ)
     (hm:PySem.W.mroIn K C (.type "object")=ς θ):TyOf K H (.ref a) (.ref C)
theorem gx {x:V} {t:Value} (I:Inv X J1 σ H s) (Y:RelV x u) (ty:TyOf X.K H x t) (e:xL9 X.K t c=ς b) (h:∀ tk,Q (.bool b) {s with toks:=tk}) :
  wpAny (model X.prog X.w) A (call (.builtin "isinstance") [u,c]) Q E s:=by
 cases ty with
 |non=>cases (show u=qi9 from Y);exact xD9 PySem.W.kitx_none I.kIn qt8 e (fun z=>nomatch z) h
 |bl y=>cases (show u=qy1 y from Y);exact xD9 PySem.W.kitx_bool I.kIn qt8 e (fun z=>nomatch z) h
 |int i=>obtain⟨t,q⟩:=(show ∃t,u=zm7 i t from Y);cases q;exact xD9 PySem.W.kitx_int I.kIn qt8 e (fun z=>nomatch z) h
 |str y=>obtain⟨t,q⟩:=(show ∃t,u=zm8 y t from Y);cases q;exact xD9 PySem.W.kitx_str I.kIn qt8 e (fun z=>nomatch z) h
 |flt y=>obtain⟨t,q⟩:=(show ∃t,u=Value.float y t from Y);cases q;exact xD9 PySem.W.kitx_float I.kIn qt8 e (fun z=>nomatch z) h
 |@e a xs U=>cases (show u=qf3 a from Y);obtain⟨_,_,n,_,h1⟩:=(show ObjOk X.prog X.w H s.heap a (.e xs)from I.hok a _ U);exact xD9 xQ9 I.kIn ⟨_,h1,rfl⟩ e (fun z=>nomatch z) h
 |@frz a ob xs U=>cases (show u=qf3 a from Y);obtain⟨_,_,_,n,_,h1⟩:=(show ObjOk X.prog X.w H s.heap a (.frz ob (.e xs))from I.hok a _ U);exact xD9 xQ9 I.kIn ⟨_,h1,rfl⟩ e (fun z=>nomatch z) h
 |@t a xs U=>cases (show u=qf3 a from Y);obtain⟨_,_,_,p⟩:=(show ObjOk X.prog X.w H s.heap a (.t xs)from I.hok a _ U);obtain⟨o,h1,h2,_⟩:=p;exact xD9 PySem.W.kitx_tuple I.kIn ⟨o,h1,h2⟩ e (fun z=>nomatch z) h
 |@dK a J6 U=>cases (show u=qf3 a from Y);obtain⟨_,_,vs,_,p⟩:=(show ObjOk X.prog X.w H s.heap a (.dK J6)from I.hok a _ U);obtain⟨o,es,ep,h1,h2,_⟩:=p;exact xD9 xM9 I.kIn ⟨o,h1,h2.1⟩ e (fun z=>nomatch z) h
 |@dT a J6 U=>cases (show u=qf3 a from Y);obtain⟨_,_,xs,_,o,es,ep,h1,h2,_⟩:=(show ObjOk X.prog X.w H s.heap a (.dT J6)from I.hok a _ U);exact xD9 xM9 I.kIn ⟨o,h1,h2.1⟩ e (fun z=>nomatch z) h
 |@ins a C dx fs U cl ha hn Z hm=>cases (show u=qf3 a from Y);obtain⟨mA,O,_⟩:=zj I.hok U;obtain⟨od,J,_⟩:=O.look;exact xD9 (PySem.W.kitx_own (cl.get _) cl.hd ha hn Z hm) I.kIn J e (fun z=>nomatch z) h
end
structure Room(k:Nat)(A:qe1):Prop where
 hd:A.handled=ψ
 dp:A.depth+3*k+5<recursionLimit
 un:A.units+16*k+200<cLine
theorem Room.mono{k:Nat}(r:Room k A)(h:j<=k):Room j A:=⟨r.hd,by have:=r.dp;lia,by have:=r.un;lia⟩
theorem Room.deeper{k:Nat}(r:Room (k+1) A)(env:Env):Room k (A.deeper env):=⟨r.hd,by have:=r.dp;show A.depth+1+3*k+5<_;lia,by have:=r.un;show A.units+3+16*k+200<_;lia⟩
theorem Room.depth{k:Nat}(r:Room k A):A.depth<recursionLimit:=by have:=r.dp;lia
theorem Room.units{k:Nat}(r:Room k A):A.units+64<cLine:=by have:=r.un;lia
def tNil:TA:=fun _ H Q=>Q [] H
def Fp(ta:TE)(U:TA):TA:=fun σ H Q=>ta σ H fun x H1=>U σ H1 fun xs H2=>Q (x::xs) H2
section
variable{X:Cx}{e:Jc}{es:η Jc}{te:TE}{t:TA}{pos:Pos}
theorem eG:PA X [] tNil:=fun _ _ _ _ H Q I h=>Calls.spliced_nil ⟨[],H,I,.nil,h⟩
theorem bW(U:PE X e te)(W:PA X es t)(Y:qa8 (e::es) X.env=(ξ,eval e X.env)::qa8 es X.env:=by rfl):PA X (e::es) (Fp te t):=by intro pos J1 s σ H Q I h;rw[Y];show wpAny _ _ (spliced ((ξ,eval e X.env)::ql8 pos (qa8 es X.env))) _ _ s;refine Calls.spliced_cons (thn (U J1 s σ H _ I h) fun u s1 ⟨x,H1,I1,r1,q1⟩=>?_);exact thn (W pos J1 s1 σ H1 _ I1 q1) fun us s2 ⟨xs,H2,Z,r2,q2⟩=>⟨x::xs,H2,Z,.cons r1 r2,q2⟩
def tTup(t:TA):TE:=fun σ H Q=>t σ H fun xs H1=>xs.length<=qb2/\∀p,H1 p=ψ->Q (.ref p) (upd H1 p (.t xs))
def tLst(t:TA):TE:=fun σ H Q=>t σ H fun xs H1=>xs.length<=qb2/\∀p,H1 p=ψ->Q (.ref p) (upd H1 p (.e xs))
theorem vP{x1}(h:PA X es t):PE X (.Tuple es x1 pos) (tTup t):=by intro J1 s σ H Q I W;refine wpAny_Tuple_spliced (thn (h pos J1 s σ H _ I W) fun us s1 ⟨xs,H1,U,r,z,q⟩=>⟨by rw[<- r.length];exact z,?_⟩);have Y:H1 s1.heap.objs.size=ψ:=U.hok.fresh (nL _);refine⟨.ref s1.heap.objs.size,upd H1 s1.heap.objs.size (.t xs),U.laid (t':=s1.toks) (fun b u e=>gP _ e) (nL _) ?_,rfl,q _ Y⟩;exact⟨z,us,r,⟨_,qa7 _ rfl,rfl,_,rfl⟩⟩
theorem CU(h:PA X es t):PE X (.List es pos) (tLst t):=by intro J1 s σ H Q I W;refine wpAny_List_spliced (thn (h pos J1 s σ H _ I W) fun us s1 ⟨xs,H1,U,r,z,q⟩=>⟨by rw[<- r.length];exact z,?_⟩);have Y:H1 s1.heap.objs.size=ψ:=U.hok.fresh (nL _);refine⟨.ref s1.heap.objs.size,upd H1 s1.heap.objs.size (.e xs),U.laid (t':=s1.toks) (fun b u e=>gP _ e) (nL _) ?_,rfl,q _ Y⟩;exact⟨z,us,0,r,qa7 _ rfl⟩
end
abbrev Sp:=η V->Hp->VK->XK->Prop
abbrev CXT:=η Env->Hp->qa3->XK->Value->qa3->Prop
structure Env0(P:qc5)(w:Ja)(K:xA9)(mg:Str->Option Value)(base:Heap)(A:qe1)(outer:List Env)(s:qa3)(H:Hp):Prop where
 frames:A.frames=ς outer
 mod:Mod K mg base
 bs:∀b o,base.get? b=ς o->s.heap.get? b=ς o/\H b=ψ
 bsz:base.objs.size<=s.heap.objs.size
 funs:s.heap.FunFrames base outer
 frf:∀b∈frs outer,H b=ψ
 hok:HOk P w H s.heap
 bare:zg0 s.gens
 tb:∀p∈cS K,H p.1=ς (.ctab p.2)
def CE(outer:η Env)(P:qc5)(w:Ja)(H:Hp)(s:qa3)(Q:VK)(u:Value)(s':qa3):Prop:=∃v H',s'.os=s.os/\zg0 s'.gens/\Un (frs outer) [] H H' s.heap s'.heap/\HOk P w H' s'.heap/\RelV v u/\Q v H'
def CR(CX:CXT)(outer:η Env)(P:qc5)(w:Ja)(H:Hp)(s:qa3)(Q:VK)(E:XK)(r:zn1)(s':qa3):Prop:=
 match r with
 |.ok (.ret u)=>CE outer P w H s Q u s'
 |.ok _=>False
 |.error e=>CX outer H s E e s'
structure FnOk(P:qc5)(w:Ja)(K:xA9)(mg:Str->Option Value)(base:Heap)(CX:CXT)(k:Nat)(f:J9)(fd:qr5)(ps:List Str)(sp:Sp):Prop where
 len:∀vs H Q E,sp vs H Q E->vs.length=ps.length
 run:∀(A:qe1)(outer:List Env)(s:qa3)(H:Hp)(args:Args)(us:List Value)(vs:List V)(Q:VK)(E:XK),Room k A->Env0 P w K mg base A outer s H->zc8 s fd args (ps.zip us)->Vals vs us->sp vs H Q E→
  qq7 (model P w) A (.call (.ref f) args) (CR CX outer P w H s Q E) s
variable{mg:Str->ζ Value}{base:Heap}{CX:CXT}{fd:qr5}{ps:η Str}{sp:Sp}
theorem FnOk.imp{k:Nat}{f:J9}{U:Sp}(F:FnOk P w K mg base CX k f fd ps sp)
 (h:∀vs H Q E,U vs H Q E->sp vs H Q E):FnOk P w K mg base CX k f fd ps U:=
 ⟨fun vs H Q E q=>F.len vs H Q E (h _ _ _ _ q),fun A outer s H W us vs Q E Z he hb Y hs=>F.run A outer s H W us vs Q E Z he hb Y (h _ _ _ _ hs)⟩
section
variable{X:Cx}{J1:η (J9×Obj)}{σ:St}{H:Hp}{s s':qa3}
theorem Inv.env0(I:Inv X J1 σ H s):Env0 X.prog X.w X.K X.mg X.base X.A X.stack s H:=⟨I.ok.frames,I.ok.mod,I.bs,qc0 I.ok.bsz I.sz,I.stack,I.stkFree,I.hok,I.bare,fun p hp=>I.base.cts _ _ (I.ok.tb p hp)⟩
theorem Inv.after{Q:VK}(I:Inv X J1 σ H s)(h:CE X.stack X.prog X.w H s Q u s'):EP X J1 σ Q u s':=by obtain⟨v,H',os,U,un,Y,r,q⟩:=h;obtain⟨Z,g,d,t,W⟩:=s';obtain rfl:W=s.os:=os;exact⟨v,H',I.call (h':=Z) (g':=g) (d':=d) (t':=t) (ch:=[]) un Y U (fun b z=>absurd z Ξ),r,q⟩
end
def vQ(sp:Sp)(dvs:η V)(E:XK)(t:TA):TE:=fun σ H Q=>t σ H fun vs H1=>sp (vs++dvs) H1 Q E
def Binds(K:xA9)(fd:qr5)(ps:η Str)(ds:η Value):Prop:=∀(s:qa3)(us:η Value),K.In s.heap->(us++ds).length=ps.length->zc8 s fd ⟨us,[]⟩ (ps.zip (us++ds))
theorem Binds.all(h:∀us:η Value,us.length=ps.length->zk2 fd ⟨us,[]⟩=pure (ps.zip us)):Binds K fd ps []:=fun s us _ U=>by rw[qh0]at U ⊢;exact .of_eq (h us U)
def qh(CX:CXT)(X:Cx)(E:XK):Prop:=∀(J1:η (J9×Obj))(σ:St)(H:Hp)(s:qa3)(e:Value)(s':qa3),Inv X J1 σ H s->CX X.stack H s E e s'->X.xe e s'
variable{vs:η V}
section
variable{X:Cx}{CX:CXT}{k:Nat}{f C:J9}{fd:qr5}{ps:η Str}{sp:Sp}{dvs:η V}{ds:η Value}{E:XK}{x m:Str}{p pos apos:Pos}{e o:Jc}{es:η Jc}{ta:TE}{t:TA}
theorem CV{Q:VK}(F:FnOk X.prog X.w X.K X.mg X.base CX k f fd ps sp)(hr:Room k X.A)(hb:Binds X.K fd ps ds)(Y:Vals dvs ds)(hx:qh CX X E)
 (I:Inv X J1 σ H s) (r:Vals vs us) (h:sp (vs++dvs) H Q E):wpAny (model X.prog X.w) X.A (call (.ref f) us) (EP X J1 σ Q) X.xe s:=by
 have W:Vals (vs++dvs) (us++ds):=r.append Y;have Z:(us++ds).length=ps.length:=by rw[<- W.length];exact F.len _ _ _ _ h
 refine zl2 (qt9 (F.run X.A X.stack s H ⟨us,[]⟩ (us++ds) (vs++dvs) Q E hr I.env0 (hb s us I.kIn Z) W h) fun r s' U=>?_);cases r with
 |error e=>exact hx J1 σ H s e s' I U
 |ok fl=>
  cases fl with
  |ret u=>exact I.after U
  |next=>exact qg9 U
  |brk=>exact qg9 U
  |cont=>exact qg9 U
theorem zm (F:FnOk X.prog X.w X.K X.mg X.base CX k f fd ps sp) (hr:Room k X.A) (hg:Gl X x) (hm:X.mg x=ς (.ref f)) (hk:xF9 X.K (.ref f)=θ) (hb:Binds X.K fd ps ds) (hd:Vals dvs ds) (hx:qh CX X E)
  (ha:PA X (e::es) t) (Y:(x==("__debug__":Str))=ξ:=by decide) (he:qa8 (e::es) X.env=(ξ,eval e X.env)::qa8 es X.env:=by rfl) (U:(ql8 pos (qa8 es X.env)).any (·.1)=ξ:=by rfl) :
  PE X (.Call (.Name x p) (e::es) [] pos) (vQ sp dvs E t):=by
 intro J1 s σ H Q I h;refine qq5 (mO I hg hm ?_ Y);refine PySem.W.callWith_K (h₀:=X.base) I.ok.mod.kin hk (thn (ha pos J1 s σ H _ I h) fun us s1 ⟨vs,H1,Z,r,q⟩=>⟨Z.kIn,?_⟩) he U;exact CV F hr hb hd hx Z r q
end
section
variable{X:Cx}{CX:CXT}{k:Nat}{f C:J9}{fd:qr5}{ps ks:η Str}{sp:Sp}{E:XK}{x m:Str}{p pos apos kpos:Pos}{e o:Jc}{es:η Jc}{kws:η zg5}{te ta:TE}{t tk:TA}{nm:ζ Str}
variable{g:η Value->η Value->η Value}{gV:η V->η V->η V}
end
structure FnScope(N P:List Str)(sc:Jd):Prop where
 kind:sc.kind=.function
 co:sc.isCoroutine=ξ
 gen:sc.isGenerator=ξ
 nd:N.Nodup
 pre:N.take P.length=P
 par:∀x∈P,sc.names.lookup x=ς .local∨sc.names.lookup x=ς .cell
 nofree:∀y∈sc.names,y.2≠.free
variable{kindOf:Str->ζ qq6}
theorem lL:∀{binds:η (Str×Value)}{m:Str->ζ Value},(∀v,(x,v)∉binds)->bindL kindOf binds m x=m x
 |[],_,_=>rfl
 |(n,v)::r,m,h=>by
  unfold bindL;rw[lL fun w hw=>h w (qd4 _ hw)];split
  .have:x≠n:=by rintro rfl;exact h v qe7
   simp[this]
  .rfl
theorem lM:∀{binds:η (Str×Value)}{m:Str->ζ Value},(∀v,(x,v)∉binds)->bindC kindOf binds m x=m x
 |[],_,_=>rfl
 |(n,v)::r,m,h=>by
  unfold bindC;rw[lM fun w hw=>h w (qd4 _ hw)];split
  .rfl
  .have:x≠n:=by rintro rfl;exact h v qe7
   simp[this]
theorem iO {v:Value}:∀ {P:η Str} {vs:η Value} {i:Nat} {m:Str->ζ Value},P.Nodup->P[i]?=ς x->vs[i]?=ς v->kindOf x=ς .local→
  bindL kindOf (P.zip vs) m x=ς v
 |[],_,_,_,_,h,_,_=>by simp at h
 |_::_,[],_,_,_,_,h,_=>by simp at h
 |p::P,w::vs,0,m,nd,h1,h2,hk=>by
  simp at h1 h2;subst h1;subst h2
  show bindL kindOf ((p,w)::P.zip vs) m p=_;unfold bindL;rw[lL fun v hv=>(qg0.mp nd).1 (qz1 hv).1,if_pos hk];simp
 |p::P,w::vs,i+1,m,nd,h1,h2,hk=>by show bindL kindOf ((p,w)::P.zip vs) m x=_;unfold bindL;exact iO (i:=i) (qg0.mp nd).2 (by simpa using h1) (by simpa using h2) hk
theorem iP {v:Value}:∀ {P:η Str} {vs:η Value} {i:Nat} {m:Str->ζ Value},P.Nodup->P[i]?=ς x->vs[i]?=ς v->kindOf x≠ς .local→
  bindC kindOf (P.zip vs) m x=ς v
 |[],_,_,_,_,h,_,_=>by simp at h
 |_::_,[],_,_,_,_,h,_=>by simp at h
 |p::P,w::vs,0,m,nd,h1,h2,hk=>by
  simp at h1 h2;subst h1;subst h2
  show bindC kindOf ((p,w)::P.zip vs) m p=_;unfold bindC;rw[lM fun v hv=>(qg0.mp nd).1 (qz1 hv).1,if_neg hk];simp
 |p::P,w::vs,i+1,m,nd,h1,h2,hk=>by show bindC kindOf ((p,w)::P.zip vs) m x=_;unfold bindC;exact iP (i:=i) (qg0.mp nd).2 (by simpa using h1) (by simpa using h2) hk
def start(N:η Str)(vs:η V):St:=vs.map ς++qb9 (N.length-vs.length) ψ
noncomputable def j5(CX:CXT)(P:qc5)(w:Ja)(K:xA9)(mg:Str->ζ Value)(base:Heap)(N:η Str)(qual:Str)(scope:Jd)(f:J9)(Y:Value)(A:qe1)(outer:η Env)(s:qa3)(H:Hp)(E:XK):Cx where
 prog:=P
 w:=w
 K:=K
 mg:=mg
 base:=base
 A:=A.deeper (zb5 qual scope s.heap.objs.size f Y)
 N:=N
 s₀:=s
 H₀:=H
 env:=zb5 qual scope s.heap.objs.size f Y
 outer:=outer
 stack:=zb5 qual scope s.heap.objs.size f Y::outer
 ex:=[]
 calm:=true
 fn:=fun _=>θ
 pn:=[]
 xe:=fun e s'=>wpAny (model P w) (A.deeper (zb5 qual scope s.heap.objs.size f Y)) (leaving (zb5 qual scope s.heap.objs.size f Y) e) (fun _ U=>CX outer H s E e U) (fun Z U=>CX outer H s E Z U) s'
theorem hX{sc:Jd}(h:sc.names.lookup x=ς .cell):∃c,(qi0 n sc.names []).lookup x=ς c:=by have q:=xR9 sc.names n [] (.inl h);exact qu0.mp q
variable{qual:Str}{scope:Jd}
def t6{f:J9}{Z:Value}{outer:η Env}{s1:qa3}{E:XK} 
 (S:FnScope N ps scope) (hd:A.handled=ψ) (e0:Env0 P w K mg base A outer s H) (hl:vs.length=ps.length) (r:Vals vs us)
 (x:zg6 s s.heap.objs.size (bindL (zb5 qual scope s.heap.objs.size f Z).kindOf (ps.zip us) fun _=>ψ) (qi0 (s.heap.objs.size+1) scope.names []) (bindC (zb5 qual scope s.heap.objs.size f Z).kindOf (ps.zip us) fun _=>ψ) s1) :
  Inv (j5 CX P w K mg base N qual scope f Z A outer s H E) [] (start N vs) H s1:=by
 have hpl:ps.length<=N.length:=by have:=congrArg qp7 S.pre;rw[ze7]at this;lia
 obtain⟨h1,tk,rfl,hk⟩:=x.done;have U:∀b:J9,b∉(j5 CX P w K mg base N qual scope f Z A outer s H E).ex:=fun b z=>absurd (show b∈([]:η J9)from z) Ξ
 refine⟨⟨e0.mod,S.kind,rfl,rfl,nL _,fun y z c h1 h2=>?_,fun y W=>?_,fun y c _ h=>?_,fun _=>hd,qe1.frames_deeper e0.frames,.inr ⟨rfl,rfl⟩,fun b z=>absurd z (U b),e0.bs,e0.bsz,fun b _ _=>U b,fun b z=>absurd z (U b),e0.funs,e0.frf,e0.tb⟩,rfl,e0.bare,Un.kept hk,⟨_,x.toInCall.ns,fun i y v h1 h2 h3=>?_⟩,fun y c h=>⟨_,x.cell y c h⟩,e0.hok.fresh (qn6 _),fun y c h=>?_,fun p hp=>absurd (show p∈([]:η (J9×Obj))from hp) Ξ,e0.hok.kept hk,?_⟩
 .exact zl7 x.apart (PySem.mem_of_lookup h1) (PySem.mem_of_lookup h2)
 .have W:scope.names.lookup y=ς .cell∨scope.names.lookup y=ς .free:=W;rcases W with W|W
  .exact hX W
  .exact absurd rfl (S.nofree _ (PySem.mem_of_lookup W))
 .exact qi2 (x.above y c (PySem.mem_of_lookup h))
 .have hi:i<vs.length:=by
   unfold start at h2;by_cases hi:i<vs.length
   .exact hi
   .rw[qd5 (by simpa using hi)]at h2;rw[qm1]at h2;split at h2<;>cases h2
  have ha:vs[i]?=ς v:=by
   unfold start at h2;rw[qc9 (by simpa using hi),qb3]at h2;cases e:vs[i]? with
   |none=>rw[e]at h2;cases h2
   |some a=>rw[e]at h2;cases h2;rfl
  obtain⟨u,hu,rv⟩:=r.get ha
  have hp:ps[i]?=ς y:=by rw[<- S.pre,zb6 Θ];exact h1
  have Y:ps.Nodup:=by rw[<- S.pre];exact S.nd.sublist (zb7 _ _)
  refine⟨u,rv,?_⟩;rcases S.par y (qc7 hp)with k|k
  .exact .inl ⟨k,iO Y hp hu k⟩
  .obtain⟨c,e⟩:=hX (n:=s.heap.objs.size+1) k;refine .inr ⟨.inl k,c,e,?_⟩;have q:=x.cell y c e;rw[iP Y hp hu (by show scope.names.lookup y≠_;rw[k];decide)]at q;exact q
 .exact e0.hok.fresh (qi2 (x.above y c (PySem.mem_of_lookup h)))
 .unfold start;show _=N.length;rw[qc4,qa1,qn4];lia
theorem Bp{k:Nat}{f:J9}{name:Str}{params:ql1}{dV kV doc pm cdv ct oc:Value}{an od:ζ J9}
 {osl:Array (ζ Value)} (lk:K.lookup f=ς ⟨oc,od,.func (xC9 name qual params body scope dV kV doc pm an cdv ct),osl⟩) (hcd:xH9 K cdv qual=θ) (S:FnScope N ps scope)
 (len:∀vs H Q E,sp vs H Q E->vs.length=ps.length)
 (Z:∀(A:qe1)(outer:η Env)(s:qa3)(H:Hp)(vs:η V)(Q:VK)(E:XK),Room k (A.deeper (zb5 qual scope s.heap.objs.size f cdv))->sp vs H Q E→
 ∃t,PSs (j5 CX P w K mg base N qual scope f cdv A outer s H E) body t/\t {nx:=fun _ H'=>Q .non H',rt:=Q} (start N vs) H) :
  FnOk P w K mg base CX (k+1) f (xC9 name qual params body scope dV kV doc pm an cdv ct) ps sp:=by
 refine⟨len,fun A outer s H args us vs Q E hr e0 hb r hsp=>?_⟩;have hl:=len _ _ _ _ hsp;have KX:K.In s.heap:=e0.mod.kin.keeps fun b o e=>(e0.bs b o e).1
 have lim:s.heap.NoLimit:=e0.mod.nolimit.keeps fun b o e=>(e0.bs b o e).1
 have Y:∀y∈ps.zip us,scope.names.lookup y.1=ς .local∨(scope.names.lookup y.1=ς .cell/\((qi0 (s.heap.objs.size+1) scope.names []).lookup y.1).isSome=θ):=fun⟨n,v⟩ hy=>by
  rcases S.par n (qz1 hy).1 with q|q
  .exact .inl q
  .exact .inr ⟨q,xR9 _ _ _ (.inl q)⟩
 refine zg7 hr.depth (KX _ _ lk) rfl S.co S.gen rfl (PySem.W.codeRec_of KX hcd) (hb _ _ _ _ ?_);refine wpAny_newFunctionEnv_cells S.kind Y fun env he s1 x=>?_
 subst he;refine⟨lim.keeps x.toInCall.keep,codeAny_func ?_⟩;obtain⟨t,ht,hq⟩:=Z A outer s H vs Q E (hr.deeper _) hsp;have I:Inv (j5 CX P w K mg base N qual scope f cdv A outer s H E) [] (start N vs) H s1:=t6 S hr.hd e0 hl r x;refine ql9 (ht [] s1 (start N vs) H _ I hq) (fun fl s' hs=>?_) fun e s' hs=>hs
 have fin:∀{U:St}{H':Hp}{v:V}{u:Value},Inv (j5 CX P w K mg base N qual scope f cdv A outer s H E) [] U H' s'->RelV v u->Q v H'->CE outer P w H s Q u s':=fun {U H' v u} J rv q=>⟨v,H',J.os,J.bare,J.base,J.hok,rv,q⟩
 cases fl with
 |ret u=>obtain⟨v,U,H',J,rv,q⟩:=hs;exact fin J rv q
 |next=>obtain⟨U,H',J,q⟩:=hs;exact fin (v:=V.non) (u:=qi9) J rfl q
 |brk=>obtain⟨_,_,_,q⟩:=hs;exact qg9 q
 |cont=>obtain⟨_,_,_,q⟩:=hs;exact qg9 q
section
variable{X:Cx}{x:Str}{p pos:Pos}{e:Jc}{es:η Jc}{t:TA}{id T:String}{r:η V->Hp->VK->Prop}
def tCB(r:η V->Hp->VK->Prop)(t:TA):TE:=fun σ H Q=>t σ H fun vs H1=>r vs H1 Q
theorem vR (hc:cz X (.builtin id) r) (hg:Gl X x) (hm:X.mg x=ψ) (Z:qe0 x=ς (.builtin id)) (Y:PA X (e::es) t) (hn:x≠"__name__":=by decide) (W:(x==("__debug__":Str))=ξ:=by decide)
  (he:qa8 (e::es) X.env=(ξ,eval e X.env)::qa8 es X.env:=by rfl) (U:(ql8 pos (qa8 es X.env)).any (·.1)=ξ:=by rfl):PE X (.Call (.Name x p) (e::es) [] pos) (tCB r t):=by
 intro J1 s σ H Q I h;refine qq5 (eF I hg hm Z ?_ hn W);exact PyProof.Rows.callWith_builtin1 (thn (Y pos J1 s σ H _ I h) fun us s1 ⟨vs,H1,I1,r1,q1⟩=>hc J1 s1 σ H1 vs us Q I1 r1 q1) he U
theorem t7 (hc:cz X (.type T) r) (hg:Gl X x) (hm:X.mg x=ψ) (Z:qe0 x=ς (.type T)) (Y:PA X (e::es) t) (hn:x≠"__name__":=by decide) (W:(x==("__debug__":Str))=ξ:=by decide)
  (he:qa8 (e::es) X.env=(ξ,eval e X.env)::qa8 es X.env:=by rfl) (U:(ql8 pos (qa8 es X.env)).any (·.1)=ξ:=by rfl):PE X (.Call (.Name x p) (e::es) [] pos) (tCB r t):=by
 intro J1 s σ H Q I h;refine qq5 (eF I hg hm Z ?_ hn W);exact qf5 (thn (Y pos J1 s σ H _ I h) fun us s1 ⟨vs,H1,I1,r1,q1⟩=>hc J1 s1 σ H1 vs us Q I1 r1 q1) he U
end
end L2
namespace HT
open PySem PyProof.Rows
section
open PySem.SeqAt
open PySem.AutoSeq1 (wpAny_loadPart')
open PySem.MeetsSeq PySem.MeetsSeq2 PySem.MeetsSeq3
end
variable{Q:Value->qa3->Prop}{vu:Value}
section
variable{prog:qc5}{w:Ja}{A:qe1}{E:Value->qa3->Prop}{s:qa3}
theorem GC{t b:J9}{vs U:η Value}(ht:IsTup s.heap t vs.toArray)(hb:IsTup s.heap b U.toArray)(hv:vs≠[])
 (h1:U=[]->Q (.ref t) s) (h2:U≠[]->Q (.ref s.heap.objs.size) {s with heap:=s.heap.push {cls:=.type "tuple",data:=.seq (vs++U).toArray}})
 (hsz:vs.length+U.length<=qb2):wpAny (model prog w) A (qm9 .Add (.ref t) (.ref b)) Q E s:=by
 obtain⟨⟨cls,dd,data,sl⟩,ho,hc,n,hd⟩:=id ht;obtain⟨⟨cls2,Y,data2,sl2⟩,W,hc2,n2,Z⟩:=id hb;simp only at hc hd hc2 Z;subst hc hd hc2 Z;have e:vs.toArray++U.toArray=(vs++U).toArray:=by simp
 by_cases hw:U=[]
 .exact za5 ⟨_,ho,rfl⟩ ⟨_,W,rfl⟩ qw7 zc9 PySem.F.slot_tuple_add PySem.F.entry_tuple_add (PySem.F.args_tuple_add_2 _ _)
   (tuple_addW1 t b vs.toArray U.toArray n n2 dd Y sl sl2 (by simpa using hv) (by simp[hw])) ⟨ho,W,h1 hw⟩
 .refine za5 ⟨_,ho,rfl⟩ ⟨_,W,rfl⟩ qw7 zc9 PySem.F.slot_tuple_add PySem.F.entry_tuple_add (PySem.F.args_tuple_add_2 _ _)
   (tuple_addW2 t b vs.toArray U.toArray n n2 dd Y sl sl2 (by simpa using hv) (by simpa using hw) (by rw[qb6,qb6];exact hsz)) ⟨ho,W,?_⟩
  rw[e];exact h2 hw
def sIx(n d:Nat):ζ Int->Nat
 |none=>d
 |some v=>if v<0 then(v+(n:Int)).toNat else min v.toNat n
def Fq(n d:Nat):sIx n d ψ=d:=rfl
theorem GD(n d k:Nat):sIx n d (ς (k:Int))=min k n:=by show(if(k:Int)<0 then((k:Int)+(n:Int)).toNat else min (k:Int).toNat n)=min k n;rw[if_neg Θ,qe8]
def CW(n d:Nat)(W:d<=n)(o:ζ Int):sIx n d o<=n:=by
 cases o with
 |none=>exact W
 |some v=>
  show(if v<0 then(v+(n:Int)).toNat else min v.toNat n)<=n;by_cases U:v<0
  .rw[if_pos U];lia
  .rw[if_neg U];exact Nat.min_le_right _ _
theorem rT(v:Int)(n d:Nat):(if v<0 then max (v+(n:Int)) 0 else min v (n:Int))=((sIx n d (ς v):Nat):Int):=by
 show(if v<0 then max (v+(n:Int)) 0 else min v (n:Int))=(((if v<0 then(v+(n:Int)).toNat else min v.toNat n):Nat):Int);by_cases U:v<0
 .simp only[if_pos U];lia
 .simp only[if_neg U];lia
theorem qi(lo hi:ζ Int)(n:Nat):qs4 lo hi 1 (n:Int)=(((sIx n 0 lo:Nat):Int),((sIx n n hi:Nat):Int)):=by
 have h1:¬ ((1:Int)<0):=by lia
 unfold qs4;simp only[h1,if_false];refine Prod.ext ?_ ?_
 .cases lo with
  |none=>rfl
  |some v=>exact rT v n 0
 .cases hi with
  |none=>rfl
  |some v=>exact rT v n n
def qj(i j:Nat):qn7 (i:Int) (j:Int) 1=j-i:=by
 unfold qn7;have h1:(1:Int) > 0:=by lia
 simp only[h1,if_true,Int.ediv_one];split<;>lia
theorem j6{v:Value}{o:ζ Int}{Q:ζ Int->qa3->Prop}(p:zl8 v o)(h:Q o s):wpAny (model prog w) A (qh6.Slice.slicePartIndex v) Q E s:=by
 cases p with
 |none=>exact slicePart_none h
 |int i t=>exact slicePart_int h
theorem iQ{sl:J9}{vl:Value}{lo hi:ζ Int}{n:Nat}{Q:Int×Int×Nat->qa3->Prop}(Y:s.heap.IsSliceOf sl vl vu .none)(pl:zl8 vl lo)(Z:zl8 vu hi)
 (h:Q (((sIx n 0 lo:Nat):Int),1,sIx n n hi-sIx n 0 lo) s):wpAny (model prog w) A (za1 (.ref sl) (pure (n:Int))) Q E s:=by
 obtain⟨os,W,hcs,U⟩:=id Y;unfold za1 qh6.Slice.sliceFields;refine wB (wB (qk5 W U (x:=vl) rfl (wB (qk5 W U (x:=vu) rfl (wB (qk5 W U (x:=.none) rfl (qa2 ?_)))))));refine wB (slicePart_none ?_);show wpAny _ _ (if((1:Int)==0)=θ then _ else _) _ _ s;rw[if_neg Ω];refine wB (j6 pl (wB (j6 Z (wB (qa2 ?_)))));show wpAny _ _ (match qs4 lo hi 1 (n:Int)with|(lo,hi)=>pure (lo,(1:Int),qn7 lo hi 1)) _ _ s;rw[qi lo hi n];show wpAny _ _ (pure (((sIx n 0 lo:Nat):Int),(1:Int),qn7 ((sIx n 0 lo:Nat):Int) ((sIx n n hi:Nat):Int) 1)) _ _ s;rw[qj];exact qa2 h
theorem vS(xs:Array Value)(i k:Nat):((qb7 k).filterMap fun(m:Nat)=>xs[((i:Int)+(m:Int)*1).toNat]?).toArray=((xs.toList.drop i).take k).toArray:=by
 have e:(fun(m:Nat)=>xs[((i:Int)+(m:Int)*1).toNat]?)=fun m=>xs[i+m]?:=by
  funext m;have:((i:Int)+(m:Int)*1).toNat=i+m:=by lia
  rw[this]
 rw[e];have:=pick_run xs i k;rw[List.filterMap_map]at this;have U:((fun x=>xs[x]?) ∘ fun x=>i+x)=fun m=>xs[i+m]?:=rfl
 rw[U]at this;rw[this]
theorem rV{t sl:J9}{items:Array Value}{vl:Value}{lo hi:ζ Int}(W:IsTup s.heap t items)(hs:s.heap.IsSliceOf sl vl vu .none)(pl:zl8 vl lo)(pu:zl8 vu hi)
 (hw:¬ (sIx items.size 0 lo=0/\sIx items.size items.size hi=items.size))
 (h:Q (.ref s.heap.objs.size) {s with heap:=s.heap.push {cls:=.type "tuple",data:=.seq ((items.toList.drop (sIx items.size 0 lo)).take (sIx items.size items.size hi-sIx items.size 0 lo)).toArray}})
 (hsz:items.size<=qb2):wpAny (model prog w) A (zj1 (.ref t) (.ref sl)) Q E s:=by
 have U:sizeOk (.seq ((items.toList.drop (sIx items.size 0 lo)).take (sIx items.size items.size hi-sIx items.size 0 lo)).toArray):=by show((items.toList.drop (sIx items.size 0 lo)).take (sIx items.size items.size hi-sIx items.size 0 lo)).toArray.size<=qb2;rw[qb6,ze7,List.length_drop,qf1];lia
 have hj:sIx items.size items.size hi<=items.size:=CW _ _ (nL _) hi;obtain⟨os,hos,Y,hds⟩:=id hs;have Z:s.TypeIs (.ref sl) "slice":=⟨os,hos,Y⟩;unfold zj1
 try with_reducible refine qh9 ?_
 first|refine wB (qa2 ?_)|skip
 refine wB (wpAny_sequenceKey W.typeIs Ω ?_)
 refine wB (qe5 (name:=qa0 "__getitem__") W.typeIs qo8
  (qf2 qo8 W.typeIs entry_tuple_getitem ?_ (args_tuple_getitem _ _)))
 show wpAny _ _ (qh6.Tuple.tupleItemsOf (.ref t) >>= _) _ _ s;refine wB (tupleItemsOf_ W ?_);refine wB (qw4 Z ?_);rw[if_pos Ω];refine wB (iQ hs pl pu ?_)
 have hno:¬ ((((sIx items.size 0 lo:Nat):Int)==0&&(1:Int)==1&&(sIx items.size items.size hi-sIx items.size 0 lo)==items.size)=θ):=by intro q;rw[qa9,qa9]at q;have q1:((sIx items.size 0 lo:Nat):Int)=0:=eq_of_beq q.1.1;have q2:sIx items.size items.size hi-sIx items.size 0 lo=items.size:=eq_of_beq q.2;exact hw ⟨Θ,Θ⟩
 show wpAny _ _ (if(((sIx items.size 0 lo:Nat):Int)==0&&(1:Int)==1&&(sIx items.size items.size hi-sIx items.size 0 lo)==items.size)=θ then _ else _) _ _ s;rw[if_neg hno,vS]
 first
  |exact wB (m:=qo9 _) (qd7 (qa2 ⟨_,rfl,qa2 h⟩) U)
  |exact wB (m:=qo9 _) (qd7 (wB (qa2 (qa2 ⟨_,rfl,qa2 h⟩))) U)
  |exact wB (wB (m:=qo9 _) (qd7 (qa2 (qa2 ⟨_,rfl,qa2 h⟩)) U))
  |exact wB (wB (m:=qo9 _) (qd7 (qa2 ⟨_,rfl,qa2 h⟩) U))
end
end HT
namespace L2
open PySem PySem.Spec PyProof.Rows
abbrev TO:=St->Hp->(ζ Int->Hp->Prop)->Prop
def PO(X:Cx)(e:ζ Jc)(t:TO):Prop:=
 ∀(J1:η (J9×Obj))(s:qa3)(σ:St)(H:Hp)(Q:ζ Int->Hp->Prop),Inv X J1 σ H s->t σ H Q→
  wpAny (model X.prog X.w) X.A (evalPart e X.env) (fun u s'=>∃o H',Inv X J1 σ H' s'/\zl8 u o/\Q o H') X.xe s
def zq:TO:=fun _ H Q=>Q ψ H
def Fs(t:TE):TO:=fun σ H Q=>t σ H fun x H1=>∃i,x=.int i/\Q (ς i) H1
theorem qk{ns:η Int}:∀{us:η Value},Vals (ns.map V.int) us->zg8 us ns:=by
 induction ns with
 |nil=>intro us r;rw[qm4]at r;cases r;exact .nil
 |cons n ns U=>
  intro us r;rw[qa4]at r;cases r with
  |cons W Y=>obtain⟨t,e⟩:=W;subst e;exact .cons n t (U Y)
variable{r:V->ζ Int->ζ Int->Hp->VK->Prop}{xs:η V}{us:η Value}
section
variable{X:Cx}{e:Jc}{te:TE}{lo hi:ζ Jc}{tl th:TO}{pos p2:Pos}
theorem zr:PO X ψ zq:=by intro J1 s σ H Q I h;rw[evalPart_none];exact qa2 ⟨ψ,H,I,.none,h⟩
def zu(h:PE X e te):PO X (ς e) (Fs te):=by
 intro J1 s σ H Q I U;rw[evalPart_some];refine thn (h J1 s σ H _ I U) fun u s1 ⟨x,H1,W,Y,q1⟩=>?_
 obtain⟨i,rfl,q⟩:=q1;obtain⟨t,rfl⟩:=Y;exact⟨ς i,H1,W,.int i t,q⟩
def SlR(X:Cx)(r:V->ζ Int->ζ Int->Hp->VK->Prop):Prop:=
 ∀(J1:η (J9×Obj))(s:qa3)(σ:St)(H:Hp)(x:V)(v vl vu:Value)(lo hi:ζ Int)(sl:J9)(Q:VK),Inv X J1 σ H s->RelV x v->s.heap.IsSliceOf sl vl vu .none->zl8 vl lo->zl8 vu hi->r x lo hi H Q→
  ∃T id,qy3 (.type T) "__getitem__"=pure (ς (.builtin id))/\s.TypeIs v T/\wpAny (model X.prog X.w) X.A (zj1 v (.ref sl)) (EP X J1 σ Q) X.xe s
theorem SlR.or{U:V->ζ Int->ζ Int->Hp->VK->Prop}(h:SlR X r)(h':SlR X U):SlR X (fun x lo hi H Q=>r x lo hi H Q∨U x lo hi H Q):=by
 intro J1 s σ H x v vl vu lo hi sl Q I Y Z W pu q;rcases q with q|q
 .exact h J1 s σ H x v vl vu lo hi sl Q I Y Z W pu q
 .exact h' J1 s σ H x v vl vu lo hi sl Q I Y Z W pu q
def tSl(r:V->ζ Int->ζ Int->Hp->VK->Prop)(te:TE)(tl th:TO):TE:=fun σ H Q=>te σ H fun x H1=>tl σ H1 fun l H2=>th σ H2 fun u U=>r x l u U Q
theorem vT(Z:SlR X r)(he:PE X e te)(hl:PO X lo tl)(Y:PO X hi th):PE X (.Subscript e (.Slice lo hi ψ p2) pos) (tSl r te tl th):=by
 intro J1 s σ H Q I h;refine Subscript_ (thn (he J1 s σ H _ I h) fun v s1 ⟨x,H1,I1,r1,q1⟩=>?_);refine wpAny_Slice (thn (hl J1 s1 σ H1 _ I1 q1) fun vl s2 ⟨l,H2,I2,pl,q2⟩=>thn (Y J1 s2 σ H2 _ I2 q2) fun vu U ⟨u,W,I3,pu,q3⟩=>?_);rw[evalPart_none];refine qa2 ?_;have I4:Inv X J1 σ W {U with heap:=U.heap.push {cls:=.type "slice",data:=.fields #[vl,vu,.none]}}:=I3.kept (t':=U.toks) fun b ob q=>gP _ q
 obtain⟨T,id,hT,ht,hg⟩:=Z J1 {U with heap:=U.heap.push {cls:=.type "slice",data:=.fields #[vl,vu,.none]}} σ W x v vl vu l u U.heap.objs.size Q I4 r1 (Heap.IsSliceOf.new ..) pl pu q3;show wpAny (model X.prog X.w) X.A (zk3 e (.Slice lo hi ψ p2) v (.ref U.heap.objs.size)) (EP X J1 σ Q) X.xe {U with heap:=U.heap.push {cls:=.type "slice",data:=.fields #[vl,vu,.none]}};exact tail_any (ops:=[.ref U.heap.objs.size,v]) ht hT hg (by with_unfolding_all rfl)
def oA(xs:η V)(lo hi:ζ Int):η V:=(xs.drop (HT.sIx xs.length 0 lo)).take (HT.sIx xs.length xs.length hi-HT.sIx xs.length 0 lo)
theorem jg(xs:η V)(lo hi:ζ Int):(oA xs lo hi).length<=xs.length:=by unfold oA;rw[ze7,List.length_drop];lia
def rSlT(K:xA9):V->ζ Int->ζ Int->Hp->VK->Prop:=fun x lo hi H Q=>∃a xs,x=.ref a/\SqT K H a xs∧¬ (HT.sIx xs.length 0 lo=0/\HT.sIx xs.length xs.length hi=xs.length)/\∀p,H p=ψ->Q (.ref p) (upd H p (.t (oA xs lo hi)))
def CY:SlR X (rSlT X.K):=by
 intro J1 s σ H x v vl vu lo hi sl Q I Z hs pl pu h;obtain⟨a,xs,rfl,hx,hw,q⟩:=h;cases Z;obtain⟨J8,r,W,Y⟩:=I.tuple hx;have U:J8.toArray.size=xs.length:=by rw[qb6];exact r.length.symm
 refine⟨"tuple",_,qo8.lookup,W.typeIs,?_⟩;refine HT.rV W hs pl pu (by rw[U];exact hw) ?_ (by rw[U];exact Y);rw[U];refine⟨.ref s.heap.objs.size,_,I.laid (t':=s.toks) (o:=.t (oA xs lo hi)) (fun b ob q=>gP _ q) (nL _) ?_,rfl,q _ (I.hok.fresh (nL _))⟩;exact⟨qc0 (jg xs lo hi) Y,_,(r.drop (HT.sIx xs.length 0 lo)).take (HT.sIx xs.length xs.length hi-HT.sIx xs.length 0 lo),IsTup.new _ _⟩
def Bq(K:xA9):R2:=fun x y H Q=>∃a b xs ys,x=.ref a/\y=.ref b/\SqT K H a xs/\SqT K H b ys/\xs≠[]/\xs.length+ys.length<=qb2∧(ys=[]->Q (.ref a) H)/\(ys≠[]->∀p,H p=ψ->Q (.ref p) (upd H p (.t (xs++ys))))
def Vals.nil_iff(r:Vals xs us):us=[]↔xs=[]:=by
 cases r with
 |nil=>simp
 |cons _ _=>simp
theorem zw:OpR X (qm9 .Add) (Bq X.K):=by intro J1 s σ H x y v u Q I rx ry h;obtain⟨a,b,xs,ys,rfl,rfl,ha,hb,hx,Z,q1,q2⟩:=h;cases rx;cases ry;obtain⟨J8,W,p1,_⟩:=I.tuple ha;obtain⟨Y,U,p2,_⟩:=I.tuple hb;refine HT.GC p1 p2 (fun z=>hx (W.nil_iff.mp z)) (fun z=>⟨.ref a,H,I,rfl,q1 (U.nil_iff.mp z)⟩) (fun z=>?_) (by rw[<- W.length,<- U.length];exact Z);refine⟨.ref s.heap.objs.size,_,I.laid (t':=s.toks) (o:=.t (xs++ys)) (fun b ob q=>gP _ q) (nL _) ?_,rfl,q2 (fun w=>z (U.nil_iff.mpr w)) _ (I.hok.fresh (nL _))⟩;exact⟨by rw[qc4];exact Z,_,W.append U,IsTup.new _ _⟩
end
noncomputable def ixN(n:Nat)(i:Int):ζ Nat:=if 0<=i then(if i<n then ς i.toNat else ψ)else if -(n:Int)<=i then ς (i+n).toNat else ψ
def atI{α:Type}(xs:η α)(i:Int):ζ α:=(ixN xs.length i).bind fun j=>xs[j]?
variable{n j:Nat}{i:Int}
theorem rW(h:ixN n i=ς j):seqIndex? i n=ς j/\j<n/\-(n:Int)<=i/\i<n:=by
 unfold ixN at h;by_cases U:0<=i
 .rw[if_pos U]at h;by_cases h1:i<n
  .rw[if_pos h1]at h;have e:i.toNat=j:=qd6 h;exact⟨by rw[seqIndex_of U h1,e],Θ,Θ,h1⟩
  .rw[if_neg h1]at h;cases h
 .rw[if_neg U]at h;by_cases h1:-(n:Int)<=i
  .rw[if_pos h1]at h;have e:(i+n).toNat=j:=qd6 h;exact⟨by rw[seqIndex_neg Θ h1,e],Θ,h1,Θ⟩
  .rw[if_neg h1]at h;cases h
theorem mU{α:Type}{xs:η α}{v:α}(h:atI xs i=ς v):∃j,seqIndex? i xs.length=ς j/\xs[j]?=ς v/\j<xs.length/\-(xs.length:Int)<=i/\i<xs.length:=by
 unfold atI at h;cases e:ixN xs.length i with
 |none=>rw[e]at h;cases h
 |some j=>rw[e]at h;obtain⟨h1,h2,h3,U⟩:=rW e;exact⟨j,h1,h,h2,h3,U⟩
theorem zy{α:Type}{xs:η α}{v:α}(h:xs[j]?=ς v):atI xs (j:Int)=ς v:=by
 have U:j<xs.length:=(gX h).1
 have e:ixN xs.length (j:Int)=ς j:=by unfold ixN;rw[if_pos Θ,if_pos Θ];simp
 unfold atI;rw[e];exact h
def rX(b:Jc):Prop:=∀o i,zj2 b ξ o i=operate [o,i] (zj1 o i)
def IxR(X:Cx)(r:R2):Prop:=
 ∀(value U:Jc)(J1:η (J9×Obj))(s:qa3)(σ:St)(H:Hp)(x y:V)(v u:Value)(Q:VK),Inv X J1 σ H s->RelV x v->RelV y u->r x y H Q→
  zj2 U ξ v u=operate [v,u] (zj1 v u)->wpAny (model X.prog X.w) X.A (zk3 value U v u) (EP X J1 σ Q) X.xe s
def MtR(X:Cx)(id:String)(r:V->η V->Hp->VK->Prop):Prop:=
 ∀(J1:η (J9×Obj))(s:qa3)(σ:St)(H:Hp)(x:V)(xs:η V)(v:Value)(us:η Value)(Q:VK),Inv X J1 σ H s->RelV x v->Vals xs us->r x xs H Q→
  wpAny (model X.prog X.w) X.A (call (.builtin id) (v::us)) (EP X J1 σ Q) X.xe s
variable{J1:η (J9×Obj)}{σ:St}{H:Hp}{s:qa3}{p:J9}{J8 its':η Value}{A:qe1}{y x:V}{u v:Value}
section
variable{X:Cx}{a b:Jc}{ta tb:TE}{pos:Pos}
theorem IxR.or{r W:R2}(h:IxR X r)(h':IxR X W):IxR X (fun x y H Q=>r x y H Q∨W x y H Q):=by
 intro value U J1 s σ H x y v u Q I Y Z q hs;rcases q with q|q
 .exact h value U J1 s σ H x y v u Q I Y Z q hs
 .exact h' value U J1 s σ H x y v u Q I Y Z q hs
theorem Ft{r:R2}(Z:IxR X r)(U:PE X a ta)(hb:PE X b tb)(hs:rX b):PE X (.Subscript a b pos) (tOp r ta tb):=by intro J1 s σ H Q I h;exact Subscript_ (CJ U hb I h fun v u s2 x y H2 I2 W Y q=>Z a b J1 s2 σ H2 x y v u Q I2 W Y q (hs _ _))
def rIxL(K:xA9):R2:=fun x y H Q=>∃p xs i v,x=.ref p/\y=.int i/\SqL K H p xs/\atI xs i=ς v/\Q v H
def rIxT(K:xA9):R2:=fun x y H Q=>∃p xs i v,x=.ref p/\y=.int i/\SqT K H p xs/\atI xs i=ς v/\Q v H
def rIxS:R2:=fun x y H Q=>∃z i c,x=.str z/\y=.int i/\z.length<=qb2/\atI z.cps.toList i=ς c/\Q (.str ⟨#[c]⟩) H
def ix_list:IxR X (rIxL X.K):=by
 intro value slice J1 s σ H x y v u Q I rx ry h hs;obtain⟨p,xs,i,z,rfl,rfl,hq,he,q⟩:=h;cases rx;obtain⟨t,rfl⟩:=ry;obtain⟨J8,r,pl,hz⟩:=I.list hq;obtain⟨j,h1,h2,h3,h4,h5⟩:=mU he;obtain⟨w,ew,rw'⟩:=r.get h2;have hl:=r.length;have hn:=iN;have fin:EP X J1 σ Q w s:=⟨z,H,I,rw',q⟩;by_cases h0:0<=i
 .have hj:i.toNat=j:=by rw[seqIndex_of h0 h5]at h1;exact qd6 h1
  exact item_listR pl.isList h0 Θ (by rw[hj];simpa using ew) fin hs
 .have hj:(i+(J8.toArray.size:Int)).toNat=j:=by rw[seqIndex_neg Θ h4]at h1;rw[qb6,<- hl];exact qd6 h1
  exact zf5 (x:=w) pl.isList.typeIs slot_list_getitem.lookup
   (wpAny_getItem_list_neg (Q:=fun r s'=>r=w/\EP X J1 σ Q r s') pl.isList Θ (by rw[qb6]<;>lia) Θ (by rw[hj];simpa using ew) ⟨rfl,fin⟩) hs
def ix_tup:IxR X (rIxT X.K):=by
 intro value slice J1 s σ H x y v u Q I rx ry h hs;obtain⟨p,xs,i,z,rfl,rfl,hq,he,q⟩:=h;cases rx;obtain⟨t,rfl⟩:=ry;obtain⟨J8,r,pl,hz⟩:=I.tuple hq;obtain⟨j,h1,h2,h3,h4,h5⟩:=mU he;obtain⟨w,ew,rw'⟩:=r.get h2;have hl:=r.length;have hn:=iN;have fin:EP X J1 σ Q w s:=⟨z,H,I,rw',q⟩
 exact zf5 (x:=w) pl.typeIs slot_tuple_getitem.lookup
  (getItem_tuple (j:=j) (Q:=fun r s'=>r=w/\EP X J1 σ Q r s') pl Θ Θ (by rw[qb6,<- hl];exact h1) (by simpa using ew) ⟨rfl,fin⟩) hs
def CZ:IxR X rIxS:=by
 intro value slice J1 s σ H x y v u Q I rx ry h hs;obtain⟨z,i,c,rfl,rfl,hz,he,q⟩:=h;obtain⟨t,rfl⟩:=rx;obtain⟨t',rfl⟩:=ry;obtain⟨j,h1,h2,h3,h4,h5⟩:=mU he;have hl:z.cps.toList.length=z.length:=by simp[zi0]
 rw[hl]at h1 h4 h5;have hn:=iN
 exact tail_any (typeIs_str s z t) slot_str_getitem.lookup (getItem_str (c:=c) (by have e1:decide (i < -(2^63:Int))=ξ:=decide_eq_false Θ;have e2:decide (i ≥ 2^63)=ξ:=decide_eq_false Θ;rw[e1,e2,qx7]) (by rw[h1];simpa using h2) ⟨.str ⟨#[c]⟩,H,I.tok _,⟨_,rfl⟩,q⟩) hs
def rIx(K:xA9):R2:=fun x y H Q=>rIxL K x y H Q∨rIxT K x y H Q∨rIxS x y H Q
def C0:IxR X (rIx X.K):=ix_list.or (ix_tup.or CZ)
theorem ql(J8:η Value)(n j:Nat)(u:Value):qn1 (·.setIfInBounds j u) {cls:=.type "list",data:=.seq J8.toArray n}={cls:=.type "list",data:=.seq (J8.set j u).toArray n}:=by simp[qn1]
theorem Inv.lst (I:Inv X J1 σ H s) (h:H p=ς (.e xs)) :
  ∃(J8:η Value)(n:Nat),Vals xs J8/\s.heap.get? p=ς {cls:=.type "list",data:=.seq J8.toArray n}/\xs.length<=qb2:=by
 obtain⟨z,J8,n,r,e⟩:=I.hok p _ h;exact⟨J8,n,r,e,z⟩
theorem Inv.lstUpd{ys:η V}{U:Nat}{f:Obj->Obj}(I:Inv X J1 σ H s)(h:H p=ς (.e xs))
 (Y:s.heap.get? p=ς {cls:=.type "list",data:=.seq J8.toArray n}) (W:f {cls:=.type "list",data:=.seq J8.toArray n}={cls:=.type "list",data:=.seq its'.toArray U}) (r:Vals ys its') (Z:ys.length<=qb2) (t:Nat) :
  Inv X J1 σ (upd H p (.e ys)) {s with heap:=s.heap.update p f,toks:=t}:=by
 have e:(s.heap.update p f).get? p=ς {cls:=.type "list",data:=.seq its'.toArray U}:=by rw[qe3 f Y (by rw[W]<;>rfl),W]
 refine I.write (x:=p) (e:=p) (by rw[h];trivial) (.inl rfl) (fun b u hb q=>(qh7 _ _ (qh5 hb)).trans q) ⟨_,e⟩ ?_;exact⟨Z,its',U,r,e⟩
def Fu:V->V->V->Hp->(Hp->Prop)->Prop:=fun o i v H Q=>∃p xs k j,o=.ref p/\i=.int k/\H p=ς (.e xs)/\ixN xs.length k=ς j/\Q (upd H p (.e (xs.set j v)))
def vU:PSet X Fu:=by
 intro J1 s σ H o i v ov iv u Q I ro ri rv h;obtain⟨p,xs,k,j,rfl,rfl,hp,hj,q⟩:=h;cases ro;obtain⟨t,rfl⟩:=ri;obtain⟨J8,n,r,ho,hz⟩:=I.lst hp;obtain⟨h1,h2,h3,h4⟩:=rW hj;have hl:=r.length;have hn:=iN
 have I':Inv X J1 σ (upd H p (.e (xs.set j v))) {s with heap:=s.heap.update p (qn1 (·.setIfInBounds j u))}:=I.lstUpd hp ho (ql J8 n j u) (r.set rv j) (by rw[List.length_set];exact hz) s.toks
 by_cases h0:0<=k
 .have hk:k.toNat=j:=by rw[seqIndex_of h0 h4]at h1;exact qd6 h1
  exact PySem.W.ki_setAt ho h0 Θ (by rw[qb6,<- hl];exact h4) (by rw[hk];exact⟨_,I',q⟩)
 .have hk:(k+(J8.toArray.size:Int)).toNat=j:=by rw[seqIndex_neg Θ h3]at h1;rw[qb6,<- hl];exact qd6 h1
  exact PySem.W.ki_setBack ho Θ (by rw[qb6,<- hl];exact h3) Θ (by rw[hk];exact⟨_,I',q⟩)
theorem mV(lo hi:ζ Int)(n:Nat):(qv7 lo hi ψ n).1=((HT.sIx n 0 lo:Nat):Int)/\(qv7 lo hi ψ n).2.1=((HT.sIx n n hi:Nat):Int)/\(qv7 lo hi ψ n).2.2=1:=by
 refine⟨?_,?_,rfl⟩
 .cases lo with
  |none=>simp[qv7,HT.sIx]
  |some i=>
   simp only[qv7,HT.sIx,Option.getD_none,show(1:Int) > 0 by decide,if_true];by_cases h:i<0
   .simp only[h,if_true]<;>lia
   .simp only[h,if_false]<;>lia
 .cases hi with
  |none=>simp[qv7,HT.sIx]
  |some i=>
   simp only[qv7,HT.sIx,Option.getD_none,show(1:Int) > 0 by decide,if_true];by_cases h:i<0
   .simp only[h,if_true]<;>lia
   .simp only[h,if_false]<;>lia
theorem lu(J8:η Value)(lo hi:ζ Int):slicePick J8.toArray lo hi ψ=((J8.drop (HT.sIx J8.length 0 lo)).take (HT.sIx J8.length J8.length hi-HT.sIx J8.length 0 lo)).toArray:=by obtain⟨h1,h2,h3⟩:=mV lo hi J8.toArray.size;unfold slicePick;rw[h1,h2,h3];simp only[sliceRange_one,pick_run,qb6]<;>rfl
def rSlL(K:xA9):V->ζ Int->ζ Int->Hp->VK->Prop:=fun x lo hi H Q=>∃a xs,x=.ref a/\SqL K H a xs/\∀p,H p=ψ->Q (.ref p) (upd H p (.e (oA xs lo hi)))
theorem zz:SlR X (rSlL X.K):=by intro J1 s σ H x v vl vu lo hi sl Q I Y Z pl pu h;obtain⟨a,xs,rfl,hx,q⟩:=h;cases Y;obtain⟨J8,r,W,hz⟩:=I.list hx;have U:=r.length;refine⟨"list",_,slot_list_getitem.lookup,W.isList.typeIs,?_⟩;refine wpAny_getItem_list_slice W.isList Z pl pu .none Ξ ?_ (by rw[qb6]<;>lia);rw[lu,<- U];refine⟨.ref s.heap.objs.size,_,I.laid (t':=s.toks) (o:=.e (oA xs lo hi)) (fun b ob q=>gP _ q) (nL _) ?_,rfl,q _ (I.hok.fresh (nL _))⟩;exact⟨qc0 (jg xs lo hi) hz,_,0,(r.drop (HT.sIx xs.length 0 lo)).take (HT.sIx xs.length xs.length hi-HT.sIx xs.length 0 lo),qa7 _ rfl⟩
def gH:V->Bool
 |.non=>θ
 |.bl _=>θ
 |.int _=>θ
 |.str _=>θ
 |_=>ξ
noncomputable def eqV:V->V->Bool
 |.non,.non=>θ
 |.bl a,.bl b=>a==b
 |.bl a,.int b=>(if a then 1 else 0)==b
 |.int a,.bl b=>a==(if b then 1 else 0)
 |.int a,.int b=>a==b
 |.str a,.str b=>a==b
 |_,_=>ξ
theorem iR(W:RelV y u)(U:RelV x v)(Z:gH y=θ)(Y:gH x=θ):qh2 A s u v (eqV y x):=by
 cases y with
 |non=>
  cases W;cases x with
  |non=>cases U;exact zg9 _
  |bl b=>cases U;exact qh2.none_bool b
  |int b=>obtain⟨t,rfl⟩:=U;exact qh2.none_int b t
  |str b=>obtain⟨t,rfl⟩:=U;exact qh2.none_str b t
  |_=>exact absurd (show ξ=θ from Y) qb5
 |bl a=>
  cases W;cases x with
  |non=>cases U;exact qh2.bool_none a
  |bl b=>cases U;exact qh2.bool_bool a b
  |int b=>obtain⟨t,rfl⟩:=U;exact qh2.bool_int a b t
  |str b=>obtain⟨t,rfl⟩:=U;exact qh2.bool_str a b t
  |_=>exact absurd (show ξ=θ from Y) qb5
 |int a=>
  obtain⟨t',rfl⟩:=W;cases x with
  |non=>cases U;exact qh2.int_none a t'
  |bl b=>cases U;exact qh2.int_bool a t' b
  |int b=>obtain⟨t,rfl⟩:=U;exact qh2.int_int a t' b t
  |str b=>obtain⟨t,rfl⟩:=U;exact qh2.int_str a t' b t
  |_=>exact absurd (show ξ=θ from Y) qb5
 |str a=>
  obtain⟨t',rfl⟩:=W;cases x with
  |non=>cases U;exact qh2.str_none a t'
  |bl b=>cases U;exact qh2.str_bool a t' b
  |int b=>obtain⟨t,rfl⟩:=U;exact qh2.str_int a t' b t
  |str b=>obtain⟨t,rfl⟩:=U;exact qh2.str_str a t' b t
  |_=>exact absurd (show ξ=θ from Y) qb5
 |_=>exact absurd (show ξ=θ from Z) qb5
def eqU(x:V)(u:Value):Bool:=match u with
 |.none=>eqV .non x
 |.bool b=>eqV (.bl b) x
 |.int i _=>eqV (.int i) x
 |.str z _=>eqV (.str z) x
 |_=>ξ
def vV(r:RelV y u)(f:gH y=θ):eqU x u=eqV y x:=by
 cases y with
 |non=>cases r;rfl
 |bl b=>cases r;rfl
 |int i=>obtain⟨t,rfl⟩:=r;rfl
 |str z=>obtain⟨t,rfl⟩:=r;rfl
 |_=>exact absurd (show ξ=θ from f) qb5
theorem hZ:∀{xs:η V}{us:η Value},Vals xs us->xs.all gH=θ->us.any (eqU x)=xs.any fun y=>eqV y x
 |_,_,.nil,_=>rfl
 |y::xs,u::us,.cons r t,f=>by rw[qm2,qa9]at f;rw[ql2,ql2,vV r f.1,hZ t f.2]
theorem fX(W:RelV x v)(Y:gH x=θ):∀{xs:η V}{us:η Value},Vals xs us->xs.all gH=θ->∀u∈us,qh2 A s u v (eqU x u)
 |_,_,.nil,_=>fun u U=>by cases U
 |y::xs,u::us,.cons r t,f=>fun Z U=>by
  rw[qm2,qa9]at f;rcases qa5.mp U with rfl|U
  .rw[vV r f.1];exact iR r W f.1 Y
  .exact fX W Y t f.2 Z U
def inV(x:V)(xs:η V):Bool:=xs.any fun y=>eqV y x
def rIn(K:xA9)(neg:Bool):R2:=fun x y H Q=>∃p xs,y=.ref p/\(SqL K H p xs∨SqT K H p xs)/\gH x=θ/\xs.all gH=θ/\Q (.bl (if neg then !inV x xs else inV x xs)) H
def t8:OpR X (qh8 .In) (rIn X.K ξ):=by
 intro J1 s σ H x y v u Q I Z ry h;obtain⟨p,xs,rfl,U,fx,fs,q⟩:=h;cases ry;rcases U with U|U
 .obtain⟨J8,r,Y,hz⟩:=I.list U;refine SeqAt.in_listAt (eqU x) Y.isList (fun w W=>fX Z fx r fs w (by simpa using W)) ⟨.bl _,H,I,rfl,?_⟩;rw[show J8.toArray.any (eqU x)=J8.any (eqU x)by simp,hZ r fs];exact q
 .obtain⟨J8,r,Y,hz⟩:=I.tuple U;refine SeqAt.in_tupleAt (eqU x) Y (fun w W=>fX Z fx r fs w (by simpa using W)) ⟨.bl _,H,I,rfl,?_⟩;rw[show J8.toArray.any (eqU x)=J8.any (eqU x)by simp,hZ r fs];exact q
def mW:OpR X (qh8 .NotIn) (rIn X.K θ):=by
 intro J1 s σ H x y v u Q I Z ry h;obtain⟨p,xs,rfl,U,fx,fs,q⟩:=h;cases ry;rcases U with U|U
 .obtain⟨J8,r,Y,hz⟩:=I.list U;refine SeqAt.notIn_listAt (eqU x) Y.isList (fun w W=>fX Z fx r fs w (by simpa using W)) ⟨.bl _,H,I,rfl,?_⟩;rw[show J8.toArray.any (eqU x)=J8.any (eqU x)by simp,hZ r fs];exact q
 .obtain⟨J8,r,Y,hz⟩:=I.tuple U;refine SeqAt.notIn_tupleAt (eqU x) Y (fun w W=>fX Z fx r fs w (by simpa using W)) ⟨.bl _,H,I,rfl,?_⟩;rw[show J8.toArray.any (eqU x)=J8.any (eqU x)by simp,hZ r fs];exact q
theorem mX:OpR X (qh8 .NotIn) (fun x y H Q=>∃i j,x=.str i/\y=.str j/\Q (.bl (!(!(qu6 j i 0 j.length 1).isEmpty))) H):=by intro J1 s σ H x y v u Q I U W h;obtain⟨i,j,rfl,rfl,q⟩:=h;obtain⟨t,rfl⟩:=U;obtain⟨t',rfl⟩:=W;exact notIn_str ⟨.bl _,H,I,rfl,q⟩
theorem cZ:cz X (.type "tuple") (fun xs H Q=>∃p ys,xs=[.ref p]/\((SqL X.K H p ys/\∀l,H l=ψ->Q (.ref l) (upd H l (.t ys)))∨(SqT X.K H p ys/\Q (.ref p) H))):=by
 intro J1 s σ H xs us Q I r h;obtain⟨p,ys,rfl,h⟩:=h;obtain⟨u,rfl,rx⟩:=fK r;cases rx;rcases h with ⟨Y,q⟩|⟨Y,q⟩
 .obtain⟨J8,W,U,hz⟩:=I.list Y;have Z:=W.length;refine call_tuple_list U.isList (fun h' kp=>?_) (by simp only[qb6]<;>lia);have I1:Inv X J1 σ H {s with heap:=h'}:=I.kept (t':=s.toks) kp
  have I2:Inv X J1 σ (upd H h'.objs.size (.t ys)) {s with heap:=h'.push {cls:=.type "tuple",data:=.seq J8.toArray}}:=I1.laid (t':=s.toks) (fun b o e=>gP _ e) (nL _) (show ObjOk X.prog X.w _ _ _ (.t ys)from⟨hz,J8,W,IsTup.new _ _⟩)
  exact⟨.ref h'.objs.size,_,I2,rfl,q _ (I1.hok.fresh (nL _))⟩
 .obtain⟨J8,W,U,hz⟩:=I.tuple Y;exact call_tuple_same U ⟨.ref p,H,I,rfl,q⟩
def tyV(K:xA9)(T:String)(x:V)(H:Hp):Prop:=match x with
 |.str _=>T="str"
 |.int _=>T="int"
 |.ref p=>(T="list"/\∃xs,SqL K H p xs)∨(T="tuple"/\∃o,K.lookup p=ς o/\o.cls=.type "tuple"/\o.dict=ψ)∨(T="dict"/\((∃J6,H p=ς (.dK J6))∨∃J6,H p=ς (.dT J6)))∨(T="set"/\∃S n,H p=ς (.set S n))
 |_=>False
theorem C3 {T:String} (I:Inv X J1 σ H s) (r:RelV x v) (ty:tyV X.K T x H) :
  s.TypeIs v T/\∀a,v=.ref a->∃ob,s.heap.get? a=ς ob/\ob.dict=ψ:=by
 cases x with
 |str z=>obtain⟨t,rfl⟩:=r;cases (show T="str" from ty);exact⟨typeIs_str s z t,fun _ e=>nomatch e⟩
 |int i=>obtain⟨t,rfl⟩:=r;cases (show T="int" from ty);exact⟨zi1 s i t,fun _ e=>nomatch e⟩
 |ref p=>
  cases r;rcases ty with ⟨rfl,xs,Z⟩|⟨rfl,o,hk,hc,U⟩|⟨rfl,hk⟩|⟨rfl,S,n,hk⟩
  .obtain⟨J8,_,Y,_⟩:=I.list Z;refine⟨Y.isList.typeIs,fun a e=>?_⟩;cases e;obtain⟨o,n,e,c,U,_⟩:=Y;exact⟨o,e,U⟩
  .refine⟨⟨o,I.kIn p o hk,hc⟩,fun a e=>?_⟩;cases e;exact⟨o,I.kIn _ o hk,U⟩
  .have z:∃o,s.heap.get? p=ς o/\o.ExactDict:=by
    rcases hk with ⟨J6,hk⟩|⟨J6,hk⟩
    .obtain⟨_,_,_,_,o,_,_,e,ex,_⟩:=I.hok p _ hk;exact⟨o,e,ex⟩
    .obtain⟨_,_,_,_,o,_,_,e,ex,_⟩:=I.hok p _ hk;exact⟨o,e,ex⟩
   obtain⟨o,e,ex⟩:=z;refine⟨⟨o,e,ex.1⟩,fun a W=>?_⟩;cases W;exact⟨o,e,ex.2.1⟩
  .obtain⟨o,_,_,_,e,ex,_⟩:=I.hok p _ hk;refine⟨⟨o,e,ex.1⟩,fun a W=>?_⟩;cases W;exact⟨o,e,ex.2.1⟩
 |_=>exact qg9 ty
def tBM(K:xA9)(T:String)(r:V->η V->Hp->VK->Prop)(to:TE)(t:TA):TE:=fun σ H Q=>to σ H fun x H1=>tyV K T x H1/\t σ H1 fun xs H2=>r x xs H2 Q
variable{o e:Jc}{es:η Jc}{to:TE}{t:TA}{name:Str}{apos cpos:Pos}{T id:String}{r:V->η V->Hp->VK->Prop}
theorem vW (pa:PlainAttrs T) (slot:Slot T name id) (hty:typeOf (.builtin id)=pure (.type "method_descriptor")) (hm:MtR X id r) (ho:PE X o to) (ha:PA X (e::es) t)
  (W:zd0 o name X.env (eval o X.env)=eval o X.env:=by rfl)
  (Z:((ql8 cpos (qa8 (e::es) X.env)).all (fun x=>!x.1)&&(backToKw cpos (zj3 [] X.env)).all (fun x=>x.1.isSome)
   && decide ((e::es).length+([]:η zg5).length+(if([]:η zg5).isEmpty then 0 else 1)<30))=θ:=by rfl)
  (Y:(apos.endLine==cpos.line)=θ:=by rfl) (hs:qa8 (e::es) X.env=(ξ,eval e X.env)::qa8 es X.env:=by rfl) (U:(ql8 cpos (qa8 es X.env)).any (·.1)=ξ:=by rfl) :
  PE X (.Call (.Attribute o name apos) (e::es) [] cpos) (tBM X.K T r to t):=by
 intro J1 s σ H Q I h;refine wpAny_Call_method_late W Z Y rfl (thn (ho J1 s σ H _ I h) fun v s1 ⟨x,H1,I1,r1,ty,q1⟩=>?_);obtain⟨h1,h2⟩:=C3 I1 r1 ty;refine⟨T,id,pa,slot,hty,h1,h2,?_⟩;have hA:=ha cpos J1 s1 σ H1 _ I1 q1;rw[hs]at hA ⊢;refine Calls.callWith_builtin (by show(ξ||(ql8 cpos (qa8 es X.env)).any (·.1))=ξ;rw[U]<;>rfl) (Calls.evalArgs_plain ?_);exact thn hA fun us s2 ⟨vs,H2,I2,r2,q2⟩=>hm J1 s2 σ H2 x vs v us Q I2 r1 r2 q2
/- xs.append(e),list.index on a module's tuple .. are MtR facts of 06m -/
end
def MtM(X:Cx)(id:String)(r:V->η V->Hp->VK->Prop):Prop:=
 ∀(J1:η (J9×Obj))(s:qa3)(σ:St)(H:Hp)(x:V)(xs:η V)(v:Value)(us:η Value)(Q:VK),Inv X J1 σ H s->RelV x v->Vals xs us->r x xs H Q→
  wpAny (model X.prog X.w) X.A (call (.builtin id) (v::us)) (EP X J1 σ Q) X.xe s
theorem Vals.one:∀{x:V}{us:η Value},Vals [x] us->∃u,us=[u]/\RelV x u
 |_,_,.cons r .nil=>⟨_,rfl,r⟩
theorem Vals.rep(h:Vals xs us):∀k:Nat,Vals (qb9 k xs).flatten (qb9 k us).flatten
 |0=>.nil
 |k+1=>by rw[qj6,qj6,qp0,qp0];exact Vals.append h (Vals.rep h k)
theorem lN (J8:η Value):∀ (k:Nat) (J5:η Value),
  zi2 (fun Y W=>Y++W) J5.toArray (qb9 k J8.toArray)=(J5++(qb9 k J8).flatten).toArray
 |0,J5=>by simp
 |k+1,J5=>by
  have e:J5.toArray++J8.toArray=(J5++J8).toArray:=by simp
  have U:(J5++J8)++(qb9 k J8).flatten=J5++(qb9 (k+1) J8).flatten:=by rw[qj6,qp0,qk0]
  rw[<- U,<- lN J8 k (J5++J8),<- e,qj6,qi4]
variable{t':Nat}
section
variable{X:Cx}{J1:η (J9×Obj)}{σ:St}{H:Hp}{s:qa3}{l b:J9}{xs ys zs:η V}
theorem Inv.lset{f:Array Value->Array Value}(I:Inv X J1 σ H s)(W:H l=ς (.e xs))
 (e:s.heap.get? l=ς {cls:=.type "list",data:=.seq J8.toArray n}) (Y:f J8.toArray=its'.toArray) (U:Vals ys its') (Z:ys.length<=qb2) :
  Inv X J1 σ (upd H l (.e ys)) {s with heap:=s.heap.update l (qn1 f),toks:=t'}:=by
 have q:=PySem.IsL.update e f;rw[Y]at q;refine I.write (x:=l) (e:=l) (by rw[W];exact trivial) (.inl rfl) (fun b' u hb hu=>(qh7 s.heap (qn1 f) (qh5 hb)).trans hu) ⟨_,q⟩ ?_;exact⟨Z,its',_,U,q⟩
theorem Inv.lnew (I:Inv X J1 σ H s) (U:Vals ys J8) (W:ys.length<=qb2) :
  Inv X J1 σ (upd H s.heap.objs.size (.e ys)) {s with heap:=s.heap.push {cls:=.type "list",data:=.seq J8.toArray},toks:=t'}:=
 I.laid (fun _ _ q=>gP _ q) (nL _) ⟨W,J8,0,U,qa7 _ rfl⟩
theorem Inv.fresh(I:Inv X J1 σ H s):H s.heap.objs.size=ψ:=I.hok.fresh (nL _)
theorem Inv.lstM(I:Inv X J1 σ H s)(U:H l=ς (.e xs)):xs.length<=qb2/\∃(J8:η Value)(n:Nat),Vals xs J8/\xs.length=J8.length/\s.heap.get? l=ς {cls:=.type "list",data:=.seq J8.toArray n}:=by obtain⟨z,J8,n,r,e⟩:=I.hok l _ U;exact⟨z,J8,n,r,r.length,e⟩
theorem oB(h:n<=qb2):qp1 n=ξ:=by unfold qp1;exact decide_eq_false Θ
end
section
variable{X:Cx}
def zA:V->η V->Hp->VK->Prop:=fun x vs H Q=>∃l xs y,x=.ref l/\vs=[y]/\H l=ς (.e xs)/\xs.length<qb2/\Q .non (upd H l (.e (xs++[y])))
theorem lO:MtM X "list.append" zA:=by intro J1 s σ H x vs v us Q I Y Z h;obtain⟨l,xs,y,rfl,rfl,U,hz,q⟩:=h;cases Y;obtain⟨u,rfl,W⟩:=Z.one;obtain⟨z,J8,n,r,hl,e⟩:=I.lstM U;refine qy4 F.slot_list_append ⟨_,e,rfl⟩ F.entry_list_append (F.args_list_append_2 _ _) (PySem.list_append l J8.toArray n u (by rw[qb6];lia)) ⟨e,?_⟩;refine⟨.non,_,I.lset (its':=J8++[u]) U e Ξ (r.append (.cons W .nil)) ?_,rfl,q⟩;rw[qc4,zh0];lia
def zB:V->η V->Hp->VK->Prop:=fun x vs H Q=>∃l b xs zs,x=.ref l/\vs=[.ref b]/\H l=ς (.e xs)/\H b=ς (.e zs)/\xs.length+zs.length<=qb2/\Q .non (upd H l (.e (xs++zs)))
def t9:MtM X "list.extend" zB:=by
 intro J1 s σ H x vs v us Q I rx rv h;obtain⟨l,b,xs,zs,rfl,rfl,Z,hB,hz,q⟩:=h;cases rx;obtain⟨u,rfl,ru⟩:=rv.one;cases ru;obtain⟨z,J8,n,r,hl,e⟩:=I.lstM Z;obtain⟨z2,U,n2,r2,hl2,e2⟩:=I.lstM hB;have Y:J8.toArray.size+U.toArray.size<=qb2:=by rw[qb6,qb6];lia
 have W:¬ (!J8.toArray.isEmpty&&qp1 (J8.toArray.size+U.toArray.size))=θ:=by rw[oB Y,qw2];exact qb5
 refine qy4 F.slot_list_extend ⟨_,e,rfl⟩ F.entry_list_extend (F.args_list_extend_2 _ _)
  (AutoSeq1.list_extend_list_list_0 l J8.toArray n b U.toArray n2 W (by rw[qb6];lia) Θ) ⟨e,e2,?_⟩
 refine⟨.non,_,I.lset (its':=J8++U) Z e Ξ (r.append r2) ?_,rfl,q⟩;rw[qc4];lia
theorem rY{α:Type}(xs:η α)(k:Nat):(qb9 k xs).flatten.length=k*xs.length:=by
 induction k with
 |zero=>simp
 |succ k U=>rw[qj6,qp0,qc4,U,zl9,Nat.add_comm]
end
section
variable{prog:qc5}{w:Ja}{A:qe1}{E:Value->qa3->Prop}{s:qa3}
end
section
variable{X:Cx}
end
variable{o:ζ V}
section
variable{κ:Type}[DecidableEq κ]
def eO(J6:η (κ×V))(k:κ):ζ V:=(J6.find? fun kv=>decide (kv.1=k)).map (·.2)
noncomputable def dX(J6:η (κ×V))(k:κ)(v:V):η (κ×V):=if(J6.any fun kv=>decide (kv.1=k))=θ then J6.map (fun kv=>if kv.1=k then(kv.1,v)else kv)else J6++[(k,v)]
theorem ia{p:κ×V}{r:η (κ×V)}{k:κ}(e:p.1=k):eO (p::r) k=ς p.2:=by simp[eO,qq8,e]
theorem fY{p:κ×V}{r:η (κ×V)}{k:κ}(e:¬ p.1=k):eO (p::r) k=eO r k:=by simp[eO,qq8,e]
theorem oC(k:κ):∀J6:η (κ×V),(J6.any fun kv=>decide (kv.1=k))=(eO J6 k).isSome
 |[]=>rfl
 |p::r=>by
  rw[ql2];by_cases e:p.1=k
  .simp only[ia e,decide_eq_true e,zm0,Option.isSome_some]
  .rw[fY e,decide_eq_false e,zd1];exact oC k r
theorem fZ(J6:η (κ×V))(k:κ)(v:V):(dX J6 k v).length<=J6.length+1:=by
 unfold dX;split
 .rw[qa1];lia
 .rw[qc4,qe4,zh1];lia
theorem RelO.isSome_eq{u:ζ Value}(r:RelO o u):o.isSome=u.isSome:=by
 cases o with
 |none=>cases u with
  |none=>rfl
  |some _=>exact(show False from r).elim
 |some _=>cases u with
  |none=>exact(show False from r).elim
  |some _=>rfl
theorem RelO.getD{u:ζ Value}{d:V}{d':Value}(r:RelO o u)(rd:RelV d d'):RelV (o.getD d) (u.getD d'):=by
 cases o with
 |none=>cases u with
  |none=>exact rd
  |some _=>exact(show False from r).elim
 |some _=>cases u with
  |none=>exact(show False from r).elim
  |some _=>exact r
theorem KV.val{J6:η (κ×V)}{vs:η (κ×Value)}(r:KV J6 vs)(k:κ):RelO (eO J6 k) (zj4 vs k):=by
 unfold KV at r;induction r with
 |nil=>exact qt8
 |@cons p q ps qs h t W=>
  obtain⟨h1,h2⟩:=h;by_cases e:p.1=k
  .have U:q.1=k:=h1.symm.trans e;have b:zj4 (q::qs) k=ς q.2:=by simp[zj4,qq8,U]
   rw[ia e,b];exact h2
  .have U:¬ q.1=k:=fun z=>e (h1.trans z)
   have b:zj4 (q::qs) k=zj4 qs k:=by simp[zj4,qq8,U]
   rw[fY e,b];exact W
theorem KV.any{J6:η (κ×V)}{vs:η (κ×Value)}(r:KV J6 vs)(k:κ):(J6.any fun kv=>decide (kv.1=k))=vs.any fun kv=>decide (kv.1=k):=by
 unfold KV at r;induction r with
 |nil=>rfl
 |cons h t U=>rw[ql2,ql2,U,h.1]
theorem KV.repl {J6:η (κ×V)} {vs:η (κ×Value)} (r:KV J6 vs) (k:κ) (U:RelV y u) :
  KV (J6.map fun kv=>if kv.1=k then(kv.1,y)else kv) (vs.map fun kv=>if kv.1=k then(kv.1,u)else kv):=by
 unfold KV at r ⊢;induction r with
 |nil=>exact .nil
 |@cons p q ps qs h t W=>
  rw[qa4,qa4];refine .cons ?_ W;obtain⟨h1,h2⟩:=h;by_cases e:p.1=k
  .rw[if_pos e,if_pos (h1.symm.trans e)];exact⟨h1,U⟩
  .rw[if_neg e,if_neg (fun z=>e (h1.trans z))];exact⟨h1,h2⟩
theorem KV.put{J6:η (κ×V)}{vs:η (κ×Value)}(r:KV J6 vs)(k:κ)(U:RelV y u):KV (dX J6 k y) (stored vs k u):=by
 unfold dX stored;rw[r.any k];by_cases e:(vs.any fun kv=>decide (kv.1=k))=θ
 .rw[if_pos e,if_pos e];exact r.repl k U
 .rw[if_neg e,if_neg e];exact Paired.snoc r ⟨rfl,U⟩
theorem KV.length{J6:η (κ×V)}{vs:η (κ×Value)}(r:KV J6 vs):J6.length=vs.length:=Paired.length r
end
variable{P:qc5}{w:Ja}
theorem jh{k:Key}(r:RelV (kV k) u):(aE P w).is k u=θ:=by
 cases k with
 |inl i=>obtain⟨t,e⟩:=(show ∃t,u=zm7 i t from r);subst e;exact oq P w i t
 |inr x=>obtain⟨t,e⟩:=(show ∃t,u=zm8 x t from r);subst e;exact fW P w x t
theorem lP:∀{ks:η Key}{us:η Value},Vals (ks.map kV) us->ItemsAre (aE P w) ks us
 |[],_,r=>by rw[qm4]at r;cases r;exact .nil
 |k::ks,_,r=>by
  rw[qa4]at r;cases r with
  |cons h t=>exact .cons (jh h) (lP t)
abbrev KT(H:Hp):η (η Key×V)->η (η Key×J9×Value)->Prop:=Paired fun p q=>p.1=q.1/\H q.2.1=ς (.t (p.1.map kV))/\RelV p.2 q.2.2
variable{J6:η (η Key×V)}
theorem KT.val{xs:η (η Key×J9×Value)}(r:KT H J6 xs)(k:η Key):RelO (eO J6 k) ((atKey xs k).map (·.2)):=by
 induction r with
 |nil=>exact qt8
 |@cons p q ps qs h t W=>
  obtain⟨h1,_,h2⟩:=h;by_cases e:p.1=k
  .have U:q.1=k:=h1.symm.trans e;have b:atKey (q::qs) k=ς q.2:=by simp[atKey,qq8,U]
   rw[ia e,b];exact h2
  .have U:¬ q.1=k:=fun z=>e (h1.trans z)
   have b:atKey (q::qs) k=atKey qs k:=by simp[atKey,qq8,U]
   rw[fY e,b];exact W
theorem KT.repl {xs:η (η Key×J9×Value)} (r:KT H J6 xs) (k:η Key) (U:RelV y u) :
  KT H (J6.map fun kv=>if kv.1=k then(kv.1,y)else kv) (xs.map (putAt k u)):=by
 induction r with
 |nil=>exact .nil
 |@cons p q ps qs h t W=>
  rw[qa4,qa4];refine .cons ?_ W;obtain⟨h1,h2,h3⟩:=h;unfold putAt;by_cases e:p.1=k
  .rw[if_pos e,if_pos (h1.symm.trans e)];exact⟨h1,h2,U⟩
  .rw[if_neg e,if_neg (fun z=>e (h1.trans z))];exact⟨h1,h2,h3⟩
variable{b:J9}
theorem KT.put {xs:η (η Key×J9×Value)} (r:KT H J6 xs) (k:η Key) (W:H b=ς (.t (k.map kV))) (U:RelV y u) :
  KT H (dX J6 k y) (storedH xs k b u):=by
 have e:(J6.any fun kv=>decide (kv.1=k))=(atKey xs k).isSome:=by rw[oC,(r.val k).isSome_eq,qr6]
 unfold dX storedH;rw[e];by_cases q:(atKey xs k).isSome=θ
 .rw[if_pos q,if_pos q];exact r.repl k U
 .rw[if_neg q,if_neg q];exact Paired.snoc r ⟨rfl,W,U⟩
variable{H':Hp}
theorem KT.keeps{xs:η (η Key×J9×Value)}(r:KT H J6 xs)(U:∀b ys,H b=ς (.t ys)->H' b=ς (.t ys)):KT H' J6 xs:=Paired.mapP r fun _ _ z=>⟨z.1,U _ _ z.2.1,z.2.2⟩
section
variable{P:qc5}{w:Ja}{H:Hp}{h:Heap}{a:J9}
theorem Br{u:HO}(ok:HOk P w H h)(e:Rd H a u):ObjOk P w H h a u:=e.ok ok
theorem lQ{J6:η (Key×V)}(ok:HOk P w H h)(e:Rd H a (.dK J6)):J6.length<=qb2/\(a==qk8)=ξ/\∃vs,KV J6 vs/\h.DictOf (aE P w) a vs:=show ObjOk P w H h a (.dK J6)from Br ok e
theorem Fv{J6:η (Key×V)}(ok:HOk P w H h)(e:H a=ς (.dK J6)):J6.length<=qb2/\(a==qk8)=ξ/\∃vs,KV J6 vs/\h.DictOf (aE P w) a vs:=lQ ok (.inl e)
theorem j7{ks:η Key}(ok:HOk P w H h)(e:H a=ς (.t (ks.map kV))):(zj7 (aE P w)).is h ks a:=by obtain⟨_,J8,r,o,h1,h2,n,h3⟩:=(show ObjOk P w H h a (.t (ks.map kV))from ok a _ e);exact⟨o,J8.toArray,n,h1,h2,h3,by simpa using lP r⟩
theorem oE (ok:HOk P w H h) (e:Rd H a (.dT J6)):J6.length<=qb2/\(a==qk8)=ξ∧
  ∃xs,KT H J6 xs/\h.DictOfH (zj7 (aE P w)) a xs:=by
 obtain⟨z,y,xs,r,o,es,ep,h1,h2,h3,h4,Y⟩:=(show ObjOk P w H h a (.dT J6)from Br ok e);refine⟨z,y,xs,r,o,es,ep,h1,h2,h3,h4,fun x U=>?_,Y⟩
 have all:∀{l:η (η Key×V)}{m:η (η Key×J9×Value)},KT H l m->∀x∈m,(zj7 (aE P w)).is h x.1 x.2.1:=by
  intro l m q;induction q with
  |nil=>intro x U;exact nomatch U
  |@cons p q ps qs W t Z=>
   intro x U;rcases qa5.mp U with e|U
   .subst e;exact j7 ok (by rw[<- W.1];exact W.2.1)
   .exact Z x U
 exact all r x U
theorem Fx(ok:HOk P w H h)(e:H a=ς (.dT J6)):J6.length<=qb2/\(a==qk8)=ξ∧∃xs,KT H J6 xs/\h.DictOfH (zj7 (aE P w)) a xs:=oE ok (.inl e)
end
def DGet(H:Hp)(a:J9)(y:V)(r:ζ V):Prop:=(∃J6 k,Rd H a (.dK J6)/\y=kV k/\r=eO J6 k)∨∃J6 k b,Rd H a (.dT J6)/\y=.ref b/\H b=ς (.t (k.map kV))/\r=eO J6 k
def DPut(H:Hp)(a:J9)(y v:V)(H':Hp):Prop:=
 (∃J6 k,H a=ς (.dK J6)/\y=kV k/\J6.length<qb2/\H'=upd H a (.dK (dX J6 k v)))∨
 ∃J6 k b,H a=ς (.dT J6)/\y=.ref b/\H b=ς (.t (k.map kV))/\J6.length<qb2/\H'=upd H a (.dT (dX J6 k v))
variable{a:J9}
theorem DGet.k{J6:η (Key×V)}{k:Key}(e:H a=ς (.dK J6)):DGet H a (kV k) (eO J6 k):=.inl ⟨J6,k,.inl e,rfl,rfl⟩
theorem DGet.t{k:η Key}(e:H a=ς (.dT J6))(U:H b=ς (.t (k.map kV))):DGet H a (.ref b) (eO J6 k):=.inr ⟨J6,k,b,.inl e,rfl,U,rfl⟩
theorem DPut.k{J6:η (Key×V)}{k:Key}{v:V}(e:H a=ς (.dK J6))(U:J6.length<qb2):DPut H a (kV k) v (upd H a (.dK (dX J6 k v))):=.inl ⟨J6,k,e,rfl,U,rfl⟩
theorem DPut.t {k:η Key} {v:V} (e:H a=ς (.dT J6)) (U:H b=ς (.t (k.map kV))) (W:J6.length<qb2) :
  DPut H a (.ref b) v (upd H a (.dT (dX J6 k v))):=.inr ⟨J6,k,b,e,rfl,U,W,rfl⟩
variable{Q:Value->qa3->Prop}{h':Heap}
section
variable{X:Cx}{J1:η (J9×Obj)}{σ:St}{H:Hp}{s:qa3}{a:J9}{y v:V}{u r:Value}{o:ζ V}{A:qe1}{E:Value->qa3->Prop}
theorem Inv.big(I:Inv X J1 σ H s):qk8<s.heap.objs.size:=by have h:qc1<s.heap.objs.size:=(I.mod.glob.keeps I.bk).lt;exact qp6 Ω h
theorem ua (hu:A.units+1<cLine) (I:Inv X J1 σ H s) (g:DGet H a y (ς v)) (ry:RelV y u) (h:∀ Y s',Inv X J1 σ H s'->RelV v Y->Q Y s') :
  wpAny (model X.prog X.w) A (zj1 (.ref a) u) Q E s:=by
 rcases g with ⟨J6,k,e,ey,l⟩|⟨J6,k,b,e,ey,eb,l⟩
 .subst ey;obtain⟨z,hd,vs,U,dd⟩:=lQ I.hok e;obtain⟨Y,hw,W⟩:=RelO.some_of (v:=v) (o:=zj4 vs k) (by rw[l];exact U.val k);exact wpAny_getItem_of (jh ry) dd.mapOf hw (h Y _ (I.tok _) W)
 .subst ey;cases (show u=qf3 b from ry);obtain⟨z,hd,xs,U,dd⟩:=oE I.hok e;obtain⟨Y,hw,W⟩:=RelO.some_of (v:=v) (o:=(atKey xs k).map (·.2)) (by rw[l];exact U.val k);obtain⟨p,hp,Z⟩:=mS hw;refine wpAny_getItem_heap (qu7 hu) (j7 I.hok eb) dd hp ?_;rw[Z];exact h Y _ (I.tok _) W
theorem d_in (hu:A.units+1<cLine) (I:Inv X J1 σ H s) (g:DGet H a y o) (ry:RelV y u) (h:∀ s',Inv X J1 σ H s'->Q (.bool o.isSome) s') :
  wpAny (model X.prog X.w) A (qh8 .In u (.ref a)) Q E s:=by
 rcases g with ⟨J6,k,e,Y,l⟩|⟨J6,k,b,e,Y,eb,l⟩
 .subst Y;obtain⟨z,W,vs,U,Z⟩:=lQ I.hok e;refine wpAny_in_of (jh ry) W Z.mapOf ?_;rw[<- (U.val k).isSome_eq,<- l];exact h _ (I.tok _)
 .subst Y;cases (show u=qf3 b from ry);obtain⟨z,W,xs,U,Z⟩:=oE I.hok e;refine wpAny_in_heap (qu7 hu) (j7 I.hok eb) W Z ?_;have q:=(U.val k).isSome_eq;rw[qr6]at q;rw[<- q,<- l];exact h _ (I.tok _)
theorem zC (hu:A.units+1<cLine) (I:Inv X J1 σ H s) (g:DGet H a y o) (ry:RelV y u) (h:∀ s',Inv X J1 σ H s'->Q (.bool (!o.isSome)) s') :
  wpAny (model X.prog X.w) A (qh8 .NotIn u (.ref a)) Q E s:=by
 rcases g with ⟨J6,k,e,Y,l⟩|⟨J6,k,b,e,Y,eb,l⟩
 .subst Y;obtain⟨z,W,vs,U,Z⟩:=lQ I.hok e;refine wpAny_notIn_of (jh ry) W Z.mapOf ?_;rw[<- (U.val k).isSome_eq,<- l];exact h _ (I.tok _)
 .subst Y;cases (show u=qf3 b from ry);obtain⟨z,W,xs,U,Z⟩:=oE I.hok e;refine wpAny_notIn_heap (qu7 hu) (j7 I.hok eb) W Z ?_;have q:=(U.val k).isSome_eq;rw[qr6]at q;rw[<- q,<- l];exact h _ (I.tok _)
theorem rZ {ob:HO} (I:Inv X J1 σ H s) (Y:Mut (H a)) (U:qg2 a s.heap h') (W:∃ q,h'.get? a=ς q) (new:ObjOk X.prog X.w (upd H a ob) h' a ob) :
  Inv X J1 σ (upd H a ob) {s with heap:=h',toks:=t'}:=
 I.write (x:=a) (e:=a) Y (.inl rfl) (fun b q Z z=>(U.2 b Z).trans z) W new
theorem vX {J6:η (Key×V)} {vs:η (Key×Value)} (z:J6.length<=qb2) (W:(a==qk8)=ξ) (U:KV J6 vs) (Y:h'.DictOf (aE P w) a vs) :
  ObjOk P w H' h' a (.dK J6):=⟨z,W,vs,U,Y⟩
theorem ub {Q:Unit->qa3->Prop} (hu:A.units+1<cLine) (I:Inv X J1 σ H s) (g:DPut H a y v H') (ry:RelV y u) (rv:RelV v r) (h:∀ s',Inv X J1 σ H' s'->Q () s') :
  wpAny (model X.prog X.w) A (setItem (.ref a) u r) Q E s:=by
 rcases g with ⟨J6,k,e,ey,l,eH⟩|⟨J6,k,b,e,ey,eb,l,eH⟩
 .subst ey eH;obtain⟨z,Z,vs,U,dd⟩:=Fv I.hok e;have hz:vs.length<=qb2:=by rw[<- U.length];exact z
  have hl:(dX J6 k v).length<=qb2:=by have:=fZ J6 k v;lia
  refine wpAny_setItem_pairs (hsz:=hz) (jh ry) dd fun h' W hs=>h _ ?_
  have he:∃q,h'.get? a=ς q:=let ⟨q,_,_,Y,_⟩:=W;⟨q,Y⟩;exact rZ I (by rw[e];exact qt8) hs he (vX hl Z (U.put k rv) W)
 .subst ey eH;cases (show u=qf3 b from ry);obtain⟨z,Z,xs,U,dd⟩:=Fx I.hok e;have hz:xs.length<=qb2:=by rw[<- Paired.length U];exact z
  have hl:(dX J6 k v).length<=qb2:=by have:=fZ J6 k v;lia
  refine wpAny_setItem_heap (hsz:=hz) (qu7 hu) (j7 I.hok eb) dd fun h' W hs=>h _ ?_
  obtain⟨q,es,ep,Y,h2,h3,h4,_,h5⟩:=W;refine rZ I (by rw[e];exact qt8) hs ⟨q,Y⟩ ⟨hl,Z,_,(U.put k eb rv).keeps fun c ys ec=>?_,q,es,ep,Y,h2,h3,h4,h5⟩;rw[aq (E8 ec e (fun z=>nomatch z))];exact ec
end
section
variable{X:Cx}{J1:η (J9×Obj)}{σ:St}{H:Hp}{s:qa3}{a:J9}{J6:η (Key×V)}{k:Key}{u:Value}{A:qe1}{E:Value->qa3->Prop}
end
def uc(i:Jc):Prop:=∀W U,zj2 i ξ W U=operate [W,U] (zj1 W U)
theorem r0{prog:qc5}{E:Value->qa3->Prop}{env:Env}{value U:Jc}{pos:Pos}{T id:String} 
 (hl:qy3 (.type T) "__getitem__"=pure (ς (.builtin id))) (hs:uc U)
 (h:wpAny (model prog w) A (eval value env) (fun o Y=>wpAny (model prog w) A (eval U env) (fun i s₂=>s₂.TypeIs o T/\wpAny (model prog w) A (zj1 o i) Q E s₂) E Y) E s) :
  wpAny (model prog w) A (eval (.Subscript value U pos) env) Q E s:=by
 refine Subscript_ (ql9 h (fun o Y Z=>ql9 Z (fun i s₂ W=>?_) fun _ _ x=>x) fun _ _ x=>x);obtain⟨hT,W⟩:=W;unfold zk3;refine wB ?_;rw[getitemInPython_of_ne hT.not_modules];refine wB (qz2 hT hl ?_)
 have fin:wpAny (model prog w) A (zj2 U ξ o i) (fun r s₃=>wpAny (model prog w) A (letTemporaryGo value o r >>= fun _=>pure r) Q E s₃) E s₂:=by rw[hs o i];exact wpAny_operating (ql9 W (fun r s₃ h₃=>wB (wpAny_letTemporaryGo (qa2 h₃))) fun _ _ x=>x)
 first
  |exact qa2 (wB fin)
  |exact wB (qa2 (wB fin))
  |exact wB fin
theorem oF{X:Cx}(I:Inv X J1 σ H s)(g:DGet H a y o):s.TypeIs (.ref a) "dict":=by
 rcases g with ⟨J6,k,e,_,_⟩|⟨J6,k,b,e,_,_,_⟩
 .obtain⟨_,_,vs,_,U⟩:=lQ I.hok e;exact U.typeIs
 .obtain⟨_,_,xs,_,U⟩:=oE I.hok e;exact U.typeIs
def Fy(td ty:TE):TE:=fun σ H Q=>td σ H fun x H1=>ty σ H1 fun y H2=>∃a v,x=.ref a/\DGet H2 a y (ς v)/\Q v H2
def tDIn(ty td:TE):TE:=fun σ H Q=>ty σ H fun y H1=>td σ H1 fun x H2=>∃a o,x=.ref a/\DGet H2 a y o/\Q (.bl o.isSome) H2
def r6(ty td:TE):TE:=fun σ H Q=>ty σ H fun y H1=>td σ H1 fun x H2=>∃a o,x=.ref a/\DGet H2 a y o/\Q (.bl (!o.isSome)) H2
def FA(td ty tv:TE):TS:=fun D σ H=>tv σ H fun v H1=>td σ H1 fun x H2=>ty σ H2 fun y W=>∃a U,x=.ref a/\DPut W a y v U/\D.nx σ U
section
variable{X:Cx}{o i e value:Jc}{pos pos' tpos:Pos}{td ty tv:TE}
theorem r8(Y:X.A.units+1<cLine)(ho:PE X o td)(hi:PE X i ty)(hs:uc i):PE X (.Subscript o i pos) (Fy td ty):=by intro J1 s σ H Q I h;refine r0 PySem.F.slot_dict_getitem.lookup hs (thn (ho J1 s σ H _ I h) fun u s1 ⟨x,H1,I1,Z,q1⟩=>thn (hi J1 s1 σ H1 _ I1 q1) fun iv s2 ⟨y,H2,W,ry,a,v,ex,g,q2⟩=>?_);subst ex;obtain rfl:u=qf3 a:=Z;exact⟨oF W g,ua Y W g ry fun w' s3 I3 U=>⟨v,H2,I3,U,q2⟩⟩
theorem vY(Z:X.A.units+1<cLine)(hi:PE X i ty)(ho:PE X o td):PC X .In i o (tDIn ty td):=by
 intro J1 s σ H Q I h;refine thn (hi J1 s σ H _ I h) fun iv s1 ⟨y,H1,I1,Y,q1⟩=>thn (ho J1 s1 σ H1 _ I1 q1) fun u s2 ⟨x,H2,I2,U,a,ov,ex,g,q2⟩=>?_
 subst ex;obtain rfl:u=qf3 a:=U;exact d_in Z I2 g Y fun s3 W=>⟨.bl ov.isSome,H2,W,rfl,q2⟩
theorem lR(Z:X.A.units+1<cLine)(hi:PE X i ty)(ho:PE X o td):PC X .NotIn i o (r6 ty td):=by
 intro J1 s σ H Q I h;refine thn (hi J1 s σ H _ I h) fun iv s1 ⟨y,H1,I1,Y,q1⟩=>thn (ho J1 s1 σ H1 _ I1 q1) fun u s2 ⟨x,H2,I2,U,a,ov,ex,g,q2⟩=>?_
 subst ex;obtain rfl:u=qf3 a:=U;exact zC Z I2 g Y fun s3 W=>⟨.bl (!ov.isSome),H2,W,rfl,q2⟩
theorem r9 (Y:X.A.units+1<cLine) (ho:PE X o td) (hi:PE X i ty) (U:PE X value tv) (hs:qo5 value (ς (.Subscript o i pos')) pos.line X.env=pure ξ) :
  PS X (.Assign [.Subscript o i pos'] value pos) (FA td ty tv):=by
 intro J1 s σ H D I h;refine wpAny_Assign_Subscript (thn (U J1 s σ H _ I h) fun r s1 ⟨v,H1,I1,W,q1⟩=>thn (ho J1 s1 σ H1 _ I1 q1) fun u s2 ⟨x,H2,Z,rx,q2⟩=>thn (hi J1 s2 σ H2 _ Z q2) fun iv s3 ⟨y,H3,I3,ry,a,H4,ex,g,q3⟩=>?_) hs;subst ex;obtain rfl:u=qf3 a:=rx;exact ub Y I3 g ry W fun s4 I4=>⟨σ,H4,I4,q3⟩
end
theorem vZ(h:Heap)(U:qk8<h.objs.size):ObjOk P w H (h.push {cls:=.type "dict",data:=.dict #[]}) h.objs.size (.dT []):=⟨qk6 _,beq_eq_false_iff_ne.mpr (qh5 (qb8 U)),[],.nil,_,#[],0,qa7 _ rfl,⟨rfl,rfl,rfl⟩,rfl,rfl,qs5⟩
def C4:TE:=fun _ H Q=>∀p,H p=ψ->Q (.ref p) (upd H p (.dT []))
section
variable{X:Cx}{pos:Pos}
theorem v3:PE X (.Dict [] [] pos) C4:=fun J1 s σ H Q I h=>wpAny_Dict_empty ⟨.ref s.heap.objs.size,_,I.laid (a:=s.heap.objs.size) (o:=.dT []) (t':=s.toks) (fun _ _ q=>gP _ q) (nL _) (vZ s.heap I.big),rfl,h _ (I.hok.fresh (nL _))⟩
end
section
variable{X:Cx}{J1:η (J9×Obj)}{σ:St}{H:Hp}{s:qa3}{a:J9}{y d:V}{u r:Value}{o:ζ V}{A:qe1}{E:Value->qa3->Prop}
end
section
variable{X:Cx}{o e f:Jc}{apos cpos:Pos}{td ty tx:TE}
end
section
variable{X:Cx}{J1:η (J9×Obj)}{σ:St}{H:Hp}{s:qa3}{a:J9}{J6:η (Key×V)}{A:qe1}{E:Value->qa3->Prop}
end
section
variable{X:Cx}{J1:η (J9×Obj)}{σ:St}{H:Hp}{s:qa3}{a:J9}{y:V}{u:Value}{A:qe1}{E:Value->qa3->Prop}
end
end L2
namespace Att
open PySem PySem.W PySem.Calls PyProof.Rows
variable{P:Params}{h:Heap}
theorem jB:∀(ns:η Int)(vs:η Value),WellAll P h vs (ns.map WData.int)->zg8 vs ns:=by
 intro ns;induction ns with
 |nil=>intro vs w;rw[qm4]at w;cases w;exact .nil
 |cons n ns U=>
  intro vs w;rw[qa4]at w;cases w with
  |cons a b=>cases a;exact .cons _ _ (U _ b)
variable{l:OpenLaw}{n:Nat}
def ud(hn:l.most=ς n){args:η WData}{U:η Value}
 (W:l.row.toRowW.claim.pre args=θ) (hwl:WellAll P h U args) :
  ∃a vs ns,U=[qf3 a]/\args=[WData.list (ns.map WData.int)]/\h.get? a=ς {cls:=.type "list",data:=.seq vs.toArray}/\zg8 vs ns/\ns.length<=n:=by
 have hsh:WShape.hasAll [] args [.list .int]=θ:=(pre_splitW W).1;have hc:l.pre.holds [] {args:=args}=θ:=(pre_splitW W).2;obtain⟨d,r,rfl,h1,h2⟩:=hasAllW_cons hsh;obtain rfl:=hasAllW_nil h2;obtain⟨xs,rfl,h3⟩:=hasW_list h1;obtain⟨ns,rfl⟩:=items_int h3
 have Y:ns.length<=n:=by
  unfold OpenLaw.pre at hc
  have h4:(WTm.not (.lt (.lit (.int (n:Int))) (.len (.arg 0)))).holds [] {args:=[.list (ns.map .int)]}=θ:=by have h4:=(holds_andW hc).1;rw[hn]at h4;exact h4
  have h5:=condW_of h4 (w_not (w_lt w_lit (w_len_list (w_arg rfl))));rw[qa1]at h5;refine Nat.le_of_not_lt fun q=>?_
  have q':(n:Int)<((ns.length:Nat):Int):=by lia
  first
   |(rw[decide_eq_true q']at h5;exact absurd h5 Ω)
   |(simp at h5;lia)
 cases hwl with
 |cons w1 w2=>
  cases w2;cases w1 with
  |list ho Z=>exact⟨_,_,ns,rfl,rfl,ho,jB ns _ Z,Y⟩
theorem ue(l:OpenLaw)(args:η WData):l.row.toRowW.claim.post args (.bool θ) args=θ:=
 postW_of (r:=l.row.toRowW) (X:=(θ==θ))
  (show WShape.has [] (.bool θ) .bool=θ by first|rfl|decide|simp[WShape.has,WShape.arms,WShape.armsAll])
  (show(WTm.eq .res (.lit (.bool θ))).value [] {args:=args,res:=ς (.bool θ),after:=args}=ς (.bool (θ==θ))from w_eq_bool (w_res rfl) w_lit) rfl
theorem Bs{q:qc5}{loose:η Str}{XP:(Str->ζ Value)->Heap->Prop}{YP:Ja->Heap->Prop}{d:DefRec}
 (hn:l.most=ς n) (hdf:d.params.defaults=[])
 (call:∀(w:Ja)(s₀ U:qa3)(mg mb:Str->ζ Value)(fa:J9)(o:Obj)(pm cd doc:Value)(a:J9)(vs:η Value)(ns:η Int),
 Ground q loose [] XP w s₀ mg mb U.heap->YP w U.heap→
 U.heap.get? fa=ς o->o.data=.func (docDef d.name d.params d.body d.scope pm cd doc)->U.heap.CodeRec cd d.name->mg d.name=ς (.ref fa)→
 U.heap.get? a=ς {cls:=.type "list",data:=.seq vs.toArray}->zg8 vs ns->ns.length<=n->U.gens=#[]→
 qq7 (model l.prog w) zl3 (.call (.ref fa) ⟨[.ref a],[]⟩) (fun r s'=>r=.ok (.ret (.bool θ))/\OldK U.heap s'.heap/\s'.os=U.os/\zg0 s'.gens) U) :
  WalkO q loose XP YP l.row.toRowW d [] (fun f vs=>PySem.call f vs):=by
 intro w s₀ U mg mb G Y fa o pm cd doc dV kV ho hd hcd hD hmg hg args vals as Z hlay hrd hwl hlo;obtain rfl:dV=.none:=Dflts.none hD hdf;obtain rfl:kV=.none:=Dflts.noKw hD;obtain⟨a,vs,ns,rfl,rfl,hobj,W,hlen⟩:=ud hn Z hwl;refine enter_call (qt9 (call w s₀ U mg mb fa o pm cd doc a vs ns G Y ho (fd_plain hd) hcd hmg hobj W hlen hg) fun r s' hq=>?_);obtain⟨rfl,h2,h3,h4⟩:=hq;exact⟨.inl ⟨.bool θ,.bool θ,[],rfl,fun _=>rfl,.bool θ,ue l _,fun _=>⟨qr7,fun _ hm=>(nomatch hm)⟩⟩,h2,h3,h4⟩
section
variable{prog:qc5}{w:Ja}{A:qe1}{E:Value->qa3->Prop}{s:qa3}{K:Frag}
end
end Att
namespace L2
open PySem PySem.Spec PyProof.Rows
theorem lS:∀{vs:η Value}{ns:η Int},zg8 vs ns->Vals (ns.map V.int) vs
 |_,_,.nil=>.nil
 |_,_,.cons n t h=>.cons ⟨t,rfl⟩ (lS h)
end L2
/- THE LAST THEOREM (shape;LID,My.* are yours):
   My.Adr: a structure of the addresses that your layer names (classes,functions);My.Txt K t: a structure (Prop) of the equations over K;
   My.txt_mk:{K} {implicit addresses ..} (e1:nsIn K qc1 "law"=ς (ς (.ref f))) (e2:K.lookup f=ς ⟨oc,od,.func (fnOf "law" "law" params body scope dV kV doc pm an cdv ct),sl⟩) (e3:codeIn K cdv "law"=θ) ..:∃t,My.Txt K t
(the tactic k_is has no namespace: write k_is) -/
namespace L2
open PySem PySem.Spec PyProof.Rows
def bJ(s:Jb):ql1:=match s with
 |.FunctionDef _ a _ _ _ _ _ _ _ _=>a
 |_=>{posonlyargs:=[],args:=[],vararg:=ψ,kwonlyargs:=[],kw_defaults:=[],kwarg:=ψ,defaults:=[]}
def aF(s:Jb):η Jb:=match s with
 |.FunctionDef _ _ b _ _ _ _ _ _ _=>b
 |_=>[]
def ab(s:Jb):Jd:=match s with
 |.FunctionDef _ _ _ _ _ _ sc _ _ _=>sc
 |_=>{kind:=.function,names:=[],isGenerator:=false,isCoroutine:=false}
abbrev CX0:CXT:=fun _ _ _ _ _ _=>False
abbrev E0:XK:=fun _ _ _=>False
variable{X:Cx}
def FB:qh CX0 X E0:=fun _ _ _ _ _ _ _ h=>h.elim
structure Fun(K:xA9)(x qual:Str)(st:Jb)(f:J9)(fd:qr5):Prop where
 ex:∃(oc:Value)(od:Option J9)(kV doc pm:Value)(an:Option J9)(cdv ct:Value)(osl:Array (Option Value)),fd=xC9 x qual (bJ st) (aF st) (ab st) .none kV doc pm an cdv ct/\K.lookup f=ς ⟨oc,od,.func fd,osl⟩/\xH9 K cdv qual=θ
 kp:xF9 K (.ref f)=θ
variable{x qual:Str}{st:Jb}{f:J9}{fd:qr5}{N ps:η Str}{sp:Sp}{oc doc pm cdv:Value}{od an:ζ J9}{osl:Array (ζ Value)}
section
variable{P:qc5}{w:Ja}{K:xA9}{mg:Str->ζ Value}{base:Heap}
theorem Fun.ok{k:Nat}(F:Fun K x qual st f fd)(S:FnScope N ps (ab st))(len:∀vs H Q E,sp vs H Q E->vs.length=ps.length)
 (U:∀(cdv:Value)(A:qe1)(outer:η Env)(s:qa3)(H:Hp)(vs:η V)(Q:VK)(E:XK),Room k (A.deeper (zb5 qual (ab st) s.heap.objs.size f cdv))->sp vs H Q E→
 ∃t,PSs (j5 CX0 P w K mg base N qual (ab st) f cdv A outer s H E).nox (aF st) t/\t {nx:=fun _ H'=>Q .non H',rt:=Q} (start N vs) H):FnOk P w K mg base CX0 (k+1) f fd ps sp:=by
 obtain⟨oc,od,kV,doc,pm,an,cdv,ct,osl,rfl,lk,W⟩:=F.ex;refine Bp lk W S len fun A outer s H vs Q E Z Y=>?_
 obtain⟨t,h,q⟩:=U cdv A outer s H vs Q E Z Y;exact⟨t,h.nox,q⟩
def Fun.binds(F:Fun K x qual st f fd)
 (h:∀(kV doc pm:Value)(an:ζ J9)(cdv ct:Value)(us:η Value),us.length=ps.length->zk2 (xC9 x qual (bJ st) (aF st) (ab st) .none kV doc pm an cdv ct) ⟨us,[]⟩=pure (ps.zip us)):Binds K fd ps []:=by
 obtain⟨oc,od,kV,doc,pm,an,cdv,ct,osl,rfl,Y,U⟩:=F.ex;exact .all (h kV doc pm an cdv ct)
theorem mY{kV ct:Value}(l:K.lookup f=ς ⟨oc,od,.func (xC9 x qual (bJ st) (aF st) (ab st) .none kV doc pm an cdv ct),osl⟩)(c:xH9 K cdv qual=θ)(k:xF9 K (.ref f)=θ):Fun K x qual st f (xC9 x qual (bJ st) (aF st) (ab st) .none kV doc pm an cdv ct):=⟨⟨oc,od,kV,doc,pm,an,cdv,ct,osl,rfl,l,c⟩,k⟩
end
variable{A:qe1}
theorem ji{k:Nat}(U:Room k A):A.units+1<cLine:=Nat.lt_of_le_of_lt (Nat.add_le_add_left (by decide:1<=64) _) U.units
section
variable{X:Cx}
end
def Same(H H':Hp):Prop:=∀b o,H b=ς o->H' b=ς o
def Same.refl(H:Hp):Same H H:=fun _ _ h=>h
variable{H:Hp}
theorem Same.trans{H1 H2:Hp}(a:Same H H1)(b:Same H1 H2):Same H H2:=fun c o h=>b c o (a c o h)
variable{H':Hp}
theorem Same.free(e:Same H H'){l:J9}(h:H' l=Option.none):H l=Option.none:=by
 cases q:H l with
 |none=>rfl
 |some o=>rw[e l o q]at h;cases h
variable{K:xA9}{a:J9}{xs:η V}
theorem Same.seq(e:Same H H')(h:SqL K H a xs):SqL K H' a xs:=by
 rcases h with (h|⟨o,h⟩)|h
 .exact .inl (.inl (e _ _ h))
 .exact .inl (.inr ⟨o,e _ _ h⟩)
 .exact .inr h
section
variable{κ:Type}[DecidableEq κ]
end
set_option maxRecDepth 100000
set_option maxHeartbeats 4000000
theorem c6:∀(names:η (Str×qq6))(n:Nat)(J5:η (Str×J9)),qi0 n names J5=qi0 n names []++J5
 |[],_,_=>rfl
 |(x,k)::r,n,J5=>by
  unfold qi0;split
  .rw[c6 r (n+1) ((x,n)::J5),c6 r (n+1) [(x,n)],qk0];rfl
  .exact c6 r n J5
theorem cT{α:Type}:∀{l m:η (Str×α)},(l++m).lookup x=(l.lookup x).or (m.lookup x)
 |[],m=>by simp
 |(k,v)::l,m=>by
  rw[ze8,qh1,qh1];cases x==k with
  |true=>rfl
  |false=>exact cT
variable{n:Str}{c:J9}
section
variable{M:Model}{A:qe1}{E:Value->qa3->Prop}{s₀ s:qa3}{m cm:Str->ζ Value}{env:Env}{cs:η (Str×J9)}
theorem stLX{v:Value}{Q:Unit->qa3->Prop}(x:zg6 s₀ env.locals m cs cm s)(hk:env.scope.kind=.function)(hl:env.kindOf n=ς .local)
 (h:∀s',zg6 s₀ env.locals (fun y=>if y=n then ς v else m y) cs cm s'->Q () s'):wpAny M A (zg1 env n v) Q E s:=by
 refine zg2 hl x.toInCall.ns (fun h' W U=>h _ ⟨⟨?_,W,fun b o e=>?_,x.toInCall.fresh⟩,fun k c Y=>?_,x.apart,x.above⟩) (by rw[hk];rfl)
 .obtain⟨Z,tk,rfl⟩:=x.toInCall.same;exact⟨h',_,rfl⟩
 .exact U.extBut b o (qb8 (qc2 (qb0 e) x.toInCall.fresh)) (x.toInCall.keep b o e)
 .exact(x.cell k c Y).sameBut U (ql6 (x.above k c (PySem.mem_of_lookup Y)))
theorem stCX{v:Value}{Q:Unit->qa3->Prop}(x:zg6 s₀ env.locals m cs cm s)(hk:env.scope.kind=.function)(hl:env.kindOf n=ς .cell)
 (hc:cs.lookup n=ς c) (hce:env.cells.lookup n=ς c)
 (h:∀s',zg6 s₀ env.locals m cs (fun y=>if y=n then ς v else cm y) s'->Q () s'):wpAny M A (zg1 env n v) Q E s:=by
 have Z:=x.above n c (PySem.mem_of_lookup hc);refine wpAny_storeName_cell hk hl hce (x.cell n c hc) fun h' hc' W=>h _ ⟨⟨?_,x.toInCall.ns.sameBut W (qb8 Z),fun b o e=>?_,x.toInCall.fresh⟩,fun k c' U=>?_,x.apart,x.above⟩
 .obtain⟨h₁,tk,rfl⟩:=x.toInCall.same;exact⟨h',_,rfl⟩
 .exact W.extBut b o (qb8 (qp6 (qc2 (qb0 e) x.toInCall.fresh) Z)) (x.toInCall.keep b o e)
 .by_cases Y:k=n
  .subst Y;rw[hc]at U;cases U
   simpa using hc'
  .rw[if_neg Y];exact(x.cell k c' U).sameBut W fun e=>Y (zl7 x.apart (PySem.mem_of_lookup U) (e▸PySem.mem_of_lookup hc))
theorem f6 (f:Str×Value->PUnit->Sem (ForInStep PUnit)) (hf:∀ n v u,f (n,v) u=(do zg1 env n v;pure (.yield ⟨⟩))) (hk:env.scope.kind=.function) (Y:∀ n c,cs.lookup n=ς c->env.cells.lookup n=ς c) :
  ∀(binds:η (Str×Value))(m cm:Str->ζ Value)(s:qa3)(Q:PUnit->qa3->Prop),zg6 s₀ env.locals m cs cm s→
   (∀x∈binds,env.kindOf x.1=ς .local∨(env.kindOf x.1=ς .cell/\(cs.lookup x.1).isSome=θ))→
   (∀s',zg6 s₀ env.locals (bindL env.kindOf binds m) cs (bindC env.kindOf binds cm) s'->Q ⟨⟩ s')->wpAny M A (forIn binds ⟨⟩ f) Q E s
 |[],m,cm,s,Q,x,_,h=>by rw[za7];exact qa2 (h s x)
 |(n,v)::r,m,cm,s,Q,x,U,h=>by
  rw[qu8,hf];have hr:∀y∈r,env.kindOf y.1=ς .local∨(env.kindOf y.1=ς .cell/\(cs.lookup y.1).isSome=θ):=fun y hy=>U y (qd4 _ hy)
  rcases U (n,v) qe7 with hl|⟨hl,hc⟩
  .refine wB (wB (stLX x hk hl fun s' x'=>qa2 (f6 f hf hk Y r _ _ s' Q x' hr fun W Z=>h W ?_)));unfold bindL bindC;rw[if_pos hl,if_pos hl];exact Z
  .obtain⟨c,hc⟩:=qu0.mp hc;have hnl:¬ env.kindOf n=ς .local:=by rw[hl];decide
   refine wB (wB (stCX x hk hl hc (Y n c hc) fun s' x'=>qa2 (f6 f hf hk Y r _ _ s' Q x' hr fun W Z=>h W ?_)));unfold bindL bindC;rw[if_neg hnl,if_neg hnl];exact Z
end
variable{E:Value->qa3->Prop}{s:qa3}{scope:Jd}
theorem zD{M:Model}{W:J9}{cl:η (Str×J9)}{binds:η (Str×Value)}{Y:ζ J9}{code:Value}{U:J9}{Q:Env->qa3->Prop}
 (hk:scope.kind=.function)
 (Z:∀x∈binds,scope.names.lookup x.1=ς .local∨(scope.names.lookup x.1=ς .cell/\((qi0 (s.heap.objs.size+1) scope.names []).lookup x.1).isSome=θ))
 (hQ:∀env,env=newEnv scope s.heap.objs.size W (qi0 (s.heap.objs.size+1) scope.names []++cl) qual Y code ψ U→
 ∀s',zg6 s env.locals (bindL env.kindOf binds fun _=>ψ) (qi0 (s.heap.objs.size+1) scope.names []) (bindC env.kindOf binds fun _=>ψ) s'->Q env s') :
  wpAny M A (newFunctionEnv scope W cl binds qual Y code ψ U) Q E s:=by
 simp only[newFunctionEnv,Option.isSome_none,qd1,if_false];refine wB (wpAny_alloc ?_);refine qg4 (wpAny_layCells _ (fun name kind cells=>by cases hkc:kind==qq6.cell<;>simp[hkc]) _ _ _ _ ?_);have ok:=cellsFrom_ok scope.names (s.heap.push {cls:=.type "frame",data:=.dict #[]}) (s.heap.objs.size+1) [] ⟨fun _ _ hm=>(nomatch hm),qr7⟩ (by rw[qd9];exact nL _);rw[qd9]at ok;rw[show({s with heap:=s.heap.push {cls:=.type "frame",data:=.dict #[]}}:qa3).heap.objs.size=s.heap.objs.size+1 from qd9 ..,c6]
 refine wB (f6 (s₀:=s) (cs:=qi0 (s.heap.objs.size+1) scope.names []) (env:=newEnv scope s.heap.objs.size W (qi0 (s.heap.objs.size+1) scope.names []++cl) qual Y code ψ U)
  _ (fun _ _ _=>rfl) hk (fun n c h=>by show(qi0 (s.heap.objs.size+1) scope.names []++cl).lookup n=ς c;rw[cT,h];rfl) binds (fun _=>ψ) (fun _=>ψ) _ _
  ⟨⟨⟨_,_,rfl⟩,(Heap.Ns.new s.heap (.type "frame")).keeps (pushCells_keeps _ _),fun b o e=>pushCells_keeps _ _ b o (gP _ e),nL _⟩,fun n c hc=>(ok.empty n c (PySem.mem_of_lookup hc)).1,ok.apart,fun n c hm=>(ok.empty n c hm).2⟩
  Z fun s' x=>qa2 (hQ _ rfl s' x))
noncomputable def fU(names:η (Str×qq6))(cells:η (Str×J9)):η (Str×J9):=names.foldl (fun cs U=>if U.2==qe9 then(U.1,(cells.lookup U.1).getD 0)::cs else cs) []
variable{cells:η (Str×J9)}{env:Env}
theorem se (hc:env.cells=cells):∀ (names:η (Str×qq6)) (J5:η (Str×J9)),(∀ x∈names,x.2=.free->∃ c,cells.lookup x.1=ς c)→
  (forIn names J5 (fun(x:Str×qq6)(r:η (Str×J9))=>if(x.2==qe9)=θ then(do let c <- cellOf env x.1;pure (qq9 ((x.1,c)::r)))else(pure (qq9 r):Sem _)))
   = (pure (names.foldl (fun cs Y=>if Y.2==qe9 then(Y.1,(cells.lookup Y.1).getD 0)::cs else cs) J5):Sem (η (Str×J9)))
 |[],J5,_=>rfl
 |x::r,J5,h=>by
  have Z:=fun J5=>se hc r J5 fun y hy=>h y (qd4 _ hy)
  simp only[qu8,qi4];cases e:(x.2==qe9)with
  |false=>simp only[qd1,if_false];exact Z J5
  |true=>
   obtain⟨c,W⟩:=h x qe7 (by simpa using e);have U:cellOf env x.1=pure c:=by unfold cellOf;rw[hc,W]
   simp only[if_true,U,W,Option.getD_some];exact Z _
theorem j8{env:Env}(h:∀x∈scope.names,x.2=.free->∃c,env.cells.lookup x.1=ς c):zi3 scope env=pure (fU scope.names env.cells):=by have:=se (env:=env) rfl scope.names [] h;unfold zi3 fU;rw[<- this];simp only[bind_pure]
theorem lT:∀ {names:η (Str×qq6)} {J5:η (Str×J9)} {x:Str} {c:J9},(∀ y∈names,y.2=.free->∃ c,cells.lookup y.1=ς c)→
  (names.foldl (fun cs W=>if W.2==qe9 then(W.1,(cells.lookup W.1).getD 0)::cs else cs) J5).lookup x=ς c->(∀c,J5.lookup x=ς c->cells.lookup x=ς c)->cells.lookup x=ς c
 |[],J5,x,c,_,h,U=>U c h
 |y::r,J5,x,c,Z,h,U=>by
  simp only[qi4]at h;refine lT (fun z hz=>Z z (qd4 _ hz)) h ?_;intro c' h';split at h'
  .rename_i hf;obtain⟨c0,e0⟩:=Z y qe7 (by simpa using hf);rw[qh1]at h';split at h'
   .rename_i hx;have Y:x=y.1:=by simpa using hx
    rw[e0]at h';subst Y;rw[e0];simpa using h'
   .exact U c' h'
  .exact U c' h'
variable{names:η (Str×qq6)}
theorem jj(U:∀y∈names,y.2=.free->∃c,cells.lookup y.1=ς c)(h:(fU names cells).lookup x=ς c):cells.lookup x=ς c:=lT U h fun c h=>by simp at h
theorem lU:∀ {names:η (Str×qq6)} {J5:η (Str×J9)} {x:Str},((x,qe9)∈names∨(J5.lookup x).isSome)→
  ((names.foldl (fun cs U=>if U.2==qe9 then(U.1,(cells.lookup U.1).getD 0)::cs else cs) J5).lookup x).isSome
 |[],J5,x,h=>by simpa using h
 |y::r,J5,x,h=>by
  simp only[qi4];refine lU ?_;rcases h with h|h
  .rcases qa5.mp h with e|h
   .subst e;right;simp[qh1]
   .exact .inl h
  .right;split
   .rw[qh1];split
    .rfl
    .exact h
   .exact h
theorem oG(h:(x,qe9)∈names):∃c,(fU names cells).lookup x=ς c:=qu0.mp (lU (.inl h))
structure CmpScope(N:List Str)(outer scope:Jd)(M:List Str)(src:List (Option Nat)):Prop where
 kind:scope.kind=.function
 nocell:∀y∈scope.names,y.2≠.cell
 free:∀y∈scope.names,y.2=.free->outer.names.lookup y.1=ς .cell∨outer.names.lookup y.1=ς .free
 names:∀y∈scope.names,y.2=.local->scope.names.lookup y.1=ς .local
 lf:∀y∈scope.names,y.2=.free->scope.names.lookup y.1=ς .free
 len:M.length=src.length
 nd:M.Nodup
 src:∀p∈M.zip src,∀j∈p.2,N[j]?=ς p.1/\(p.1,qe9)∈scope.names
def stC(src:η (ζ Nat))(σ:St):St:=src.map fun o=>o.bind fun j=>(σ[j]?).join
def cxC(X:Cx)(M:η Str)(scope:Jd)(C:J9)(s:qa3)(H:Hp)(ex:η J9):Cx:={X with N:=M,s₀:=s,H₀:=H,env:=compEnvC scope (fU scope.names X.env.cells) C X.env,outer:=X.stack,ex:=ex,fn:=fun _=>ξ,pn:=[],xe:=fun _ _=>False}
def PTs(X:Cx)(ifs:η Jc)(t:TT):Prop:=
 ∀(J1:η (J9×Obj))(s:qa3)(σ:St)(H:Hp)(Q:Bool->Hp->Prop),Inv X J1 σ H s->t σ H Q→
  wpAny (model X.prog X.w) X.A (forIn ifs θ fun c r=>if r=θ then do let ok <- isTrue c X.env (eval c X.env);pure (qq9 ok)else pure (qq9 r)) (TP X J1 σ Q) X.xe s
def tYes:TT:=fun _ H Q=>Q θ H
theorem zE:PTs X [] tYes:=fun J1 s σ H Q I h=>wpAny_tests_nil ⟨H,I,h⟩
theorem zF{c:Jc}{t:TT}(h:PT X c t):PTs X [c] t:=fun J1 s σ H Q I U=>wpAny_tests_one (h J1 s σ H Q I U)
def Wk(a b:St):Prop:=a.length=b.length/\∀(i:Nat) v,a[i]?=ς (ς v)->b[i]?=ς (ς v)
def lV(src:η (ζ Nat))(wi:TI)(g:TG)(tt:TT)(te:TE):TE:=fun σ H Q=>wi σ H fun J H1=>∀D,H1 D=ψ->∃W:Nat->Nat->Hp->Prop,(∃m,W 0 m (upd H1 D (.e [])))/\∀i m H,W i m H→
 (J.stop i H/\Q (.ref D) H)∨(J.go i H/\∃N:Hp->Prop,(∀H',N H'->∃Z,Z<m/\W (i+1) Z H')/\∀x H',J.yld i H x H'→
  g x (stC src σ) H' fun U H2=>Wk (stC src σ) U/\tt U H2 fun b Y=>if b=θ then te U Y fun v H4=>∃ys,H4 D=ς (.e ys)/\ys.length<qb2/\N (upd H4 D (.e (ys++[v])))else N Y)
variable{w:Ja}{pos:Pos}
theorem qm{prog:qc5}{R:zn1->qa3->Prop}{elt U iter:Jc}{ifs:η Jc}{it J5:Value}(I:Nat->qa3->Prop)
 (turn:∀n s,I n s->wpAny (model prog w) A (qp9 it) (fun r Y=>match r with
 |none=>R (.ok .next) Y
 |some v=>wpAny (model prog w) A (qy9 U it v) (fun _ W=>wpAny (model prog w) A (zb4 U env v) (fun _ Z=>
 wpAny (model prog w) A (forIn ifs θ fun c r=>if r=θ then do let ok <- isTrue c env (eval c env);pure (qq9 ok)else pure (qq9 r)) (fun ok s₃ =>
 if ok=θ then wpAny (model prog w) A (eval elt env) (fun x s₄ =>
 wpAny (model prog w) A (call (.builtin "list.append") [J5,x]) (fun _ s₅=>∃m,m<n/\I m s₅) (fun _ _=>False) s₄) (notedBy (model prog w) A env fun e s'=>R (.error e) s') s₃
 else ∃m,m<n/\I m s₃) (fun _ _=>False) Z) (fun _ _=>False) W) (fun _ _=>False) Y) (fun _ _=>False) s)
 (n:Nat) (h:I n s) :
  qq7 (model prog w) A (.compLoop (.ListComp elt [⟨U,iter,ifs,0⟩] scope pos) 0 it J5 env) R s:=by
 refine codeAny_loop rfl I (fun n s hI=>?_) n h;show wpAny _ A ((compTurn (.ListComp elt [⟨U,iter,ifs,0⟩] scope pos) 0 it J5 env).onRaise (fun x=>do noteFrame x env;theTreesLotGoes x)) _ _ s;refine wpAny_noted ?_;rw[compTurn_list];refine wB (zj8 (wB (ql9 (turn n s hI) (fun r Y h₁=>?_) fun _ _ h'=>h'.elim)));cases r with
 |none=>exact qa2 h₁
 |some v=>
  refine wB (ql9 h₁ (fun _ W h₁'=>?_) fun _ _ h'=>h'.elim);refine wB (ql9 h₁' (fun _ Z h₂=>wB (ql9 h₂ (fun ok s₃ h₃=>?_) fun _ _ h'=>h'.elim)) fun _ _ h'=>h'.elim);cases ok with
  |false=>exact qa2 ⟨rfl,h₃⟩
  |true=>exact wB (wB (ql9 h₃ (fun x s₄ h₄=>wB (ql9 h₄ (fun _ s₅ h₅=>qa2 (qa2 ⟨rfl,h₅⟩)) fun _ _ h'=>h'.elim)) fun _ _ h'=>h'))
variable{J1:η (J9×Obj)}{σ:St}{Q:VK}{cpos:Pos}{QQ:Value->qa3->Prop}{use:ζ (Value->Sem Unit)}
section
variable{X:Cx}{elt tg iter:Jc}{ifs:η Jc}{scope:Jd}{pos:Pos}{M:η Str}{src:η (ζ Nat)}{wi:TI}{g:TG}{tt:TT}{te:TE}
theorem mZ(hn:∀y∈scope.names,y.2≠.cell)(h:(relabel scope env).names.lookup x=ς .cell∨(relabel scope env).names.lookup x=ς .free):(x,qe9)∈scope.names:=by
 have U:∀k,(relabel scope env).names.lookup x=ς k->(k=.cell∨k=.free)->(x,qe9)∈scope.names:=by
  intro k hk W;have hm:=PySem.mem_of_lookup hk;unfold relabel at hm;obtain⟨⟨n,k0⟩,Y,e⟩:=qc8.mp hm;dsimp only at e;split at e
  .rename_i Z;simp only[qa9]at Z;have:k0=.free:=by simpa using Z.1.1
   subst this;cases e;exact Y
  .cases e;rcases W with z|z
   .subst z;exact absurd rfl (hn _ Y)
   .subst z;exact Y
 rcases h with h|h
 .exact U _ h (.inl rfl)
 .exact U _ h (.inr rfl)
theorem v4{s1:qa3}{fp:η J9}{m1:Str->ζ Value}(S:CmpScope X.N X.env.scope scope M src)(I:Inv X J1 σ H s)(hf:∀b∈fp,e9 X J1 H b)
 (hfl:∀b∈fp,b<s.heap.objs.size) (hn:s1.heap.Ns s.heap.objs.size m1) (hk:∀b o,s.heap.get? b=ς o->s1.heap.get? b=ς o) (hos:s1.os=s.os) (hg:s1.gens=s.gens) :
  Inv (cxC X M scope s.heap.objs.size s H fp) [] (stC src σ) H s1:=by
 have hcells:∀x∈scope.names,x.2=.free->∃c,X.env.cells.lookup x.1=ς c:=fun x hx W=>I.ok.has x.1 (S.free x hx W)
 have U:∀x c,(fU scope.names X.env.cells).lookup x=ς c->X.env.cells.lookup x=ς c:=fun x c h=>jj hcells h
 have Z:∀c v,s.heap.IsCell c v->s1.heap.IsCell c v:=fun c v ⟨o,ho,hd⟩=>⟨o,hk c o ho,hd⟩
 refine⟨⟨I.ok.mod,S.kind,I.ok.glob,I.ok.blt,nL _,fun y z c h1 h2=>I.ok.inj y z c (U _ _ h1) (U _ _ h2),fun x hx=>oG (mZ S.nocell hx),fun x c h=>(nomatch h),I.ok.hd,I.ok.frames,.inl rfl,
  fun b hb=>⟨qb8 (hfl b hb),fun x c h=>(hf b hb).2.2.2.2.1 x c (U _ _ h)⟩,I.bs,qc0 I.ok.bsz I.sz,fun b o e hb=>?_,fun b hb z=>?_,I.stack,I.stkFree,fun p hp=>I.base.cts _ _ (I.ok.tb p hp)⟩,
  hos,(by rw[hg];exact I.bare),Un.kept hk,⟨m1,hn,fun i x v h1 h2 h3=>?_⟩,fun x c h=>?_,I.hok.fresh (qn6 _),fun x c h=>I.freeC x c (U _ _ h),fun p hp=>absurd hp (by simp[cxC]),I.hok.kept hk,?_⟩
 .rcases(hf b hb).2.2.2.1 with z|z
  .exact I.ok.noex b o e z
  .exact absurd (qc2 (qb0 e) (qc0 I.ok.bsz z)) (qk4 _)
 .rcases qa5.mp (I.stkSub b z)with q|q
  .exact(hf b hb).2.1 q
  .exact(hf b hb).2.2.1 q
 . -- a name taken over
   have h1:M[i]?=ς x:=h1;unfold stC at h2;rw[qb3]at h2;cases hs:src[i]? with
   |none=>rw[hs]at h2;cases h2
   |some o=>
    rw[hs]at h2;simp only[qo2,qv6]at h2;cases o with
    |none=>cases h2
    |some j=>
     simp only[qa6]at h2
     have hmem:(x,ς j)∈M.zip src:=by
      have:(M.zip src)[i]?=ς (x,ς j):=by rw[qs6];exact⟨h1,hs⟩
      exact qc7 this
     obtain⟨hN,W⟩:=S.src _ hmem j rfl
     have hσ:σ[j]?=ς (ς v):=by
      cases e:σ[j]? with
      |none=>rw[e]at h2;cases h2
      |some o=>rw[e]at h2;simp only[qt2]at h2;rw[h2]
     have Y:=S.free _ W rfl;obtain⟨m,hm,hl⟩:=I.loc;obtain⟨u,r,l⟩:=hl j x v hN hσ (.inr Y);refine⟨u,r,?_⟩
     have hloc:X.env.kindOf x≠ς .local:=by show X.env.scope.names.lookup x≠_;rcases Y with q|q<;>rw[q]<;>decide
     rcases l with l|⟨_,c,e,z⟩
     .exact absurd l.1 hloc
     .obtain⟨c',e'⟩:=oG (cells:=X.env.cells) W;have:=U _ _ e';rw[e]at this;cases this;refine .inr ⟨?_,c,e',Z _ _ z⟩;rcases h3 with q|q
      .exact absurd q (by
        -- a name that is free in the block is not local there
        exact(by
         intro q
         have:scope.names.lookup x=ς .local:=by
          have hb:∀(names:η (Str×qq6)),(names.map fun(n,k)=>if(k==qe9&&X.env.scope.kind==.function&&X.env.kindOf n==ς .cell)then(n,qq6.cell)else(n,k)).lookup x=ς .local->names.lookup x=ς .local:=by
           intro names;induction names with
           |nil=>intro h;simp at h
           |cons y r ih=>
            obtain⟨n,k⟩:=y;intro h;simp only[qa4]at h;by_cases hx:x=n
            .subst hx;split at h
             .simp[qh1]at h
             .simpa[qh1] using h
            .have hx':(x==n)=ξ:=by simpa using hx
             split at h
             .simp only[qh1,hx']at h ⊢;exact ih h
             .simp only[qh1,hx']at h ⊢;exact ih h
          exact hb _ q
         rw[S.lf _ W rfl]at this;cases this))
      .exact q
 .obtain⟨v,z⟩:=I.cell x c (U _ _ h);exact⟨v,Z _ _ z⟩
 .show(stC src σ).length=M.length;unfold stC;rw[qa1,S.len]
theorem ug{use:ζ (Value->Sem Unit)}(S:CmpScope X.N X.env.scope scope M src)(hc:X.calm=θ)(hi:PI X tg iter wi)(hg:M.Nodup->∀C s H ex,PG (cxC X M scope C s H ex) tg g)(ht:∀C s H ex,PTs (cxC X M scope C s H ex) ifs tt)
 (he:∀(U:qa3)(H3:Hp)(fp:η J9)(J5:Value)(pl:η (J9×Obj))(σ8:St)(H9:Hp)(s9:qa3)(Q':VK),Inv X J1 σ H3 U->(∀b∈fp,e9 X J1 H3 b)->Inv (cxC X M scope U.heap.objs.size U H3 fp) pl σ8 H9 s9->te σ8 H9 Q'→
 wpAny (model X.prog X.w) X.A (eval elt (cxC X M scope U.heap.objs.size U H3 fp).env) (EP (cxC X M scope U.heap.objs.size U H3 fp) pl σ8 Q') (notedBy (model X.prog X.w) X.A (cxC X M scope U.heap.objs.size U H3 fp).env (fun e s'=>zk4 (model X.prog X.w) X.A X.xe use QQ J5 U.heap.objs.size (.error e) s')) s9) (hs:∀x,qi6 iter X.env x=pure x) (I:Inv X J1 σ H s) (h:lV src wi g tt te σ H Q)
 (hfin:∀(D C:J9)(H':Hp)(s':qa3)(m:Str->ζ Value),Inv X J1 σ H' s'->e9 X J1 H' C->s'.heap.Ns C m->Q (.ref D) H'->zk4 (model X.prog X.w) X.A X.xe use QQ (.ref D) C (.ok .next) s') :
  wpAny (model X.prog X.w) X.A (zk5 (.ListComp elt [⟨tg,iter,ifs,0⟩] scope pos) scope X.env cpos (newList []) ξ (eval iter X.env) use) QQ X.xe s:=by
 have hcells:∀x∈scope.names,x.2=.free->∃c,X.env.cells.lookup x.1=ς c:=fun x hx hfr=>I.ok.has x.1 (S.free x hx hfr)
 refine wpAny_comprehension_free (use:=use) rfl hs (j8 hcells) S.kind S.names (thn (hi J1 s σ H _ I h) fun v s1 h1=>thn h1 fun itv s2 h2=>?_);obtain⟨it,fp,tn,J,H2,rfl,I2,T,st2,f2,hq⟩:=h2;refine qd7 ?_;have I3:Inv X J1 σ (upd H2 s2.heap.objs.size (.e [])) {s2 with heap:=s2.heap.push {cls:=.type "list",dict:=ψ,data:=.seq ([]:η Value).toArray},toks:=s2.toks}:=I2.lnew (J8:=[]) (ys:=[]) (t':=s2.toks) .nil Ξ;have hD:H2 s2.heap.objs.size=ψ:=I2.fresh;obtain⟨W,⟨m0,w0⟩,turn⟩:=hq _ hD;generalize hDn:s2.heap.objs.size=D at*
 generalize hs3:({s2 with heap:=s2.heap.push {cls:=.type "list",dict:=ψ,data:=.seq ([]:η Value).toArray},toks:=s2.toks}:qa3)=U at*
 have f3:∀b∈fp,e9 X J1 (upd H2 D (.e [])) b:=fun b Z=>⟨by obtain⟨o,e,_⟩:=T.obj _ _ st2 b Z;rw[aq (by rw[<- hDn];exact qb8 (qb0 e))];exact(f2 b Z).1,(f2 b Z).2⟩
 have k23:∀b o,s2.heap.get? b=ς o->U.heap.get? b=ς o:=fun b o e=>by rw[<- hs3];exact gP _ e
 have st3:tn 0 U.heap:=T.keep _ _ _ st2 fun b _ o e=>k23 b o e
 have fl3:∀b∈fp,b<U.heap.objs.size:=fun b Z=>by obtain⟨o,e,_⟩:=T.obj _ _ st3 b Z;exact qb0 e
 refine wpAny_newFunctionEnv S.nocell (by intro y hy;simp at hy) (fun h₁ hns₁ hsb₁=>?_) S.kind;have k34:∀b o,U.heap.get? b=ς o->h₁.get? b=ς o:=fun b o e=>hsb₁.extBut b o (qb8 (qb0 e)) (gP _ e)
 generalize hs4:({U with heap:=h₁,toks:=U.toks+([]:η (Str×Value)).length}:qa3)=s4
 have I4:Inv (cxC X M scope U.heap.objs.size U (upd H2 D (.e [])) fp) [] (stC src σ) (upd H2 D (.e [])) s4:=by rw[<- hs4];exact v4 S I3 f3 fl3 hns₁ k34 rfl rfl
 have st4:tn 0 s4.heap:=T.keep _ _ _ st3 fun b _ o e=>by rw[<- hs4];exact k34 b o e
 generalize Y:cxC X M scope U.heap.objs.size U (upd H2 D (.e [])) fp=X' at*
 have hg':PG X' tg g:=by rw[<- Y];exact hg S.nd _ _ _ _
 have ht':PTs X' ifs tt:=by rw[<- Y];exact ht _ _ _ _
 have eP:X'.prog=X.prog:=by rw[<- Y];rfl
 have eW:X'.w=X.w:=by rw[<- Y];rfl
 have eK:X'.K=X.K:=by rw[<- Y];rfl
 have eA:X'.A=X.A:=by rw[<- Y];rfl
 have ex':X'.xe=fun _ _=>False:=by rw[<- Y];rfl
 have ec:X'.calm=θ:=by rw[<- Y];exact hc
 have eE:X'.env=compEnvC scope (fU scope.names X.env.cells) U.heap.objs.size X.env:=by rw[<- Y];rfl
 have stat:∀{H':Hp},(∀b∈fp,H' b=ψ)->∀b∈fp,e9 X' [] H' b:=fun hn b Z=>by
  rw[<- Y];refine⟨hn b Z,qb8 (fl3 b Z),fun z=>?_,.inl Z,fun x c h=>(f3 b Z).2.2.2.2.1 x c (jj hcells h),fun p hp=>absurd hp (by simp[cxC])⟩;rcases qa5.mp (I3.stkSub b z)with q|q
  .exact(f3 b Z).2.1 q
  .exact(f3 b Z).2.2.1 q
 -- behind the block
 have fin:∀(H':Hp)(s':qa3),Inv X' [] (stC src σ) H' s'->Q (.ref D) H'->zk4 (model X.prog X.w) X.A X.xe use QQ (.ref D) U.heap.objs.size (.ok .next) s':=by
  intro H' s' J' q;rw[<- Y]at J';obtain⟨m,hn,_⟩:=id J'.loc;have hC:H' U.heap.objs.size=ψ:=J'.free;have un:Un (frs X.stack) fp (upd H2 D (.e [])) H' U.heap s'.heap:=J'.base;have IA:Inv X J1 σ H' s':=I3.call' (s':=s') (show s'.os=U.os from J'.os) un J'.hok J'.bare fun b Z=>⟨(f3 b Z).2.2.2.1,(f3 b Z).2.1,(f3 b Z).2.2.2.2.1,(f3 b Z).2.2.2.2.2⟩
  exact hfin D _ H' s' m IA (I3.fpOk (nL _) hC) hn q
 have loop:∀s4':qa3,s4'=s4->qq7 (model X.prog X.w) X.A (.compLoop (.ListComp elt [⟨tg,iter,ifs,0⟩] scope pos) 0 (.ref it) (.ref D) X'.env) (zk4 (model X.prog X.w) X.A X.xe use QQ (.ref D) U.heap.objs.size) s4':=by
  rintro _ rfl;refine qm (fun n s'=>∃i H',Inv X' [] (stC src σ) H' s'/\tn i s'.heap/\(∀b∈fp,H' b=ψ)/\W i n H') ?_ m0 ⟨0,_,I4,st4,fun b Z=>(f3 b Z).1,w0⟩;rintro n s5 ⟨i,H5,I5,st5,fr5,w5⟩;rcases turn i n H5 w5 with ⟨stop,qn⟩|⟨go,N,hN,step⟩
  .have:=T.done X' eP eW eK ec i [] s5 (stC src σ) H5 (fun _ _=>False) I5 (stat fr5) st5 stop;rw[eA]at this;refine thn this fun r s6 ⟨hr,I6⟩=>?_
   subst hr;exact fin H5 s6 I6 qn
  .have:=T.item X' eP eW eK ec i [] s5 (stC src σ) H5 (fun _ _=>False) I5 (stat fr5) st5 go;rw[eA]at this;refine thn this fun r s6 ⟨u,hr,h6⟩=>?_
   subst hr;refine thn h6 fun _ s7 ⟨x,H7,I7,r7,y7,st7,fr7⟩=>?_
   have I7':=I7.pinned (stat fr7) (T.obj _ _ st7);have a1:=hg' _ s7 (stC src σ) H7 x u _ I7' r7 (step x H7 y7);rw[ex',eP,eW,eA]at a1;refine thn a1 fun _ s8 ⟨σ8,H8,I8,wk8,q8⟩=>?_
   have a2:=ht' _ s8 σ8 H8 _ I8 q8;rw[ex',eP,eW,eA]at a2;refine thn a2 fun ok s9 ⟨H9,I9,q9⟩=>?_
   have again:∀{H7':Hp}{s':qa3},Inv X' ([]++iM fp s7.heap) σ8 H7' s'->N H7'->∃m,m<n/\∃i H',Inv X' [] (stC src σ) H' s'/\tn i s'.heap/\(∀b∈fp,H' b=ψ)/\W i m H':=fun {H7' s'} J7 n7=>by obtain⟨m',hm,w7⟩:=hN H7' n7;refine⟨m',hm,i+1,H7',J7.unpinned.weak wk8.1 wk8.2,T.keep _ _ _ st7 fun b Z o e=>(J7.pin (b,o) (qe2 _ (qe2 _ (fg Z e)))).1,fun b Z=>?_,w7⟩;obtain⟨o,e,d⟩:=T.obj _ _ st7 b Z;exact(J7.pin (b,o) (qe2 _ (qe2 _ (fg Z e)))).2.1
   cases ok with
   |false=>exact again I9 q9
   |true=>
    have I9':Inv (cxC X M scope U.heap.objs.size U (upd H2 D (.e [])) fp) ([]++iM fp s7.heap) σ8 H9 s9:=by rw[Y];exact I9
    have a3:=he U (upd H2 D (.e [])) fp (.ref D) _ σ8 H9 s9 _ I3 f3 I9' q9;rw[Y]at a3;refine thn a3 fun v s10 ⟨y,H10,I10,r10,ys,hl,hz,q10⟩=>?_
    have a4:=lO (X:=X') _ s10 σ8 H10 (.ref D) [y] (.ref D) [v] (fun _ H'=>N H') I10 rfl (.cons r10 .nil) ⟨D,ys,y,rfl,rfl,hl,hz,q10⟩;rw[ex',eP,eW,eA]at a4;refine thn a4 fun _ s11 ⟨_,H11,I11,_,q11⟩=>?_
    exact again I11 q11
 have e4:∀c:Env,c=X'.env->qq7 (model X.prog X.w) X.A (.compStart (.ListComp elt [⟨tg,iter,ifs,0⟩] scope pos) 0 (.ref it) (.ref D) c) (zk4 (model X.prog X.w) X.A X.xe use QQ (.ref D) U.heap.objs.size) s4:=by rintro _ rfl;exact codeAny_compStart_list (loop _ rfl) (T.self _ _ _ _ _ st4 (loop _ rfl))
 exact e4 _ (by rw[eE];rfl)
theorem lW(S:CmpScope X.N X.env.scope scope M src)(hc:X.calm=θ)(hi:PI X tg iter wi)(Z:M.Nodup->∀C s H ex,PG (cxC X M scope C s H ex) tg g)(ht:∀C s H ex,PTs (cxC X M scope C s H ex) ifs tt)
 (he:∀C s H ex,PE (cxC X M scope C s H ex) elt te) (hs:∀x,qi6 iter X.env x=pure x) (I:Inv X J1 σ H s) (h:lV src wi g tt te σ H Q)
 (U:∀(D C:J9)(H':Hp)(s':qa3)(m:Str->ζ Value),Inv X J1 σ H' s'->e9 X J1 H' C->s'.heap.Ns C m->Q (.ref D) H'->zk4 (model X.prog X.w) X.A X.xe use QQ (.ref D) C (.ok .next) s') :
  wpAny (model X.prog X.w) X.A (zk5 (.ListComp elt [⟨tg,iter,ifs,0⟩] scope pos) scope X.env cpos (newList []) ξ (eval iter X.env) use) QQ X.xe s:=
 ug S hc hi Z ht (fun s3 H3 fp J5 Y W H9 s9 Q' _ _ J q=>ql9 (he _ _ _ _ Y s9 W H9 Q' J q) (fun _ _ x=>x) fun _ _ x=>qg9 x) hs I h U
theorem Inv.but{C:J9}{h3:Heap}(I2:Inv X J1 σ H s)(W:e9 X J1 H C)(sb3:qg2 C s.heap h3):Inv X J1 σ H {s with heap:=h3}:=by
 have Z:∀b o,b≠C->s.heap.get? b=ς o->h3.get? b=ς o:=fun b o U e=>sb3.extBut b o U e
 have nm:∀{b:J9},b∉[C]->b≠C:=fun U z=>U (by rw[z];exact qe7)
 refine I2.call' (s':={s with heap:=h3}) (ch:=[C]) rfl ⟨fun b o e n U Y=>Z b o (nm Y) e,fun b o e n U Y=>⟨o.slots,Z b o (nm Y) e⟩,fun b o e n Y=>n,fun b o e Y=>⟨o,Z b o (nm Y) e⟩,fun b xs e=>e,fun b o u e=>e,fun b ps e=>⟨#[],by rw[Array.append_empty];exact e⟩,fun b qs e=>e⟩ ?_ I2.bare fun b U=>?_
 .intro b u e;have nb:b≠C:=fun z=>by rw[z,W.1]at e;cases e
  refine(I2.hok b u e).stay (fun c v hc' q=>Z c v ?_ q) (fun _ q=>q) (fun _ _ q=>q) fun _ _ _ q=>q
  rcases hc' with z|z
  .rw[z];exact nb
  .intro w;rw[w,W.1]at z;cases z
 .cases qb1.mp U;exact⟨W.2.2.2.1,W.2.1,W.2.2.2.2.1,W.2.2.2.2.2⟩
theorem v6 (S:CmpScope X.N X.env.scope scope M src) (hc:X.calm=θ) (hi:PI X tg iter wi) (W:M.Nodup->∀ C s H ex,PG (cxC X M scope C s H ex) tg g) (ht:∀ C s H ex,PTs (cxC X M scope C s H ex) ifs tt)
  (he:∀C s H ex,PE (cxC X M scope C s H ex) elt te) (hs:∀x,qi6 iter X.env x=pure x:=by intro _;rfl) :
  PE X (.ListComp elt [⟨tg,iter,ifs,0⟩] scope pos) (lV src wi g tt te):=by
 intro J1 s σ H Q I h;rw[eval_ListComp];exact lW (use:=ψ) S hc hi W ht he hs I h fun D C H' s' m Y hC Z q=>⟨m,Z,fun h' U=>⟨.ref D,H',Y.but hC U,rfl,q⟩⟩
end
def Its(x:Str):It:=⟨fun i _=>i<x.cps.size,fun i H v H'=>H'=H/\∃c,x.cps[i]?=ς c/\v=.str ⟨#[c]⟩,fun i _=>i=x.cps.size⟩
variable{P:qc5}{tg:Jc}
theorem uh(x:Str)(t:Tok)(it:J9):Turn P w K tg (Its x) [it] it (fun i h=>h.IsStrIter it "str_ascii_iterator" x t i) where
 mem:=by simp
 obj:=fun i h st b W=>by
  have e:b=it:=by simpa using W
  subst e;obtain⟨o,e,c,d⟩:=st;exact⟨o,e,fun v z=>by rw[d]at z;cases z⟩
 keep:=fun i h h' st k=>let ⟨o,ho,r⟩:=st;⟨o,k it Ξ o ho,r⟩
 item:=by
  intro X hP hw hK hc i J1 s σ H E I Z st U;subst hP hw hK;obtain⟨f0,f1,f2,f3,f4,f5⟩:=Z it Ξ;have U:i<x.cps.size:=U;refine wpAny_pyNext_ascii_item st (c:=x.cps[i]) (by simp[U]) fun h' Y sb=>?_
  have I1:Inv X J1 σ H {s with heap:=h',toks:=s.toks+1}:=I.turned (t':=s.toks+1) (fun b o W e=>(sb.2 b W).trans e) f0 f1 f3 f4 f5;obtain⟨o,e,c,d⟩:=id Y;exact⟨_,rfl,lK (s:={s with heap:=h',toks:=s.toks+1}) e c d Ω ⟨.str ⟨#[x.cps[i]]⟩,H,I1,⟨_,rfl⟩,⟨rfl,x.cps[i],by simp[U],rfl⟩,Y,fun b W=>(Z b W).1⟩⟩
 done:=by intro X hP hw hK hc i J1 s σ H E I Z st U;subst hP hw hK;have U:i=x.cps.size:=U;obtain⟨f0,f1,f2,f3,f4,f5⟩:=Z it Ξ;exact wpAny_pyNext_ascii_end (I.ok.hd hc) st (by simp[U]) fun h' eb=>⟨rfl,I.turned (t':=s.toks) (fun b o W e=>eb b o W e) f0 f1 f3 f4 f5⟩
 self:=fun _ _ _ _ _ st h=>wpAny_pyIter_striter_ascii st h
theorem ui(x:Str)(t:Tok)(it:J9):Turn P w K tg (Its x) [it] it (fun i h=>h.IsStrIter it "str_iterator" x t i) where
 mem:=by simp
 obj:=fun i h st b W=>by
  have e:b=it:=by simpa using W
  subst e;obtain⟨o,e,c,d⟩:=st;exact⟨o,e,fun v z=>by rw[d]at z;cases z⟩
 keep:=fun i h h' st k=>let ⟨o,ho,r⟩:=st;⟨o,k it Ξ o ho,r⟩
 item:=by
  intro X hP hw hK hc i J1 s σ H E I Z st U;subst hP hw hK;obtain⟨f0,f1,f2,f3,f4,f5⟩:=Z it Ξ;have U:i<x.cps.size:=U;refine wpAny_pyNext_wide_item st (c:=x.cps[i]) (by simp[U]) fun h' Y sb=>?_
  have I1:Inv X J1 σ H {s with heap:=h',toks:=s.toks+1}:=I.turned (t':=s.toks+1) (fun b o W e=>(sb.2 b W).trans e) f0 f1 f3 f4 f5;obtain⟨o,e,c,d⟩:=id Y;exact⟨_,rfl,lK (s:={s with heap:=h',toks:=s.toks+1}) e c d Ω ⟨.str ⟨#[x.cps[i]]⟩,H,I1,⟨_,rfl⟩,⟨rfl,x.cps[i],by simp[U],rfl⟩,Y,fun b W=>(Z b W).1⟩⟩
 done:=by intro X hP hw hK hc i J1 s σ H E I Z st U;subst hP hw hK;have U:i=x.cps.size:=U;obtain⟨f0,f1,f2,f3,f4,f5⟩:=Z it Ξ;exact wpAny_pyNext_wide_end (I.ok.hd hc) st (by simp[U]) fun h' eb=>⟨rfl,I.turned (t':=s.toks) (fun b o W e=>eb b o W e) f0 f1 f3 f4 f5⟩
 self:=fun _ _ _ _ _ st h=>wpAny_pyIter_striter_wide st h
section
variable{X:Cx}{tg:Jc}
def iStr(tl:TE):TI:=fun σ H R=>tl σ H fun v H1=>∃x,v=.str x/\R (Its x) H1
theorem v7{l:Jc}{tl:TE}(Y:PE X l tl):PI X tg l (iStr tl):=by
 intro J1 s σ H R I h;refine thn (Y J1 s σ H _ I h) fun v s1 ⟨y,H1,U,r1,q1⟩=>?_
 obtain⟨x,e,q⟩:=q1;subst e;obtain⟨t,rfl⟩:=r1
 have fin:∀b∈[s1.heap.objs.size],e9 X J1 H1 b:=fun b Z=>by
  have e:b=s1.heap.objs.size:=by simpa using Z
  subst e;exact U.fpOk (nL _) (U.hok.fresh (nL _))
 cases W:x.cps.all (· < 128)
 .refine wpAny_pyIter_wide W ?_;exact⟨s1.heap.objs.size,[s1.heap.objs.size],_,_,H1,rfl,U.kept (t':=s1.toks) fun b o e=>gP _ e,ui x t _,⟨_,qa7 _ rfl,rfl,rfl⟩,fin,q⟩
 .refine wpAny_pyIter_ascii W ?_;exact⟨s1.heap.objs.size,[s1.heap.objs.size],_,_,H1,rfl,U.kept (t':=s1.toks) fun b o e=>gP _ e,uh x t _,⟨_,qa7 _ rfl,rfl,rfl⟩,fin,q⟩
theorem j9:∀{bs:η Bool}{us:η Value},Vals (bs.map V.bl) us->us=bs.map qy1
 |[],_,.nil=>rfl
 |b::r,_,.cons h t=>by have h:_=qy1 b:=h;rw[h,j9 t];rfl
theorem uj{bs:η Bool}:(qb7 bs.length).map (fun i=>bs.getD i ξ)=bs:=by
 apply qw8
 .simp
 .intro i h1 h2;simp at h1;simp[h1]
theorem oH(hc:X.calm=θ):cz X (.builtin "any") (fun xs H Q=>∃(a:J9)(bs:η Bool),xs=[.ref a]/\SqL X.K H a (bs.map V.bl)/\Q (.bl (bs.any id)) H):=by
 intro J1 s σ H xs us Q I r h;obtain⟨a,bs,rfl,hq,q⟩:=h;obtain⟨u,rfl,Z⟩:=fK r;cases Z;obtain⟨J8,rv,p,hz⟩:=I.list hq;have eu:=j9 rv;subst eu
 have Y:a≠s.heap.objs.size:=by obtain⟨o,n,e,_⟩:=p;exact qb8 (qb0 e)
 refine call_any_walk (qo7 p.isList ⟨s.heap.objs.size,_,_,_,_,_,fun i=>bs.getD i ξ,rfl,Walks.list (A:=X.A.in1) (I.ok.hd hc) _ a Y (bs.map qy1).toArray,⟨⟨_,qa7 _ rfl,rfl,rfl⟩,?_⟩,?_,?_⟩)
 .obtain⟨o,ho,hr⟩:=p.isList;exact⟨o,gP _ ho,hr⟩
 .intro i v s' Q' E' U W;rw[List.getElem?_toArray,qb3]at U;cases e:bs[i]? with
  |none=>rw[e]at U;cases U
  |some b=>rw[e]at U;cases U;refine qo4 ?_;dsimp only at W;rw[qb4,e]at W;exact W
 .intro h' tk hk;refine⟨.bl _,H,I.kept (h':=h') (t':=tk) fun b o e=>hk b o (fun z=>?_) (gP _ e),rfl,?_⟩
  .have z:b=s.heap.objs.size:=by simpa using z
   subst z;exact absurd (qb0 e) (qk4 _)
  .have e:(qb7 (bs.map qy1).toArray.size).any (fun i=>bs.getD i ξ)=bs.any id:=by
    conv=>rhs;rw[<- uj (bs:=bs)]
    rw[List.any_map];simp
   rw[e];exact q
theorem sf{v:Value}{o:ζ Int}(h:zl8 v o):∃p:ζ (Int×Tok),v=partValue p/\o=p.map (·.1):=by
 cases o with
 |none=>exact⟨ψ,by cases h<;>rfl,rfl⟩
 |some i=>cases h;exact⟨ς (i,_),rfl,rfl⟩
def rSlS:V->ζ Int->ζ Int->Hp->VK->Prop:=fun x lo hi H Q=>∃z,x=.str z/\z.length<=qb2/\Q (.str (Txt.slice z lo hi)) H
theorem C5:SlR X rSlS:=by intro J1 s σ H x v vl vu lo hi sl Q I U W pl Y h;obtain⟨z,rfl,Z,q⟩:=h;obtain⟨t,rfl⟩:=U;obtain⟨l,rfl,rfl⟩:=sf pl;obtain⟨u,rfl,rfl⟩:=sf Y;refine⟨"str",_,F.slot_str_getitem.lookup,typeIs_str _ _ _,?_⟩;exact wpAny_getItem_str_slice (l:=l) (u:=u) (st:=ψ) W rfl (post_val_or_str ⟨qc0 (Txt.slice_le z _ _) Z,fun t' k=>⟨.str _,H,I.tok _,⟨_,rfl⟩,q⟩⟩)
end
theorem C6:qe0 "len"=ς (.builtin "len"):=by first|exact PySem.boot_len|exact PyProof.Rows.boot_len|decide +kernel
theorem v8:qe0 "any"=ς (.builtin "any"):=by first|exact PySem.boot_any|exact PyProof.Rows.boot_any|decide +kernel
theorem lv:qe0 "isinstance"=ς (.builtin "isinstance"):=by first|exact PySem.boot_isinstance|exact PyProof.Rows.boot_isinstance|decide +kernel
theorem wa:qe0 "min"=ς (.builtin "min"):=by first|exact PySem.boot_min|exact PyProof.Rows.boot_min|decide +kernel
theorem C7:qe0 "str"=ς (.type "str"):=by first|exact PySem.boot_str|exact PyProof.Rows.boot_str|decide +kernel
theorem zG:qe0 "bool"=ς (.type "bool"):=by first|exact PySem.boot_bool|exact PyProof.Rows.boot_bool|decide +kernel
theorem f7:qe0 "tuple"=ς (.type "tuple"):=by first|exact PySem.boot_tuple|exact PyProof.Rows.boot_tuple|decide +kernel
theorem ib:qe0 "list"=ς (.type "list"):=by first|exact PySem.boot_list|exact PyProof.Rows.boot_list|decide +kernel
theorem zH:qe0 "dict"=ς (.type "dict"):=by first|exact PySem.boot_dict|exact PyProof.Rows.boot_dict|decide +kernel
theorem m6:qe0 "enumerate"=ς (.type "enumerate"):=by first|exact PySem.boot_enumerate|exact PyProof.Rows.boot_enumerate|decide +kernel
theorem C8:qe0 "zip"=ς (.type "zip"):=by first|exact PySem.boot_zip|exact PyProof.Rows.boot_zip|decide +kernel
structure OkF(P:qc5)(w:Ja)(K:xA9)(mg:Str->Option Value)(base:Heap)(x:Str)(k:Nat)(ps:List Str)(sp:Sp):Prop where
 ex:∃f fd,mg x=ς (.ref f)/\xF9 K (.ref f)=θ/\Binds K fd ps []/\FnOk P w K mg base CX0 k f fd ps sp
structure DefF(K:xA9)(mg:Str->Option Value)(x:Str)(st:Jb)(ps:List Str):Prop where
 ex:∃f fd,mg x=ς (.ref f)/\xF9 K (.ref f)=θ/\Binds K fd ps []/\Fun K x x st f fd
section
variable{P:qc5}{w:Ja}{K:xA9}{mg:Str->ζ Value}{base:Heap}
theorem DefF.ok{k:Nat}(F:DefF K mg x st ps)(S:FnScope N ps (ab st))(len:∀vs H Q E,sp vs H Q E->vs.length=ps.length)
 (U:∀(f:J9)(cdv:Value)(A:qe1)(outer:η Env)(s:qa3)(H:Hp)(vs:η V)(Q:VK)(E:XK),Room k (A.deeper (zb5 x (ab st) s.heap.objs.size f cdv))->sp vs H Q E→
 ∃t,PSs (j5 CX0 P w K mg base N x (ab st) f cdv A outer s H E).nox (aF st) t/\t {nx:=fun _ H'=>Q .non H',rt:=Q} (start N vs) H):OkF P w K mg base x (k+1) ps sp:=by
 obtain⟨f,fd,h1,h2,h3,W⟩:=F.ex;exact⟨f,fd,h1,h2,h3,W.ok S len (U f)⟩
theorem DefF.mk'{kV ct:Value}{h:Heap}(X:K.In h)(G:h.Ns qc1 mg)
 (a:xB9 K qc1 x=ς (ς (.ref f)))
 (l:K.lookup f=ς ⟨oc,od,.func (xC9 x x (bJ st) (aF st) (ab st) .none kV doc pm an cdv ct),osl⟩) (c:xH9 K cdv x=θ) (k:xF9 K (.ref f)=θ)
 (U:∀(kV doc pm:Value)(an:ζ J9)(cdv ct:Value)(us:η Value),us.length=ps.length->zk2 (xC9 x x (bJ st) (aF st) (ab st) .none kV doc pm an cdv ct) ⟨us,[]⟩=pure (ps.zip us)):DefF K mg x st ps:=
 ⟨f,_,xI9 X G a,k,(mY l c k).binds U,mY l c k⟩
end
section
variable{X:Cx}{k:Nat}{ps:η Str}{sp:Sp}{x:Str}{p pos:Pos}{e:Jc}{es:η Jc}{t:TA}
theorem wb (F:OkF X.prog X.w X.K X.mg X.base x k ps sp) (hr:Room k X.A) (hg:Gl X x) (Y:PA X (e::es) t) (W:(x==("__debug__":Str))=ξ:=by decide)
  (Z:qa8 (e::es) X.env=(ξ,eval e X.env)::qa8 es X.env:=by rfl) (U:(ql8 pos (qa8 es X.env)).any (·.1)=ξ:=by rfl):PE X (.Call (.Name x p) (e::es) [] pos) (vQ sp [] E0 t):=by
 obtain⟨f,fd,h1,h2,h3,h4⟩:=F.ex;exact zm h4 hr hg h1 h2 h3 .nil FB Y W Z U
end
noncomputable def wc(N:η Str)(outer scope:Jd)(M:η Str)(src:η (ζ Nat)):Bool:=
 (match scope.kind with|.function=>θ|_=>ξ)&&
 scope.names.all (fun y=>decide (y.2≠.cell))&&
 scope.names.all (fun y=>!decide (y.2=.free)||(decide (outer.names.lookup y.1=ς .cell)||decide (outer.names.lookup y.1=ς .free)))&&
 scope.names.all (fun y=>!decide (y.2=.local)||decide (scope.names.lookup y.1=ς .local))&&
 scope.names.all (fun y=>!decide (y.2=.free)||decide (scope.names.lookup y.1=ς .free))&&
 decide (M.length=src.length)&&decide M.Nodup&&
 (M.zip src).all (fun p=>match p.2 with|none=>θ|some j=>decide (N[j]?=ς p.1)&&decide ((p.1,qe9)∈scope.names))
variable{src:η (ζ Nat)}
theorem CmpScope.of{outer:Jd}{M:η Str}(h:wc N outer scope M src=θ):CmpScope N outer scope M src:=by
 unfold wc at h;simp only[qa9,qk9,qj1,qi7,decide_eq_true_eq,decide_eq_false_iff_not]at h;obtain⟨⟨⟨⟨⟨⟨⟨h1,h2⟩,h3⟩,h4⟩,Z⟩,h6⟩,h7⟩,Y⟩:=h;refine⟨?_,h2,fun y U e=>(h3 y U).resolve_left fun z=>z e,fun y U e=>(h4 y U).resolve_left fun z=>z e,fun y U e=>(Z y U).resolve_left fun z=>z e,h6,h7,fun p hp j W=>?_⟩
 .revert h1;cases scope.kind<;>simp
 .have:=Y p hp;cases e:p.2 with
  |none=>rw[e]at W;cases W
  |some j'=>rw[e]at W this;cases W;simpa using this
def Plain(J:It)(xs:η V)(ok:Hp->Prop):Prop:=∀i H,ok H->(i<xs.length->J.go i H)/\(i=xs.length->J.stop i H)/\∀x H',i<xs.length->J.yld i H x H'->H'=H/\xs[i]?=ς x
theorem plain_list:Plain (Itl K a) xs (fun H=>SqL K H a xs):=fun i H h=>⟨fun hi=>⟨xs,xs[i],h,by simp[hi]⟩,fun e=>⟨xs,h,Θ⟩,fun x H' _ y=>⟨y.1,y.2 xs h⟩⟩
theorem plain_tup:Plain (Itt K a) xs (fun H=>SqT K H a xs):=fun i H h=>⟨fun hi=>⟨xs,xs[i],h,by simp[hi]⟩,fun e=>⟨xs,h,Θ⟩,fun x H' _ y=>⟨y.1,y.2 xs h⟩⟩
def ka(lo:Int)(n:Nat):η V:=(qb7 n).map fun(i:Nat)=>V.int (lo+i)
theorem plain_range{lo:Int}{n:Nat}:Plain (Itr lo n) (ka lo n) (fun _=>True):=fun i H h=>by
 refine⟨fun hi=>?_,fun e=>?_,fun x H' hi y=>?_⟩
 .show i<n;simpa[ka] using hi
 .show n<=i;simp[ka]at e;lia
 .obtain⟨e,rfl⟩:=y;refine⟨e,?_⟩;unfold ka at hi ⊢;rw[qa1,qr8]at hi;rw[qb3,qt4 hi];rfl
def sh(x:Str):η V:=x.cps.toList.map fun c=>V.str ⟨#[c]⟩
theorem plain_str:Plain (Its x) (sh x) (fun _=>True):=fun i H h=>by
 refine⟨fun hi=>?_,fun e=>?_,fun v H' hi y=>?_⟩
 .show i<x.cps.size;simpa[sh] using hi
 .show i=x.cps.size;simpa[sh] using e
 .obtain⟨e,c,U,rfl⟩:=y;refine⟨e,?_⟩;unfold sh;rw[qb3,qr0,U];rfl
def Bt(src:η (ζ Nat))(g:TG)(tt:TT)(te:TE)(σ:St)(J:It)(H1:Hp)(Q:VK)(D:J9):Prop:=∃W:Nat->Nat->Hp->Prop,(∃m,W 0 m (upd H1 D (.e [])))/\∀i m H,W i m H→
 (J.stop i H/\Q (.ref D) H)∨(J.go i H/\∃N:Hp->Prop,(∀H',N H'->∃Z,Z<m/\W (i+1) Z H')/\∀x H',J.yld i H x H'→
  g x (stC src σ) H' fun U H2=>Wk (stC src σ) U/\tt U H2 fun b Y=>if b=θ then te U Y fun v H4=>∃ys,H4 D=ς (.e ys)/\ys.length<qb2/\N (upd H4 D (.e (ys++[v])))else N Y)
variable{wi:TI}{g:TG}{te:TE}
theorem we{tt:TT}:lV src wi g tt te σ H Q=wi σ H fun J H1=>∀D,H1 D=ψ->Bt src g tt te σ J H1 Q D:=rfl
def ForW(g:TG)(tb:TS)(D:Ends)(J:It)(σ:St)(H1:Hp):Prop:=∃W:Nat->Nat->St->Hp->Prop,(∃m,W 0 m σ H1)/\∀i m σ H,W i m σ H→ (J.stop i H/\D.nx σ H)∨(J.go i H/\∃N:St->Hp->Prop,(∀U H',N U H'->∃Z,Z<m/\W (i+1) Z U H')/\∀x H',J.yld i H x H'->g x σ H' fun Y H2=>tb {D with nx:=N,ct:=N,bk:=D.nx} Y H2)
theorem si{tb:TS}{D:Ends}:tFor wi g tb D σ H=wi σ H fun J H1=>ForW g tb D J σ H1:=rfl
variable{v:V}
theorem wf(Y:Gl X x)(W:∃u,X.mg x=ς u/\RelV v u)(U:(x==("__debug__":Str))=ξ:=by decide):PE X (.Name x pos) (tC v):=by obtain⟨u,h1,h2⟩:=W;exact zf Y h1 h2 U
noncomputable abbrev ic(qual:Str)(scope:Jd)(L f:J9)(cd:Value)(cl:η (Str×J9)):Env:=PySem.W.envX qual scope L f cd (qi0 (L+1) scope.names []++cl)
def oI(CX:CXT)(P:qc5)(w:Ja)(K:xA9)(mg:Str->ζ Value)(base:Heap)(N:η Str)(qual:Str)(scope:Jd)(f:J9)(U:Value)(cl:η (Str×J9))(A:qe1)(outer:η Env)(s:qa3)(H:Hp)(E:XK)(xe:Value->qa3->Prop):Cx where
 prog:=P
 w:=w
 K:=K
 mg:=mg
 base:=base
 A:=A.deeper (ic qual scope s.heap.objs.size f U cl)
 N:=N
 s₀:=s
 H₀:=H
 env:=ic qual scope s.heap.objs.size f U cl
 outer:=outer
 stack:=ic qual scope s.heap.objs.size f U cl::outer
 ex:=[]
 calm:=true
 fn:=fun x=>(scope.names.lookup x != ς .free)
 pn:=[]
 xe:=xe
structure ClScope(N ps fr:List Str)(sc:Jd):Prop where
 kind:sc.kind=.function
 co:sc.isCoroutine=ξ
 gen:sc.isGenerator=ξ
 nd:N.Nodup
 pre:N.take ps.length=ps
 post:N.drop (N.length-fr.length)=fr
 room:ps.length+fr.length<=N.length
 par:∀x∈ps,sc.names.lookup x=ς .local∨sc.names.lookup x=ς .cell
 frk:∀x∈fr,sc.names.lookup x=ς .free
 all:∀x,sc.names.lookup x=ς .free->x∈fr
def dE(N:η Str)(vs fs:η V):St:=vs.map ς++(qb9 (N.length-vs.length-fs.length) ψ++fs.map ς)
def fL(c:J9)(o:Obj):HO:=.frz o (.ext fun h=>h.get? c=ς o)
def cx(H:Hp)(cl:η (Str×J9)):Hp:=fun b=>if b∈cl.map (·.2)then ψ else H b
def eQ(H:Hp)(cl:η (Str×J9))(H':Hp):Hp:=fun b=>if b∈cl.map (·.2)then H b else H' b
theorem iS{n:Nat}{sc:Jd}(h:sc.names.lookup x≠ς .cell)(nd:∀y∈sc.names,y.1=x->sc.names.lookup x=ς y.2):(qi0 n sc.names []).lookup x=ψ:=by
 have Y:∀(names:η (Str×qq6))(n:Nat)(J5:η (Str×J9)),(∀y∈names,y.1=x->y.2≠.cell)->J5.lookup x=ψ->(qi0 n names J5).lookup x=ψ:=fun names=>by
  induction names with
  |nil=>intro n J5 _ h;exact h
  |cons y r ih=>
   intro n J5 U Z;obtain⟨a,k⟩:=y;unfold qi0;split
   .rename_i hk;refine ih _ _ (fun z W=>U z (.tail _ W)) ?_;rw[qh1];cases hb:x==a with
    |false=>exact Z
    |true=>exact absurd (by simpa using hk) (U (a,k) (.head _) (beq_iff_eq.mp hb).symm)
   .exact ih _ _ (fun z W=>U z (.tail _ W)) Z
 exact Y sc.names n [] (fun y U e hk=>h (by rw[nd y U e,hk])) rfl
structure ClAt(H:Hp)(f:J9)(name qual:Str)(params:ql1)(body:List Jb)(scope:Jd)(cl:List (Str×J9))(fr:List Str)(fs:List V)(c':J9)(doc pm ctv:Value)(fo:Obj)(uf:HO):Prop where
 fn:H f=ς (.frz fo uf)
 dat:fo.data=.func (xG9 name qual params body scope cl .none .none doc pm ψ (.ref c') ctv)
 cod:∃oc,H c'=ς (.frz oc (.code qual))
 cel:∀x c,(x,c)∈cl->∃o u,H c=ς (fL c o)/\o.data=.cell (ς u)
 inj:∀x y c,cl.lookup x=ς c->cl.lookup y=ς c->x=y
 len:fs.length=fr.length
 val:∀(i:Nat)(x:Str)(v:V),fr[i]?=ς x->fs[i]?=ς v->∃c o u,cl.lookup x=ς c/\H c=ς (fL c o)/\o.data=.cell (ς u)/\RelV v u
 nms:∀x c,cl.lookup x=ς c->scope.names.lookup x=ς .free
variable{b:J9}
section
variable{P:qc5}{w:Ja}{H:Hp}{h:Heap}{cl:η (Str×J9)}
def ie(U:b∈cl.map (·.2)):cx H cl b=ψ:=if_pos U
def aW(U:b∉cl.map (·.2)):cx H cl b=H b:=if_neg U
theorem lX{o:HO}(h:cx H cl b=ς o):b∉cl.map (·.2)/\H b=ς o:=by
 by_cases U:b∈cl.map (·.2)
 .rw[ie U]at h;cases h
 .rw[aW U]at h;exact⟨U,h⟩
theorem ig(W:b∈cl.map (·.2)):∃x,(x,b)∈cl:=by obtain⟨⟨x,c⟩,U,rfl⟩:=qc8.mp W;exact⟨x,U⟩
theorem HOk.hide(ok:HOk P w H h)(W:∀x c,(x,c)∈cl->∃o u,H c=ς (fL c o)/\o.data=.cell (ς u)):HOk P w (cx H cl) h:=fun b u e=>by
 obtain⟨hb,e⟩:=lX e
 have U:∀c o,H c=ς o->(∀ob φ,o≠.frz ob (.ext φ))->cx H cl c=ς o:=fun c o q Y=>by
  rw[aW fun z=>?_]
  .exact q
  .obtain⟨x,Z⟩:=ig z;obtain⟨ob,u,g,_⟩:=W x c Z;rw[q]at g;exact Y _ _ (qd6 g)
 exact(ok b u e).stay (fun _ _ _ q=>q) (fun c q=>U c _ q fun _ _ z=>nomatch z) (fun c xs q=>U c _ q fun _ _ z=>nomatch z) fun c ob xs q=>U c _ q fun _ _ z=>nomatch z
end
section
variable{CX:CXT}{P:qc5}{w:Ja}{K:xA9}{mg:Str->ζ Value}{base:Heap}{N ps fr:η Str}{name qual:Str}{params:ql1}{body:η Jb}{scope:Jd}{f c':J9}{cl:η (Str×J9)}{A:qe1}{outer:η Env}{s s1:qa3}{H:Hp}{E:XK}{us:η Value}{vs fs:η V}{doc pm ctv:Value}{fo:Obj}{uf:HO}{xe:Value->qa3->Prop}
theorem qo (S:ClScope N ps fr scope) (C:ClAt H f name qual params body scope cl fr fs c' doc pm ctv fo uf) (ndn:∀ x,∀ y∈scope.names,y.1=x->scope.names.lookup x=ς y.2) (hd:A.handled=ψ) (e0:Env0 P w K mg base A outer s H) (hl:vs.length=ps.length) (r:Vals vs us)
  (x:zg6 s s.heap.objs.size (bindL (ic qual scope s.heap.objs.size f (.ref c') cl).kindOf (ps.zip us) fun _=>ψ) (qi0 (s.heap.objs.size+1) scope.names []) (bindC (ic qual scope s.heap.objs.size f (.ref c') cl).kindOf (ps.zip us) fun _=>ψ) s1) :
  Inv (oI CX P w K mg base N qual scope f (.ref c') cl A outer s (cx H cl) E xe) [] (dE N vs fs) (cx H cl) s1:=by
 obtain⟨h1,tk,rfl,hk⟩:=x.done;have hplen:ps.length<=N.length:=qc0 (ze9 _ _) S.room
 have own:∀y c,(qi0 (s.heap.objs.size+1) scope.names []).lookup y=ς c->scope.names.lookup y=ς .cell:=fun y c h=>by apply qs7;intro hn;rw[iS hn (ndn y)]at h;cases h
 have U:∀y c,cl.lookup y=ς c->∃o u,s.heap.get? c=ς o/\o.data=.cell (ς u)/\c<s.heap.objs.size:=fun y c h=>by obtain⟨o,u,g,d⟩:=C.cel y c (PySem.mem_of_lookup h);have q:=(e0.hok c _ g).1;exact⟨o,u,q,d,qb0 q⟩
 have split:∀y c,(qi0 (s.heap.objs.size+1) scope.names []++cl).lookup y=ς c->((qi0 (s.heap.objs.size+1) scope.names []).lookup y=ς c/\s.heap.objs.size<c)∨(cl.lookup y=ς c/\c<s.heap.objs.size):=fun y c h=>by
  rw[cT]at h;cases q:(qi0 (s.heap.objs.size+1) scope.names []).lookup y with
  |some d=>rw[q]at h;cases h;exact .inl ⟨rfl,x.above y _ (PySem.mem_of_lookup q)⟩
  |none=>rw[q]at h;have h:cl.lookup y=ς c:=h;exact .inr ⟨h,let ⟨_,_,_,_,z⟩:=U y c h;z⟩
 have Y:∀b:J9,b∉(oI CX P w K mg base N qual scope f (.ref c') cl A outer s (cx H cl) E xe).ex:=fun b z=>absurd (show b∈([]:η J9)from z) Ξ
 have hn:∀b,H b=ψ->cx H cl b=ψ:=fun b h=>by
  by_cases hb:b∈cl.map (·.2)
  .exact ie hb
  .rw[aW hb];exact h
 have htb:∀p∈cS K,cx H cl p.1=ς (.ctab p.2):=fun p hp=>by
  rw[aW fun z=>?_]
  .exact e0.tb p hp
  .obtain⟨x,hx⟩:=ig z;obtain⟨o,u,g,_⟩:=C.cel x _ hx;rw[e0.tb p hp]at g;cases g
 refine⟨⟨e0.mod,S.kind,rfl,rfl,nL _,fun y z c h1 h2=>?_,fun y W=>?_,fun y c hf h=>?_,fun _=>hd,qe1.frames_deeper e0.frames,.inr ⟨rfl,rfl⟩,fun b z=>absurd z (Y b),fun b o e=>⟨(e0.bs b o e).1,hn b (e0.bs b o e).2⟩,e0.bsz,fun b _ _=>Y b,fun b z=>absurd z (Y b),e0.funs,fun b hb=>hn b (e0.frf b hb),htb⟩,rfl,e0.bare,Un.kept hk,⟨_,x.toInCall.ns,fun i y v h1 h2 h3=>?_⟩,fun y c h=>?_,hn _ (e0.hok.fresh (qn6 _)),fun y c h=>?_,fun p hp=>absurd (show p∈([]:η (J9×Obj))from hp) Ξ,(e0.hok.hide C.cel).kept hk,?_⟩
 .rcases split y c h1 with ⟨g1,Z⟩|⟨g1,Z⟩<;>rcases split z c h2 with ⟨g2,l2⟩|⟨g2,l2⟩
  .exact zl7 x.apart (PySem.mem_of_lookup g1) (PySem.mem_of_lookup g2)
  .exact absurd l2 (Nat.lt_asymm Z)
  .exact absurd Z (Nat.lt_asymm l2)
  .exact C.inj y z c g1 g2
 .have W:scope.names.lookup y=ς .cell∨scope.names.lookup y=ς .free:=W;show ∃c,(qi0 (s.heap.objs.size+1) scope.names []++cl).lookup y=ς c;rw[cT];rcases W with W|W
  .obtain⟨c,e⟩:=hX (n:=s.heap.objs.size+1) W;exact⟨c,by rw[e];rfl⟩
  .rw[iS (by rw[W];decide) (ndn y)];obtain⟨i,hi⟩:=qo1 (S.all y W);have hlt:i<fs.length:=by rw[C.len];exact(gX hi).1
   obtain⟨c,_,_,e,_⟩:=C.val i y fs[i] hi (by simp[hlt]);exact⟨c,e⟩
 .have hf:(scope.names.lookup y != ς .free)=θ:=hf;rcases split y c h with ⟨_,Z⟩|⟨g1,_⟩
  .exact qi2 Z
  .rw[C.nms y c g1]at hf;simp at hf
 .by_cases hi:i<vs.length
  .have ha:vs[i]?=ς v:=by
    unfold dE at h2;rw[qc9 (by simpa using hi),qb3]at h2;cases e:vs[i]? with
    |none=>rw[e]at h2;cases h2
    |some a=>rw[e]at h2;cases h2;rfl
   obtain⟨u,hu,rv⟩:=r.get ha
   have hp:ps[i]?=ς y:=by rw[<- S.pre,zb6 Θ];exact h1
   have ndP:ps.Nodup:=by rw[<- S.pre];exact S.nd.sublist (zb7 _ _)
   refine⟨u,rv,?_⟩;rcases S.par y (qc7 hp)with k|k
   .exact .inl ⟨k,iO ndP hp hu k⟩
   .obtain⟨c,e⟩:=hX (n:=s.heap.objs.size+1) k;refine .inr ⟨.inl k,c,?_,?_⟩
    .show(qi0 (s.heap.objs.size+1) scope.names []++cl).lookup y=ς c;rw[cT,e];rfl
    .have q:=x.cell y c e;rw[iP ndP hp hu (by show scope.names.lookup y≠_;rw[k];decide)]at q;exact q
  .unfold dE at h2;rw[qd5 (by simpa using hi)]at h2;rw[qa1]at h2;by_cases hj:i-vs.length<N.length-vs.length-fs.length
   .rw[qc9 (by simpa using hj),qm1]at h2;split at h2<;>cases h2
   .rw[qd5 (by simpa using hj),qn4,qb3]at h2;obtain⟨v',hv,e⟩:=mS h2;cases e;have hroom:=S.room;have hfl:=C.len
    have hfr:fr[i-vs.length-(N.length-vs.length-fs.length)]?=ς y:=by rw[<- S.post,List.getElem?_drop];rw[show N.length-fr.length+(i-vs.length-(N.length-vs.length-fs.length))=i by lia];exact h1
    obtain⟨c,o,u,e1,e2,e3,e4⟩:=C.val _ y v hfr hv;refine⟨u,e4,.inr ⟨.inr (C.nms y c e1),c,?_,?_⟩⟩
    .show(qi0 (s.heap.objs.size+1) scope.names []++cl).lookup y=ς c;rw[cT,iS (by rw[C.nms y c e1];decide) (ndn y),e1];rfl
    .exact⟨o,hk c o (e0.hok c _ e2).1,e3⟩
 .rcases split y c h with ⟨g1,_⟩|⟨g1,_⟩
  .exact⟨_,x.cell y c g1⟩
  .obtain⟨o,u,q,d,_⟩:=U y c g1;exact⟨_,o,hk c o q,d⟩
 .rcases split y c h with ⟨_,Z⟩|⟨g1,_⟩
  .exact hn _ (e0.hok.fresh (qi2 Z))
  .exact ie (qc8.mpr ⟨(y,c),PySem.mem_of_lookup g1,rfl⟩)
 .unfold dE;show _=N.length;rw[qc4,qc4,qa1,qn4,qa1];have:=S.room;have:=C.len;lia
theorem wg{k:Nat}{args:Args}(S:ClScope N ps fr scope)(C:ClAt H f name qual params body scope cl fr fs c' doc pm ctv fo uf)(ndn:∀x,∀y∈scope.names,y.1=x->scope.names.lookup x=ς y.2)(hr:Room (k+1) A)(e0:Env0 P w K mg base A outer s H)
 (Z:zc8 s (xG9 name qual params body scope cl .none .none doc pm ψ (.ref c') ctv) args (ps.zip us)) (hl:vs.length=ps.length) (r:Vals vs us)
 (hbody:Room k (A.deeper (ic qual scope s.heap.objs.size f (.ref c') cl))->∃t,PSs (oI CX P w K mg base N qual scope f (.ref c') cl A outer s (cx H cl) E fun _ _=>False) body t/\t {nx:=fun _ H'=>(∀b∈cl.map (·.2),H' b=ψ)->Q .non (eQ H cl H'),rt:=fun v H'=>(∀b∈cl.map (·.2),H' b=ψ)->Q v (eQ H cl H')} (dE N vs fs) (cx H cl)) :
  qq7 (model P w) A (.call (.ref f) args) (CR CX outer P w H s Q E) s:=by
 have KX:K.In s.heap:=e0.mod.kin.keeps fun b o e=>(e0.bs b o e).1
 have lim:s.heap.NoLimit:=e0.mod.nolimit.keeps fun b o e=>(e0.bs b o e).1
 have hkind:∀y∈ps.zip us,scope.names.lookup y.1=ς .local∨(scope.names.lookup y.1=ς .cell/\((qi0 (s.heap.objs.size+1) scope.names []).lookup y.1).isSome=θ):=fun⟨n,v⟩ hy=>by
  rcases S.par n (qz1 hy).1 with q|q
  .exact .inl q
  .exact .inr ⟨q,xR9 _ _ _ (.inl q)⟩
 refine zg7 hr.depth (e0.hok f _ C.fn).1 C.dat S.co S.gen rfl (let ⟨_,z⟩:=C.cod;(e0.hok c' _ z).2) (Z _ _ _ _ ?_);refine zD S.kind hkind fun env he s1 x=>?_
 subst he;refine⟨lim.keeps x.toInCall.keep,codeAny_func ?_⟩;obtain⟨t,ht,hq⟩:=hbody (hr.deeper _);have I:Inv (oI CX P w K mg base N qual scope f (.ref c') cl A outer s (cx H cl) E fun _ _=>False) [] (dE N vs fs) (cx H cl) s1:=qo S C ndn hr.hd e0 hl r x;refine ql9 (ht [] s1 (dE N vs fs) (cx H cl) _ I hq) (fun fl s' hs=>?_) fun e s' hs=>hs.elim
 have fin:∀{σ':St}{H':Hp}{v:V}{u:Value},Inv (oI CX P w K mg base N qual scope f (.ref c') cl A outer s (cx H cl) E fun _ _=>False) [] σ' H' s'->RelV v u->((∀b∈cl.map (·.2),H' b=ψ)->Q v (eQ H cl H'))->CE outer P w H s Q u s':=fun {σ' H' v u} J rv q=>by
  have cn:∀b,b∈cl.map (·.2)->∃o u,H b=ς (fL b o)/\o.data=.cell (ς u):=fun b Z=>by obtain⟨x,hx⟩:=ig Z;exact C.cel x b hx
  have kc:∀b o,b∈cl.map (·.2)->s.heap.get? b=ς o->s'.heap.get? b=ς o/\H' b=ψ:=fun b o Z q=>by
   obtain⟨o',u,g,d⟩:=cn b Z;have hfs:b∉frs outer:=fun z=>by have:=e0.frf b z;rw[g]at this;cases this
   exact⟨J.base.keep b o q (ie Z) hfs (fun z=>absurd (show b∈([]:η J9)from z) Ξ),J.base.free b o q (ie Z) (fun z=>absurd (show b∈([]:η J9)from z) Ξ)⟩
  have sin:∀{b:J9},b∈cl.map (·.2)->eQ H cl H' b=H b:=fun Z=>if_pos Z
  have Y:∀{b:J9},b∉cl.map (·.2)->eQ H cl H' b=H' b:=fun Z=>if_neg Z
  have hnot:∀(b:J9)(o:HO),H b=ς o->(∀ob φ,o≠.frz ob (.ext φ))->b∉cl.map (·.2):=fun b o q hno z=>by obtain⟨ob,u,g,_⟩:=cn b z;rw[q]at g;exact hno _ _ (qd6 g)
  have q:=q fun b Z=>by obtain⟨o',u',g,d⟩:=cn b Z;exact(kc b o' Z (e0.hok b _ g).1).2
  refine⟨v,eQ H cl H',J.os,J.bare,⟨fun b o q n Z hx=>?_,fun b o q n Z hx=>?_,fun b o q n hx=>?_,fun b o q hx=>?_,fun b xs q=>?_,fun b o u q=>?_,fun b ps q=>?_,fun b qs q=>?_⟩,fun b o q=>?_,rv,q⟩
  .have U:b∉cl.map (·.2):=fun z=>by obtain⟨_,_,g,_⟩:=cn b z;rw[n]at g;cases g
   exact J.base.keep b o q ((aW U).trans n) Z (fun z=>absurd (show b∈([]:η J9)from z) Ξ)
  .have U:b∉cl.map (·.2):=fun z=>by obtain⟨_,_,g,_⟩:=cn b z;rw[n]at g;cases g
   exact J.base.slot b o q ((aW U).trans n) Z (fun z=>absurd (show b∈([]:η J9)from z) Ξ)
  .have U:b∉cl.map (·.2):=fun z=>by obtain⟨_,_,g,_⟩:=cn b z;rw[n]at g;cases g
   rw[Y U];exact J.base.free b o q ((aW U).trans n) (fun z=>absurd (show b∈([]:η J9)from z) Ξ)
  .exact J.base.there b o q (fun z=>absurd (show b∈([]:η J9)from z) Ξ)
  .have U:=hnot b _ q fun _ _ z=>nomatch z
   rw[Y U];exact J.base.tups b xs ((aW U).trans q)
  .by_cases U:b∈cl.map (·.2)
   .rw[sin U];exact q
   .rw[Y U];exact J.base.frzs b o u ((aW U).trans q)
  .have U:=hnot b _ q fun _ _ z=>nomatch z
   rw[Y U];exact J.base.tbls b ps ((aW U).trans q)
  .have U:=hnot b _ q fun _ _ z=>nomatch z
   rw[Y U];exact J.base.cts b qs ((aW U).trans q)
  .by_cases U:b∈cl.map (·.2)
   .rw[sin U]at q;obtain⟨ob,u,g,d⟩:=cn b U;rw[q]at g;cases g;have e1:=(e0.hok b _ q).1;have e2:=(kc b ob U e1).1;exact⟨e2,e2,⟨ob,e2⟩,fun h1 h2 z1 z2=>z2 ob z1⟩
   .rw[Y U]at q
    have up:∀c o,H' c=ς o->eQ H cl H' c=ς o:=fun c o z=>by
     by_cases hcc:c∈cl.map (·.2)
     .obtain⟨ob,u,g,d⟩:=cn c hcc;have e1:=(e0.hok c _ g).1;rw[(kc c ob hcc e1).2]at z;cases z
     .rw[Y hcc];exact z
    exact(J.hok b o q).stay (fun _ _ _ z=>z) (fun c z=>up c _ z) (fun c xs z=>up c _ z) fun c ob xs z=>up c _ z
 cases fl with
 |ret u=>obtain⟨v,σ',H',J,rv,q⟩:=hs;exact fin J rv q
 |next=>obtain⟨σ',H',J,q⟩:=hs;exact fin (v:=V.non) (u:=qi9) J rfl q
 |brk=>obtain⟨_,_,_,q⟩:=hs;exact qg9 q
 |cont=>obtain⟨_,_,_,q⟩:=hs;exact qg9 q
end
structure TabB(mg:Str->Option Value)(base:Heap)(c P:J9):Prop where
 code:xN9 base c P
 bm:∃bm ob,mg "__builtins__"=ς (.ref bm)/\bm≠qy2/\base.get? bm=ς ob/\ob.cls=.type "module"/\ob.dict=ς qy2/\ob.data=.plain
theorem jk:∀{l m:η Value},zf9 l->zf9 m->zf9 (l++m)
 |[],m,_,h=>h
 |.int _ _::.int _ _::_::r,m,h,h'=>jk (l:=r) h h'
theorem lY:∀{l m:η Value},zf9 l->qs3 pos (l++m)=(qs3 pos l).or (qs3 pos m)
 |[],m,_=>by simp[qs3]
 |.int a t::.int b u::c::r,m,h=>by
  have h:zf9 r:=h;show(if _ then _ else qs3 pos (r++m))=Option.or (if _ then _ else qs3 pos r) _;split
  .rfl
  .exact lY h
structure Made(H H':Hp)(lo:Nat)(f c':J9)(qual:Str)(fo:Obj):Prop where
 fn:H' f=ς (.frz fo (.ext fun h=>h.get? f=ς fo))
 cod:∃oc,H' c'=ς (.frz oc (.code qual))
 old:∀b o,H b=ς o->H' b=ς o
 new:∀b o,H' b=ς o->H b=ς o∨(lo<=b/\H b=ψ)
 lof:lo<=f
section
variable{X:Cx}{J1:η (J9×Obj)}{σ:St}{H:Hp}{s:qa3}{c P:J9}{qs:η ((Nat×Nat)×Str)}{name:Str}{params:ql1}{body:η Jb}{scope:Jd}{clos:η (Str×J9)}{pos:Pos}
theorem zI{Q:Value->qa3->Prop}(I:Inv X J1 σ H s)(B:TabB X.mg X.base c P)(Z:X.env.code=.ref c)(hP:H P=ς (.ctab qs))(hq:((pos.line,pos.col),qual)∈qs)(hun:∀q,((pos.line,pos.col),q)∈qs->q=qual)(hcl:zi3 scope X.env=pure clos)
 (q:∀(f c':J9)(doc pm ctv:Value)(H':Hp)(s':qa3),Made H H' s.heap.objs.size f c' qual {cls:=.type "function",data:=.func (xG9 name qual params body scope clos .none .none doc pm ψ (.ref c') ctv)}->Inv X J1 σ H' s'->Q (.ref f) s') :
  wpAny (model X.prog X.w) A (makeFunction name qual params (.stmts body) scope X.env [] [] [] pos pos.line) Q E s:=by
 obtain⟨ps,hp,ht,hent⟩:=I.hok P _ hP
 have inB:∀{b:J9}{o:Obj},X.base.get? b=ς o->b≠P:=fun {b o} e z=>by have:=(I.bs b o e).2;rw[z,hP]at this;cases this
 have hg:s.heap.Ns qc1 X.mg:=I.mod.glob.keeps I.bk;obtain⟨bm,ob,b1,b2,b3,b4,b5,b6⟩:=B.bm
 have hgP:qc1≠P:=by obtain⟨o,es,ep,e,_⟩:=I.mod.glob;exact inB e
 have hbG:bm≠qc1:=fun z=>by obtain⟨o,es,ep,e,hd,_⟩:=I.mod.glob;rw[z,e]at b3;cases b3;rw[hd]at b6;cases b6
 have hB:s.heap.BuiltinsAt X.mg P:=⟨bm,ob,b1,b2,hbG,inB b3,I.bk _ _ b3,b4,b5,b6⟩;have C:xN9 s.heap c P:=B.code.keeps I.bk;have lt:∀{b:J9}{o:HO},H b=ς o->b<s.heap.objs.size:=fun h=>I.hok.lt h
 cases hf:qs3 pos ps.toList with
 |some cv=>
  obtain⟨c',oc,rfl,hc'⟩:=hent pos qual cv hq hf;refine PySem.W.makeFunction_hit hcl I.ok.glob hg Z C hp ht hf hB fun ctv doc h' tk hk Y=>?_
  have hfr:H h'.objs.size=ψ:=I.hok.fresh Y
  have I2:=I.laid (a:=h'.objs.size) (o:=.frz {cls:=.type "function",data:=.func (xG9 name qual params body scope clos .none .none doc ((X.mg "__name__").getD .none) ψ (.ref c') ctv)} (.ext fun h=>h.get? h'.objs.size=ς {cls:=.type "function",data:=.func (xG9 name qual params body scope clos .none .none doc ((X.mg "__name__").getD .none) ψ (.ref c') ctv)})) (t':=tk) (h':=h'.push {cls:=.type "function",data:=.func (xG9 name qual params body scope clos .none .none doc ((X.mg "__name__").getD .none) ψ (.ref c') ctv)}) (fun b o e=>gP _ (hk b o e)) Y
   ⟨qa7 _ rfl,qa7 _ rfl,⟨_,qa7 _ rfl⟩,fun h1 h2 z1 z2=>z2 _ z1⟩
  refine q _ c' doc _ ctv _ _ ⟨aw,?_,fun b o e=>?_,fun b o e=>?_,Y⟩ I2
  .refine⟨oc,?_⟩;rw[aq (qb8 (qc2 (lt hc') Y))];exact hc'
  .rw[aq (qb8 (qc2 (lt e) Y))];exact e
  .by_cases hb:b=h'.objs.size
   .exact .inr ⟨by rw[hb];exact Y,by rw[hb];exact hfr⟩
   .rw[aq hb]at e;exact .inl e
 |none=>
  refine PySem.W.makeFunction_K hcl I.ok.glob hg Z C hp ht hf hgP hB fun c' ctv doc h' tk hx hge hlt hrec htb=>?_
  obtain⟨c2,oc,vs,t,e2,hoc,hrec2⟩:=hrec;cases e2;have hfr:H h'.objs.size=ψ:=I.hok.fresh (qc0 hge (qi2 hlt));have hcr:H c'=ψ:=I.hok.fresh hge;have hne:c'≠h'.objs.size:=qb8 hlt;generalize hfo:({cls:=.type "function",data:=.func (xG9 name qual params body scope clos .none .none doc ((X.mg "__name__").getD .none) ψ (.ref c') ctv)}:Obj)=fo;have hfo':(PySem.W.fnMade name qual params body scope clos doc ((X.mg "__name__").getD .none) c' ctv)=fo:=hfo;rw[hfo'];have hfree:fo.isFreed=ξ:=by rw[<- hfo];rfl
  have gf:(h'.push fo).get? h'.objs.size=ς fo:=qa7 _ hfree;let H':Hp:=upd (upd H c' (.frz oc (.code qual))) h'.objs.size (.frz fo (.ext fun h=>h.get? h'.objs.size=ς fo))
  have U:∀b o,H b=ς o->H' b=ς o:=fun b o e=>by show upd (upd H c' (.frz oc (.code qual))) h'.objs.size _ b=ς o;rw[aq (fun z=>by rw[z,hfr]at e;cases e),aq (fun z=>by rw[z,hcr]at e;cases e)];exact e
  have hnew:∀b o,H' b=ς o->H b=ς o∨(s.heap.objs.size<=b/\H b=ψ):=fun b o e=>by
   by_cases h1:b=h'.objs.size
   .exact .inr ⟨by rw[h1];exact qc0 hge (qi2 hlt),by rw[h1];exact hfr⟩
   .by_cases h2:b=c'
    .exact .inr ⟨by rw[h2];exact hge,by rw[h2];exact hcr⟩
    .have e:upd (upd H c' (.frz oc (.code qual))) h'.objs.size _ b=ς o:=e;rw[aq h1,aq h2]at e;exact .inl e
  have kp:∀b o,b≠P->s.heap.get? b=ς o->(h'.push fo).get? b=ς o:=fun b o hb e=>gP _ (hx b o hb e)
  have hcod:H' c'=ς (.frz oc (.code qual)):=by show upd (upd H c' (.frz oc (.code qual))) h'.objs.size _ c'=_;rw[aq hne,aw]
  have un:Un X.fs [] H H' s.heap (h'.push fo):=by
   have nP:∀{b:J9},H b=ψ->b≠P:=fun {b} n z=>by rw[z,hP]at n;cases n
   refine⟨fun b o e n _ _=>kp b o (nP n) e,fun b o e n _ _=>⟨o.slots,by rw[kp b o (nP n) e]⟩,fun b o e n _=>?_,fun b o e _=>?_,fun b xs e=>U b _ e,fun b o u e=>U b _ e,fun b ps e=>⟨#[],by rw[U b _ e];simp⟩,fun b qs e=>U b _ e⟩
   .cases z:H' b with
    |none=>rfl
    |some w=>
     rcases hnew b w z with y|⟨y,_⟩
     .rw[n]at y;cases y
     .exact absurd (qb0 e) (qy5.mpr y)
   .by_cases hb:b=P
    .rw[hb];exact⟨_,gP _ htb⟩
    .exact⟨o,kp b o hb e⟩
  have hok:HOk X.prog X.w H' (h'.push fo):=fun b o e=>by
   by_cases h1:b=h'.objs.size
   .subst h1;have e:upd (upd H c' (.frz oc (.code qual))) h'.objs.size _ h'.objs.size=ς o:=e;rw[aw]at e;cases e;exact⟨gf,gf,⟨_,gf⟩,fun h1 h2 z1 z2=>z2 _ z1⟩
   .by_cases h2:b=c'
    .subst h2;rw[hcod]at e;cases e;exact⟨gP _ hoc,b,oc,vs,t,rfl,gP _ hoc,hrec2⟩
    .have eH:H b=ς o:=by have e:upd (upd H c' (.frz oc (.code qual))) h'.objs.size _ b=ς o:=e;rw[aq h1,aq h2]at e;exact e
     by_cases h3:b=P
     .subst h3;rw[hP]at eH;cases eH;refine⟨_,gP _ htb,?_,fun pos' q' v h4 h5=>?_⟩
      .rw[qz3];exact jk ht trivial
      .rw[qz3,lY ht]at h5;cases h6:qs3 pos' ps.toList with
       |some v'=>rw[h6]at h5;cases h5;obtain⟨c2,o2,e1,e2⟩:=hent pos' q' _ h4 h6;exact⟨c2,o2,e1,U _ _ e2⟩
       |none=>
        rw[h6]at h5;have h5:qs3 pos' [qf7 pos.line,qf7 pos.col,.ref c']=ς v:=h5;simp only[qf7,qs3]at h5;split at h5
        .rename_i hh;cases h5;refine⟨c',oc,rfl,?_⟩
         have e1:pos'.line=pos.line/\pos'.col=pos.col:=by simp only[qa9,beq_iff_eq]at hh;lia
         rw[e1.1,e1.2]at h4;rw[hun q' h4];exact hcod
        .cases h5
     .refine(I.hok b o eH).stay (fun d u hd z=>kp d u ?_ z) (fun d z=>U d _ z) (fun d xs z=>U d _ z) fun d ob xs z=>U d _ z
      rcases hd with rfl|hd
      .exact h3
      .intro z;rw[z,hP]at hd;cases hd
  exact q _ c' doc _ ctv H' _ ⟨by show upd _ _ _ _=_;rw[aw,<- hfo],⟨oc,hcod⟩,U,hnew,qc0 hge (qi2 hlt)⟩ (I.un (t':=tk) un hok)
end
section
variable{X:Cx}{K:xA9}{tg:Jc}
end
noncomputable def kf(scope outer:Jd):Jd:={scope with names:=scope.names.map fun(n,k)=>if(k==.free&&outer.kind==.function&&outer.names.lookup n==ς .cell)then(n,.cell)else(n,k)}
noncomputable def dl(sc:Jd)(N:η Str)(i:Nat)(x:Str):Bool:=decide (N[i]?=ς x)&&(decide (sc.names.lookup x=ς .local)||(decide (sc.names.lookup x=ς .cell)||decide (sc.names.lookup x=ς .free)))&&!(x==("__debug__":Str))&&!(x==("__classdict__":Str))
def iT(sc:Jd)(x:Str):Bool:=decide (sc.names.lookup x=ς .local)||decide (sc.names.lookup x=ς .cell)
def aB(sc:Jd)(x:Str):Bool:=decide (sc.names.lookup x=ς .globalImplicit)&&!(x==("__debug__":Str))&&!decide (x=("__name__":Str))
section
variable{sc:Jd}{N:η Str}{i:Nat}{x:Str}
theorem gO(h:dl sc N i x=θ):N[i]?=ς x:=by unfold dl at h;simp only[qa9,decide_eq_true_eq]at h;exact h.1.1.1
theorem C9(h:dl sc N i x=θ):Vis sc x:=by unfold dl at h;simp only[qa9,qj1,decide_eq_true_eq]at h;exact h.1.1.2
theorem Db(h:dl sc N i x=θ):(x==("__debug__":Str))=ξ:=by unfold dl at h;simp only[qa9,qi7]at h;exact h.1.2
theorem FC(h:dl sc N i x=θ):(x==("__classdict__":Str))=ξ:=by unfold dl at h;simp only[qa9,qi7]at h;exact h.2
theorem kg(h:iT sc x=θ):Loc sc x:=by unfold iT at h;simp only[qj1,decide_eq_true_eq]at h;exact h
theorem z108(h:aB sc x=θ):sc.names.lookup x=ς .globalImplicit:=by unfold aB at h;simp only[qa9,decide_eq_true_eq]at h;exact h.1.1
theorem kh(h:aB sc x=θ):(x==("__debug__":Str))=ξ:=by unfold aB at h;simp only[qa9,qi7]at h;exact h.1.2
theorem q87(h:aB sc x=θ):x≠("__name__":Str):=by unfold aB at h;simp only[qa9,qi7,decide_eq_false_iff_not]at h;exact h.2
end
def bN(X:Cx)(sc:Jd):Prop:=X.env.scope=sc
variable{i:Nat}
section
variable{X:Cx}{sc:Jd}{N:η Str}{x:Str}{pos p:Pos}
theorem pvD(i:Nat)(h:dl sc N i x=θ)(e1:bN X sc:=by rfl)(U:X.N=N:=by rfl):PE X (.Name x pos) (fT i):=by have e1:X.env.scope=sc:=e1;subst e1 U;exact Cp (gO h) (C9 h) (Db h) (FC h)
theorem glD(h:aB sc x=θ)(e1:bN X sc:=by rfl):Gl X x:=by have e1:X.env.scope=sc:=e1;subst e1;exact z108 h
theorem sj{e:Jc}{pos':Pos}(h:dl sc N i x=θ)(hl:iT sc x=θ)(Y:N.Nodup)(W:PE X e te)(e1:bN X sc:=by rfl)(Z:X.N=N:=by rfl)(hf:X.fn x=θ∨X.env.scope.names.lookup x=ς .local:=by exact .inl rfl)
 (U:qo5 e (ς (.Name x pos')) pos.line X.env=pure ξ:=by rfl):PS X (.Assign [.Name x pos'] e pos) (zi te (hW i)):=by
 have e1:X.env.scope=sc:=e1;subst e1 Z;exact CD Y (gO h) (kg hl) W U hf
theorem ax(h:dl sc N i x=θ)(Y:iT sc x=θ)(W:N.Nodup)(e1:bN X sc:=by rfl)(U:X.N=N:=by rfl)(Z:X.fn x=θ∨X.env.scope.names.lookup x=ς .local:=by exact .inl rfl):PG X (.Name x pos) (hW i):=by have e1:X.env.scope=sc:=e1;subst e1 U;exact rJ W (gO h) (kg Y) Z
def loOk(sc:Jd)(x:Str):Bool:=decide (sc.names.lookup x=ς .local)
theorem da(h:dl sc N i x=θ)(U:loOk sc x=θ)(Y:X.N.Nodup)(e1:bN X sc)(W:X.N=N:=by rfl):PG X (.Name x pos) (hW i):=by have e1:X.env.scope=sc:=e1;subst e1 W;have U:X.env.scope.names.lookup x=ς .local:=of_decide_eq_true U;exact rJ Y (gO h) (.inl U) (.inr U)
theorem ki(h:aB sc x=θ)(U:∃u,X.mg x=ς u/\RelV v u)(e1:bN X sc:=by rfl):PE X (.Name x pos) (tC v):=wf (glD h e1) U (kh h)
theorem wj{u:Value}(h:aB sc x=θ)(U:X.mg x=ψ)(W:qe0 x=ς u)(r:RelV v u)(e1:bN X sc:=by rfl):PE X (.Name x pos) (tC v):=zg (glD h e1) U W r (q87 h) (kh h)
variable{e:Jc}{es:η Jc}{t:TA}{id T:String}{r:η V->Hp->VK->Prop}{k:Nat}{ps:η Str}{sp:Sp}
theorem iU (h:aB sc x=θ) (hc:cz X (.builtin id) r) (hm:X.mg x=ψ) (Y:qe0 x=ς (.builtin id)) (W:PA X (e::es) t) (e1:bN X sc:=by rfl)
  (Z:qa8 (e::es) X.env=(ξ,eval e X.env)::qa8 es X.env:=by rfl) (U:(ql8 pos (qa8 es X.env)).any (·.1)=ξ:=by rfl):PE X (.Call (.Name x p) (e::es) [] pos) (tCB r t):=
 vR hc (glD h e1) hm Y W (q87 h) (kh h) Z U
theorem kj (h:aB sc x=θ) (hc:cz X (.type T) r) (hm:X.mg x=ψ) (Y:qe0 x=ς (.type T)) (W:PA X (e::es) t) (e1:bN X sc:=by rfl)
  (Z:qa8 (e::es) X.env=(ξ,eval e X.env)::qa8 es X.env:=by rfl) (U:(ql8 pos (qa8 es X.env)).any (·.1)=ξ:=by rfl):PE X (.Call (.Name x p) (e::es) [] pos) (tCB r t):=
 t7 hc (glD h e1) hm Y W (q87 h) (kh h) Z U
theorem uk (h:aB sc x=θ) (F:OkF X.prog X.w X.K X.mg X.base x k ps sp) (Z:Room k X.A) (W:PA X (e::es) t) (e1:bN X sc:=by rfl)
  (Y:qa8 (e::es) X.env=(ξ,eval e X.env)::qa8 es X.env:=by rfl) (U:(ql8 pos (qa8 es X.env)).any (·.1)=ξ:=by rfl):PE X (.Call (.Name x p) (e::es) [] pos) (vQ sp [] E0 t):=
 wb F Z (glD h e1) W (kh h) Y U
variable{tg a b:Jc}{ta:TA}
theorem qp(h:aB sc "range"=θ)(W:X.mg "range"=ψ)(U:PA X [a] ta)(e1:bN X sc:=by rfl)(Y:qa8 [a] X.env=[(ξ,eval a X.env)]:=by rfl):PI X tg (.Call (.Name "range" p) [a] [] pos) (Bl ta):=tW (glD h e1) W U Y
theorem qq (h:aB sc "range"=θ) (Y:X.mg "range"=ψ) (W:PA X [a,b] ta) (e1:bN X sc:=by rfl) (Z:qa8 [a,b] X.env=[(ξ,eval a X.env),(ξ,eval b X.env)]:=by rfl) (U:qa8 [b] X.env=[(ξ,eval b X.env)]:=by rfl) :
  PI X tg (.Call (.Name "range" p) [a,b] [] pos) (Bm ta):=tX (glD h e1) Y W Z U
end
section
variable{X:Cx}{M:η Str}{scope outer:Jd}{C:J9}{s:qa3}{H:Hp}{ex:η J9}{x:Str}{pos p:Pos}
theorem scC(U:bN X outer):bN (cxC X M scope C s H ex) (kf scope outer):=by have U:X.env.scope=outer:=U;subst U;rfl
end
inductive Dt where
 |non|bl (b:Bool)|int (i:Int)|str (x:Str)|t (l:List Dt)|e (l:List Dt)|dct (ks:List Key) (l:List Dt)|dcT (ks:List (List Key)) (l:List Dt)
mutual
noncomputable def peq:Dt->Dt->Bool
 |.non,.non=>θ
 |.bl a,.bl b=>a==b
 |.bl a,.int j=>(if a then(1:Int)else 0)==j
 |.int i,.bl b=>i==(if b then(1:Int)else 0)
 |.int i,.int j=>i==j
 |.str x,.str y=>x==y
 |.t l,.t m=>peqs l m
 |.e l,.e m=>peqs l m
 |.dct ks l,.dct js m=>decide (ks=js)&&peqs l m
 |.dcT ks l,.dcT js m=>decide (ks=js)&&peqs l m
 |_,_=>ξ
noncomputable def peqs:η Dt->η Dt->Bool
 |[],[]=>θ
 |d::l,e::m=>peq d e&&peqs l m
 |_,_=>ξ
end
mutual
theorem ii:∀d:Dt,peq d d=θ
 |.non=>by simp[peq]
 |.bl b=>by simp[peq]
 |.int i=>by simp[peq]
 |.str x=>by simp[peq]
 |.t l=>by simp only[peq];exact peqs_self l
 |.e l=>by simp only[peq];exact peqs_self l
 |.dct ks l=>by simp only[peq,decide_true,ql3];exact peqs_self l
 |.dcT ks l=>by simp only[peq,decide_true,ql3];exact peqs_self l
theorem peqs_self:∀l:η Dt,peqs l l=θ
 |[]=>by simp[peqs]
 |d::l=>by simp only[peqs,ii d,peqs_self l,zd2]
end
mutual
noncomputable def ij:Dt->Nat
 |.t l=>deeps l+1
 |.e l=>deeps l+1
 |_=>0
noncomputable def deeps:η Dt->Nat
 |[]=>0
 |d::l=>max (ij d) (deeps l)
end
mutual
def Rep(K:xA9)(H:Hp):Dt->V->Prop
 |.non,v=>v=.non
 |.bl b,v=>v=.bl b
 |.int i,v=>v=.int i
 |.str x,v=>v=.str x
 |.t l,v=>∃a vs,v=.ref a/\SqT K H a vs/\Reps K H l vs
 |.e l,v=>∃a vs,v=.ref a/\SqL K H a vs/\Reps K H l vs
 |.dct ks l,v=>∃a J6,v=.ref a/\Rd H a (.dK J6)/\J6.map (·.1)=ks/\Reps K H l (J6.map (·.2))
 |.dcT ks l,v=>∃a J6,v=.ref a/\Rd H a (.dT J6)/\J6.map (·.1)=ks/\Reps K H l (J6.map (·.2))
def Reps(K:xA9)(H:Hp):η Dt->η V->Prop
 |[],vs=>vs=[]
 |d::l,vs=>∃v ws,vs=v::ws/\Rep K H d v/\Reps K H l ws
end
theorem Same.tup(e:Same H H')(h:SqT K H a xs):SqT K H' a xs:=by
 rcases h with h|h
 .exact .inl (e _ _ h)
 .exact .inr h
theorem Same.rd{u:HO}(e:Same H H')(h:Rd H a u):Rd H' a u:=by
 rcases h with h|⟨o,h⟩
 .exact .inl (e _ _ h)
 .exact .inr ⟨o,e _ _ h⟩
mutual
theorem Rep.same{K:xA9}{H H':Hp}(e:Same H H'):∀{d:Dt}{v:V},Rep K H d v->Rep K H' d v
 |.non,v,h=>h
 |.bl _,v,h=>h
 |.int _,v,h=>h
 |.str _,v,h=>h
 |.t l,v,h=>by unfold Rep at h ⊢;obtain⟨a,vs,h1,h2,h3⟩:=h;exact⟨a,vs,h1,e.tup h2,Reps.same e h3⟩
 |.e l,v,h=>by unfold Rep at h ⊢;obtain⟨a,vs,h1,h2,h3⟩:=h;exact⟨a,vs,h1,e.seq h2,Reps.same e h3⟩
 |.dct ks l,v,h=>by unfold Rep at h ⊢;obtain⟨a,vs,h1,h2,h3,h4⟩:=h;exact⟨a,vs,h1,e.rd h2,h3,Reps.same e h4⟩
 |.dcT ks l,v,h=>by unfold Rep at h ⊢;obtain⟨a,vs,h1,h2,h3,h4⟩:=h;exact⟨a,vs,h1,e.rd h2,h3,Reps.same e h4⟩
theorem Reps.same{K:xA9}{H H':Hp}(e:Same H H'):∀{l:η Dt}{vs:η V},Reps K H l vs->Reps K H' l vs
 |[],vs,h=>h
 |d::l,vs,h=>by unfold Reps at h ⊢;obtain⟨v,ws,h1,h2,h3⟩:=h;exact⟨v,ws,h1,Rep.same e h2,Reps.same e h3⟩
end
theorem Reps.length:∀{l:η Dt}{vs:η V},Reps K H l vs->vs.length=l.length
 |[],vs,h=>by unfold Reps at h;rw[h];rfl
 |d::l,vs,h=>by unfold Reps at h;obtain⟨v,U,rfl,_,h3⟩:=h;simp[Reps.length h3]
theorem Reps.get:∀{l:η Dt}{vs:η V}{i:Nat}{d:Dt},Reps K H l vs->l[i]?=ς d->∃v,vs[i]?=ς v/\Rep K H d v
 |[],vs,i,d,h,e=>by simp at e
 |d0::l,vs,0,d,h,e=>by unfold Reps at h;obtain⟨v,Y,rfl,h2,_⟩:=h;simp at e;subst e;exact⟨v,rfl,h2⟩
 |d0::l,vs,i+1,d,h,e=>by unfold Reps at h;obtain⟨v,Y,rfl,_,h3⟩:=h;obtain⟨u,W,U⟩:=Reps.get (i:=i) h3 (by simpa using e);exact⟨u,by simpa using W,U⟩
theorem Reps.append:∀{l m:η Dt}{vs U:η V},Reps K H l vs->Reps K H m U->Reps K H (l++m) (vs++U)
 |[],m,vs,U,h,h'=>by unfold Reps at h;rw[h];exact h'
 |d::l,m,vs,U,h,h'=>by unfold Reps at h;obtain⟨v,us,rfl,h2,h3⟩:=h;show Reps K H (d::(l++m)) (v::(us++U));unfold Reps;exact⟨v,_,rfl,h2,Reps.append h3 h'⟩
theorem Reps.one{d:Dt}(h:Rep K H d v):Reps K H [d] [v]:=by unfold Reps;exact⟨v,[],rfl,h,by unfold Reps;rfl⟩
theorem Reps.take:∀{l:η Dt}{vs:η V}(n:Nat),Reps K H l vs->Reps K H (l.take n) (vs.take n)
 |_,_,0,_=>by simp[Reps]
 |[],vs,n+1,h=>by unfold Reps at h;rw[h];simp[Reps]
 |d::l,vs,n+1,h=>by unfold Reps at h;obtain⟨v,us,rfl,h2,h3⟩:=h;show Reps K H (d::l.take n) (v::us.take n);unfold Reps;exact⟨v,_,rfl,h2,Reps.take n h3⟩
theorem Reps.drop:∀{l:η Dt}{vs:η V}(n:Nat),Reps K H l vs->Reps K H (l.drop n) (vs.drop n)
 |_,_,0,h=>h
 |[],vs,n+1,h=>by unfold Reps at h;rw[h];simp[Reps]
 |d::l,vs,n+1,h=>by unfold Reps at h;obtain⟨v,us,rfl,h2,h3⟩:=h;exact Reps.drop n h3
variable{u:η (Key×V)}
section
variable{X:Cx}{J1:η (J9×Obj)}{σ:St}{H:Hp}{s:qa3}{K:xA9}
theorem Inv.notBoth{ys:η V}(I:Inv X J1 σ H s)(h:SqL X.K H a xs)(h':SqT X.K H a ys):False:=by obtain⟨J8,r,Z,_⟩:=I.list h;obtain⟨its',r',pt,_⟩:=I.tuple h';obtain⟨o,n,e,Y,_⟩:=Z;obtain⟨o',W,U,_⟩:=pt;rw[e]at W;cases W;rw[Y]at U;injection U with z;exact absurd z Ω
theorem FD{w:η (Key×V)}(h:Rd H a (.dK u))(h':Rd H a (.dK w)):u=w:=by rcases h with h|⟨o,h⟩<;>rcases h' with h'|⟨o',h'⟩<;>rw[h]at h'<;>cases h'<;>rfl
theorem FE{u w:η (η Key×V)}(h:Rd H a (.dT u))(h':Rd H a (.dT w)):u=w:=by rcases h with h|⟨o,h⟩<;>rcases h' with h'|⟨o',h'⟩<;>rw[h]at h'<;>cases h'<;>rfl
def jK{u:HO}(h:Rd H a u):∃o,H a=ς o:=by
 rcases h with h|⟨o,h⟩
 .exact⟨_,h⟩
 .exact⟨_,h⟩
theorem Inv.kNone(I:Inv X J1 σ H s){o:Obj}(h:X.K.lookup a=ς o):H a=ψ:=(I.bs a o (I.ok.mod.kin a o h)).2
theorem Inv.sqT_dK(I:Inv X J1 σ H s)(h:SqT X.K H a xs)(h':Rd H a (.dK u)):False:=by
 rcases h with h|⟨o,_,_,h,_⟩
 .rcases h' with h'|⟨o',h'⟩<;>rw[h]at h'<;>cases h'
 .obtain⟨o',e⟩:=jK h';rw[I.kNone h]at e;cases e
theorem Inv.sqT_dT(I:Inv X J1 σ H s){u:η (η Key×V)}(h:SqT X.K H a xs)(h':Rd H a (.dT u)):False:=by
 rcases h with h|⟨o,_,_,h,_⟩
 .rcases h' with h'|⟨o',h'⟩<;>rw[h]at h'<;>cases h'
 .obtain⟨o',e⟩:=jK h';rw[I.kNone h]at e;cases e
theorem Inv.sqL_dK(I:Inv X J1 σ H s)(h:SqL X.K H a xs)(h':Rd H a (.dK u)):False:=by
 rcases h with h|⟨o,_,_,h,_⟩
 .rcases h with h|⟨o,h⟩<;>rcases h' with h'|⟨o',h'⟩<;>rw[h]at h'<;>cases h'
 .obtain⟨o',e⟩:=jK h';rw[I.kNone h]at e;cases e
theorem Inv.sqL_dT(I:Inv X J1 σ H s){u:η (η Key×V)}(h:SqL X.K H a xs)(h':Rd H a (.dT u)):False:=by
 rcases h with h|⟨o,_,_,h,_⟩
 .rcases h with h|⟨o,h⟩<;>rcases h' with h'|⟨o',h'⟩<;>rw[h]at h'<;>cases h'
 .obtain⟨o',e⟩:=jK h';rw[I.kNone h]at e;cases e
theorem wl{w:η (η Key×V)}(h:Rd H a (.dK u))(h':Rd H a (.dT w)):False:=by rcases h with h|⟨o,h⟩<;>rcases h' with h'|⟨o',h'⟩<;>rw[h]at h'<;>cases h'
noncomputable def bZ:Dt->Nat
 |.non=>0
 |.bl _=>1
 |.int _=>2
 |.str _=>3
 |.t _=>4
 |.e _=>5
 |.dct _ _=>6
 |.dcT _ _=>7
theorem db(I:Inv X J1 σ H s){d e:Dt}(h:Rep X.K H d v)(h':Rep X.K H e v):bZ d=bZ e:=by
 cases d<;>cases e<;>first
  |rfl
  |(simp only[Rep]at h h';subst h;cases h';done)
  |(simp only[Rep]at h h';obtain⟨_,_,e,_⟩:=h';rw[h]at e;cases e;done)
  |(simp only[Rep]at h h';obtain⟨_,_,e,_⟩:=h;rw[h']at e;cases e;done)
  | (simp only[Rep]at h h';obtain⟨_,_,rfl,h2,_⟩:=h;obtain⟨_,_,e,U,_⟩:=h';cases e
     first
      |exact(I.sqT_dK h2 U).elim
      |exact(I.sqT_dK U h2).elim
      |exact(I.sqT_dT h2 U).elim
      |exact(I.sqT_dT U h2).elim
      |exact(I.notBoth h2 U).elim
      |exact(I.notBoth U h2).elim
      |exact(I.sqL_dK h2 U).elim
      |exact(I.sqL_dK U h2).elim
      |exact(I.sqL_dT h2 U).elim
      |exact(I.sqL_dT U h2).elim
      |exact(wl h2 U).elim
      |exact(wl U h2).elim)
mutual
theorem m7(I:Inv X J1 σ H s):∀(d e:Dt)(v:V),Rep X.K H d v->Rep X.K H e v->peq d e=θ:=fun d=>by
 match d with
 |.t l=>
  intro e v h h';have hk:=db I h h';cases e<;>first|(simp[bZ]at hk;done)|skip
  simp only[Rep]at h h';obtain⟨a,vs,rfl,h2,h3⟩:=h;obtain⟨b,ws,e,h2',h3'⟩:=h';cases e;have:=I.tuple_inj h2 h2';subst this;simp only[peq];exact reps_inj I l _ _ h3 h3'
 |.e l=>
  intro e v h h';have hk:=db I h h';cases e<;>first|(simp[bZ]at hk;done)|skip
  simp only[Rep]at h h';obtain⟨a,vs,rfl,h2,h3⟩:=h;obtain⟨b,ws,e,h2',h3'⟩:=h';cases e;have:=I.list_inj h2 h2';subst this;simp only[peq];exact reps_inj I l _ _ h3 h3'
 |.dct ks l=>
  intro e v h h';have hk:=db I h h';cases e<;>first|(simp[bZ]at hk;done)|skip
  simp only[Rep]at h h';obtain⟨a,vs,rfl,h2,h3,h4⟩:=h;obtain⟨b,ws,e,h2',h3',h4'⟩:=h';cases e;have:=FD h2 h2';subst this;subst h3 h3';simp only[peq,decide_true,ql3];exact reps_inj I l _ _ h4 h4'
 |.dcT ks l=>
  intro e v h h';have hk:=db I h h';cases e<;>first|(simp[bZ]at hk;done)|skip
  simp only[Rep]at h h';obtain⟨a,vs,rfl,h2,h3,h4⟩:=h;obtain⟨b,ws,e,h2',h3',h4'⟩:=h';cases e;have:=FE h2 h2';subst this;subst h3 h3';simp only[peq,decide_true,ql3];exact reps_inj I l _ _ h4 h4'
 |.non=>intro e v h h';have hk:=db I h h';cases e<;>first|(simp[bZ]at hk;done)|simp only[peq]
 |.bl b=>intro e v h h';have hk:=db I h h';cases e<;>first|(simp[bZ]at hk;done)|(simp only[Rep]at h h';rw[h]at h';cases h';exact ii _)
 |.int b=>intro e v h h';have hk:=db I h h';cases e<;>first|(simp[bZ]at hk;done)|(simp only[Rep]at h h';rw[h]at h';cases h';exact ii _)
 |.str b=>intro e v h h';have hk:=db I h h';cases e<;>first|(simp[bZ]at hk;done)|(simp only[Rep]at h h';rw[h]at h';cases h';exact ii _)
theorem reps_inj(I:Inv X J1 σ H s):∀(l m:η Dt)(vs:η V),Reps X.K H l vs->Reps X.K H m vs->peqs l m=θ:=fun l=>by
 match l with
 |[]=>
  intro m vs h h';cases m with
  |nil=>simp only[peqs]
  |cons e m=>unfold Reps at h h';obtain⟨v,ws,e,_⟩:=h';rw[h]at e;cases e
 |d::l=>
  intro m vs h h';cases m with
  |nil=>unfold Reps at h h';obtain⟨v,ws,e,_⟩:=h;rw[h']at e;cases e
  |cons e m=>unfold Reps at h h';obtain⟨v,ws,rfl,h2,h3⟩:=h;obtain⟨v',ws',e',h2',h3'⟩:=h';cases e';simp only[peqs,m7 I d _ _ h2 h2',reps_inj I l _ _ h3 h3',zd2]
end
end
end L2
namespace L2
open PySem PySem.Spec PyProof.Rows
mutual
def dY:Dt->Dt->Bool
 |.t l,.t m=>cmpbs l m
 |.e l,.e m=>cmpbs l m
 |d,e=>decide (bZ d<4)&&decide (bZ e<4)
def cmpbs:η Dt->η Dt->Bool
 |d::l,e::m=>dY d e&&cmpbs l m
 |_,_=>θ
end
theorem eR:∀{l m:η Dt}{j:Nat}{d e:Dt},cmpbs l m=θ->l[j]?=ς d->m[j]?=ς e->dY d e=θ
 |[],_,j,d,e,_,h,_=>by simp at h
 |_::_,[],j,d,e,_,_,h=>by simp at h
 |d0::l,e0::m,0,d,e,h,h1,h2=>by simp only[cmpbs,qa9]at h;simp at h1 h2;subst h1 h2;exact h.1
 |d0::l,e0::m,j+1,d,e,h,h1,h2=>by simp only[cmpbs,qa9]at h;exact eR (j:=j) h.2 (by simpa using h1) (by simpa using h2)
theorem f8:∀{l:η Dt}{j:Nat}{d:Dt},l[j]?=ς d->ij d<=deeps l
 |[],j,d,h=>by simp at h
 |d0::l,0,d,h=>by simp at h;subst h;simp only[deeps];exact Nat.le_max_left ..
 |d0::l,j+1,d,h=>by simp only[deeps];exact qc0 (f8 (j:=j) (by simpa using h)) (Nat.le_max_right ..)
def cA(l m:η Dt)(j:Nat):Bool:=peq (l.getD j .non) (m.getD j .non)
theorem dG:∀(l m:η Dt),peqs l m=((qb7 (min l.length m.length)).all (cA l m)&&l.length==m.length)
 |[],[]=>by simp[peqs]
 |[],_::_=>by simp[peqs]
 |_::_,[]=>by simp[peqs]
 |d::l,e::m=>by
  have Y:=dG l m;simp only[peqs,Y,qe4];rw[show min (l.length+1) (m.length+1)=min l.length m.length+1 by lia,List.range_succ_eq_map,qm2,List.all_map];have W:cA (d::l) (e::m) 0=peq d e:=rfl
  have U:(cA (d::l) (e::m) ∘ Nat.succ)=cA l m:=by funext j;rfl
  have Z:(l.length+1==m.length+1)=(l.length==m.length):=by rw[qj0];simp
  rw[W,U,Z,Bool.and_assoc]
variable{K:xA9}
section
variable{X:Cx}{J1:η (J9×Obj)}{σ:St}{H:Hp}{s:qa3}
theorem cH{l:η Dt}{vs:η V}{J8:η Value}(h:Reps X.K H l vs)(r:Vals vs J8){j:Nat}(Y:j<J8.length):∃d v,l[j]?=ς d/\Rep X.K H d v/\RelV v J8[j]:=by
 have U:j<l.length:=by rw[<- h.length,r.length];exact Y
 obtain⟨v,e1,Z⟩:=h.get (i:=j) (d:=l[j]) (by simp[U]);obtain⟨u,W,e4⟩:=r.get e1
 have:J8[j]=u:=by have:=gQ Y;rw[this]at W;exact qd6 W
 exact⟨l[j],v,by simp[U],Z,by rw[this];exact e4⟩
theorem Bu(I:Inv X J1 σ H s):∀(n:Nat){A:qe1}{d e:Dt}{v w:V}{u u':Value},ij d<=n->A.units+n<cLine->dY d e=θ->Rep X.K H d v->Rep X.K H e w->RelV v u->RelV w u'->qh2 A s u u' (peq d e):=by
 intro n;induction n with
 |zero=>
  intro A d e v w u u' hd hu W h h' r r'
  cases d<;>cases e<;>first
   |(simp only[Rep]at h h';subst h h';exact iR r r' rfl rfl)
   |(simp only[ij]at hd;lia)
   |(simp[dY,bZ]at W)
 |succ n ih=>
  intro A d e v w u u' hd hu W h h' r r';cases d with
  |t l=>
   cases e with
   |t m=>
    have h0:=h;have h0':=h';simp only[Rep]at h h';obtain⟨a,vs,rfl,h2,h3⟩:=h;obtain⟨b,ws,rfl,U,h3'⟩:=h';cases r;cases r';by_cases Z:a=b
    .subst Z;have:=m7 I _ _ _ h0 h0';rw[this];exact zg9 _
    obtain⟨J8,rv,pt,_⟩:=I.tuple h2;obtain⟨its',rv',pt',_⟩:=I.tuple U;have n1:J8.length=l.length:=by rw[<- h3.length,rv.length]
    have n2:its'.length=m.length:=by rw[<- h3'.length,rv'.length]
    simp only[peq];rw[dG,<- n1,<- n2];simp only[ij]at hd;simp only[dY]at W
    have key:=zb8.tuples (A:=A) (e:=cA l m) pt pt' Θ (fun j h1 h2=>by
     have h1':j<J8.length:=by simpa using h1
     have U:j<its'.length:=by simpa using h2
     obtain⟨d,v,g1,g2,g3⟩:=cH h3 rv h1';obtain⟨e,w,g1',g2',g3'⟩:=cH h3' rv' U;have:cA l m j=peq d e:=by unfold cA;rw[qb4,qb4,g1,g1'];rfl
     rw[this];have:=ih (A:=A.in1) (qc0 (f8 g1) Θ) (show A.units+1+n<cLine by lia) (eR W g1 g1') g2 g2' g3 g3';simpa using this)
    have key':zb8 A s (.ref a) (.ref b) ((qb7 (min J8.length its'.length)).all (cA l m)&&J8.length==its'.length):=by simpa using key
    exact za6 Z key'
   |_=>exact absurd W (by simp[dY,bZ])
  |e l=>
   cases e with
   |e m=>
    have h0:=h;have h0':=h';simp only[Rep]at h h';obtain⟨a,vs,rfl,h2,h3⟩:=h;obtain⟨b,ws,rfl,U,h3'⟩:=h';cases r;cases r';by_cases Z:a=b
    .subst Z;have:=m7 I _ _ _ h0 h0';rw[this];exact zg9 _
    obtain⟨J8,rv,pt,_⟩:=I.list h2;obtain⟨its',rv',pt',_⟩:=I.list U;have n1:J8.length=l.length:=by rw[<- h3.length,rv.length]
    have n2:its'.length=m.length:=by rw[<- h3'.length,rv'.length]
    simp only[peq];rw[dG,<- n1,<- n2];simp only[ij]at hd;simp only[dY]at W;by_cases Y:J8.length=its'.length
    .have key:=zb8.lists (A:=A) (e:=cA l m) pt.isList pt'.isList (by simpa using Y) Θ (fun j h1 h2=>by
      have h1':j<J8.length:=by simpa using h1
      have U:j<its'.length:=by simpa using h2
      obtain⟨d,v,g1,g2,g3⟩:=cH h3 rv h1';obtain⟨e,w,g1',g2',g3'⟩:=cH h3' rv' U;have:cA l m j=peq d e:=by unfold cA;rw[qb4,qb4,g1,g1'];rfl
      rw[this];have:=ih (A:=A.in1) (qc0 (f8 g1) Θ) (show A.units+1+n<cLine by lia) (eR W g1 g1') g2 g2' g3 g3';simpa using this)
     have e1:(J8.length==its'.length)=θ:=by simpa using Y
     rw[e1,qu9,show min J8.length its'.length=J8.length by lia];exact za6 Z (by simpa using key)
    .have e1:(J8.length==its'.length)=ξ:=by simpa using Y
     rw[e1,qw2];exact za6 Z (zb9 pt.isList pt'.isList (by simpa using Y) Θ)
   |_=>exact absurd W (by simp[dY,bZ])
  |non=>cases e<;>first|(simp only[Rep]at h h';subst h h';exact iR r r' rfl rfl)|(simp[dY,bZ]at W)
  |bl b=>cases e<;>first|(simp only[Rep]at h h';subst h h';exact iR r r' rfl rfl)|(simp[dY,bZ]at W)
  |int b=>cases e<;>first|(simp only[Rep]at h h';subst h h';exact iR r r' rfl rfl)|(simp[dY,bZ]at W)
  |str b=>cases e<;>first|(simp only[Rep]at h h';subst h h';exact iR r r' rfl rfl)|(simp[dY,bZ]at W)
  |dct ks l=>cases e<;>(simp[dY,bZ]at W)
  |dcT ks l=>cases e<;>(simp[dY,bZ]at W)
theorem Bv (I:Inv X J1 σ H s) {A:qe1} {d e:Dt} {v w:V} {u u':Value} (hq:(∃ l m,d=.t l/\e=.t m)∨∃ l m,d=.e l/\e=.e m) (hu:A.units+ij d<cLine) (hc:dY d e=θ) (h:Rep X.K H d v) (h':Rep X.K H e w) (r:RelV v u) (r':RelV w u') :
  zb8 A s u u' (peq d e)/\zh2 A s u u' (!peq d e):=by
 rcases hq with ⟨l,m,rfl,rfl⟩|⟨l,m,rfl,rfl⟩
 .simp only[Rep]at h h';obtain⟨a,vs,rfl,h2,h3⟩:=h;obtain⟨b,ws,rfl,W,h3'⟩:=h';cases r;cases r';obtain⟨J8,rv,pt,_⟩:=I.tuple h2;obtain⟨its',rv',Y,_⟩:=I.tuple W;have n1:J8.length=l.length:=by rw[<- h3.length,rv.length]
  have n2:its'.length=m.length:=by rw[<- h3'.length,rv'.length]
  simp only[peq];rw[dG,<- n1,<- n2];simp only[ij]at hu;simp only[dY]at hc
  have he:∀j (h1:j<J8.toArray.size)(h2:j<its'.toArray.size),qh2 A.in1 s J8.toArray[j] its'.toArray[j] (cA l m j):=fun j h1 h2=>by
   have h1':j<J8.length:=by simpa using h1
   have W:j<its'.length:=by simpa using h2
   obtain⟨d,v,g1,g2,g3⟩:=cH h3 rv h1';obtain⟨e,w,Z,g2',g3'⟩:=cH h3' rv' W;have:cA l m j=peq d e:=by unfold cA;rw[qb4,qb4,g1,Z];rfl
   rw[this];have:=Bu I (deeps l) (A:=A.in1) (f8 g1) (show A.units+1+deeps l<cLine by lia) (eR hc g1 Z) g2 g2' g3 g3';simpa using this
  exact⟨by simpa using zb8.tuples (A:=A) (e:=cA l m) pt Y Θ he,by simpa using zh2.tuples (A:=A) (e:=cA l m) pt Y Θ he⟩
 .simp only[Rep]at h h';obtain⟨a,vs,rfl,h2,h3⟩:=h;obtain⟨b,ws,rfl,W,h3'⟩:=h';cases r;cases r';obtain⟨J8,rv,pt,_⟩:=I.list h2;obtain⟨its',rv',Y,_⟩:=I.list W;have n1:J8.length=l.length:=by rw[<- h3.length,rv.length]
  have n2:its'.length=m.length:=by rw[<- h3'.length,rv'.length]
  simp only[peq];rw[dG,<- n1,<- n2];simp only[ij]at hu;simp only[dY]at hc;by_cases U:J8.length=its'.length
  .have he:∀j (h1:j<J8.toArray.size)(h2:j<its'.toArray.size),qh2 A.in1 s J8.toArray[j] its'.toArray[j] (cA l m j):=fun j h1 h2=>by
    have h1':j<J8.length:=by simpa using h1
    have W:j<its'.length:=by simpa using h2
    obtain⟨d,v,g1,g2,g3⟩:=cH h3 rv h1';obtain⟨e,w,Z,g2',g3'⟩:=cH h3' rv' W;have:cA l m j=peq d e:=by unfold cA;rw[qb4,qb4,g1,Z];rfl
    rw[this];have:=Bu I (deeps l) (A:=A.in1) (f8 g1) (show A.units+1+deeps l<cLine by lia) (eR hc g1 Z) g2 g2' g3 g3';simpa using this
   have e1:(J8.length==its'.length)=θ:=by simpa using U
   rw[e1,qu9,show min J8.length its'.length=J8.length by lia];exact⟨by simpa using zb8.lists (A:=A) (e:=cA l m) pt.isList Y.isList (by simpa using U) Θ he,by simpa using zh2.lists (A:=A) (e:=cA l m) pt.isList Y.isList (by simpa using U) Θ he⟩
  .have e1:(J8.length==its'.length)=ξ:=by simpa using U
   rw[e1,qw2];exact⟨zb9 pt.isList Y.isList (by simpa using U) Θ,zh2.lists_lengths pt.isList Y.isList (by simpa using U) Θ⟩
def zJ(K:xA9)(neg:Bool):R2:=fun x y H Q=>∃d e,((∃l m,d=.t l/\e=.t m)∨∃l m,d=.e l/\e=.e m)/\Rep K H d x/\Rep K H e y/\dY d e=θ/\ij d<=60/\Q (.bl (if neg then !peq d e else peq d e)) H
theorem Dc{k:Nat}(hr:Room k X.A)(Z:X.K=K):OpR X (qh8 .Eq) (zJ K ξ):=by subst Z;intro J1 s σ H x y v u Q I W ry h;obtain⟨d,e,Y,U,he,hc,hdp,q⟩:=h;have hu:=hr.units;exact(Bv I Y Θ hc U he W ry).1 _ _ _ _ ⟨.bl (peq d e),H,I,rfl,q⟩
theorem Df{k:Nat}(hr:Room k X.A)(Z:X.K=K):OpR X (qh8 .NotEq) (zJ K θ):=by subst Z;intro J1 s σ H x y v u Q I W ry h;obtain⟨d,e,Y,U,he,hc,hdp,q⟩:=h;have hu:=hr.units;exact(Bv I Y Θ hc U he W ry).2 _ _ _ _ ⟨.bl (!peq d e),H,I,rfl,q⟩
end
end L2
namespace L2
open PySem PySem.Spec PyProof.Rows
abbrev NT(o:HO):Prop:=∀vs,o≠.t vs
structure Step(F H F' H':Hp):Prop where
 hh:Same H H'
 ff:Same F F'
 fh:Same F' H'
 nw:∀b o,F' b=ς o->F b=ς o∨H b=ψ∨∃vs,H b=ς (.t vs)
variable{u:HO}
section
variable{F H F' H' F1 H1:Hp}{p:J9}{o:HO}
theorem Step.refl(h:Same F H):Step F H F H:=⟨Same.refl _,Same.refl _,h,fun _ _ e=>.inl e⟩
theorem Step.trans(a:Step F H F1 H1)(b:Step F1 H1 F' H'):Step F H F' H':=
 ⟨a.hh.trans b.hh,a.ff.trans b.ff,b.fh,fun c o e=>by
  rcases b.nw c o e with z|z|⟨vs,z⟩
  .exact a.nw c o z
  .exact .inr (.inl (a.hh.free z))
  .cases q:H c with
   |none=>exact .inr (.inl rfl)
   |some u=>have:=a.hh c u q;rw[z]at this;cases this;exact .inr (.inr ⟨vs,rfl⟩)⟩
theorem Same.upd(hp:H p=ψ):Same H (upd H p o):=fun b u e=>by rw[aq (bA e hp)];exact e
theorem Step.new(h:Same F H)(hp:H p=ψ):Step F H (upd F p o) (upd H p o) where
 hh:=Same.upd hp
 ff:=Same.upd (h.free hp)
 fh:=fun b u e=>by
  by_cases U:b=p
  .subst U;rw[aw]at e ⊢;exact e
  .rw[aq U]at e ⊢;exact h _ _ e
 nw:=fun b u e=>by
  by_cases U:b=p
  .subst U;exact .inr (.inl hp)
  .rw[aq U]at e;exact .inl e
theorem Step.keepN{b:J9}(st:Step F H F' H')(W:F b=ψ)(U:H b=ς u)(Y:NT u:=by intro _ z;cases z):F' b=ψ:=by
 cases q:F' b with
 |none=>rfl
 |some o'=>
  rcases st.nw b o' q with z|z|⟨vs,z⟩
  .rw[W]at z;cases z
  .rw[U]at z;cases z
  .rw[U]at z;cases z;exact absurd rfl (Y vs)
theorem Step.made(h:Same F H)(hp:H p=ψ):Step F H F (upd H p o) where
 hh:=Same.upd hp
 ff:=Same.refl _
 fh:=h.trans (Same.upd hp)
 nw:=fun b u e=>.inl e
end
inductive T where
 |f (d:Dt)|e (l:List Dt)|dct (l:List (Key×Dt))|dcT (l:List (List Key×Dt))|fn (a:J9) (F0:Hp)|two (l m:List Dt)
noncomputable def T.d:T->ζ Dt
 |.f d=>ς d
 |.e l=>ς (.e l)
 |.dct l=>ς (.dct (l.map (·.1)) (l.map (·.2)))
 |.dcT l=>ς (.dcT (l.map (·.1)) (l.map (·.2)))
 |.fn _ _|.two _ _=>ψ
def T.z:T->ζ Dt
 |.two l m=>ς (.t [.e l,.e m])
 |t=>t.d
theorem T.zd{t:T}{d:Dt}(h:t.d=ς d):t.z=ς d:=by cases t<;>first|exact h|cases h
def T.own:T->Bool
 |.f _|.fn _ _|.two _ _=>ξ
 |_=>θ
def Own(K:xA9)(F H:Hp):T->V->(J9->Prop)->Prop
 |.f d,v,_=>Rep K F d v
 |.e l,v,S=>∃a vs,v=.ref a/\S a/\H a=ς (.e vs)/\Reps K F l vs
 |.dct l,v,S=>∃a J6,v=.ref a/\S a/\H a=ς (.dK J6)/\J6.map (·.1)=l.map (·.1)/\Reps K F (l.map (·.2)) (J6.map (·.2))
 |.dcT l,v,S=>∃a J6,v=.ref a/\S a/\H a=ς (.dT J6)/\J6.map (·.1)=l.map (·.1)/\Reps K F (l.map (·.2)) (J6.map (·.2))
 |.fn a F0,v,_=>v=.ref a/\Same F0 F
 |.two l m,v,S=>∃t a b vs us,v=.ref t/\SqT K F t [.ref a,.ref b]/\S a/\S b/\a≠b/\H a=ς (.e vs)/\H b=ς (.e us)/\Reps K F l vs/\Reps K F m us
def RepB(K:xA9)(F H:Hp):Dt->V->Prop
 |.e l,v=>∃a vs,v=.ref a/\SqL K H a vs/\Reps K F l vs
 |.dct ks l,v=>∃a J6,v=.ref a/\Rd H a (.dK J6)/\J6.map (·.1)=ks/\Reps K F l (J6.map (·.2))
 |.dcT ks l,v=>∃a J6,v=.ref a/\Rd H a (.dT J6)/\J6.map (·.1)=ks/\Reps K F l (J6.map (·.2))
 |.non,v=>v=.non
 |.bl b,v=>v=.bl b
 |.int i,v=>v=.int i
 |.str x,v=>v=.str x
 |.t l,v=>∃a vs,v=.ref a/\SqT K F a vs/\Reps K F l vs
variable{S':J9->Prop}
section
variable{K:xA9}{F H F' H':Hp}{t:T}{v:V}{d:Dt}{S:J9->Prop}
theorem Own.step(U:Same F F')(Y:∀b o,S b->H b=ς o->H' b=ς o)(h:Own K F H t v S):Own K F' H' t v S:=by
 induction t with
 |f d=>exact Rep.same U h
 |e l=>obtain⟨a,vs,e,W,h1,h2⟩:=h;exact⟨a,vs,e,W,Y _ _ W h1,h2.same U⟩
 |dct l=>obtain⟨a,vs,e,W,h1,h2,h3⟩:=h;exact⟨a,vs,e,W,Y _ _ W h1,h2,h3.same U⟩
 |dcT l=>obtain⟨a,vs,e,W,h1,h2,h3⟩:=h;exact⟨a,vs,e,W,Y _ _ W h1,h2,h3.same U⟩
 |fn a F0=>exact⟨h.1,h.2.trans U⟩
 |two l m=>obtain⟨t,a,b,vs,us,e,h1,Z,sb,ne,h2,h3,h4,h5⟩:=h;exact⟨t,a,b,vs,us,e,U.tup h1,Z,sb,ne,Y _ _ Z h2,Y _ _ sb h3,h4.same U,h5.same U⟩
theorem Own.grow(U:∀b,S b->S' b)(h:Own K F H t v S):Own K F H t v S':=by
 induction t with
 |f d=>exact h
 |e l=>obtain⟨a,vs,e,q,h1⟩:=h;exact⟨a,vs,e,U _ q,h1⟩
 |dct l=>obtain⟨a,vs,e,q,h1⟩:=h;exact⟨a,vs,e,U _ q,h1⟩
 |dcT l=>obtain⟨a,vs,e,q,h1⟩:=h;exact⟨a,vs,e,U _ q,h1⟩
 |fn a F0=>exact h
 |two l m=>obtain⟨t,a,b,vs,us,e,h1,W,Y,h2⟩:=h;exact⟨t,a,b,vs,us,e,h1,U _ W,U _ Y,h2⟩
theorem RepB.of(U:Same F H)(h:Rep K F d v):RepB K F H d v:=by
 cases d with
 |e l=>simp only[Rep]at h;obtain⟨a,vs,e,h1,h2⟩:=h;exact⟨a,vs,e,U.seq h1,h2⟩
 |dct ks l=>simp only[Rep]at h;obtain⟨a,vs,e,h1,h2⟩:=h;exact⟨a,vs,e,U.rd h1,h2⟩
 |dcT ks l=>simp only[Rep]at h;obtain⟨a,vs,e,h1,h2⟩:=h;exact⟨a,vs,e,U.rd h1,h2⟩
 |t l=>simp only[Rep]at h;exact h
 |_=>simp only[Rep]at h;exact h
theorem RepB.rep(U:Same F H)(h:RepB K F H d v):Rep K H d v:=by
 cases d with
 |e l=>obtain⟨a,vs,e,h1,h2⟩:=h;simp only[Rep];exact⟨a,vs,e,h1,h2.same U⟩
 |dct ks l=>obtain⟨a,vs,e,h1,h2,h3⟩:=h;simp only[Rep];exact⟨a,vs,e,h1,h2,h3.same U⟩
 |dcT ks l=>obtain⟨a,vs,e,h1,h2,h3⟩:=h;simp only[Rep];exact⟨a,vs,e,h1,h2,h3.same U⟩
 |t l=>obtain⟨a,vs,e,h1,h2⟩:=h;simp only[Rep];exact⟨a,vs,e,U.tup h1,h2.same U⟩
 |_=>simp only[Rep];exact h
theorem RepB.step(U:Same F F')(W:Same H H')(h:RepB K F H d v):RepB K F' H' d v:=by
 cases d with
 |e l=>obtain⟨a,vs,e,h1,h2⟩:=h;exact⟨a,vs,e,W.seq h1,h2.same U⟩
 |dct ks l=>obtain⟨a,vs,e,h1,h2,h3⟩:=h;exact⟨a,vs,e,W.rd h1,h2,h3.same U⟩
 |dcT ks l=>obtain⟨a,vs,e,h1,h2,h3⟩:=h;exact⟨a,vs,e,W.rd h1,h2,h3.same U⟩
 |t l=>obtain⟨a,vs,e,h1,h2⟩:=h;exact⟨a,vs,e,U.tup h1,h2.same U⟩
 |_=>exact h
theorem Own.repB(W:Same F H)(h:Own K F H t v S)(U:t.d=ς d):RepB K F H d v:=by
 cases t with
 |f d=>cases U;exact RepB.of W h
 |e l=>cases U;obtain⟨a,vs,e,_,h1,h2⟩:=h;exact⟨a,vs,e,SqL.of h1,h2⟩
 |dct l=>cases U;obtain⟨a,vs,e,_,h1,h2⟩:=h;exact⟨a,vs,e,.inl h1,h2⟩
 |dcT l=>cases U;obtain⟨a,vs,e,_,h1,h2⟩:=h;exact⟨a,vs,e,.inl h1,h2⟩
 |fn a F0=>cases U
 |two l m=>cases U
open Classical in
def m8(F H:Hp)(S:J9->Prop):Hp:=fun b=>if S b then H b else F b
def fj{b:J9}(h:S b):m8 F H S b=H b:=if_pos h
def de{b:J9}(h:¬ S b):m8 F H S b=F b:=if_neg h
theorem il(U:∀b,S b->F b=ψ):Same F (m8 F H S):=fun b o e=>by
 have:¬ S b:=fun z=>by rw[U b z]at e;cases e
 rw[de this];exact e
theorem jL(U:Same F H):Same (m8 F H S) H:=fun b o e=>by
 by_cases h:S b
 .rw[fj h]at e;exact e
 .rw[de h]at e;exact U _ _ e
theorem Own.freeze(hs:∀b,S b->F b=ψ)(h:Own K F H t v S)(W:t.z=ς d):Rep K (m8 F H S) d v:=by
 have U:=il (H:=H) hs;cases t with
 |f d=>cases W;exact Rep.same U h
 |e l=>cases W;obtain⟨a,vs,e,q,h1,h2⟩:=h;simp only[Rep];exact⟨a,vs,e,SqL.of (by rw[fj q];exact h1),h2.same U⟩
 |dct l=>cases W;obtain⟨a,vs,e,q,h1,h2,h3⟩:=h;simp only[Rep];exact⟨a,vs,e,.inl (by rw[fj q];exact h1),h2,h3.same U⟩
 |dcT l=>cases W;obtain⟨a,vs,e,q,h1,h2,h3⟩:=h;simp only[Rep];exact⟨a,vs,e,.inl (by rw[fj q];exact h1),h2,h3.same U⟩
 |fn a F0=>cases W
 |two l m=>cases W;obtain⟨t,a,b,vs,us,e,h1,Y,Z,_,h2,h3,h4,h5⟩:=h;simp only[Rep,Reps];exact⟨t,_,e,U.tup h1,_,_,rfl,⟨a,vs,rfl,SqL.of (by rw[fj Y];exact h2),h4.same U⟩,_,_,rfl,⟨b,us,rfl,SqL.of (by rw[fj Z];exact h3),h5.same U⟩,rfl⟩
end
abbrev Ix:=Nat
abbrev De:=η (ζ T)
structure Sep(K:xA9)(F H:Hp)(B:J9->Prop)(L:Ix->Option (T×V))(S:Ix->J9->Prop):Prop where
 own:∀i t v,L i=ς (t,v)->Own K F H t v (S i)
 out:∀i b,S i b->F b=ψ/\(∃o,H b=ς o/\NT o)/\B b
 dis:∀i j b,S i b->S j b->i=j
def oJ(δ:De)(σ:St)(i:Nat):ζ (T×V):=match δ[i]?,σ[i]? with
 |some (ς t),ς (ς v)=>ς (t,v)
 |_,_=>ψ
structure Fm where
 K:xA9
 F0:Hp
 H0:Hp
 S0:J9->Prop
def Fm.B(Φ:Fm)(b:J9):Prop:=Φ.H0 b=ψ∨Φ.S0 b
structure En(Φ:Fm)(δ:De)(σ:St)(F H:Hp):Prop where
 fh:Same F H
 prot:∀b o,Φ.H0 b=ς o->¬ Φ.S0 b->H b=ς o
 old:Same Φ.F0 F
 nw:∀b o,F b=ς o->Φ.F0 b=ς o∨Φ.B b∨∃vs,Φ.H0 b=ς (.t vs)
 len:δ.length=σ.length
 has:∀(i:Nat)(t:T),δ[i]?=ς (ς t)->∃v,σ[i]?=ς (ς v)
 sep:∃S,Sep Φ.K F H Φ.B (oJ δ σ) S
variable{i j:Nat}{v:V}{p a:J9}{K:xA9}
section
variable{Φ:Fm}{δ:De}{σ:St}{F H F' H':Hp}
theorem aR{t:T}(h1:δ[i]?=ς (ς t))(h2:σ[i]?=ς (ς v)):oJ δ σ i=ς (t,v):=by unfold oJ;rw[h1,h2]
theorem cb{t:T}(h:oJ δ σ i=ς (t,v)):δ[i]?=ς (ς t)/\σ[i]?=ς (ς v):=by
 unfold oJ at h;split at h
 .rename_i W U;cases h;exact⟨W,U⟩
 .cases h
def En.fresh(e:En Φ δ σ F H)(hp:H p=ψ):Φ.B p:=by
 by_cases h:Φ.S0 p
 .exact .inr h
 .left;cases q:Φ.H0 p with
  |none=>rfl
  |some o=>rw[e.prot p o q h]at hp;cases hp
theorem Sep.step{B:J9->Prop}{L:Ix->ζ (T×V)}{S:Ix->J9->Prop}(s:Sep K F H B L S)(st:Step F H F' H'):Sep K F' H' B L S where
 own:=fun i t v h=>(s.own i t v h).step st.ff fun b o _ e=>st.hh b o e
 out:=fun i b h=>by obtain⟨h1,⟨o,h2,U⟩,h3⟩:=s.out i b h;exact⟨st.keepN h1 h2 U,⟨o,st.hh _ _ h2,U⟩,h3⟩
 dis:=s.dis
theorem En.step(e:En Φ δ σ F H)(st:Step F H F' H'):En Φ δ σ F' H' where
 fh:=st.fh
 prot:=fun b o h1 h2=>st.hh _ _ (e.prot b o h1 h2)
 old:=e.old.trans st.ff
 nw:=fun b o h=>by
  rcases st.nw b o h with z|z|⟨vs,z⟩
  .exact e.nw b o z
  .exact .inr (.inl (e.fresh z))
  .cases q:Φ.H0 b with
   |none=>exact .inr (.inl (.inl q))
   |some u=>
    by_cases U:Φ.S0 b
    .exact .inr (.inl (.inr U))
    .rw[e.prot b u q U]at z;cases z;exact .inr (.inr ⟨vs,rfl⟩)
 len:=e.len
 has:=e.has
 sep:=let ⟨S,s⟩:=e.sep;⟨S,s.step st⟩
theorem En.slot(e:En Φ δ σ F H){t:T}{d:Dt}(h:δ[i]?=ς (ς t))(W:t.d=ς d):∃v,σ[i]?=ς (ς v)/\RepB Φ.K F H d v:=by obtain⟨v,U⟩:=e.has i t h;obtain⟨S,s⟩:=e.sep;exact⟨v,U,(s.own i t v (aR h U)).repB e.fh W⟩
theorem En.leaf(e:En Φ δ σ F H){d:Dt}(h:δ[i]?=ς (ς (.f d))):∃v,σ[i]?=ς (ς v)/\Rep Φ.K F d v:=by obtain⟨v,U⟩:=e.has i _ h;obtain⟨S,s⟩:=e.sep;exact⟨v,U,s.own i _ v (aR h U)⟩
theorem cC{α:Type}{l:η (ζ α)}{x y:ζ α}(h:(l.set i x)[j]?=ς y):(i=j/\y=x)∨(i≠j/\l[j]?=ς y):=by
 by_cases U:i=j
 .subst U;left;rw[zc0]at h;simp only[if_true]at h;split at h
  .cases h;exact⟨rfl,rfl⟩
  .cases h
 .right;rw[gN U]at h;exact⟨U,h⟩
theorem En.put(e:En Φ δ σ F H){t:T}(st:Step F H F' H')(ho:Own Φ.K F' H' t v S')(hs:∀b,S' b->F' b=ψ/\H b=ψ/\∃o,H' b=ς o/\NT o)(i:Nat):En Φ (δ.set i (ς t)) (σ.set i (ς v)) F' H':=by
 have Y:=e.step st;obtain⟨S,s⟩:=e.sep;have s':=s.step st;refine⟨Y.fh,Y.prot,Y.old,Y.nw,by simp[e.len],fun j u h=>?_,fun j b=>if j=i then S' b else S j b,?_,?_,?_⟩
 .rcases cC h with ⟨rfl,z⟩|⟨Z,z⟩
  .have hi:i<σ.length:=by rw[<- e.len];have:=(gX h).1;simpa using this
   exact⟨v,by simp[hi]⟩
  .obtain⟨w,hw⟩:=e.has j u z;exact⟨w,by rw[gN Z];exact hw⟩
 .intro j u w h;obtain⟨h1,h2⟩:=cb h;rcases cC h1 with ⟨rfl,z⟩|⟨Z,z⟩
  .rcases cC h2 with ⟨_,W⟩|⟨hn2,_⟩
   .cases z;cases W;show Own _ _ _ _ _ (fun b=>if i=i then S' b else S i b);simp only[if_true];exact ho
   .exact absurd rfl hn2
  .rcases cC h2 with ⟨W,_⟩|⟨_,W⟩
   .exact absurd W Z
   .have:¬ j=i:=fun q=>Z q.symm
    show Own _ _ _ _ _ (fun b=>if j=i then S' b else S j b);simp only[if_neg this];exact s'.own j u w (aR z W)
 .intro j b h;split at h
  .obtain⟨h1,h2,h3⟩:=hs b h;exact⟨h1,h3,e.fresh h2⟩
  .exact s'.out _ b h
 .have U:∀j b,S j b->¬ S' b:=fun j b h z=>by obtain⟨_,⟨o,h2,_⟩,_⟩:=s.out j b h;rw[(hs b z).2.1]at h2;cases h2
  intro j k b hj hk;split at hj<;>split at hk
  .rename_i q1 q2;rw[q1,q2]
  .exact absurd hj (U _ b hk)
  .exact absurd hk (U _ b hj)
  .exact s.dis _ _ b hj hk
theorem ul{t:T}{S:J9->Prop}(U:t.own=θ)(h:Own K F H t (.ref a) S):S a:=by
 cases t with
 |f d=>cases U
 |e l=>obtain⟨b,_,e,q,_⟩:=h;cases e;exact q
 |dct l=>obtain⟨b,_,e,q,_⟩:=h;cases e;exact q
 |dcT l=>obtain⟨b,_,e,q,_⟩:=h;cases e;exact q
 |fn b F0=>cases U
 |two l m=>cases U
theorem En.poke (e:En Φ δ σ F H) {t t':T} {o:HO} (h:δ[i]?=ς (ς t)) (U:σ[i]?=ς (ς (.ref a))) (ht:t.own=θ) (ho:∀ S:J9->Prop,S a->Own Φ.K F (upd H a o) t' (.ref a) S) (nt:NT o:=by intro _ z;cases z) :
  En Φ (δ.set i (ς t')) σ F (upd H a o):=by
 obtain⟨S,s⟩:=e.sep;have W:S i a:=ul ht (s.own i t _ (aR h U));obtain⟨fa,⟨oa,ha,_⟩,ba⟩:=s.out _ a W;have hi:i<δ.length:=(gX h).1;refine⟨fun b u z=>?_,fun b u h1 h2=>?_,e.old,e.nw,by simp[e.len],fun j u z=>?_,S,fun j u w z=>?_,fun j b z=>?_,s.dis⟩
 .have:b≠a:=fun q=>by rw[q,fa]at z;cases z
  rw[aq this];exact e.fh _ _ z
 .have:b≠a:=fun q=>by
   subst q;rcases ba with z|z
   .rw[z]at h1;cases h1
   .exact h2 z
  rw[aq this];exact e.prot b u h1 h2
 .rcases cC z with ⟨rfl,_⟩|⟨Z,z⟩
  .exact⟨_,U⟩
  .exact e.has j u z
 .obtain⟨h1,h2⟩:=cb z;rcases cC h1 with ⟨rfl,Y⟩|⟨Z,Y⟩
  .cases Y;rw[U]at h2;cases h2;exact ho _ W
  .refine(s.own j u w (aR Y h2)).step (Same.refl _) fun b q hb hq=>?_
   have:b≠a:=fun y=>by subst y;exact Z (s.dis _ _ _ hb W).symm
   rw[aq this];exact hq
 .obtain⟨h1,⟨q,h2,n2⟩,h3⟩:=s.out j b z;refine⟨h1,?_,h3⟩;by_cases y:b=a
  .subst y;exact⟨o,aw,nt⟩
  .exact⟨q,by rw[aq y];exact h2,n2⟩
theorem En.freeze(e:En Φ δ σ F H){t:T}{d:Dt}(h:δ[i]?=ς (ς t))(hd:t.z=ς d):∃F',En Φ (δ.set i (ς (.f d))) σ F' H:=by
 obtain⟨S,s⟩:=e.sep;obtain⟨v,U⟩:=e.has i t h;have so:=s.own i t v (aR h U);have Z:∀b,S i b->F b=ψ:=fun b z=>(s.out _ b z).1
 have Y:=il (H:=H) Z;refine⟨m8 F H (S i),jL e.fh,e.prot,e.old.trans Y,fun b o z=>?_,by simp[e.len],fun j u z=>?_,fun j b=>S j b/\j≠i,fun j u w z=>?_,fun j b z=>?_,fun j k b h1 h2=>s.dis _ _ b h1.1 h2.1⟩
 .by_cases hb:S i b
  .exact .inr (.inl (s.out _ b hb).2.2)
  .rw[de hb]at z;exact e.nw b o z
 .rcases cC z with ⟨rfl,_⟩|⟨hn,z⟩
  .exact⟨_,U⟩
  .exact e.has j u z
 .obtain⟨h1,h2⟩:=cb z;rcases cC h1 with ⟨rfl,W⟩|⟨hn,W⟩
  .cases W;rw[U]at h2;cases h2;exact so.freeze Z hd
  .refine((s.own j u w (aR W h2)).step Y fun _ _ _ q=>q).grow fun b q=>⟨q,fun y=>hn y.symm⟩
 .obtain⟨h1,h2,h3⟩:=s.out j b z.1;refine⟨?_,h2,h3⟩;rw[de fun y=>z.2 (s.dis _ _ b z.1 y)];exact h1
end
def KO(K:xA9)(F H:Hp)(t:T)(Q:VK):Prop:=∀v H' F' S,Step F H F' H'->Own K F' H' t v S->(∀b,S b->F' b=ψ/\H b=ψ/\∃o,H' b=ς o/\NT o)->Q v H'
def KL(K:xA9)(F H:Hp)(d:Dt)(Q:VK):Prop:=∀v H' F',Step F H F' H'->Rep K F' d v->Q v H'
def KB(K:xA9)(F H:Hp)(d:Dt)(Q:VK):Prop:=∀v H' F',Step F H F' H'->RepB K F' H' d v->Q v H'
section
variable{K:xA9}{F H F1 H1:Hp}{t:T}{d:Dt}{Q:VK}
theorem KO.step(k:KO K F H t Q)(st:Step F H F1 H1):KO K F1 H1 t Q:=fun v H' F' S s o U=>k v H' F' S (st.trans s) o fun b z=>⟨(U b z).1,st.hh.free (U b z).2.1,(U b z).2.2⟩
theorem KO.leaf(k:KO K F H (.f d) Q):KL K F H d Q:=fun v H' F' st r=>k v H' F' (fun _=>False) st r fun _ z=>z.elim
theorem KL.here(k:KL K F H d Q)(U:Same F H)(r:Rep K F d v):Q v H:=k v H F (Step.refl U) r
theorem KB.to(k:KB K F H d Q):KL K F H d Q:=fun v H' F' st r=>k v H' F' st (RepB.of st.fh r)
theorem KL.to(Y:t.d=ς d)(k:KL K F H d Q):KO K F H t Q:=fun v H' F' S st o U=>by
 refine k v H' (m8 F' H' S) ⟨st.hh,st.ff.trans (il fun b z=>(U b z).1),jL st.fh,fun b u z=>?_⟩ (o.freeze (fun b z=>(U b z).1) (T.zd Y));by_cases W:S b
 .exact .inr (.inl (U b W).2.1)
 .rw[de W]at z;exact st.nw b u z
theorem KB.toO(U:t.d=ς d)(k:KB K F H d Q):KO K F H t Q:=fun v H' F' S st o W=>k v H' F' st (o.repB st.fh U)
end
def tO(K:xA9)(f:De->ζ T):TE:=fun σ H Q=>∃ Φ δ F t,Fm.K Φ=K/\En Φ δ σ F H/\f δ=ς t/\KO K F H t Q
def tL(K:xA9)(f:De->ζ Dt):TE:=fun σ H Q=>∃ Φ δ F d,Fm.K Φ=K/\En Φ δ σ F H/\f δ=ς d/\KL K F H d Q
def tBd(K:xA9)(f:De->ζ Dt):TE:=fun σ H Q=>∃ Φ δ F d,Fm.K Φ=K/\En Φ δ σ F H/\f δ=ς d/\KB K F H d Q
def tTr(K:xA9)(f:De->ζ Bool):TT:=fun σ H Q=>∃ Φ δ F b,Fm.K Φ=K/\En Φ δ σ F H/\f δ=ς b/\∀H' F',Step F H F' H'->Q b H'
def DO(X:Cx)(e:Jc)(f:De->ζ T):Prop:=PE X e (tO X.K f)
def DL(X:Cx)(e:Jc)(f:De->ζ Dt):Prop:=PE X e (tL X.K f)
def DB(X:Cx)(e:Jc)(f:De->ζ Dt):Prop:=PE X e (tBd X.K f)
def DT(X:Cx)(e:Jc)(f:De->ζ Bool):Prop:=PT X e (tTr X.K f)
def DW(X:Cx)(e:Jc)(f:De->ζ Bool):Prop:=PW X e (tTr X.K f)
variable{X:Cx}{e:Jc}{t':TE}
theorem PE.mono{t:TE}(h:PE X e t)(m:∀ σ H Q,t' σ H Q->t σ H Q):PE X e t':=fun J1 s σ H Q I q=>h J1 s σ H Q I (m _ _ _ q)
theorem PT.mono{t t':TT}(h:PT X e t)(m:∀ σ H Q,t' σ H Q->t σ H Q):PT X e t':=fun J1 s σ H Q I q=>h J1 s σ H Q I (m _ _ _ q)
theorem PW.mono{t t':TT}(h:PW X e t)(m:∀ σ H Q,t' σ H Q->t σ H Q):PW X e t':=fun U J1 s σ H Q I q=>h U J1 s σ H Q I (m _ _ _ q)
theorem PA.mono{e:η Jc}{t t':TA}(h:PA X e t)(m:∀ σ H Q,t' σ H Q->t σ H Q):PA X e t':=fun pos J1 s σ H Q I q=>h pos J1 s σ H Q I (m _ _ _ q)
variable{tg:Jc}
theorem PI.mono{t t':TI}(h:PI X tg e t)(m:∀ σ H Q,t' σ H Q->t σ H Q):PI X tg e t':=fun J1 s σ H Q I q=>h J1 s σ H Q I (m _ _ _ q)
theorem PG.mono{t t':TG}(h:PG X e t)(m:∀v σ H Q,t' v σ H Q->t v σ H Q):PG X e t':=fun J1 s σ H v u Q I r q=>h J1 s σ H v u Q I r (m _ _ _ _ q)
theorem PS.mono{e:Jb}{t t':TS}(h:PS X e t)(m:∀D σ H,t' D σ H->t D σ H):PS X e t':=fun J1 s σ H Q I q=>h J1 s σ H Q I (m _ _ _ q)
theorem PSs.mono{e:η Jb}{t t':TS}(h:PSs X e t)(m:∀D σ H,t' D σ H->t D σ H):PSs X e t':=fun J1 s σ H Q I q=>h J1 s σ H Q I (m _ _ _ q)
theorem PE.or{t:TE}(h:PE X e t)(h':PE X e t'):PE X e (fun σ H Q=>t σ H Q∨t' σ H Q):=fun J1 s σ H Q I q=>q.elim (h J1 s σ H Q I) (h' J1 s σ H Q I)
theorem PI.or{t t':TI}(h:PI X tg e t)(h':PI X tg e t'):PI X tg e (fun σ H Q=>t σ H Q∨t' σ H Q):=fun J1 s σ H Q I q=>q.elim (h J1 s σ H Q I) (h' J1 s σ H Q I)
variable{x:Str}{r:R2}{σ:St}{H:Hp}{Q:VK}{vs:η V}{n:Nat}{ds:η Dt}{ps:η Str}
section
variable{X:Cx}{e a b c:Jc}{f:De->ζ T}{g fa fb fc:De->ζ Dt}{pos:Pos}
def toD(f:De->ζ T):De->ζ Dt:=fun δ=>(f δ).bind T.d
def toT(f:De->ζ Dt):De->ζ T:=fun δ=>(f δ).map T.f
theorem DO.toL(h:DO X e f):DL X e (toD f):=PE.mono h fun σ H Q ⟨Φ,δ,F,d,Z,W,Y,k⟩=>by obtain⟨t,ht,U⟩:=bS Y;exact⟨Φ,δ,F,t,Z,W,ht,KL.to U k⟩
theorem DO.toB(h:DO X e f):DB X e (toD f):=PE.mono h fun σ H Q ⟨Φ,δ,F,d,Z,W,Y,k⟩=>by obtain⟨t,ht,U⟩:=bS Y;exact⟨Φ,δ,F,t,Z,W,ht,KB.toO U k⟩
theorem DL.toB(h:DL X e g):DB X e g:=PE.mono h fun σ H Q ⟨Φ,δ,F,d,Y,U,W,k⟩=>⟨Φ,δ,F,d,Y,U,W,k.to⟩
theorem DL.toO(h:DL X e g):DO X e (toT g):=PE.mono h fun σ H Q ⟨Φ,δ,F,t,Z,Y,U,k⟩=>by
 unfold toT at U;cases W:g δ with
 |none=>rw[W]at U;cases U
 |some d=>rw[W]at U;cases U;exact⟨Φ,δ,F,d,Z,Y,W,k.leaf⟩
noncomputable def vL(i:Nat):De->ζ Dt:=fun δ=>match δ[i]? with
 |some (ς (.f d))=>ς d
 |_=>ψ
def vB(i:Nat):De->ζ Dt:=fun δ=>match δ[i]? with
 |some (ς t)=>t.d
 |_=>ψ
theorem Dg(h:PE X e (fT i)):DL X e (vL i):=PE.mono h fun σ H Q ⟨Φ,δ,F,d,Y,W,U,k⟩=>by
 unfold vL at U;split at U
 .rename_i q;cases U;obtain⟨v,h1,h2⟩:=W.leaf q;exact⟨v,h1,k.here W.fh (Y▸h2)⟩
 .cases U
theorem Dh(h:PE X e (fT i)):DB X e (vB i):=PE.mono h fun σ H Q ⟨Φ,δ,F,d,Y,W,U,k⟩=>by
 unfold vB at U;split at U
 .rename_i q;obtain⟨v,h1,h2⟩:=W.slot q U;exact⟨v,h1,k v H F (Step.refl W.fh) (Y▸h2)⟩
 .cases U
def kD(d:Dt):De->ζ Dt:=fun _=>ς d
theorem wm{d:Dt}(h:PE X e (tC v))(r:∀F,Rep X.K F d v):DL X e (kD d):=PE.mono h fun σ H Q ⟨Φ,δ,F,d',Y,U,W,k⟩=>by cases W;exact k.here U.fh (r F)
theorem bv{i:Int}{j}:DL X (.Constant (.int i) j pos) (kD (.int i)):=wm Cq fun F=>by simp only[Rep]
theorem oK{i:Bool}{j}:DL X (.Constant (.bool i) j pos) (kD (.bl i)):=wm E9 fun F=>by simp only[Rep]
theorem fm{j}:DL X (.Constant .none j pos) (kD .non):=wm Cr fun F=>by simp only[Rep]
theorem Di{j}:DL X (.Constant (.str x) j pos) (kD (.str x)):=wm Cs fun F=>by simp only[Rep]
def R2D(K:xA9)(r:R2)(g:Dt->Dt->ζ T):Prop:=∀F H x y vx vy (Q:VK) t,Same F H->RepB K F H x vx->RepB K F H y vy->g x y=ς t->KO K F H t Q->r vx vy H Q
def d2(g:Dt->Dt->ζ T)(fa fb:De->ζ Dt):De->ζ T:=fun δ=>(fa δ).bind fun x=>(fb δ).bind fun y=>g x y
theorem lZ{g:Dt->Dt->ζ T}(hr:R2D K r g)(h:tO K (d2 g fa fb) σ H Q):tOp r (tBd K fa) (tBd K fb) σ H Q:=by obtain⟨Φ,δ,F,t,hK,Z,W,k⟩:=h;unfold d2 at W;obtain⟨x,hx,W⟩:=bS W;obtain⟨y,hy,W⟩:=bS W;exact⟨Φ,δ,F,x,hK,Z,hx,fun v H1 F1 st rv=>⟨Φ,δ,F1,y,hK,Z.step st,hy,fun v2 H2 F2 U Y=>hr F2 H2 x y v v2 Q t U.fh (rv.step U.ff U.hh) Y W (k.step (st.trans U))⟩⟩
theorem bw{op:Operator}{g:Dt->Dt->ζ T}(W:OpR X (qm9 op) r)(Z:R2D X.K r g)(U:DB X a fa)(Y:DB X b fb):DO X (.BinOp a op b pos) (d2 g fa fb):=PE.mono (Fh W U Y) fun σ H Q h=>lZ Z h
theorem f9{op:CmpOp}{g:Dt->Dt->ζ T}(W:OpR X (qh8 op) r)(hr:R2D X.K r g)(U:DB X a fa)(Z:DB X b fb)(Y:qj4 op b=ξ):DO X (.Compare a [op] [b] pos) (d2 g fa fb):=PE.mono (rR W U Z Y) fun σ H Q h=>lZ hr h
def asB:T->ζ Bool
 |.f (.bl b)=>ς b
 |_=>ψ
def tB2(g:Dt->Dt->ζ T)(fa fb:De->ζ Dt):De->ζ Bool:=fun δ=>(d2 g fa fb δ).bind asB
theorem sk{F:Hp}{t:T}{S:J9->Prop}{b:Bool}(h:asB t=ς b)(o:Own K F H t v S):v=.bl b:=by
 unfold asB at h;split at h
 .cases h;have o:Rep K F (.bl b) v:=o;simp only[Rep]at o;exact o
 .cases h
theorem dm{op:CmpOp}{g:Dt->Dt->ζ T}(ho:OpR X (qh8 op) r)(hr:R2D X.K r g)(W:DB X a fa)(hb:DB X b fb)(hm:qj4 op b=ξ):DT X (.Compare a [op] [b] pos) (tB2 g fa fb):=PT.mono (mT ho W hb hm) fun σ H Q ⟨Φ,δ,F,t,Z,Y,U,k⟩=>by unfold tB2 at U;obtain⟨z,hz,U⟩:=bS U;refine lZ hr ⟨Φ,δ,F,z,Z,Y,hz,fun v H' F' S st o hs=>?_⟩;exact⟨t,sk U o,k H' F' st⟩
def wn:Dt->ζ Bool
 |.non=>ς ξ
 |.bl b=>ς b
 |.int i=>ς (i != 0)
 |.str x=>if x.length<=qb2 then ς ((x.length:Int) != 0)else ψ
 |.t l=>ς (!l.isEmpty)
 |.e l=>ς (!l.isEmpty)
 |_=>ψ
def dZ(f:De->ζ Dt):De->ζ Bool:=fun δ=>(f δ).bind wn
theorem im{F:Hp}{l:η Dt}(h:Reps K F l vs):l.isEmpty=vs.isEmpty:=by
 cases l with
 |nil=>unfold Reps at h;rw[h];rfl
 |cons d l=>unfold Reps at h;obtain⟨v,U,rfl,_⟩:=h;rfl
theorem zK{F:Hp}{d:Dt}{b:Bool}(W:Same F H)(h:RepB K F H d v)(U:wn d=ς b):CS K v H b:=by
 cases d with
 |non=>cases h;cases U;rfl
 |bl x=>cases h;cases U;rfl
 |int x=>cases h;cases U;rfl
 |str x=>
  cases h;simp only[wn]at U;split at U
  .cases U;exact⟨by assumption,rfl⟩
  .cases U
 |t l=>obtain⟨a,vs,rfl,h1,h2⟩:=h;cases U;exact .inr (.inl ⟨vs,W.tup h1,by rw[im h2]⟩)
 |e l=>obtain⟨a,vs,rfl,h1,h2⟩:=h;cases U;exact .inl ⟨vs,h1,by rw[im h2]⟩
 |dct ks l=>cases U
 |dcT ks l=>cases U
theorem dg(Y:DB X a fa)(he:∀U,isTrue a X.env U=(do let v <- U;standAt a.pos;qy8 [v] (truthy v))):DT X a (dZ fa):=PT.mono (vN Y he) fun σ H Q ⟨Φ,δ,F,b,hK,en,W,k⟩=>by unfold dZ at W;obtain⟨d,Z,W⟩:=bS W;exact⟨Φ,δ,F,d,hK,en,Z,fun v H' F' st r=>⟨b,zK st.fh r W,k H' F' st⟩⟩
def lx(f:De->ζ Bool):De->ζ Bool:=fun δ=>(f δ).map (!·)
def cR(f g:De->ζ Bool):De->ζ Bool:=fun δ=>(f δ).bind fun b=>if b then g δ else ς ξ
def fOr(f g:De->ζ Bool):De->ζ Bool:=fun δ=>(f δ).bind fun b=>if b then ς θ else g δ
variable{ta tb tc:De->ζ Bool}{rest:η Jc}
theorem m9(h:DT X a ta):DT X (.UnaryOp .Not a pos) (lx ta):=PT.mono (Cw h) fun σ H Q ⟨Φ,δ,F,b,Y,W,U,k⟩=>by
 unfold lx at U;cases q:ta δ with
 |none=>rw[q]at U;cases U
 |some c=>rw[q]at U;cases U;exact⟨Φ,δ,F,c,Y,W,q,fun H' F' st=>k H' F' st⟩
theorem sq(h:DT X a ta):DW X (.BoolOp .And [a] pos) ta:=zh h
theorem kl(h:DT X a ta):DW X (.BoolOp .Or [a] pos) ta:=Cu h
theorem qr(h:DT X a ta)(h':DW X (.BoolOp .And (b::rest) pos) tb):DW X (.BoolOp .And (a::b::rest) pos) (cR ta tb):=PW.mono (Cv h h') fun σ H Q ⟨Φ,δ,F,t,Y,W,U,k⟩=>by
 unfold cR at U;obtain⟨c,hc,U⟩:=bS U;refine⟨Φ,δ,F,c,Y,W,hc,fun H' F' st=>?_⟩;split at U
 .rename_i q;rw[if_pos q];exact⟨Φ,δ,F',t,Y,W.step st,U,fun H2 Z s2=>k H2 Z (st.trans s2)⟩
 .rename_i q;rw[if_neg q];cases U;exact k H' F' st
theorem jm(h:DT X a ta)(h':DW X (.BoolOp .Or (b::rest) pos) tb):DW X (.BoolOp .Or (a::b::rest) pos) (fOr ta tb):=PW.mono (Fa h h') fun σ H Q ⟨Φ,δ,F,t,Y,W,U,k⟩=>by
 unfold fOr at U;obtain⟨c,hc,U⟩:=bS U;refine⟨Φ,δ,F,c,Y,W,hc,fun H' F' st=>?_⟩;split at U
 .rename_i q;rw[if_pos q];cases U;exact k H' F' st
 .rename_i q;rw[if_neg q];exact⟨Φ,δ,F',t,Y,W.step st,U,fun H2 Z s2=>k H2 Z (st.trans s2)⟩
def DW.t(h:DW X a ta):DT X a ta:=h.pt
noncomputable def wo:Dt->ζ Bool
 |.bl b=>ς b
 |_=>ψ
def vNot(f:De->ζ Dt):De->ζ T:=fun δ=>(f δ).bind fun x=>(wo x).map fun b=>.f (.bl (!b))
def zL(f:De->ζ Dt)(g:De->ζ T):De->ζ T:=fun δ=>(f δ).bind fun x=>(wo x).bind fun b=>if b then g δ else ς (.f (.bl ξ))
def vOr(f:De->ζ Dt)(g:De->ζ T):De->ζ T:=fun δ=>(f δ).bind fun x=>(wo x).bind fun b=>if b then ς (.f (.bl θ))else g δ
def vIf(c:De->ζ Bool)(f g:De->ζ T):De->ζ T:=fun δ=>(c δ).bind fun b=>if b then f δ else g δ
theorem zM{F:Hp}{x:Dt}{b:Bool}(h:wo x=ς b)(r:RepB K F H x v):v=.bl b:=by
 unfold wo at h;split at h
 .cases h;exact r
 .cases h
theorem wq{F:Hp}{b:Bool}:Rep K F (.bl b) (.bl b):=by simp only[Rep]
theorem fq{F:Hp}{b:Int}:Rep K F (.int b) (.int b):=by simp only[Rep]
theorem io{F:Hp}{b:Str}:Rep K F (.str b) (.str b):=by simp only[Rep]
def ip{F:Hp}:Rep K F .non .non:=by simp only[Rep]
variable{oa ob:De->ζ T}
theorem Dj{op}(h:DO X a oa):DO X (.BoolOp op [a] pos) oa:=Cy h
theorem Dk(h:DB X a fa)(h':DO X (.BoolOp .And (b::rest) pos) ob):DO X (.BoolOp .And (a::b::rest) pos) (zL fa ob):=PE.mono (Cz h h') fun σ H Q ⟨Φ,δ,F,t,Y,W,U,k⟩=>by
 unfold zL at U;obtain⟨x,Z,U⟩:=bS U;obtain⟨b,hb,U⟩:=bS U;refine⟨Φ,δ,F,x,Y,W,Z,fun v H' F' st r=>⟨b,zM hb r,?_⟩⟩;split at U
 .rename_i q;rw[if_pos q];exact⟨Φ,δ,F',t,Y,W.step st,U,k.step st⟩
 .rename_i q;rw[if_neg q];cases U;exact(k.step st).leaf.here st.fh wq
theorem wt(Z:DT X c tc)(h:DO X a oa)(h':DO X b ob):DO X (.IfExp c a b pos) (vIf tc oa ob):=PE.mono (vA Z h h') fun σ H Q ⟨Φ,δ,F,t,Y,W,U,k⟩=>by
 unfold vIf at U;obtain⟨x,hx,U⟩:=bS U;refine⟨Φ,δ,F,x,Y,W,hx,fun H' F' st=>?_⟩;split at U
 .rename_i q;rw[if_pos q];exact⟨Φ,δ,F',t,Y,W.step st,U,k.step st⟩
 .rename_i q;rw[if_neg q];exact⟨Φ,δ,F',t,Y,W.step st,U,k.step st⟩
def oM(K:xA9)(F H:Hp):η Dt->η V->Prop
 |[],vs=>vs=[]
 |d::l,vs=>∃v U,vs=v::U/\RepB K F H d v/\oM K F H l U
def tAL(K:xA9)(f:De->ζ (η Dt)):TA:=fun σ H Q=>∃ Φ δ F ds,Fm.K Φ=K/\En Φ δ σ F H/\f δ=ς ds/\∀vs H' F',Step F H F' H'->Reps K F' ds vs->Q vs H'
def tAB(K:xA9)(f:De->ζ (η Dt)):TA:=fun σ H Q=>∃ Φ δ F ds,Fm.K Φ=K/\En Φ δ σ F H/\f δ=ς ds/\∀vs H' F',Step F H F' H'->oM K F' H' ds vs->Q vs H'
structure DA(X:Cx)(es:List Jc)(f:De->Option (List Dt)):Prop where
 len:∀ δ ds,f δ=ς ds->ds.length=es.length
 pa:PA X es (tAL X.K f)
structure DAB(X:Cx)(es:List Jc)(f:De->Option (List Dt)):Prop where
 len:∀ δ ds,f δ=ς ds->ds.length=es.length
 pa:PA X es (tAB X.K f)
def ae:De->ζ (η Dt):=fun _=>ς []
def aa(f:De->ζ Dt)(g:De->ζ (η Dt)):De->ζ (η Dt):=fun δ=>(f δ).bind fun d=>(g δ).bind fun ds=>ς (d::ds)
variable{es:η Jc}{fs:De->ζ (η Dt)}
theorem l5{f:De->ζ Dt}(h:∀ δ ds,fs δ=ς ds->ds.length=n):∀ δ ds,aa f fs δ=ς ds->ds.length=n+1:=fun δ ds U=>by unfold aa at U;obtain⟨x,Y,U⟩:=bS U;obtain⟨y,W,U⟩:=bS U;cases U;simp[h δ y W]
theorem aX:DA X [] ae:=⟨fun _ _ h=>by cases h;rfl,PA.mono eG fun σ H Q ⟨Φ,δ,F,ds,Y,U,W,k⟩=>by cases W;exact k [] H F (Step.refl U.fh) (by simp only[Reps])⟩
theorem fu:DAB X [] ae:=⟨fun _ _ h=>by cases h;rfl,PA.mono eG fun σ H Q ⟨Φ,δ,F,ds,Y,U,W,k⟩=>by cases W;exact k [] H F (Step.refl U.fh) rfl⟩
theorem az(h:DL X e g)(h':DA X es fs)(hs:qa8 (e::es) X.env=(ξ,eval e X.env)::qa8 es X.env:=by rfl):DA X (e::es) (aa g fs):=⟨l5 h'.len,PA.mono (bW h h'.pa hs) fun σ H Q ⟨Φ,δ,F,ds,Y,W,U,k⟩=>by unfold aa at U;obtain⟨x,hx,U⟩:=bS U;obtain⟨y,hy,U⟩:=bS U;cases U;exact⟨Φ,δ,F,x,Y,W,hx,fun v H1 F1 st r=>⟨Φ,δ,F1,y,Y,W.step st,hy,fun vs H2 F2 Z r2=>k (v::vs) H2 F2 (st.trans Z) (by simp only[Reps];exact⟨v,vs,rfl,r.same Z.ff,r2⟩)⟩⟩⟩
theorem dH(h:DB X e g)(h':DAB X es fs)(hs:qa8 (e::es) X.env=(ξ,eval e X.env)::qa8 es X.env:=by rfl):DAB X (e::es) (aa g fs):=⟨l5 h'.len,PA.mono (bW h h'.pa hs) fun σ H Q ⟨Φ,δ,F,ds,Z,Y,U,k⟩=>by unfold aa at U;obtain⟨x,hx,U⟩:=bS U;obtain⟨y,hy,U⟩:=bS U;cases U;exact⟨Φ,δ,F,x,Z,Y,hx,fun v H1 F1 st r=>⟨Φ,δ,F1,y,Z,Y.step st,hy,fun vs H2 F2 W r2=>k (v::vs) H2 F2 (st.trans W) ⟨v,vs,rfl,r.step W.ff W.hh,r2⟩⟩⟩⟩
def aG(f:De->ζ (η Dt)):De->ζ T:=fun δ=>(f δ).bind fun ds=>if ds.length<=qb2 then ς (.f (.t ds))else ψ
def aU(f:De->ζ (η Dt)):De->ζ T:=fun δ=>(f δ).bind fun ds=>if ds.length<=qb2 then ς (.e ds)else ψ
theorem km{x1}(h:DA X es fs):DO X (.Tuple es x1 pos) (aG fs):=PE.mono (vP h.pa) fun σ H Q ⟨Φ,δ,F,t,hK,Y,U,k⟩=>by
 unfold aG at U;obtain⟨ds,W,U⟩:=bS U;split at U
 .rename_i Z;cases U;refine⟨Φ,δ,F,ds,hK,Y,W,fun vs H1 F1 st r=>⟨by rw[r.length];exact Z,fun p hp=>?_⟩⟩;refine(k.step st).leaf _ _ _ (Step.new st.fh hp) ?_;simp only[Rep];exact⟨p,vs,rfl,SqT.of aw,r.same (Same.upd (st.fh.free hp))⟩
 .cases U
theorem em{F:Hp}(k:KO K F H (.e ds) Q)(U:Same F H)(r:Reps K F ds vs)(hp:H p=ψ):Q (.ref p) (upd H p (.e vs)):=by
 refine k _ _ F (fun b=>b=p) (Step.made U hp) ⟨p,vs,rfl,rfl,aw,r⟩ fun b z=>?_
 subst z;exact⟨U.free hp,hp,_,aw,nofun⟩
theorem ca(h:DA X es fs):DO X (.List es pos) (aU fs):=PE.mono (CU h.pa) fun σ H Q ⟨Φ,δ,F,t,hK,Y,U,k⟩=>by
 unfold aU at U;obtain⟨ds,W,U⟩:=bS U;split at U
 .rename_i Z;cases U;exact⟨Φ,δ,F,ds,hK,Y,W,fun vs H1 F1 st r=>⟨by rw[r.length];exact Z,fun p hp=>em (k.step st) st.fh r hp⟩⟩
 .cases U
def CRD(K:xA9)(r:η V->Hp->VK->Prop)(g:η Dt->ζ T):Prop:=∀F H ds vs (Q:VK) t,Same F H->oM K F H ds vs->g ds=ς t->KO K F H t Q->r vs H Q
def ag(g:η Dt->ζ T)(f:De->ζ (η Dt)):De->ζ T:=fun δ=>(f δ).bind g
theorem wu{r:η V->Hp->VK->Prop}{g:η Dt->ζ T}(hr:CRD K r g)(h:tO K (ag g fs) σ H Q):tCB r (tAB K fs) σ H Q:=by obtain⟨Φ,δ,F,t,Z,Y,U,k⟩:=h;unfold ag at U;obtain⟨ds,W,U⟩:=bS U;exact⟨Φ,δ,F,ds,Z,Y,W,fun vs H1 F1 st r=>hr F1 H1 ds vs Q t st.fh r U (k.step st)⟩
variable{x:Str}{p:Pos}{id Ty:String}{sc:Jd}{r:η V->Hp->VK->Prop}{gg:η Dt->ζ T}
theorem iq (h:aB sc x=θ) (hc:cz X (.builtin id) r) (hr:CRD X.K r gg) (hm:X.mg x=ψ) (Y:qe0 x=ς (.builtin id)) (W:DAB X (e::es) fs) (e1:bN X sc:=by rfl)
  (Z:qa8 (e::es) X.env=(ξ,eval e X.env)::qa8 es X.env:=by rfl) (U:(ql8 pos (qa8 es X.env)).any (·.1)=ξ:=by rfl):DO X (.Call (.Name x p) (e::es) [] pos) (ag gg fs):=
 PE.mono (iU h hc hm Y W.pa e1 Z U) fun σ H Q q=>wu hr q
theorem dJ (h:aB sc x=θ) (hc:cz X (.type Ty) r) (hr:CRD X.K r gg) (hm:X.mg x=ψ) (Y:qe0 x=ς (.type Ty)) (W:DAB X (e::es) fs) (e1:bN X sc:=by rfl)
  (Z:qa8 (e::es) X.env=(ξ,eval e X.env)::qa8 es X.env:=by rfl) (U:(ql8 pos (qa8 es X.env)).any (·.1)=ξ:=by rfl):DO X (.Call (.Name x p) (e::es) [] pos) (ag gg fs):=
 PE.mono (kj h hc hm Y W.pa e1 Z U) fun σ H Q q=>wu hr q
def spD(K:xA9)(n:Nat)(f:η Dt->ζ T):Sp:=fun vs H Q _=>∃F ds t,Same F H/\ds.length=n/\Reps K F ds vs/\f ds=ς t/\KO K F H t Q
theorem dh{k:Nat}{W:η Dt->ζ T}(h:aB sc x=θ)(F:OkF X.prog X.w X.K X.mg X.base x k ps (spD X.K n W))(hr:Room k X.A)(Z:DA X (e::es) fs)(hn:(e::es).length=n:=by rfl)(e1:bN X sc:=by rfl)
 (he:qa8 (e::es) X.env=(ξ,eval e X.env)::qa8 es X.env:=by rfl) (Y:(ql8 pos (qa8 es X.env)).any (·.1)=ξ:=by rfl):DO X (.Call (.Name x p) (e::es) [] pos) (ag W fs):=
 PE.mono (uk h F hr Z.pa e1 he Y) fun σ H Q ⟨Φ,δ,Fz,t,hK,en,U,k⟩=>by unfold ag at U;obtain⟨ds,hd,U⟩:=bS U;refine⟨Φ,δ,Fz,ds,hK,en,hd,fun vs H1 F1 st r=>?_⟩;show spD X.K n W (vs++[]) H1 Q E0;rw[qh0];exact⟨F1,ds,t,st.fh,(Z.len δ ds hd).trans hn,r,U,k.step st⟩
end
inductive Out where
 |nx (δ:De)|rt (t:T)|bk (δ:De)|ct (δ:De)
structure Rt(Φ:Fm)(t:T)(v:V)(F H:Hp):Prop where
 fh:Same F H
 prot:∀b o,Φ.H0 b=ς o->¬ Φ.S0 b->H b=ς o
 old:Same Φ.F0 F
 nw:∀b o,F b=ς o->Φ.F0 b=ς o∨Φ.B b∨∃vs,Φ.H0 b=ς (.t vs)
 own:∃S,Own Φ.K F H t v S/\∀b,S b->F b=ψ/\(∃o,H b=ς o/\NT o)/\Φ.B b
def Post(Φ:Fm)(D:Ends):Out->Prop
 |.nx δ=>∀ σ F H,En Φ δ σ F H->D.nx σ H
 |.rt t=>∀v F H,Rt Φ t v F H->D.rt v H
 |.bk δ=>∀ σ F H,En Φ δ σ F H->D.bk σ H
 |.ct δ=>∀ σ F H,En Φ δ σ F H->D.ct σ H
def tS(K:xA9)(g:De->ζ Out):TS:=fun D σ H=>∃ Φ δ F o,Fm.K Φ=K/\En Φ δ σ F H/\g δ=ς o/\Post Φ D o
def DS1(X:Cx)(st:Jb)(g:De->ζ Out):Prop:=PS X st (tS X.K g)
def DS(X:Cx)(ss:η Jb)(g:De->ζ Out):Prop:=PSs X ss (tS X.K g)
variable{Φ:Fm}{δ:De}{F' H':Hp}{N:η Str}{D:Ends}{es:η Jc}{ts:η Nat}{bb:Dt->De->ζ De}{J:It}{xs:η V}
section
variable{X:Cx}{st:Jb}{rest a b body:η Jb}{g g1 g2:De->ζ Out}{e c tg iter:Jc}{pos:Pos}{f:De->ζ T}{fd:De->ζ Dt}{tc:De->ζ Bool}{i:Nat}
def bc:De->ζ Out:=fun δ=>ς (.nx δ)
def ai(g1 g2:De->ζ Out):De->ζ Out:=fun δ=>(g1 δ).bind fun o=>match o with
 |.nx U=>g2 U
 |o=>ς o
theorem aA:DS X [] bc:=PSs.mono mQ fun D σ H ⟨Φ,δ,F,o,Y,U,W,k⟩=>by cases W;exact k σ F H U
def aj(h:DS1 X st g):DS X [st] g:=rH h
theorem ac(h1:DS1 X st g1)(h2:DS X rest g2):DS X (st::rest) (ai g1 g2):=PSs.mono (hV h1 h2) fun D σ H ⟨Φ,δ,F,o,hK,en,U,k⟩=>by
 unfold ai at U;obtain⟨Z,h1,U⟩:=bS U;refine⟨Φ,δ,F,Z,hK,en,h1,?_⟩;cases Z with
 |nx W=>exact fun σ' F' H' Y=>⟨Φ,W,F',o,hK,Y,U,k⟩
 |rt t=>cases U;exact k
 |bk W=>cases U;exact k
 |ct W=>cases U;exact k
def Dl:De->ζ Out:=fun δ=>ς (.bk δ)
theorem wv:DS1 X (.Break pos) Dl:=PS.mono vC fun D σ H ⟨Φ,δ,F,o,Y,U,W,k⟩=>by cases W;exact k σ F H U
def aZ(f:De->ζ T):De->ζ Out:=fun δ=>(f δ).map .rt
theorem En.rt{F:Hp}{t:T}{S:J9->Prop}(Y:En Φ δ σ F H)(st:Step F H F' H')(o:Own Φ.K F' H' t v S)(W:∀b,S b->F' b=ψ/\H b=ψ/\∃o,H' b=ς o/\NT o):Rt Φ t v F' H':=by have U:=Y.step st;exact⟨U.fh,U.prot,U.old,U.nw,S,o,fun b z=>⟨(W b z).1,(W b z).2.2,Y.fresh (W b z).2.1⟩⟩
theorem au(h:DO X e f):DS1 X (.Return (ς e) pos) (aZ f):=PS.mono (qb h) fun D σ H ⟨Φ,δ,F,o,Y,W,U,k⟩=>by unfold aZ at U;obtain⟨t,Z,U⟩:=mS U;cases U;exact⟨Φ,δ,F,t,Y,W,Z,fun v H' F' S st o hs=>k v F' H' (W.rt st (Y▸o) hs)⟩
def fM(i:Nat):De->ζ Out:=fun δ=>match δ[i]? with
 |some (ς t)=>ς (.rt t)
 |_=>ψ
theorem dw(h:PE X e (fT i)):DS1 X (.Return (ς e) pos) (fM i):=PS.mono (qb h) fun D σ H ⟨Φ,δ,F,o,Z,U,W,k⟩=>by
 unfold fM at W;split at W
 .rename_i t q;cases W;obtain⟨v,Y⟩:=U.has i t q;obtain⟨S,s⟩:=U.sep;exact⟨v,Y,k v F H ⟨U.fh,U.prot,U.old,U.nw,S i,s.own i t v (aR q Y),fun b z=>s.out i b z⟩⟩
 .cases W
def sIf(c:De->ζ Bool)(g1 g2:De->ζ Out):De->ζ Out:=fun δ=>(c δ).bind fun b=>if b then g1 δ else g2 δ
theorem aP(Z:DT X c tc)(h1:DS X a g1)(h2:DS X b g2):DS1 X (.If c a b pos) (sIf tc g1 g2):=PS.mono (vD Z h1 h2) fun D σ H ⟨Φ,δ,F,o,Y,W,U,k⟩=>by
 unfold sIf at U;obtain⟨x,hx,U⟩:=bS U;refine⟨Φ,δ,F,x,Y,W,hx,fun H' F' st=>?_⟩;split at U
 .rename_i q;rw[if_pos q];exact⟨Φ,δ,F',o,Y,W.step st,U,k⟩
 .rename_i q;rw[if_neg q];exact⟨Φ,δ,F',o,Y,W.step st,U,k⟩
def al(i:Nat)(f:De->ζ T):De->ζ Out:=fun δ=>(f δ).map fun t=>.nx (δ.set i (ς t))
theorem ww{sc:Jd}{pos':Pos}(h:dl sc N i x=θ)(hl:iT sc x=θ)(nd:N.Nodup)(he:DO X e f)(e1:bN X sc:=by rfl)(e2:X.N=N:=by rfl)(hf:X.fn x=θ∨X.env.scope.names.lookup x=ς .local:=by exact .inl rfl)
 (W:qo5 e (ς (.Name x pos')) pos.line X.env=pure ξ:=by rfl):DS1 X (.Assign [.Name x pos'] e pos) (al i f):=PS.mono (sj h hl nd he e1 e2 hf W) fun D σ H ⟨Φ,δ,F,o,Z,Y,U,k⟩=>by
 unfold al at U;obtain⟨t,ht,U⟩:=mS U;cases U;exact⟨Φ,δ,F,t,Z,Y,ht,fun v H' F' S st o W=>k _ F' H' (Y.put st (Z▸o) W i)⟩
def wx(i:Nat)(g:De->ζ Out):De->ζ Out:=fun δ=>match δ[i]? with
 |some (ς t)=>t.d.bind fun d=>g (δ.set i (ς (.f d)))
 |_=>ψ
def Dm(h:tS K (wx i g) D σ H):tS K g D σ H:=by
 obtain⟨Φ,δ,F,o,hK,Z,U,k⟩:=h;unfold wx at U;split at U
 .rename_i t q;obtain⟨d,Y,U⟩:=bS U;obtain⟨F',W⟩:=Z.freeze q (T.zd Y);exact⟨Φ,_,F',o,hK,W,U,k⟩
 .cases U
theorem zN(h:DS1 X st g):DS1 X st (wx i g):=PS.mono h fun D σ H q=>Dm q
def gD(K:xA9)(ts:η Nat)(st:Dt->De->ζ De):TG:=fun v σ H Q=>∃ Φ δ F d Y,Fm.K Φ=K/\En Φ δ σ F H/\Rep K F d v/\st d δ=ς Y/\∀U,U.length=σ.length->(∀j,j∉ts->U[j]?=σ[j]?)->En Φ Y U F H->Q U H
def gsD(K:xA9)(ts:η Nat)(st:η Dt->De->ζ De):TGs:=fun vs σ H Q=>∃ Φ δ F ds Y,Fm.K Φ=K/\En Φ δ σ F H/\Reps K F ds vs/\st ds δ=ς Y/\∀U,U.length=σ.length->(∀j,j∉ts->U[j]?=σ[j]?)->En Φ Y U F H->Q U H
def DG(X:Cx)(tg:Jc)(ts:η Nat)(bb:Dt->De->ζ De):Prop:=PG X tg (gD X.K ts bb)
def DGs(X:Cx)(tg:η Jc)(ts:η Nat)(bb:η Dt->De->ζ De):Prop:=PGs X tg (gsD X.K ts bb)
def ak(i:Nat):Dt->De->ζ De:=fun d δ=>ς (δ.set i (ς (.f d)))
theorem En.name{F:Hp}(U:En Φ δ σ F H){d:Dt}(r:Rep Φ.K F d v)(i:Nat):En Φ (δ.set i (ς (.f d))) (σ.set i (ς v)) F H:=U.put (Step.refl U.fh) (S':=fun _=>False) (t:=.f d) r (fun _ z=>z.elim) i
theorem ay(h:PG X tg (hW i)):DG X tg [i] (ak i):=PG.mono h fun v σ H Q ⟨Φ,δ,F,d,Z,Y,W,r,U,k⟩=>by cases U;refine k _ Ξ (fun j hj=>?_) (W.name (Y▸r) i);rw[qo0 fun z=>hj (by simp[z])]
def ly:η Dt->De->ζ De:=fun ds δ=>if ds.isEmpty then ς δ else ψ
def cI(b:Dt->De->ζ De)(bs:η Dt->De->ζ De):η Dt->De->ζ De:=fun ds δ=>match ds with
 |d::r=>(b d δ).bind fun δ1=>bs r δ1
 |[]=>ψ
def lz(n:Nat)(bs:η Dt->De->ζ De):Dt->De->ζ De:=fun d δ=>match d with
 |.t ds=>if ds.length=n then bs ds δ else ψ
 |_=>ψ
theorem jM:DGs X [] [] ly:=fun J1 s σ H vs us Q I r q=>rK J1 s σ H vs us Q I r (by
 obtain⟨Φ,δ,F,ds,Y,Z,W,rs,U,k⟩:=q;unfold ly at U;cases ds with
 |nil=>cases U;simp only[Reps]at rs;exact⟨rs,k σ rfl (fun _ _=>rfl) W⟩
 |cons d l=>cases U)
theorem cJ{W:η Nat}{bs:η Dt->De->ζ De}(h1:DG X e ts bb)(h2:DGs X es W bs)
 (hs:(qj9 (e::es) X.env).map (·.2)=zb4 e X.env::(qj9 es X.env).map (·.2):=by rfl):DGs X (e::es) (ts++W) (cI bb bs):=fun J1 s σ H vs us Q I r q=>j2 h1 h2 hs J1 s σ H vs us Q I r (by
 obtain⟨Φ,δ,F,ds,Z,hK,en,rs,U,k⟩:=q;unfold cI at U;cases ds with
 |nil=>cases U
 |cons d l=>simp only[Reps]at rs;obtain⟨v,ws,e,r1,r2⟩:=rs;dsimp only at U;obtain⟨δ1,hb,U⟩:=bS U;refine⟨v,ws,e,Φ,δ,F,d,δ1,hK,en,r1,hb,fun σ1 l1 k1 en1=>⟨Φ,δ1,F,l,Z,hK,en1,r2,U,fun Y l2 k2 en2=>k Y (l2.trans l1) (fun j hj=>?_) en2⟩⟩;rw[k2 j fun z=>hj (qe2 _ z),k1 j fun z=>hj (qi8 _ z)])
theorem na{k:Nat}{bs:η Dt->De->ζ De}(hc:X.calm=θ)(h:DGs X es ts bs)
 (hn:(qj9 es X.env).length=n:=by rfl) (Y:(qj9 es X.env).findIdx? (·.1)=ψ:=by rfl):DG X (.Tuple es k pos) ts (lz n bs):=PG.mono (vE hc h hn Y) fun v σ H Q ⟨Φ,δ,F,d,W,hK,Z,r,U,q⟩=>by
 unfold lz at U;split at U
 .rename_i ds;split at U
  .rename_i hl;simp only[Rep]at r;obtain⟨a,vs,e,h1,h2⟩:=r;exact⟨a,vs,e,Z.fh.tup h1,by rw[h2.length];exact hl,Φ,δ,F,ds,W,hK,Z,h2,U,q⟩
  .cases U
 .cases U
def oN(K:xA9)(F':Hp)(J:It)(ds:η Dt)(ok:Hp->Prop):Prop:=∀(i:Nat)(H F:Hp),ok H->Same F H->Same F' F->(i<ds.length->J.go i H)/\(i=ds.length->J.stop i H)/\∀x H',i<ds.length->J.yld i H x H'->∃d U,ds[i]?=ς d/\Step F H U H'/\Rep K U d x
theorem Plain.walk{ok:Hp->Prop}(pl:Plain J xs ok)(r:Reps K F' ds xs):oN K F' J ds ok:=fun i H F U fh Z=>by
 obtain⟨p1,p2,Y⟩:=pl i H U;have hl:=r.length;refine⟨fun h=>p1 Θ,fun h=>p2 Θ,fun x H' hi hy=>?_⟩;obtain⟨rfl,hx⟩:=Y x H' Θ hy;have W:ds[i]?=ς ds[i]:=by simp[hi]
 obtain⟨v,e,rv⟩:=r.get W;rw[hx]at e;cases e;exact⟨_,F,W,Step.refl fh,rv.same Z⟩
def tIF(K:xA9)(f:De->ζ (η Dt)):TI:=fun σ H R=>∃ Φ δ F ds,Fm.K Φ=K/\En Φ δ σ F H/\f δ=ς ds/\∀J ok H' F',Step F H F' H'->oN K F' J ds ok->(∀H2,Same F' H2->ok H2)->R J H'
def tIB(K:xA9)(f:De->ζ (η Dt)):TI:=fun σ H R=>∃ Φ δ F ds,Fm.K Φ=K/\En Φ δ σ F H/\f δ=ς ds/\∀J ok H' F',Step F H F' H'->oN K F' J ds ok->(∀H2,Same H' H2->ok H2)->R J H'
def DIF(X:Cx)(tg iter:Jc)(f:De->ζ (η Dt)):Prop:=PI X tg iter (tIF X.K f)
def DIB(X:Cx)(tg iter:Jc)(f:De->ζ (η Dt)):Prop:=PI X tg iter (tIB X.K f)
theorem DIF.toB{fi:De->ζ (η Dt)}(h:DIF X tg iter fi):DIB X tg iter fi:=PI.mono h fun σ H R ⟨Φ,δ,F,ds,W,U,Y,k⟩=>⟨Φ,δ,F,ds,W,U,Y,fun J ok H' F' st wd Z=>k J ok H' F' st wd fun H2 s=>Z H2 (st.fh.trans s)⟩
end
variable{F1 H1:Hp}
section
variable{X:Cx}{st:Jb}{rest a b body:η Jb}{g g1 g2:De->ζ Out}{e c tg iter l:Jc}{pos:Pos}{f:De->ζ T}{fd:De->ζ Dt}{tc:De->ζ Bool}{i:Nat}{fi:De->ζ (η Dt)}
noncomputable def b7(bb:Dt->De->ζ De)(g:De->ζ Out):η Dt->De->ζ Out
 |[],δ=>ς (.nx δ)
 |d::r,δ=>(bb d δ).bind fun δ1=>(g δ1).bind fun o=>match o with
  |.nx δ2=>b7 bb g r δ2
  |.ct δ2=>b7 bb g r δ2
  |.bk δ2=>ς (.nx δ2)
  |.rt t=>ς (.rt t)
def cE(fi:De->ζ (η Dt))(bb:Dt->De->ζ De)(g:De->ζ Out):De->ζ Out:=fun δ=>(fi δ).bind fun ds=>b7 bb g ds δ
theorem Reps.same_get{F:Hp}(r:Reps K F ds xs){x:V}(h:xs[i]?=ς x):∃d,ds[i]?=ς d/\Rep K F d x:=by
 have Y:=r.length;have hi:i<xs.length:=(gX h).1;have U:ds[i]?=ς ds[i]:=by simp[show i<ds.length by lia]
 obtain⟨v,e,W⟩:=r.get U;rw[h]at e;cases e;exact⟨_,U,W⟩
theorem ng{α:Type}{l:η α}{d:α}(h:l[i]?=ς d):l.drop i=d::l.drop (i+1):=by have hi:i<l.length:=(gX h).1;rw[za8 hi];congr 1;have:=(gX h).2;exact this
def Fm.at(Φ:Fm)(F1:Hp):Fm:={Φ with F0:=F1}
theorem En.back{δ':De}{U:St}{F:Hp}(W:En Φ δ σ F1 H1)(e:En (Φ.at F1) δ' U F H):En Φ δ' U F H:=⟨e.fh,e.prot,W.old.trans e.old,fun b o h=>(e.nw b o h).elim (fun z=>W.nw b o z) .inr,e.len,e.has,e.sep⟩
theorem Rt.back{F:Hp}{t:T}(U:En Φ δ σ F1 H1)(e:Rt (Φ.at F1) t v F H):Rt Φ t v F H:=⟨e.fh,e.prot,U.old.trans e.old,fun b o h=>(e.nw b o h).elim (fun z=>U.nw b o z) .inr,e.own⟩
theorem En.at(U:En Φ δ σ F1 H1):En (Φ.at F1) δ σ F1 H1:=⟨U.fh,U.prot,Same.refl _,fun b o h=>.inl h,U.len,U.has,U.sep⟩
theorem Post.at{o:Out}(Y:En Φ δ σ F1 H1)(k:Post Φ D o):Post (Φ.at F1) D o:=by
 cases o with
 |nx W=>exact fun U F H e=>k U F H (Y.back e)
 |bk W=>exact fun U F H e=>k U F H (Y.back e)
 |ct W=>exact fun U F H e=>k U F H (Y.back e)
 |rt t=>exact fun v F H e=>k v F H (Rt.back Y e)
theorem oO{g:TG}{tb:TS}(Pv:Nat->St->Hp->Prop)(h0:Pv 0 σ H1)(Y:∀i σ H,Pv i σ H->(i<n->J.go i H)/\(i=n->J.stop i H))
 (hs:∀i x σ H H',i<n->Pv i σ H->J.yld i H x H'->g x σ H' fun W H2=>tb {D with nx:=Pv (i+1),ct:=Pv (i+1),bk:=D.nx} W H2) (Z:∀ σ H,Pv n σ H->D.nx σ H):ForW g tb D J σ H1:=by
 refine⟨fun i m σ H=>m=n-i/\i<=n/\Pv i σ H,⟨n,Ξ,qk6 _,h0⟩,?_⟩;rintro i m σ H ⟨rfl,hi,p⟩;obtain⟨p1,p2⟩:=Y i σ H p;by_cases U:i<n
 .exact .inr ⟨p1 U,Pv (i+1),fun σ' H' p'=>⟨n-(i+1),Θ,rfl,U,p'⟩,fun x H' y=>hs i x σ H H' U p y⟩
 .have e:i=n:=by lia
  subst e;exact .inl ⟨p2 rfl,Z σ H p⟩
theorem bB(hp:zk1 (model X.prog X.w) X.A X.env X.xe)(hc:X.calm=θ)(hi:DIF X tg iter fi)(hg:DG X tg ts bb)(hb:DS X body g)
 (hs:∀x,qi6 iter X.env x=pure x:=by intro _;rfl):DS1 X (.For tg iter body [] pos) (cE fi bb g):=PS.mono (vI hp hc hi hg hb hs) fun D σ H ⟨Φ,δ,F,o,hK,en,hg,k⟩=>by
 unfold cE at hg;obtain⟨ds,hd,hg⟩:=bS hg;rw[si];refine⟨Φ,δ,F,ds,hK,en,hd,fun J ok H1 F1 st1 wd ho=>?_⟩;have en1:=en.step st1;have k1:=Post.at en1 k;refine oO (n:=ds.length) (fun i σ' H'=>∃Y F',En (Φ.at F1) Y σ' F' H'/\b7 bb g (ds.drop i) Y=ς o) ⟨δ,F1,en1.at,by simpa using hg⟩ (fun i σ' H' ⟨Y,F',W,_⟩=>?_) ?_ ?_
 .obtain⟨p1,p2,_⟩:=wd i H' F' (ho H' (W.old.trans W.fh)) W.fh W.old;exact⟨p1,p2⟩
 .rintro i x σ' H' H'' hi ⟨Y,F',W,U⟩ hy;obtain⟨_,_,p3⟩:=wd i H' F' (ho H' (W.old.trans W.fh)) W.fh W.old;obtain⟨d,F2,hd',st2,rd⟩:=p3 x H'' hi hy;rw[ng hd']at U;unfold b7 at U;obtain⟨δ1,h1,U⟩:=bS U;obtain⟨o1,h2,U⟩:=bS U;refine⟨Φ.at F1,Y,F2,d,δ1,hK,W.step st2,rd,h1,fun σ1 _ _ en1=>⟨Φ.at F1,δ1,F2,o1,hK,en1,h2,?_⟩⟩;cases o1 with
  |nx δ2=>exact fun σ2 F2 H2 Z=>⟨δ2,F2,Z,U⟩
  |ct δ2=>exact fun σ2 F2 H2 Z=>⟨δ2,F2,Z,U⟩
  |bk δ2=>cases U;exact fun σ2 F2 H2 Z=>k1 σ2 F2 H2 Z
  |rt t=>cases U;exact fun v F2 H2 q=>k1 v F2 H2 q
 .rintro σ' H' ⟨Y,F',W,U⟩;rw[zf0]at U;cases U;exact k1 σ' F' H' W
def aT(c:De->ζ Bool)(g:De->ζ Out):Nat->De->ζ Out
 |0,_=>ψ
 |n+1,δ=>(c δ).bind fun b=>if b then(g δ).bind fun o=>match o with
  |.nx δ2=>aT c g n δ2
  |.ct δ2=>aT c g n δ2
  |.bk δ2=>ς (.nx δ2)
  |.rt t=>ς (.rt t)
 else ς (.nx δ)
theorem gd(n:Nat)(hp:zk1 (model X.prog X.w) X.A X.env X.xe)(hc:DT X c tc)(hb:DS X body g):DS1 X (.While c body [] pos) (aT tc g n):=PS.mono (vG hp hc hb) fun D σ H ⟨Φ,δ,F,o,hK,en,hg,k⟩=>by
 refine⟨fun m σ' H'=>∃Y F',En Φ Y σ' F' H'/\aT tc g m Y=ς o,⟨n,δ,F,en,hg⟩,?_⟩;rintro m σ' H' ⟨Y,F',en',U⟩;cases m with
 |zero=>cases U
 |succ m=>
  unfold aT at U;obtain⟨x,hx,U⟩:=bS U;refine⟨Φ,Y,F',x,hK,en',hx,fun H1 F1 st=>?_⟩;split at U
  .rename_i q;rw[if_pos q];obtain⟨o1,h2,U⟩:=bS U;refine⟨fun W H2=>∃ δ2 F2,En Φ δ2 W F2 H2/\aT tc g m δ2=ς o,fun W H2 z=>⟨m,qn2 m,z⟩,Φ,Y,F1,o1,hK,en'.step st,h2,?_⟩;cases o1 with
   |nx δ2=>exact fun W F2 H2 Z=>⟨δ2,F2,Z,U⟩
   |ct δ2=>exact fun W F2 H2 Z=>⟨δ2,F2,Z,U⟩
   |bk δ2=>cases U;exact fun W F2 H2 Z=>k W F2 H2 Z
   |rt t=>cases U;exact fun v F2 H2 q=>k v F2 H2 q
  .rename_i q;rw[if_neg q];cases U;exact k σ' F1 H1 (en'.step st)
noncomputable def FG(x:Str):η Dt:=x.cps.toList.map fun c=>.str ⟨#[c]⟩
noncomputable def fz(lo:Int)(n:Nat):η Dt:=(qb7 n).map fun(i:Nat)=>.int (lo+i)
theorem Reps.map{F:Hp}{α:Type}{f:α->Dt}{g:α->V}(h:∀x,Rep K F (f x) (g x)):∀l:η α,Reps K F (l.map f) (l.map g)
 |[]=>by simp[Reps]
 |x::l=>by simp only[qa4,Reps];exact⟨_,_,rfl,h x,Reps.map h l⟩
def itD:Dt->ζ (η Dt)
 |.e l=>ς l
 |.t l=>ς l
 |.str x=>ς (FG x)
 |_=>ψ
def fIt(f:De->ζ Dt):De->ζ (η Dt):=fun δ=>(f δ).bind itD
theorem dn(h:DL X l fd):DIF X tg l (fIt fd):=PI.mono (PI.or (rL h) (PI.or (vH h) (v7 h))) fun σ H R ⟨Φ,δ,F,ds,Z,Y,U,k⟩=>by
 unfold fIt at U;obtain⟨d,W,U⟩:=bS U;cases d with
 |e l=>cases U;refine .inl ⟨Φ,δ,F,_,Z,Y,W,fun v H' F' st r=>?_⟩;simp only[Rep]at r;obtain⟨a,vs,rfl,h1,h2⟩:=r;exact⟨a,rfl,⟨vs,st.fh.seq h1⟩,k _ _ H' F' st (plain_list.walk h2) fun H2 s=>s.seq h1⟩
 |t l=>cases U;refine .inr (.inl ⟨Φ,δ,F,_,Z,Y,W,fun v H' F' st r=>?_⟩);simp only[Rep]at r;obtain⟨a,vs,rfl,h1,h2⟩:=r;exact⟨a,rfl,⟨vs,st.fh.tup h1⟩,k _ _ H' F' st (plain_tup.walk h2) fun H2 s=>s.tup h1⟩
 |str x=>cases U;refine .inr (.inr ⟨Φ,δ,F,_,Z,Y,W,fun v H' F' st r=>?_⟩);simp only[Rep]at r;exact⟨x,r,k _ _ H' F' st (plain_str.walk (Reps.map (fun c=>io) _)) fun _ _=>trivial⟩
 |_=>cases U
theorem bh(h:DB X l fd):DIB X tg l (fIt fd):=PI.mono (PI.or (rL h) (PI.or (vH h) (v7 h))) fun σ H R ⟨Φ,δ,F,ds,Z,Y,U,k⟩=>by
 unfold fIt at U;obtain⟨d,W,U⟩:=bS U;cases d with
 |e l=>cases U;refine .inl ⟨Φ,δ,F,_,Z,Y,W,fun v H' F' st r=>?_⟩;obtain⟨a,vs,rfl,h1,h2⟩:=r;exact⟨a,rfl,⟨vs,h1⟩,k _ _ H' F' st (plain_list.walk h2) fun H2 s=>s.seq h1⟩
 |t l=>cases U;refine .inr (.inl ⟨Φ,δ,F,_,Z,Y,W,fun v H' F' st r=>?_⟩);obtain⟨a,vs,rfl,h1,h2⟩:=r;exact⟨a,rfl,⟨vs,st.fh.tup h1⟩,k _ _ H' F' st (plain_tup.walk h2) fun H2 s=>s.tup (st.fh.tup h1)⟩
 |str x=>cases U;refine .inr (.inr ⟨Φ,δ,F,_,Z,Y,W,fun v H' F' st r=>?_⟩);exact⟨x,r,k _ _ H' F' st (plain_str.walk (Reps.map (fun c=>io) _)) fun _ _=>trivial⟩
 |_=>cases U
def fN(j:Int):Bool:=decide (-(2^62)<=j)&&decide (j<2^62)
def eh:η Dt->ζ (η Dt)
 |[.int j]=>if fN j then ς (fz 0 j.toNat)else ψ
 |_=>ψ
def lA:η Dt->ζ (η Dt)
 |[.int i,.int j]=>if fN i&&fN j then ς (fz i (j-i).toNat)else ψ
 |_=>ψ
def bQ(r:η Dt->ζ (η Dt))(f:De->ζ (η Dt)):De->ζ (η Dt):=fun δ=>(f δ).bind r
variable{p:Pos}{sc:Jd}{x y:Jc}{fs:De->ζ (η Dt)}
theorem dB{j:Int}(h:fN j=θ):-(2^62)<=j/\j<2^62:=by unfold fN at h;simpa using h
theorem kn{F:Hp}(lo:Int)(n:Nat):Reps K F (fz lo n) (ka lo n):=Reps.map (fun _=>fq) _
theorem bG(h:aB sc "range"=θ)(hm:X.mg "range"=ψ)(Y:DA X [x] fs)(e1:bN X sc:=by rfl)(hs:qa8 [x] X.env=[(ξ,eval x X.env)]:=by rfl):DIF X tg (.Call (.Name "range" p) [x] [] pos) (bQ eh fs):=
 PI.mono (qp h hm Y.pa e1 hs) fun σ H R ⟨Φ,δ,F,ds,hK,en,U,k⟩=>by
  unfold bQ at U;obtain⟨as,Z,U⟩:=bS U;refine⟨Φ,δ,F,as,hK,en,Z,fun vs H' F' st r=>?_⟩;unfold eh at U;split at U
  .rename_i j;split at U
   .rename_i W;cases U;simp only[Reps,Rep]at r;obtain⟨v,ws,rfl,rfl,rfl⟩:=r;exact⟨j,rfl,(dB W).1,(dB W).2,k _ _ H' F' st (plain_range.walk (kn _ _)) fun _ _=>trivial⟩
   .cases U
  .cases U
theorem gy (h:aB sc "range"=θ) (hm:X.mg "range"=ψ) (ha:DA X [x,y] fs) (e1:bN X sc:=by rfl) (hs:qa8 [x,y] X.env=[(ξ,eval x X.env),(ξ,eval y X.env)]:=by rfl) (Y:qa8 [y] X.env=[(ξ,eval y X.env)]:=by rfl) :
  DIF X tg (.Call (.Name "range" p) [x,y] [] pos) (bQ lA fs):=
 PI.mono (qq h hm ha.pa e1 hs Y) fun σ H R ⟨Φ,δ,F,ds,hK,en,U,k⟩=>by
  unfold bQ at U;obtain⟨as,Z,U⟩:=bS U;refine⟨Φ,δ,F,as,hK,en,Z,fun vs H' F' st r=>?_⟩;unfold lA at U;split at U
  .rename_i i j;split at U
   .rename_i W;rw[qa9]at W;cases U;simp only[Reps,Rep]at r;obtain⟨v,ws,rfl,rfl,w,us,rfl,rfl,rfl⟩:=r;exact⟨i,j,rfl,⟨(dB W.1).1,(dB W.1).2,(dB W.2).1,(dB W.2).2⟩,k _ _ H' F' st (plain_range.walk (kn _ _)) fun _ _=>trivial⟩
   .cases U
  .cases U
end
def dC(src:η (ζ Nat))(δ:De):De:=src.map fun o=>o.bind fun j=>(δ[j]?).join
def bK(bb:Dt->De->ζ De)(ft:De->ζ Bool)(fe:De->ζ Dt)(δ:De):η Dt->ζ (η Dt)
 |[]=>ς []
 |d::r=>(bb d δ).bind fun δ1=>(ft δ1).bind fun b=>if b then(fe δ1).bind fun y=>(bK bb ft fe δ r).bind fun ys=>ς (y::ys)else bK bb ft fe δ r
def aH(src:η (ζ Nat))(fi:De->ζ (η Dt))(bb:Dt->De->ζ De)(ft:De->ζ Bool)(fe:De->ζ Dt):De->ζ T:=fun δ =>(fi δ).bind fun ds=>(bK bb ft fe (dC src δ) ds).bind fun ys=>if ys.length<=qb2 then ς (.e ys)else ψ
def bi:De->ζ Bool:=fun _=>ς θ
def DTs(X:Cx)(ifs:η Jc)(f:De->ζ Bool):Prop:=PTs X ifs (tTr X.K f)
theorem bo:DTs X [] bi:=fun J1 s σ H Q I h=>zE J1 s σ H Q I (by obtain⟨Φ,δ,F,b,Y,U,W,k⟩:=h;cases W;exact k H F (Step.refl U.fh))
theorem dy{c:Jc}{f:De->ζ Bool}(h:DT X c f):DTs X [c] f:=zF h
section
variable{X:Cx}{elt tg iter:Jc}{ifs:η Jc}{scope:Jd}{pos:Pos}{M:η Str}{src:η (ζ Nat)}{fi:De->ζ (η Dt)}{ft:De->ζ Bool}{fe:De->ζ Dt}
theorem zO(S:CmpScope X.N X.env.scope scope M src){k l:Nat}(hk:src[k]?=ς (ς j))(Z:src[l]?=ς (ς j)):k=l:=by
 have nm:∀k,src[k]?=ς (ς j)->∃x,M[k]?=ς x/\X.N[j]?=ς x:=fun k h=>by
  have U:k<M.length:=by rw[S.len];exact(gX h).1
  have Y:M[k]?=ς M[k]:=by simp[U]
  have hz:(M.zip src)[k]?=ς (M[k],ς j):=by rw[qs6];exact⟨Y,h⟩
  exact⟨_,Y,(S.src _ (qc7 hz) j rfl).1⟩
 obtain⟨x,h1,h2⟩:=nm k hk;obtain⟨y,h3,W⟩:=nm l Z;rw[h2]at W;cases W;exact(List.getElem?_inj (gX h1).1 S.nd).mp (h1.trans h3.symm)
theorem wz{k:Nat}{t:T}(h:(dC src δ)[k]?=ς (ς t)):∃j,src[k]?=ς (ς j)/\δ[j]?=ς (ς t):=by
 unfold dC at h;rw[qb3]at h;cases e:src[k]? with
 |none=>rw[e]at h;cases h
 |some o=>
  rw[e]at h;cases o with
  |none=>cases h
  |some j=>
   simp only[qo2,qa6,qv6]at h;refine⟨j,rfl,?_⟩;cases q:δ[j]? with
   |none=>rw[q]at h;cases h
   |some u=>rw[q]at h;simp only[qt2]at h;rw[h]
theorem zP{k:Nat}(h1:src[k]?=ς (ς j))(h2:σ[j]?=ς (ς v)):(stC src σ)[k]?=ς (ς v):=by unfold stC;rw[qb3,h1];simp[h2]
theorem wA{k:Nat}(h:(stC src σ)[k]?=ς (ς v)):∃j,src[k]?=ς (ς j)/\σ[j]?=ς (ς v):=by
 unfold stC at h;rw[qb3]at h;cases e:src[k]? with
 |none=>rw[e]at h;cases h
 |some o=>
  rw[e]at h;cases o with
  |none=>cases h
  |some j=>
   simp only[qo2,qa6,qv6]at h;refine⟨j,rfl,?_⟩;cases q:σ[j]? with
   |none=>rw[q]at h;cases h
   |some u=>rw[q]at h;simp only[qt2]at h;rw[h]
theorem En.comp{F:Hp}(S:CmpScope X.N X.env.scope scope M src)(U:En Φ δ σ F H):En Φ (dC src δ) (stC src σ) F H:=by
 refine⟨U.fh,U.prot,U.old,U.nw,by simp[dC,stC],fun k t h=>?_,?_⟩
 .obtain⟨j,h1,h2⟩:=wz h;obtain⟨v,hv⟩:=U.has j t h2;exact⟨v,zP h1 hv⟩
 .obtain⟨Z,s⟩:=U.sep;refine⟨fun k b=>∃j,src[k]?=ς (ς j)/\Z j b,fun k t v h=>?_,fun k b ⟨j,_,z⟩=>s.out j b z,fun k l b ⟨j,h1,z⟩⟨j',h2,z'⟩=>?_⟩
  .obtain⟨h1,h2⟩:=cb h;obtain⟨j,Y,e2⟩:=wz h1;obtain⟨j',W,e4⟩:=wA h2;rw[Y]at W;cases W;exact(s.own j t v (aR e2 e4)).grow fun b z=>⟨j,Y,z⟩
  .have:=s.dis _ _ b z z';subst this;exact zO S h1 h2
theorem um{g:TG}{tt:TT}{te:TE}{D:J9}(Pv:Nat->Hp->Prop)(h0:Pv 0 (upd H1 D (.e [])))(Y:∀i H,Pv i H->(i<n->J.go i H)/\(i=n->J.stop i H))
 (hs:∀i x H H',i<n->Pv i H->J.yld i H x H'->g x (stC src σ) H' fun U H2=>Wk (stC src σ) U/\tt U H2 fun b Z=>if b=θ then te U Z fun v H4=>∃ys,H4 D=ς (.e ys)/\ys.length<qb2/\Pv (i+1) (upd H4 D (.e (ys++[v])))else Pv (i+1) Z)
 (hd:∀H,Pv n H->Q (.ref D) H):Bt src g tt te σ J H1 Q D:=by
 refine⟨fun i m H=>m=n-i/\i<=n/\Pv i H,⟨n,Ξ,qk6 _,h0⟩,?_⟩;rintro i m H ⟨rfl,hi,p⟩;obtain⟨p1,p2⟩:=Y i H p;by_cases W:i<n
 .exact .inr ⟨p1 W,Pv (i+1),fun H' p'=>⟨n-(i+1),Θ,rfl,W,p'⟩,fun x H' y=>hs i x H H' W p y⟩
 .have e:i=n:=by lia
  subst e;exact .inl ⟨p2 rfl,hd H p⟩
theorem sr(S:CmpScope X.N X.env.scope scope M src)(hts:(ts.all fun k=>decide (src[k]?=ς ψ))=θ):∀(σ:St)(H:Hp)(Q:VK),tO X.K (aH src fi bb ft fe) σ H Q->lV src (tIB X.K fi) (gD X.K ts bb) (tTr X.K ft) (tL X.K fe) σ H Q:=fun σ H Q ⟨Φ,δ,F,t,hK,en,hf,k⟩=>by
 unfold aH at hf;obtain⟨ds,hd,hf⟩:=bS hf;obtain⟨all,ha,hf⟩:=bS hf;split at hf
 case isFalse=>cases hf
 rename_i hz;cases hf;rw[we];refine⟨Φ,δ,F,ds,hK,en,hd,fun J ok H1 F1 st1 wd ho D hD=>?_⟩;have en1:=en.step st1;have k1:=k.step st1
 have wk:∀{σ2:St},σ2.length=(stC src σ).length->(∀j,j∉ts->σ2[j]?=(stC src σ)[j]?)->Wk (stC src σ) σ2:=fun {σ2} h1 h2=>by
  refine⟨h1.symm,fun j v hj=>?_⟩;by_cases hm:j∈ts
  .have:=qk9.mp hts j hm;have hn:src[j]?=ς ψ:=of_decide_eq_true this;obtain⟨i,e,_⟩:=wA hj;rw[hn]at e;cases e
  .rw[h2 j hm];exact hj
 have ok':∀{F H:Hp},Step F1 H1 F H->ok H:=fun st=>ho _ st.hh
 refine um (n:=ds.length) (fun i H=>∃F ys done W,Step F1 H1 F H/\H D=ς (.e ys)/\F D=ψ/\Reps X.K F done ys/\bK bb ft fe (dC src δ) (ds.drop i)=ς W/\done++W=all) ?_ ?_ ?_ ?_
 .exact⟨F1,[],[],all,Step.made st1.fh hD,aw,st1.fh.free hD,by simp[Reps],by simpa using ha,rfl⟩
 .rintro i H' ⟨F',ys,done,W,st,_⟩;obtain⟨p1,p2,_⟩:=wd i H' F' (ok' st) st.fh st.ff;exact⟨p1,p2⟩
 .rintro i x H0' H' hi ⟨F0',ys,done,W,st0,hD0,hFD0,rys0,U,Y⟩ hy0;obtain⟨_,_,p3⟩:=wd i H0' F0' (ok' st0) st0.fh st0.ff;obtain⟨d,F',hd',stw,rd⟩:=p3 x H' hi hy0;have st:=st0.trans stw;have hD':H' D=ς (.e ys):=stw.hh _ _ hD0;have hFD:F' D=ψ:=stw.keepN hFD0 hD0;have rys:=rys0.same stw.ff;rw[ng hd']at U;unfold bK at U;obtain⟨δ1,h1,U⟩:=bS U;obtain⟨b,h2,U⟩:=bS U;refine⟨Φ,dC src δ,F',d,δ1,hK,(en1.step st).comp S,rd,h1,fun σ2 l2 k2 en2=>⟨wk l2 k2,Φ,δ1,F',b,hK,en2,h2,fun H3 F3 Z=>?_⟩⟩;have hD3:H3 D=ς (.e ys):=Z.hh _ _ hD';have hF3:F3 D=ψ:=Z.keepN hFD hD';dsimp only;split at U
  .rename_i q;rw[if_pos q];obtain⟨y,hy,U⟩:=bS U;obtain⟨zs,hzs,U⟩:=bS U;cases U;refine⟨Φ,δ1,F3,y,hK,en2.step Z,hy,fun v H4 F4 st4 rv=>?_⟩;have hD4:H4 D=ς (.e ys):=st4.hh _ _ hD3;have hF4:F4 D=ψ:=st4.keepN hF3 hD3;have s14:=(st.trans Z).trans st4;refine⟨ys,hD4,?_,F4,ys++[v],done++[y],zs,?_,aw,hF4,(rys.same (Z.ff.trans st4.ff)).append (Reps.one rv),hzs,by rw[<- Y];simp⟩
   .have e1:=rys.length;have e2:all.length=done.length+(zs.length+1):=by rw[<- Y];simp
    lia
   .refine⟨fun c o e=>?_,s14.ff,fun c o e=>?_,s14.nw⟩
    .rw[aq (bA e hD)];exact s14.hh _ _ e
    .rw[aq (bA e hF4)];exact s14.fh _ _ e
  .rename_i q;rw[if_neg q];exact⟨F3,ys,done,W,st.trans Z,hD3,hF3,rys.same Z.ff,U,Y⟩
 .rintro H' ⟨F',ys,done,W,st,hD',hFD,rys,U,Y⟩;rw[zf0]at U;cases U;rw[qh0]at Y;subst Y
  exact k1 (.ref D) H' F' (fun b=>b=D) st ⟨D,ys,rfl,rfl,hD',rys⟩ fun b z=>by subst z;exact⟨hFD,hD,_,hD',nofun⟩
theorem jN(S:CmpScope X.N X.env.scope scope M src)(hc:X.calm=θ)(hi:DIB X tg iter fi)(W:M.Nodup->∀C s H ex,DG (cxC X M scope C s H ex) tg ts bb)
 (Y:∀C s H ex,DTs (cxC X M scope C s H ex) ifs ft) (he:∀C s H ex,DL (cxC X M scope C s H ex) elt fe) (U:(ts.all fun k=>decide (src[k]?=ς ψ))=θ) (Z:∀x,qi6 iter X.env x=pure x:=by intro _;rfl) :
  DO X (.ListComp elt [⟨tg,iter,ifs,0⟩] scope pos) (aH src fi bb ft fe):=PE.mono (v6 (g:=gD X.K ts bb) (tt:=tTr X.K ft) (te:=tL X.K fe) S hc hi (fun nd C s H ex=>W nd C s H ex) (fun C s H ex=>Y C s H ex) (fun C s H ex=>he C s H ex) Z) (sr S U)
end
noncomputable def bC(m:Nat)(g:De->ζ Out):η Dt->ζ T:=fun ds=>match g (ds.map (fun d=>ς (T.f d))++qb9 (m-ds.length) ψ)with
 |some (.rt t)=>ς t
 |some (.nx _)=>ς (.f .non)
 |_=>ψ
def eT {F:Hp} (fh:Same F H) (r:Reps K F ds vs) :
  En ⟨K,F,H,fun _=>False⟩ (ds.map (fun d=>ς (T.f d))++qb9 (N.length-ds.length) ψ) (start N vs) F H:=by
 have hl:=r.length
 have U:∀(i:Nat)(t:T),(ds.map (fun d=>ς (T.f d))++qb9 (N.length-ds.length) ψ)[i]?=ς (ς t)->∃d v,t=T.f d/\vs[i]?=ς v/\Rep K F d v/\(start N vs)[i]?=ς (ς v):=fun i t h=>by
  by_cases hi:i<ds.length
  .rw[qc9 (by simpa using hi),qb3]at h;have Y:ds[i]?=ς ds[i]:=by simp[hi]
   rw[Y]at h;cases h;obtain⟨v,Z,W⟩:=r.get Y;refine⟨_,v,rfl,Z,W,?_⟩;unfold start;rw[qc9 (by simp;lia),qb3,Z];rfl
  .rw[qd5 (by simpa using hi)]at h;rw[qm1]at h;split at h<;>cases h
 refine⟨fh,fun b o h _=>h,Same.refl _,fun b o h=>.inl h,by simp[start,hl],fun i t h=>?_,fun _ _=>False,fun i t v h=>?_,fun _ _ z=>z.elim,fun _ _ _ z=>z.elim⟩
 .obtain⟨d,v,_,_,_,e⟩:=U i t h;exact⟨v,e⟩
 .obtain⟨h1,h2⟩:=cb h;obtain⟨d,w,rfl,_,W,e⟩:=U i t h1;rw[h2]at e;cases e;exact W
variable{st:Jb}
section
variable{P:qc5}{w:Ja}{K:xA9}{mg:Str->ζ Value}{base:Heap}
theorem Rt.step{F:Hp}{t:T}(h:Rt ⟨K,F,H,fun _=>False⟩ t v F' H')(k:KO K F H t Q):Q v H':=by
 obtain⟨Z,U,W,nw,S,o,Y⟩:=h;refine k v H' F' S ⟨fun b u e=>U b u e id,W,Z,fun b u e=>(nw b u e).elim .inl fun z=>.inr (z.imp (fun y=>y.elim id qg9) id)⟩ o fun b z=>?_
 obtain⟨h1,h2,h3⟩:=Y b z;exact⟨h1,h3.elim id qg9,h2⟩
theorem br{k:Nat}{g:De->ζ Out}(D:DefF K mg x st ps)(S:FnScope N ps (ab st))(hn:ps.length=n)
 (U:∀(f:J9)(cdv:Value)(A:qe1)(outer:η Env)(s:qa3)(H:Hp)(E:XK),Room k (A.deeper (zb5 x (ab st) s.heap.objs.size f cdv))->DS (j5 CX0 P w K mg base N x (ab st) f cdv A outer s H E).nox (aF st) g) :
  OkF P w K mg base x (k+1) ps (spD K n (bC N.length g)):=by
 refine D.ok S (fun vs H Q E h=>?_) (fun f cdv A outer s H vs Q E hr h=>?_)
 .obtain⟨F,ds,t,_,Z,r,_⟩:=h;rw[r.length,Z,hn]
 .obtain⟨F,ds,t,Y,Z,r,W,kq⟩:=h;refine⟨_,U f cdv A outer s H E hr,?_⟩;unfold bC at W;split at W
  .rename_i t' q;cases W;exact⟨⟨K,F,H,fun _=>False⟩,_,F,_,rfl,eT Y r,q,fun v F' H' z=>z.step kq⟩
  .rename_i δ' q;cases W;exact⟨⟨K,F,H,fun _=>False⟩,_,F,_,rfl,eT Y r,q,fun σ' F' H' z=>(z.rt (Step.refl z.fh) (t:=.f .non) (S:=fun _=>False) (ip (K:=K) (F:=F')) fun _ y=>y.elim).step kq⟩
  .cases W
theorem FH{k:Nat}{g:De->ζ Out}{f:J9}{fd:qr5}(D:Fun K x x st f fd)(S:FnScope N ps (ab st))(hn:ps.length=n)
 (U:∀(cdv:Value)(A:qe1)(outer:η Env)(s:qa3)(H:Hp)(E:XK),Room k (A.deeper (zb5 x (ab st) s.heap.objs.size f cdv))->DS (j5 CX0 P w K mg base N x (ab st) f cdv A outer s H E).nox (aF st) g) :
  FnOk P w K mg base CX0 (k+1) f fd ps (spD K n (bC N.length g)):=by
 refine D.ok S (fun vs H Q E h=>?_) (fun cdv A outer s H vs Q E hr h=>?_)
 .obtain⟨F,ds,t,_,Z,r,_⟩:=h;rw[r.length,Z,hn]
 .obtain⟨F,ds,t,Y,Z,r,W,kq⟩:=h;refine⟨_,U cdv A outer s H E hr,?_⟩;unfold bC at W;split at W
  .rename_i t' q;cases W;exact⟨⟨K,F,H,fun _=>False⟩,_,F,_,rfl,eT Y r,q,fun v F' H' z=>z.step kq⟩
  .rename_i δ' q;cases W;exact⟨⟨K,F,H,fun _=>False⟩,_,F,_,rfl,eT Y r,q,fun σ' F' H' z=>(z.rt (Step.refl z.fh) (t:=.f .non) (S:=fun _=>False) (ip (K:=K) (F:=F')) fun _ y=>y.elim).step kq⟩
  .cases W
end
def SameX(F F':Hp):Prop:=∀b o,F b=ς o->(∀ob φ,o≠.frz ob (.ext φ))->F' b=ς o
section
variable{K:xA9}{F F':Hp}
theorem SameX.rd(e:SameX F F')(h:Rd F a u)(h1:∀ob φ,u≠.frz ob (.ext φ))(h2:∀ φ,u≠.ext φ):Rd F' a u:=by
 rcases h with h|⟨o,h⟩
 .exact .inl (e _ _ h h1)
 .exact .inr ⟨o,e _ _ h fun ob φ z=>h2 φ (by cases z;rfl)⟩
mutual
theorem Rep.sameX(e:SameX F F'):∀{d:Dt}{v:V},Rep K F d v->Rep K F' d v
 |.non,v,h=>h
 |.bl _,v,h=>h
 |.int _,v,h=>h
 |.str _,v,h=>h
 |.t l,v,h=>by unfold Rep at h ⊢;obtain⟨a,vs,h1,h2,h3⟩:=h;exact⟨a,vs,h1,h2.imp (fun z=>e _ _ z fun _ _ z=>nomatch z) id,Reps.sameX e h3⟩
 |.e l,v,h=>by unfold Rep at h ⊢;obtain⟨a,vs,h1,h2,h3⟩:=h;exact⟨a,vs,h1,h2.imp (fun z=>e.rd z (fun _ _ z=>nomatch z) fun _ z=>nomatch z) id,Reps.sameX e h3⟩
 |.dct ks l,v,h=>by unfold Rep at h ⊢;obtain⟨a,vs,h1,h2,h3,h4⟩:=h;exact⟨a,vs,h1,(e.rd h2 (fun _ _ z=>nomatch z) (fun _ z=>nomatch z)),h3,Reps.sameX e h4⟩
 |.dcT ks l,v,h=>by unfold Rep at h ⊢;obtain⟨a,vs,h1,h2,h3,h4⟩:=h;exact⟨a,vs,h1,(e.rd h2 (fun _ _ z=>nomatch z) (fun _ z=>nomatch z)),h3,Reps.sameX e h4⟩
theorem Reps.sameX(e:SameX F F'):∀{l:η Dt}{vs:η V},Reps K F l vs->Reps K F' l vs
 |[],vs,h=>h
 |d::l,vs,h=>by unfold Reps at h ⊢;obtain⟨v,ws,h1,h2,h3⟩:=h;exact⟨v,ws,h1,Rep.sameX e h2,Reps.sameX e h3⟩
end
end
def deC(m:Nat)(ds caps:η Dt):De:=ds.map (fun d=>ς (T.f d))++(qb9 (m-ds.length-caps.length) ψ++caps.map (fun d=>ς (T.f d)))
def jC(m:Nat)(g:De->ζ Out)(caps:η Dt):η Dt->ζ T:=fun ds=>match g (deC m ds caps)with
 |some (.rt t)=>ς t
 |some (.nx _)=>ς (.f .non)
 |_=>ψ
theorem uo{F:Hp}{caps:η Dt}{fs:η V}(fh:Same F H)(r:Reps K F ds vs)(rc:Reps K F caps fs):En ⟨K,F,H,fun _=>False⟩ (deC N.length ds caps) (dE N vs fs) F H:=by
 have hl:=r.length;have hc:=rc.length
 have W:∀(i:Nat)(t:T),(deC N.length ds caps)[i]?=ς (ς t)->∃d v,t=T.f d/\Rep K F d v/\(dE N vs fs)[i]?=ς (ς v):=fun i t h=>by
  unfold deC at h;unfold dE;rw[hl,hc];by_cases hi:i<ds.length
  .rw[qc9 (by simpa using hi),qb3]at h;have Y:ds[i]?=ς ds[i]:=by simp[hi]
   rw[Y]at h;cases h;obtain⟨v,Z,U⟩:=r.get Y;refine⟨_,v,rfl,U,?_⟩;rw[qc9 (by simp;lia),qb3,Z];rfl
  .rw[qd5 (by simpa using hi),qa1]at h;rw[qd5 (by simp;lia),qa1,hl];by_cases hj:i-ds.length<N.length-ds.length-caps.length
   .rw[qc9 (by simpa using hj),qm1]at h;split at h<;>cases h
   .rw[qd5 (by simpa using hj),qn4,qb3]at h;obtain⟨d,Y,e⟩:=mS h;cases e;obtain⟨v,Z,U⟩:=rc.get Y;refine⟨d,v,rfl,U,?_⟩;rw[qd5 (by simpa using hj),qn4,qb3,Z];rfl
 refine⟨fh,fun b o h _=>h,Same.refl _,fun b o h=>.inl h,?_,fun i t h=>?_,fun _ _=>False,fun i t v h=>?_,fun i b z=>z.elim,fun i j b z _=>z.elim⟩
 .unfold deC dE;simp[hl,hc]
 .obtain⟨d,v,_,_,e⟩:=W i t h;exact⟨v,e⟩
 .obtain⟨h1,h2⟩:=cb h;obtain⟨d,v',rfl,U,e⟩:=W i t h1;rw[h2]at e;cases e;exact U
section
variable{P:qc5}{w:Ja}{K:xA9}{mg:Str->ζ Value}{base:Heap}{N ps fr:η Str}{name qual:Str}{params:ql1}{body:η Jb}{scope:Jd}{f c':J9}{cl:η (Str×J9)}{H:Hp}{fs:η V}{doc pm ctv:Value}{fo:Obj}{uf:HO}{k:Nat}{g:De->ζ Out}{caps ds:η Dt}{F0:Hp}{t:T}
theorem ClAt.up(C:ClAt H f name qual params body scope cl fr fs c' doc pm ctv fo uf)(h:∀b o u,H b=ς (.frz o u)->H' b=ς (.frz o u)):ClAt H' f name qual params body scope cl fr fs c' doc pm ctv fo uf:=⟨h _ _ _ C.fn,C.dat,let ⟨oc,z⟩:=C.cod;⟨oc,h _ _ _ z⟩,fun x c U=>let ⟨o,u,g,d⟩:=C.cel x c U;⟨o,u,h _ _ _ g,d⟩,C.inj,C.len,fun i x v h1 h2=>let ⟨c,o,u,e1,e2,e3⟩:=C.val i x v h1 h2;⟨c,o,u,e1,h _ _ _ e2,e3⟩,C.nms⟩
theorem su (S:ClScope N ps fr scope) (ndn:∀ x,∀ y∈scope.names,y.1=x->scope.names.lookup x=ς y.2) (C:ClAt H f name qual params body scope cl fr fs c' doc pm ctv fo uf) (rc:Reps K F0 caps fs)
  (hbd:∀(s:qa3)(us:η Value),us.length=ps.length->zc8 s (xG9 name qual params body scope cl .none .none doc pm ψ (.ref c') ctv) ⟨us,[]⟩ (ps.zip us))
  (hbody:∀(A:qe1)(outer:η Env)(s:qa3)(H:Hp),Room k (A.deeper (ic qual scope s.heap.objs.size f (.ref c') cl))->DS (oI CX0 P w K mg base N qual scope f (.ref c') cl A outer s H E0 fun _ _=>False) body g)
  (hl:ds.length=ps.length) (ht:jC N.length g caps ds=ς t) (A:qe1) (outer:η Env) (s:qa3) (H' F:Hp) (us:η Value) (vs:η V) (Q:VK) (hr:Room (k+1) A) (hp:∀b o u,H b=ς (.frz o u)->H' b=ς (.frz o u)) (e0:Env0 P w K mg base A outer s H') (h0:Same F0 F) (fh:Same F H') (r:Vals vs us) (rd:Reps K F ds vs) (kq:KO K F H' t Q) :
  qq7 (model P w) A (.call (.ref f) ⟨us,[]⟩) (CR CX0 outer P w H' s Q E0) s:=by
 have C':=C.up hp;have hvl:vs.length=ps.length:=by rw[rd.length,hl]
 have cn:∀b,b∈cl.map (·.2)->∃o u,H' b=ς (fL b o)/\o.data=.cell (ς u):=fun b U=>by obtain⟨x,hx⟩:=ig U;exact C'.cel x b hx
 have hsx:SameX F (cx F cl):=fun b o e hn=>by
  rw[aW fun z=>?_]
  .exact e
  .obtain⟨ob,u,g,_⟩:=cn b z;have:=fh b o e;rw[g]at this;exact hn _ _ (qd6 this).symm
 have fh':Same (cx F cl) (cx H' cl):=fun b o e=>by obtain⟨U,e⟩:=lX e;rw[aW U];exact fh b o e
 have fin:∀v F2 H2,Rt ⟨K,cx F cl,cx H' cl,fun _=>False⟩ t v F2 H2->(∀b∈cl.map (·.2),H2 b=ψ)->Q v (eQ H' cl H2):=fun v F2 H2 R hn=>by
  obtain⟨fh2,prot,old,nw,So,o,hs⟩:=R;have sin:∀{b:J9},b∈cl.map (·.2)->eQ H' cl H2 b=H' b:=fun U=>if_pos U
  have Z:∀{b:J9},b∉cl.map (·.2)->eQ H' cl H2 b=H2 b:=fun U=>if_neg U
  let F3:Hp:=eQ F cl F2;have tin:∀{b:J9},b∈cl.map (·.2)->F3 b=F b:=fun U=>if_pos U
  have Y:∀{b:J9},b∉cl.map (·.2)->F3 b=F2 b:=fun U=>if_neg U
  have nF2:∀b,b∈cl.map (·.2)->F2 b=ψ:=fun b U=>by
   cases z:F2 b with
   |none=>rfl
   |some u=>have:=fh2 b u z;rw[hn b U]at this;cases this
  have h23:Same F2 F3:=fun b u e=>by
   by_cases U:b∈cl.map (·.2)
   .rw[nF2 b U]at e;cases e
   .rw[Y U];exact e
  have hh23:Same H2 (eQ H' cl H2):=fun b u e=>by
   by_cases U:b∈cl.map (·.2)
   .rw[hn b U]at e;cases e
   .rw[Z U];exact e
  refine kq v (eQ H' cl H2) F3 So ⟨fun b u e=>?_,fun b u e=>?_,fun b u e=>?_,fun b u e=>?_⟩ (Own.step h23 (fun b u _ e=>hh23 b u e) o) fun b z=>?_
  .by_cases U:b∈cl.map (·.2)
   .rw[sin U];exact e
   .rw[Z U];exact prot b u ((aW U).trans e) id
  .by_cases U:b∈cl.map (·.2)
   .rw[tin U];exact e
   .rw[Y U];exact old b u ((aW U).trans e)
  .by_cases U:b∈cl.map (·.2)
   .rw[tin U]at e;rw[sin U];exact fh b u e
   .rw[Y U]at e;rw[Z U];exact fh2 b u e
  .by_cases U:b∈cl.map (·.2)
   .rw[tin U]at e;exact .inl e
   .rw[Y U]at e;rcases nw b u e with y|y|⟨ws,y⟩
    .exact .inl ((aW U).symm.trans y)
    .exact .inr (.inl ((aW U).symm.trans (y.elim id qg9)))
    .exact .inr (.inr ⟨ws,(aW U).symm.trans y⟩)
  .obtain⟨h1,⟨u,h2,nt⟩,h3⟩:=hs b z;have U:b∉cl.map (·.2):=fun y=>by rw[hn b y]at h2;cases h2
   exact⟨by rw[Y U];exact h1,(aW U).symm.trans (h3.elim id qg9),u,by rw[Z U];exact h2,nt⟩
 have hul:us.length=ps.length:=by rw[<- r.length];exact hvl
 refine wg (CX:=CX0) (E:=E0) S C' ndn hr e0 (hbd s us hul) hvl r fun hr2=>⟨_,hbody A outer s (cx H' cl) hr2,?_⟩
 have en:=uo (N:=N) fh' (rd.sameX hsx) ((rc.same h0).sameX hsx);unfold jC at ht;split at ht
 .rename_i t' q;cases ht;exact⟨_,_,_,_,rfl,en,q,fun v F2 H2 R=>fin v F2 H2 R⟩
 .rename_i δ' q;cases ht;exact⟨_,_,_,_,rfl,en,q,fun σ' F2 H2 z=>fin .non F2 H2 (z.rt (Step.refl z.fh) (t:=.f .non) (S:=fun _=>False) (ip (K:=K) (F:=F2)) fun _ y=>y.elim)⟩
 .cases ht
end
end L2
namespace L2
open PySem PySem.Spec PyProof.Rows
structure MadeH(H H':Hp)(f c':J9)(qual:Str)(fo:Obj):Prop where
 fn:H' f=ς (.frz fo (.ext fun h=>h.get? f=ς fo))
 cod:∃oc,H' c'=ς (.frz oc (.code qual))
 old:Same H H'
 free:H f=ψ
def tDef(P:J9)(qs:η ((Nat×Nat)×Str))(i:Nat)(name qual:Str)(params:ql1)(body:η Jb)(scope:Jd)(clos:η (Str×J9)):TS:=fun D σ H=>H P=ς (.ctab qs)/\∀(f c':J9)(doc pm ctv:Value)(H':Hp),MadeH H H' f c' qual {cls:=.type "function",data:=.func (xG9 name qual params body scope clos .none .none doc pm ψ (.ref c') ctv)}->D.nx (σ.set i (ς (.ref f))) H'
section
variable{X:Cx}{c P:J9}{qs:η ((Nat×Nat)×Str)}{name qual:Str}{params:ql1}{body:η Jb}{scope:Jd}{clos:η (Str×J9)}{pos:Pos}{i:Nat}
theorem Dn (hN:X.N.Nodup) (hi:X.N[i]?=ς name) (hx:Loc X.env.scope name) (hfn:X.fn name=θ∨X.env.scope.names.lookup name=ς .local) (B:TabB X.mg X.base c P) (U:X.env.code=.ref c) (Y:qualnameIn X.env name name=qual) (hq:((pos.line,pos.col),qual)∈qs) (Z:∀ q,((pos.line,pos.col),q)∈qs->q=qual) (hcl:zi3 scope X.env=pure clos)
  (hd0:params.defaults=[]) (hk0:params.kw_defaults=[]) (ha:annTrees params ψ X.env=[]):PS X (.FunctionDef name params body [] ψ [] scope ψ name pos) (tDef P qs i name qual params body scope clos):=by
 intro J1 s σ H D I h;obtain⟨hP,q⟩:=h;refine PySem.W.nestDef_K hd0 hk0 ha ?_;rw[Y];refine zI I B U hP hq Z hcl fun f c' doc pm ctv H' s' M I'=>?_
 exact hJ I' hN hi hx (v:=.ref f) rfl (fun s2 I2=>⟨_,H',I2,q f c' doc pm ctv H' ⟨M.fn,M.cod,fun b o e=>M.old b o e,I.hok.fresh M.lof⟩⟩) hfn
end
def bp(X:Cx)(b:J9):Prop:=∃x,X.env.cells.lookup x=ς b
open Classical in
def jn(X:Cx)(H:Hp):Hp:=fun b=>if bp X b then ψ else H b
structure PlusC(X:Cx)(σ:St)(H H':Hp):Prop where
 out:∀b,¬ bp X b->H' b=H b
 fre:∀b,bp X b->H b=ψ
 cel:∀x c,X.env.cells.lookup x=ς c->∃o v,H' c=ς (fL c o)/\o.data=.cell v/\∀(i:Nat)(val:V),X.N[i]?=ς x->σ[i]?=ς (ς val)->(X.env.kindOf x=ς .cell∨X.env.kindOf x=ς .free)->∃u,v=ς u/\RelV val u
variable{H':Hp}{u:Value}
section
variable{X:Cx}{J1:η (J9×Obj)}{σ:St}{H:Hp}{s:qa3}
def oP{b:J9}(h:bp X b):jn X H b=ψ:=if_pos h
def bR{b:J9}(h:¬ bp X b):jn X H b=H b:=if_neg h
open Classical in
theorem zQ(I:Inv X J1 σ H s)(W:∀b,bp X b->b∉frs X.stack/\∀o,X.base.get? b≠ς o):∃H',PlusC X σ H H'/\Env0 X.prog X.w X.K X.mg X.base X.A X.stack s H':=by
 let H':Hp:=fun b=>if bp X b then(s.heap.get? b).map (fL b)else H b
 have Z:∀{b:J9},bp X b->H' b=(s.heap.get? b).map (fL b):=fun h=>if_pos h
 have U:∀{b:J9},¬ bp X b->H' b=H b:=fun h=>if_neg h
 have e0:=I.env0;refine⟨H',⟨fun b h=>U h,fun b ⟨x,hx⟩=>I.freeC x b hx,fun x c e=>?_⟩,⟨e0.frames,e0.mod,fun b o e=>⟨(e0.bs b o e).1,?_⟩,e0.bsz,e0.funs,fun b hb=>?_,fun b u e=>?_,e0.bare,fun p hp=>by rw[U fun⟨x,hx⟩=>by have:=I.freeC x _ hx;rw[e0.tb p hp]at this;cases this];exact e0.tb p hp⟩⟩
 .obtain⟨v,o,Y,hd⟩:=I.cell x c e;refine⟨o,v,by rw[Z ⟨x,e⟩,Y];rfl,hd,fun i val h1 h2 h3=>?_⟩;obtain⟨m,_,hl⟩:=I.loc;have hv:Vis X.env.scope x:=h3.elim (fun z=>.inr (.inl z)) fun z=>.inr (.inr z)
  obtain⟨u,ru,lk⟩:=hl i x val h1 h2 hv;rcases lk with ⟨k1,_⟩|⟨_,c2,k2,o2,k3,k4⟩
  .rcases h3 with z|z<;>(rw[k1]at z;cases z)
  .rw[e]at k2;cases k2;rw[Y]at k3;cases k3;rw[hd]at k4;cases k4;exact⟨u,rfl,ru⟩
 .have:¬ bp X b:=fun z=>(W b z).2 o e
  rw[U this];exact(e0.bs b o e).2
 .have:¬ bp X b:=fun z=>(W b z).1 hb
  rw[U this];exact e0.frf b hb
 .have up:∀c u,H c=ς u->H' c=ς u:=fun c u z=>by
   rw[U]
   .exact z
   .rintro⟨x,hx⟩;rw[I.freeC x c hx]at z;cases z
  by_cases hb:bp X b
  .rw[Z hb]at e;obtain⟨o,Y,rfl⟩:=mS e;exact⟨Y,Y,⟨o,Y⟩,fun h1 h2 z1 z2=>z2 o z1⟩
  .rw[U hb]at e;exact(I.hok b u e).stay (fun _ _ _ z=>z) (fun c z=>up c _ z) (fun c xs z=>up c _ z) fun c ob xs z=>up c _ z
theorem Inv.afterP{Q:VK}{s':qa3}(I:Inv X J1 σ H s)(pc:PlusC X σ H H')(ok':HOk X.prog X.w H' s.heap)(h:CE X.stack X.prog X.w H' s (fun v H2=>(∀c,bp X c->H2 c=H' c)->Q v (jn X H2)) u s'):EP X J1 σ Q u s':=by
 obtain⟨v,H2,os,bare,un,hok,r,q⟩:=h;obtain⟨hh,g,d,t,os'⟩:=s';obtain rfl:os'=s.os:=os
 have W:∀{b:J9},bp X b->∃o,H' b=ς (fL b o)/\s.heap.get? b=ς o/\H2 b=ς (fL b o)/\hh.get? b=ς o:=fun {b} hb=>by obtain⟨x,Y⟩:=hb;obtain⟨o,v,e,_⟩:=pc.cel x b Y;have e2:=un.frzs b o _ e;exact⟨o,e,(ok' b _ e).1,e2,(hok b _ e2).1⟩
 have Z:∀{b:J9}{w:HO},H b=ς w->¬ bp X b:=fun {b w} z ⟨x,Y⟩=>by rw[I.freeC x b Y]at z;cases z
 refine⟨v,jn X H2,I.call (h':=hh) (g':=g) (d':=d) (t':=t) (ch:=[]) ⟨fun b o e n hb Y=>?_,fun b o e n hb Y=>?_,fun b o e n Y=>?_,un.there,fun b xs e=>?_,fun b o w e=>?_,fun b ps e=>?_,fun b qs e=>?_⟩ (fun b w e=>?_) bare (fun b z=>absurd z Ξ),r,q fun c U=>?_⟩
 .by_cases U:bp X b
  .obtain⟨o',_,h1,_,h2⟩:=W U;rw[e]at h1;cases h1;exact h2
  .exact un.keep b o e (by rw[pc.out b U];exact n) hb Y
 .by_cases U:bp X b
  .obtain⟨o',_,h1,_,h2⟩:=W U;rw[e]at h1;cases h1;exact⟨o.slots,h2⟩
  .exact un.slot b o e (by rw[pc.out b U];exact n) hb Y
 .by_cases U:bp X b
  .exact oP U
  .rw[bR U];exact un.free b o e (by rw[pc.out b U];exact n) Y
 .rw[bR (Z e)];exact un.tups b xs (by rw[pc.out b (Z e)];exact e)
 .rw[bR (Z e)];exact un.frzs b o w (by rw[pc.out b (Z e)];exact e)
 .rw[bR (Z e)];exact un.tbls b ps (by rw[pc.out b (Z e)];exact e)
 .rw[bR (Z e)];exact un.cts b qs (by rw[pc.out b (Z e)];exact e)
 .by_cases U:bp X b
  .rw[oP U]at e;cases e
  .rw[bR U]at e
   have up:∀c u,H2 c=ς u->(∀ob φ,u≠.frz ob (.ext φ))->jn X H2 c=ς u:=fun c u z hn=>by
    rw[bR]
    .exact z
    .intro hcc;obtain⟨o',_,_,h1,_⟩:=W hcc;rw[z]at h1;exact hn _ _ (qd6 h1)
   exact(hok b w e).stay (fun _ _ _ z=>z) (fun c z=>up c _ z fun _ _ y=>nomatch y) (fun c xs z=>up c _ z fun _ _ y=>nomatch y) fun c ob xs z=>up c _ z fun _ _ y=>nomatch y
 .obtain⟨o',h1,_,h2,_⟩:=W U;rw[h1,h2]
end
variable{l:η Dt}
section
variable{K:xA9}{F H:Hp}{Q:VK}
theorem KO.int{i:Int}(k:KO K F H (.f (.int i)) Q)(U:Same F H):Q (.int i) H:=k.leaf.here U fq
theorem KO.bl{i:Bool}(k:KO K F H (.f (.bl i)) Q)(U:Same F H):Q (.bl i) H:=k.leaf.here U wq
theorem KO.str{i:Str}(k:KO K F H (.f (.str i)) Q)(U:Same F H):Q (.str i) H:=k.leaf.here U io
theorem KO.tup{vs:η V}{p:J9}(k:KO K F H (.f (.t l)) Q)(U:Same F H)(r:Reps K F l vs)(hp:H p=ψ):Q (.ref p) (upd H p (.t vs)):=by refine k.leaf _ _ _ (Step.new U hp) ?_;simp only[Rep];exact⟨p,vs,rfl,SqT.of aw,r.same (Same.upd (U.free hp))⟩
end
def jo(i j:Int):Bool:=(decide (-(2^64)<i)&&decide (i<2^64))||(decide (-(2^64)<j)&&decide (j<2^64))
theorem zR{i j:Int}(h:jo i j=θ):CMul i j:=by unfold jo at h;simp only[qj1,qa9,decide_eq_true_eq]at h;exact h
theorem GE{i j:Int}(h1:-1000000000000000000<i)(h2:i<1000000000000000000):jo i j=θ:=by unfold jo;simp only[qj1,qa9,decide_eq_true_eq];left;lia
theorem zS{i j:Int}(h1:-1000000000000000000<j)(h2:j<1000000000000000000):jo i j=θ:=by unfold jo;simp only[qj1,qa9,decide_eq_true_eq];right;lia
def oQ(i j:Int):Bool:=decide (0<=j)&&decide (j<=1000000)&&decide (i.natAbs<2^64)
theorem zT{i j:Int}(h:oQ i j=θ):CL i j:=by unfold oQ at h;simp only[qa9,decide_eq_true_eq]at h;exact⟨h.1.1,h.1.2,h.2⟩
noncomputable def aI:Dt->Dt->ζ T
 |.int i,.int j=>ς (.f (.int (i+j)))
 |.str a,.str b=>if a.length+b.length<=qb2 then ς (.f (.str (a++b)))else ψ
 |.e l,.e m=>if l.length+m.length<=qb2 then ς (.e (l++m))else ψ
 |.t l,.t m=>if l.length+m.length<=qb2/\l≠[]/\m≠[]then ς (.f (.t (l++m)))else ψ
 |_,_=>ψ
noncomputable def eU:Dt->Dt->ζ T
 |.int i,.int j=>ς (.f (.int (i-j)))
 |_,_=>ψ
def jD:Dt->Dt->ζ T
 |.int i,.int j=>if jo i j then ς (.f (.int (i*j)))else ψ
 |_,_=>ψ
def ce:Dt->Dt->ζ T
 |.int i,.int j=>if 0<j then ς (.f (.int (i%j)))else ψ
 |_,_=>ψ
def ko:Dt->Dt->ζ T
 |.int i,.int j=>if oQ i j then ς (.f (.int (i^j.toNat)))else ψ
 |_,_=>ψ
def fV(f:Int->Int->Bool):Dt->Dt->ζ T
 |.int i,.int j=>ς (.f (.bl (f i j)))
 |_,_=>ψ
variable{K:xA9}{H F':Hp}{b:Bool}{v:V}{e:Jc}{p2:Pos}
section
variable{X:Cx}
theorem zU:OpR X (qm9 .Add) (fun x y H Q=>∃l b xs zs,x=.ref l/\y=.ref b/\SqL X.K H l xs/\SqL X.K H b zs/\xs.length+zs.length<=qb2/\∀p,H p=ψ->Q (.ref p) (upd H p (.e (xs++zs)))):=by
 intro J1 s σ H x y v u Q I rx ry h;obtain⟨l,b,xs,zs,rfl,rfl,hH,hB,hz,q⟩:=h;cases rx;cases ry;obtain⟨J8,r,pl,_⟩:=I.list hH;obtain⟨U,r2,pl2,_⟩:=I.list hB;obtain⟨⟨cls,dd,data,sl⟩,n,ho,hc,hd0,hd⟩:=pl;obtain⟨⟨cls2,dd2,data2,sl2⟩,n2,Y,Z,hd02,W⟩:=pl2;simp only at hc hd Z W;subst hc hd Z W;have e:J8.toArray++U.toArray=(J8++U).toArray:=by simp
 refine za5 ⟨_,ho,rfl⟩ ⟨_,Y,rfl⟩ noFill_list_add seq_list_add PySem.F.slot_list_add PySem.F.entry_list_add (PySem.F.args_list_add_2 _ _) (list_addW l b J8.toArray U.toArray n n2 dd dd2 sl sl2 (by rw[qb6,qb6,<- r.length,<- r2.length];exact hz)) ⟨ho,Y,?_⟩;rw[e];exact⟨.ref _,_,I.lnew (t':=s.toks) (r.append r2) (by rw[qc4];exact hz),rfl,q _ I.fresh⟩
abbrev l6(K:xA9):R2:=fun x y H Q=>(rI0 (fun i j=>.int (i+j)) x y H Q)∨(∃i j,x=.str i/\y=.str j/\i.length+j.length<=qb2/\Q (.str (i++j)) H)∨(∃l b xs zs,x=.ref l/\y=.ref b/\SqL K H l xs/\SqL K H b zs/\xs.length+zs.length<=qb2/\∀p,H p=ψ->Q (.ref p) (upd H p (.e (xs++zs))))∨Bq K x y H Q
theorem ev:OpR X (qm9 .Add) (l6 X.K):=OpR.or CM (OpR.or qg (OpR.or zU zw))
def jp:R2D K (l6 K) aI:=by
 intro F H x y vx vy Q t W rx ry U k;unfold aI at U;split at U<;>first|(cases U;done)|skip
 .cases U;cases rx;cases ry;exact .inl ⟨_,_,rfl,rfl,k.int W⟩
 .split at U
  .cases U;cases rx;cases ry;exact .inr (.inl ⟨_,_,rfl,rfl,by assumption,k.str W⟩)
  .cases U
 .split at U
  .rename_i Z;cases U;obtain⟨a,vs,rfl,h1,h2⟩:=rx;obtain⟨b,ws,rfl,h3,Y⟩:=ry;exact .inr (.inr (.inl ⟨a,b,vs,ws,rfl,rfl,h1,h3,by rw[h2.length,Y.length];exact Z,fun p hp=>em k W (h2.append Y) hp⟩))
  .cases U
 .split at U
  .rename_i Z;cases U;obtain⟨a,vs,rfl,h1,h2⟩:=rx;obtain⟨b,ws,rfl,h3,Y⟩:=ry;obtain⟨Z,n1,n2⟩:=Z;refine .inr (.inr (.inr ⟨a,b,vs,ws,rfl,rfl,W.tup h1,W.tup h3,fun z=>?_,by rw[h2.length,Y.length];exact Z,fun z=>?_,fun _ p hp=>k.tup W (h2.append Y) hp⟩))
   .subst z;have:=h2.length;exact n1 (qw9 this.symm)
   .subst z;have:=Y.length;exact absurd (qw9 this.symm) n2
  .cases U
def FI:R2D K (rI0 fun i j=>.int (i-j)) eU:=by
 intro F H x y vx vy Q t W Y Z U k;unfold eU at U;split at U<;>first|(cases U;done)|skip
 cases U;cases Y;cases Z;exact⟨_,_,rfl,rfl,k.int W⟩
def FJ:R2D K (rI CMul fun i j=>.int (i*j)) jD:=by
 intro F H x y vx vy Q t W Y Z U k;unfold jD at U;split at U<;>first|(cases U;done)|skip
 split at U
 .cases U;cases Y;cases Z;exact⟨_,_,rfl,rfl,zR (by assumption),k.int W⟩
 .cases U
theorem wC:R2D K (rI (fun _ j=>0<j) fun i j=>.int (i%j)) ce:=by
 intro F H x y vx vy Q t Z W Y U k;unfold ce at U;split at U<;>first|(cases U;done)|skip
 split at U
 .cases U;cases W;cases Y;exact⟨_,_,rfl,rfl,by assumption,k.int Z⟩
 .cases U
theorem oR:R2D K (rI CL fun i j=>.int (i^j.toNat)) ko:=by
 intro F H x y vx vy Q t W Y Z U k;unfold ko at U;split at U<;>first|(cases U;done)|skip
 split at U
 .cases U;cases Y;cases Z;exact⟨_,_,rfl,rfl,zT (by assumption),k.int W⟩
 .cases U
theorem ir{f:Int->Int->Bool}:R2D K (rI0 fun i j=>.bl (f i j)) (fV f):=by
 intro F H x y vx vy Q t Z W Y U k;unfold fV at U;split at U<;>first|(cases U;done)|skip
 cases U;cases W;cases Y;exact⟨_,_,rfl,rfl,k.bl Z⟩
def eqD:Dt->Dt->ζ Bool
 |.non,.non=>ς θ
 |.non,.int _=>ς ξ
 |.non,.bl _=>ς ξ
 |.non,.str _=>ς ξ
 |.int _,.non=>ς ξ
 |.bl _,.non=>ς ξ
 |.str _,.non=>ς ξ
 |.int i,.int j=>ς (decide (i=j))
 |.bl i,.bl j=>ς (decide (i=j))
 |.str i,.str j=>ς (decide (i=j))
 |.int _,.str _=>ς ξ
 |.str _,.int _=>ς ξ
 |.bl _,.str _=>ς ξ
 |.str _,.bl _=>ς ξ
 |.t l,.t m=>if cmpbs l m&&decide (deeps l<=59)then ς (peqs l m)else ψ
 |.e l,.e m=>if cmpbs l m&&decide (deeps l<=59)then ς (peqs l m)else ψ
 |_,_=>ψ
def gEq(neg:Bool)(x y:Dt):ζ T:=(eqD x y).map fun b=>.f (.bl (if neg then !b else b))
abbrev rEqA(K:xA9):R2:=fun x y H Q=>rEq x y H Q∨zJ K ξ x y H Q
abbrev rNeA(K:xA9):R2:=fun x y H Q=>rNe x y H Q∨zJ K θ x y H Q
theorem wD{k:Nat}(U:Room k X.A):OpR X (qh8 .Eq) (rEqA X.K):=OpR.or Fj (Dc U rfl)
theorem ni{k:Nat}(U:Room k X.A):OpR X (qh8 .NotEq) (rNeA X.K):=OpR.or Fk (Df U rfl)
theorem wE {F:Hp} {x y:Dt} {U W:V} (fh:Same F H) (Y:RepB K F H x U) (Z:RepB K F H y W) (h:eqD x y=ς b) :
  (CQ U W=θ/\b=decide (U=W))∨(((∃l m,x=.t l/\y=.t m)∨∃l m,x=.e l/\y=.e m)/\dY x y=θ/\ij x<=60/\b=peq x y):=by
 unfold eqD at h
 split at h<;>first
  |(cases h;done)
  |(cases h;cases Y;cases Z;left;refine⟨rfl,?_⟩;simp;done)
  |skip
 .right;split at h
  .rename_i q;simp only[qa9,decide_eq_true_eq]at q;cases h;exact⟨.inl ⟨_,_,rfl,rfl⟩,by simp only[dY];exact q.1,by simp only[ij];lia,by simp only[peq]⟩
  .cases h
 .right;split at h
  .rename_i q;simp only[qa9,decide_eq_true_eq]at q;cases h;exact⟨.inr ⟨_,_,rfl,rfl⟩,by simp only[dY];exact q.1,by simp only[ij];lia,by simp only[peq]⟩
  .cases h
def r_eq:R2D K (rEqA K) (gEq ξ):=by
 intro F H x y vx vy Q t W Y Z U k;unfold gEq at U;obtain⟨b,hb,U⟩:=mS U;cases U;have kk:Q (.bl b) H:=k.bl W;rcases wE W Y Z hb with ⟨h1,rfl⟩|⟨h1,h2,h3,rfl⟩
 .exact .inl ⟨h1,kk⟩
 .exact .inr ⟨x,y,h1,Y.rep W,Z.rep W,h2,h3,kk⟩
def zV:R2D K (rNeA K) (gEq θ):=by
 intro F H x y vx vy Q t W Y Z U k;unfold gEq at U;obtain⟨b,hb,U⟩:=mS U;cases U;have kk:Q (.bl (!b)) H:=k.bl W;rcases wE W Y Z hb with ⟨h1,rfl⟩|⟨h1,h2,h3,rfl⟩
 .exact .inl ⟨h1,kk⟩
 .exact .inr ⟨x,y,h1,Y.rep W,Z.rep W,h2,h3,kk⟩
noncomputable def gh:Dt->Bool
 |.non=>θ
 |_=>ξ
def gIs(neg:Bool)(x y:Dt):ζ T:=match y with
 |.non=>ς (.f (.bl (if neg then !gh x else gh x)))
 |_=>ψ
theorem oS{F:Hp}{x:Dt}(r:RepB K F H x v):gh x=decide (v=.non):=by
 cases x<;>first
  |(cases r;rfl)
  |(obtain⟨a,vs,rfl,_⟩:=r;rfl)
  |(simp only[RepB,Rep]at r;obtain⟨a,C,dx,fs,rfl,_⟩:=r;rfl)
theorem r_is:R2D K (fun x y H Q=>y=.non/\Q (.bl (decide (x=.non))) H) (gIs ξ):=by
 intro F H x y vx vy Q t Z W Y U k;cases y<;>first|cases U;done|skip
 cases U;cases Y;refine⟨rfl,?_⟩;rw[<- oS W];exact k.bl Z
theorem sv:R2D K (fun x y H Q=>y=.non/\Q (.bl (!decide (x=.non))) H) (gIs θ):=by
 intro F H x y vx vy Q t Z W Y U k;cases y<;>first|cases U;done|skip
 cases U;cases Y;refine⟨rfl,?_⟩;rw[<- oS W];exact k.bl Z
def bV:Dt->Bool
 |.non=>θ
 |.bl _=>θ
 |.int _=>θ
 |.str _=>θ
 |_=>ξ
noncomputable def eqF:Dt->Dt->Bool
 |.non,.non=>θ
 |.bl a,.bl b=>a==b
 |.bl a,.int b=>(if a then 1 else 0)==b
 |.int a,.bl b=>a==(if b then 1 else 0)
 |.int a,.int b=>a==b
 |.str a,.str b=>a==b
 |_,_=>ξ
def inS(j i:Str):Bool:=!(qu6 j i 0 j.length 1).isEmpty
def inD:Dt->Dt->ζ Bool
 |.str i,.str j=>ς (inS j i)
 |x,.e l=>if bV x&&l.all bV then ς (l.any fun y=>eqF y x)else ψ
 |x,.t l=>if bV x&&l.all bV then ς (l.any fun y=>eqF y x)else ψ
 |_,_=>ψ
def gIn(neg:Bool)(x y:Dt):ζ T:=(inD x y).map fun b=>.f (.bl (if neg then !b else b))
theorem nj{F:Hp}{d:Dt}(r:Rep K F d v)(h:bV d=θ):gH v=θ:=by
 cases d<;>simp only[Rep]at r<;>first
  |(subst r;rfl)
  |cases h
theorem Do{F:Hp}{d e:Dt}{w:V}(r:Rep K F d v)(U:Rep K F' e w)(h:bV d=θ)(h':bV e=θ):eqF d e=eqV v w:=by
 cases d<;>first|cases h;done|skip
 all_goals cases e<;>first|cases h';done|skip
 all_goals simp only[Rep]at r U;subst r U;rfl
theorem kr{F:Hp}:∀{l:η Dt}{vs:η V},Reps K F l vs->l.all bV=θ->vs.all gH=θ
 |[],vs,r,_=>by simp only[Reps]at r;subst r;rfl
 |d::l,vs,r,h=>by simp only[Reps]at r;obtain⟨v,U,rfl,h1,h2⟩:=r;rw[qm2,qa9]at h ⊢;exact⟨nj h1 h.1,kr h2 h.2⟩
theorem qt{F:Hp}{x:Dt}{w:V}(U:Rep K F' x w)(W:bV x=θ):∀{l:η Dt}{vs:η V},Reps K F l vs->l.all bV=θ->(l.any fun y=>eqF y x)=inV w vs
 |[],vs,r,_=>by simp only[Reps]at r;subst r;rfl
 |d::l,vs,r,h=>by simp only[Reps]at r;obtain⟨v,Y,rfl,h1,h2⟩:=r;rw[qm2,qa9]at h;unfold inV;rw[ql2,ql2,Do h1 U h.1 W,qt U W h2 h.2];rfl
abbrev wF(K:xA9)(neg:Bool):R2:=fun x y H Q=>(∃i j,x=.str i/\y=.str j/\Q (.bl (if neg then !inS j i else inS j i)) H)∨rIn K neg x y H Q
def wG:OpR X (qh8 .In) (wF X.K ξ):=OpR.or tZ t8
theorem uq:OpR X (qh8 .NotIn) (wF X.K θ):=OpR.or mX mW
def r_in(neg:Bool):R2D K (wF K neg) (gIn neg):=by
 intro F H x y vx vy Q t Z rx ry Y k;unfold gIn at Y;obtain⟨b,W,Y⟩:=mS Y;cases Y;have kk:=k.bl Z;unfold inD at W;split at W<;>first|(cases W;done)|skip
 .cases W;cases rx;cases ry;exact .inl ⟨_,_,rfl,rfl,kk⟩
 .split at W
  .rename_i q;rw[qa9]at q;cases W;obtain⟨a,vs,rfl,h1,h2⟩:=ry;have U:=rx.rep Z;rw[qt U q.1 h2 q.2]at kk;exact .inr ⟨a,vs,rfl,.inl h1,nj U q.1,kr h2 q.2,kk⟩
  .cases W
 .split at W
  .rename_i q;rw[qa9]at q;cases W;obtain⟨a,vs,rfl,h1,h2⟩:=ry;have U:=rx.rep Z;rw[qt U q.1 h2 q.2]at kk;exact .inr ⟨a,vs,rfl,.inr (Z.tup h1),nj U q.1,kr h2 q.2,kk⟩
  .cases W
theorem oT{F:Hp}{vs:η V}{i:Int}{d:Dt}(r:Reps K F l vs)(h:atI l i=ς d):∃v,atI vs i=ς v/\Rep K F d v:=by unfold atI at h ⊢;rw[r.length];obtain⟨j,U,h⟩:=bS h;obtain⟨v,e,W⟩:=r.get h;exact⟨v,by rw[U];exact e,W⟩
def gIx:Dt->Dt->ζ T
 |.e l,.int i=>(atI l i).map .f
 |.t l,.int i=>(atI l i).map .f
 |.str x,.int i=>if x.length<=qb2 then(atI x.cps.toList i).map fun c=>.f (.str ⟨#[c]⟩)else ψ
 |_,_=>ψ
def r_ix:R2D K (rIx K) gIx:=by
 intro F H x y vx vy Q t W Z ry U k;unfold gIx at U;split at U<;>first|(cases U;done)|skip
 .obtain⟨d,Y,U⟩:=mS U;cases U;cases ry;obtain⟨a,vs,rfl,h1,h2⟩:=Z;obtain⟨v,e,rv⟩:=oT h2 Y;exact .inl ⟨a,vs,_,v,rfl,rfl,h1,e,k.leaf.here W rv⟩
 .obtain⟨d,Y,U⟩:=mS U;cases U;cases ry;obtain⟨a,vs,rfl,h1,h2⟩:=Z;obtain⟨v,e,rv⟩:=oT h2 Y;exact .inr (.inl ⟨a,vs,_,v,rfl,rfl,W.tup h1,e,k.leaf.here W rv⟩)
 .split at U
  .rename_i hl;obtain⟨c,hc,U⟩:=mS U;cases U;cases Z;cases ry;exact .inr (.inr ⟨_,_,c,rfl,rfl,hl,hc,k.str W⟩)
  .cases U
variable{a b c:Jc}{fa fb fc:De->ζ Dt}{pos:Pos}
noncomputable def kt(l:η Dt)(lo hi:ζ Int):η Dt:=(l.drop (HT.sIx l.length 0 lo)).take (HT.sIx l.length l.length hi-HT.sIx l.length 0 lo)
def gSl:Dt->ζ Int->ζ Int->ζ T
 |.str x,lo,hi=>if x.length<=qb2 then ς (.f (.str (Txt.slice x lo hi)))else ψ
 |.e l,lo,hi=>ς (.e (kt l lo hi))
 |.t l,lo,hi=>if HT.sIx l.length 0 lo=0/\HT.sIx l.length l.length hi=l.length then ψ else ς (.f (.t (kt l lo hi)))
 |_,_,_=>ψ
abbrev rSlA(K:xA9):V->ζ Int->ζ Int->Hp->VK->Prop:=fun x lo hi H Q=>rSlS x lo hi H Q∨rSlL K x lo hi H Q∨rSlT K x lo hi H Q
def Dp:SlR X (rSlA X.K):=SlR.or C5 (SlR.or zz CY)
theorem oU{F:Hp}{vs:η V}(r:Reps K F l vs)(lo hi:ζ Int):Reps K F (kt l lo hi) (oA vs lo hi):=by unfold kt oA;rw[r.length];exact(r.drop _).take _
theorem r_sl{F:Hp}{x:Dt}{lo hi:ζ Int}{Q:VK}{t:T}(W:Same F H)(Y:RepB K F H x v)(U:gSl x lo hi=ς t)(k:KO K F H t Q):rSlA K v lo hi H Q:=by
 unfold gSl at U;split at U<;>first|(cases U;done)|skip
 .split at U
  .cases U;cases Y;exact .inl ⟨_,rfl,by assumption,k.str W⟩
  .cases U
 .obtain⟨a,vs,rfl,h1,h2⟩:=Y;cases U;exact .inr (.inl ⟨a,vs,rfl,h1,fun p hp=>em k W (oU h2 _ _) hp⟩)
 .obtain⟨a,vs,rfl,h1,h2⟩:=Y;split at U
  .cases U
  .rename_i Z;cases U;rw[<- h2.length]at Z;exact .inr (.inr ⟨a,vs,rfl,W.tup h1,Z,fun p hp=>k.tup W (oU h2 _ _) hp⟩)
def tOD(K:xA9)(f:De->ζ (ζ Int)):TO:=fun σ H Q=>∃ Φ δ F d,Fm.K Φ=K/\En Φ δ σ F H/\f δ=ς d/\∀H' F',Step F H F' H'->Q d H'
def oV:De->ζ (ζ Int):=fun _=>ς ψ
noncomputable def asI:Dt->ζ Int
 |.int i=>ς i
 |_=>ψ
def fO(f:De->ζ Dt):De->ζ (ζ Int):=fun δ=>(f δ).bind fun d=>(asI d).map ς
theorem iu{F:Hp}{x:Dt}{b:Int}(h:asI x=ς b)(r:RepB K F H x v):v=.int b:=by
 cases x<;>first|cases h;done|skip
 cases h;exact r
def DP(X:Cx)(e:ζ Jc)(f:De->ζ (ζ Int)):Prop:=PO X e (tOD X.K f)
theorem zW:DP X ψ oV:=fun J1 s σ H Q I h=>zr J1 s σ H Q I (by obtain⟨Φ,δ,F,d,Y,U,W,k⟩:=h;cases W;exact k H F (Step.refl U.fh))
theorem zX{f:De->ζ Dt}(h:DB X e f):DP X (ς e) (fO f):=fun J1 s σ H Q I q=>zu h J1 s σ H Q I (by obtain⟨Φ,δ,F,d,Y,W,U,k⟩:=q;unfold fO at U;obtain⟨x,Z,U⟩:=bS U;obtain⟨i,hi,U⟩:=mS U;cases U;exact⟨Φ,δ,F,x,Y,W,Z,fun v H' F' st r=>⟨i,iu hi r,k H' F' st⟩⟩)
def vSl(fa:De->ζ Dt)(W U:De->ζ (ζ Int)):De->ζ T:=fun δ=>(fa δ).bind fun x=>(W δ).bind fun l=>(U δ).bind fun h=>gSl x l h
theorem wH{lo hi:ζ Jc}{f:De->ζ Dt}{fl fh:De->ζ (ζ Int)}(he:DB X e f)(hl:DP X lo fl)(hh:DP X hi fh):DO X (.Subscript e (.Slice lo hi ψ p2) pos) (vSl f fl fh):=PE.mono (vT Dp he hl hh) fun σ H Q ⟨Φ,δ,F,t,hK,Z,U,k⟩=>by unfold vSl at U;obtain⟨x,hx,U⟩:=bS U;obtain⟨l,hl,U⟩:=bS U;obtain⟨h,hh,U⟩:=bS U;exact⟨Φ,δ,F,x,hK,Z,hx,fun v H1 F1 s1 r1=>⟨Φ,δ,F1,l,hK,Z.step s1,hl,fun H2 F2 Y=>⟨Φ,δ,F2,h,hK,Z.step (s1.trans Y),hh,fun H3 F3 W=>r_sl W.fh (r1.step (Y.ff.trans W.ff) (Y.hh.trans W.hh)) U (k.step ((s1.trans Y).trans W))⟩⟩⟩
def jE(f:De->ζ Dt):De->ζ T:=fun δ=>(f δ).bind fun d=>(asI d).map fun i=>.f (.int (-i))
theorem Dq(h:DB X a fa):DO X (.UnaryOp .USub a pos) (jE fa):=PE.mono (Fi CP h) fun σ H Q ⟨Φ,δ,F,t,Y,W,U,k⟩=>by unfold jE at U;obtain⟨x,Z,U⟩:=bS U;obtain⟨i,hi,U⟩:=mS U;cases U;exact⟨Φ,δ,F,x,Y,W,Z,fun v H' F' st r=>⟨i,iu hi r,(k.step st).int st.fh⟩⟩
def be:η Dt->ζ T
 |[.str x]=>if x.length<=qb2 then ς (.f (.int x.length))else ψ
 |[.t l]=>ς (.f (.int l.length))
 |[.e l]=>ς (.f (.int l.length))
 |_=>ψ
theorem dq{F:Hp}{d:Dt}{vs:η V}(r:oM K F H [d] vs):∃v,vs=[v]/\RepB K F H d v:=by obtain⟨v,U,rfl,h1,h2⟩:=r;cases h2;exact⟨v,rfl,h1⟩
theorem FK:CRD K (fun xs H Q=>∃x n,xs=[x]/\LenV K x H n/\Q (.int n) H) be:=by
 intro F H ds vs Q t Y r U k;unfold be at U;split at U<;>first|(cases U;done)|skip
 .split at U
  .rename_i Z;cases U;obtain⟨v,rfl,W⟩:=dq r;cases W;exact⟨_,_,rfl,⟨Z,rfl⟩,k.int Y⟩
  .cases U
 .cases U;obtain⟨v,rfl,W⟩:=dq r;obtain⟨a,vs,rfl,h1,h2⟩:=W;rw[<- h2.length]at k;exact⟨_,_,rfl,.inr ⟨vs,Y.tup h1,rfl⟩,k.int Y⟩
 .cases U;obtain⟨v,rfl,W⟩:=dq r;obtain⟨a,vs,rfl,h1,h2⟩:=W;rw[<- h2.length]at k;exact⟨_,_,rfl,.inl ⟨vs,h1,rfl⟩,k.int Y⟩
noncomputable def l7:η Dt->ζ (η Bool)
 |[]=>ς []
 |.bl b::r=>(l7 r).map (b::·)
 |_=>ψ
theorem oW{F:Hp}:∀{l:η Dt}{vs:η V}{bs:η Bool},Reps K F l vs->l7 l=ς bs->vs=bs.map V.bl
 |[],vs,bs,r,h=>by cases h;simp only[Reps]at r;exact r
 |d::l,vs,bs,r,h=>by
  cases d<;>first|cases h;done|skip
  simp only[l7]at h;obtain⟨cs,U,h⟩:=mS h;cases h;simp only[Reps,Rep]at r;obtain⟨v,Y,rfl,rfl,W⟩:=r;rw[oW W U];rfl
def zY(f:η Bool->Bool):η Dt->ζ T
 |[.e l]=>(l7 l).map fun bs=>.f (.bl (f bs))
 |_=>ψ
theorem Bw{f:η Bool->Bool}:CRD K (fun xs H Q=>∃(a:J9)(bs:η Bool),xs=[.ref a]/\SqL K H a (bs.map V.bl)/\Q (.bl (f bs)) H) (zY f):=by
 intro F H ds vs Q t Y r U k;unfold zY at U;split at U<;>first|(cases U;done)|skip
 obtain⟨bs,Z,U⟩:=mS U;cases U;obtain⟨v,rfl,W⟩:=dq r;obtain⟨a,vs,rfl,h1,h2⟩:=W;have:=oW h2 Z;subst this;exact⟨a,bs,rfl,h1,k.bl Y⟩
def cU:η Dt->ζ T
 |[.e l]=>ς (.f (.t l))
 |[.t l]=>ς (.f (.t l))
 |_=>ψ
theorem jO:CRD K (fun xs H Q=>∃p ys,xs=[.ref p]/\((SqL K H p ys/\∀l,H l=ψ->Q (.ref l) (upd H l (.t ys)))∨(SqT K H p ys/\Q (.ref p) H))) cU:=by
 intro F H ds vs Q t Y r U k;unfold cU at U;split at U<;>first|(cases U;done)|skip
 .cases U;obtain⟨v,rfl,W⟩:=dq r;obtain⟨a,vs,rfl,h1,h2⟩:=W;exact⟨a,vs,rfl,.inl ⟨h1,fun p hp=>k.tup Y h2 hp⟩⟩
 .cases U;obtain⟨v,rfl,W⟩:=dq r;rename_i l;have Z:Rep K F (.t l) v:=by simp only[Rep];exact W
  obtain⟨a,vs,rfl,h1,h2⟩:=W;exact⟨a,vs,rfl,.inr ⟨Y.tup h1,k.leaf.here Y Z⟩⟩
end
variable{mg:Str->ζ Value}{J1:η (J9×Obj)}{σ:St}{s:qa3}{A:qe1}{E Q:Value->qa3->Prop}{p1 pos':Pos}{Φ:Fm}{δ:De}{N:η Str}
section
variable{X:Cx}{o a b e c:Jc}{es:η Jc}{fa fb fo fe:De->ζ Dt}{fs:De->ζ (η Dt)}{pos apos cpos p:Pos}{x:Str}{sc:Jd}{i:Nat}
def iw(K:xA9)(mg:Str->ζ Value)(x:Str)(d:Dt):Prop:=∃v,(∃u,mg x=ς u/\RelV v u)/\∀F,Rep K F d v
theorem zZ{d:Dt}(h:aB sc x=θ)(U:iw X.K X.mg x d)(e1:bN X sc:=by rfl):DL X (.Name x pos) (kD d):=by obtain⟨v,h1,h2⟩:=U;exact wm (ki h h1 e1) h2
theorem iy{i:Str}(h:∃u,mg x=ς u/\RelV (.str i) u):iw K mg x (.str i):=⟨_,h,fun _=>io⟩
def oX:Dt->Bool
 |_=>ξ
def tyD:Dt->String
 |.non=>"NoneType"
 |.bl _=>"bool"
 |.int _=>"int"
 |.str _=>"str"
 |.t _=>"tuple"
 |.e _=>"list"
 |.dct _ _=>"dict"
 |.dcT _ _=>"dict"
def Bx(c:String):Dt->Bool
 |.non=>c=="NoneType"
 |.bl _=>c=="bool"||c=="int"
 |.int _=>c=="int"
 |.str _=>c=="str"
 |.t _=>c=="tuple"
 |.e _=>c=="list"
 |.dct _ _=>c=="dict"
 |.dcT _ _=>c=="dict"
theorem qu {c:Value} {b:Bool} {d:Dt} (I:Inv X J1 σ H s) (U:RelV v u) (r:Rep X.K H d v) (hi:oX d=ξ) (e:xL9 X.K (.type (tyD d)) c=ς b) (h:∀ tk,Q (.bool b) {s with toks:=tk}) :
  wpAny (model X.prog X.w) A (call (.builtin "isinstance") [u,c]) Q E s:=by
 cases d with
 |non=>simp only[Rep]at r;subst r;exact gx I U .non e h
 |bl y=>simp only[Rep]at r;subst r;exact gx I U (.bl y) e h
 |int y=>simp only[Rep]at r;subst r;exact gx I U (.int y) e h
 |str y=>simp only[Rep]at r;subst r;exact gx I U (.str y) e h
 |t l=>simp only[Rep]at r;obtain⟨a,vs,rfl,h1,h2⟩:=r;cases U;obtain⟨J8,_,pl,_⟩:=I.tuple h1;obtain⟨o,Y,Z,_⟩:=pl;exact xD9 PySem.W.kitx_tuple I.kIn ⟨o,Y,Z⟩ e (fun z=>nomatch z) h
 |e l=>simp only[Rep]at r;obtain⟨a,vs,rfl,h1,h2⟩:=r;cases U;obtain⟨J8,_,pl,_⟩:=I.list h1;obtain⟨o,n,Y,Z,_⟩:=pl;exact xD9 xQ9 I.kIn ⟨o,Y,Z⟩ e (fun z=>nomatch z) h
 |dct ks l=>simp only[Rep]at r;obtain⟨a,J6,rfl,h1,_⟩:=r;cases U;obtain⟨_,_,vs,_,p⟩:=lQ I.hok h1;obtain⟨o,es,ep,Y,Z,_⟩:=p;exact xD9 xM9 I.kIn ⟨o,Y,Z.1⟩ e (fun z=>nomatch z) h
 |dcT ks l=>simp only[Rep]at r;obtain⟨a,J6,rfl,h1,_⟩:=r;cases U;obtain⟨_,_,xs,_,o,es,ep,Y,Z,_⟩:=(show ObjOk X.prog X.w H s.heap a (.dT J6)from h1.ok I.hok);exact xD9 xM9 I.kIn ⟨o,Y,Z.1⟩ e (fun z=>nomatch z) h
def fA(K:xA9)(c:String):Prop:=∀d:Dt,oX d=ξ->xL9 K (.type (tyD d)) (.type c)=ς (Bx c d)
theorem qv:cz X (.builtin "isinstance") (fun xs H Q=>∃v c d b,xs=[v,.ty c]/\Rep X.K H d v/\oX d=ξ/\xL9 X.K (.type (tyD d)) (.type c)=ς b/\Q (.bl b) H):=by intro J1 s σ H xs us Q I r h;obtain⟨v,c,d,b,rfl,rd,hi,e,q⟩:=h;obtain⟨u,Z,rfl,Y,U⟩:=rS r;cases U;exact qu I Y rd hi e fun tk=>⟨.bl b,H,I.tok _,rfl,q⟩
def ku(c:String)(f:De->ζ Dt):De->ζ T:=fun δ=>(f δ).bind fun d=>if oX d then ψ else ς (.f (.bl (Bx c d)))
theorem eV{U:Str}{cs:String}(h:aB sc "isinstance"=θ)(hcn:aB sc U=θ)(hm:X.mg "isinstance"=ψ)(Y:X.mg U=ψ)(hv:qe0 U=ς (.type cs))(hk:fA X.K cs)(ha:DB X a fa)(e1:bN X sc:=by rfl)
 (he:qa8 [a,.Name U p2] X.env=(ξ,eval a X.env)::qa8 [.Name U p2] X.env:=by rfl) (he2:qa8 [.Name U p2] X.env=(ξ,eval (.Name U p2) X.env)::qa8 [] X.env:=by rfl) (Z:(ql8 pos (qa8 [.Name U p2] X.env)).any (·.1)=ξ:=by rfl) :
  DO X (.Call (.Name "isinstance" p1) [a,.Name U p2] [] pos) (ku cs fa):=
 PE.mono (iU h qv hm lv (bW ha (bW (wj (v:=.ty cs) hcn Y hv rfl e1) eG he2) he) e1 he Z) fun σ H Q ⟨Φ,δ,F,t,hK,en,W,k⟩=>by
  unfold ku at W;obtain⟨d,hd,W⟩:=bS W;cases hi:oX d with
  |true=>rw[hi]at W;cases W
  |false=>rw[hi]at W;cases W;exact⟨Φ,δ,F,d,hK,en,hd,fun v H' F' st r=>⟨v,cs,d,_,rfl,r.rep st.fh,hi,hk d hi,(k.step st).bl st.fh⟩⟩
def MRD(K:xA9)(r:V->η V->Hp->VK->Prop)(g:Dt->η Dt->ζ T):Prop:=∀F H d v ds vs (Q:VK) t,Same F H->RepB K F H d v->oM K F H ds vs->g d ds=ς t->KO K F H t Q->r v vs H Q
def iV:η Dt->ζ (η Str)
 |[]=>ς []
 |.str b::r=>(iV r).map (b::·)
 |_=>ψ
theorem l8{F:Hp}:∀{l:η Dt}{vs:η V}{bs:η Str},Reps K F l vs->iV l=ς bs->vs=bs.map V.str
 |[],vs,bs,r,h=>by cases h;simp only[Reps]at r;exact r
 |d::l,vs,bs,r,h=>by
  cases d<;>first|cases h;done|skip
  simp only[iV]at h;obtain⟨cs,U,h⟩:=mS h;cases h;simp only[Reps,Rep]at r;obtain⟨v,Y,rfl,rfl,W⟩:=r;rw[l8 W U];rfl
noncomputable def z9(i:Nat)(f:De->ζ Dt):De->ζ Out:=fun δ=>match δ[i]? with
 |some (ς (.e l))=>(f δ).bind fun d=>if l.length<qb2 then ς (.nx (δ.set i (ς (.e (l++[d])))))else ψ
 |_=>ψ
theorem En.ownL{F:Hp}(W:En Φ δ σ F H)(h:δ[i]?=ς (ς (.e l))):∃a vs,σ[i]?=ς (ς (.ref a))/\H a=ς (.e vs)/\Reps Φ.K F l vs:=by obtain⟨v,U⟩:=W.has i _ h;obtain⟨S,s⟩:=W.sep;obtain⟨a,vs,rfl,_,h1,h2⟩:=s.own i _ v (aR h U);exact⟨a,vs,U,h1,h2⟩
def aQ (hx:PE X o (fT i)) (he:DL X e fe)
  (Y:zd0 o "append" X.env (eval o X.env)=eval o X.env:=by rfl)
  (hfew:((ql8 cpos (qa8 [e] X.env)).all (fun x=>!x.1)&&(backToKw cpos (zj3 [] X.env)).all (fun x=>x.1.isSome)
   && decide ([e].length+([]:η zg5).length+(if([]:η zg5).isEmpty then 0 else 1)<30))=θ:=by rfl)
  (Z:(apos.endLine==cpos.line)=θ:=by rfl) (hs:qa8 [e] X.env=(ξ,eval e X.env)::qa8 [] X.env:=by rfl) (U:(ql8 cpos (qa8 [] X.env)).any (·.1)=ξ:=by rfl)
  (hsw:qo5 (.Call (.Attribute o "append" apos) [e] [] cpos) ψ pos.line X.env=pure ξ:=by rfl) :
  DS1 X (.Expr (.Call (.Attribute o "append" apos) [e] [] cpos) pos) (z9 i fe):=
 PS.mono (mR (vW PySem.F.plainAttrs_list PySem.F.slot_list_append PySem.F.type_list_append lO hx (bW he eG hs) Y hfew Z hs U) hsw) fun D σ H ⟨Φ,δ,F,ot,hK,en,W,k⟩=>by
  unfold z9 at W;split at W<;>first|cases W;done|skip
  rename_i l hl;obtain⟨d,hd,W⟩:=bS W;split at W<;>first|cases W;done|skip
  rename_i hz;cases W;obtain⟨a,vs,hv,h1,h2⟩:=en.ownL hl;refine⟨.ref a,hv,.inl ⟨rfl,vs,.inl (.inl h1)⟩,Φ,δ,F,d,hK,en,hd,fun v H1 F1 st rv=>?_⟩;have en1:=en.step st;have h1':=st.hh _ _ h1;refine⟨a,vs,v,rfl,rfl,h1',by rw[h2.length];exact hz,?_⟩;refine k σ F1 _ (en1.poke hl hv rfl fun S sa=>⟨a,vs++[v],rfl,sa,aw,(h2.same st.ff).append (Reps.one (hK▸rv))⟩)
def sPutL(i:Nat)(fk fe:De->ζ Dt):De->ζ Out:=fun δ=>(fe δ).bind fun d=>(fk δ).bind fun k=>match δ[i]?,k with
 |some (ς (.e l)),.int n=>(ixN l.length n).map fun j=>.nx (δ.set i (ς (.e (l.set j d))))
 |_,_=>ψ
theorem Reps.set{F:Hp}{d:Dt}(h:Rep K F d v):∀{l:η Dt}{vs:η V}(j:Nat),Reps K F l vs->Reps K F (l.set j d) (vs.set j v)
 |[],vs,j,r=>by simp only[Reps]at r;subst r;simp[Reps]
 |e::l,vs,0,r=>by simp only[Reps]at r;obtain⟨w,W,rfl,_,U⟩:=r;simp only[qv0,Reps];exact⟨v,W,rfl,h,U⟩
 |e::l,vs,j+1,r=>by simp only[Reps]at r;obtain⟨w,W,rfl,Y,U⟩:=r;simp only[qv1,Reps];exact⟨w,_,rfl,Y,Reps.set h j U⟩
def ur(f:Int->Int->Int)(i:Nat)(fe:De->ζ Dt):De->ζ Out:=fun δ=>match δ[i]? with
 |some (ς (.f (.int n)))=>(fe δ).bind fun d=>(asI d).map fun m=>.nx (δ.set i (ς (.f (.int (f n m)))))
 |_=>ψ
theorem Dr{f:Int->Int->Int}{D:Ends}(h:tS K (ur f i fe) D σ H):tAug i (tBd K fe) (ipI f) D σ H:=by
 obtain⟨Φ,δ,F,ot,hK,W,U,k⟩:=h;unfold ur at U;split at U<;>first|cases U;done|skip
 rename_i n hn;obtain⟨d,Z,U⟩:=bS U;obtain⟨m,hm,U⟩:=mS U;cases U;obtain⟨v,hv,Y⟩:=W.leaf hn;simp only[Rep]at Y;subst Y;exact⟨_,hv,Φ,δ,F,d,hK,W,Z,fun w H1 F1 st r=>⟨n,m,rfl,iu hm r,k _ F1 H1 ((W.step st).name fq i)⟩⟩
theorem qw (h:dl sc N i x=θ) (hl:iT sc x=θ) (W:N.Nodup) (U:DB X e fe) (e1:bN X sc:=by rfl) (Y:X.N=N:=by rfl) (Z:X.fn x=θ∨X.env.scope.names.lookup x=ς .local:=by exact .inl rfl) :
  DS1 X (.AugAssign (.Name x pos') .Add e pos) (ur (fun i j=>i+j) i fe):=by
 have e1:X.env.scope=sc:=e1;subst e1 Y;exact PS.mono (CG W (gO h) (kg hl) U CH Z) fun D σ H q=>Dr q
end
def cg{κ:Type}[DecidableEq κ]:η κ->η Dt->κ->ζ Dt
 |k'::ks,d::l,k=>if k'=k then ς d else cg ks l k
 |_,_,_=>ψ
theorem eX{κ:Type}[DecidableEq κ]{F:Hp}{k:κ}:∀{J6:η (κ×V)}{l:η Dt}{d:Dt},Reps K F l (J6.map (·.2))->cg (J6.map (·.1)) l k=ς d->∃v,eO J6 k=ς v/\Rep K F d v
 |[],l,d,r,h=>by cases l<;>cases h
 |p::J6,[],d,r,h=>by cases h
 |p::J6,e::l,d,r,h=>by
  simp only[qa4,Reps]at r;obtain⟨v,Z,U,W,Y⟩:=r;cases U;simp only[qa4,cg]at h;by_cases hk:p.1=k
  .rw[if_pos hk]at h;cases h;exact⟨p.2,ia hk,W⟩
  .rw[if_neg hk]at h;rw[fY hk];exact eX Y h
theorem l9{κ:Type}[DecidableEq κ]{F:Hp}{k:κ}:∀{J6:η (κ×V)}{l:η Dt},Reps K F l (J6.map (·.2))->cg (J6.map (·.1)) l k=ψ->eO J6 k=ψ
 |[],l,r,h=>rfl
 |p::J6,[],r,h=>by simp only[qa4,Reps]at r;cases r
 |p::J6,e::l,r,h=>by
  simp only[qa4,Reps]at r;obtain⟨v,Y,U,Z,W⟩:=r;cases U;simp only[qa4,cg]at h;by_cases hk:p.1=k
  .rw[if_pos hk]at h;cases h
  .rw[if_neg hk]at h;rw[fY hk];exact l9 W h
noncomputable def nn:Dt->ζ Key
 |.int i=>ς (.inl i)
 |.str x=>ς (.inr x)
 |_=>ψ
theorem fB{F:Hp}{d:Dt}{k:Key}(r:RepB K F H d v)(h:nn d=ς k):v=kV k:=by
 unfold nn at h;split at h<;>first|(cases h;done)|skip
 .cases h;exact r
 .cases h;exact r
def ah:Dt->Dt->ζ T
 |.dct ks l,k=>(nn k).bind fun k=>(cg ks l k).map .f
 |x,y=>gIx x y
variable{st:Jb}
section
variable{X:Cx}{o a b e c:Jc}{es:η Jc}{fa fb fo fe fk:De->ζ Dt}{fs:De->ζ (η Dt)}{pos apos cpos p:Pos}{x:Str}{sc:Jd}{i:Nat}
theorem Ds{k:Nat}(hr:Room k X.A)(ha:DB X a fa)(hb:DB X b fb)(hs:rX b:=by exact fun _ _=>rfl)(hn:uc b:=by exact fun _ _=>rfl):DO X (.Subscript a b pos) (d2 ah fa fb):=
 PE.mono (PE.or (Ft C0 ha hb hs) (r8 (ji hr) ha hb hn)) fun σ H Q ⟨Φ,δ,F,t,hK,Y,U,k⟩=>by
  unfold d2 at U;obtain⟨x,hx,U⟩:=bS U;obtain⟨y,hy,U⟩:=bS U;unfold ah at U;split at U
  .rename_i ks l _;obtain⟨kk,hk,U⟩:=bS U;obtain⟨d,hd,U⟩:=mS U;cases U;refine .inr ⟨Φ,δ,F,_,hK,Y,hx,fun v H1 F1 st rv=>⟨Φ,δ,F1,y,hK,Y.step st,hy,fun v2 H2 F2 W Z=>?_⟩⟩;obtain⟨ad,J6,rfl,h1,h2,h3⟩:=rv;subst h2;obtain⟨w,hw,rw'⟩:=eX h3 hd;have:=fB Z hk;subst this;exact⟨ad,w,rfl,.inl ⟨J6,kk,W.hh.rd h1,rfl,hw.symm⟩,(k.step (st.trans W)).leaf.here W.fh (rw'.same W.ff)⟩
  .exact .inl (lZ r_ix ⟨Φ,δ,F,t,hK,Y,by unfold d2;rw[hx,hy];exact U,k⟩)
def bF(neg:Bool):Dt->Dt->ζ T
 |k,.dct ks l=>(nn k).map fun k=>.f (.bl (if neg then !(cg ks l k).isSome else(cg ks l k).isSome))
 |x,y=>gIn neg x y
theorem jP{κ:Type}[DecidableEq κ]{F:Hp}{k:κ}{J6:η (κ×V)}(r:Reps K F l (J6.map (·.2))):(cg (J6.map (·.1)) l k).isSome=(eO J6 k).isSome:=by
 cases h:cg (J6.map (·.1)) l k with
 |none=>rw[l9 r h];rfl
 |some d=>obtain⟨v,e,_⟩:=eX r h;rw[e];rfl
theorem By{Q:VK}(h:tO K (d2 (bF ξ) fa fb) σ H Q):tOp (wF K ξ) (tBd K fa) (tBd K fb) σ H Q∨tDIn (tBd K fa) (tBd K fb) σ H Q:=by
 obtain⟨Φ,δ,F,t,hK,Y,U,k⟩:=h;unfold d2 at U;obtain⟨x,hx,U⟩:=bS U;obtain⟨y,hy,U⟩:=bS U;unfold bF at U;split at U
 .rename_i ks l;obtain⟨kk,hk,U⟩:=mS U;cases U;refine .inr ⟨Φ,δ,F,x,hK,Y,hx,fun v H1 F1 st rv=>⟨Φ,δ,F1,_,hK,Y.step st,hy,fun v2 H2 F2 W Z=>?_⟩⟩;obtain⟨ad,J6,rfl,h1,h2,h3⟩:=Z;subst h2;have:=fB rv hk;subst this;refine⟨ad,_,rfl,.inl ⟨J6,kk,h1,rfl,rfl⟩,?_⟩;rw[<- jP h3];exact(k.step (st.trans W)).bl W.fh
 .exact .inl (lZ (r_in ξ) ⟨Φ,δ,F,t,hK,Y,by unfold d2;rw[hx,hy];exact U,k⟩)
theorem wI{Q:VK}(h:tO K (d2 (bF θ) fa fb) σ H Q):tOp (wF K θ) (tBd K fa) (tBd K fb) σ H Q∨r6 (tBd K fa) (tBd K fb) σ H Q:=by
 obtain⟨Φ,δ,F,t,hK,Y,U,k⟩:=h;unfold d2 at U;obtain⟨x,hx,U⟩:=bS U;obtain⟨y,hy,U⟩:=bS U;unfold bF at U;split at U
 .rename_i ks l;obtain⟨kk,hk,U⟩:=mS U;cases U;refine .inr ⟨Φ,δ,F,x,hK,Y,hx,fun v H1 F1 st rv=>⟨Φ,δ,F1,_,hK,Y.step st,hy,fun v2 H2 F2 W Z=>?_⟩⟩;obtain⟨ad,J6,rfl,h1,h2,h3⟩:=Z;subst h2;have:=fB rv hk;subst this;refine⟨ad,_,rfl,.inl ⟨J6,kk,h1,rfl,rfl⟩,?_⟩;rw[<- jP h3];exact(k.step (st.trans W)).bl W.fh
 .exact .inl (lZ (r_in θ) ⟨Φ,δ,F,t,hK,Y,by unfold d2;rw[hx,hy];exact U,k⟩)
theorem FL{k:Nat}(Z:Room k X.A)(U:DB X a fa)(Y:DB X b fb)(W:qj4 .In b=ξ:=by with_unfolding_all rfl):DO X (.Compare a [.In] [b] pos) (d2 (bF ξ) fa fb):=PE.mono (PE.or (rR wG U Y W) (Ct (vY (ji Z) U Y) W)) fun σ H Q h=>By h
theorem PT.or{t t':TT}(h:PT X e t)(h':PT X e t'):PT X e (fun σ H Q=>t σ H Q∨t' σ H Q):=fun J1 s σ H Q I q=>q.elim (h J1 s σ H Q I) (h' J1 s σ H Q I)
theorem Bz{g:Dt->Dt->ζ T}{Q:Bool->Hp->Prop}(h:tTr K (tB2 g fa fb) σ H Q):tO K (d2 g fa fb) σ H (fun v H'=>∃c,v=.bl c/\Q c H'):=by obtain⟨Φ,δ,F,t,Y,W,U,k⟩:=h;unfold tB2 at U;obtain⟨z,Z,U⟩:=bS U;exact⟨Φ,δ,F,z,Y,W,Z,fun v H' F' S st o hs=>⟨t,sk U o,k H' F' st⟩⟩
theorem FM{k:Nat}(Z:Room k X.A)(U:DB X a fa)(Y:DB X b fb)(W:qj4 .In b=ξ:=by with_unfolding_all rfl):DT X (.Compare a [.In] [b] pos) (tB2 (bF ξ) fa fb):=PT.mono (PT.or (mT wG U Y W) (mP (vY (ji Z) U Y) W)) fun σ H Q h=>By (Bz h)
theorem wJ{k:Nat}(Z:Room k X.A)(U:DB X a fa)(Y:DB X b fb)(W:qj4 .NotIn b=ξ:=by with_unfolding_all rfl):DT X (.Compare a [.NotIn] [b] pos) (tB2 (bF θ) fa fb):=PT.mono (PT.or (mT uq U Y W) (mP (lR (ji Z) U Y) W)) fun σ H Q h=>wI (Bz h)
noncomputable def dL{κ:Type}[DecidableEq κ]:η (κ×Dt)->κ->Dt->η (κ×Dt)
 |[],k,d=>[(k,d)]
 |p::l,k,d=>if p.1=k then(p.1,d)::l else p::dL l k d
def np(i:Nat)(fk fe:De->ζ Dt):De->ζ Out:=fun δ=>(fe δ).bind fun d=>(fk δ).bind fun k=>match δ[i]? with
 |some (ς (.e l))=>(asI k).bind fun n=>(ixN l.length n).map fun j=>.nx (δ.set i (ς (.e (l.set j d))))
 |some (ς (.dct l))=>(nn k).bind fun k=>if l.length<qb2/\(l.map (·.1)).Nodup then ς (.nx (δ.set i (ς (.dct (dL l k d)))))else ψ
 |_=>ψ
theorem nq {κ:Type} [DecidableEq κ] (k:κ) (v:V):∀ (J6:η (κ×V)) (l:η (κ×Dt)) (d:Dt),(J6.map (·.1)).Nodup->J6.map (·.1)=l.map (·.1)->(dX J6 k v).map (·.1)=(dL l k d).map (·.1)∧
  ∀(K:xA9)(F:Hp),Rep K F d v->Reps K F (l.map (·.2)) (J6.map (·.2))->Reps K F ((dL l k d).map (·.2)) ((dX J6 k v).map (·.2)):=by
 have key:∀(J6:η (κ×V)),(J6.map (·.1)).Nodup->dX J6 k v=match J6 with|[]=>[(k,v)]|p::r=>if p.1=k then(p.1,v)::r else p::dX r k v:=fun J6 Y=>by
  cases J6 with
  |nil=>rfl
  |cons p r=>
   dsimp only;by_cases hp:p.1=k
   .rw[if_pos hp];unfold dX;rw[if_pos (by simp[hp])];simp only[qa4,if_pos hp];congr 1
    have hk:∀q∈r,¬ q.1=k:=fun q hq z=>by have:=(qg0.mp Y).1;exact this (show p.1∈r.map (·.1)by rw[hp,<- z];exact List.mem_map_of_mem hq)
    exact(qt5 fun q hq=>if_neg (hk q hq)).trans (List.map_id' r)
   .rw[if_neg hp];unfold dX;have e:(p::r).any (fun kv=>decide (kv.1=k))=r.any fun kv=>decide (kv.1=k):=by simp[hp]
    rw[e];split
    .simp only[qa4,if_neg hp]
    .rfl
 intro J6;induction J6 with
 |nil=>
  intro l d Y U;cases l with
  |nil=>exact⟨rfl,fun K F r _=>by simpa[dL,dX] using Reps.one r⟩
  |cons q l=>cases U
 |cons p r ih=>
  intro l d Y U;cases l with
  |nil=>cases U
  |cons q l=>
   simp only[qa4,zh3]at U;have Z:=(qg0.mp Y).2;rw[key _ Y];simp only[dL];rw[<- U.1];by_cases hp:p.1=k
   .rw[if_pos hp,if_pos hp];refine⟨by simp[U.2],fun K F rd rs=>?_⟩;simp only[qa4,Reps]at rs ⊢;obtain⟨w,ws,hw,r1,r2⟩:=rs;cases hw;exact⟨_,_,rfl,rd,r2⟩
   .rw[if_neg hp,if_neg hp];obtain⟨i1,i2⟩:=ih l d Z U.2;refine⟨by simp[U.1,i1],fun K F rd rs=>?_⟩;simp only[qa4,Reps]at rs ⊢;obtain⟨w,ws,hw,r1,r2⟩:=rs;cases hw;exact⟨_,_,rfl,r1,i2 K F rd r2⟩
theorem PS.or{e:Jb}{t t':TS}(h:PS X e t)(h':PS X e t'):PS X e (fun σ H Q=>t σ H Q∨t' σ H Q):=fun J1 s σ H Q I q=>q.elim (h J1 s σ H Q I) (h' J1 s σ H Q I)
theorem En.ownD{F:Hp}(W:En Φ δ σ F H){l:η (Key×Dt)}(h:δ[i]?=ς (ς (.dct l))):∃a J6,σ[i]?=ς (ς (.ref a))/\H a=ς (.dK J6)/\J6.map (·.1)=l.map (·.1)/\Reps Φ.K F (l.map (·.2)) (J6.map (·.2)):=by obtain⟨v,U⟩:=W.has i _ h;obtain⟨S,s⟩:=W.sep;obtain⟨a,vs,rfl,_,h1,h2,h3⟩:=s.own i _ v (aR h U);exact⟨a,vs,U,h1,h2,h3⟩
theorem nr {k:Nat} {ox ik:Jc} (hr:Room k X.A) (hx:PE X ox (fT i)) (hk:DB X ik fk) (he:DL X e fe)
  (hs:qo5 e (ς (.Subscript ox ik apos)) pos.line X.env=pure ξ:=by rfl)
  (hs1:zj9 [.Subscript ox ik apos] e pos.line X.env=pure ξ:=by rfl) (hw:zk0 [.Subscript ox ik apos] e X.env=pure ψ:=by rfl)
  (h1:(qj9 [.Subscript ox ik apos] X.env).map (·.2)=[zb4 (.Subscript ox ik apos) X.env]:=by rfl)
  (ha:∀v,zb4 (.Subscript ox ik apos) X.env v=(do
   let ov <- qy8 [v] (eval ox X.env);let iv <- qy8 [v,ov] (eval ik X.env)
   standAt apos
   qy8 [v,ov,iv] (setItem ov iv v)
   release [v,ov,iv] []):=by intro _;rfl):DS1 X (.Assign [.Subscript ox ik apos] e pos) (np i fk fe):=
 PS.mono (PS.or (vF he (CC hx hk vU ha) hs1 hw h1) (r9 (ji hr) hx hk he hs)) fun D σ H ⟨Φ,δ,F,ot,hK,en,W,k⟩=>by
  unfold np at W;obtain⟨d,hd,W⟩:=bS W;obtain⟨kd,hkd,W⟩:=bS W;split at W<;>first|(cases W;done)|skip
  .rename_i l hl;obtain⟨n,hn,W⟩:=bS W;obtain⟨j,hj,W⟩:=mS W;cases W;refine .inl ⟨Φ,δ,F,d,hK,en,hd,fun v H1 F1 st rv=>?_⟩;have Y:=en.step st;obtain⟨a,vs,hv,h1,h2⟩:=Y.ownL hl;refine⟨.ref a,hv,Φ,δ,F1,kd,hK,Y,hkd,fun w H2 F2 U rw'=>?_⟩;have Z:=Y.step U;refine⟨a,vs,n,j,rfl,iu hn rw',U.hh _ _ h1,by rw[h2.length];exact hj,?_⟩;exact k σ F2 _ (Z.poke hl hv rfl fun S sa=>⟨a,_,rfl,sa,aw,Reps.set (hK▸rv.same U.ff) j (h2.same U.ff)⟩)
  .rename_i l hl;obtain⟨kk,hkk,W⟩:=bS W;split at W<;>first|(cases W;done)|skip
   rename_i hc;cases W;refine .inr ⟨Φ,δ,F,d,hK,en,hd,fun v H1 F1 st rv=>?_⟩;have Y:=en.step st;obtain⟨a,J6,hv,h1,h2,h3⟩:=Y.ownD hl;refine⟨.ref a,hv,Φ,δ,F1,kd,hK,Y,hkd,fun w H2 F2 U rw'=>?_⟩;have Z:=Y.step U;have:=fB rw' hkk;subst this;have hlen:J6.length=l.length:=by simpa using congrArg qp7 h2
   refine⟨a,_,rfl,.inl ⟨J6,kk,U.hh _ _ h1,rfl,by rw[hlen];exact hc.1,rfl⟩,?_⟩;obtain⟨p1,p2⟩:=nq kk v J6 l d (by rw[h2];exact hc.2) h2;exact k σ F2 _ (Z.poke hl hv rfl fun S sa=>⟨a,_,rfl,sa,aw,p1,p2 _ _ (hK▸rv.same U.ff) (h3.same U.ff)⟩)
def du:De->ζ Out:=fun _=>ψ
theorem ci:DS1 X st du:=fun J1 s σ H D I h=>by obtain⟨Φ,δ,F,o,Y,W,U,k⟩:=h;cases U
end
section
variable{prog:qc5}{w:Ja}{A:qe1}{E:Value->qa3->Prop}{s:qa3}{I t:J9}{j:Nat}{vs:Array Value}
theorem qx{y:Value}(Y:s.heap.IsTupleIter I t j)(hv:s.heap.IsTuple t vs)(hy:vs[j]?=ς y)
 (q:∀h',h'.IsTupleIter I t (j+1)->qg2 I s.heap h'->Q y {s with heap:=h'}):wpAny (model prog w) A (qg1 (.ref I)) Q E s:=by
 obtain⟨oi,W,hci,U⟩:=id Y;obtain⟨ot,Z,_,nt,hdt⟩:=hv;unfold qg1;refine wB (qe5 (name:=qa0 "__next__") Y.typeIs qn0 (qf2 qn0 Y.typeIs qz4 ?_ (qx8 _)));show wpAny _ _ (field (.ref I) 0 >>= _) _ _ s;refine wB (qk5 W U (x:=.ref t) rfl ?_);show wpAny _ _ (if(qf3 t==qi9)=θ then _ else _) _ _ s;rw[if_neg (show ¬ (qf3 t==qi9)=θ by exact qb5)];show wpAny _ _ (field (.ref I) 1 >>= _) _ _ s;refine wB (qk5 W U (x:=.int j 0) rfl ?_);show wpAny _ _ (zk6 (.ref t) >>= _) _ _ s;refine wB (qg5 Z hdt ?_);simp only[qe8,hy];refine qg4 (ql4 W U Ξ (qa2 ⟨y,rfl,qa2 (q _ ?_ (qf6 ..))⟩));exact⟨_,qe3 _ W (qk1 (qf0 U _)),(qr9 ..).trans hci,by rw[qf0 U];simp[qf7]⟩
theorem ut(hh:A.handled=ψ)(Y:s.heap.IsTupleIter I t j)(hv:s.heap.IsTuple t vs)(hy:vs[j]?=ψ)
 (q:∀h' e,zd3 I s.heap h'->(∃o,h'.get? e=ς o/\o.cls=.type "StopIteration")->E (.ref e) {s with heap:=h'}):wpAny (model prog w) A (qg1 (.ref I)) Q E s:=by
 obtain⟨oi,W,hci,U⟩:=id Y;obtain⟨ot,Z,_,nt,hdt⟩:=hv;unfold qg1;refine wB (qe5 (name:=qa0 "__next__") Y.typeIs qn0 (qf2 qn0 Y.typeIs qz4 ?_ (qx8 _)));show wpAny _ _ (field (.ref I) 0 >>= _) _ _ s;refine wB (qk5 W U (x:=.ref t) rfl ?_);show wpAny _ _ (if(qf3 t==qi9)=θ then _ else _) _ _ s;rw[if_neg (show ¬ (qf3 t==qi9)=θ by exact qb5)];show wpAny _ _ (field (.ref I) 1 >>= _) _ _ s;refine wB (qk5 W U (x:=.int j 0) rfl ?_);show wpAny _ _ (zk6 (.ref t) >>= _) _ _ s;refine wB (qg5 Z hdt ?_);simp only[qe8,hy];refine qg4 (qu1 (qg4 (ql4 W U Ξ ?_)));show wpAny _ _ (zk7 (.type "StopIteration") [] >>= _) _ _ _;refine wB ?_;simp only[zk7,zm5];refine wB (qd7 ?_ (by first|size_fits|decide));refine qg4 (m:=qn8 _ _) (qz5 (a:=qi9) (by first|rfl|(simp only[qn8]<;>rfl)) ?_);refine qd7 ?_ (by first|size_fits|decide);simp only[zk8];refine wB (zd4 ?_)
 first|rw[hh]|rw[show A.in1.handled=ψ by exact hh]
 refine wB (qa2 (zj5 ?_));exact q _ _ (((qf6 ..).extBut.push _).push _) ⟨_,qa7 _ rfl,rfl⟩
end
variable{prog:qc5}{w:Ja}
theorem oY(W:A.handled=ψ)(I t:J9)(U:t≠I)(vs:Array Value):Draws prog w A I [I,t] vs.size (fun i v=>vs[i]?=ς v) (fun i h=>h.IsTupleIter I t i/\h.IsTuple t vs) where
 live:=fun _ _ st=>let ⟨o,ho,_⟩:=st.1;⟨o,ho⟩
 frame:=fun _ _ _ st hk=>⟨let ⟨o,ho,r⟩:=st.1;⟨o,hk I Ξ o ho,r⟩,let ⟨o,ho,r⟩:=st.2;⟨o,hk t Ξ o ho,r⟩⟩
 item:=fun i s Q E hi st Z=>qx st.1 st.2 (y:=vs[i]) (by simp[hi]) fun h' a b=>Z _ h' s.toks (by simp[hi]) ⟨a,let ⟨o,ho,r⟩:=st.2;⟨o,b.extBut _ _ U ho,r⟩⟩ b
 done:=fun s Q E st Y=>ut W st.1 st.2 Ξ Y
def SqB(b:Bool)(K:xA9)(H:Hp)(a:J9)(xs:η V):Prop:=match b with
 |true=>SqL K H a xs
 |false=>SqT K H a xs
def ItB(b:Bool)(h:Heap)(I a:J9)(i:Nat):Prop:=match b with
 |true=>h.IsListIter I a i
 |false=>h.IsTupleIter I a i
def CoB(b:Bool)(h:Heap)(a:J9)(vs:Array Value):Prop:=match b with
 |true=>h.IsList a vs
 |false=>h.IsTuple a vs
variable{h:Heap}{I a:J9}{i:Nat}
theorem ItB.obj(x:ItB b h I a i):∃o,h.get? I=ς o/\(o.cls=.type "list_iterator"∨o.cls=.type "tuple_iterator")/\∀v,o.data≠.cell v:=by
 cases b with
 |true=>obtain⟨o,e,c,d⟩:=x;exact⟨o,e,.inl c,fun v z=>by rw[d]at z;cases z⟩
 |false=>obtain⟨o,e,c,d⟩:=x;exact⟨o,e,.inr c,fun v z=>by rw[d]at z;cases z⟩
variable{h':Heap}
theorem ItB.at(x:ItB b h I a i)(k:∀o,h.get? I=ς o->h'.get? I=ς o):ItB b h' I a i:=by
 cases b with
 |true=>obtain⟨o,e,r⟩:=x;exact⟨o,k o e,r⟩
 |false=>obtain⟨o,e,r⟩:=x;exact⟨o,k o e,r⟩
variable{vs:Array Value}
theorem CoB.obj(x:CoB b h a vs):∃o,h.get? a=ς o/\(o.cls=.type "list"∨o.cls=.type "tuple"):=by
 cases b with
 |true=>obtain⟨o,e,c,_⟩:=x;exact⟨o,e,.inl c⟩
 |false=>obtain⟨o,e,c,_⟩:=x;exact⟨o,e,.inr c⟩
theorem BA{x y:String}(h:x≠y):ql7 x≠ql7 y:=fun z=>h (by cases z;rfl)
theorem iW{c:Bool}{l:J9}(x:ItB b h I a i)(y:CoB c h l vs):l≠I:=by obtain⟨o,Z,W,_⟩:=x.obj;obtain⟨o',Y,U⟩:=y.obj;rintro rfl;rw[Z]at Y;cases Y;rcases W with W|W<;>rcases U with U|U<;>rw[W]at U<;>exact absurd U (BA Ω)
variable{ys:η V}{t':Nat}{fp:η J9}
section
variable{X:Cx}{J1:η (J9×Obj)}{σ:St}{H:Hp}{s:qa3}{a I:J9}{xs:η V}{b:Bool}
theorem Inv.seqB(J:Inv X J1 σ H s)(h:SqB b X.K H a xs):∃J8:η Value,Vals xs J8/\CoB b s.heap a J8.toArray:=by
 cases b with
 |true=>obtain⟨J8,r,p,_⟩:=J.list h;exact⟨J8,r,p.isList⟩
 |false=>obtain⟨J8,r,p,_⟩:=J.tuple h;exact⟨J8,r,p⟩
theorem Inv.seqB_inj(J:Inv X J1 σ H s)(h:SqB b X.K H a xs)(h':SqB b X.K H a ys):xs=ys:=by
 cases b with
 |true=>exact J.list_inj h h'
 |false=>exact J.tuple_inj h h'
theorem iX(W:A.handled=ψ)(U:a≠I)(vs:Array Value):Draws prog w A I [I,a] vs.size (fun i v=>vs[i]?=ς v) (fun i h=>ItB b h I a i/\CoB b h a vs):=by
 cases b with
 |true=>exact Draws.list W I a U vs
 |false=>exact oY W I a U vs
theorem Inv.turnedL(J:Inv X J1 σ H s)(k:∀b o,b∉fp->s.heap.get? b=ς o->h'.get? b=ς o)(W:∀b∈fp,e9 X J1 H b):Inv X J1 σ H {s with heap:=h',toks:=t'}:=by
 have Y:∀b u,H b=ς u->b∉fp:=fun b u e z=>by rw[(W b z).1]at e;cases e
 refine J.step (g':=s.gens) (d':=s.drawn) (ch:=fp) (fun b Z=>?_) (fun b o _ _ U e _=>k b o U e) (fun b o _ _ U e _=>⟨o.slots,k b o U e⟩) (fun _ _ _ _ n=>n)
  (fun b o U e=>⟨o,k b o U e⟩) (fun _ _ e=>e) (fun _ _ _ e=>e) (fun b ps e=>⟨#[],by rw[e];simp⟩) (fun _ _ e=>e) (fun m hm=>?_) (fun b u e=>?_) J.bare
 .exact⟨(W b Z).2.2.2.1,(W b Z).2.1,(W b Z).2.2.2.2.1,(W b Z).2.2.2.2.2⟩
 .obtain⟨o,es,ep,ho,r⟩:=hm;exact⟨o,es,ep,k _ o (fun z=>(W _ z).2.1 rfl) ho,r⟩
 .refine(J.hok b u e).stay (fun c v U q=>k c v ?_ q) (fun _ q=>q) (fun _ _ q=>q) fun _ _ _ q=>q
  rcases U with z|z
  .rw[z];exact Y b u e
  .exact Y c _ z
end
section
variable{X:Cx}{J1:η (J9×Obj)}{σ:St}{H:Hp}{s:qa3}
theorem Inv.turnedT {t:J9} {u:HO} (J:Inv X J1 σ H s) (k:∀ b o,b∉fp->s.heap.get? b=ς o->h'.get? b=ς o) (Z:∀ b∈fp,e9 X J1 H b) (ht:s.heap.objs.size<=t) (new:ObjOk X.prog X.w (upd H t u) h' t u) :
  Inv X J1 σ (upd H t u) {s with heap:=h',toks:=t'}:=by
 have nit:∀b u,H b=ς u->b∉fp:=fun b u e z=>by rw[(Z b z).1]at e;cases e
 have hn:H t=ψ:=J.hok.fresh ht;have U:∀b v,H b=ς v->b≠t:=fun b v e=>bA e hn
 have nlt:∀b o,s.heap.get? b=ς o->b≠t:=fun b o e z=>by subst z;exact absurd (qb0 e) (qy5.mpr ht)
 refine J.step (g':=s.gens) (d':=s.drawn) (ch:=fp) (fun b Y=>?_) (fun b o _ _ W e _=>k b o W e) (fun b o _ _ W e _=>⟨o.slots,k b o W e⟩) (fun b o _ e n=>by rw[aq (nlt b o e)];exact n)
  (fun b o W e=>⟨o,k b o W e⟩) (fun b xs e=>by rw[aq (U b _ e)];exact e) (fun b o v e=>by rw[aq (U b _ e)];exact e) (fun b ps e=>⟨#[],by rw[aq (U b _ e),e];simp⟩) (fun b xs e=>by rw[aq (U b _ e)];exact e) (fun m hm=>?_) (fun b v e=>?_) J.bare
 .exact⟨(Z b Y).2.2.2.1,(Z b Y).2.1,(Z b Y).2.2.2.2.1,(Z b Y).2.2.2.2.2⟩
 .obtain⟨o,es,ep,ho,r⟩:=hm;exact⟨o,es,ep,k _ o (fun z=>(Z _ z).2.1 rfl) ho,r⟩
 .by_cases Y:b=t
  .subst Y;rw[aw]at e;cases e;exact new
  .rw[aq Y]at e;refine(J.hok b v e).stay (fun c ob W q=>k c ob ?_ q) (fun c q=>by rw[aq (U c _ q)];exact q) (fun c ys q=>by rw[aq (U c _ q)];exact q) fun c ob ys q=>by rw[aq (U c _ q)];exact q
   rcases W with z|z
   .rw[z];exact nit b v e
   .exact nit c _ z
end
def Ite(b:Bool)(K:xA9)(a:J9):It:=⟨fun i H=>∃xs x,SqB b K H a xs/\xs[i]?=ς x,fun i H x H'=>∃t v,H t=ψ/\x=.ref t/\H'=upd H t (.t [.int i,v])/\∀xs,SqB b K H a xs->xs[i]?=ς v,fun i H=>∃xs,SqB b K H a xs/\xs.length=i⟩
variable{P:qc5}{elts:η Jc}{n:Nat}{pos:Pos}
def uu (b:Bool) (a e I:J9) (hne:e≠I) :
  Turn P w K (.Tuple elts n pos) (Ite b K a) [e,I] e (fun i h=>(∃Z,IsEnum h e I i Z)/\ItB b h I a i) where
 mem:=by simp
 obj:=fun i h st c hc=>by
  obtain⟨⟨Z,W⟩,Y⟩:=st;simp only[qa5,qf4,or_false]at hc;rcases hc with rfl|rfl
  .exact⟨_,W,fun v z=>nomatch z⟩
  .obtain⟨o,q,_,d⟩:=Y.obj;exact⟨o,q,d⟩
 keep:=fun i h h' st k=>by obtain⟨⟨Z,W⟩,Y⟩:=st;exact⟨⟨Z,k e Ξ _ W⟩,Y.at fun o q=>k I Ξ o q⟩
 item:=by
  intro X hP hw hK hc i J1 s σ H E J hf st hg;subst hP hw hK;obtain⟨⟨Z,W⟩,Y⟩:=st;obtain⟨xs,x,hq,hx⟩:=hg;obtain⟨J8,rv,co⟩:=J.seqB hq;obtain⟨u,hu,ru⟩:=rv.get hx;have hi:i<J8.toArray.size:=by simpa using (gX hu).1
  have hae:e∉[I,a]:=by simp only[qa5,qf4,or_false,not_or];refine⟨hne,fun z=>?_⟩;obtain⟨o,q,c⟩:=co.obj;rw[<- z,W]at q;cases q;rcases c with c|c<;>exact absurd c (BA Ω)
  refine wpAny_pyNext_enum_itemD (iX (A:=X.A.in1) (b:=b) (I:=I) (a:=a) (show X.A.in1.handled=ψ from J.ok.hd hc) (iW Y co) J8.toArray) W ⟨Y,co⟩ hi hne hae fun y h1 tk hy ho hs1 hT hsz hk=>⟨_,rfl,?_⟩
  have ey:y=u:=by rw[show J8.toArray[i]?=J8[i]? by simp,hu]at hy;exact(qd6 hy).symm
  subst ey;refine wpAny_letOwnedTupleGo_enum ho fun h2 he2 sb2=>?_
  have kk:∀c o,c∉[e,I]->s.heap.get? c=ς o->h2.get? c=ς o:=fun c o U q=>by simp only[qa5,qf4,or_false,not_or]at U;exact(sb2.2 c U.1).trans (hk c o U.1 U.2 q)
  have lt:∀c∈[e,I],c<s.heap.objs.size:=fun c U=>by
   simp only[qa5,qf4,or_false]at U;rcases U with rfl|rfl
   .exact qb0 W
   .obtain⟨o,q,_⟩:=Y.obj;exact qb0 q
  -- first the records,then the pair
  have hT2:h2.get? s.heap.objs.size=ς {cls:=.type "tuple",data:=.seq #[.int i tk,y]}:=(sb2.2 _ (fun z=>qk4 _ (z▸lt e Ξ))).trans hT
  have J2:Inv X J1 σ (upd H s.heap.objs.size (.t [.int i,x])) {s with heap:=h2,toks:=tk+1}:=by refine J.turnedT kk hf (nL _) ⟨by show 2<=qb2;decide,[.int i tk,y],.cons ⟨_,rfl⟩ (.cons ru .nil),?_⟩;exact⟨_,hT2,rfl,_,rfl⟩
  refine⟨.ref s.heap.objs.size,_,J2,rfl,⟨_,x,J.hok.fresh (qn6 _),rfl,rfl,fun ys hy=>by rw[J.seqB_inj hy hq];exact hx⟩,⟨⟨_,by simpa using he2⟩,hs1.1.at fun o q=>(sb2.2 I (qh5 hne)).trans q⟩,fun c U=>?_⟩;rw[aq (qb8 (lt c U))];exact(hf c U).1
 done:=by
  intro X hP hw hK hc i J1 s σ H E J hf st hg;subst hP hw hK;obtain⟨⟨Z,W⟩,Y⟩:=st;obtain⟨xs,hq,hx⟩:=hg;obtain⟨J8,rv,co⟩:=J.seqB hq;have hi:i=J8.toArray.size:=by rw[<- hx];simpa using rv.length
  refine wpAny_pyNext_enum_endD (iX (A:=X.A.in1) (b:=b) (I:=I) (a:=a) (show X.A.in1.handled=ψ from J.ok.hd hc) (iW Y co) J8.toArray) W (show ItB b s.heap I a J8.toArray.size/\CoB b s.heap a J8.toArray from⟨hi▸Y,co⟩) fun h' eb=>⟨rfl,?_⟩
  exact J.turnedL (t':=s.toks) (fun c o U q=>eb c o (fun z=>U (by simp[z])) q) hf
 self:=fun A i s Q E st h=>by obtain⟨⟨Z,W⟩,Y⟩:=st;exact wpAny_pyIter_enum W h
theorem oZ (t:J9) (vs:Array Value) (n:Nat) (dd:ζ J9) (sl:Array (ζ Value)) :
  Meets (qh6.«enumerate.__new__» ⟨[.type "enumerate",.ref t],[]⟩) (fun _ R s=>s.heap.get? t=ς {cls:=.type "tuple",dict:=dd,data:=.seq vs n,slots:=sl}∧
   R (.ok (.ret (.ref (s.heap.push {cls:=.type "tuple_iterator",data:=.fields #[.ref t,.int 0 0]}).objs.size)))
    {s with heap:=(s.heap.push {cls:=.type "tuple_iterator",data:=.fields #[.ref t,.int 0 0]}).push {cls:=.type "enumerate",data:=.fields #[.none,.bool ξ,.ref s.heap.objs.size,qf7 0,.none,.none]}}):=
 .of_wp fun prog w A R s h=>by
  obtain⟨hp,g,d,tk,Z⟩:=s;obtain⟨U,h⟩:=h;have Y:=sub_enumerate;have W:Heap.IsTuple (qa3.heap ⟨hp,g,d,tk,Z⟩) t vs:=⟨_,U,rfl,n,rfl⟩;wp_walk using qu2 U;refine wpAny_stack_any fun st=>qa2 ?_
  split
  .rename_i c _ _ _ _ _;cases (c==ql7 "enumerate")<;>(wp_walk using qu2 U,qq4 W)<;>exact⟨_,rfl,h⟩
  . (wp_walk using qu2 U,qq4 W)<;>exact⟨_,rfl,h⟩
section
variable{prog:qc5}{w:Ja}{A:qe1}{E:Value->qa3->Prop}{s:qa3}
def qy{t:J9}(hT:s.heap.IsTuple t vs)
 (h:∀h',IsEnum h' (s.heap.objs.size+1) s.heap.objs.size 0 .none->h'.IsTupleIter s.heap.objs.size t 0->h'.objs.size=s.heap.objs.size+2→
 (∀c u,s.heap.get? c=ς u->h'.get? c=ς u)->Q (.ref (s.heap.objs.size+1)) {s with heap:=h'}) :
  wpAny (model prog w) A (call (.type "enumerate") [.ref t]) Q E s:=by
 obtain⟨⟨c,dct,dt,sl⟩,hl,Y,n,W⟩:=hT;have Y:c=.type "tuple":=Y;have W:dt=.seq vs n:=W;subst Y W;refine callType_new F.called_enumerate Ω (F.typeCall_enumerate_1 _) (F.newCall_enumerate_1 _) (fun obj=>F.args_object_init_2 obj _) F.entry_enumerate_new (oZ t vs n dct sl) ⟨hl,?_⟩;have Z:(s.heap.push {cls:=.type "tuple_iterator",data:=.fields #[.ref t,.int 0 0]}).objs.size=s.heap.objs.size+1:=qd9 ..;have hz2:((s.heap.push {cls:=.type "tuple_iterator",data:=.fields #[.ref t,.int 0 0]}).push {cls:=.type "enumerate",data:=.fields #[.none,.bool ξ,.ref s.heap.objs.size,qf7 0,.none,.none]}).objs.size=s.heap.objs.size+2:=by rw[qd9,Z]
 rw[Z];have U:=qa7 (s.heap.push {cls:=.type "tuple_iterator",data:=.fields #[.ref t,.int 0 0]}) (o:={cls:=.type "enumerate",data:=.fields #[.none,.bool ξ,.ref s.heap.objs.size,qf7 0,.none,.none]}) rfl;rw[Z]at U;exact⟨⟨_,U,rfl⟩,h _ U ⟨_,gP _ (qa7 _ rfl),rfl,rfl⟩ hz2 fun c u z=>gP _ (gP _ z)⟩
def qz{t:J9}(U:CoB b s.heap t vs)
 (h:∀h',IsEnum h' (s.heap.objs.size+1) s.heap.objs.size 0 .none->ItB b h' s.heap.objs.size t 0->h'.objs.size=s.heap.objs.size+2→
 (∀c u,s.heap.get? c=ς u->h'.get? c=ς u)->Q (.ref (s.heap.objs.size+1)) {s with heap:=h'}) :
  wpAny (model prog w) A (call (.type "enumerate") [.ref t]) Q E s:=by
 cases b with
 |true=>exact call_enumerate_list U h
 |false=>exact qy U h
end
variable{ta:TA}
section
variable{X:Cx}{x:Jc}{p pos tpos:Pos}{sc:Jd}{fs:De->ζ (η Dt)}{elts:η Jc}{n:Nat}
def FN(K:xA9)(ta:TA):TI:=fun σ H R=>ta σ H fun vs H1=>∃b a xs,vs=[.ref a]/\SqB b K H1 a xs/\R (Ite b K a) H1
theorem z0 (h:aB sc "enumerate"=θ) (hm:X.mg "enumerate"=ψ) (ha:PA X [x] ta) (e1:bN X sc:=by rfl) (hs:qa8 [x] X.env=[(ξ,eval x X.env)]:=by rfl) :
  PI X (.Tuple elts n tpos) (.Call (.Name "enumerate" p) [x] [] pos) (FN X.K ta):=by
 intro J1 s σ H R I h';refine Call_ (eF I (glD h e1) hm m6 (qf5 (thn (ha pos J1 s σ H _ I h') fun us s1 ⟨vs,H1,W,r1,q1⟩=>?_) hs rfl));obtain⟨b,a,xs,rfl,hq,q⟩:=q1;obtain⟨u,rfl,ru⟩:=fK r1;cases ru;obtain⟨J8,rv,co⟩:=W.seqB hq;refine qz co fun h2 Y hi hz hk=>wpAny_pyIter_enum Y ?_
 have I2:Inv X J1 σ H1 {s1 with heap:=h2}:=W.kept (t':=s1.toks) hk;refine⟨s1.heap.objs.size+1,[s1.heap.objs.size+1,s1.heap.objs.size],_,_,H1,rfl,I2,uu b a _ _ (ql6 (qn2 _)),⟨⟨_,Y⟩,hi⟩,fun c Z=>?_,q⟩
 have U:s1.heap.objs.size<=c:=by
  simp only[qa5,qf4,or_false]at Z;rcases Z with rfl|rfl
  .exact zd5 _
  .exact nL _
 exact W.fpOk U (W.hok.fresh U)
def dM(i:Nat):η Dt->η Dt
 |[]=>[]
 |d::r=>.t [.int i,d]::dM (i+1) r
theorem ma:∀(l:η Dt)(i:Nat),(dM i l).length=l.length
 |[],_=>rfl
 |_::r,i=>by simp[dM,ma r]
theorem md:∀(l:η Dt)(i k:Nat),(dM i l)[k]?=l[k]?.map fun d=>.t [.int ((i+k:Nat):Int),d]
 |[],i,k=>by simp[dM]
 |d::r,i,0=>by simp[dM]
 |d::r,i,k+1=>by simp[dM,md r,Nat.add_assoc,Nat.add_comm 1]
def me:η Dt->ζ (η Dt)
 |[.e l]=>ς (dM 0 l)
 |[.t l]=>ς (dM 0 l)
 |_=>ψ
theorem o0{F:Hp}{d e:Dt}{w:V}{t:J9}(h:F t=ς (.t [v,w]))(r:Rep K F d v)(U:Rep K F e w):Rep K F (.t [d,e]) (.ref t):=by simp only[Rep,Reps];exact⟨t,_,rfl,SqT.of h,v,[w],rfl,r,w,[],rfl,U,rfl⟩
theorem mf{F:Hp}{xs:η V}(r:Reps K F l xs):oN K F (Ite b K a) (dM 0 l) (fun H=>SqB b K H a xs):=fun i H F2 U Y ff=>by have hl:=r.length;rw[ma];refine⟨fun h=>⟨xs,xs[i],U,by simp[show i<xs.length by lia]⟩,fun h=>⟨xs,U,Θ⟩,fun x H' hi hy=>?_⟩;obtain⟨t,v,W,rfl,rfl,hv⟩:=hy;have hx:=hv xs U;obtain⟨d,Z,rd⟩:=r.same_get hx;refine⟨_,upd F2 t (.t [.int i,v]),?_,Step.new Y W,o0 aw fq ((rd.same ff).same (Same.upd (Y.free W)))⟩;rw[md,Z];simp
theorem iz (h:aB sc "enumerate"=θ) (hm:X.mg "enumerate"=ψ) (ha:DA X [x] fs) (e1:bN X sc:=by rfl) (hs:qa8 [x] X.env=[(ξ,eval x X.env)]:=by rfl) :
  DIF X (.Tuple elts n tpos) (.Call (.Name "enumerate" p) [x] [] pos) (bQ me fs):=PI.mono (z0 h hm ha.pa e1 hs) fun σ H R ⟨Φ,δ,F,ds,hK,Z,U,k⟩=>by
 unfold bQ at U;obtain⟨Y,W,U⟩:=bS U;refine⟨Φ,δ,F,Y,hK,Z,W,fun vs H' F' st r=>?_⟩;unfold me at U;split at U<;>first|(cases U;done)|skip
 .cases U;simp only[Reps,Rep]at r;obtain⟨v,ws,rfl,⟨a,xs,rfl,h1,h2⟩,rfl⟩:=r;exact⟨θ,a,xs,rfl,st.fh.seq h1,k _ _ H' F' st (mf (b:=true) h2) fun H2 s=>s.seq h1⟩
 .cases U;simp only[Reps,Rep]at r;obtain⟨v,ws,rfl,⟨a,xs,rfl,h1,h2⟩,rfl⟩:=r;exact⟨ξ,a,xs,rfl,st.fh.tup h1,k _ _ H' F' st (mf (b:=false) h2) fun H2 s=>s.tup h1⟩
end
structure ZApart(z ti tO i1 i2:J9)(fp1 fp2:List J9):Prop where
 zt:ti≠z
 zo:tO≠z
 to:ti≠tO
 m1:i1∈fp1
 m2:i2∈fp2
 z1:z∉fp1
 z2:z∉fp2
 o1:tO∉fp1
 o2:tO∉fp2
 t1:ti≠i1
 t2:ti≠i2
 x12:i1∉fp2
 x21:i2∉fp1
section
variable{prog:qc5}{w:Ja}{A:qe1}{E:Value->qa3->Prop}{s:qa3}{z ti tO i1 i2:J9}{fp1 fp2:η J9}{n1 n2 k:Nat}{P1 P2:Nat->Value->Prop}{S1 S2:Nat->Heap->Prop}{va vb:Value}
theorem aC{x y:J9}{l:η J9}(h:x∈l)(h':y∉l):x≠y:=fun e=>h' (e▸h)
theorem uv(D1:Draws prog w A i1 fp1 n1 P1 S1)(D2:Draws prog w A i2 fp2 n2 P2 S2)(D:ZApart z ti tO i1 i2 fp1 fp2)
 (hz:IsZip s.heap z ti tO .none) (hI:qs8 s.heap ti (.ref i1) (.ref i2)) (hO:qs8 s.heap tO va vb) (h1:S1 k s.heap) (h2:S2 k s.heap) (l1:k<n1) (l2:k<n2)
 (q:∀x y h' tk,P1 k x->P2 k y->IsZip h' z ti tO (qf7 s.heap.objs.size)->qs8 h' tO x y->S1 (k+1) h'->S2 (k+1) h'->qs8 h' s.heap.objs.size x y->h'.objs.size=s.heap.objs.size+1→
 (∀c o,c≠z->c≠tO->c≠i1->c≠i2->s.heap.get? c=ς o->h'.get? c=ς o)->Q (.ref s.heap.objs.size) {s with heap:=h',toks:=tk}) :
  wpAny (model prog w) A (qh6.«zip.__next__» ⟨[.ref z],[]⟩) (fun fin s'=>∃v,fin=.done (.ret v)/\Q v s') E s:=by
 obtain⟨hp,gn,dr,tk0,os⟩:=s;have e1:i1≠z:=aC D.m1 D.z1;have e2:i2≠z:=aC D.m2 D.z2;have e3:tO≠i1:=(aC D.m1 D.o1).symm;have e4:tO≠i2:=(aC D.m2 D.o2).symm;have e5:i1≠i2:=(aC D.m2 D.x12).symm;show wpAny _ _ (field (.ref z) 2 >>= _) _ _ ⟨hp,gn,dr,tk0,os⟩;refine wB (qk5 hz rfl (x:=.bool ξ) rfl ?_);show wpAny _ _ (field (.ref z) 3 >>= _) _ _ ⟨hp,gn,dr,tk0,os⟩;refine wB (qk5 hz rfl (x:=.ref ti) rfl ?_);refine wB (qg5 hI rfl ?_);show wpAny _ _ (qj7 (.ref z) >>= _) _ _ ⟨hp,gn,dr,tk0,os⟩;refine wB ?_;unfold qj7;refine wB (qk5 hz rfl (x:=.none) rfl (qa2 ?_));simp only[if_true];refine wB (qu1 (wB (qk5 hz rfl (x:=.ref tO) rfl ?_)));refine qg4 (qn5 hz Ξ fun ha hza hsa=>?_)
 replace hza:IsZip ha z ti tO .ellipsis:=hza
 replace hsa:qg2 z hp ha:=hsa
 refine wB ?_;simp only[List.zipIdx_cons,List.zipIdx_nil,qu8,za7];refine wB (wB (zd6 ?_));show wpAny _ _ (qg1 (.ref i1) >>= _) _ _ ⟨ha,gn,dr,tk0,os⟩;have h1a:S1 k ha:=D1.frame _ _ _ h1 fun b hb o y=>hsa.extBut b o (aC hb D.z1) y
 have h2a:S2 k ha:=D2.frame _ _ _ h2 fun b hb o y=>hsa.extBut b o (aC hb D.z2) y
 refine wB (D1.item k _ _ _ l1 h1a fun x hb tk1 px h1b Z=>qa2 ?_)
 replace Z:qg2 i1 ha hb:=Z
 have hOb:qs8 hb tO va vb:=Z.extBut _ _ e3 (hsa.extBut _ _ D.zo hO);refine wB (qg5 hOb rfl (wB (qx3 hOb fun hc hOc hsc=>?_)))
 replace hOc:qs8 hc tO x vb:=hOc
 replace hsc:qg2 tO hb hc:=hsc
 refine wB (qt6 (qa2 (wB (wB (zd6 ?_)))));show wpAny _ _ (qg1 (.ref i2) >>= _) _ _ ⟨hc,gn,dr,tk1,os⟩;have h2c:S2 k hc:=D2.frame _ _ _ h2a fun b U o y=>hsc.extBut b o (aC U D.o2) (Z.extBut b o (aC U D.x12) y)
 refine wB (D2.item k _ _ _ l2 h2c fun y hd tk2 py h2d W=>qa2 ?_)
 replace W:qg2 i2 hc hd:=W
 have hOd:qs8 hd tO x vb:=W.extBut _ _ e4 hOc;refine wB (qg5 hOd rfl (wB (qx3 hOd fun he hOe Y=>?_)))
 replace hOe:qs8 he tO x y:=hOe
 replace Y:qg2 tO hd he:=Y
 refine wB (qt6 (qa2 (qa2 ?_)));refine wB (qg5 hOe rfl (wB (wpAny_newTuple ?_)));have sz:he.objs.size=hp.objs.size:=by rw[Y.1,W.1,hsc.1,Z.1,hsa.1]
 have hze:IsZip he z ti tO .ellipsis:=Y.extBut _ _ D.zo.symm (W.extBut _ _ e2.symm (hsc.extBut _ _ D.zo.symm (Z.extBut _ _ e1.symm hza)))
 have ke:∀c o,c≠z->c≠tO->c≠i1->c≠i2->hp.get? c=ς o->he.get? c=ς o:=fun c o c1 c2 c3 c4 y=>Y.extBut _ _ c2 (W.extBut _ _ c4 (hsc.extBut _ _ c2 (Z.extBut _ _ c3 (hsa.extBut _ _ c1 y))))
 have h1e:S1 (k+1) he:=D1.frame _ _ _ h1b fun b U o y=>Y.extBut b o (aC U D.o1) (W.extBut b o (aC U D.x21) (hsc.extBut b o (aC U D.o1) y))
 have h2e:S2 (k+1) he:=D2.frame _ _ _ h2d fun b U o y=>Y.extBut b o (aC U D.o2) y
 have zl:z<he.objs.size:=qb0 hze;show wpAny _ _ (qs9 (.ref z) (.ref he.objs.size) >>= _) _ _ _;refine wB ?_;unfold qs9;have hzf:IsZip (he.push {cls:=.type "tuple",data:=.seq #[x,y]}) z ti tO .ellipsis:=gP _ hze;refine qg4 (qn5 hzf Ξ fun hg hzg hsg=>?_)
 replace hzg:IsZip hg z ti tO (qf7 he.objs.size):=hzg
 refine qn5 hzg Ξ fun hh hzh hsh=>?_
 replace hzh:IsZip hh z ti tO (qf7 he.objs.size):=hzh
 have up:∀c o,c≠z->he.get? c=ς o->hh.get? c=ς o:=fun c o c1 y=>hsh.extBut _ _ c1 (hsg.extBut _ _ c1 (gP _ y))
 have hTh:qs8 hh he.objs.size x y:=hsh.extBut _ _ (ql6 zl) (hsg.extBut _ _ (ql6 zl) (qa7 _ rfl));have szh:hh.objs.size=he.objs.size+1:=by rw[hsh.1,hsg.1,qd9]
 rw[sz]at hzh hTh szh;refine qa2 ⟨_,rfl,?_⟩;show Q (.ref he.objs.size) _;rw[sz];exact q x y hh tk2 px py hzh (up _ _ D.zo hOe) (D1.frame _ _ _ h1e fun b U o y=>up b o (aC U D.z1) y) (D2.frame _ _ _ h2e fun b U o y=>up b o (aC U D.z2) y) hTh szh fun c o c1 c2 c3 c4 y=>up c o c1 (ke c o c1 c2 c3 c4 y)
theorem wK {Q:Fin->qa3->Prop} (D1:Draws prog w A i1 fp1 n1 P1 S1) (D2:Draws prog w A i2 fp2 n2 P2 S2) (D:ZApart z ti tO i1 i2 fp1 fp2)
  (hz:IsZip s.heap z ti tO .none) (hI:qs8 s.heap ti (.ref i1) (.ref i2)) (hO:qs8 s.heap tO va vb) (h1:S1 k s.heap) (h2:S2 k s.heap) (l1:k=n1∨(k<n1/\k=n2))
  (q:∀h' e,(∀c o,c≠z->c≠tO->c≠i1->c≠i2->s.heap.get? c=ς o->h'.get? c=ς o)->(∃o,h'.get? e=ς o/\o.cls=.type "StopIteration")->∀tk,E (.ref e) {s with heap:=h',toks:=tk}) :
  wpAny (model prog w) A (qh6.«zip.__next__» ⟨[.ref z],[]⟩) Q E s:=by
 obtain⟨hp,gn,dr,tk0,os⟩:=s;have e1:i1≠z:=aC D.m1 D.z1;have e2:i2≠z:=aC D.m2 D.z2;have e3:tO≠i1:=(aC D.m1 D.o1).symm;show wpAny _ _ (field (.ref z) 2 >>= _) _ _ ⟨hp,gn,dr,tk0,os⟩;refine wB (qk5 hz rfl (x:=.bool ξ) rfl ?_);show wpAny _ _ (field (.ref z) 3 >>= _) _ _ ⟨hp,gn,dr,tk0,os⟩;refine wB (qk5 hz rfl (x:=.ref ti) rfl ?_);refine wB (qg5 hI rfl ?_);show wpAny _ _ (qj7 (.ref z) >>= _) _ _ ⟨hp,gn,dr,tk0,os⟩;refine wB ?_;unfold qj7;refine wB (qk5 hz rfl (x:=.none) rfl (qa2 ?_));simp only[if_true];refine wB (qu1 (wB (qk5 hz rfl (x:=.ref tO) rfl ?_)));refine qg4 (qn5 hz Ξ fun ha hza Z=>?_)
 replace hza:IsZip ha z ti tO .ellipsis:=hza
 replace Z:qg2 z hp ha:=Z
 refine wB ?_;simp only[List.zipIdx_cons,List.zipIdx_nil,qu8,za7];refine wB (wB (zd6 ?_));show wpAny _ _ (qg1 (.ref i1) >>= _) _ _ ⟨ha,gn,dr,tk0,os⟩;have h1a:S1 k ha:=D1.frame _ _ _ h1 fun b hb o y=>Z.extBut b o (aC hb D.z1) y
 have h2a:S2 k ha:=D2.frame _ _ _ h2 fun b hb o y=>Z.extBut b o (aC hb D.z2) y
 rcases l1 with l1|⟨l1,l2⟩
 .subst l1;refine wB (D1.done _ _ _ h1a fun hb e U he=>?_);obtain⟨oe,Y,hce⟩:=he;have hzb:IsZip hb z ti tO .ellipsis:=U _ _ e1.symm hza;have ez:e≠z:=fun y=>by subst y;rw[hzb]at Y;cases Y;simp at hce
  refine qn5 hzb Ξ fun hc _ W=>q hc e (fun c o c1 _ c3 _ y=>W.extBut _ _ c1 (U _ _ c3 (Z.extBut _ _ c1 y))) ⟨oe,W.extBut _ _ ez Y,hce⟩ tk0
 .subst l2;refine wB (D1.item k _ _ _ l1 h1a fun x hb tk1 px h1b U=>qa2 ?_)
  replace U:qg2 i1 ha hb:=U
  have hOb:qs8 hb tO va vb:=U.extBut _ _ e3 (Z.extBut _ _ D.zo hO);refine wB (qg5 hOb rfl (wB (qx3 hOb fun hc hOc W=>?_)))
  replace W:qg2 tO hb hc:=W
  refine wB (qt6 (qa2 (wB (wB (zd6 ?_)))));show wpAny _ _ (qg1 (.ref i2) >>= _) _ _ ⟨hc,gn,dr,tk1,os⟩;have h2c:S2 k hc:=D2.frame _ _ _ h2a fun b hb' o y=>W.extBut b o (aC hb' D.o2) (U.extBut b o (aC hb' D.x12) y)
  refine wB (D2.done _ _ _ h2c fun hd e hsd he=>?_);obtain⟨oe,Y,hce⟩:=he;have hzd:IsZip hd z ti tO .ellipsis:=hsd _ _ e2.symm (W.extBut _ _ D.zo.symm (U.extBut _ _ e1.symm hza));have ez:e≠z:=fun y=>by subst y;rw[hzd]at Y;cases Y;simp at hce
  refine qn5 hzd Ξ fun hf _ hsf=>q hf e (fun c o c1 c2 c3 c4 y=>hsf.extBut _ _ c1 (hsd _ _ c4 (W.extBut _ _ c2 (U.extBut _ _ c3 (Z.extBut _ _ c1 y))))) ⟨oe,hsf.extBut _ _ ez Y,hce⟩ tk1
theorem qA {Q:ζ Value->qa3->Prop} (D1:Draws prog w A.in1 i1 fp1 n1 P1 S1) (Z:Draws prog w A.in1 i2 fp2 n2 P2 S2) (D:ZApart z ti tO i1 i2 fp1 fp2)
  (W:IsZip s.heap z ti tO .none) (Y:qs8 s.heap ti (.ref i1) (.ref i2)) (hO:qs8 s.heap tO va vb) (h1:S1 k s.heap) (h2:S2 k s.heap) (l1:k<n1) (l2:k<n2)
  (q:∀x y h' tk,P1 k x->P2 k y->IsZip h' z ti tO (qf7 s.heap.objs.size)->qs8 h' tO x y->S1 (k+1) h'->S2 (k+1) h'->qs8 h' s.heap.objs.size x y->h'.objs.size=s.heap.objs.size+1→
   (∀c o,c≠z->c≠tO->c≠i1->c≠i2->s.heap.get? c=ς o->h'.get? c=ς o)->Q (ς (.ref s.heap.objs.size)) {s with heap:=h',toks:=tk}):wpAny (model prog w) A (qp9 (.ref z)) Q E s:=by
 have U:s.TypeIs (.ref z) "zip":=⟨_,W,rfl⟩;unfold qp9;exact wB (qp8 (qe5 (name:=qa0 "__next__") U qz6 (qf2 qz6 U F.entry_zip_next (uv D1 Z D W Y hO h1 h2 l1 l2 fun x y h' tk a b c d e f g i j=>qa2 (q x y h' tk a b c d e f g i j)) (F.args_zip_next_1 _))))
theorem uw {Q:ζ Value->qa3->Prop} (D1:Draws prog w A.in1 i1 fp1 n1 P1 S1) (Z:Draws prog w A.in1 i2 fp2 n2 P2 S2) (D:ZApart z ti tO i1 i2 fp1 fp2)
  (W:IsZip s.heap z ti tO .none) (Y:qs8 s.heap ti (.ref i1) (.ref i2)) (hO:qs8 s.heap tO va vb) (h1:S1 k s.heap) (h2:S2 k s.heap) (l1:k=n1∨(k<n1/\k=n2))
  (q:∀h' tk,(∀c o,c≠z->c≠tO->c≠i1->c≠i2->s.heap.get? c=ς o->h'.get? c=ς o)->Q ψ {s with heap:=h',toks:=tk}):wpAny (model prog w) A (qp9 (.ref z)) Q E s:=by
 have U:s.TypeIs (.ref z) "zip":=⟨_,W,rfl⟩;unfold qp9;refine wB (qp8 (qe5 (name:=qa0 "__next__") U qz6 (qf2 qz6 U F.entry_zip_next (wK D1 Z D W Y hO h1 h2 l1 fun h' e hk he tk=>?_) (F.args_zip_next_1 _))));obtain⟨o,ho,hc⟩:=he;exact wB (qn3 (T:="StopIteration") (b:=true) ⟨o,ho,hc⟩ za9 (qa2 (q _ tk hk)))
end
noncomputable abbrev itN(b:Bool):String:=match b with
 |true=>"list_iterator"
 |false=>"tuple_iterator"
abbrev zq1(h:Heap)(b:Bool)(l:J9):Heap:=h.push {cls:=.type (itN b),data:=.fields #[.ref l,.int 0 0]}
abbrev zq2(h:Heap)(b c:Bool)(l m:J9):Heap:=(zq1 h b l).push {cls:=.type (itN c),data:=.fields #[.ref m,.int 0 0]}
abbrev zq3(h:Heap)(b c:Bool)(l m:J9):Heap:=(zq2 h b c l m).push {cls:=.type "tuple",data:=.seq #[.ref h.objs.size,.ref (zq1 h b l).objs.size]}
abbrev zq4(h:Heap)(b c:Bool)(l m:J9):Heap:=(zq3 h b c l m).push {cls:=.type "tuple",data:=.seq #[.none,.none]}
abbrev zq5(h:Heap)(b c:Bool)(l m:J9):Heap:=(zq4 h b c l m).push {cls:=.type "zip",data:=.fields #[.none,.bool ξ,.bool ξ,.ref (zq2 h b c l m).objs.size,.ref (zq3 h b c l m).objs.size]}
section
variable{prog:qc5}{w:Ja}{A:qe1}{E:Value->qa3->Prop}{s:qa3}
theorem sw(h:CoB b s.heap a vs)(q:Q (.ref s.heap.objs.size) {s with heap:=s.heap.push {cls:=.type (itN b),data:=.fields #[.ref a,.int 0 0]}}):wpAny (model prog w) A (zi6 (.ref a)) Q E s:=by
 cases b with
 |true=>exact qo7 h q
 |false=>exact qq4 h q
theorem CoB.push(x:CoB b h a vs)(o:Obj):CoB b (h.push o) a vs:=by
 cases b with
 |true=>obtain⟨u,e,r⟩:=x;exact⟨u,gP _ e,r⟩
 |false=>obtain⟨u,e,r⟩:=x;exact⟨u,gP _ e,r⟩
theorem qB (b c:Bool) (l m:J9) (xs ys:Array Value):Meets (qh6.«zip.__new__» ⟨[.type "zip",.ref l,.ref m],[]⟩) (fun _ R s=>CoB b s.heap l xs/\CoB c s.heap m ys∧
      R (.ok (.ret (.ref (zq4 s.heap b c l m).objs.size))) {s with heap:=zq5 s.heap b c l m}):=
 .of_wp fun prog w A R s h=>by obtain⟨hp,g,d,tk,U⟩:=s;obtain⟨hl,hm,h⟩:=h;have W:=sub_zip;have Y:CoB b (qa3.heap ⟨hp,g,d,tk,U⟩) l xs:=hl;have Z:CoB c (qa3.heap ⟨hp.push {cls:=.type (itN b),data:=.fields #[.ref l,.int 0 0]},g,d,tk,U⟩) m ys:=hm.push _;wp_walk using sw Y,sw Z;exact⟨_,rfl,h⟩
theorem ux{c:Bool}{l m:J9}{xs ys:Array Value}(hl:CoB b s.heap l xs)(hm:CoB c s.heap m ys)
 (q:∀h',IsZip h' (s.heap.objs.size+4) (s.heap.objs.size+2) (s.heap.objs.size+3) .none->qs8 h' (s.heap.objs.size+2) (.ref s.heap.objs.size) (.ref (s.heap.objs.size+1))→
 qs8 h' (s.heap.objs.size+3) .none .none->ItB b h' s.heap.objs.size l 0->ItB c h' (s.heap.objs.size+1) m 0->h'.objs.size=s.heap.objs.size+5→
 (∀a o,s.heap.get? a=ς o->h'.get? a=ς o)->Q (.ref (s.heap.objs.size+4)) {s with heap:=h'}):wpAny (model prog w) A (call (.type "zip") [.ref l,.ref m]) Q E s:=by
 refine callType_new F.called_zip Ω (F.typeCall_zip_2 _ _) (F.newCall_zip_2 _ _) (fun obj=>F.args_object_init_3 obj _ _) F.entry_zip_new (qB b c l m xs ys) ⟨hl,hm,?_⟩;have z1:(zq1 s.heap b l).objs.size=s.heap.objs.size+1:=qd9 ..;have Y:(zq2 s.heap b c l m).objs.size=s.heap.objs.size+2:=by rw[show zq2 s.heap b c l m=(zq1 s.heap b l).push _ from rfl,qd9,z1]
 have Z:(zq3 s.heap b c l m).objs.size=s.heap.objs.size+3:=by rw[show zq3 s.heap b c l m=(zq2 s.heap b c l m).push _ from rfl,qd9,Y]
 have W:(zq4 s.heap b c l m).objs.size=s.heap.objs.size+4:=by rw[show zq4 s.heap b c l m=(zq3 s.heap b c l m).push _ from rfl,qd9,Z]
 have z5:(zq5 s.heap b c l m).objs.size=s.heap.objs.size+5:=by rw[show zq5 s.heap b c l m=(zq4 s.heap b c l m).push _ from rfl,qd9,W]
 have u5:(zq5 s.heap b c l m).get? (zq4 s.heap b c l m).objs.size=ς _:=qa7 _ rfl;have u4:(zq5 s.heap b c l m).get? (zq3 s.heap b c l m).objs.size=ς _:=gP _ (qa7 _ rfl);have u3:(zq5 s.heap b c l m).get? (zq2 s.heap b c l m).objs.size=ς _:=gP _ (gP _ (qa7 _ rfl));have U:(zq5 s.heap b c l m).get? (zq1 s.heap b l).objs.size=ς _:=gP _ (gP _ (gP _ (qa7 _ rfl)));have v1:(zq5 s.heap b c l m).get? s.heap.objs.size=ς _:=gP _ (gP _ (gP _ (gP _ (qa7 _ rfl))));show _/\_;rw[Y,Z,W]at u5;rw[z1,Y]at u3;rw[Z]at u4;rw[z1]at U;rw[W];refine⟨⟨_,u5,rfl⟩,q _ u5 u3 u4 ?_ ?_ z5 fun a o e=>gP _ (gP _ (gP _ (gP _ (gP _ e))))⟩
 .cases b with
  |true=>exact⟨_,v1,rfl,rfl⟩
  |false=>exact⟨_,v1,rfl,rfl⟩
 .cases c with
  |true=>exact⟨_,U,rfl,rfl⟩
  |false=>exact⟨_,U,rfl,rfl⟩
end
section
variable{X:Cx}{J1:η (J9×Obj)}{σ:St}{H:Hp}{s:qa3}{a:J9}{xs ys:η V}{b c:Bool}
theorem BB(J:Inv X J1 σ H s)(Y:SqB b X.K H a xs){r:J9}(W:e9 X J1 H r):a≠r:=by
 have U:(∃o,H a=ς o)∨∃o,X.K.lookup a=ς o:=by
  cases b with
  |true=>
   rcases Y with (h|⟨o,h⟩)|⟨o,_,_,h,_⟩
   .exact .inl ⟨_,h⟩
   .exact .inl ⟨_,h⟩
   .exact .inr ⟨_,h⟩
  |false=>
   rcases Y with h|⟨o,_,_,h,_⟩
   .exact .inl ⟨_,h⟩
   .exact .inr ⟨_,h⟩
 rintro rfl;rcases U with ⟨o,h⟩|⟨o,h⟩
 .rw[W.1]at h;cases h
 .have Z:=J.ok.mod.kin a o h;rcases W.2.2.2.1 with z|z
  .exact J.ok.noex a o Z z
  .exact absurd (qc2 (qb0 Z) (qc0 J.ok.bsz z)) (qk4 _)
theorem wL{l m z ti tO i1 i2:J9}(J:Inv X J1 σ H s)(Y:[z,ti,tO,i1,i2].Nodup)(Z:∀r∈[z,ti,tO,i1,i2],e9 X J1 H r)(h1:SqB b X.K H l xs)(h2:SqB c X.K H m ys):ZApart z ti tO i1 i2 [i1,l] [i2,m]:=by
 have n1:∀r∈[z,ti,tO,i1,i2],l≠r:=fun r W=>BB J h1 (Z r W)
 have n2:∀r∈[z,ti,tO,i1,i2],m≠r:=fun r W=>BB J h2 (Z r W)
 simp only[qa5,qf4,or_false,forall_eq_or_imp,forall_eq]at n1 n2;simp only[qg0,qa5,qf4,or_false,not_or,not_false_eq_true,qs5,and_true]at Y;obtain⟨⟨d1,d2,d3,d4⟩,⟨d5,d6,d7⟩,⟨d8,d9⟩,U⟩:=Y;refine⟨qh5 d1,qh5 d2,d5,Ξ,Ξ,?_,?_,?_,?_,d6,d7,?_,?_⟩<;>simp only[qa5,qf4,or_false,not_or]
 .exact⟨d3,qh5 n1.1⟩
 .exact⟨d4,qh5 n2.1⟩
 .exact⟨d8,qh5 n1.2.2.1⟩
 .exact⟨d9,qh5 n2.2.2.1⟩
 .exact⟨U,qh5 n2.2.2.2.1⟩
 .exact⟨qh5 U,qh5 n1.2.2.2.2⟩
end
def Itz(b c:Bool)(K:xA9)(l m:J9):It:=⟨fun i H=>∃xs ys x y,SqB b K H l xs/\SqB c K H m ys/\xs[i]?=ς x/\ys[i]?=ς y,fun i H x H'=>∃t v u,H t=ψ/\x=.ref t/\H'=upd H t (.t [v,u])/\∀xs ys,SqB b K H l xs->SqB c K H m ys->xs[i]?=ς v/\ys[i]?=ς u,fun i H=>∃xs ys,SqB b K H l xs/\SqB c K H m ys/\min xs.length ys.length=i⟩
theorem wM (b c:Bool) (l m z ti tO i1 i2:J9) (hd:[z,ti,tO,i1,i2].Nodup) :
  Turn P w K (.Tuple elts n pos) (Itz b c K l m) [z,ti,tO,i1,i2] z (fun i h=>IsZip h z ti tO .none/\qs8 h ti (.ref i1) (.ref i2)/\(∃va vb,qs8 h tO va vb)/\ItB b h i1 l i/\ItB c h i2 m i) where
 mem:=by simp
 obj:=fun i h st a U=>by
  obtain⟨s1,s2,⟨va,vb,s3⟩,s4,s5⟩:=st;simp only[qa5,qf4,or_false]at U;rcases U with rfl|rfl|rfl|rfl|rfl
  .exact⟨_,s1,fun v y=>nomatch y⟩
  .exact⟨_,s2,fun v y=>nomatch y⟩
  .exact⟨_,s3,fun v y=>nomatch y⟩
  .obtain⟨o,q,_,d⟩:=s4.obj;exact⟨o,q,d⟩
  .obtain⟨o,q,_,d⟩:=s5.obj;exact⟨o,q,d⟩
 keep:=fun i h h' st k=>by obtain⟨s1,s2,⟨va,vb,s3⟩,s4,s5⟩:=st;exact⟨k z Ξ _ s1,k ti Ξ _ s2,⟨va,vb,k tO Ξ _ s3⟩,s4.at fun o q=>k i1 Ξ o q,s5.at fun o q=>k i2 Ξ o q⟩
 item:=by
  intro X hP hw hK hc i J1 s σ H E J hf st hg;subst hP hw hK;obtain⟨s1,s2,⟨va,vb,s3⟩,s4,s5⟩:=st;obtain⟨xs,ys,x,y,hq,hr,hx,hy⟩:=hg;obtain⟨J8,rv,co⟩:=J.seqB hq;obtain⟨W,rv2,Z⟩:=J.seqB hr;obtain⟨u,hu,ru⟩:=rv.get hx;obtain⟨u2,hu2,ru2⟩:=rv2.get hy;have l1:i<J8.toArray.size:=by simpa using (gX hu).1
  have l2:i<W.toArray.size:=by simpa using (gX hu2).1
  refine qA (iX (A:=X.A.in1) (b:=b) (I:=i1) (a:=l) (show X.A.in1.handled=ψ from J.ok.hd hc) (iW s4 co) J8.toArray) (iX (A:=X.A.in1) (b:=c) (I:=i2) (a:=m) (show X.A.in1.handled=ψ from J.ok.hd hc) (iW s5 Z) W.toArray)
   (wL J hd hf hq hr) s1 s2 s3 ⟨s4,co⟩ ⟨s5,Z⟩ l1 l2 fun x' y' h1 tk p1 p2 hz hO t1 t2 hT hsz hk=>⟨_,rfl,?_⟩
  have ex:x'=u:=by rw[show J8.toArray[i]?=J8[i]? by simp,hu]at p1;exact(qd6 p1).symm
  have ey:y'=u2:=by rw[show W.toArray[i]?=W[i]? by simp,hu2]at p2;exact(qd6 p2).symm
  subst ex ey;refine wpAny_letOwnedTupleGo_zip hz fun h2 hz2 Y=>?_
  have nd:=hd;simp only[qg0,qa5,qf4,or_false,not_or,not_false_eq_true,qs5,and_true]at nd;obtain⟨⟨d1,d2,d3,d4⟩,⟨d5,d6,d7⟩,⟨d8,d9⟩,d10⟩:=nd
  have lt:∀a∈[z,ti,tO,i1,i2],a<s.heap.objs.size:=fun a U=>by
   simp only[qa5,qf4,or_false]at U;rcases U with rfl|rfl|rfl|rfl|rfl
   .exact qb0 s1
   .exact qb0 s2
   .exact qb0 s3
   .obtain⟨o,q,_⟩:=s4.obj;exact qb0 q
   .obtain⟨o,q,_⟩:=s5.obj;exact qb0 q
  have zn:s.heap.objs.size≠z:=fun y=>qk4 _ (y▸lt z Ξ)
  have kk:∀a o,a∉[z,ti,tO,i1,i2]->s.heap.get? a=ς o->h2.get? a=ς o:=fun a o U q=>by simp only[qa5,qf4,or_false,not_or]at U;exact(Y.2 a U.1).trans (hk a o U.1 U.2.2.1 U.2.2.2.1 U.2.2.2.2 q)
  have hT2:h2.get? s.heap.objs.size=ς {cls:=.type "tuple",data:=.seq #[x',y']}:=(Y.2 _ zn).trans hT
  have J2:Inv X J1 σ (upd H s.heap.objs.size (.t [x,y])) {s with heap:=h2,toks:=tk}:=J.turnedT kk hf (nL _) ⟨by show 2<=qb2;decide,[x',y'],.cons ru (.cons ru2 .nil),⟨_,hT2,rfl,_,rfl⟩⟩
  refine⟨.ref s.heap.objs.size,_,J2,rfl,⟨_,x,y,J.hok.fresh (nL _),rfl,rfl,fun us ws hu hw=>⟨by rw[J.seqB_inj hu hq];exact hx,by rw[J.seqB_inj hw hr];exact hy⟩⟩,⟨hz2,(Y.2 ti (qh5 d1)).trans (hk ti _ (qh5 d1) d5 d6 d7 s2),⟨_,_,(Y.2 tO (qh5 d2)).trans hO⟩,t1.1.at fun o q=>(Y.2 i1 (qh5 d3)).trans q,t2.1.at fun o q=>(Y.2 i2 (qh5 d4)).trans q⟩,fun a U=>?_⟩;rw[aq (qb8 (lt a U))];exact(hf a U).1
 done:=by
  intro X hP hw hK hc i J1 s σ H E J hf st hg;subst hP hw hK;obtain⟨s1,s2,⟨va,vb,s3⟩,s4,s5⟩:=st;obtain⟨xs,ys,hq,hr,hx⟩:=hg;obtain⟨J8,rv,co⟩:=J.seqB hq;obtain⟨W,rv2,Z⟩:=J.seqB hr;have e1:=rv.length;have e2:=rv2.length
  refine uw (iX (A:=X.A.in1) (b:=b) (I:=i1) (a:=l) (show X.A.in1.handled=ψ from J.ok.hd hc) (iW s4 co) J8.toArray) (iX (A:=X.A.in1) (b:=c) (I:=i2) (a:=m) (show X.A.in1.handled=ψ from J.ok.hd hc) (iW s5 Z) W.toArray)
   (wL J hd hf hq hr) s1 s2 s3 ⟨s4,co⟩ ⟨s5,Z⟩ (by simp only[qb6];lia) fun h' tk hk=>⟨rfl,?_⟩
  exact J.turnedL (t':=tk) (fun a o U q=>hk a o (fun y=>U (by simp[y])) (fun y=>U (by simp[y])) (fun y=>U (by simp[y])) (fun y=>U (by simp[y])) q) hf
 self:=fun A i s Q E st h=>wpAny_pyIter_zip st.1 h
section
variable{X:Cx}{x y:Jc}{p pos tpos:Pos}{sc:Jd}{fs:De->ζ (η Dt)}{elts:η Jc}{n:Nat}
def iZip(K:xA9)(ta:TA):TI:=fun σ H R=>ta σ H fun vs H1=>∃b c l m xs ys,vs=[.ref l,.ref m]/\SqB b K H1 l xs/\SqB c K H1 m ys/\R (Itz b c K l m) H1
theorem Du (h:aB sc "zip"=θ) (hm:X.mg "zip"=ψ) (Z:PA X [x,y] ta) (e1:bN X sc:=by rfl) (hs:qa8 [x,y] X.env=[(ξ,eval x X.env),(ξ,eval y X.env)]:=by rfl) (Y:qa8 [y] X.env=[(ξ,eval y X.env)]:=by rfl) :
  PI X (.Tuple elts n tpos) (.Call (.Name "zip" p) [x,y] [] pos) (iZip X.K ta):=by
 intro J1 s σ H R I h';refine Call_ (eF I (glD h e1) hm C8 (qf5 (thn (Z pos J1 s σ H _ I h') fun us s1 ⟨vs,H1,W,r1,q1⟩=>?_) (by rw[hs,Y]) (by rw[Y];rfl)));obtain⟨b,c,l,m,xs,ys,rfl,hq,hr,q⟩:=q1;obtain⟨u,w',rfl,ru,rw'⟩:=rS r1;cases ru;cases rw';obtain⟨J8,rv,co⟩:=W.seqB hq;obtain⟨its2,rv2,co2⟩:=W.seqB hr;refine ux co co2 fun h2 hz hI hO hi1 hi2 hsz hk=>wpAny_pyIter_zip hz ?_
 have I2:Inv X J1 σ H1 {s1 with heap:=h2}:=W.kept (t':=s1.toks) hk;refine⟨s1.heap.objs.size+4,[s1.heap.objs.size+4,s1.heap.objs.size+2,s1.heap.objs.size+3,s1.heap.objs.size,s1.heap.objs.size+1],_,_,H1,rfl,I2,wM b c l m _ _ _ _ _ Ξ,⟨hz,hI,⟨_,_,hO⟩,hi1,hi2⟩,fun a Z=>?_,q⟩
 have U:s1.heap.objs.size<=a:=by simp only[qa5,qf4,or_false]at Z;rcases Z with rfl|rfl|rfl|rfl|rfl<;>first|exact ze9 _ _|exact nL _
 exact W.fpOk U (W.hok.fresh U)
def iY:η Dt->η Dt->η Dt
 |d::l,e::m=>.t [d,e]::iY l m
 |_,_=>[]
theorem o4:∀(l m:η Dt),(iY l m).length=min l.length m.length
 |[],m=>by simp[iY]
 |_::_,[]=>by simp[iY]
 |d::l,e::m=>by simp[iY,o4 l m]
theorem o5:∀{l m:η Dt}{k:Nat}{d e:Dt},l[k]?=ς d->m[k]?=ς e->(iY l m)[k]?=ς (.t [d,e])
 |[],m,k,d,e,h,_=>by simp at h
 |_::_,[],k,d,e,_,h=>by simp at h
 |a::l,b::m,0,d,e,h,h'=>by simp at h h';simp[iY,h,h']
 |a::l,b::m,k+1,d,e,h,h'=>by simp only[iY,qk7];exact o5 (by simpa using h) (by simpa using h')
def Aa:Dt->ζ (Bool×η Dt)
 |.e l=>ς (θ,l)
 |.t l=>ς (ξ,l)
 |_=>ψ
def wN:η Dt->ζ (η Dt)
 |[d,e]=>(Aa d).bind fun p=>(Aa e).map fun q=>iY p.2 q.2
 |_=>ψ
theorem sx{F:Hp}{d:Dt}{p:Bool×η Dt}(r:Rep K F d v)(h:Aa d=ς p):∃a xs,v=.ref a/\Reps K F p.2 xs/\∀H,Same F H->SqB p.1 K H a xs:=by
 unfold Aa at h;split at h<;>first|(cases h;done)|skip
 .cases h;simp only[Rep]at r;obtain⟨a,xs,rfl,h1,h2⟩:=r;exact⟨a,xs,rfl,h2,fun H s=>s.seq h1⟩
 .cases h;simp only[Rep]at r;obtain⟨a,xs,rfl,h1,h2⟩:=r;exact⟨a,xs,rfl,h2,fun H s=>s.tup h1⟩
theorem wO{F:Hp}{c:Bool}{Y:J9}{xs:η V}{m:η Dt}(r:Reps K F l xs)(r':Reps K F m ys):oN K F (Itz b c K a Y) (iY l m) (fun H=>SqB b K H a xs/\SqB c K H Y ys):=fun i H F2 U Z ff=>by have hl:=r.length;have hm:=r'.length;rw[o4];refine⟨fun h=>⟨xs,ys,xs[i],ys[i],U.1,U.2,by simp[show i<xs.length by lia],by simp[show i<ys.length by lia]⟩,fun h=>⟨xs,ys,U.1,U.2,Θ⟩,fun x H' hi W=>?_⟩;obtain⟨t,v,u,ht,rfl,rfl,hv⟩:=W;obtain⟨hx,W⟩:=hv xs ys U.1 U.2;obtain⟨d,hd,rd⟩:=r.same_get hx;obtain⟨e,he,re⟩:=r'.same_get W;have up:=Same.upd (o:=.t [v,u]) (Z.free ht);exact⟨_,upd F2 t (.t [v,u]),o5 hd he,Step.new Z ht,o0 aw ((rd.same ff).same up) ((re.same ff).same up)⟩
theorem Dv (h:aB sc "zip"=θ) (hm:X.mg "zip"=ψ) (ha:DA X [x,y] fs) (e1:bN X sc:=by rfl) (hs:qa8 [x,y] X.env=[(ξ,eval x X.env),(ξ,eval y X.env)]:=by rfl) (Z:qa8 [y] X.env=[(ξ,eval y X.env)]:=by rfl) :
  DIF X (.Tuple elts n tpos) (.Call (.Name "zip" p) [x,y] [] pos) (bQ wN fs):=PI.mono (Du h hm ha.pa e1 hs Z) fun σ H R ⟨Φ,δ,F,ds,hK,en,U,k⟩=>by
 unfold bQ at U;obtain⟨as,hd,U⟩:=bS U;refine⟨Φ,δ,F,as,hK,en,hd,fun vs H' F' st r=>?_⟩;unfold wN at U;split at U<;>first|(cases U;done)|skip
 obtain⟨p1,W,U⟩:=bS U;obtain⟨p2,Y,U⟩:=mS U;cases U;simp only[Reps]at r;obtain⟨v,ws,rfl,r1,w',us,rfl,r2,rfl⟩:=r;obtain⟨a,xs,rfl,q1,s1⟩:=sx r1 W;obtain⟨a',ys,rfl,q2,s2⟩:=sx r2 Y;exact⟨p1.1,p2.1,a,a',xs,ys,rfl,s1 _ st.fh,s2 _ st.fh,k _ _ H' F' st (wO q1 q2) fun H2 s=>⟨s1 _ s,s2 _ s⟩⟩
end
section
variable{X:Cx}{o a b e c:Jc}{es:η Jc}{fa fb fo fe:De->ζ Dt}{fs:De->ζ (η Dt)}{pos apos cpos p:Pos}{i:Nat}
end
section
variable{X:Cx}{e:Jc}{es:η Jc}{fs:De->ζ (η Dt)}{pos p:Pos}{x:Str}{sc:Jd}
end
def Ab(P:qc5)(w:Ja)(K:xA9)(mg:Str->ζ Value)(x:Str)(ks:η Key)(l:η Dt):Prop:=∃(a:J9)(J6:η (Key×V))(vs:η (Key×Value)),mg x=ς (.ref a)/\(a==qk8)=ξ/\J6.map (·.1)=ks/\(∀F,Reps K F l (J6.map (·.2)))/\KV J6 vs/\∀h:Heap,K.In h->h.DictOf (aE P w) a vs
def gSg(ks:η Key)(l:η Dt):Dt->ζ T:=fun k=>(nn k).bind fun k=>(cg ks l k).map .f
def vSg(ks:η Key)(l:η Dt)(f:De->ζ Dt):De->ζ T:=fun δ=>(f δ).bind (gSg ks l)
def gSi(neg:Bool)(ks:η Key)(l:η Dt):Dt->ζ Bool:=fun k=>(nn k).map fun k=>if neg then !(cg ks l k).isSome else(cg ks l k).isSome
def fSi(neg:Bool)(ks:η Key)(l:η Dt)(f:De->ζ Dt):De->ζ Bool:=fun δ=>(f δ).bind (gSi neg ks l)
variable{J6:η (Key×V)}
section
variable{X:Cx}{b:Jc}{fb:De->ζ Dt}{pos p:Pos}{x:Str}{sc:Jd}{ks:η Key}{l:η Dt}
def tSg(J6:η (Key×V))(ty:TE):TE:=fun σ H Q=>ty σ H fun y H1=>∃k v,y=kV k/\eO J6 k=ς v/\Q v H1
def tSi(neg:Bool)(J6:η (Key×V))(ty:TE):TE:=fun σ H Q=>ty σ H fun y H1=>∃k,y=kV k/\Q (.bl (if neg then !(eO J6 k).isSome else(eO J6 k).isSome)) H1
theorem FO {vs:η (Key×Value)} {ty:TE} (h:aB sc x=θ) (hg:X.mg x=ς (.ref a)) (U:KV J6 vs) (hD:∀ h:Heap,X.K.In h->h.DictOf (aE X.prog X.w) a vs) (hb:PE X b ty) (hn:uc b) (e1:bN X sc:=by rfl) :
  PE X (.Subscript (.Name x p) b pos) (tSg J6 ty):=by
 intro J1 s σ H Q I q;have hx:PE X (.Name x p) (tC (.ref a)):=ki h ⟨_,hg,rfl⟩ e1;refine r0 PySem.F.slot_dict_getitem.lookup hn (thn (hx J1 s σ H (fun y H1=>y=.ref a/\tSg J6 ty σ H1 Q) I ⟨rfl,q⟩) fun u s1 ⟨y0,H1,I1,rx,e0,q1⟩=>thn (hb J1 s1 σ H1 _ I1 q1) fun iv s2 ⟨y,H2,Y,ry,k,v,ey,hv,q2⟩=>?_);subst e0 ey;obtain rfl:u=qf3 a:=rx;have Z:=hD _ Y.kIn;obtain⟨w',hw,W⟩:=RelO.some_of (v:=v) (o:=zj4 vs k) (by rw[<- hv];exact U.val k);exact⟨Z.typeIs,wpAny_getItem_of (jh ry) Z.mapOf hw ⟨v,H2,Y.tok _,W,q2⟩⟩
theorem Dw {vs:η (Key×Value)} {ty:TE} (h:aB sc x=θ) (hg:X.mg x=ς (.ref a)) (hs:(a==qk8)=ξ) (U:KV J6 vs) (Y:∀ h:Heap,X.K.In h->h.DictOf (aE X.prog X.w) a vs) (hb:PE X b ty) (e1:bN X sc:=by rfl) :
  PC X .NotIn b (.Name x p) (tSi θ J6 ty):=by
 intro J1 s σ H Q I q;have hx:PE X (.Name x p) (tC (.ref a)):=ki h ⟨_,hg,rfl⟩ e1;refine thn (hb J1 s σ H _ I q) fun iv s1 ⟨y,H1,I1,ry,k,Z,q1⟩=>thn (hx J1 s1 σ H1 (fun y H2=>y=.ref a/\Q (.bl (!(eO J6 k).isSome)) H2) I1 ⟨rfl,q1⟩) fun u s2 ⟨y0,H2,W,rx,e0,q2⟩=>?_
 subst e0 Z;obtain rfl:u=qf3 a:=rx;have dd:=Y _ W.kIn;refine wpAny_notIn_of (jh ry) hs dd.mapOf ?_;rw[<- (U.val k).isSome_eq];exact⟨.bl (!(eO J6 k).isSome),H2,W.tok _,rfl,q2⟩
theorem FP(h:aB sc x=θ)(hm:Ab X.prog X.w X.K X.mg x ks l)(hb:DB X b fb)(e1:bN X sc:=by rfl)(hn:uc b:=by exact fun _ _=>rfl):DO X (.Subscript (.Name x p) b pos) (vSg ks l fb):=by
 obtain⟨a,J6,vs,hg,hs,rfl,hR,W,hD⟩:=hm;refine PE.mono (FO h hg W hD hb hn e1) fun σ H Q ⟨Φ,δ,F,t,hK,en,U,k⟩=>?_
 unfold vSg at U;obtain⟨y,hy,U⟩:=bS U;obtain⟨kk,hk,U⟩:=bS U;obtain⟨d,Z,U⟩:=mS U;cases U;refine⟨Φ,δ,F,y,hK,en,hy,fun v H1 F1 st rv=>?_⟩;obtain⟨w,hw,Y⟩:=eX (hR F1) Z;exact⟨kk,w,fB rv hk,hw,(k.step st).leaf.here st.fh Y⟩
theorem FQ{neg:Bool}(hR:∀F,Reps K F l (J6.map (·.2))){Q:Bool->Hp->Prop}(h:tTr K (fSi neg (J6.map (·.1)) l fb) σ H Q):tSi neg J6 (tBd K fb) σ H (fun v H'=>∃c,v=.bl c/\Q c H'):=by obtain⟨Φ,δ,F,t,Y,W,U,k⟩:=h;unfold fSi at U;obtain⟨y,Z,U⟩:=bS U;obtain⟨kk,hk,U⟩:=mS U;subst U;refine⟨Φ,δ,F,y,Y,W,Z,fun v H1 F1 st rv=>⟨kk,fB rv hk,_,rfl,?_⟩⟩;rw[<- jP (hR F1)];exact k H1 F1 st
theorem Dx(h:aB sc x=θ)(hm:Ab X.prog X.w X.K X.mg x ks l)(hb:DB X b fb)(e1:bN X sc:=by rfl)(hk:qj4 .NotIn (.Name x p)=ξ:=by with_unfolding_all rfl):DT X (.Compare b [.NotIn] [.Name x p] pos) (fSi θ ks l fb):=by obtain⟨a,J6,vs,Y,hs,rfl,Z,U,W⟩:=hm;exact PT.mono (mP (Dw h Y hs U W hb e1) hk) fun σ H Q q=>FQ Z q
end
def sEnt(p:Params)(q:Str×Tok×V×Value):zm9:=⟨qm5 p q.1,.str q.1 q.2.1,q.2.2.2⟩
variable{x:Str}{o:Obj}{ep:Nat}
theorem Ac(rs:η (Str×Tok×V×Value))(hm:mg x=ς (.ref a))(hl:K.lookup a=ς o)(hc:o.ExactDict)(U:o.data=.dict (rs.map (sEnt w.params)).toArray ep)
 (hs:(a==qk8)=ξ) (Z:(rs.map (·.1)).Nodup) (W:∀r∈rs,RelV r.2.2.1 r.2.2.2) (Y:∀F,Reps K F l (rs.map (·.2.2.1))):Ab P w K mg x (rs.map fun r=>.inr r.1) l:=by
 refine⟨a,rs.map fun r=>(.inr r.1,r.2.2.1),rs.map fun r=>(.inr r.1,r.2.2.2),hm,hs,by rw[qc6];rfl,fun F=>by rw[qc6];exact Y F,?_,fun h X=>⟨o,_,ep,X a o hl,hc,U,?_,?_,?_⟩⟩
 .clear U Z Y;induction rs with
  |nil=>exact .nil
  |cons r rs ih=>exact .cons ⟨rfl,W r qe7⟩ (ih fun r hr=>W r (qd4 _ hr))
 .intro e he;obtain⟨r,_,rfl⟩:=qc8.mp (List.mem_toArray.mp he);exact⟨.inr r.1,fW P w r.1 r.2.1,rfl⟩
 .show Pairs (aE P w) (rs.map (sEnt w.params)) _;clear U Z Y W;induction rs with
  |nil=>exact .nil
  |cons r rs ih=>exact .cons (fW P w r.1 r.2.1) rfl ih
 .rw[qc6];have:(rs.map ((fun x:Key×Value=>x.1) ∘ fun r=>((qq2 r.1:Key),r.2.2.2)))=(rs.map (·.1)).map qq2:=by rw[qc6];rfl
  rw[this];exact List.Pairwise.map _ (fun a b h q=>h (qq2.inj q)) Z
variable{J8:Array Value}{ds:η Dt}
theorem cK{xs:η V}(hl:K.lookup a=ς o)(Y:o.cls=.type "tuple")(W:o.data=.seq J8 n)(U:Vals xs J8.toList)(Z:xs.length<=qb2){F:Hp}(hx:Reps K F ds xs):Rep K F (.t ds) (.ref a):=by simp only[Rep];exact⟨a,xs,rfl,.inr ⟨o,J8,n,hl,Y,W,by rw[<- qf1,<- U.length];exact Z,U⟩,hx⟩
theorem wP{xs:η V}(hm:mg x=ς (.ref a))(Z:K.lookup a=ς o)(W:o.cls=.type "tuple")(U:o.data=.seq J8 n)(hr:Vals xs J8.toList)(Y:xs.length<=qb2)(hx:∀F,Reps K F ds xs):iw K mg x (.t ds):=⟨.ref a,⟨_,hm,rfl⟩,fun F=>cK Z W U hr Y (hx F)⟩
inductive RepsI(K:xA9)(F:Hp):List Dt->List V->Prop
 |nil:RepsI K F [] []
 |cons {d:Dt} {v:V} {l:List Dt} {vs:List V}:Rep K F d v->RepsI K F l vs->RepsI K F (d::l) (v::vs)
theorem Ad{F:Hp}{vs:η V}(h:RepsI K F l vs):Reps K F l vs:=by
 induction h with
 |nil=>simp[Reps]
 |cons h _ U=>simp only[Reps];exact⟨_,_,rfl,h,U⟩
variable{y:Str}{py spos:Pos}
section
variable{X:Cx}{elt tg iter:Jc}{ifs:η Jc}{scope:Jd}{pos:Pos}{M:η Str}{src:η (ζ Nat)}{wi:TI}{g:TG}{tt:TT}{te:TE}
theorem Ae(hN:X.N.Nodup)(Z:X.N[i]?=ς y)(hx:Loc X.env.scope y)(hf:X.fn y=θ∨X.env.scope.names.lookup y=ς .local)
 (S:CmpScope X.N X.env.scope scope M src) (hc:X.calm=θ) (hi:PI X tg iter wi) (hg:M.Nodup->∀C s H ex,PG (cxC X M scope C s H ex) tg g) (ht:∀C s H ex,PTs (cxC X M scope C s H ex) ifs tt)
 (he:∀C s H ex,PE (cxC X M scope C s H ex) elt te) (hs:∀x,qi6 iter X.env x=pure x)
 (W:qo5 (.ListComp elt [⟨tg,iter,ifs,0⟩] scope pos) (ς (.Name y py)) spos.line X.env=pure θ) :
  PS X (.Assign [.Name y py] (.ListComp elt [⟨tg,iter,ifs,0⟩] scope pos) spos) (zi (lV src wi g tt te) (hW i)):=by
 intro J1 s σ H D I h;rw[exec_Assign_Name_used _ _ _ _ W];refine wB (zj8 (wB ?_));show wpAny _ X.A (do let _ <- zk5 (.ListComp elt [⟨tg,iter,ifs,0⟩] scope pos) scope X.env _ (newList []) ξ (eval iter X.env) (ς (zb4 (.Name y py) X.env))) _ _ s;refine wB (ql9 (lW (use:=ς (zb4 (.Name y py) X.env)) (QQ:=fun _ s'=>∃U H',Inv X J1 U H' s'/\D.nx U H') S hc hi hg ht he hs I h ?_) (fun _ s' hq=>qa2 (qa2 hq)) fun _ _ e=>e);intro Dd C H' s' m IA Y hn q;show wpAny _ X.A (zb4 (.Name y py) X.env (.ref Dd)) _ _ s';refine wpAny_assign_Name (lJ IA hN Z hx (v:=.ref Dd) rfl (fun s2 I2 hsb=>?_) hf);obtain⟨a,sb,ha⟩:=hsb
 have ne:C≠a:=by
  rcases ha with rfl|ha
  .exact Y.2.1
  .exact qh5 (Y.2.2.2.2.1 y a ha)
 exact⟨m,hn.sameBut sb ne,fun h3 sb3=>⟨_,H',I2.but Y sb3,q⟩⟩
end
variable{sc:Jd}
section
variable{X:Cx}{elt tg iter:Jc}{ifs:η Jc}{scope:Jd}{pos:Pos}{M:η Str}{src:η (ζ Nat)}{fi:De->ζ (η Dt)}{ft:De->ζ Bool}{fe:De->ζ Dt}{i:Nat}
theorem Dy{f:De->ζ T}{Q:VK}(h:tO K (toT (toD f)) σ H Q):tO K f σ H Q:=by obtain⟨Φ,δ,F,t,Y,W,hf,k⟩:=h;obtain⟨d,U,rfl⟩:=mS hf;obtain⟨u,Z,U⟩:=bS U;exact⟨Φ,δ,F,u,Y,W,Z,KL.to U k.leaf⟩
theorem kw{ts:η Nat}{bb:Dt->De->ζ De}(h:dl sc N i y=θ)(hl:iT sc y=θ)(nd:N.Nodup)(S:CmpScope X.N X.env.scope scope M src)(hc:X.calm=θ)(hi:DIB X tg iter fi)(hg:M.Nodup->∀C s H ex,DG (cxC X M scope C s H ex) tg ts bb)
 (ht:∀C s H ex,DTs (cxC X M scope C s H ex) ifs ft) (he:∀C s H ex,DL (cxC X M scope C s H ex) elt fe) (Y:(ts.all fun k=>decide (src[k]?=ς ψ))=θ) (Z:∀x,qi6 iter X.env x=pure x:=by intro _;rfl)
 (e1:bN X sc:=by rfl) (e2:X.N=N:=by rfl) (hf:X.fn y=θ∨X.env.scope.names.lookup y=ς .local:=by exact .inl rfl) (W:qo5 (.ListComp elt [⟨tg,iter,ifs,0⟩] scope pos) (ς (.Name y py)) spos.line X.env=pure θ:=by rfl) :
  DS1 X (.Assign [.Name y py] (.ListComp elt [⟨tg,iter,ifs,0⟩] scope pos) spos) (al i (toT (toD (aH src fi bb ft fe)))):=by
 have e1:X.env.scope=sc:=e1;subst e1 e2;refine PS.mono (Ae (g:=gD X.K ts bb) (tt:=tTr X.K ft) (te:=tL X.K fe) nd (gO h) (kg hl) hf S hc hi (fun nd C s H ex=>hg nd C s H ex) (fun C s H ex=>ht C s H ex) (fun C s H ex=>he C s H ex) Z W) fun D σ H ⟨Φ,δ,F,o,hK,en,U,k⟩=>?_
 unfold al at U;obtain⟨t,ht',U⟩:=mS U;cases U;exact sr S Y σ H _ (Dy ⟨Φ,δ,F,t,hK,en,ht',fun v H' F' S st o Z=>k _ F' H' (en.put st (hK▸o) Z i)⟩)
end
def kx(x:Str)(n:Int):Str:=if n<1 then Str.empty else if(n==1||x.length==0)=θ then x else⟨(qb9 n.toNat x.cps).foldl (· ++ ·) #[]⟩
def Dz(neg:Bool):Dt->Dt->ζ T
 |.bl a,.bl b=>ς (.f (.bl (if neg then !decide (a=b)else decide (a=b))))
 |_,_=>ψ
section
variable{X:Cx}
theorem uy:OpR X (qh8 .IsNot) (fun x y H Q=>∃a b,x=.bl a/\y=.bl b/\Q (.bl (!decide (a=b))) H):=by intro J1 s σ H x y v u Q I U W h;obtain⟨a,b,rfl,rfl,q⟩:=h;cases U;cases W;refine wpAny_isNot_plain rfl (aK I q ?_);cases a<;>cases b<;>rfl
theorem wQ:R2D K (fun x y H Q=>∃a b,x=.bl a/\y=.bl b/\Q (.bl (!decide (a=b))) H) (Dz θ):=by
 intro F H x y vx vy Q t Z W Y U k;unfold Dz at U;split at U<;>first|(cases U;done)|skip
 cases U;cases W;cases Y;exact⟨_,_,rfl,rfl,k.bl Z⟩
def o6(K:xA9):R2:=fun x y H Q=>∃a b ys,x=.ref a/\y=.ref b/\SqT K H a []/\SqT K H b ys/\Q (.ref b) H
def Af:OpR X (qm9 .Add) (o6 X.K):=by
 intro J1 s σ H x y v u Q I rx ry h;obtain⟨a,b,ys,rfl,rfl,ha,hb,q⟩:=h;cases rx;cases ry;obtain⟨J8,r1,p1,_⟩:=I.tuple ha;obtain⟨W,r2,p2,_⟩:=I.tuple hb;cases r1;obtain⟨⟨cls,dd,data,sl⟩,ho,hc,n,hd⟩:=id p1;obtain⟨⟨cls2,dd2,data2,sl2⟩,Y,Z,n2,U⟩:=id p2;simp only at hc hd Z U;subst hc hd Z U
 exact za5 ⟨_,ho,rfl⟩ ⟨_,Y,rfl⟩ qw7 zc9 PySem.F.slot_tuple_add PySem.F.entry_tuple_add (PySem.F.args_tuple_add_2 _ _)
  (tuple_addW0 a b #[] W.toArray n n2 dd dd2 sl sl2 rfl) ⟨ho,Y,⟨.ref b,H,I,rfl,q⟩⟩
def wR:Dt->Dt->ζ T
 |.t [],.t m=>ς (.f (.t m))
 |.t (d::l),.t (e::m)=>aI (.t (d::l)) (.t (e::m))
 |_,_=>ψ
theorem Ag:OpR X (qm9 .Add) (fun x y H Q=>o6 X.K x y H Q∨l6 X.K x y H Q):=OpR.or Af ev
theorem DC:R2D K (fun x y H Q=>o6 K x y H Q∨l6 K x y H Q) wR:=by
 intro F H x y vx vy Q t W Y Z U k;unfold wR at U;split at U<;>first|(cases U;done)|skip
 .rename_i m;cases U;obtain⟨a,vs,rfl,h1,h2⟩:=Y;obtain⟨b,ws,rfl,h3,h4⟩:=Z;simp only[Reps]at h2;subst h2;refine .inl ⟨a,b,ws,rfl,rfl,W.tup h1,W.tup h3,k.leaf.here W ?_⟩;simp only[Rep];exact⟨b,ws,rfl,h3,h4⟩
 .exact .inr (jp F H _ _ vx vy Q t W Y Z U k)
end
section
variable{X:Cx}{pos:Pos}{k v:Jc}{ks:η (ζ Jc)}{vs:η Jc}{fk fv:De->ζ Dt}{g:De->ζ (η (Key×Dt))}
end
theorem Ah{k:Key}(h:(aE P w).is k u=θ):RelV (kV k) u:=by
 rcases bx (show j1 k u=θ from h)with ⟨i,t,rfl,rfl⟩|⟨x,t,rfl,rfl⟩
 .exact⟨t,rfl⟩
 .exact⟨t,rfl⟩
section
variable{X:Cx}
end
def cB(sc:Jd)(N:η Str):Bool:=(qb7 N.length).all fun i=>match N[i]? with
 |some x=>dl sc N i x&&iT sc x
 |none=>ξ
theorem nsB(h:cB sc N=θ)(e:N[i]?=ς x):dl sc N i x=θ/\iT sc x=θ:=by have h1:=qk9.mp h i (qd8.mpr (gX e).1);rw[e]at h1;exact qx4.mp h1
theorem nsN(h:cB sc N=θ)(i:Nat)(e:N[i]?=ς x:=by rfl):dl sc N i x=θ:=(nsB h e).1
theorem nsL(h:cB sc N=θ)(i:Nat)(e:N[i]?=ς x:=by rfl):iT sc x=θ:=(nsB h e).2
variable{X:Cx}
theorem pvN(i:Nat)(h:cB sc N=θ)(e:N[i]?=ς x:=by rfl)(e1:bN X sc:=by rfl)(U:X.N=N:=by rfl):PE X (.Name x pos) (fT i):=pvD i (nsN h i e) e1 U
def gMin:η Dt->ζ T
 |[.int i,.int j]=>ς (.f (.int (if j<i then j else i)))
 |_=>ψ
def o7:Key->Dt
 |.inl i=>.int i
 |.inr x=>.str x
def Ai{F:Hp}(k:Key):Rep K F (o7 k) (kV k):=by
 cases k with
 |inl i=>exact fq
 |inr x=>exact io
def BC(i j:Int):Prop:=0<j/\j<18446744073709551616
theorem wS:OpR X (qm9 .FloorDiv) (rI BC fun i j=>.int (i/j)):=opI fun i j _ _ _ _ _ U q=>by
 have h1:(0:Int)<j:=U.1;have h2:j<18446744073709551616:=U.2;refine floordiv_int Θ (by rw[Int.fdiv_eq_ediv_of_nonneg i Θ];exact q) (.inl (PyProof.noPylong_of_log2 ?_));have h3:j.natAbs≠0:=by lia
 exact qp6 ((Nat.log2_lt h3).mpr (show j.natAbs<2^64 by lia)) Ω
def jq:Dt->Dt->ζ T
 |.int i,.int j=>if 0<j/\j<18446744073709551616 then ς (.f (.int (i/j)))else ψ
 |_,_=>ψ
def DD:R2D K (rI BC fun i j=>.int (i/j)) jq:=by
 intro F H x y vx vy Q t Z W Y U k;unfold jq at U;split at U<;>first|(cases U;done)|skip
 split at U
 .rename_i hc;cases U;cases W;cases Y;exact⟨_,_,rfl,rfl,hc,k.int Z⟩
 .cases U
abbrev Orc:=J9->Hp->η Dt->ζ T
def wT(P:qc5)(w:Ja)(K:xA9)(mg:Str->ζ Value)(base:Heap)(kk:Nat)(H:Hp)(G:Orc):Prop:=∀(f:J9)(F0:Hp)(ds:η Dt)(t:T),G f F0 ds=ς t→
 (∃fo uf fd,H f=ς (.frz fo uf)/\fo.data=.func fd)/\∀(A:qe1)(outer:η Env)(s:qa3)(H' F:Hp)(us:η Value)(vs:η V)(Q:VK),Room kk A->(∀b o u,H b=ς (.frz o u)->H' b=ς (.frz o u))->Env0 P w K mg base A outer s H'->Same F0 F->Same F H'->Vals vs us->Reps K F ds vs->KO K F H' t Q→
  qq7 (model P w) A (.call (.ref f) ⟨us,[]⟩) (CR CX0 outer P w H' s Q E0) s
def vCl(G:Orc)(i:Nat)(fs:De->ζ (η Dt)):De->ζ T:=fun δ=>match δ[i]? with
 |some (ς (.fn a F0))=>(fs δ).bind (G a F0)
 |_=>ψ
section
variable{X:Cx}{e:Jc}{es:η Jc}{fs:De->ζ (η Dt)}{p pos:Pos}{x:Str}{i kk:Nat}{G:Orc}
theorem sy (hx:PE X (.Name x p) (fT i)) (hG:wT X.prog X.w X.K X.mg X.base kk X.H₀ G) (hr:Room kk X.A) (ha:DA X (e::es) fs)
  (he:qa8 (e::es) X.env=(ξ,eval e X.env)::qa8 es X.env:=by rfl) (hpl:(ql8 pos (qa8 es X.env)).any (·.1)=ξ:=by rfl):DO X (.Call (.Name x p) (e::es) [] pos) (vCl G i fs):=by
 intro J1 s σ H Q I h;obtain⟨Φ,δ,F,t,hK,en,hf,k⟩:=h;unfold vCl at hf;split at hf<;>first|(cases hf;done)|skip
 rename_i a F0 hi;obtain⟨ds,hd,ht⟩:=bS hf;obtain⟨v,hv⟩:=en.has i _ hi;obtain⟨S,sp⟩:=en.sep;obtain⟨rfl,hF0⟩:=sp.own i _ _ (aR hi hv);obtain⟨⟨fo,uf,fd,g1,g2⟩,run⟩:=hG a F0 ds t ht
 have U:∀{J1:η (J9×Obj)}{σ:St}{H:Hp}{s:qa3},Inv X J1 σ H s->PySem.W.FnAt a s.heap:=fun {J1 σ H s} J=>by have e1:=(J.hok a _ (J.base.frzs a fo uf g1)).1;obtain⟨oc,od,dt,sl⟩:=fo;cases (show dt=.func fd from g2);exact⟨oc,od,fd,sl,e1⟩
 refine qq5 (thn (hx J1 s σ H (fun v H'=>v=.ref a/\H'=H) I ⟨.ref a,hv,rfl,rfl⟩) fun u s1 h1=>?_);obtain⟨v1,H1,I1,r1,rfl,rfl⟩:=h1;cases r1;refine PySem.W.callWith_F (U I1) (thn (ha.pa pos J1 s1 σ _ (fun vs H'=>∃F',Step F _ F' H'/\Reps X.K F' ds vs) I1 ⟨Φ,δ,F,ds,hK,en,hd,fun vs H' F' st r=>⟨F',st,r⟩⟩) fun us s2 h2=>?_) he hpl;obtain⟨vs,H2,Z,r2,F2,st,rc⟩:=h2;refine⟨U Z,zl2 (qt9 (run X.A X.stack s2 H2 F2 us vs Q hr (fun b o u z=>Z.base.frzs b o u z) Z.env0 (hF0.trans st.ff) st.fh r2 rc (k.step st)) fun r s' Y=>?_)⟩;cases r with
 |error e=>exact Y.elim
 |ok fl=>
  cases fl with
  |ret u=>exact Z.after Y
  |next=>exact qg9 Y
  |brk=>exact qg9 Y
  |cont=>exact qg9 Y
end
def deR(m:Nat)(d:Dt)(f1 f2:J9)(F0:Hp):De:=ς (.f d)::ς (.fn f1 F0)::ς (.fn f2 F0)::qb9 (m-3) ψ
def uz(m:Nat)(g:De->ζ Out)(d:Dt)(f1 f2:J9)(F0:Hp):ζ T:=match g (deR m d f1 f2 F0)with
 |some (.rt t)=>ς t
 |some (.nx _)=>ς (.f .non)
 |_=>ψ
def spR(P:qc5)(w:Ja)(K:xA9)(mg:Str->ζ Value)(base:Heap)(kk:Nat)(FR:Orc->Dt->J9->J9->Hp->ζ T):Sp:=fun vs H Q _=>∃G F d f1 f2 t v,wT P w K mg base kk H G/\Same F H/\vs=[v,.ref f1,.ref f2]/\Rep K F d v/\FR G d f1 f2 F=ς t/\KO K F H t Q
variable{f1 f2:J9}
theorem mh{F:Hp}{d:Dt}(Y:Same F H)(r:Rep K F d v):En ⟨K,F,H,fun _=>False⟩ (deR N.length d f1 f2 F) (start N [v,.ref f1,.ref f2]) F H:=by
 have W:∀(i:Nat)(t:T),(deR N.length d f1 f2 F)[i]?=ς (ς t)->∃U,(start N [v,.ref f1,.ref f2])[i]?=ς (ς U)/\Own K F H t U fun _=>False:=fun i t h=>by
  unfold deR at h
  match i with
  |0=>cases h;exact⟨v,rfl,r⟩
  |1=>cases h;exact⟨_,rfl,rfl,Same.refl _⟩
  |2=>cases h;exact⟨_,rfl,rfl,Same.refl _⟩
  |i+3=>rw[qk7,qk7,qk7,qm1]at h;split at h<;>cases h
 refine⟨Y,fun b o h _=>h,Same.refl _,fun b o h=>.inl h,by simp[start,deR],fun i t h=>?_,fun _ _=>False,fun i t U h=>?_,fun _ _ z=>z.elim,fun _ _ _ z=>z.elim⟩
 .obtain⟨U,e,_⟩:=W i t h;exact⟨U,e⟩
 .obtain⟨h1,h2⟩:=cb h;obtain⟨w,e,o⟩:=W i t h1;rw[h2]at e;cases e;exact o
variable{ps:η Str}{kk:Nat}
section
variable{P:qc5}{w:Ja}{K:xA9}{mg:Str->ζ Value}{base:Heap}
theorem DE{k:Nat}{g:Orc->De->ζ Out}(D:DefF K mg x st ps)(S:FnScope N ps (ab st))(hn:ps.length=3)
 (U:∀(f:J9)(cdv:Value)(A:qe1)(outer:η Env)(s:qa3)(H:Hp)(E:XK),Room k (A.deeper (zb5 x (ab st) s.heap.objs.size f cdv))->∀G:Orc,wT P w K mg base kk H G->DS (j5 CX0 P w K mg base N x (ab st) f cdv A outer s H E).nox (aF st) (g G)) :
  OkF P w K mg base x (k+1) ps (spR P w K mg base kk fun G=>uz N.length (g G)):=by
 refine D.ok S (fun vs H Q E h=>?_) (fun f cdv A outer s H vs Q E hr h=>?_)
 .obtain⟨G,F,d,f1,f2,t,v,_,_,rfl,_⟩:=h;exact hn.symm
 .obtain⟨G,F,d,f1,f2,t,v,Z,Y,rfl,r,W,kq⟩:=h;refine⟨_,U f cdv A outer s H E hr G Z,?_⟩;unfold uz at W;dsimp only at W;split at W
  .rename_i t' q;cases W;exact⟨⟨K,F,H,fun _=>False⟩,_,F,_,rfl,mh Y r,q,fun v F' H' z=>z.step kq⟩
  .rename_i δ' q;cases W;exact⟨⟨K,F,H,fun _=>False⟩,_,F,_,rfl,mh Y r,q,fun σ' F' H' z=>(z.rt (Step.refl z.fh) (t:=.f .non) (S:=fun _=>False) (ip (K:=K) (F:=F')) fun _ y=>y.elim).step kq⟩
  .cases W
end
section
variable{X:Cx}{x:Str}{p pos:Pos}{e:Jc}{es:η Jc}{t:TA}{f:J9}{fd:qr5}{ps:η Str}{sp:Sp}{k:Nat}
def DF(X:Cx)(sp:Sp)(t:TA):TE:=fun σ H Q=>t σ H fun vs H1=>∀H',PlusC X σ H1 H'->sp vs H' (fun v H2=>(∀c,bp X c->H2 c=H' c)->Q v (jn X H2)) E0
theorem wU(I:Inv X J1 σ H s)(W:∀x,X.fn x=θ):∀b,bp X b->b∉frs X.stack/\∀o,X.base.get? b≠ς o:=fun b ⟨x,Y⟩=>by
 have U:=I.ok.cab x b (W x) Y;refine⟨fun z=>?_,fun o e=>?_⟩
 .rcases qa5.mp (I.stkSub b z)with y|y
  .exact I.cne x b Y y
  .obtain⟨_,o,Z,_⟩:=I.ok.funs.mem y;exact absurd (qb0 Z) (qy5.mpr U)
 .exact absurd (qc2 (qb0 e) I.ok.bsz) (qy5.mpr U)
theorem wV (F:FnOk X.prog X.w X.K X.mg X.base CX0 k f fd ps sp) (hr:Room k X.A) (hg:Gl X x) (hm:X.mg x=ς (.ref f)) (hk:xF9 X.K (.ref f)=θ) (hb:Binds X.K fd ps []) (hfn:∀ x,X.fn x=θ)
  (ha:PA X (e::es) t) (Z:(x==("__debug__":Str))=ξ:=by decide) (he:qa8 (e::es) X.env=(ξ,eval e X.env)::qa8 es X.env:=by rfl) (hpl:(ql8 pos (qa8 es X.env)).any (·.1)=ξ:=by rfl) :
  PE X (.Call (.Name x p) (e::es) [] pos) (DF X sp t):=by
 intro J1 s σ H Q I h;refine qq5 (mO I hg hm ?_ Z);refine PySem.W.callWith_K (h₀:=X.base) I.ok.mod.kin hk (thn (ha pos J1 s σ H _ I h) fun us s1 ⟨vs,H1,Y,r,q⟩=>⟨Y.kIn,?_⟩) he hpl;obtain⟨H',pc,e0⟩:=zQ Y (wU Y hfn);have hs:=q H' pc;have hl:(us++[]).length=ps.length:=by rw[qh0,<- r.length];exact F.len _ _ _ _ hs
 refine zl2 (qt9 (F.run X.A X.stack s1 H' ⟨us,[]⟩ (us++[]) vs _ E0 hr e0 (hb s1 us Y.kIn hl) (by rw[qh0];exact r) hs) fun r s' U=>?_);cases r with
 |error e=>exact U.elim
 |ok fl=>
  cases fl with
  |ret u=>exact Y.afterP pc e0.hok U
  |next=>exact qg9 U
  |brk=>exact qg9 U
  |cont=>exact qg9 U
end
open Classical in
def uA(f1 f2:J9)(F1:Hp)(g1 g2:η Dt->ζ T):Orc:=fun a F0 ds=>if a=f1/\F0=F1/\ds.length=1 then g1 ds else if a=f2/\F0=F1/\ds.length=1 then g2 ds else ψ
variable{F1:Hp}{g2:η Dt->ζ T}
theorem DH{g1:η Dt->ζ T}{d:Dt}:uA f1 f2 F1 g1 g2 f1 F1 [d]=g1 [d]:=if_pos ⟨rfl,rfl,rfl⟩
theorem DI{g1:η Dt->ζ T}{d:Dt}(h:f1≠f2):uA f1 f2 F1 g1 g2 f2 F1 [d]=g2 [d]:=(if_neg fun z=>h z.1.symm).trans (if_pos ⟨rfl,rfl,rfl⟩)
def FnIn(H:Hp)(f:J9)(name qual:Str)(params:ql1)(body:η Jb)(scope:Jd)(cl:η (Str×J9)):Prop:=∃fo uf c' doc pm ctv,H f=ς (.frz fo uf)/\fo.data=.func (xG9 name qual params body scope cl .none .none doc pm ψ (.ref c') ctv)/\∃oc,H c'=ς (.frz oc (.code qual))
variable{f:J9}{qual:Str}{params:ql1}{body:η Jb}{scope:Jd}
theorem FnIn.up{name:Str}{cl:η (Str×J9)}(h:FnIn H f name qual params body scope cl)(s:∀b o u,H b=ς (.frz o u)->H' b=ς (.frz o u)):FnIn H' f name qual params body scope cl:=by obtain⟨fo,uf,c',doc,pm,ctv,h1,h2,oc,h3⟩:=h;exact⟨fo,uf,c',doc,pm,ctv,s _ _ _ h1,h2,oc,s _ _ _ h3⟩
def fC(δ:De):η Nat->ζ (η Dt)
 |[]=>ς []
 |j::js=>match δ[j]? with
  |some (ς (.f d))=>(fC δ js).map (d::·)
  |_=>ψ
structure NestD(X:Cx)(name qual:Str)(params:ql1)(body:List Jb)(scope:Jd)(N ps fr:List Str)(js:List Nat)(g:De->Option Out)(kk:Nat):Prop where
 S:ClScope N ps fr scope
 ndn:∀x,∀y∈scope.names,y.1=x->scope.names.lookup x=ς y.2
 one:ps.length=1
 fre:∀x∈scope.names,x.2=.free->X.env.kindOf x.1=ς .cell
 jl:js.length=fr.length
 nm:∀(i j:Nat)(x:Str),fr[i]?=ς x->js[i]?=ς j->X.N[j]?=ς x/\X.env.kindOf x=ς .cell
 bd:∀(s:qa3)(cl:List (Str×J9))(doc pm ctv cd:Value)(us:List Value),us.length=ps.length->zc8 s (xG9 name qual params body scope cl .none .none doc pm ψ cd ctv) ⟨us,[]⟩ (ps.zip us)
 body:∀(f c':J9)(cl:List (Str×J9))(A:qe1)(outer:List Env)(s:qa3)(H:Hp),Room kk (A.deeper (ic qual scope s.heap.objs.size f (.ref c') cl))->DS (oI CX0 X.prog X.w X.K X.mg X.base N qual scope f (.ref c') cl A outer s H E0 fun _ _=>False) body g
variable{names:η (Str×qq6)}{cells:η (Str×J9)}{js:η Nat}{g:De->ζ Out}
section
variable{X:Cx}
theorem kz{c:J9}(h:(x,c)∈fU names cells):(x,qe9)∈names/\c=(cells.lookup x).getD 0:=by
 have W:∀(names:η (Str×qq6))(J5:η (Str×J9)),(x,c)∈names.foldl (fun cs U=>if U.2==qe9 then(U.1,(cells.lookup U.1).getD 0)::cs else cs) J5->(x,c)∈J5∨((x,qe9)∈names/\c=(cells.lookup x).getD 0):=fun names=>by
  induction names with
  |nil=>intro J5 h;exact .inl h
  |cons y r Y=>
   intro J5 h;rw[qi4]at h;rcases Y _ h with z|z
   .split at z
    .rename_i hk;rcases qa5.mp z with e|z
     .obtain⟨a,k⟩:=y;cases e;have hk:k=qe9:=by simpa using hk
      subst hk;exact .inr ⟨.head _,rfl⟩
     .exact .inl z
    .exact .inl z
   .exact .inr ⟨.tail _ z.1,z.2⟩
 rcases W names [] h with z|z
 .cases z
 .exact z
theorem uB(h:(x,qe9)∈names):∃c,(fU names cells).lookup x=ς c:=by
 have W:∀(names:η (Str×qq6))(J5:η (Str×J9)),((x,qe9)∈names∨∃c,J5.lookup x=ς c)->∃c,(names.foldl (fun cs U=>if U.2==qe9 then(U.1,(cells.lookup U.1).getD 0)::cs else cs) J5).lookup x=ς c:=fun names=>by
  induction names with
  |nil=>
   intro J5 h;rcases h with h|h
   .cases h
   .exact h
  |cons y r Y=>
   intro J5 h;rw[qi4];refine Y _ ?_;rcases h with h|⟨c,h⟩
   .rcases qa5.mp h with e|h
    .subst e;right;simp
    .exact .inl h
   .right;split
    .rw[qh1];cases x==y.1 with
     |true=>exact⟨_,rfl⟩
     |false=>exact⟨c,h⟩
    .exact⟨c,h⟩
 exact W names [] (.inl h)
theorem kA{F:Hp}(W:En Φ δ σ F H):∀{js:η Nat}{caps:η Dt},fC δ js=ς caps->∃fs:η V,Reps Φ.K F caps fs/\fs.length=js.length/\∀(i j:Nat)(v:V),js[i]?=ς j->fs[i]?=ς v->σ[j]?=ς (ς v)
 |[],caps,h=>by cases h;exact⟨[],by simp only[Reps],rfl,fun i j v h=>by simp at h⟩
 |j::js,caps,h=>by
  simp only[fC]at h;split at h<;>first|(cases h;done)|skip
  rename_i d Y;obtain⟨cs,U,rfl⟩:=mS h;obtain⟨v,Z,rv⟩:=W.leaf Y;obtain⟨fs,h1,h2,h3⟩:=kA W U;refine⟨v::fs,by simp only[Reps];exact⟨v,fs,rfl,rv,h1⟩,by simp[h2],fun i j' v' q1 q2=>?_⟩;cases i with
  |zero=>simp at q1 q2;subst q1 q2;exact Z
  |succ i=>exact h3 i j' v' (by simpa using q1) (by simpa using q2)
theorem NestD.at{name:Str}{fr:η Str}(D:NestD X name qual params body scope N ps fr js g kk)(hinj:∀x y c,X.env.cells.lookup x=ς c->X.env.cells.lookup y=ς c->x=y)(hhas:∀x,X.env.kindOf x=ς .cell->∃c,X.env.cells.lookup x=ς c)
 (pc:PlusC X σ H H') (fi:FnIn H' f name qual params body scope (fU scope.names X.env.cells)) {fs:η V} (hl:fs.length=js.length) (hv:∀(i j:Nat)(v:V),js[i]?=ς j->fs[i]?=ς v->σ[j]?=ς (ς v)) (W:∀x∈scope.names,x.2=.free->x.1∈fr) :
  ∃c' doc pm ctv fo uf,ClAt H' f name qual params body scope (fU scope.names X.env.cells) fr fs c' doc pm ctv fo uf:=by
 obtain⟨fo,uf,c',doc,pm,ctv,h1,h2,h3⟩:=fi;have cells:∀x,(x,qe9)∈scope.names->∃c,X.env.cells.lookup x=ς c:=fun x hx=>hhas x (D.fre (x,.free) hx rfl)
 have look:∀x c,(x,c)∈fU scope.names X.env.cells->X.env.cells.lookup x=ς c:=fun x c h=>by obtain⟨a,b⟩:=kz h;obtain⟨c2,e⟩:=cells x a;rw[e]at b;rw[e,b];rfl
 have Z:∀x c,(x,c)∈fU scope.names X.env.cells->∃(i:Nat)(o:Obj)(v:V)(u:Value),fr[i]?=ς x/\fs[i]?=ς v/\H' c=ς (fL c o)/\o.data=.cell (ς u)/\RelV v u:=fun x c h=>by obtain⟨a,_⟩:=kz h;obtain⟨i,hi⟩:=qo1 (W _ a rfl);have hif:i<fr.length:=(gX hi).1;have hjl:=D.jl;have U:js[i]?=ς js[i]:=gQ Θ;have hiv:fs[i]?=ς fs[i]:=gQ Θ;obtain⟨n1,n2⟩:=D.nm i _ x hi U;obtain⟨o,v,g1,g2,g3⟩:=pc.cel x c (look x c h);obtain⟨u,rfl,ru⟩:=g3 _ _ n1 (hv i _ _ U hiv) (.inl n2);exact⟨i,o,_,u,hi,hiv,g1,g2,ru⟩
 refine⟨c',doc,pm,ctv,fo,uf,⟨h1,h2,h3,fun x c h=>?_,fun x y c Y e2=>?_,?_,fun i x v Y e2=>?_,fun x c e=>?_⟩⟩
 .obtain⟨_,o,_,u,_,_,g1,g2,_⟩:=Z x c h;exact⟨o,u,g1,g2⟩
 .exact hinj x y c (look x c (PySem.mem_of_lookup Y)) (look y c (PySem.mem_of_lookup e2))
 .rw[hl,D.jl]
 .have hx:=D.S.frk x (qc7 Y);obtain⟨c,e⟩:=uB (cells:=X.env.cells) (PySem.mem_of_lookup hx);have hif:i<fr.length:=(gX Y).1;have hjl:=D.jl;have U:js[i]?=ς js[i]:=gQ Θ;obtain⟨n1,n2⟩:=D.nm i _ x Y U;obtain⟨o,w,g1,g2,g3⟩:=pc.cel x c (look x c (PySem.mem_of_lookup e));obtain⟨u,rfl,ru⟩:=g3 _ _ n1 (hv i _ _ U e2) (.inl n2);exact⟨c,o,u,e,g1,g2,ru⟩
 .obtain⟨a,_⟩:=kz (PySem.mem_of_lookup e);exact D.ndn x _ a rfl
end
variable{Hp':Hp}
section
variable{X:Cx}{K:xA9}
theorem Step.hide{F H1:Hp}(fh:Same F H)(U:PlusC X σ H Hp')(a:Step F Hp' F1 H1):Step F H F1 (jn X H1):=by
 have W:∀{b:J9},bp X b->∃o,Hp' b=ς (fL b o):=fun {b}⟨x,hx⟩=>by obtain⟨o,v,e,_⟩:=U.cel x b hx;exact⟨o,e⟩
 have nF:∀{b:J9}{o:HO},F1 b=ς o->¬ bp X b:=fun {b o} e Z=>by
  obtain⟨ob,g1⟩:=W Z;rcases a.nw b o e with z|z|⟨xs,z⟩
  .have:=fh b o z;rw[U.fre b Z]at this;cases this
  .rw[g1]at z;cases z
  .rw[g1]at z;cases z
 refine⟨fun b o e=>?_,a.ff,fun b o e=>?_,fun b o e=>?_⟩
 .have Y:¬ bp X b:=fun z=>by rw[U.fre b z]at e;cases e
  rw[bR Y];exact a.hh b o (by rw[U.out b Y];exact e)
 .rw[bR (nF e)];exact a.fh b o e
 .rw[<- U.out b (nF e)];exact a.nw b o e
theorem KO.hide{F:Hp}{t:T}{Q:VK}(fh:Same F H)(W:PlusC X σ H Hp')(k:KO K F H t Q):KO K F Hp' t fun v H2=>Q v (jn X H2):=fun v H2 Z S st o Y=>by
 have U:∀b,S b->¬ bp X b:=fun b z ⟨x,hx⟩=>by obtain⟨ob,_,e,_⟩:=W.cel x b hx;rw[(Y b z).2.1]at e;cases e
 refine k v _ Z S (Step.hide fh W st) (o.step (Same.refl _) fun b u z e=>by rw[bR (U b z)];exact e) fun b z=>?_
 obtain⟨h1,h2,u,h3,h4⟩:=Y b z;exact⟨h1,by rw[<- W.out b (U b z)];exact h2,u,by rw[bR (U b z)];exact h3,h4⟩
end
section
variable{X:Cx}{e0:Jc}{p p1 p2 pos:Pos}{x n1 n2 q1 q2:Str}{par1 par2:ql1}{bod1 bod2:η Jb}{sc1 sc2:Jd}{N1 ps1 fr1 N2 ps2 fr2:η Str}{js1 js2:η Nat}{g1 g2:De->ζ Out}{k kk i1 i2:Nat}{ps:η Str}{FR:Orc->Dt->J9->J9->Hp->ζ T}{f0:De->ζ Dt}
def wW(X:Cx)(i1 i2:Nat)(n1 n2 q1 q2:Str)(par1 par2:ql1)(bod1 bod2:η Jb)(sc1 sc2:Jd)(σ:St)(H:Hp)(f1 f2:J9):Prop:=σ[i1]?=ς (ς (.ref f1))/\σ[i2]?=ς (ς (.ref f2))/\f1≠f2/\FnIn H f1 n1 q1 par1 bod1 sc1 (fU sc1.names X.env.cells)/\FnIn H f2 n2 q2 par2 bod2 sc2 (fU sc2.names X.env.cells)
def tRt(X:Cx)(i1 i2:Nat)(n1 n2 q1 q2:Str)(par1 par2:ql1)(bod1 bod2:η Jb)(sc1 sc2:Jd)(N1 N2:η Str)(js1 js2:η Nat)(g1 g2:De->ζ Out)(f0:De->ζ Dt)(FR:Orc->Dt->J9->J9->Hp->ζ T):TE:=fun σ H Q=>∃ Φ δ F f1 f2 d0 W U t,Fm.K Φ=X.K/\En Φ δ σ F H/\wW X i1 i2 n1 n2 q1 q2 par1 par2 bod1 bod2 sc1 sc2 σ H f1 f2/\f0 δ=ς d0/\fC δ js1=ς W/\fC δ js2=ς U/\(∀F0,FR (uA f1 f2 F0 (jC N1.length g1 W) (jC N2.length g2 U)) d0 f1 f2 F0=ς t)/\KO X.K F H t Q
theorem FS (F:OkF X.prog X.w X.K X.mg X.base x k ps (spR X.prog X.w X.K X.mg X.base (kk+1) FR)) (hr:Room k X.A) (hg:Gl X x) (hfn:∀ x,X.fn x=θ) (h0:DL X e0 f0) (hv1:PE X (.Name n1 p1) (fT i1)) (hv2:PE X (.Name n2 p2) (fT i2))
  (D1:NestD X n1 q1 par1 bod1 sc1 N1 ps1 fr1 js1 g1 kk) (D2:NestD X n2 q2 par2 bod2 sc2 N2 ps2 fr2 js2 g2 kk) (ha1:∀x∈sc1.names,x.2=.free->x.1∈fr1) (ha2:∀x∈sc2.names,x.2=.free->x.1∈fr2) (hdb:(x==("__debug__":Str))=ξ:=by decide)
  (s0:qa8 [e0,.Name n1 p1,.Name n2 p2] X.env=(ξ,eval e0 X.env)::qa8 [.Name n1 p1,.Name n2 p2] X.env:=by rfl) (s1:qa8 [.Name n1 p1,.Name n2 p2] X.env=(ξ,eval (.Name n1 p1) X.env)::qa8 [.Name n2 p2] X.env:=by rfl) (s2:qa8 [.Name n2 p2] X.env=(ξ,eval (.Name n2 p2) X.env)::qa8 [] X.env:=by rfl)
  (hpl:(ql8 pos (qa8 [.Name n1 p1,.Name n2 p2] X.env)).any (·.1)=ξ:=by rfl) :
  PE X (.Call (.Name x p) [e0,.Name n1 p1,.Name n2 p2] [] pos) (tRt X i1 i2 n1 n2 q1 q2 par1 par2 bod1 bod2 sc1 sc2 N1 N2 js1 js2 g1 g2 f0 FR):=by
 obtain⟨f,fd,hm,hk,hb,FF⟩:=F.ex;intro J1 s σ H Q I h;refine(wV FF hr hg hm hk hb hfn (bW h0 (bW hv1 (bW hv2 eG s2) s1) s0) hdb s0 hpl) J1 s σ H Q I ?_;obtain⟨Φ,δ,F,f1,f2,d0,caps1,Z,t,hK,en,⟨v1,v2,hne,fi1,fi2⟩,hf0,hc1,hc2,hrun,kq⟩:=h;refine⟨Φ,δ,F,d0,hK,en,hf0,fun v H1 F1 st r1=>⟨.ref f1,v1,.ref f2,v2,fun H' pc=>?_⟩⟩
 have up1:∀b o,H1 b=ς o->H' b=ς o:=fun b o z=>by rw[pc.out b fun y=>by rw[pc.fre b y]at z;cases z];exact z
 have up:∀b o u,H b=ς (.frz o u)->H' b=ς (.frz o u):=fun b o u z=>up1 _ _ (st.hh _ _ z)
 obtain⟨fs1,rc1,hl1,hs1⟩:=kA en hc1;obtain⟨fs2,rc2,hl2,hs2⟩:=kA en hc2;rw[hK]at rc1 rc2;have U:∀x,X.env.kindOf x=ς .cell->∃c,X.env.cells.lookup x=ς c:=fun x hx=>I.ok.has x (.inl hx)
 obtain⟨c1',doc1,pm1,ctv1,fo1,uf1,C1⟩:=D1.at I.ok.inj U pc (fi1.up up) hl1 hs1 ha1
 obtain⟨c2',doc2,pm2,ctv2,fo2,uf2,C2⟩:=D2.at I.ok.inj U pc (fi2.up up) hl2 hs2 ha2
 refine⟨uA f1 f2 F1 (jC N1.length g1 caps1) (jC N2.length g2 Z),F1,d0,f1,f2,t,v,fun f F0 ds t hG=>?_,fun b o z=>up1 b o (st.fh b o z),rfl,r1,hrun F1,fun v' H2 F2 S st2 o hs _=>KO.hide st.fh pc (kq.step st) v' H2 F2 S st2 o hs⟩;unfold uA at hG;split at hG
 .rename_i hh;obtain⟨rfl,rfl,hd⟩:=hh;refine⟨⟨fo1,uf1,_,C1.fn,C1.dat⟩,fun A outer s H2 F2 us vs Q2 Y hp e0 h0 fh r rd W=>?_⟩;exact su D1.S D1.ndn C1 (rc1.same st.ff) (fun s us hu=>D1.bd s _ _ _ _ _ us hu) (fun A outer s H hr=>D1.body _ _ _ A outer s H hr) (by rw[hd,D1.one]) hG A outer s H2 F2 us vs Q2 Y hp e0 h0 fh r rd W
 .split at hG
  .rename_i hh;obtain⟨rfl,rfl,hd⟩:=hh;refine⟨⟨fo2,uf2,_,C2.fn,C2.dat⟩,fun A outer s H2 F2 us vs Q2 Y hp e0 h0 fh r rd W=>?_⟩;exact su D2.S D2.ndn C2 (rc2.same st.ff) (fun s us hu=>D2.bd s _ _ _ _ _ us hu) (fun A outer s H hr=>D2.body _ _ _ A outer s H hr) (by rw[hd,D2.one]) hG A outer s H2 F2 us vs Q2 Y hp e0 h0 fh r rd W
  .cases hG
end
def sA(i:Nat)(name qual:Str)(params:ql1)(body:η Jb)(scope:Jd)(clos:η (Str×J9)):TS:=fun D σ H=>∀(f c':J9)(doc pm ctv:Value)(H':Hp),MadeH H H' f c' qual {cls:=.type "function",data:=.func (xG9 name qual params body scope clos .none .none doc pm ψ (.ref c') ctv)}->D.nx (σ.set i (ς (.ref f))) H'
section
variable{X:Cx}{c P:J9}{qs:η ((Nat×Nat)×Str)}{name qual:Str}{params:ql1}{body:η Jb}{scope:Jd}{clos:η (Str×J9)}{pos:Pos}{i:Nat}
theorem Aj (hN:X.N.Nodup) (hi:X.N[i]?=ς name) (hx:Loc X.env.scope name) (hfn:X.fn name=θ∨X.env.scope.names.lookup name=ς .local) (B:TabB X.mg X.base c P) (U:X.env.code=.ref c) (hT:(P,qs)∈cS X.K) (Z:qualnameIn X.env name name=qual) (hq:((pos.line,pos.col),qual)∈qs) (hun:∀ q,((pos.line,pos.col),q)∈qs->q=qual) (Y:zi3 scope X.env=pure clos)
  (hd0:params.defaults=[]) (W:params.kw_defaults=[]) (ha:annTrees params ψ X.env=[]):PS X (.FunctionDef name params body [] ψ [] scope ψ name pos) (sA i name qual params body scope clos):=fun J1 s σ H D I h=>
 Dn hN hi hx hfn B U Z hq hun Y hd0 W ha J1 s σ H D I ⟨I.base.cts _ _ (I.ok.tb _ hT),h⟩
end
section
variable{X:Cx}{e0:Jc}{pos:Pos}{n1 n2 q1 q2:Str}{par1 par2:ql1}{bod1 bod2:η Jb}{sc1 sc2:Jd}{N1 N2:η Str}{js1 js2:η Nat}{g1 g2:De->ζ Out}{i1 i2:Nat}{FR:Orc->Dt->J9->J9->Hp->ζ T}{f0:De->ζ Dt}{K:xA9}
def tG2(X:Cx)(i1 i2:Nat)(n1 n2 q1 q2:Str)(par1 par2:ql1)(bod1 bod2:η Jb)(sc1 sc2:Jd)(g:De->ζ Out):TS:=fun D σ H=>∃ Φ δ F f1 f2 o,Fm.K Φ=X.K/\En Φ δ σ F H/\wW X i1 i2 n1 n2 q1 q2 par1 par2 bod1 bod2 sc1 sc2 σ H f1 f2/\g δ=ς o/\Post Φ D o
theorem En.clear{F:Hp}(e:En Φ δ σ F H)(i:Nat)(v:V):En Φ (δ.set i ψ) (σ.set i (ς v)) F H:=by
 obtain⟨S,s⟩:=e.sep;refine⟨e.fh,e.prot,e.old,e.nw,by simp[e.len],fun j t h=>?_,S,fun j t u h=>?_,s.out,s.dis⟩
 .rcases cC h with ⟨_,z⟩|⟨U,z⟩
  .cases z
  .obtain⟨w,W⟩:=e.has j t z;exact⟨w,by rw[gN U];exact W⟩
 .obtain⟨h1,h2⟩:=cb h;rcases cC h1 with ⟨_,z⟩|⟨U,z⟩
  .cases z
  .rw[gN U]at h2;exact s.own j t u (aR z h2)
def qC(i1 i2:Nat)(δ:De):De:=(δ.set i1 ψ).set i2 ψ
theorem wX{ss:η Jb}(hne:i1≠i2)(hl1:∀ σ:St,σ.length=X.N.length->i1<σ.length/\i2<σ.length)
 (h1:PS X (.FunctionDef n1 par1 bod1 [] ψ [] sc1 ψ n1 p1) (sA i1 n1 q1 par1 bod1 sc1 (fU sc1.names X.env.cells))) (h2:PS X (.FunctionDef n2 par2 bod2 [] ψ [] sc2 ψ n2 p2) (sA i2 n2 q2 par2 bod2 sc2 (fU sc2.names X.env.cells)))
 (hs:PSs X ss (tG2 X i1 i2 n1 n2 q1 q2 par1 par2 bod1 bod2 sc1 sc2 g)) :
  DS X (.FunctionDef n1 par1 bod1 [] ψ [] sc1 ψ n1 p1::.FunctionDef n2 par2 bod2 [] ψ [] sc2 ψ n2 p2::ss) fun δ=>g (qC i1 i2 δ):=by
 intro J1 s σ H D I h;refine hV h1 (hV h2 hs) J1 s σ H D I ?_;obtain⟨Φ,δ,F,o,hK,en,hg,k⟩:=h;obtain⟨l1,l2⟩:=hl1 σ I.len;intro f1 c1 W pm1 Y H1 M1 f2 c2 doc2 pm2 Z H2 U
 have hf:f1≠f2:=fun z=>by have:=U.free;rw[<- z,M1.fn]at this;cases this
 have sm:Same H H2:=fun b o e=>U.old b o (M1.old b o e)
 refine⟨Φ,qC i1 i2 δ,F,f1,f2,o,hK,((en.step ⟨sm,Same.refl _,en.fh.trans sm,fun _ _ e=>.inl e⟩).clear i1 (.ref f1)).clear i2 (.ref f2),⟨?_,?_,hf,?_,?_⟩,hg,k⟩
 .rw[gN (qh5 hne)];exact qd0 l1
 .exact qd0 (by simpa using l2)
 .obtain⟨oc,hc⟩:=M1.cod;exact⟨_,_,c1,W,pm1,Y,U.old _ _ M1.fn,rfl,oc,U.old _ _ hc⟩
 .obtain⟨oc,hc⟩:=U.cod;exact⟨_,_,c2,doc2,pm2,Z,U.fn,rfl,oc,hc⟩
def DJ(N1 N2:η Str)(g1 g2:De->ζ Out)(FR:Orc->Dt->J9->J9->Hp->ζ T)(d0:Dt)(W U:η Dt)(r:T):Prop:=∀f1 f2 F0,f1≠f2->FR (uA f1 f2 F0 (jC N1.length g1 W) (jC N2.length g2 U)) d0 f1 f2 F0=ς r
open Classical in
def fRt(js1 js2:η Nat)(N1 N2:η Str)(g1 g2:De->ζ Out)(f0:De->ζ Dt)(FR:Orc->Dt->J9->J9->Hp->ζ T):De->ζ T:=fun δ=>(f0 δ).bind fun d=>(fC δ js1).bind fun a=>(fC δ js2).bind fun b=>if h:∃r,DJ N1 N2 g1 g2 FR d a b r then ς h.choose else ψ
theorem DK{d0:Dt}{a b:η Dt}{r:T}(Y:f0 δ=ς d0)(W:fC δ js1=ς a)(Z:fC δ js2=ς b)(h:DJ N1 N2 g1 g2 FR d0 a b r):fRt js1 js2 N1 N2 g1 g2 f0 FR δ=ς r:=by
 have U:∃r,DJ N1 N2 g1 g2 FR d0 a b r:=⟨r,h⟩
 have e:U.choose=r:=by have h1:=U.choose_spec 0 1 (fun _=>ψ) Ω;have h2:=h 0 1 (fun _=>ψ) Ω;exact qd6 (h1.symm.trans h2)
 unfold fRt;rw[Y,W,Z];simp only[qa6];rw[dif_pos U,e]
theorem DM {F:Hp} {t:T} {Q:VK} (Z:Φ.K=X.K) (W:En Φ δ σ F H) (fs:wW X i1 i2 n1 n2 q1 q2 par1 par2 bod1 bod2 sc1 sc2 σ H f1 f2) (h:fRt js1 js2 N1 N2 g1 g2 f0 FR δ=ς t) (k:KO X.K F H t Q) :
  tRt X i1 i2 n1 n2 q1 q2 par1 par2 bod1 bod2 sc1 sc2 N1 N2 js1 js2 g1 g2 f0 FR σ H Q:=by
 unfold fRt at h;obtain⟨d0,h0,h⟩:=bS h;obtain⟨a,U,h⟩:=bS h;obtain⟨b,hb,h⟩:=bS h;split at h
 .rename_i Y;cases h;exact⟨Φ,δ,F,f1,f2,d0,a,b,_,Z,W,fs,h0,U,hb,fun F0=>Y.choose_spec f1 f2 F0 fs.2.2.1,k⟩
 .cases h
theorem Ak(h:dl sc N i x=θ)(Z:iT sc x=θ)(nd:N.Nodup)(he:PE X e (tRt X i1 i2 n1 n2 q1 q2 par1 par2 bod1 bod2 sc1 sc2 N1 N2 js1 js2 g1 g2 f0 FR))(e1:bN X sc:=by rfl)(e2:X.N=N:=by rfl)(hf:X.fn x=θ∨X.env.scope.names.lookup x=ς .local:=by exact .inl rfl)
 (U:qo5 e (ς (.Name x pos')) pos.line X.env=pure ξ:=by rfl):PS X (.Assign [.Name x pos'] e pos) (tG2 X i1 i2 n1 n2 q1 q2 par1 par2 bod1 bod2 sc1 sc2 (al i (fRt js1 js2 N1 N2 g1 g2 f0 FR))):=PS.mono (sj h Z nd he e1 e2 hf U) fun D σ H ⟨Φ,δ,F,f1,f2,o,Y,W,fs,hg,k⟩=>by
 obtain⟨t,ht,rfl⟩:=mS hg;exact DM Y W fs ht fun v H' F' S st o U=>k _ F' H' (W.put st (Y▸o) U i)
theorem wY{rest:η Jb}{ga gb:De->ζ Out}(h1:PS X st (tG2 X i1 i2 n1 n2 q1 q2 par1 par2 bod1 bod2 sc1 sc2 ga))(h2:DS X rest gb):PSs X (st::rest) (tG2 X i1 i2 n1 n2 q1 q2 par1 par2 bod1 bod2 sc1 sc2 (ai ga gb)):=PSs.mono (hV h1 h2) fun D σ H ⟨Φ,δ,F,f1,f2,o,hK,en,fs,U,k⟩=>by
 unfold ai at U;obtain⟨Z,h1,U⟩:=bS U;refine⟨Φ,δ,F,f1,f2,Z,hK,en,fs,h1,?_⟩;cases Z with
 |nx W=>exact fun σ' F' H' Y=>⟨Φ,W,F',o,hK,Y,U,k⟩
 |rt t=>cases U;exact k
 |bk W=>cases U;exact k
 |ct W=>cases U;exact k
end
def qD(mg:Str->ζ Value)(base:Heap):Prop:=∃U ob,mg "__builtins__"=ς (.ref U)/\U≠qy2/\base.get? U=ς ob/\ob.cls=.type "module"/\ob.dict=ς qy2/\ob.data=.plain
theorem TabB.mk'{base:Heap}{c P:J9}(U:K.In base)(h:xK9 K c P=θ)(b:qD mg base):TabB mg base c P:=⟨xS9 U h,b⟩
def sB(H:Hp):Prop:=∀b,H b=ψ∨(∃o xs,H b=ς (.frz o (.e xs)))∨∃qs,H b=ς (.ctab qs)
def gI(K:xA9):Hp:=fun b=>((cS K).find? fun p=>p.1==b).map fun p=>.ctab p.2
theorem fD{b:J9}{u:HO}(h:gI K b=ς u):∃p∈cS K,p.1=b/\u=.ctab p.2:=by obtain⟨p,hp,rfl⟩:=mS h;exact⟨p,zb0 hp,by simpa using List.find?_some hp,rfl⟩
theorem wZ(U:∀p∈cS K,∀q∈cS K,p.1=q.1->p=q){p:J9×η ((Nat×Nat)×Str)}(hp:p∈cS K):gI K p.1=ς (.ctab p.2):=by
 unfold gI;cases q:(cS K).find? fun x=>x.1==p.1 with
 |none=>have:=List.find?_eq_none.mp q p hp;simp at this
 |some r=>
  have h1:r.1=p.1:=by simpa using List.find?_some q
  rw[U r (zb0 q) p hp h1];rfl
def TabsIn(K:xA9)(h:Heap):Prop:=(∀p∈cS K,K.lookup p.1=ψ/\(∃c,xN9 h c p.1)/\h.get? p.1=ς (xJ9 #[]))/\∀p∈cS K,∀q∈cS K,p.1=q.1->p=q
theorem uC{mb:Str->ζ Value}{CX:CXT}{k:Nat}{fa:J9}{fd:qr5}{sp:Sp}{s₁:qa3}{vs:η Value}{ns:η Int}
 (KX:K.In s₁.heap) (hns:s₁.heap.Ns qc1 mg) (hb:s₁.heap.Ns qy2 mb) (hbb:∀x:Str,x≠"__name__"->mb x=qe0 x) (hlim:s₁.heap.NoLimit) (hg:s₁.gens=#[]) (hbm:qD mg s₁.heap) (hT:TabsIn K s₁.heap)
 (ha:s₁.heap.get? a=ς {cls:=.type "list",data:=.seq vs.toArray}) (hi:zg8 vs ns) (hl:ns.length<=qb2) (hr:Room k zl3)
 (F:∀base:Heap,K.In base->base.Ns qc1 mg->qD mg base->FnOk P w K mg base CX k fa fd [x] sp) (hbind:∀(s:qa3)(u:Value),zc8 s fd ⟨[u],[]⟩ [(x,u)])
 (hsp:∀H:Hp,sB H->SqL K H a (ns.map V.int)->sp [.ref a] H (fun v _=>v=.bl θ) fun _ _ _=>False)
 (hCX:∀H e s',CX [] H s₁ (fun _ _ _=>False) e s'->False) :
  qq7 (model P w) zl3 (.call (.ref fa) ⟨[.ref a],[]⟩) (fun r s'=>r=.ok (.ret (.bool θ))/\OldK s₁.heap s'.heap/\s'.os=s₁.os/\zg0 s'.gens) s₁:=by
 have rv:=lS hi;have lenV:=hi.length;obtain⟨hT,hnd⟩:=hT
 have tb:∀{b:J9}{u:HO},gI K b=ς u->s₁.heap.get? b=ς (xJ9 #[])/\K.lookup b=ψ/\∃c,xN9 s₁.heap c b:=fun {b u} e=>by obtain⟨p,hp,rfl,_⟩:=fD e;obtain⟨h1,h2,h3⟩:=hT p hp;exact⟨h3,h1,h2⟩
 have taN:gI K a=ψ:=by
  cases q:gI K a with
  |none=>rfl
  |some u=>have:=(tb q).1;rw[ha]at this;cases this
 -- H: the script,if it is ψ of the module's own,and the tables
 have core:∀ H:Hp,SqL K H a (ns.map V.int)->(∀ b,b≠a->H b=gI K b)->(H a=ψ∨(K.lookup a=ψ/\H a=ς (.frz {cls:=.type "list",data:=.seq vs.toArray} (.e (ns.map V.int)))))→
     qq7 (model P w) zl3 (.call (.ref fa) ⟨[.ref a],[]⟩) (fun r s'=>r=.ok (.ret (.bool θ))/\OldK s₁.heap s'.heap/\s'.os=s₁.os/\zg0 s'.gens) s₁:=by
  intro H hS hH hA
  have Y:∀{b:J9}{u:HO},H b=ς u->(b=a/\K.lookup a=ψ/\u=.frz {cls:=.type "list",data:=.seq vs.toArray} (.e (ns.map V.int)))∨(b≠a/\gI K b=ς u):=fun {b u} e=>by
   by_cases hb:b=a
   .subst hb;rcases hA with z|⟨z1,z2⟩
    .rw[z]at e;cases e
    .rw[z2]at e;cases e;exact .inl ⟨rfl,z1,rfl⟩
   .rw[hH b hb]at e;exact .inr ⟨hb,e⟩
  have hO:sB H:=fun b=>by
   cases q:H b with
   |none=>exact .inl rfl
   |some u=>
    rcases Y q with ⟨_,_,rfl⟩|⟨_,z⟩
    .exact .inr (.inl ⟨_,_,rfl⟩)
    .obtain⟨p,_,_,rfl⟩:=fD z;exact .inr (.inr ⟨_,rfl⟩)
  have hok:HOk P w H s₁.heap:=fun b u e=>by
   rcases Y e with ⟨rfl,_,rfl⟩|⟨_,z⟩
   .exact⟨ha,by rw[qa1];exact hl,vs,_,rv,ha⟩
   .obtain⟨p,_,_,rfl⟩:=fD z;refine⟨#[],(tb z).1,trivial,fun pos q v _ h=>?_⟩;cases h
  have U:∀{b:J9}{o:Obj},s₁.heap.get? b=ς o->H b=ψ->(lq s₁.heap H).get? b=ς o:=fun e n=>vz e n
  have noH:∀{b:J9}{o:Obj},s₁.heap.get? b=ς o->o.data≠.seq vs.toArray->o≠xJ9 #[]->H b=ψ:=fun {b o} e d1 d2=>by
   cases q:H b with
   |none=>rfl
   |some u=>
    rcases Y q with ⟨rfl,_,rfl⟩|⟨_,z⟩
    .rw[ha]at e;cases e;exact absurd rfl d1
    .have:=(tb z).1;rw[e]at this;cases this;exact absurd rfl d2
  have Z:∀{b:J9}{m:Str->ζ Value},s₁.heap.Ns b m->(lq s₁.heap H).Ns b m:=fun {b m}⟨o,es,ep,e,d,r⟩=>⟨o,es,ep,U e (noH e (by rw[d];intro z;cases z) (fun z=>by rw[z]at d;cases d)),d,r⟩
  have hKb:K.In (lq s₁.heap H):=fun b o e=>U (KX b o e) (by
   cases q:H b with
   |none=>rfl
   |some u=>
    rcases Y q with ⟨rfl,z,_⟩|⟨_,z⟩
    .rw[z]at e;cases e
    .rw[(tb z).2.1]at e;cases e)
  have hbmB:qD mg (lq s₁.heap H):=by obtain⟨bm,ob,b1,b2,b3,b4,b5,b6⟩:=hbm;exact⟨bm,ob,b1,b2,U b3 (noH b3 (by rw[b6];intro z;cases z) fun z=>by rw[z]at b4;cases b4),b4,b5,b6⟩
  have hM:Mod K mg (lq s₁.heap H):=⟨hKb,Z hns,⟨mb,Z hb,hbb⟩,let ⟨mc,h1,h2⟩:=hlim;⟨mc,Z h1,h2⟩⟩
  have e0:Env0 P w K mg (lq s₁.heap H) zl3 [] s₁ H:=⟨rfl,hM,fun b o e=>zb e,Nat.le_of_eq (tU _ _),trivial,fun b hb=>absurd (show b∈([]:η J9)from hb) Ξ,hok,.of_eq hg,fun p hp=>by have h:=wZ hnd hp;rw[hH p.1 fun z=>by rw[z,taN]at h;cases h];exact h⟩
  refine qt9 ((F _ hKb (Z hns) hbmB).run zl3 [] s₁ H ⟨[.ref a],[]⟩ [.ref a] [.ref a] _ _ hr e0 (hbind s₁ (.ref a)) (.cons rfl .nil) (hsp H hO hS)) fun r s' h=>?_
  cases r with
  |error e=>exact(hCX H e s' h).elim
  |ok fl=>
   cases fl with
   |next=>exact qg9 h
   |brk=>exact qg9 h
   |cont=>exact qg9 h
   |ret u=>
    obtain⟨v,H',os,bare,un,hok',r',q⟩:=h;have q':v=.bl θ:=q;subst q';obtain rfl:u=qy1 θ:=r';refine⟨rfl,⟨fun b o e=>?_,fun b o e=>un.there b o e Ξ⟩,os,bare⟩;cases q:H b with
    |none=>exact .inl (un.keep b o e q (by intro z;exact absurd (show b∈([]:η J9)from z) Ξ) Ξ)
    |some u=>
     rcases Y q with ⟨rfl,_,rfl⟩|⟨_,z⟩
     .have z2:=un.frzs b _ _ q;obtain⟨e1,_⟩:=hok b _ q;obtain⟨e2,_⟩:=hok' b _ z2;rw[e]at e1;cases e1
      exact .inl e2
     .obtain⟨g1,_,c,g2⟩:=tb z;obtain⟨p,_,_,rfl⟩:=fD z;obtain⟨ps,g3,_⟩:=hok' b _ (un.cts b _ q);rw[e]at g1;cases g1;refine .inr (.inl ⟨(g2.tab e).isCodeTable,rfl,#[],ps,rfl,?_⟩);rw[g3];simp[xJ9]
 cases hk:K.lookup a with
 |some o=>have e:=KX a o hk;rw[ha]at e;cases e;exact core (gI K) (.inr ⟨_,vs.toArray,_,hk,rfl,rfl,rfl,by rw[qb6,lenV];exact hl,by simpa using rv⟩) (fun _ _=>rfl) (.inl taN)
 |none=>exact core (fun b=>if b=a then ς (.frz {cls:=.type "list",data:=.seq vs.toArray} (.e (ns.map V.int)))else gI K b) (.inl (.inr ⟨{cls:=.type "list",data:=.seq vs.toArray},if_pos rfl⟩)) (fun b hb=>if_neg hb) (.inr ⟨hk,if_pos rfl⟩)
theorem FT{l:xT9}{k:Nat}{q:qc5}{loose:η Str}{XP:(Str->ζ Value)->Heap->Prop}{YP:Ja->Heap->Prop}{d:DefRec}{K:Params->xA9}{CX:Ja->CXT}{sp:Ja->Sp} 
 (hn:l.most=ς n) (hn2:n<=qb2) (hdf:d.params.defaults=[]) (hr:Room k zl3)
 (hY:∀(w:Ja)(h:Heap),YP w h->(K w.params).In h) (hT:∀(w:Ja)(h:Heap),YP w h->TabsIn (K w.params) h)
 (F:∀(w:Ja)(mg:Str->ζ Value)(fa:J9)(h:Heap),(K w.params).In h->h.Ns qc1 mg->mg d.name=ς (.ref fa)→
 ∃fd:qr5,(∀(s:qa3)(u:Value),zc8 s fd ⟨[u],[]⟩ [(x,u)])∧
 ∀base:Heap,(K w.params).In base->base.Ns qc1 mg->qD mg base->FnOk l.prog w (K w.params) mg base (CX w) k fa fd [x] (sp w))
 (hsp:∀(w:Ja)(H:Hp)(a:J9)(ns:η Int),ns.length<=n->sB H->SqL (K w.params) H a (ns.map V.int)->sp w [.ref a] H (fun v _=>v=.bl θ) fun _ _ _=>False)
 (hCX:∀(w:Ja)(H:Hp)(s:qa3)(e:Value)(s':qa3),CX w [] H s (fun _ _ _=>False) e s'->False) :
  PySem.W.WalkO q loose XP YP l.row.toRowW d [] (fun f vs=>PySem.call f vs):=by
 refine Att.Bs hn hdf fun w s₀ s₁ mg mb fa o pm cd doc a vs ns G Y ho hd hcd hmg hobj Z U hg=>?_
 have KX:=hY w _ Y;obtain⟨fd,hb,hF⟩:=F w mg fa _ KX G.T.g hmg;exact uC KX G.T.g G.T.b G.T.builtins G.T.nolimit hg G.T.bmain (hT w _ Y) hobj Z (qc0 U hn2) hr hF hb (fun H hO hS=>hsp w H a ns U hO hS) fun H e s'=>hCX w H s₁ e s'
def Al(lo st:Int)(n:Nat):It:=⟨fun i _=>i<n,fun i H x H'=>H'=H/\x=.int (lo+i*st),fun i _=>n<=i⟩
theorem o8{w:Ja}{tg:Jc}(it:J9)(lo st:Int)(n:Nat):Turn P w K tg (Al lo st n) [it] it (fun i h=>zj0 h it (lo+(i:Nat)*st) ((n:Int)-(i:Nat)) st) where
 mem:=by simp
 obj:=fun i h q b U=>by
  have e:b=it:=by simpa using U
  subst e
  exact⟨_,q,fun v z=>by have z':Data.fields _=Data.cell v:=z;cases z'⟩
 keep:=fun i h h' q k=>k it Ξ _ q
 item:=by
  intro X hP hw hK Z i J1 s σ H E I Y q hg;subst hP hw hK;obtain⟨f0,f1,f2,f3,f4,f5⟩:=Y it Ξ;have W:=Walks.range (prog:=X.prog) (w:=X.w) (I.ok.hd Z) it lo st n;refine W.item i s _ _ hg q fun v h' tk hv q' kk=>?_
  obtain⟨t,rfl⟩:=hv;have I1:Inv X J1 σ H {s with heap:=h',toks:=tk}:=I.turned (fun b o U e=>kk b o (by simpa using U) e) f0 f1 f3 f4 f5;exact⟨_,rfl,lK (s:={s with heap:=h',toks:=tk}) (n:="range_iterator") q' rfl rfl Ω ⟨.int (lo+i*st),H,I1,⟨t,rfl⟩,⟨rfl,rfl⟩,q',fun b U=>(Y b U).1⟩⟩
 done:=by intro X hP hw hK Z i J1 s σ H E I Y q hg;subst hP hw hK;obtain⟨f0,f1,f2,f3,f4,f5⟩:=Y it Ξ;exact zf3 (I.ok.hd Z) q (by have:n<=i:=hg;lia) fun h' eb=>⟨rfl,I.turned (t':=s.toks) (fun b o U e=>eb b o U e) f0 f1 f3 f4 f5⟩
 self:=fun _ _ _ _ _ q h=>zf4 q h
def w4(a b c:Int):Bool:=decide (-1000000<=a)&&decide (a<=1000000)&&decide (-1000000<=b)&&decide (b<=1000000)&&decide (-1000000<=c)&&decide (c<=1000000)&&decide (c≠0)
structure R3(a b c:Int):Prop where
 a0:-1000000<=a
 a1:a<=1000000
 b0:-1000000<=b
 b1:b<=1000000
 c0:-1000000<=c
 c1:c<=1000000
 c:c≠0
variable{c:Int}
theorem FU{a b:Int}(h:w4 a b c=θ):R3 a b c:=by unfold w4 at h;simp only[qa9,decide_eq_true_eq]at h;obtain⟨⟨⟨⟨⟨⟨h1,h2⟩,h3⟩,W⟩,U⟩,Y⟩,Z⟩:=h;exact⟨h1,h2,h3,W,U,Y,Z⟩
theorem R3.size{a b:Int}(h:R3 a b c):0<=qd2 a b c/\qd2 a b c<=2000001:=by
 obtain⟨h1,h2,h3,Z,Y,h6,h7⟩:=h;unfold qd2;split
 .rename_i hc;split
  .have W:0<=(b-a-1)/c:=Int.ediv_nonneg Θ Θ;have U:(b-a-1)/c<=b-a-1:=Int.ediv_le_self _ Θ;lia
  .lia
 .split
  .have W:0<=(a-b-1) / -c:=Int.ediv_nonneg Θ Θ;have U:(a-b-1) / -c<=a-b-1:=Int.ediv_le_self _ Θ;lia
  .lia
theorem fits{a:Int}(U:-9000000<=a)(h1:a<=9000000):qz7 a=θ:=by unfold qz7;simp;lia
theorem R3.small{a b:Int}(h:R3 a b c):qh6.Range.small a b c=θ:=by
 have U:=h.size;obtain⟨h1,h2,h3,Y,W,Z,h7⟩:=h;unfold qh6.Range.small;rw[fits (a:=a) Θ Θ,fits (a:=b) Θ Θ,fits (a:=c) Θ Θ,fits (a:=qd2 a b c) Θ Θ];simp only[zd2,ql3,qj1];right;split
 .exact fits Θ Θ
 .exact fits Θ Θ
section
variable{X:Cx}{tg:Jc}
theorem uD{R:It->Hp->Prop}{a b:Int}{t u v:Tok}{tk:Nat}(I:Inv X J1 σ H s)(h:R3 a b c)
 (q:R (Al a c (qd2 a b c).toNat) H):wpAny (model X.prog X.w) X.A (zi6 (.ref s.heap.objs.size)) (PIE X J1 σ tg R) E {s with heap:=s.heap.push {cls:=.type "range",data:=.fields #[.int a t,.int b u,.int c v]},toks:=tk}:=by
 refine wpAny_pyIter_range (IsRange.new ..) h.small ?_;have U:Inv X J1 σ H {s with heap:=s.heap.push {cls:=.type "range",data:=.fields #[.int a t,.int b u,.int c v]},toks:=tk}:=I.kept fun b o e=>gP _ e
 refine⟨(s.heap.push {cls:=.type "range",data:=.fields #[.int a t,.int b u,.int c v]}).objs.size,[(s.heap.push {cls:=.type "range",data:=.fields #[.int a t,.int b u,.int c v]}).objs.size],_,_,H,rfl,U.kept (t':=tk) fun b o e=>gP _ e,o8 _ a c (qd2 a b c).toNat,?_,fun bb Z=>?_,q⟩
 .have W:a+((0:Nat):Int)*c=a:=by simp
  have Y:(((qd2 a b c).toNat:Nat):Int)-((0:Nat):Int)=qd2 a b c:=by have:=h.size;lia
  show zj0 _ _ (a+((0:Nat):Int)*c) ((((qd2 a b c).toNat:Nat):Int)-((0:Nat):Int)) c;rw[W,Y];exact qa7 _ rfl
 .have e:bb=(s.heap.push {cls:=.type "range",data:=.fields #[.int a t,.int b u,.int c v]}).objs.size:=by simpa using Z
  subst e;exact U.fpOk (nL _) (U.hok.fresh (nL _))
def FV(ta:TA):TI:=fun σ H R=>ta σ H fun vs H1=>∃a b c:Int,vs=[.int a,.int b,.int c]/\R3 a b c/\R (Al a c (qd2 a b c).toNat) H1
theorem uE {a b c:Jc} {p:Pos} (hg:Gl X "range") (hm:X.mg "range"=ψ) (ha:PA X [a,b,c] ta) (hs:qa8 [a,b,c] X.env=[(ξ,eval a X.env),(ξ,eval b X.env),(ξ,eval c X.env)]:=by rfl) (W:qa8 [b,c] X.env=[(ξ,eval b X.env),(ξ,eval c X.env)]:=by rfl) :
  PI X tg (.Call (.Name "range" p) [a,b,c] [] pos) (FV ta):=by
 intro J1 s σ H R I h;refine Call_ (eF I hg hm boot_range (qf5 (thn (ha pos J1 s σ H _ I h) fun us s1 ⟨vs,H1,I1,r1,q1⟩=>?_) (by rw[hs,W]) (by rw[W];rfl)));obtain⟨i,j,k,e,Y,q⟩:=q1;subst e;cases r1 with
 |cons r U=>
  cases U with
  |cons r' U=>
   cases U with
   |cons Z U=>cases U;obtain⟨t,rfl⟩:=r;obtain⟨t',rfl⟩:=r';obtain⟨t'',rfl⟩:=Z;refine call_range_3 Y.c (uD I1 Y q) (.inl (PyProof.noPylong_small ?_));have:=Y.c0;have:=Y.c1;lia
def iA(lo st:Int)(n:Nat):η V:=(qb7 n).map fun(i:Nat)=>V.int (lo+i*st)
theorem plain_rangeS{lo st:Int}:Plain (Al lo st n) (iA lo st n) (fun _=>True):=fun i H h=>by
 refine⟨fun hi=>?_,fun e=>?_,fun x H' hi y=>?_⟩
 .show i<n;simpa[iA] using hi
 .show n<=i;simp[iA]at e;lia
 .obtain⟨e,rfl⟩:=y;refine⟨e,?_⟩;unfold iA at hi ⊢;rw[qa1,qr8]at hi;rw[qb3,qt4 hi];rfl
noncomputable def qE(lo st:Int)(n:Nat):η Dt:=(qb7 n).map fun(i:Nat)=>.int (lo+i*st)
theorem o9{F:Hp}(lo st:Int)(n:Nat):Reps K F (qE lo st n) (iA lo st n):=Reps.map (fun _=>fq) _
def uF:η Dt->ζ (η Dt)
 |[.int a,.int b,.int c]=>if w4 a b c then ς (qE a c (qd2 a b c).toNat)else ψ
 |_=>ψ
variable{p pos:Pos}{sc:Jd}{x y z:Jc}{fs:De->ζ (η Dt)}
theorem uG (h:aB sc "range"=θ) (hm:X.mg "range"=ψ) (ha:DA X [x,y,z] fs) (e1:bN X sc:=by rfl) (hs:qa8 [x,y,z] X.env=[(ξ,eval x X.env),(ξ,eval y X.env),(ξ,eval z X.env)]:=by rfl) (W:qa8 [y,z] X.env=[(ξ,eval y X.env),(ξ,eval z X.env)]:=by rfl) :
  DIF X tg (.Call (.Name "range" p) [x,y,z] [] pos) (bQ uF fs):=
 PI.mono (uE (glD h e1) hm ha.pa hs W) fun σ H R ⟨Φ,δ,F,ds,hK,en,U,k⟩=>by
  unfold bQ at U;obtain⟨Z,Y,U⟩:=bS U;refine⟨Φ,δ,F,Z,hK,en,Y,fun vs H' F' st r=>?_⟩;unfold uF at U;split at U
  .rename_i i j l;split at U
   .rename_i hj;cases U;simp only[Reps,Rep]at r;obtain⟨v,ws,rfl,rfl,w,us,rfl,rfl,w',us',rfl,rfl,rfl⟩:=r;exact⟨i,j,l,rfl,FU hj,k _ _ H' F' st (plain_rangeS.walk (o9 _ _ _)) fun _ _=>trivial⟩
   .cases U
  .cases U
end
theorem sC:∀a b:η Nat,ltCps a b=ξ->ltCps b a=ξ->a=b
 |[],[],_,_=>rfl
 |[],_::_,h,_=>by simp[ltCps]at h
 |_::_,[],_,h=>by simp[ltCps]at h
 |x::r,y::t,h,h'=>by
  simp only[ltCps,qx5,decide_eq_false_iff_not,qw5,beq_iff_eq]at h h';have e:x=y:=by lia
  subst e;rw[sC r t (h.2 rfl) (h'.2 rfl)]
theorem sD:∀a b:η Nat,ltCps a b=θ->ltCps b a=ξ
 |[],[],h=>by simp[ltCps]at h
 |[],_::_,_=>rfl
 |_::_,[],h=>by simp[ltCps]at h
 |x::r,y::t,h=>by
  simp only[ltCps,qj1,decide_eq_true_eq,qa9,beq_iff_eq]at h;simp only[ltCps,qx5,decide_eq_false_iff_not,qw5,beq_iff_eq];rcases h with h|⟨rfl,h⟩
  .exact⟨Θ,fun e=>Θ⟩
  .exact⟨Θ,fun _=>sD r t h⟩
theorem mi:∀a b c:η Nat,ltCps b a=ξ->ltCps c b=ξ->ltCps c a=ξ
 |[],b,c,h1,h2=>by
  cases b with
  |nil=>exact h2
  |cons y t=>
   cases c with
   |nil=>simp[ltCps]at h2
   |cons z u=>rfl
 |x::r,[],c,h1,h2=>by simp[ltCps]at h1
 |x::r,y::t,[],h1,h2=>by simp[ltCps]at h2
 |x::r,y::t,z::u,h1,h2=>by
  simp only[ltCps,qx5,decide_eq_false_iff_not,qw5,beq_iff_eq]at h1 h2 ⊢;refine⟨Θ,fun e=>?_⟩;subst e;have e:y=z:=by lia
  subst e;exact mi r t u (h1.2 rfl) (h2.2 rfl)
def leS(a b:Str):Bool:=!ltCps b.cps.toList a.cps.toList
theorem leS_iff{a b:Str}:leS a b=θ↔ltCps b.cps.toList a.cps.toList=ξ:=by simp[leS]
theorem mj(a b c:Str)(h:leS a b=θ)(h':leS b c=θ):leS a c=θ:=leS_iff.mpr (mi _ _ _ (leS_iff.mp h) (leS_iff.mp h'))
def uH(a b:Str):(leS a b||leS b a)=θ:=by
 cases h:leS a b with
 |true=>rfl
 |false=>
  have h1:ltCps b.cps.toList a.cps.toList=θ:=by simpa[leS] using h
  simp[leS_iff.mpr (sD _ _ h1)]
theorem pb{a b:Str}(h:leS a b=θ)(h':leS b a=θ):a=b:=by
 have e:=sC _ _ (leS_iff.mp h') (leS_iff.mp h);cases a with
 |mk a=>cases b with
  |mk b=>simp only at e;rw[Array.toList_inj.mp e]
def fP(ss:η Str):η Str:=ss.mergeSort leS
theorem cV(ss:η Str):(fP ss).Perm ss:=List.mergeSort_perm ss leS
theorem iB(ss:η Str):(fP ss).Pairwise fun a b=>leS a b=θ:=zd7 mj uH ss
theorem ml:∀(p:Str)(l:η Str),risingS p l=θ->(p::l).Pairwise fun a b=>leS a b=θ
 |p,[],_=>by simp
 |p,x::r,h=>by
  simp only[risingS,qa9]at h;have W:=ml x r h.2;have h1:leS p x=θ:=h.1;refine qg6.mpr ⟨fun y U=>?_,W⟩;rcases qa5.mp U with rfl|U
  .exact h1
  .exact mj _ _ _ h1 ((qg6.mp W).1 y U)
theorem uI:∀l:η Str,sortedS l=θ->l.Pairwise fun a b=>leS a b=θ
 |[],_=>qr7
 |x::r,h=>ml x r h
theorem iZ:∀{a b:η Str},a.Perm b->(a.Pairwise fun a b=>leS a b=θ)->(b.Pairwise fun a b=>leS a b=θ)->a=b
 |[],_,p,_,_=>p.nil_eq
 |x::r,b,p,U,W=>by
  cases b with
  |nil=>exact absurd p.length_eq Ξ
  |cons y t=>
   have Z:x∈y::t:=p.mem_iff.mp (.head _);have Y:y∈x::r:=p.mem_iff.mpr (.head _)
   have e:x=y:=by
    rcases qa5.mp Z with h|h
    .exact h
    .rcases qa5.mp Y with h'|h'
     .exact h'.symm
     .exact pb ((qg6.mp U).1 y h') ((qg6.mp W).1 x h)
   subst e;rw[iZ (zn0.cons_inv p) (qg6.mp U).2 (qg6.mp W).2]
section
variable{X:Cx}
theorem mo{F:Hp}:∀ss:η Str,Reps K F (ss.map .str) (ss.map V.str)
 |[]=>by simp only[qm4,Reps]
 |x::ss=>by simp only[qa4,Reps];exact⟨_,_,rfl,by simp only[Rep],mo ss⟩
end
def EntA(h:Heap)(d:J9)(ks:η Value)(ep:Nat):Prop:=∃o es,h.get? d=ς o/\o.ExactDict/\o.data=.dict es ep/\es.toList.map (·.key)=ks
theorem EntA.upTo{d:J9}{ks:η Value}(q:EntA h d ks ep)(k:∀o,h.get? d=ς o->h'.get? d=ς o):EntA h' d ks ep:=let ⟨o,es,h1,r⟩:=q;⟨o,es,k o h1,r⟩
theorem EntA.ty{d:J9}{ks:η Value}(q:EntA s.heap d ks ep):s.TypeIs (.ref d) "dict":=let ⟨o,_,h1,h2,_⟩:=q;⟨o,h1,h2.1⟩
theorem EntA.lt{d:J9}{ks:η Value}(q:EntA h d ks ep):d<h.objs.size:=let ⟨_,_,h1,_⟩:=q;qb0 h1
section
variable{prog:qc5}{w:Ja}{A:qe1}{E:Value->qa3->Prop}{s:qa3}{d it:J9}{ks:η Value}{i ep:Nat}
def w6(lo:(d==qk8)=ξ)(q:EntA s.heap d ks ep)
 (k:Q (.ref s.heap.objs.size) {s with heap:=s.heap.push {cls:=.type "dict_keyiterator",data:=.fields #[.ref d,.int 0 0,.int ks.length 0,.int ep 0]}}):wpAny (model prog w) A (zi6 (.ref d)) Q E s:=by
 obtain⟨o,es,U,e2,W,Z⟩:=id q;refine zc1 q.ty F.slot_dict_iter (qf2 F.slot_dict_iter q.ty F.entry_dict_iter ?_ (F.args_dict_iter_1 _));unfold qh6.«dict.__iter__»;refine wB ?_;unfold qh6.Dict.dictSlotNone;refine wB (zh4 q.ty ?_);show wpAny _ _ (pure (qf3 d)) _ _ s;refine qa2 ?_;show wpAny _ _ (zh5 d >>= _) _ _ s;unfold zh5;rw[if_neg (by rw[lo];exact qb5)];refine wB (qa2 ?_);refine wB (zc2 U W (wB (zh6 U W ?_)));have Y:es.size=ks.length:=by rw[<- Z];simp
 refine wB (qd7 (qa2 ⟨_,rfl,"dict_keyiterator",_,⟨_,qa7 _ rfl,rfl⟩,qk3.lookup,?_⟩));simpa[qf7,Y] using k
theorem w8 {key:Value} {Q:ζ Value->qa3->Prop} (st:s.heap.IsKeyIter it d i ks.length ep) (q:EntA s.heap d ks ep) (hk:ks[i]?=ς key)
  (k:∀h',h'.IsKeyIter it d (i+1) ks.length ep->qg2 it s.heap h'->Q (ς key) {s with heap:=h'}):wpAny (model prog w) A (qp9 (.ref it)) Q E s:=by
 obtain⟨oi,i1,i2,Y⟩:=id st;obtain⟨o,es,e1,e2,Z,e4⟩:=id q;unfold qp9;refine wB (qp8 (qe5 (name:=qa0 "__next__") st.typeIs qk3 (qf2 qk3 st.typeIs qx0 ?_ (qw6 _))));refine wB (qa2 (wB (wB ?_)))
 first|refine wB (qm0 st.typeIs (qa2 ?_))|refine wB (qp2 st.typeIs (qa2 ?_))
 refine wB (qt0 i1 Y ?_);have ow:qx9 "dict_keyiterator"=ξ:=by decide
 simp only[ow,qd1,if_false];show wpAny _ _ (if(qf3 d==qi9)=θ then _ else _) _ _ s;rw[if_neg (show ¬ ((qf3 d==qi9)=θ)from qb5)];refine wB (qa2 (wB (zc2 e1 Z ?_)));have ez:es.size=ks.length:=by rw[<- e4];simp
 rw[if_neg (by rw[ez];simp)];refine wB (qa2 (wB (zh6 e1 Z ?_)));rw[if_neg Ξ];refine qa2 ?_;have li:i<es.size:=by rw[ez];exact(gX hk).1
 have W:es[i].key=key:=by rw[<- e4,qb3,qr0,qh3 li]at hk;exact qd6 hk
 simp only[show ¬ ((i:Int)<0)from by lia,if_false,qe8,qh3 li];refine wB ?_
 first|refine wB (qm0 st.typeIs (qa2 ?_))|refine wB (qp2 st.typeIs (qa2 ?_))
 refine wB (zh7 st.typeIs ?_);show wpAny _ _ (zd8 (.ref it) 1 (qf7 ((i:Int)+1)) >>= _) _ _ s;refine qg4 (ql4 i1 Y Ξ ?_)
 have U:(s.heap.update it (qs0 (·.setIfInBounds 1 (qf7 ((i:Int)+1))))).IsKeyIter it d (i+1) ks.length ep:=⟨_,qe3 _ i1 (qk1 (qf0 Y _)),(qr9 ..).trans i2,by rw[qf0 Y];simp[qf7]⟩
 refine wB (qh9 (wB (zh7 (s:={s with heap:=s.heap.update it (qs0 (·.setIfInBounds 1 (qf7 ((i:Int)+1))))}) U.typeIs ?_)));show wpAny _ _ (pure es[i].key) _ _ _;rw[W];exact qa2 (qa2 ⟨_,rfl,qa2 (k _ U (qf6 ..))⟩)
theorem Am {Q:ζ Value->qa3->Prop} (nh:A.handled=ψ) (st:s.heap.IsKeyIter it d i ks.length ep) (q:EntA s.heap d ks ep) (hi:i=ks.length)
  (k:∀h',zd3 it s.heap h'->Q ψ {s with heap:=h'}):wpAny (model prog w) A (qp9 (.ref it)) Q E s:=by
 obtain⟨oi,i1,i2,Z⟩:=id st;obtain⟨o,es,Y,e2,U,e4⟩:=id q;unfold qp9;refine wB (qp8 (qe5 (name:=qa0 "__next__") st.typeIs qk3 (qf2 qk3 st.typeIs qx0 ?_ (qw6 _))));refine wB (qa2 (wB (wB ?_)))
 first|refine wB (qm0 st.typeIs (qa2 ?_))|refine wB (qp2 st.typeIs (qa2 ?_))
 refine wB (qt0 i1 Z ?_);have ow:qx9 "dict_keyiterator"=ξ:=by decide
 simp only[ow,qd1,if_false];show wpAny _ _ (if(qf3 d==qi9)=θ then _ else _) _ _ s;rw[if_neg (show ¬ ((qf3 d==qi9)=θ)from qb5)];refine wB (qa2 (wB (zc2 Y U ?_)));have W:es.size=ks.length:=by rw[<- e4];simp
 rw[if_neg (by rw[W];simp)];refine wB (qa2 (wB (zh6 Y U ?_)));rw[if_neg Ξ];refine qa2 ?_;have ge:es.size<=i:=by rw[W];lia
 simp only[show ¬ ((i:Int)<0)from by lia,if_false,qe8,qq3 ge];refine wB ?_
 first|refine wB (qm0 st.typeIs (qa2 ?_))|refine wB (qp2 st.typeIs (qa2 ?_))
 show wpAny _ _ (zd8 (.ref it) 0 .none >>= _) _ _ s;refine qg4 (ql4 i1 Z Ξ ?_);show wpAny _ _ (zk7 (.type "StopIteration") [] >>= _) _ _ _;refine wB ?_;simp only[zk7,zm5];refine wB (qd7 ?_ (by size_fits));refine qg4 (m:=qn8 _ _) (qz5 (a:=qi9) (by first|rfl|(simp only[qn8];rfl)) (qd7 ?_ (by size_fits)));simp only[zk8];refine wB (zd4 ?_);rw[show A.in1.handled=ψ from nh];refine wB (qa2 (zj5 ?_));refine wB (qn3 (b:=true) (T:="StopIteration") ⟨_,qa7 _ rfl,rfl⟩ za9 ?_);exact qa2 (k _ (((qf6 ..).extBut.push _).push _))
theorem uJ(nh:A.handled=ψ)(Z:d≠it):Walks prog w A it [it,d] [it] ks.length (fun i v=>ks[i]?=ς v) (fun i h=>h.IsKeyIter it d i ks.length ep/\EntA h d ks ep) where
 sub:=fun b U=>by simp at U;simp[U]
 frame:=fun _ _ _ st hk=>⟨let ⟨o,h1,r⟩:=st.1;⟨o,hk it Ξ o h1,r⟩,st.2.upTo fun o e=>hk d Ξ o e⟩
 item:=fun i s Q E hi st W=>w8 st.1 st.2 (key:=ks[i]) (by simp[hi]) fun h' Y sb=>W _ h' s.toks (by simp[hi]) ⟨Y,st.2.upTo fun o e=>sb.extBut d o Z e⟩ fun b o U e=>sb.extBut b o (fun z=>U (by simp[z])) e
 done:=fun s Q E st W=>Am nh st.1 st.2 rfl fun h' eb=>W h' s.toks fun b o U e=>eb b o (fun z=>U (by simp[z])) e
 self:=fun _ _ _ _ st W=>wpAny_pyIter_keyiter st.1 W
theorem sE(lo:(d==qk8)=ξ):PySem.W.KdlSrc prog w "dict" d d ks.length (fun i v=>ks[i]?=ς v) (fun h=>EntA h d ks ep) where
 type:=fun _ q=>q.ty
 there:=fun _ q=>⟨q.lt,q.lt⟩
 keep:=fun _ _ q hk=>q.upTo fun o e=>hk d (.inl rfl) o e
 notList:=by decide
 notTuple:=by decide
 hint:=fun _ _ _ _ q U=>PySem.W.kdl_hint_dict q.ty U
 iter:=fun _ _ Y q=>⟨_,_,(fun _ _ U=>w6 lo q U),uJ Y (qb8 q.lt),⟨⟨_,qa7 _ rfl,rfl,rfl⟩,q.upTo fun o e=>gP _ e⟩⟩
end
set_option maxRecDepth 20000
def Rs(xs:Array Nat):Prop:=xs.toList.Pairwise (· < ·)
variable{xs:Array Nat}
theorem Rs.lt(h:Rs xs){k:Nat}(hi:i<k)(hk:k<xs.size):xs[i]<xs[k]:=by have:=List.pairwise_iff_getElem.mp h i k (by simp;lia) (by simpa using hk) hi;simpa using this
def Cut(xs:Array Nat)(j p:Nat):Prop:=p<=xs.size/\(∀i (q:i<xs.size),i<p->xs[i]<j)/\∀i (q:i<xs.size),p<=i->j<=xs[i]
variable{j:Nat}
theorem qF(h:Rs xs):∀n lo hi,hi<=xs.size->lo<=hi->hi-lo<=n->(∀i (q:i<xs.size),i<lo->xs[i]<j)->(∀i (q:i<xs.size),hi<=i->j<=xs[i])->Cut xs j (qg7.go xs j n lo hi)
 |0,lo,hi,h1,h2,h3,W,U=>by
  have e:lo=hi:=by lia
  subst e;exact⟨h1,W,U⟩
 |n+1,lo,hi,h1,h2,h3,W,U=>by
  rw[qg7.go];by_cases c:lo<hi
  .rw[if_pos c];have Z:(lo+hi)/2<xs.size:=by lia
   dsimp only;rw[Array.getD_eq_getD_getElem?,qh3 Z,Option.getD_some];by_cases d:xs[(lo+hi)/2]<j
   .rw[if_pos d];refine qF h n _ hi h1 Θ Θ (fun i q Y=>?_) U;by_cases e:i=(lo+hi)/2
    .subst e;exact d
    .exact qp6 (h.lt (by lia:i<(lo+hi)/2) Z) d
   .rw[if_neg d];refine qF h n lo _ Θ Θ Θ W fun i q Y=>?_
    by_cases e:i=(lo+hi)/2
    .subst e;lia
    .have:=h.lt (by lia:(lo+hi)/2<i) q;lia
  .rw[if_neg c];have e:lo=hi:=by lia
   subst e;exact⟨h1,W,U⟩
theorem i4(h:Rs xs)(j:Nat):Cut xs j (qg7 xs j):=qF h _ _ _ (nL _) (qk6 _) (nL _) (fun i _ z=>absurd z (qz8 _)) fun i q z=>absurd q (qy5.mpr z)
variable{p:Nat}
theorem Cut.uniq{q:Nat}(a:Cut xs j p)(b:Cut xs j q):p=q:=by
 obtain⟨a1,U,Z⟩:=a;obtain⟨b1,W,Y⟩:=b;rcases Nat.lt_trichotomy p q with h|h|h
 .have x:=W p Θ h;have y:=Z p Θ (nL _);lia
 .exact h
 .have x:=U q Θ h;have y:=Y q Θ (nL _);lia
theorem pd(h:Rs xs):qg7 xs 0=0:=(i4 h 0).uniq ⟨qk6 _,fun i _ z=>absurd z (qz8 _),fun _ _ _=>qk6 _⟩
theorem qG(h:Rs xs)(hi:i<xs.size):qg7 xs (xs[i]+1)=i+1:=(i4 h _).uniq ⟨hi,fun k q hk=>by
 by_cases e:k=i
 .subst e;lia
 .exact qh4 (h.lt (by lia:k<i) hi),fun k q hk=>h.lt hk q⟩
theorem w9{α:Type}(xs:Array α)(p:Nat)(x:α):(zc3 xs p x).toList=xs.toList.take p++x::xs.toList.drop p:=by simp only[zc3,qz3,zc4,Array.toList_extract,qk0,List.singleton_append];simp;rw[List.take_of_length_le Ξ]
theorem DN(h:Rs xs)(hj:xs[qg7 xs j]?≠ς j):Rs (zc3 xs (qg7 xs j) j):=by
 obtain⟨c1,c2,c3⟩:=i4 h j;generalize qg7 xs j=p at*
 have Z:∀a∈xs.toList.take p,a<j:=fun a W=>by
  obtain⟨i,hi,rfl⟩:=qs1.mp W;have U:i<p/\i<xs.size:=by simp at hi;lia
  simpa using c2 i U.2 U.1
 have hg:∀a∈xs.toList.drop p,j<a:=fun a W=>by
  obtain⟨i,hi,rfl⟩:=qs1.mp W;have U:p+i<xs.size:=by simp at hi;lia
  have:=c3 (p+i) U Θ
  have hne:xs[p+i]≠j:=fun e=>by
   by_cases z:i=0
   .subst z;exact hj (by rw[qh3 (by simpa using U)];simpa using e)
   .have y:=c3 p Θ (nL _);have w:=h.lt (by lia:p<p+i) U;lia
  simp;lia
 unfold Rs;rw[w9,qs2];refine⟨h.sublist (zb7 _ _),qg6.mpr ⟨hg,h.sublist (List.drop_sublist _ _)⟩,fun a W b Y=>?_⟩;rcases qa5.mp Y with rfl|Y
 .exact Z a W
 .exact qp6 (Z a W) (hg b Y)
def Fre(t:qg8)(j:Nat):Prop:=t.place[qg7 t.place j]?≠ς j
theorem pe{t:qg8}(h:∀i,t.slot j≠.live i):Fre t j:=fun z=>by refine h (qg7 t.place j) ?_;unfold qg8.slot;dsimp only;rw[if_pos (by rw[z];simp)]
theorem mq(t:qg8)(p:qg8.Probe):(t.advance p).dummy=p.dummy:=by unfold qg8.advance;split<;>rfl
theorem i5{t:qg8}{g:Nat->Int}{h:Int}:∀n p,(∀d,p.dummy=ς d->Fre t d)->∀j d,qg8.probe.go t g h n p=ς (.empty j d)->Fre t j/\∀k,d=ς k->Fre t k
 |0,p,hp,j,d,e=>by cases e
 |n+1,p,hp,j,d,e=>by
  rw[qg8.probe.go]at e;split at e
  .rename_i U;cases e;exact⟨pe fun i z=>(by rw[U]at z;cases z),hp⟩
  .rename_i U;refine i5 n _ (fun k hk=>?_) j d e;rw[mq]at hk;cases hk;exact pe fun i z=>by rw[U]at z;cases z
  .split at e
   .cases e
   .exact i5 n _ (fun k hk=>hp k (by rw[mq]at hk;exact hk)) j d e
theorem xa{t:qg8}{h:Int}(e:t.freeSlot h=ς (j,b)):Fre t j:=by
 unfold qg8.freeSlot at e;split at e
 .rename_i k d hk;obtain⟨h1,h2⟩:=i5 _ _ (fun d z=>by cases z) k d hk;cases e;cases d with
  |none=>exact h1
  |some x=>exact h2 x rfl
 .cases e
theorem iC(n:Nat):Rs (Array.range n):=by unfold Rs;rw[Array.toList_range];exact zf6
theorem qH{t:qg8}(n:Nat)(h:Rs t.place):Rs (t.orStandIn n).place:=by
 unfold qg8.orStandIn;split
 .exact h
 .exact iC n
theorem uK{t:qg8}(h:Rs t.place)(es:Array (Int×Value))(k:Int)(x:Value):Rs (layNew t es k x).2.1.place:=by
 unfold layNew;split
 .rename_i j b e;exact qH _ (DN h (xa e))
 .exact iC _
theorem xb(t:qg8)(es:Array (Int×Value))(n:Nat):Rs (zd9 t es n).2.1.place:=by
 unfold zd9;split
 .rename_i t' U e;dsimp only;split
  .unfold qg8.relaid qg8.laid at e;simp only[Option.bind_eq_bind,qu5,qv5]at e;obtain⟨_,_,e⟩:=e;cases e;unfold Rs;dsimp only;rw[qv8,List.pairwise_filterMap];refine qv9 (fun {a b} W x Y y Z=>?_) zf6;obtain⟨_,_,rfl⟩:=mS Y;obtain⟨_,_,rfl⟩:=mS Z;exact W
  .exact iC _
 .exact iC _
theorem qI(t:qg8)(es:Array (Int×Value))(h:Int)(x:Value):(layNew t es h x).2.1.led=t.led:=by
 unfold layNew;split
 .dsimp only;unfold qg8.orStandIn;split<;>rfl
 .rfl
theorem uL(t:qg8)(es:Array (Int×Value))(n:Nat):(zd9 t es n).2.1.led=t.led:=by
 unfold zd9;split
 .rename_i t' U e;dsimp only;split
  .unfold qg8.relaid qg8.laid at e;simp only[Option.bind_eq_bind,qu5,qv5]at e;obtain⟨_,_,e⟩:=e;cases e;rfl
  .rfl
 .rfl
structure SK(P:qc5)(u:Ja)(K:Type)[DecidableEq K] where
 knd:PySem.KeyKind P u K
 put:K->Tok->Value
 of:Value->K
 is:∀k t,knd.is k (put k t)=θ
 ofmk:∀k t,of (put k t)=k
 shape:∀{k v},knd.is k v=θ->∃t,v=put k t
 scan:∀k t,(put k t).scannable=θ
noncomputable def uM(P:qc5)(u:Ja):SK P u Str where
 knd:=PySem.strKind P u
 put:=.str
 of v:=match v with|.str k _=>k|_=>""
 is:=strKind_is P u
 ofmk _ _:=rfl
 shape {k v} h:=by
  cases v<;>simp[PySem.strKind,zj6]at h
  subst h;exact⟨_,rfl⟩
 scan _ _:=rfl
noncomputable def uN(P:qc5)(u:Ja):SK P u Int where
 knd:=PySem.intKind P u
 put:=.int
 of v:=match v with|.int k _=>k|_=>0
 is k t:=by simp[PySem.intKind,Value.isInt]
 ofmk _ _:=rfl
 shape {k v} h:=Value.isInt_shape h
 scan _ _:=rfl
section
variable{P:qc5}{u:Ja}{K:Type}[DecidableEq K]{κ:SK P u K}
structure Tx(κ:SK P u K)(l:List (Int×Value))(ss:List K):Prop where
 all:∀e∈l,∃k t,e.2=κ.put k t/\e.1=κ.knd.hash k
 per:(l.map fun e=>κ.of e.2).Perm ss
 nd:ss.Nodup
theorem Tx.elems{l:η (Int×Value)}{ss:η K}(x:Tx κ l ss):ElemsOf κ.knd l:=fun e U=>by obtain⟨k,t,h1,h2⟩:=x.all e U;rw[h1];exact⟨⟨k,κ.is k t,h2⟩,κ.scan k t⟩
theorem Tx.perm{l m:η (Int×Value)}{ss:η K}(x:Tx κ l ss)(p:m.Perm l):Tx κ m ss:=⟨fun e U=>x.all e (p.mem_iff.mp U),(p.map _).trans x.per,x.nd⟩
theorem Tx.mem{l:η (Int×Value)}{ss:η K}(x:Tx κ l ss)(k:K):k∈ss↔∃e∈l,κ.knd.is k e.2=θ:=by
 rw[<- x.per.mem_iff];constructor
 .intro h;obtain⟨e,U,W⟩:=qc8.mp h;obtain⟨k',t,h1,_⟩:=x.all e U;rw[h1,κ.ofmk]at W;refine⟨e,U,?_⟩;rw[h1,<- W];exact κ.is k' t
 .rintro⟨e,U,h⟩;obtain⟨t,h1⟩:=κ.shape h;exact qc8.mpr ⟨e,U,by rw[h1,κ.ofmk]⟩
theorem Tx.push{l:η (Int×Value)}{ss:η K}(x:Tx κ l ss){k:K}{t:Tok}(hk:k∉ss):Tx κ (l++[(κ.knd.hash k,κ.put k t)]) (ss++[k]):=⟨fun e U=>by
 rcases qi3.mp U with U|U
 .exact x.all e U
 .rw[qb1.mp U];exact⟨k,t,rfl,rfl⟩,by
 rw[qd3];have:List.map (fun e=>κ.of e.2) [(κ.knd.hash k,κ.put k t)]=[k]:=by simp[κ.ofmk]
 rw[this];exact x.per.append_right _,by
 refine qm6.mpr ⟨x.nd,Ξ,fun a W b Y e=>?_⟩;rw[qb1.mp Y]at e;exact hk (e▸W)⟩
structure TxS(κ:SK P u K)(h:Heap)(a:J9)(ss:List K)(led:Bool):Prop where
 ex:∃o es ep t,h.get? a=ς o/\o.ExactSet/\o.data=.set es ep t/\Tx κ es.toList ss/\es.size<qp3/\t.fits es.size=θ/\t.led=led/\Rs t.place
end
variable{hp:Heap}
section
variable{P:qc5}{u:Ja}{K:Type}[DecidableEq K]{κ:SK P u K}{A:qe1}{E:Value->qa3->Prop}{s:qa3}{a:J9}{ss:η K}{led:Bool}
theorem mr {es fs:Array (Int×Value)} {tb tc:qg8} (g1:hp.get? a=ς o) (g2:o.ExactSet) (g3:o.data=.set es ep tb) (x:Tx κ fs.toList ss) (U:fs.size<qp3) (W:tc.fits fs.size=θ) (Y:tc.led=led) (Z:Rs tc.place) :
  (hp.update a (Obj.putSet fs tc)).get? a=ς {o with data:=.set fs (ep+1) tc}/\TxS κ (hp.update a (Obj.putSet fs tc)) a ss led:=by
 have e:=(SetOf_store (knd:=κ.knd) (S':=fun k=>decide (k∈ss)) g1 g2 g3 x.elems (fun k=>by rw[decide_eq_true_eq];exact x.mem k) U W).1;exact⟨e,⟨_,fs,ep+1,tc,e,g2,rfl,x,U,W,Y,Z⟩⟩
theorem An {k:K} {t:Tok} {Q:Bool->qa3->Prop} (hS:TxS κ s.heap a ss led) (room:ss.length+1<qp3)
  (q:∀hp,qg2 a s.heap hp->TxS κ hp a (if k∈ss then ss else ss++[k]) led->∀b,Q b {s with heap:=hp}):wpAny (model P u) A (setAddHashed a (κ.put k t) (κ.knd.hash k)) Q E s:=by
 obtain⟨o,es,ep,tb,g1,g2,g3,x,hb,hf,hl,hpl⟩:=hS.ex;have hn:es.size=ss.length:=by rw[<- x.per.length_eq,qa1,qf1]
 have big:es.size+1<qp3:=by rw[hn];exact room
 unfold setAddHashed setAddHashedIn;refine qh9 (wB (qf8 g1 g3 hf ?_));dsimp only;rw[byScan_of (knd:=κ.knd) (κ.scan k t) hb x.elems];simp only[↓reduceIte];unfold setAddByScan;refine wB (wB (qu1 (wB (wpAny_setScan_of (κ.is k t) g1 g3 hf x.elems ?_))));cases hr:List.findIdx? (fun e=>κ.knd.is k e.2) es.toList with
 |some j=>dsimp only;obtain⟨hj,hpj,_⟩:=List.findIdx?_eq_some_iff_getElem.mp hr;have hm:k∈ss:=(x.mem k).mpr ⟨es.toList[j],qx1 hj,hpj⟩;refine qa2 (qa2 ?_);have:=q s.heap (qg2.refl a s.heap) (by rw[if_pos hm];exact hS) ξ;rw[show s={s with heap:=s.heap} by cases s;rfl];exact this
 |none=>
  dsimp only
  have hm:k∉ss:=fun z=>by obtain⟨e,he,hp⟩:=(x.mem k).mp z;have:=List.findIdx?_eq_none_iff.mp hr e he;rw[hp]at this;exact Bool.noConfusion this
  rw[if_neg hm]at q;have perm:=layNew_perm tb es (κ.knd.hash k) (κ.put k t);have fits:=layNew_fits tb es (κ.knd.hash k) (κ.put k t);have ledd:=And.intro (qI tb es (κ.knd.hash k) (κ.put k t)) (uK hpl es (κ.knd.hash k) (κ.put k t));generalize layNew tb es (κ.knd.hash k) (κ.put k t)=L at perm fits ledd ⊢;obtain⟨fs,tc,wasD,gave⟩:=L;dsimp only at perm fits ledd ⊢;rw[zc4]at perm;have y:Tx κ fs.toList (ss++[k]):=(x.push hm).perm perm;have hb2:fs.size<qp3:=by rw[<- qf1,perm.length_eq,qc4,qf1];simpa using big
  have gw:∀(b:Bool){s1:qa3}{Q1:Unit->qa3->Prop},Q1 () s1->wpAny (model P u) A (match b with|true=>rule "set.scan.the-table-gave-way"|false=>pure ()) Q1 E s1:=fun b s1 Q1 z=>by
   cases b
   .exact qa2 z
   .exact qu1 z
  refine wB (gw _ ?_)
  have tail:∀ tc2:qg8,tc2.fits fs.size=θ->tc2.led=led->Rs tc2.place->wpAny (model P u) A (do
      storeSet a fs tc2
      if (!wasD&&tc2.tooFull)=θ then do
          (match (zd9 tc2 fs (qn9 fs.size)).2.2 with|true=>rule "set.scan.the-table-gave-way"|false=>pure ())
          storeSet a (zd9 tc2 fs (qn9 fs.size)).1 (zd9 tc2 fs (qn9 fs.size)).2.1
          pure (ς θ)
       else pure (ς θ)) (fun r s1=>wpAny (model P u) A (match r with|some added=>pure added|none=>setAddHashedIn a (κ.put k t) (κ.knd.hash k) 99999) Q E s1) E s:=fun tc2 h1 h2 h3=>by
   refine wB (wpAny_storeSet_of g1 g3 ?_ (qw0 hb2));obtain⟨e1,T1⟩:=mr g1 g2 g3 y hb2 h1 h2 h3;have sb:=qf6 s.heap a (Obj.putSet fs tc2);split
   .have p2:=relayAll_perm tc2 fs (qn9 fs.size);have f2:=relayAll_fits tc2 fs (qn9 fs.size);have l2:=And.intro (uL tc2 fs (qn9 fs.size)) (xb tc2 fs (qn9 fs.size));generalize zd9 tc2 fs (qn9 fs.size)=M at p2 f2 l2 ⊢;obtain⟨gs,td,gave2⟩:=M;dsimp only at p2 f2 l2 ⊢;have sz:gs.size=fs.size:=by rw[<- qf1,p2.length_eq,qf1]
    have hb3:gs.size<qp3:=by rw[sz];exact hb2
    refine wB (gw _ (wB (wpAny_storeSet_of e1 rfl ?_ (qw0 hb3))));obtain⟨_,T2⟩:=mr e1 g2 rfl (y.perm p2) hb3 f2 (l2.1.trans h2) l2.2;exact qa2 (qa2 (q _ (sb.trans (qf6 _ a _)) T2 θ))
   .exact qa2 (qa2 (q _ sb T1 θ))
  split
  .refine wB ?_;rw[hashByValue_scannable 8 (κ.scan k t)];refine qa2 ?_;split
   .exact tail tc fits (ledd.1.trans hl) ledd.2
   .exact tail {tc with plain:=false} (qg8.fits_plain_off fits) (ledd.1.trans hl) ledd.2
  .refine wB (qa2 ?_);exact tail tc fits (ledd.1.trans hl) ledd.2
end
noncomputable def cW{K:Type}[DecidableEq K](J5:η K)(k:K):η K:=if k∈J5 then J5 else J5++[k]
def met{K:Type}[DecidableEq K](val:Nat->K)(i:Nat):η K:=((qb7 i).map val).foldl cW []
theorem pf{K:Type}[DecidableEq K](val:Nat->K)(i:Nat):met val (i+1)=cW (met val i) (val i):=by unfold met;rw[List.range_succ,qd3,List.foldl_append];rfl
theorem nu{K:Type}[DecidableEq K](val:Nat->K):∀i,(met val i).length<=i
 |0=>nL _
 |i+1=>by
  rw[pf];have:=nu val i;unfold cW;split
  .lia
  .rw[qc4,zh0];lia
section
variable{P:qc5}{u:Ja}{K:Type}[DecidableEq K]{κ:SK P u K}{A:qe1}{R:zn1->qa3->Prop}{I:J9}{fp wr:η J9}{G:Array GenState->Array GenState->Prop}{n:Nat}{Pv:Nat->Value->Prop}{St:Nat->qa3->Prop}{led:Bool}
theorem TxS.moved{ss:η K}(x:TxS κ h a ss led)(e:∀o,h.get? a=ς o->h'.get? a=ς o):TxS κ h' a ss led:=by obtain⟨o,es,ep,t,g,r⟩:=x.ex;exact⟨o,es,ep,t,e o g,r⟩
theorem xc (W:WalksS P u A.in1 I fp wr G n Pv St) (S:J9) (out:S∉fp) (val:Nat->K) (hval:∀ i v,Pv i v->∃ t,v=κ.put (val i) t) (Y:n+1<qp3) :
  ∀(m i:Nat)(s:qa3),n-i=m->i<=n->St i s->TxS κ s.heap S (met val i) led->(∀s',Moved (S::wr) G s s'->TxS κ s'.heap S (met val n) led->R (.ok (.ret .none)) s')→
   qq7 (model P u) A (.builtin "set.update.loop" ⟨[.ref S,.ref I],[]⟩) R s:=by
 have nw:S∉wr:=fun h=>out (W.sub _ h)
 have Z:∀b∈wr,b∈S::wr:=fun b Y=>qd4 _ Y
 intro m;induction m with
 |zero=>
  intro i s hm hi U hS hR;obtain rfl:i=n:=by lia
  refine qj2 ze0 ?_;rw[qg3 qv2 _];refine wB (W.done s _ _ U fun s1 mv=>?_);exact qa2 (hR s1 (mv.mono Z) (hS.moved fun o e=>mv.heap S _ nw e))
 |succ m ih=>
  intro i s hm hi U hS hR;have lt:i<n:=by lia
  refine qj2 ze0 ?_;rw[qg3 qv2 _];refine wB (W.item i s _ _ lt U fun v s1 hP hst1 mv=>?_);obtain⟨t,rfl⟩:=hval i v hP;have hS1:TxS κ s1.heap S (met val i) led:=hS.moved fun o e=>mv.heap S _ nw e
  show wpAny _ A.in1 (qy8 [κ.put (val i) t] (setAdd S (κ.put (val i) t)) >>= _) _ _ s1;refine wB (qh9 ?_);unfold setAdd;refine qh9 (wB (κ.knd.pyHash (k:=val i) (κ.is _ _) ?_));have room:(met val i).length+1<qp3:=by have:=nu val i;lia
  refine An (s:={s1 with toks:=s1.toks+1}) hS1 room fun h2 sb hS2 b=>?_
  have hS3:TxS κ h2 S (met val (i+1)) led:=by rw[pf];exact hS2
  refine qa2 ⟨ql5 qv2 _,ih (i+1) _ Θ lt (W.frame _ s1 _ _ hst1 (zd5 _) fun b Y o e=>?_) hS3 fun s2 mv2 hS4=>?_⟩
  .rw[sb.2 b (fun h:b=S=>out (by rw[<- h];exact Y))];exact e
  .refine hR s2 (Moved.trans W.gtrans ((mv.mono Z).then_heap (zd5 _) fun b o Y e=>?_) mv2) hS4;rw[sb.2 b (fun h:b=S=>Y (by rw[h];exact qe7))];exact e
end
noncomputable def cL(u:Ja):Bool:=!(u.params.followText "set-order")
section
variable{P:qc5}{u:Ja}{K:Type}[DecidableEq K]{κ:SK P u K}{A:qe1}{E:Value->qa3->Prop}{s:qa3}
theorem Ao (v:Value) {Q1:Value->qa3->Prop} (q:Q1 (.ref s.heap.objs.size) {s with heap:=s.heap.push {cls:=.type "set",dict:=ψ,data:=.set #[] 0 (.fresh 0 0 (cL u))}}) :
  qq7 (model P u) A (.call (.builtin "set.__new__") ⟨[.type "set",v],[]⟩) (wants Q1 E) s:=by
 refine codeAny_of_tree ?_;show wpAny _ A.in1 (do checkBuiltinCall "set.__new__" ⟨[.type "set",v],[]⟩;again (.builtin "set.__new__" ⟨[.type "set",v],[]⟩)) _ _ s;refine wB (qz5 (F.newCall_set_1 v) (qa2 ⟨ql5 F.plain_set_new _,qj2 F.entry_set_new ?_⟩));rw[qg3 F.plain_set_new _];unfold qh6.«set.__new__» qh6.Frozenset.newClass;have z:=sub_set_self;obtain⟨hp,g,d,tk,U⟩:=s;dsimp only;wp_walk;refine qq0 (qa2 ?_);dsimp only;simp only[newObj];refine wB (wpAny_alloc (qa2 ?_));exact qa2 q
end
variable{led:Bool}
section
variable{P:qc5}{u:Ja}{K:Type}[DecidableEq K]{κ:SK P u K}{A:qe1}{E:Value->qa3->Prop}{s:qa3}
theorem uO(e:hp.get? a=ς {cls:=.type "set",dict:=ψ,data:=.set #[] 0 (.fresh 0 0 led)}):TxS κ hp a [] led:=⟨_,#[],0,.fresh 0 0 led,e,⟨rfl,rfl,rfl⟩,rfl,⟨(fun e U=>by cases U),zb1 _,qs5⟩,(by unfold qp3;decide),(by cases led<;>rfl),rfl,.nil⟩
theorem xf{l:J9}{val:Nat->K}(calm:A.handled=ψ)(hl:s.heap.IsList l vs)(hi:∀(i:Nat)(v:Value),vs[i]?=ς v->∃t,v=κ.put (val i) t)(hb:vs.size+1<qp3)
 (q:∀(hp:Heap)(tk:Nat),TxS κ hp s.heap.objs.size (met val vs.size) (cL u)->(∀b o,b<s.heap.objs.size->s.heap.get? b=ς o->hp.get? b=ς o)->Q (.ref s.heap.objs.size) {s with heap:=hp,toks:=tk}) :
  wpAny (model P u) A (call (.type "set") [.ref l]) Q E s:=by
 obtain⟨c0,tl0,m0⟩:=qr1.mro;have m1:=qr1.made;have m2:=qr1.sub;refine zl2 (codeAny_of_tree ?_);show wpAny _ _ (callAny (.type "set") _) _ _ _;refine qa2 ⟨Code.quiet_builtin _ χ,qj2 F.entry_type_call ?_⟩;rw[qe1.under_plain (weight_type_call_type "set" [.ref l] []) rfl];have m3:=qr1.notType;have m4:=qr1.canCreate;have m5:=F.typeCall_set_1 (.ref l)
 repeat (any_goals (first|assumption|wp_step))
 refine qt9 (Ao (.ref l) (E:=E) (Q1:=fun x s1=>x=.ref s.heap.objs.size/\s1={s with heap:=s.heap.push {cls:=.type "set",dict:=ψ,data:=.set #[] 0 (.fresh 0 0 (cL u))}}) ⟨rfl,rfl⟩) fun r s1 hr=>?_
 cases r with
 |error e=>exact hr
 |ok fl=>
  cases fl with
  |ret x=>
   obtain⟨rfl,rfl⟩:=hr;have gS:(s.heap.push {cls:=.type "set",dict:=ψ,data:=.set #[] 0 (.fresh 0 0 (cL u))}).get? s.heap.objs.size=ς {cls:=.type "set",dict:=ψ,data:=.set #[] 0 (.fresh 0 0 (cL u))}:=qa7 _ rfl;have tS:zk9 {s with heap:=s.heap.push {cls:=.type "set",dict:=ψ,data:=.set #[] 0 (.fresh 0 0 (cL u))}} (.ref s.heap.objs.size) "set":=⟨_,gS,rfl⟩;have n1:=qr1.init.lookup;have n2:=qr1.init.bind (.ref s.heap.objs.size)
   repeat (any_goals (first|assumption|wp_step))
   refine qt9 (codeAny_call_builtin (R:=wants (fun r s2=>r=.none/\∃hp tk,s2={s with heap:=hp,toks:=tk}/\TxS κ hp s.heap.objs.size (met val vs.size) (cL u)/\(∀b o,b<s.heap.objs.size->s.heap.get? b=ς o->hp.get? b=ς o)) E) qr1.init.plain F.entry_set_init (check_set_init_1 tS ?_)) fun r2 s2 U=>?_
   .obtain⟨ol,hol,hcl,nl,hdl⟩:=hl;obtain⟨oc,od,oda,osl⟩:=ol;simp only at hcl hdl;subst hcl hdl;have Y:(s.heap.push {cls:=.type "set",dict:=ψ,data:=.set #[] 0 (.fresh 0 0 (cL u))}).get? l=ς {cls:=.type "list",dict:=od,data:=.seq vs nl,slots:=osl}:=gP _ hol;have k1:=F.sub_list_set;have k2:=F.sub_list_frozenset;have k3:(ql7 "list"==ql7 "dict")=ξ:=by decide
    have Z:(s.heap.push {cls:=.type "set",dict:=ψ,data:=.set #[] 0 (.fresh 0 0 (cL u))}).IsList l vs:=⟨_,Y,rfl,nl,rfl⟩;unfold qh6.«set.__init__» noKeywords qh6.Frozenset.updateFrom;generalize hPI:zi6=PI;wp_walk;subst hPI;refine qo7 Z (wB (wpAny_runValue ?_));have ls:l<s.heap.objs.size:=qb0 hol;have c3:A.in1.in1.in1.handled=ψ:=by simp[calm]
    have ne1:l≠(s.heap.push {cls:=.type "set",dict:=ψ,data:=.set #[] 0 (.fresh 0 0 (cL u))}).objs.size:=by rw[qd9];exact qb8 (qh4 ls)
    have ne2:s.heap.objs.size∉[(s.heap.push {cls:=.type "set",dict:=ψ,data:=.set #[] 0 (.fresh 0 0 (cL u))}).objs.size,l]:=by rw[qd9];simp only[qa5,qb1,qf4,or_false,not_or];exact⟨qb8 (qn2 _),ql6 ls⟩
    refine xc ((Walks.list c3 _ l ne1 vs).toS) s.heap.objs.size ne2 val hi hb (vs.size-0) 0 _ Θ (qk6 _) ⟨⟨_,qa7 _ rfl,rfl,rfl⟩,(Z.push _)⟩ (uO (gP _ gS)) fun s3 mv W=>?_
    obtain⟨hp,g3,d3,tk3,o3⟩:=s3;have eg:g3=s.gens:=mv.gens;have ed:d3=s.drawn:=mv.drawn;have eo:o3=s.os:=mv.os;subst eg ed eo;show wpAny _ _ _ _ _ _;refine qa2 ?_;show wpAny _ _ (ret qi9) _ _ _;refine qa2 ⟨rfl,hp,tk3,rfl,W,fun b o hb e=>?_⟩;have b1:b≠s.heap.objs.size:=qb8 hb
    have b2:b≠(s.heap.push {cls:=.type "set",dict:=ψ,data:=.set #[] 0 (.fresh 0 0 (cL u))}).objs.size:=by rw[qd9];exact qb8 (qh4 hb)
    exact mv.heap b o (by simp only[qa5,qb1,qf4,or_false,not_or];exact⟨b1,b2⟩) (ql0 _ (ql0 _ e))
   .cases r2 with
    |error e=>exact U
    |ok f2=>
     cases f2 with
     |ret r=>
      obtain⟨rfl,hp,tk,rfl,W,kept⟩:=U
      repeat (any_goals (first|assumption|wp_step))
      exact q _ _ W kept
     |_=>exact U.elim
  |_=>exact hr.elim
end
theorem i6{α:Type}:∀{l:η α}{i:Nat}(h:i<l.length),(l[i]::l.eraseIdx i).Perm l
 |x::l,0,h=>zb1 _
 |x::l,i+1,h=>by have:=i6 (l:=l) (i:=i) (by simpa using h);exact(zn0.swap _ _ _).trans (this.cons x)
section
variable{M:Model}{A:qe1}{E:Value->qa3->Prop}
theorem qJ{src:Source}{Q:Nat->qa3->Prop}(U:n≠0)(q:∀i d,i<n->Q i {s with drawn:=d}):wpAny M A (choose src n) Q E s:=fun G p W=>by show Sem.wp M G (.choose src n .pure) _ _ p s;rw[Sem.wp_choose];refine⟨U,?_⟩;rw[Sem.wp_pure];exact q _ _ (qu3 _ (Nat.pos_of_ne_zero U))
theorem gJ{α:Type}:∀(n:Nat)(xs:η α){Q:η α->qa3->Prop}{s:qa3},xs.length=n->(∀ys d,ys.Perm xs->Q ys {s with drawn:=d})->wpAny M A (drawOrder n xs) Q E s
 |0,xs,Q,s,U,q=>by have e:xs=[]:=ze1.mp U;subst e;show wpAny M A (pure []) Q E s;refine qa2 ?_;have:=q [] s.drawn (zb1 _);cases s;exact this
 |n+1,[],Q,s,U,q=>by cases U
 |n+1,x::xs,Q,s,U,q=>by show wpAny M A (choose .order (x::xs).length >>= fun i=>match (x::xs)[i]? with|some y=>(drawOrder n ((x::xs).eraseIdx i)) >>= fun ys=>pure (y::ys)|none=>unsupported "internal:drawOrder") Q E s;refine qg4 (qJ Ξ fun i d hi=>?_);rw[gQ hi];dsimp only;refine wB (gJ n ((x::xs).eraseIdx i) (by rw[za2 hi];lia) fun ys d2 p=>qa2 (q _ d2 ?_));exact(p.cons _).trans (i6 hi)
end
theorem nv:entryFor table "set.__iter__"=ς qh6.«frozenset.__iter__»:=entryFor_alias (id':="frozenset.__iter__") (by kernel_rfl) rfl χ (by kernel_rfl)
theorem jr:qy3 (.type "set_iterator") "__next__"=pure (ς (.builtin "set_iterator.__next__")):=by rw[qp4,qk2];kernel_rfl
section
variable{P:qc5}{u:Ja}{A:qe1}{E:Value->qa3->Prop}{s:qa3}{a:J9}{o:Obj}{es:Array (Int×Value)}{ep:Nat}{t:qg8}
def kE(first:Value)(i:Int)(a:J9)(n ep:Nat):Obj:={cls:=.type "set_iterator",data:=.fields #[first,qf7 i,.ref a,qf7 n,qf7 ep]}
theorem ph(g1:s.heap.get? a=ς o)(g2:o.ExactSet)(Z:o.data=.set es ep t)(Y:t.fits es.size=θ)(hb:es.size<qp3)
 (q1:∀(ys:η Nat) d,cL u=θ->(t.plain=ξ/\1<es.size)->ys.Perm (qb7 es.size)->Q (.ref (s.heap.objs.size+1)) {s with drawn:=d,heap:=(s.heap.push {cls:=.type "tuple",data:=.seq (ys.map fun(i:Nat)=>qf7 i).toArray}).push (kE (.ref s.heap.objs.size) 0 a es.size ep)})
 (q2:(cL u=ξ∨¬ (t.plain=ξ/\1<es.size))->Q (.ref s.heap.objs.size) {s with heap:=s.heap.push (kE (qf7 0) 0 a es.size ep)}):wpAny (model P u) A (zi6 (.ref a)) Q E s:=by
 have hT:s.TypeIs (.ref a) "set":=⟨o,g1,g2.1⟩;refine zc1 hT F.slot_set_iter (qf2 F.slot_set_iter hT nv ?_ (F.args_set_iter_1 _));unfold qh6.«frozenset.__iter__»;refine wB (wB (qa2 (qa2 ?_)));unfold qh6.Frozenset.sizeOf zi4;refine wB (wB (wB (qf8 g1 Z Y (qa2 (qa2 ?_)))));unfold setDrawn zl4;refine wB (wB (qf8 g1 Z Y (wB (wB (qq0 (qa2 (qa2 ?_)))))));have hl:(!(u.params.followText "set-order"))=cL u:=rfl;show wpAny (model P u) A.in1 (if(!(u.params.followText "set-order")&&(!t.plain&&decide (es.size > 1)))=θ then(drawOrder es.size (qb7 es.size) >>= fun ys=>zm5 (ys.map fun(i:Nat)=>qf7 i) >>= fun first=>setEpoch a >>= fun e=>newFields "set_iterator" [first,qf7 0,.ref a,qf7 es.size,qf7 e] >>= fun v=>ret v)else(pure (qf7 0) >>= fun first=>setEpoch a >>= fun e=>newFields "set_iterator" [first,qf7 0,.ref a,qf7 es.size,qf7 e] >>= fun v=>ret v)) _ _ s;rw[hl];by_cases U:(cL u&&(!t.plain&&decide (es.size > 1)))=θ
 .rw[if_pos U];simp only[qa9,qi7,decide_eq_true_eq]at U;refine qg4 (gJ _ _ Ξ fun ys d p=>?_);have W:ys.length=es.size:=by rw[p.length_eq,qr8]
  refine wB ?_;refine wpAny_newTuple ?_ (by rw[qa1,W];exact qw0 hb);unfold setEpoch;refine wB (wB (qf8 (s:={s with drawn:=d,heap:=s.heap.push {cls:=.type "tuple",data:=.seq (ys.map fun(i:Nat)=>qf7 i).toArray}}) (gP _ g1) Z Y (qa2 ?_)));refine wB (qd7 (qa2 ⟨_,rfl,"set_iterator",_,⟨_,qa7 _ rfl,rfl⟩,jr,?_⟩));have:=q1 ys d U.1 U.2 p;rw[qd9];exact this
 .rw[if_neg U];refine wB (qa2 ?_);unfold setEpoch;refine wB (wB (qf8 g1 Z Y (qa2 ?_)));refine wB (qd7 (qa2 ⟨_,rfl,"set_iterator",_,⟨_,qa7 _ rfl,rfl⟩,jr,?_⟩));refine q2 ?_;by_cases h1:cL u=θ
  .right;intro z;exact U (by rw[h1,z.1];simp;exact z.2)
  .left;simpa using h1
end
theorem mw:Manifest.owners.lookup (String.ofList ['r','o','t','a','r','e','t','i','_','t','e','s'].reverse)=ς Manifest.sig_set_iterator:=by kernel_rfl
theorem slot_setit:Slot "set_iterator" "__next__" "set_iterator.__next__":=.of (owner:="set_iterator") (n:="__next__") (by rw[qp4,qk2];kernel_rfl) χ χ χ (by first|exact .inl χ|exact .inr χ) (by rw[zi8];kernel_rfl)
theorem gz:entryFor table "set_iterator.__next__"=ς qh6.«set_iterator.__next__»:=entryFor_of_tree (by kernel_rfl)
theorem fE(v:Value):argsOk "set_iterator.__next__" ⟨[v],[]⟩:=by unfold argsOk;rw[signature?_of (id:="set_iterator.__next__") (n:=['_','_','t','x','e','n','_','_']) (o:=['r','o','t','a','r','e','t','i','_','t','e','s']) (by kernel_rfl) mw];kernel_rfl
variable{first:Value}{ot:Obj}{m:Nat}
section
variable{P:qc5}{u:Ja}{A:qe1}{E:Value->qa3->Prop}{s:qa3}{a I:J9}{o:Obj}{es:Array (Int×Value)}{ep n:Nat}{t:qg8}
def ItAt(h:Heap)(I:J9)(first:Value)(i:Nat)(a:J9)(n ep:Nat):Prop:=∃q,h.get? I=ς q/\q.cls=.type "set_iterator"/\q.data=.fields #[first,qf7 i,.ref a,qf7 n,qf7 ep]
theorem ItAt.ty(x:ItAt s.heap I first i a n ep):s.TypeIs (.ref I) "set_iterator":=let ⟨q,h,c,_⟩:=x;⟨q,h,c⟩
theorem kF{T:J9}{ps:Array Value}{Z:Int}{x:Value}{Q:ζ Value->qa3->Prop}(U:ItAt s.heap I (.ref T) i a es.size ep)(g1:s.heap.get? a=ς o)(g3:o.data=.set es ep t)(hf:t.fits es.size=θ)(k1:s.heap.get? T=ς ot)(k2:ot.data=.seq ps m)(hp:ps[i]?=ς (qf7 p))(Z:es[p]?=ς (Z,x))
 (q:∀h',ItAt h' I (.ref T) (i+1) a es.size ep->qg2 I s.heap h'->Q (ς x) {s with heap:=h'}):wpAny (model P u) A (qp9 (.ref I)) Q E s:=by
 obtain⟨oi,hi,hc,Y⟩:=id U;unfold qp9;refine wB (qp8 (qe5 (name:=qa0 "__next__") U.ty slot_setit (qf2 slot_setit U.ty gz ?_ (fE _))));unfold qh6.«set_iterator.__next__»;refine wB (qa2 (wB (qt0 hi Y ?_)));unfold zi4;refine wB (wB (qf8 g1 g3 hf (qa2 ?_)));rw[if_neg Ξ];refine wB (qg5 k1 k2 ?_);dsimp only;rw[qe8,hp];show wpAny _ _ (setNextDrawn a ((p:Int)).toNat ((ep:Int)).toNat >>= fun x=>zd8 (.ref I) 1 (qf7 ((i:Int)+1)) >>= fun _=>ret x) _ _ s;rw[qe8,qe8];unfold setNextDrawn;refine wB (wB (qf8 g1 g3 hf ?_));dsimp only;rw[if_neg Ξ,Z];refine qa2 ?_;refine qg4 (ql4 hi Y Ξ ?_)
 have W:ItAt (s.heap.update I (qs0 (·.setIfInBounds 1 (qf7 ((i:Int)+1))))) I (.ref T) (i+1) a es.size ep:=⟨_,qe3 _ hi (qk1 (qf0 Y _)),(qr9 ..).trans hc,by rw[qf0 Y];simp[qf7]⟩
 exact qa2 ⟨_,rfl,qa2 (q _ W (qf6 ..))⟩
end
set_option maxHeartbeats 400000
section
variable{P:qc5}{u:Ja}{A:qe1}{E:Value->qa3->Prop}{s:qa3}{a I:J9}{o:Obj}{es:Array (Int×Value)}{ep n:Nat}{t:qg8}
theorem lC{T:J9}{ps:Array Value}{m:Nat}{Q:ζ Value->qa3->Prop}(W:A.handled=ψ)(U:ItAt s.heap I (.ref T) es.size a es.size ep)(g1:s.heap.get? a=ς o)(g3:o.data=.set es ep t)(hf:t.fits es.size=θ)(k1:s.heap.get? T=ς ot)(Z:ot.data=.seq ps m)(hp:ps.size=es.size)
 (q:∀h',zd3 I s.heap h'->Q ψ {s with heap:=h'}):wpAny (model P u) A (qp9 (.ref I)) Q E s:=by
 obtain⟨oi,hi,hc,Y⟩:=id U;unfold qp9;refine wB (qp8 (qe5 (name:=qa0 "__next__") U.ty slot_setit (qf2 slot_setit U.ty gz ?_ (fE _))));unfold qh6.«set_iterator.__next__»;refine wB (qa2 (wB (qt0 hi Y ?_)));unfold zi4;refine wB (wB (qf8 g1 g3 hf (qa2 ?_)));rw[if_neg Ξ];refine wB (qg5 k1 Z ?_);dsimp only;rw[qe8,qq3 Θ];show wpAny _ _ (zd8 (.ref I) 0 (qf7 0) >>= fun _=>zd8 (.ref I) 2 .none >>= fun _=>zk7 (.type "StopIteration") [] >>= fun e=>zk8 e) _ _ s;refine qg4 (ql4 hi Y Ξ ?_);refine qg4 (ql4 (qe3 _ hi (qk1 (qf0 Y _))) (qf0 Y _) Ξ ?_);show wpAny _ _ (zk7 (.type "StopIteration") [] >>= _) _ _ _;refine wB ?_;simp only[zk7,zm5];refine wB (qd7 ?_ (by size_fits));refine qg4 (m:=qn8 _ _) (qz5 (a:=qi9) (by first|rfl|(simp only[qn8];rfl)) ?_);refine qd7 ?_ (by size_fits);simp only[zk8];refine wB (zd4 ?_);rw[show A.in1.handled=ψ from W];refine wB (qa2 (zj5 ?_));refine wB (qn3 (T:="StopIteration") (b:=true) ⟨_,qa7 _ rfl,rfl⟩ za9 ?_);exact qa2 (q _ (((qf6 ..).trans (qf6 ..)).extBut.push _ |>.push _))
end
theorem sF{α:Type}(f:Nat->Nat):∀(n k:Nat)(l:η α)(U:Array α),l.length=n->(zm1 f n k l U).toList.Perm (U.toList++l)
 |0,k,l,U,Y=>by have e:l=[]:=ze1.mp Y;subst e;rw[zm1,qh0]
 |n+1,k,l,U,Y=>by have W:f k%l.length<l.length:=qu3 _ Θ;rw[zm1,gQ W];dsimp only;refine(sF f n (k+1) (l.eraseIdx (f k%l.length)) (U.push l[f k%l.length]) (by rw[za2 W];lia)).trans ?_;rw[zc4,qk0];exact zn0.append_left _ (i6 W)
theorem sG{α:Type}(f:Nat->Nat)(xs:Array α):(zh8 f xs).toList.Perm xs.toList:=by have:=sF f xs.size 0 xs.toList #[] Ξ;simpa[zh8] using this
section
variable{P:qc5}{u:Ja}{A:qe1}{E:Value->qa3->Prop}{s:qa3}{a I:J9}{o:Obj}{es:Array (Int×Value)}{ep n:Nat}{t:qg8}
theorem eY{Q:ζ (Value×Nat)->qa3->Prop}(U:cL u=ξ)(g1:s.heap.get? a=ς o)(W:o.data=.set es ep t)(Y:t.fits es.size=θ)
 (q:Q (((zh8 (u.params.setOrder a ep) es)[i]?).map fun e=>(e.2,j)) s):wpAny (model P u) A (ze2 a j i ep) Q E s:=by
 have Z:u.params.followText "set-order"=θ:=by unfold cL at U;simpa using U
 unfold ze2 zl4;refine wB (qf8 g1 W Y (wB (wB (qq0 (qa2 ?_)))));show wpAny (model P u) A (if u.params.followText "set-order"=θ then _ else _) Q E s;rw[if_pos Z,if_neg Ξ];unfold setWalk zl4;refine wB (wB (qf8 g1 W Y (wB (wB (qq0 (qa2 ?_))))));show wpAny (model P u) A (if u.params.followText "set-order"=θ then _ else _) _ E s;rw[if_pos Z];refine wB (qq0 (qa2 ?_));exact qa2 q
end
section
variable{P:qc5}{u:Ja}{A:qe1}{E:Value->qa3->Prop}{s:qa3}{a I:J9}{o:Obj}{es:Array (Int×Value)}{ep n:Nat}{t:qg8}
theorem fQ{Q:ζ (Value×Nat)->qa3->Prop}(U:cL u=θ)(W:t.led=θ)(one:¬ (t.plain=ξ/\1<es.size))(g1:s.heap.get? a=ς o)(g3:o.data=.set es ep t)(Y:t.fits es.size=θ)
 (q:Q (match es[qg7 t.place j]?,t.place[qg7 t.place j]? with|some (_,x),ς k=>ς (x,k+1)|_,_=>ψ) s):wpAny (model P u) A (ze2 a j i ep) Q E s:=by
 have Z:u.params.followText "set-order"=ξ:=by unfold cL at U;simpa using U
 unfold ze2 zl4;refine wB (qf8 g1 g3 Y (wB (wB (qq0 (qa2 ?_)))));show wpAny (model P u) A (if u.params.followText "set-order"=θ then _ else if(!t.plain&&decide (es.size > 1))=θ then _ else(if(!t.led&&!es.isEmpty)=θ then unsupported "set:maker-not-led" else pure ()) >>= fun _=>pure (match es[qg7 t.place j]?,t.place[qg7 t.place j]? with|some (_,x),ς k=>ς (x,k+1)|_,_=>ψ)) Q E s;rw[Z,if_neg Ω,if_neg (by simpa using one),if_neg (by simp[W])];exact wB (qa2 (qa2 q))
theorem kG{next:Nat}{x:Value}{Q:ζ Value->qa3->Prop}(U:ItAt s.heap I (qf7 j) i a es.size ep)(g1:s.heap.get? a=ς o)(g3:o.data=.set es ep t)(hf:t.fits es.size=θ)(hn:∀{A':qe1}{Z:ζ (Value×Nat)->qa3->Prop}{E':Value->qa3->Prop},Z (ς (x,next)) s->wpAny (model P u) A' (ze2 a j i ep) Z E' s)
 (q:∀h',ItAt h' I (qf7 next) (i+1) a es.size ep->qg2 I s.heap h'->Q (ς x) {s with heap:=h'}):wpAny (model P u) A (qp9 (.ref I)) Q E s:=by
 obtain⟨oi,hi,hc,W⟩:=id U;unfold qp9;refine wB (qp8 (qe5 (name:=qa0 "__next__") U.ty slot_setit (qf2 slot_setit U.ty gz ?_ (fE _))));unfold qh6.«set_iterator.__next__»;refine wB (qa2 (wB (qt0 hi W ?_)));unfold zi4;refine wB (wB (qf8 g1 g3 hf (qa2 ?_)));rw[if_neg Ξ];show wpAny _ _ (ze2 a ((j:Int)).toNat ((i:Int)).toNat ((ep:Int)).toNat >>= _) _ _ s;rw[qe8,qe8,qe8];refine wB (hn ?_);show wpAny _ _ (zd8 (.ref I) 0 (qf7 next) >>= fun _=>zd8 (.ref I) 1 (qf7 ((i:Int)+1)) >>= fun _=>ret x) _ _ s;refine qg4 (ql4 hi W Ξ ?_);refine qg4 (ql4 (qe3 _ hi (qk1 (qf0 W _))) (qf0 W _) Ξ ?_);have e1:(s.heap.update I (qs0 (·.setIfInBounds 0 (qf7 next)))).get? I=ς (qs0 (·.setIfInBounds 0 (qf7 next)) oi):=qe3 _ hi (qk1 (qf0 W _));have d1:=qf0 W (·.setIfInBounds 0 (qf7 next))
 have Y:ItAt ((s.heap.update I (qs0 (·.setIfInBounds 0 (qf7 next)))).update I (qs0 (·.setIfInBounds 1 (qf7 ((i:Int)+1))))) I (qf7 next) (i+1) a es.size ep:=⟨_,qe3 _ e1 (qk1 (qf0 d1 _)),(qr9 ..).trans ((qr9 ..).trans hc),by rw[qf0 d1];simp[qf7]⟩
 exact qa2 ⟨_,rfl,qa2 (q _ Y ((qf6 ..).trans (qf6 ..)))⟩
theorem lD{Q:ζ Value->qa3->Prop}(W:A.handled=ψ)(U:ItAt s.heap I (qf7 j) i a es.size ep)(g1:s.heap.get? a=ς o)(g3:o.data=.set es ep t)(hf:t.fits es.size=θ)(hn:∀{A':qe1}{Z:ζ (Value×Nat)->qa3->Prop}{E':Value->qa3->Prop},Z ψ s->wpAny (model P u) A' (ze2 a j i ep) Z E' s)
 (q:∀h',zd3 I s.heap h'->Q ψ {s with heap:=h'}):wpAny (model P u) A (qp9 (.ref I)) Q E s:=by
 obtain⟨oi,hi,hc,Y⟩:=id U;unfold qp9;refine wB (qp8 (qe5 (name:=qa0 "__next__") U.ty slot_setit (qf2 slot_setit U.ty gz ?_ (fE _))));unfold qh6.«set_iterator.__next__»;refine wB (qa2 (wB (qt0 hi Y ?_)));unfold zi4;refine wB (wB (qf8 g1 g3 hf (qa2 ?_)));rw[if_neg Ξ];show wpAny _ _ (ze2 a ((j:Int)).toNat ((i:Int)).toNat ((ep:Int)).toNat >>= _) _ _ s;rw[qe8,qe8,qe8];refine wB (hn ?_);show wpAny _ _ (zd8 (.ref I) 2 .none >>= fun _=>zk7 (.type "StopIteration") [] >>= fun e=>zk8 e) _ _ s;refine qg4 (ql4 hi Y Ξ ?_);show wpAny _ _ (zk7 (.type "StopIteration") [] >>= _) _ _ _;refine wB ?_;simp only[zk7,zm5];refine wB (qd7 ?_ (by size_fits));refine qg4 (m:=qn8 _ _) (qz5 (a:=qi9) (by first|rfl|(simp only[qn8];rfl)) ?_);refine qd7 ?_ (by size_fits);simp only[zk8];refine wB (zd4 ?_);rw[show A.in1.handled=ψ from W];refine wB (qa2 (zj5 ?_));refine wB (qn3 (T:="StopIteration") (b:=true) ⟨_,qa7 _ rfl,rfl⟩ za9 ?_);exact qa2 (q _ ((qf6 ..).extBut.push _ |>.push _))
end
theorem fR:Slot "set_iterator" "__iter__" "set_iterator.__iter__":=.of (owner:="set_iterator") (n:="__iter__") (by rw[qp4,qk2];kernel_rfl) χ χ χ (by first|exact .inl χ|exact .inr χ) (by rw[zi8];kernel_rfl)
theorem kH:entryFor table "set_iterator.__iter__"=ς qh6.«dict_keyiterator.__iter__»:=entryFor_alias (id':="dict_keyiterator.__iter__") (by kernel_rfl) rfl χ (by kernel_rfl)
theorem jF(v:Value):argsOk "set_iterator.__iter__" ⟨[v],[]⟩:=by unfold argsOk;rw[signature?_of (id:="set_iterator.__iter__") (n:=['_','_','r','e','t','i','_','_']) (o:=['r','o','t','a','r','e','t','i','_','t','e','s']) (by kernel_rfl) mw];kernel_rfl
variable{ord:Nat->Value}
section
variable{P:qc5}{u:Ja}{A:qe1}{E:Value->qa3->Prop}{s:qa3}{a I:J9}{o:Obj}{es:Array (Int×Value)}{ep n:Nat}{t:qg8}
theorem gi(U:ItAt s.heap I first i a n ep)(q:Q (.ref I) s):wpAny (model P u) A (zi6 (.ref I)) Q E s:=by refine zc1 U.ty fR (qf2 fR U.ty kH ?_ (jF _));show wpAny _ _ (ret (.ref I)) _ _ s;exact qa2 ⟨_,rfl,"set_iterator",_,U.ty,slot_setit.lookup,q⟩
theorem ny{Q:Bool->qa3->Prop}(Y:s.TypeIs (.ref a) "set")(q:Q ξ s):wpAny (model P u) A (qm7 (.ref a)) Q E s:=by
 unfold qm7;refine wB (qz2 Y PySem.F.slot_set_len.lookup ?_);generalize U:("set.__len__":String)=W
 wp_delta
 rw[show splitId W=ς ("set","__len__")from by subst U;decide +kernel];subst U;refine wB (qn3 (T:="set") (b:=true) Y sub_set_self ?_);refine qm8 (fun z=>absurd z Ω) (fun _=>?_);refine qm8 (fun _=>wB (qw4 Y (qa2 q))) (fun z=>absurd χ z)
theorem ItAt.keep(x:ItAt h I first i a n ep)(e:∀q,h.get? I=ς q->h'.get? I=ς q):ItAt h' I first i a n ep:=let ⟨q,g,r⟩:=x;⟨q,e q g,r⟩
theorem qK {T:J9} {ps:Array Value} (U:A.handled=ψ) (g3:o.data=.set es ep t) (hf:t.fits es.size=θ) (k2:ot.data=.seq ps m) (hps:ps.size=es.size) (hI:I≠a) (Z:I≠T) (Y:∀ i,i<es.size->∃ p hx,ps[i]?=ς (qf7 (p:Nat))/\es[p]?=ς (hx,ord i)) :
  WalksS P u A I [I,a,T] [I] (fun x y=>y=x) es.size (fun i v=>v=ord i) (fun i s=>ItAt s.heap I (.ref T) i a es.size ep/\s.heap.get? a=ς o/\s.heap.get? T=ς ot) where
 sub:=fun b W=>by rw[qb1.mp W];exact .head _
 grefl:=fun _=>rfl
 gtrans:=fun _ _ _ h1 h2=>h2.trans h1
 frame:=fun i s h' tk ⟨x,y,z⟩ _ e=>⟨x.keep fun q g=>e I (.head _) q g,e a (.tail _ (.head _)) _ y,e T (.tail _ (.tail _ (.head _))) _ z⟩
 item:=fun i s Q E hi ⟨x,y,z⟩ q=>by
  obtain⟨p,hx,h1,h2⟩:=Y i hi;refine kF x y g3 hf z k2 h1 h2 fun h' it sb=>q _ _ rfl ⟨it,(sb.2 a (qh5 hI)).trans y,(sb.2 T (qh5 Z)).trans z⟩ ⟨fun b ob W e=>?_,rfl,rfl,rfl,nL _⟩
  exact(sb.2 b (fun w=>W (by rw[w];exact .head _))).trans e
 done:=fun s Q E ⟨x,y,z⟩ q=>lC U x y g3 hf z k2 hps fun h' eb=>q _ ⟨fun b ob W e=>eb b ob (fun w=>W (by rw[w];exact .head _)) e,rfl,rfl,rfl,nL _⟩
 self:=fun i s Q E ⟨x,_⟩ q=>gi x q
end
section
variable{P:qc5}{u:Ja}{K:Type}[DecidableEq K]{κ:SK P u K}{A:qe1}{E:Value->qa3->Prop}{s:qa3}{a I:J9}{o:Obj}{es:Array (Int×Value)}{ep n:Nat}{t:qg8}
theorem kI{sl:Nat->Nat}(U:A.handled=ψ)(g3:o.data=.set es ep t)(hf:t.fits es.size=θ)(hI:I≠a)
 (hn:∀i,i<es.size->∀(s:qa3),s.heap.get? a=ς o->∀{Z:qe1}{Y:ζ (Value×Nat)->qa3->Prop}{E':Value->qa3->Prop},Y (ς (ord i,sl (i+1))) s->wpAny (model P u) Z (ze2 a (sl i) i ep) Y E' s)
 (he:∀(s:qa3),s.heap.get? a=ς o->∀{Z:qe1}{Y:ζ (Value×Nat)->qa3->Prop}{E':Value->qa3->Prop},Y ψ s->wpAny (model P u) Z (ze2 a (sl es.size) es.size ep) Y E' s) :
  WalksS P u A I [I,a] [I] (fun x y=>y=x) es.size (fun i v=>v=ord i) (fun i s=>ItAt s.heap I (qf7 (sl i)) i a es.size ep/\s.heap.get? a=ς o) where
 sub:=fun b W=>by rw[qb1.mp W];exact .head _
 grefl:=fun _=>rfl
 gtrans:=fun _ _ _ h1 h2=>h2.trans h1
 frame:=fun i s h' tk ⟨x,y⟩ _ e=>⟨x.keep fun q g=>e I (.head _) q g,e a (.tail _ (.head _)) _ y⟩
 item:=fun i s Q E hi ⟨x,y⟩ q=>kG x y g3 hf (hn i hi s y) fun h' it sb=>q _ _ rfl ⟨it,(sb.2 a (qh5 hI)).trans y⟩ ⟨fun b ob W e=>(sb.2 b (fun w=>W (by rw[w];exact .head _))).trans e,rfl,rfl,rfl,nL _⟩
 done:=fun s Q E ⟨x,y⟩ q=>lD U x y g3 hf (he s y) fun h' eb=>q _ ⟨fun b ob W e=>eb b ob (fun w=>W (by rw[w];exact .head _)) e,rfl,rfl,rfl,nL _⟩
 self:=fun i s Q E ⟨x,_⟩ q=>gi x q
inductive AreK(κ:SK P u K):List Value->List K->Prop
 |nil:AreK κ [] []
 |cons (k:K) (t:Tok) {vs:List Value} {ks:List K}:AreK κ vs ks->AreK κ (κ.put k t::vs) (k::ks)
theorem AreK.len{vs:η Value}{ks:η K}(h:AreK κ vs ks):vs.length=ks.length:=by
 induction h with
 |nil=>rfl
 |cons y tk _ U=>simp[U]
theorem pi{ss:η K}{l m:η (Int×Value)}(x:Tx κ l ss)(p:m.Perm l):∃ks,AreK κ (m.map (·.2)) ks/\ks.Perm ss:=by
 have y:=x.perm p;refine⟨m.map fun e=>κ.of e.2,?_,y.per⟩
 have U:∀m:η (Int×Value),(∀e∈m,∃k t,e.2=κ.put k t/\e.1=κ.knd.hash k)->AreK κ (m.map (·.2)) (m.map fun e=>κ.of e.2):=fun m=>by
  induction m with
  |nil=>intro _;exact .nil
  |cons e m W=>intro h;obtain⟨k,tk,h1,_⟩:=h e Ξ;rw[qa4,qa4,h1,κ.ofmk];exact .cons k tk (W fun z Y=>h z (by simp[Y]))
 exact U m y.all
def nz{ss:η K}(hS:TxS κ s.heap a ss (cL u))
 (q:∀(I:J9)(fp:η J9)(vs:η Value)(ks:η K)(St:Nat->qa3->Prop)(d:Drawn)(h':Heap),(∀Z:qe1,Z.handled=ψ->WalksS P u Z I fp [I] (fun x y=>y=x) vs.length (fun i v=>v=vs.getD i .none) St)->St 0 {s with drawn:=d,heap:=h'}->(∀b∈fp,b<h'.objs.size/\(b=a∨s.heap.objs.size<=b))->(∀b ob,s.heap.get? b=ς ob->h'.get? b=ς ob)->s.heap.objs.size<=I->AreK κ vs ks->ks.Perm ss->Q (.ref I) {s with drawn:=d,heap:=h'}) :
  wpAny (model P u) A (zi6 (.ref a)) Q E s:=by
 obtain⟨o,es,ep,t,g1,g2,g3,x,hb,hf,hl,hp⟩:=hS.ex;have la:a<s.heap.objs.size:=qb0 g1;refine ph g1 g2 g3 hf hb (fun ys d byP hd p=>?_) (fun hm=>?_)
 . -- drawn
   have hyl:ys.length=es.size:=by rw[p.length_eq,qr8]
   have perm:(ys.map fun i=>es.toList.getD i (0,.none)).Perm es.toList:=by
    refine(p.map _).trans ?_
    have e:(qb7 es.size).map (fun i=>es.toList.getD i (0,.none))=es.toList:=by
     apply qw8
     .simp
     .intro i h1 h2;simp at h1 h2;simp[h2]
    rw[e]
   obtain⟨ks,k1,k2⟩:=pi x perm;have hlen:((ys.map fun i=>es.toList.getD i (0,.none)).map (·.2)).length=es.size:=by rw[qa1,qa1,hyl]
   refine q (s.heap.objs.size+1) [s.heap.objs.size+1,a,s.heap.objs.size] ((ys.map fun i=>es.toList.getD i (0,.none)).map (·.2)) ks (fun i s'=>ItAt s'.heap (s.heap.objs.size+1) (.ref s.heap.objs.size) i a es.size ep/\s'.heap.get? a=ς o/\s'.heap.get? s.heap.objs.size=ς {cls:=.type "tuple",data:=.seq (ys.map fun(i:Nat)=>qf7 i).toArray}) d _ (fun Z U=>?_) ⟨⟨kE (.ref s.heap.objs.size) 0 a es.size ep,?_,rfl,rfl⟩,?_,?_⟩ ?_ ?_ (zd5 _) k1 k2
   .rw[hlen];refine qK U g3 hf rfl (by simp[hyl]) (ql6 (qh4 la)) (Nat.succ_ne_self _) fun i hi=>?_
    have Y:i<ys.length:=by lia
    have hy:ys[i]<es.size:=qd8.mp (p.mem_iff.mp (qx1 Y));refine⟨ys[i],es[ys[i]].1,by simp[Y],?_⟩;simp[Y,hy]
   .have:=qa7 (s.heap.push {cls:=.type "tuple",data:=.seq (ys.map fun(i:Nat)=>qf7 i).toArray}) (o:=kE (.ref s.heap.objs.size) 0 a es.size ep) rfl;rw[qd9]at this;exact this
   .exact gP _ (gP _ g1)
   .exact gP _ (qa7 _ rfl)
   .intro b hb;rw[qd9,qd9];rcases qa5.mp hb with rfl|hb
    .exact⟨qn2 _,.inr (zd5 _)⟩
    .rcases qa5.mp hb with rfl|hb
     .exact⟨qh4 (qh4 la),.inl rfl⟩
     .rw[qb1.mp hb];exact⟨qh4 (qn2 _),.inr (nL _)⟩
   .exact fun b ob e=>gP _ (gP _ e)
 . -- by the world's text,or one at most
   have fin:∀(m:η (Int×Value))(sl:Nat->Nat),m.Perm es.toList->sl 0=0->(∀Z:qe1,Z.handled=ψ->WalksS P u Z s.heap.objs.size [s.heap.objs.size,a] [s.heap.objs.size] (fun x y=>y=x) es.size (fun i v=>v=(m.map (·.2)).getD i .none) (fun i s'=>ItAt s'.heap s.heap.objs.size (qf7 (sl i)) i a es.size ep/\s'.heap.get? a=ς o))->Q (.ref s.heap.objs.size) {s with heap:=s.heap.push (kE (qf7 0) 0 a es.size ep)}:=fun m sl p h0 W=>by
    obtain⟨ks,k1,k2⟩:=pi x p;have hlen:(m.map (·.2)).length=es.size:=by rw[qa1,p.length_eq,qf1]
    have:=q s.heap.objs.size [s.heap.objs.size,a] (m.map (·.2)) ks (fun i s'=>ItAt s'.heap s.heap.objs.size (qf7 (sl i)) i a es.size ep/\s'.heap.get? a=ς o) s.drawn (s.heap.push (kE (qf7 0) 0 a es.size ep)) (by rw[hlen];exact W) ⟨⟨kE (qf7 0) 0 a es.size ep,qa7 _ rfl,rfl,by rw[h0];rfl⟩,gP _ g1⟩ (fun b hb=>by
     rw[qd9];rcases qa5.mp hb with rfl|hb
     .exact⟨qn2 _,.inr (nL _)⟩
     .rw[qb1.mp hb];exact⟨qh4 la,.inl rfl⟩) (fun b ob e=>gP _ e) (nL _) k1 k2
    exact this
   have ne:s.heap.objs.size≠a:=ql6 la;by_cases byT:cL u=ξ
   .refine fin (zh8 (u.params.setOrder a ep) es).toList (fun _=>0) (sG _ _) rfl fun Z U=>?_
    have hsz:(zh8 (u.params.setOrder a ep) es).size=es.size:=by have:=(sG (u.params.setOrder a ep) es).length_eq;simpa using this
    refine kI U g3 hf ne (fun i hi s' gs Z Q' E' q'=>eY byT gs g3 hf ?_) (fun s' gs Z Q' E' q'=>eY byT gs g3 hf ?_)
    .have Y:i<(zh8 (u.params.setOrder a ep) es).size:=by lia
     rw[qh3 Y];simpa[Y] using q'
    .rw[qq3 Θ];exact q'
   .have byP:cL u=θ:=by simpa using byT
    have one:¬ (t.plain=ξ/\1<es.size):=by
     rcases hm with h1|h1
     .exact absurd h1 byT
     .exact h1
    have hpl:t.place.size=es.size:=by unfold qg8.fits at hf;simp at hf;exact hf.1
    refine fin es.toList (fun i=>if h:0<i/\i<=t.place.size then t.place[i-1]+1 else 0) (zb1 _) Ξ fun Z U=>?_
    have low:∀i,i<=es.size->qg7 t.place (if h:0<i/\i<=t.place.size then t.place[i-1]+1 else 0)=i:=fun i hi=>by
     by_cases h0:i=0
     .subst h0;simp[pd hp]
     .rw[dif_pos ⟨Θ,Θ⟩,qG hp Θ];lia
    refine kI U g3 hf ne (fun i hi s' gs Z Q' E' q'=>fQ byP (hl.trans byP) one gs g3 hf ?_) (fun s' gs Z Q' E' q'=>fQ byP (hl.trans byP) one gs g3 hf ?_)
    .rw[low i (qi2 hi),qh3 hi,qh3 Θ];rw[dif_pos ⟨Θ,Θ⟩]at q';simpa[hi] using q'
    .rw[low _ (nL _),qq3 Θ];exact q'
end
section
variable{P:qc5}{u:Ja}{K:Type}[DecidableEq K]{κ:SK P u K}{A:qe1}{E:Value->qa3->Prop}{s:qa3}{a:J9}
theorem TxS.small{ss:η K}(x:TxS κ h a ss led):ss.length<qp3/\∃o,h.get? a=ς o/\o.cls=.type "set":=by obtain⟨o,es,ep,t,g1,g2,W,y,U,_⟩:=x.ex;refine⟨?_,o,g1,g2.1⟩;rw[<- y.per.length_eq,qa1,qf1];exact U
theorem jG {ss:η K} {Q:η Value->qa3->Prop} (Z:A.handled=ψ) (hS:TxS κ s.heap a ss (cL u))
  (q:∀(vs:η Value)(ks:η K)(d:Drawn)(h':Heap)(tk:Nat),AreK κ vs ks->ks.Perm ss->s.heap.objs.size<=h'.objs.size->(∀b ob,s.heap.get? b=ς ob->h'.get? b=ς ob)->Q vs {s with drawn:=d,heap:=h',toks:=tk}):wpAny (model P u) A (collect (.ref a)) Q E s:=by
 obtain⟨hsz,o,g1,gc⟩:=hS.small;have la:a<s.heap.objs.size:=qb0 g1;unfold collect;refine wB (wpAny_runValue (qj2 PySem.F.entry_proto_collect ?_));rw[qg3 PySem.F.plain_proto_collect _];show wpAny _ A.in1 (newList [] >>= fun l=>again (.builtin "list.__iadd__" ⟨[l,.ref a],[]⟩)) _ _ s;refine wB (qd7 ?_);refine qa2 ⟨ql5 PySem.F.plain_list_iadd _,qj2 PySem.F.entry_list_iadd ?_⟩;rw[qg3 PySem.F.plain_list_iadd _];show wpAny _ A.in1 (qi5 (.ref s.heap.objs.size) (.ref a) (.ref s.heap.objs.size)) _ _ _;have hS1:TxS κ (s.heap.push {cls:=.type "list",data:=.seq ([]:η Value).toArray}) a ss (cL u):=hS.moved fun ob e=>gP _ e
 have hT1:zk9 {s with heap:=s.heap.push {cls:=.type "list",data:=.seq ([]:η Value).toArray}} (.ref a) "set":=⟨o,gP _ g1,gc⟩;have gL:(s.heap.push {cls:=.type "list",data:=.seq ([]:η Value).toArray}).get? s.heap.objs.size=ς {cls:=.type "list",data:=.seq ([]:η Value).toArray}:=qa7 _ rfl;unfold qi5;refine wB (qw4 hT1 ?_);have h1:qp5 (.ref s.heap.objs.size) (.ref a)=ξ:=by simp[qp5,ql6 la]
 have h2:(ql7 "set"==ql7 "list")=ξ:=by decide
 have h3:(ql7 "set"==ql7 "tuple")=ξ:=by decide
 simp only[h1,h2,h3,qx7,qd1,if_false];refine wB (nz (s:={s with heap:=s.heap.push {cls:=.type "list",data:=.seq ([]:η Value).toArray}}) hS1 fun I fp vs ks St d h' W st hfp keep hI k1 k2=>?_);have hTI:zk9 {s with drawn:=d,heap:=h'} (.ref a) "set":=⟨o,keep a o (gP _ g1),gc⟩;refine wB (qh9 (ny hTI ?_));show wpAny _ A.in1 (rule "list.extend.makes-room" >>= fun _=>qh6.List.listTouch (.ref s.heap.objs.size) >>= fun _=>again (.builtin "list.extend.loop" ⟨[.ref s.heap.objs.size,.ref I,.ref s.heap.objs.size],[]⟩)) _ _ _;refine wB (qu1 (wB ?_));have gL1:=keep _ _ gL;show wpAny _ A.in1 (zl0 s.heap.objs.size (·.push .none) >>= fun _=>zl0 s.heap.objs.size (·.pop)) _ _ _;refine wB (qr2 gL1 rfl ?_);have gL2:=qe3 (qn1 (·.push qi9)) gL1 rfl;refine qr2 gL2 rfl ?_;have gL3:=qe3 (qn1 (·.pop)) gL2 rfl;have oth:∀b ob,b≠s.heap.objs.size->h'.get? b=ς ob->((h'.update s.heap.objs.size (qn1 (·.push qi9))).update s.heap.objs.size (qn1 (·.pop))).get? b=ς ob:=fun b ob hb e=>(qh7 _ _ (qh5 hb)).trans ((qh7 _ _ (qh5 hb)).trans e)
 have out:s.heap.objs.size∉fp:=fun hm=>by
  rcases(hfp _ hm).2 with z|z
  .exact ql6 la z
  .have z:(s.heap.push {cls:=.type "list",data:=.seq ([]:η Value).toArray}).objs.size<=s.heap.objs.size:=z;rw[qd9]at z;exact Nat.not_succ_le_self _ z
 have W1:=W A.in1 (by simp[Z])
 have hvl:vs.length<=qb2:=by
  have e:vs.length=ss.length:=by rw[<- k2.length_eq];exact k1.len
  rw[e];exact qw0 hsz
 refine qa2 ⟨ql5 PySem.F.plain_extend_loop _,codeAny_extend_loopS W1 hvl _ out _ vs.length 0 _ _ _ rfl (qk6 _) (W1.frame 0 ({s with drawn:=d,heap:=h'}:qa3) _ s.toks st (nL _) fun b hb ob e=>oth b ob (fun h=>out (h▸hb)) e) gL3 (ItemsOf.nil _) fun s2 J5 c2 mv gS2 U=>?_⟩;show wpAny _ A (load s.heap.objs.size >>= _) _ _ s2;refine wB (wpAny_load gS2 ?_)
 have hav:J5.toList=vs:=by
  apply qw8
  .simpa using U.1
  .intro i h1 h2;have:=U.2 i J5.toList[i] Ξ;rw[this];simp[h2]
 rw[<- hav]at k1;obtain⟨h2',g2',d2',Y,o2'⟩:=s2;have eg:g2'=s.gens:=mv.gens;have ed:d2'=d:=mv.drawn;have eo:o2'=s.os:=mv.os;subst eg ed eo;refine qa2 (q J5.toList ks d2' h2' Y k1 k2 (qi2 (qb0 gS2)) fun b ob e=>?_);have nb:b≠s.heap.objs.size:=qb8 (qb0 e);refine mv.heap b ob (fun hm=>?_) (oth b ob nb (keep b ob (gP _ e)));rcases qa5.mp hm with z|z
 .exact nb z
 .rw[qb1.mp z]at e;have z2:(s.heap.push {cls:=.type "list",data:=.seq ([]:η Value).toArray}).objs.size<=I:=hI;rw[qd9]at z2;exact absurd (qb0 e) (qy5.mpr (Nat.le_of_succ_le z2))
end
section
variable{P:qc5}{u:Ja}{K:Type}[DecidableEq K]{κ:SK P u K}{A:qe1}{E:Value->qa3->Prop}{s:qa3}{a:J9}
def iD(κ:SK P u K)(W:η K->η K):Prop:=∀{A:qe1}{E:Value->qa3->Prop}{s:qa3}{a:J9}{vs:η Value}{ks:η K}{n:Nat}{Q:Fin->qa3->Prop},s.heap.get? a=ς (seqObj "list" vs.toArray n)->AreK κ vs ks->vs.length<64→ (∀U:Array Value,AreK κ U.toList (W ks)->Q (.done (.ret .none)) {s with heap:=sortedHeap s.heap a vs U})->wpAny (model P u) A (qh6.«list.sort» ⟨[.ref a],[]⟩) Q E s
theorem kJ{ss:η K}{U:η K->η K}(hs:iD κ U)(pm:∀{ks},ks.Perm ss->U ks=U ss)(Z:A.handled=ψ)(hS:TxS κ s.heap a ss (cL u))(few:ss.length<64)
 (q:∀(l:J9)(Y:Array Value)(d:Drawn)(h':Heap)(tk:Nat),AreK κ Y.toList (U ss)->(∃e,h'.get? l=ς (seqObj "list" Y e))->s.heap.objs.size<=l->(∀b ob,s.heap.get? b=ς ob->h'.get? b=ς ob)->Q (.ref l) {s with drawn:=d,heap:=h',toks:=tk}):wpAny (model P u) A (call (.builtin "sorted") [.ref a]) Q E s:=by
 refine Calls.call_function_entry kind_sorted plain_sorted entry_sorted (args_sorted1 _) ?_;unfold qh6.«sorted»;refine wB (m:=checkCount "sorted" 1 1 _) (qa2 ?_);refine qg4 (jG (by simp[Z]) hS fun vs ks d h' tk k1 k2 le keep=>?_);have W:vs.length<64:=by rw[k1.len,k2.length_eq];exact few
 refine wB (wpAny_newList ?_ (qc0 (qi2 W) Ω));have gL:(h'.push (seqObj "list" vs.toArray 0)).get? h'.objs.size=ς (seqObj "list" vs.toArray 0):=qa7 _ rfl;show wpAny _ _ _ _ _ {s with drawn:=d,toks:=tk,heap:=h'.push (seqObj "list" vs.toArray 0)};refine wB (qh9 (qf2 slot_list_sort ⟨_,gL,rfl⟩ entry_list_sort (hs gL k1 W fun Y a1=>⟨_,rfl,?_⟩) (args_list_sort _)));refine qa2 ⟨_,rfl,?_⟩;refine q _ _ d _ tk (pm k2▸a1) (sortedHeap_at gL) le fun b ob e=>?_
 have lt:b<h'.objs.size:=qb0 (keep b ob e);rw[sortedHeap_old (qb8 lt) (by rw[size_push'];exact qh4 lt)];exact gP _ (keep b ob e)
end
section
variable{P:qc5}{u:Ja}
theorem xg{vs:η Value}{ks:η Str}(h:AreK (uM P u) vs ks):StrsAre vs ks:=by
 induction h with
 |nil=>exact .nil
 |cons k t _ U=>exact .cons k t U
theorem xh{vs:η Value}{ks:η Str}(h:StrsAre vs ks):AreK (uM P u) vs ks:=by
 induction h with
 |nil=>exact .nil
 |cons k t _ U=>exact AreK.cons (κ:=uM P u) k t U
theorem xi{vs:η Value}{ks:η Int}(h:AreK (uN P u) vs ks):zg8 vs ks:=by
 induction h with
 |nil=>exact .nil
 |cons k t _ U=>exact .cons k t U
theorem xj{vs:η Value}{ks:η Int}(h:zg8 vs ks):AreK (uN P u) vs ks:=by
 induction h with
 |nil=>exact .nil
 |cons k t _ U=>exact AreK.cons (κ:=uN P u) k t U
theorem xk:iD (uM P u) fP:=fun {A E s a vs ks n Q} g k U q=>by
 have Y:=xg k;refine list_sort_treeK strKind_oneLt g Y.keysOf (fun v1 v2 r e=>keyKind_strs (by rw[<- e];exact Y)) U fun st a1 a2=>?_
 obtain⟨W,e1,e2,Z⟩:=sorted_out_str Y a1 a2;have e:W=fP ks:=iZ (e2.trans (cV ks).symm) (uI W Z) (iB ks);exact q _ (xh (e▸e1))
theorem xl{ss ks:η Str}(p:ks.Perm ss):fP ks=fP ss:=iZ ((cV ks).trans (p.trans (cV ss).symm)) (iB ks) (iB ss)
def jt(ns:η Int):η Int:=ns.mergeSort fun a b=>decide (a<=b)
theorem dN(ns:η Int):(jt ns).Perm ns:=List.mergeSort_perm ns _
theorem iE(ns:η Int):(jt ns).Pairwise (· <= ·):=by have:=zd7 (le:=fun a b:Int=>decide (a<=b)) (fun a b c h1 h2=>by simp at *;lia) (fun a b=>by simp;lia) ns;exact this.imp fun {a b} h=>by simpa using h
theorem gR{a b:η Int}(p:a.Perm b)(h1:a.Pairwise (· <= ·))(h2:b.Pairwise (· <= ·)):a=b:=zn0.eq_of_pairwise (fun a b _ _ x y=>Int.le_antisymm x y) h1 h2 p
theorem xm:iD (uN P u) jt:=fun {A E s a vs ks n Q} g k U q=>by
 refine list_sort_tree g (xi k) U fun out ns Y Z W=>?_
 have e:ns=jt ks:=gR (Z.trans (dN ks).symm) W (iE ks);exact q _ (xj (e▸Y))
theorem xp{ss ks:η Int}(p:ks.Perm ss):jt ks=jt ss:=gR ((dN ks).trans (p.trans (dN ss).symm)) (iE ks) (iE ss)
end
section
variable{K:Type}[DecidableEq K]
def cj(ss:η K):η K:=ss.foldl cW []
theorem mx[Inhabited K](ss:η K):met (fun i=>ss.getD i default) ss.length=cj ss:=by
 unfold met cj;congr 1;apply qw8
 .simp
 .intro i h1 h2;simp at h1;simp[h1]
theorem my[Inhabited K](ss:η K):(cj ss).length<=ss.length:=by rw[<- mx];exact nu _ _
end
theorem Inv.dr(I:Inv X J1 σ H s)(d:Drawn):Inv X J1 σ H {s with drawn:=d}:=⟨I.ok,I.os,I.bare,I.base,I.loc,I.cell,I.free,I.freeC,I.pin,I.hok,I.len⟩
section
variable{X:Cx}{K:Type}[DecidableEq K][Inhabited K]{κ:SK X.prog X.w K}{kv:K->V}
theorem xq:∀{vs:η Value}{ss:η K},AreK κ vs ss->∀(i:Nat)(v:Value),vs[i]?=ς v->∃t,v=κ.put (ss.getD i default) t
 |_,_,.nil,i,v,h=>by simp at h
 |_,_,.cons y t r,0,v,h=>by simp at h;exact⟨t,by rw[<- h];rfl⟩
 |_,_,.cons y t r,i+1,v,h=>xq r i v (by simpa using h)
abbrev xr(κ:SK X.prog X.w K)(l:J9)(ss:η K):HO:=.ext fun h=>TxS κ h l ss (cL X.w)
def qL(κ:SK X.prog X.w K)(kv:K->V):Prop:=∀k v,RelV (kv k) v↔∃t,v=κ.put k t
theorem pj(hk:qL κ kv):∀{ss:η K}{J8:η Value},Vals (ss.map kv) J8->AreK κ J8 ss
 |[],_,h=>by cases h;exact .nil
 |x::ss,_,h=>by
  cases h with
  |cons h1 h2=>obtain⟨t,rfl⟩:=(hk x _).mp h1;exact .cons x t (pj hk h2)
theorem pk(hk:qL κ kv):∀{J8:η Value}{ss:η K},AreK κ J8 ss->Vals (ss.map kv) J8
 |_,_,.nil=>.nil
 |_,_,.cons x t h=>.cons ((hk x _).mpr ⟨t,rfl⟩) (pk hk h)
theorem uP(hk:qL κ kv)(W:X.calm=θ):cz X (.type "set") (fun xs H Q=>∃p ss,xs=[.ref p]/\SqL X.K H p (ss.map kv)/\ss.length<4000/\∀l,H l=ψ->Q (.ref l) (upd H l (xr κ l (cj ss)))):=by
 intro J1 s σ H xs us Q I r h;obtain⟨p,ss,rfl,hq,hz,q⟩:=h;obtain⟨u,rfl,rx⟩:=fK r;cases rx;obtain⟨J8,Z,pl,hz'⟩:=I.list hq;have hS:=pj hk Z;have U:J8.length=ss.length:=by have:=Z.length;simpa using this.symm
 have hi:∀(i:Nat)(v:Value),J8.toArray[i]?=ς v->∃t,v=κ.put (ss.getD i default) t:=fun i v hv=>xq hS i v (by simpa using hv)
 have hb:J8.toArray.size+1<qp3:=by
  have:J8.toArray.size=ss.length:=by simpa using U
  rw[this];unfold qp3;lia
 refine xf (I.ok.hd W) pl.isList hi hb fun hp tk Y kept=>?_
 have e:met (fun i=>ss.getD i default) J8.toArray.size=cj ss:=by rw[show J8.toArray.size=ss.length by simpa using U];exact mx ss
 rw[e]at Y;refine⟨.ref s.heap.objs.size,_,I.laid (t':=tk) (fun b o g=>kept b o (qb0 g) g) (nL _) (show ObjOk X.prog X.w _ _ _ (xr κ s.heap.objs.size (cj ss))from⟨Y,?_,fun h1 h2 x g=>x.moved g⟩),rfl,q _ (I.hok.fresh (nL _))⟩;obtain⟨_,o,g,_⟩:=Y.small;exact⟨o,g⟩
theorem nA{U:η K->η K}(hk:qL κ kv)(hs:iD κ U)(pm:∀{ss ks},ks.Perm ss->U ks=U ss)(pl:∀ss,(U ss).length=ss.length)(W:X.calm=θ):cz X (.builtin "sorted") (fun xs H Q=>∃p ss,xs=[.ref p]/\H p=ς (xr κ p ss)/\ss.length<64/\∀l,H l=ψ->Q (.ref l) (upd H l (.e ((U ss).map kv)))):=by
 intro J1 s σ H xs us Q I r h;obtain⟨p,ss,rfl,hq,hz,q⟩:=h;obtain⟨u,rfl,rx⟩:=fK r;cases rx;have hT:TxS κ s.heap p ss (cL X.w):=(show ObjOk X.prog X.w H s.heap p (xr κ p ss)from I.hok p _ hq).1;refine kJ hs pm (I.ok.hd W) hT hz fun l Z d h' tk a1 Y le kept=>?_
 obtain⟨c,Y⟩:=Y;refine⟨.ref l,_,(I.laid (t':=tk) kept le (show ObjOk X.prog X.w _ _ _ (.e ((U ss).map kv))from⟨?_,Z.toList,c,pk hk a1,Y⟩)).dr d,rfl,q _ (I.hok.fresh le)⟩;rw[qa1,pl];exact qc0 (qi2 hz) Ω
end
theorem kvS{X:Cx}:qL (X:=X) (uM X.prog X.w) V.str:=fun _ _=>Iff.rfl
theorem kvI{X:Cx}:qL (X:=X) (uN X.prog X.w) V.int:=fun _ _=>Iff.rfl
def uQ{K:Type}[DecidableEq K](rd:η Dt->ζ (η K))(U:η K->η K)(wr:K->Dt):η Dt->ζ T
 |[.e ds]=>(rd ds).bind fun ss=>if ss.length<4000/\(cj ss).length<64 then ς (.e ((U (cj ss)).map wr))else ψ
 |_=>ψ
def pp:η Dt->ζ (η Int)
 |[]=>ς []
 |.int k::r=>(pp r).map (k::·)
 |_=>ψ
theorem nB{F:Hp}:∀{l:η Dt}{vs:η V}{bs:η Int},Reps K F l vs->pp l=ς bs->vs=bs.map V.int
 |[],vs,bs,r,h=>by cases h;simp only[Reps]at r;exact r
 |d::l,vs,bs,r,h=>by
  cases d<;>first|cases h;done|skip
  simp only[pp]at h;obtain⟨cs,U,h⟩:=mS h;cases h;simp only[Reps,Rep]at r;obtain⟨v,Y,rfl,rfl,W⟩:=r;rw[nB W U];rfl
def iF:η Dt->ζ T:=uQ iV fP .str
def eZ:η Dt->ζ T:=uQ pp jt .int
theorem mz{F:Hp}:∀ns:η Int,Reps K F (ns.map .int) (ns.map V.int)
 |[]=>by simp only[qm4,Reps]
 |x::ss=>by simp only[qa4,Reps];exact⟨_,_,rfl,by simp only[Rep],mz ss⟩
section
variable{X:Cx}{e:Jc}{pos pos2 p p2:Pos}{sc:Jd}{fs:De->ζ (η Dt)}
theorem xt {K:Type} [DecidableEq K] [Inhabited K] {rd:η Dt->ζ (η K)} {U:η K->η K} {wr:K->Dt} (κ:SK X.prog X.w K) {kv:K->V} (hk:qL κ kv) (hs:iD κ U) (pm:∀ {ss ks},ks.Perm ss->U ks=U ss) (pl:∀ ss,(U ss).length=ss.length)
  (hr:∀{F:Hp}{l:η Dt}{vs:η V}{bs:η K},Reps X.K F l vs->rd l=ς bs->vs=bs.map kv) (hw:∀{F:Hp}(ns:η K),Reps X.K F (ns.map wr) (ns.map kv))
  (h1:aB sc "sorted"=θ) (h2:aB sc "set"=θ) (hc:X.calm=θ) (m1:X.mg "sorted"=ψ) (m2:X.mg "set"=ψ) (ha:DAB X [e] fs) (e1:bN X sc)
  (s1:qa8 [.Call (.Name "set" p2) [e] [] pos2] X.env=(ξ,eval (.Call (.Name "set" p2) [e] [] pos2) X.env)::qa8 [] X.env) (n1:(ql8 pos (qa8 [] X.env)).any (·.1)=ξ)
  (s2:qa8 [e] X.env=(ξ,eval e X.env)::qa8 [] X.env) (n2:(ql8 pos2 (qa8 [] X.env)).any (·.1)=ξ):DO X (.Call (.Name "sorted" p) [.Call (.Name "set" p2) [e] [] pos2] [] pos) (ag (uQ rd U wr) fs):=
 PE.mono (iU h1 (nA hk hs pm pl hc) m1 (by rfl) (bW (kj h2 (uP hk hc) m2 (by rfl) ha.pa e1 s2 n2) eG s1) e1 s1 n1) fun σ H Q ⟨Φ,δ,F,t,hK,en,hf,k⟩=>by
  unfold ag at hf;obtain⟨ds,hd,W⟩:=bS hf;refine⟨Φ,δ,F,ds,hK,en,hd,fun vs H1 F1 st r=>?_⟩;unfold uQ at W;split at W<;>first|(cases W;done)|skip
  obtain⟨ss,hs,W⟩:=bS W;split at W<;>cases W
  rename_i hz;obtain⟨v,rfl,rv⟩:=dq r;obtain⟨b,ws,rfl,g1,g2⟩:=rv;have:=hr g2 hs;subst this;refine⟨b,ss,rfl,g1,hz.1,fun l hl=>?_⟩;have Y:Step F1 H1 F1 (upd H1 l (xr κ l (cj ss))):=Step.made st.fh hl;refine⟨l,cj ss,rfl,aw,hz.2,fun l2 Z=>?_⟩;exact em (k.step (st.trans Y)) Y.fh (hw _) Z
theorem qM (h1:aB sc "sorted"=θ) (h2:aB sc "set"=θ) (Z:X.calm=θ) (m1:X.mg "sorted"=ψ) (W:X.mg "set"=ψ) (U:DAB X [e] fs) (e1:bN X sc:=by rfl)
  (s1:qa8 [.Call (.Name "set" p2) [e] [] pos2] X.env=(ξ,eval (.Call (.Name "set" p2) [e] [] pos2) X.env)::qa8 [] X.env:=by rfl) (n1:(ql8 pos (qa8 [] X.env)).any (·.1)=ξ:=by rfl)
  (Y:qa8 [e] X.env=(ξ,eval e X.env)::qa8 [] X.env:=by rfl) (n2:(ql8 pos2 (qa8 [] X.env)).any (·.1)=ξ:=by rfl):DO X (.Call (.Name "sorted" p) [.Call (.Name "set" p2) [e] [] pos2] [] pos) (ag iF fs):=
 xt (uM X.prog X.w) kvS xk xl (fun ss=>(cV ss).length_eq) (fun g h=>l8 g h) (fun ss=>mo ss) h1 h2 Z m1 W U e1 s1 n1 Y n2
theorem pv (h1:aB sc "sorted"=θ) (h2:aB sc "set"=θ) (Z:X.calm=θ) (m1:X.mg "sorted"=ψ) (W:X.mg "set"=ψ) (U:DAB X [e] fs) (e1:bN X sc:=by rfl)
  (s1:qa8 [.Call (.Name "set" p2) [e] [] pos2] X.env=(ξ,eval (.Call (.Name "set" p2) [e] [] pos2) X.env)::qa8 [] X.env:=by rfl) (n1:(ql8 pos (qa8 [] X.env)).any (·.1)=ξ:=by rfl)
  (Y:qa8 [e] X.env=(ξ,eval e X.env)::qa8 [] X.env:=by rfl) (n2:(ql8 pos2 (qa8 [] X.env)).any (·.1)=ξ:=by rfl):DO X (.Call (.Name "sorted" p) [.Call (.Name "set" p2) [e] [] pos2] [] pos) (ag eZ fs):=
 xt (uN X.prog X.w) kvI xm xp (fun ss=>(dN ss).length_eq) (fun g h=>nB g h) (fun ss=>mz ss) h1 h2 Z m1 W U e1 s1 n1 Y n2
end
section
variable{P:qc5}{u:Ja}{A:qe1}{E:Value->qa3->Prop}{s:qa3}{Ty:String}{r d:J9}{n:Nat}{Pr:Nat->Value->Prop}{OK:Heap->Prop}
end
section
variable{X:Cx}
variable{e o:Jc}{es:η Jc}{fo:De->ζ Dt}{fs:De->ζ (η Dt)}{apos cpos pos:Pos}
def y59(i:Nat)(f:De->ζ T):De->ζ Out:=fun δ=>match δ[i]? with
 |some (ς (.e l))=>(f δ).bind fun t=>match t with
  |.e m=>if l.length+m.length<=qb2 then ς (.nx (δ.set i (ς (.e (l++m)))))else ψ
  |_=>ψ
 |_=>ψ
theorem uR{fe:De->ζ T}(hx:PE X o (fT i))(he:DO X e fe)
 (Y:zd0 o "extend" X.env (eval o X.env)=eval o X.env:=by rfl)
 (hfew:((ql8 cpos (qa8 [e] X.env)).all (fun x=>!x.1)&&(backToKw cpos (zj3 [] X.env)).all (fun x=>x.1.isSome)
 && decide ([e].length+([]:η zg5).length+(if([]:η zg5).isEmpty then 0 else 1)<30))=θ:=by rfl)
 (Z:(apos.endLine==cpos.line)=θ:=by rfl) (hs:qa8 [e] X.env=(ξ,eval e X.env)::qa8 [] X.env:=by rfl) (W:(ql8 cpos (qa8 [] X.env)).any (·.1)=ξ:=by rfl)
 (hsw:qo5 (.Call (.Attribute o "extend" apos) [e] [] cpos) ψ pos.line X.env=pure ξ:=by rfl) :
  DS1 X (.Expr (.Call (.Attribute o "extend" apos) [e] [] cpos) pos) (y59 i fe):=
 PS.mono (mR (vW PySem.F.plainAttrs_list PySem.F.slot_list_extend PySem.F.type_list_extend t9 hx (bW he eG hs) Y hfew Z hs W) hsw) fun D σ H ⟨Φ,δ,F,ot,hK,en,U,k⟩=>by
  unfold y59 at U;split at U<;>first|cases U;done|skip
  rename_i l hl;obtain⟨t,hd,U⟩:=bS U;split at U<;>first|cases U;done|skip
  rename_i m;split at U<;>first|cases U;done|skip
  rename_i hz;cases U;obtain⟨a,vs,hv,h1,h2⟩:=en.ownL hl;refine⟨.ref a,hv,.inl ⟨rfl,vs,.inl (.inl h1)⟩,Φ,δ,F,.e m,hK,en,hd,fun v H1 F1 S st ov hS=>?_⟩;have en1:=en.step st;have h1':=st.hh _ _ h1;obtain⟨b,ws,rfl,sb,g1,g2⟩:=ov;refine⟨a,b,vs,ws,rfl,rfl,h1',g1,by rw[h2.length,g2.length];exact hz,?_⟩;refine k σ F1 _ (en1.poke hl hv rfl fun S sa=>⟨a,vs++ws,rfl,sa,aw,(h2.same st.ff).append (hK▸g2)⟩)
end
def BD(outer:Jd)(NX N ps fr:η Str)(js:η Nat)(sc:Jd):Bool:=
 (match sc.kind with|.function=>θ|_=>ξ)&&!sc.isCoroutine&&!sc.isGenerator&&decide N.Nodup&&decide (N.take ps.length=ps)&&decide (N.drop (N.length-fr.length)=fr)&&decide (ps.length+fr.length<=N.length)&&
 ps.all (fun x=>decide (sc.names.lookup x=ς .local)||decide (sc.names.lookup x=ς .cell))&&
 fr.all (fun x=>decide (sc.names.lookup x=ς .free))&&
 sc.names.all (fun y=>!decide (y.2=.free)||decide (y.1∈fr))&&
 sc.names.all (fun y=>decide (sc.names.lookup y.1=ς y.2))&&
 decide (ps.length=1)&&
 sc.names.all (fun y=>!decide (y.2=.free)||decide (outer.names.lookup y.1=ς .cell))&&
 decide (js.length=fr.length)&&
 (fr.zip js).all (fun p=>decide (NX[p.2]?=ς p.1)&&decide (outer.names.lookup p.1=ς .cell))
structure NsC(outer:Jd)(NX N ps fr:List Str)(js:List Nat)(sc:Jd):Prop where
 S:ClScope N ps fr sc
 nd:N.Nodup
 ndn:∀x,∀y∈sc.names,y.1=x->sc.names.lookup x=ς y.2
 one:ps.length=1
 fre:∀x∈sc.names,x.2=.free->outer.names.lookup x.1=ς .cell
 jl:js.length=fr.length
 nm:∀(i j:Nat)(x:Str),fr[i]?=ς x->js[i]?=ς j->NX[j]?=ς x/\outer.names.lookup x=ς .cell
 all:∀x∈sc.names,x.2=.free->x.1∈fr
theorem NsC.of{outer:Jd}{NX fr:η Str}(h:BD outer NX N ps fr js sc=θ):NsC outer NX N ps fr js sc:=by
 unfold BD at h;simp only[qa9,qk9,qj1,qi7,decide_eq_true_eq,decide_eq_false_iff_not]at h;obtain⟨⟨⟨⟨⟨⟨⟨⟨⟨⟨⟨⟨⟨⟨h1,h2⟩,h3⟩,h4⟩,h5⟩,h6⟩,h7⟩,h8⟩,h9⟩,Z⟩,W⟩,h12⟩,h13⟩,h14⟩,Y⟩:=h;have U:∀x∈sc.names,x.2=.free->x.1∈fr:=fun x hx e=>(Z x hx).resolve_left fun z=>z e
 have hk:sc.kind=.function:=by revert h1;cases sc.kind<;>simp
 refine⟨⟨hk,h2,h3,h4,h5,h6,h7,h8,h9,fun x e=>U _ (PySem.mem_of_lookup e) rfl⟩,h4,fun x y hy e=>by rw[<- e];exact W y hy,h12,fun x hx e=>(h13 x hx).resolve_left fun z=>z e,h14,fun i j x e1 e2=>?_,U⟩;have hm:(x,j)∈fr.zip js:=qc7 (i:=i) (by rw[qs6];exact⟨e1,e2⟩);exact Y (x,j) hm
variable{qs:η ((Nat×Nat)×Str)}
section
variable{X:Cx}{name qual:Str}{params:ql1}{body:η Jb}{scope outer:Jd}{NX N ps fr:η Str}{js:η Nat}{g:De->ζ Out}{kk i:Nat}{pos:Pos}
theorem NestD.of (C:NsC outer NX N ps fr js scope) (U:∀ (s:qa3) (cl:η (Str×J9)) (doc pm ctv Z:Value) (us:η Value),us.length=ps.length->zc8 s (xG9 name qual params body scope cl .none .none doc pm ψ Z ctv) ⟨us,[]⟩ (ps.zip us))
  (hb:∀(f c':J9)(cl:η (Str×J9))(A:qe1)(outer:η Env)(s:qa3)(H:Hp),Room kk (A.deeper (ic qual scope s.heap.objs.size f (.ref c') cl))->DS (oI CX0 X.prog X.w X.K X.mg X.base N qual scope f (.ref c') cl A outer s H E0 fun _ _=>False) body g)
  (e1:bN X outer:=by rfl) (Y:X.N=NX:=by rfl):NestD X name qual params body scope N ps fr js g kk:=by
 have e1:X.env.scope=outer:=e1;subst e1 Y;exact⟨C.S,C.ndn,C.one,C.fre,C.jl,C.nm,U,hb⟩
noncomputable def hasQ(qs:η ((Nat×Nat)×Str))(pos:Pos)(qual:Str):Bool:=decide (((pos.line,pos.col),qual)∈qs)&&qs.all fun p=>!decide (p.1=(pos.line,pos.col))||decide (p.2=qual)
theorem sH{c P:J9}(h:dl outer NX i name=θ)(hl:iT outer name=θ)(nd:NX.Nodup)(C:NsC outer NX N ps fr js scope)(B:TabB X.mg X.base c P)(hT:(P,qs)∈cS X.K)(W:hasQ qs pos qual=θ)
 (U:X.env.code=.ref c:=by rfl) (Z:qualnameIn X.env name name=qual:=by rfl) (hd0:params.defaults=[]:=by rfl) (Y:params.kw_defaults=[]:=by rfl) (ha:annTrees params ψ X.env=[]:=by rfl)
 (e1:bN X outer:=by rfl) (e2:X.N=NX:=by rfl) (hfn:X.fn name=θ:=by rfl):PS X (.FunctionDef name params body [] ψ [] scope ψ name pos) (sA i name qual params body scope (fU scope.names X.env.cells)):=fun J1 s σ H D I hh=>by
 have e1:X.env.scope=outer:=e1;subst e1 e2;unfold hasQ at W;simp only[qa9,qk9,qj1,qi7,decide_eq_true_eq,decide_eq_false_iff_not]at W;exact Aj nd (gO h) (kg hl) (.inl hfn) B U hT Z W.1 (fun q hm=>(W.2 _ hm).resolve_left fun z=>z rfl) (j8 fun x hx e=>I.ok.has x.1 (.inl (C.fre x hx e))) hd0 Y ha J1 s σ H D I hh
theorem DQ{i1 i2:Nat}(h:decide (i1<NX.length/\i2<NX.length)=θ)(U:X.N=NX:=by rfl):∀ σ:St,σ.length=X.N.length->i1<σ.length/\i2<σ.length:=fun σ e=>by rw[e,U];exact of_decide_eq_true h
end
structure DefC(K:xA9)(mg:Str->Option Value)(x:Str)(st:Jb)(ps:List Str)(c:J9):Prop where
 ex:∃(f:J9)(oc:Value)(od:Option J9)(kV doc pm:Value)(an:Option J9)(ct:Value)(osl:Array (Option Value)),mg x=ς (.ref f)/\xF9 K (.ref f)=θ/\Binds K (xC9 x x (bJ st) (aF st) (ab st) .none kV doc pm an (.ref c) ct) ps []∧K.lookup f=ς ⟨oc,od,.func (xC9 x x (bJ st) (aF st) (ab st) .none kV doc pm an (.ref c) ct),osl⟩/\xH9 K (.ref c) x=θ
section
variable{P:qc5}{w:Ja}{K:xA9}{mg:Str->ζ Value}{base:Heap}{x:Str}{st:Jb}{N ps:η Str}{c:J9}
theorem DefC.mk'{oc:Value}{od an:ζ J9}{osl:Array (ζ Value)}{kV doc pm ct:Value}(X:K.In h)(G:h.Ns qc1 mg)
 (a:xB9 K qc1 x=ς (ς (.ref f)))
 (l:K.lookup f=ς ⟨oc,od,.func (xC9 x x (bJ st) (aF st) (ab st) .none kV doc pm an (.ref c) ct),osl⟩) (U:xH9 K (.ref c) x=θ) (k:xF9 K (.ref f)=θ)
 (Y:∀(kV doc pm:Value)(an:ζ J9)(cdv ct:Value)(us:η Value),us.length=ps.length->zk2 (xC9 x x (bJ st) (aF st) (ab st) .none kV doc pm an cdv ct) ⟨us,[]⟩=pure (ps.zip us)):DefC K mg x st ps c:=
 ⟨f,oc,od,kV,doc,pm,an,ct,osl,xI9 X G a,k,(mY l U k).binds Y,l,U⟩
theorem DR{k:Nat}(D:DefC K mg x st ps c)(S:FnScope N ps (ab st))(hn:ps.length=n)
 (U:∀(f:J9)(A:qe1)(outer:η Env)(s:qa3)(H:Hp)(E:XK),Room k (A.deeper (zb5 x (ab st) s.heap.objs.size f (.ref c)))->DS (j5 CX0 P w K mg base N x (ab st) f (.ref c) A outer s H E).nox (aF st) g) :
  OkF P w K mg base x (k+1) ps (spD K n (bC N.length g)):=by
 obtain⟨f,oc,od,kV,doc,pm,an,ct,osl,h1,h2,h3,lk,Y⟩:=D.ex;refine⟨f,_,h1,h2,h3,Bp lk Y S (fun vs H Q E h=>?_) fun A outer s H vs Q E hr h=>?_⟩
 .obtain⟨F,ds,t,_,hl,r,_⟩:=h;rw[r.length,hl,hn]
 .obtain⟨F,ds,t,Z,hl,r,W,kq⟩:=h;refine⟨_,PSs.nox (U f A outer s H E hr),?_⟩;unfold bC at W;split at W
  .rename_i t' q;cases W;exact⟨⟨K,F,H,fun _=>False⟩,_,F,_,rfl,eT Z r,q,fun v F' H' z=>z.step kq⟩
  .rename_i δ' q;cases W;exact⟨⟨K,F,H,fun _=>False⟩,_,F,_,rfl,eT Z r,q,fun σ' F' H' z=>(z.rt (Step.refl z.fh) (t:=.f .non) (S:=fun _=>False) (ip (K:=K) (F:=F')) fun _ y=>y.elim).step kq⟩
  .cases W
theorem Ap{P:J9}(U:decide (x∈nestNames)=θ)(h:p9 K x=ς (P,qs)):(P,qs)∈cS K:=za4.mpr ⟨x,of_decide_eq_true U,h⟩
end
variable{R:zn1->qa3->Prop}
section
variable{P:qc5}{u:Ja}{B:qe1}{Ex:Value->qa3->Prop}{s:qa3}{it l:J9}{xs:Array Value}
theorem nC:qy3 (.type "list_reverseiterator") "__len__"=pure ψ:=by rw[qp4,qk2];kernel_rfl
theorem lE:qy3 (.type "list_reverseiterator") "__length_hint__"=pure (ς (.builtin "list_reverseiterator.__length_hint__")):=by rw[qp4,qk2];kernel_rfl
theorem xu{W:Bool->qa3->Prop}(U:s.TypeIs (.ref it) "list_reverseiterator")(q:W ξ s):wpAny (model P u) B (qm7 (.ref it)) W Ex s:=by
 unfold qm7;refine wB (qz2 U nC ?_)
 wp_delta
 refine qm8 (fun z=>absurd z Ω) fun _=>?_
 refine qm8 (fun z=>absurd z Ω) fun _=>?_
 refine wB (qz2 U lE ?_);generalize hi:("list_reverseiterator.__length_hint__":String)=j
 wp_delta
 rw[show splitId j=ς ("list_reverseiterator","__length_hint__")from by subst hi;decide +kernel];subst hi;refine wB (qn3 (T:="list_reverseiterator") (b:=true) U (by rw[zi8];kernel_rfl) ?_);refine qm8 (fun z=>absurd z Ω) fun _=>?_
 refine qm8 (fun _=>?_) fun z=>absurd χ z
 refine qm8 (fun z=>absurd z χ) fun _=>?_
 exact qa2 q
abbrev sI(xs:Array Value):Nat->Value->Prop:=fun i v=>xs[xs.size-1-i]?=ς v
theorem qN(U:B.handled=ψ)(hi:s.heap.IsRevIter it l ((xs.size:Int)-1))(hl:s.heap.IsList l xs)(W:l≠it)(t:J9)(n1:t≠it)(n2:t≠l)(rs:Value)(Z:Nat)(ht:s.heap.get? t=ς {cls:=.type "list",data:=.seq #[] Z})(fits:xs.size<=qb2)
 (q:∀(h':Heap)(tk:Nat)(ys:Array Value)(c:Nat),(∀b o,b≠t->b≠it->s.heap.get? b=ς o->h'.get? b=ς o)->h'.get? t=ς {cls:=.type "list",dict:=ψ,data:=.seq ys c,slots:=#[]}->ItemsOf (sI xs) ys xs.size->R (.ok (.ret rs)) {s with heap:=h',toks:=tk}) :
  wpAny (model P u) B.in1 (qi5 (.ref t) (.ref it) rs) (fun fin s'=>match fin with|.done f=>R (.ok f) s'|.again c'=>c'.quiet=θ/\qq7 (model P u) B c' R s') (fun e s'=>R (.error e) s') s:=by
 have tn:t∉[it,l]:=by
  intro z;rcases qa5.mp z with z|z
  .exact n1 z
  .exact n2 (qb1.mp z)
 have Wk:=Walks.listRev (prog:=P) (w:=u) (A:=B.in1) (by simpa using U) it l W xs
 have go:qq7 (model P u) B (.builtin "list.extend.loop" ⟨[.ref t,.ref it,rs],[]⟩) R s:=by
  refine codeAny_extend_loopS Wk.toS fits t tn rs xs.size 0 _ #[] Z rfl (qk6 _) ⟨qk6 _,by simpa using hi,hl⟩ ht (ItemsOf.nil _) fun s' ys c mv Y J8=>?_
  rw[Moved.eq_with mv];refine q s'.heap s'.toks ys c (fun b o b1 b2 e=>mv.heap b o (fun z=>?_) e) Y J8;rcases qa5.mp z with z|z
  .exact b1 z
  .exact b2 (qb1.mp z)
 unfold qi5;refine wB (qw4 (T:="list_reverseiterator") hi.typeIs ?_);have e1:qp5 (.ref t) (.ref it)=ξ:=by simp[qp5,n1]
 have e2:(ql7 "list_reverseiterator"==ql7 "list")=ξ:=by decide +kernel
 have e3:(ql7 "list_reverseiterator"==ql7 "tuple")=ξ:=by decide +kernel
 simp only[e1,e2,e3,qx7,qd1,if_false];refine wB (wpAny_pyIter_revIter hi ?_);refine wB (qh9 (xu hi.typeIs ?_));refine qm8 (fun z=>absurd z χ) fun _=>?_
 exact qa2 ⟨ql5 PySem.F.plain_extend_loop _,go⟩
theorem xw(W:B.handled=ψ)(hi:s.heap.IsRevIter it l ((xs.size:Int)-1))(hl:s.heap.IsList l xs)(hne:l≠it)(t:J9)(n1:t≠it)(n2:t≠l)(Z:s.heap.get? t=ς {cls:=.type "list",data:=.seq #[]})(fits:xs.size<=qb2)
 (q:∀(h':Heap)(tk:Nat)(ys:Array Value)(c:Nat),(∀b o,b≠t->b≠it->s.heap.get? b=ς o->h'.get? b=ς o)->h'.get? t=ς {cls:=.type "list",dict:=ψ,data:=.seq ys c,slots:=#[]}->ItemsOf (sI xs) ys xs.size->R (.ok (.ret .none)) {s with heap:=h',toks:=tk}) :
  wpAny (model P u) B.in1 (qh6.«list.__init__» ⟨[.ref t,.ref it],[]⟩) (fun fin s'=>match fin with|.done f=>R (.ok f) s'|.again c'=>c'.quiet=θ/\qq7 (model P u) B c' R s') (fun e s'=>R (.error e) s') s:=by
 show wpAny _ _ (do let Y <- zf7 (.ref t);qh6.List.listUpdate (.ref t) (fun _=>#[]);letGo Y.toList.reverse;qi5 (.ref t) (.ref it) .none) _ _ s;refine wB ?_;unfold zf7;refine wB (qg5 Z rfl (qa2 ?_));show wpAny _ _ (zl0 t (fun _=>#[]) >>= fun _=>letGo (#[]:Array Value).toList.reverse >>= fun _=>qi5 (.ref t) (.ref it) .none) _ _ s;refine wB (qr2 Z rfl ?_);have ht2:=qe3 (qn1 (fun _=>(#[]:Array Value))) Z rfl;have U:∀b o,b≠t->s.heap.get? b=ς o->(s.heap.update t (qn1 (fun _=>(#[]:Array Value)))).get? b=ς o:=fun b o hb e=>(qh7 _ _ (qh5 hb)).trans e
 refine wB (qt6 ?_);exact qN W (hi.at fun o e=>U _ o n1.symm e) (hl.at fun o e=>U _ o n2.symm e) hne t n1 n2 .none _ ht2 fits fun h' tk ys c k k2 k3=>q h' tk ys c (fun b o b1 b2 e=>k b o b1 b2 (U b o b1 e)) k2 k3
theorem xx {W:Value->qa3->Prop} (Z:B.handled=ψ) (hi:s.heap.IsRevIter it l ((xs.size:Int)-1)) (hl:s.heap.IsList l xs) (hne:l≠it) (fits:xs.size<=qb2)
  (q:∀(h':Heap)(tk:Nat)(ys:Array Value)(c:Nat),(∀b o,b≠it->s.heap.get? b=ς o->h'.get? b=ς o)->h'.get? s.heap.objs.size=ς {cls:=.type "list",dict:=ψ,data:=.seq ys c,slots:=#[]}->ItemsOf (sI xs) ys xs.size->W (.ref s.heap.objs.size) {s with heap:=h',toks:=tk}) :
  wpAny (model P u) B (call (.type "list") [.ref it]) W Ex s:=by
 refine callType_codes (Q₁:=fun z U=>z=.ref s.heap.objs.size/\U={s with heap:=s.heap.push {cls:=.type "list",data:=.seq #[]}}) PySem.F.called_list (PySem.F.typeCall_list_1 _) PySem.F.entry_list_init (code_list_new _ ⟨rfl,rfl⟩) fun z U Y=>?_
 obtain⟨rfl,rfl⟩:=Y;have ht:(s.heap.push {cls:=.type "list",data:=.seq #[]}).get? s.heap.objs.size=ς {cls:=.type "list",data:=.seq #[]}:=qa7 _ rfl;have l1:it<s.heap.objs.size:=let ⟨_,e,_⟩:=hi;qb0 e;have l2:l<s.heap.objs.size:=let ⟨_,e,_⟩:=hl;qb0 e;refine⟨⟨_,ht,rfl⟩,PySem.F.args_list_init_2 _ _,xw (B:=B.in1) (by simpa using Z) (hi.at fun o e=>ql0 _ e) (hl.at fun o e=>ql0 _ e) hne _ (ql6 l1) (ql6 l2) ht fits fun h' tk ys c k k2 k3=>?_⟩;exact⟨rfl,q h' tk ys c (fun b o b1 e=>k b o (qb8 (qb0 e)) b1 (gP _ e)) k2 k3⟩
theorem xy{vs:η V}{J8 ys:η Value}(r:Vals vs J8)(U:ys.length=J8.length)(h:∀(i:Nat)(v:Value),ys[i]?=ς v->J8[J8.length-1-i]?=ς v):ys=J8.reverse:=by
 apply zc5;intro i;by_cases hi:i<ys.length
 .have e:=h i ys[i] (gQ hi);rw[List.getElem?_reverse Θ,e,gQ hi]
 .rw[zh9 Θ,zh9 (by simp;lia)]
end
def tLR(X:Cx)(ta:TA):TE:=fun σ H Q=>ta σ H fun xs H1=>∃p vs,xs=[.ref p]/\SqL X.K H1 p vs/\∀l,H1 l=ψ->Q (.ref l) (upd H1 l (.e vs.reverse))
section
variable{X:Cx}{e:Jc}{ta:TA}{p1 p2 pos1 pos2:Pos}{sc:Jd}
def pz:qe0 "reversed"=ς (.type "reversed"):=χ
theorem iG:∀{vs:η V}{us:η Value},Vals vs us->Vals vs.reverse us.reverse
 |_,_,.nil=>.nil
 |_,_,.cons h r=>by rw[qw1,qw1];exact(iG r).append (.cons h .nil)
theorem qO (h1:aB sc "list"=θ) (h2:aB sc "reversed"=θ) (hm1:X.mg "list"=ψ) (hm2:X.mg "reversed"=ψ) (hc:X.calm=θ) (ha:PA X [e] ta) (e1:bN X sc:=by rfl) (hs:qa8 [e] X.env=[(ξ,eval e X.env)]:=by rfl)
  (hs2:qa8 [.Call (.Name "reversed" p2) [e] [] pos2] X.env=[(ξ,eval (.Call (.Name "reversed" p2) [e] [] pos2) X.env)]:=by rfl) :
  PE X (.Call (.Name "list" p1) [.Call (.Name "reversed" p2) [e] [] pos2] [] pos1) (tLR X ta):=by
 intro J1 s σ H Q I h'
 have Y:wpAny (model X.prog X.w) X.A (eval (.Call (.Name "reversed" p2) [e] [] pos2) X.env) (fun u s2=>∃it p vs H1,u=.ref it/\Inv X J1 σ H1 s2/\e9 X J1 H1 it/\p≠it/\SqL X.K H1 p vs/\s2.heap.IsRevIter it p ((vs.length:Int)-1)/\(∀l,H1 l=ψ->Q (.ref l) (upd H1 l (.e vs.reverse)))) X.xe s:=by
  refine Call_ (eF I (glD h2 e1) hm2 pz (qf5 (thn (ha pos2 J1 s σ H _ I h') fun us s1 ⟨vs,H1,I1,r1,q1⟩=>?_) hs rfl));obtain⟨p,vs,rfl,hq,q⟩:=q1;obtain⟨u,rfl,ru⟩:=fK r1;cases ru;obtain⟨J8,r',pl,W⟩:=I1.list hq;have U:J8.toArray.size=vs.length:=by have:=r'.length;simpa using this.symm
  refine call_reversed_list pl.isList ?_;have Z:=I1.kept (t':=s1.toks) (h':=s1.heap.push (revObj p ((J8.toArray.size:Int)-1))) fun b o g=>gP _ g
  have fp:=I1.fpOk (b:=s1.heap.objs.size) (nL _) (I1.hok.fresh (nL _));refine⟨s1.heap.objs.size,p,vs,H1,rfl,Z,fp,?_,hq,⟨_,qa7 _ rfl,rfl,by rw[<- U];rfl⟩,q⟩;obtain⟨_,g,_⟩:=pl.isList;exact qb8 (qb0 g)
 have key:wpAny (model X.prog X.w) X.A (spliced (ql8 pos1 (qa8 [.Call (.Name "reversed" p2) [e] [] pos2] X.env))) (fun vs s₁=>wpAny (model X.prog X.w) X.A (call (.type "list") vs) (EP X J1 σ Q) X.xe s₁) X.xe s:=?key
 .exact Call_ (eF I (glD h1 e1) hm1 ib (qf5 key hs2 rfl))
 rw[hs2];show wpAny _ _ (spliced ((ξ,eval (.Call (.Name "reversed" p2) [e] [] pos2) X.env)::[])) _ _ s;refine Calls.spliced_cons (thn Y fun u s2 w=>Calls.spliced_nil ?_);obtain⟨it,p,vs,H1,rfl,Z,fp,hne,hq,hR,q⟩:=w;obtain⟨J8,r',pl,W⟩:=Z.list hq;have U:J8.toArray.size=vs.length:=by have:=r'.length;simpa using this.symm
 have fits:J8.toArray.size<=qb2:=by first|exact W|(rw[U];exact W)|simpa using W
 refine xx (Z.ok.hd hc) (by rw[U];exact hR) pl.isList hne fits fun h3 tk ys c k k2 k3=>?_
 have ey:ys.toList=J8.reverse:=xy r' (by have:=k3.1;simpa using this) fun i v hv=>by have:=k3.2 i v (by simpa using hv);simpa[sI] using this
 refine⟨.ref s2.heap.objs.size,_,Z.turnedT (fp:=[it]) (t:=s2.heap.objs.size) (u:=.e vs.reverse) (t':=tk) (fun b o hb g=>k b o (fun z=>hb (by simp[z])) g) (fun b hb=>?_) (qn6 _) ⟨?_,J8.reverse,c,iG r',?_⟩,rfl,q _ (Z.hok.fresh (qn6 _))⟩
 .cases qb1.mp hb;exact fp
 .rw[List.length_reverse,<- U];exact fits
 .rw[k2,<- ey]
end
def kK(ks:η Key):Dt:=.t (ks.map o7)
theorem i7{F:Hp}:∀ks:η Key,Reps K F (ks.map o7) (ks.map kV)
 |[]=>by simp only[qm4,Reps]
 |k::ks=>by simp only[qa4,Reps];exact⟨_,_,rfl,Ai k,i7 ks⟩
theorem xz{F:Hp}{b:J9}{ks:η Key}(h:F b=ς (.t (ks.map kV))):Rep K F (kK ks) (.ref b):=by unfold kK;simp only[Rep];exact⟨b,_,rfl,SqT.of h,i7 ks⟩
theorem mB{α β:Type}{R:α->β->Prop}:∀{l:η α}{m:η β},Paired R l m->∀{i:Nat}{a:α},l[i]?=ς a->∃b,m[i]?=ς b/\R a b
 |_,_,.nil,i,a,h=>by simp at h
 |_,_,.cons r t,0,a,h=>by simp at h;subst h;exact⟨_,rfl,r⟩
 |_,_,.cons r t,i+1,a,h=>by simpa using mB t (by simpa using h)
theorem kL{α β:Type}{R:α->β->Prop}:∀{l:η α}{m:η β},Paired R l m->l.length=m.length
 |_,_,.nil=>rfl
 |_,_,.cons r t=>by simp[kL t]
theorem DU {J6:η (η Key×V)} (x:ObjOk P w H h a (.dT J6)):J6.length<=qb2/\(a==qk8)=ξ/\∃ (bs:η J9) (ob:Obj) (es:Array zm9) (ep:Nat),h.get? a=ς ob/\ob.data=.dict es ep/\EntA h a (bs.map .ref) ep/\bs.length=J6.length∧
  ∀(j:Nat)(p:η Key×V),J6[j]?=ς p->∃b,bs[j]?=ς b/\H b=ς (.t (p.1.map kV)):=by
 obtain⟨z,y,xs,r,o,es,ep,h1,h2,h3,W,Z⟩:=x;refine⟨z,y,xs.map (·.2.1),o,es,ep,h1,h3,⟨o,es,h1,h2,h3,?_⟩,by rw[qa1,<- kL r],fun j p hp=>?_⟩
 .rw[W,qc6,qc6];rfl
 .obtain⟨q,U,_,Y,_⟩:=mB r hp;exact⟨q.2.1,by rw[qb3,U];rfl,Y⟩
section
variable{X:Cx}{tg:Jc}
theorem BE{u:HO}(I:Inv X J1 σ H s)(h:Rd H a u):ObjOk X.prog X.w H s.heap a u:=by
 rcases h with h|⟨o,h⟩
 .exact I.hok a _ h
 .exact(I.hok a _ h).2
theorem qP(hc:X.calm=θ):cz X (.type "list") (fun xs H Q=>∃a J6,xs=[.ref a]/\Rd H a (.dT J6)/\∀bs:η J9,bs.length=J6.length->(∀(j:Nat)(b:J9)(p:η Key×V),bs[j]?=ς b->J6[j]?=ς p->H b=ς (.t (p.1.map kV)))->∀l,H l=ψ->Q (.ref l) (upd H l (.e (bs.map V.ref)))):=by
 intro J1 s σ H xs us Q I r h;obtain⟨a,J6,rfl,hq,q⟩:=h;obtain⟨u,rfl,rx⟩:=fK r;cases rx;obtain⟨z,y,bs,ob,es,ep,e1,e2,en,hl,hk⟩:=DU (BE I hq);have hz:(bs.map qf3).length<=qb2:=by rw[qa1,hl];exact z
 refine PySem.W.kdl_call (sE y) (I.ok.hd hc) en hz fun h' tk J5 c kp hD U=>?_
 have Y:J5.toList=bs.map qf3:=by
  apply zc5;intro j;cases hj:J5.toList[j]? with
  |none=>have h1:=qj3.mp hj;rw[qf1,U.1]at h1;rw[qj3.mpr h1]
  |some v=>exact(U.2 j v (by rw[<- qr0];exact hj)).symm
 have rv:Vals (bs.map V.ref) J5.toList:=by
  rw[Y];clear Y hk hl en hz q U;induction bs with
  |nil=>exact .nil
  |cons b bs ih=>exact .cons rfl ih
 refine⟨.ref s.heap.objs.size,_,I.laid (t':=tk) kp (nL _) (show ObjOk X.prog X.w _ h' _ (.e (bs.map V.ref))from⟨by rw[qa1,hl];exact z,J5.toList,c,rv,by rw[Array.toArray_toList];exact hD⟩),rfl,q bs hl (fun j b p h1 h2=>?_) _ (I.hok.fresh (nL _))⟩;obtain⟨b',Z,hH⟩:=hk j p h2;rw[h1]at Z;cases Z;exact hH
end
end L2
namespace HT
open PySem PySem.Spec PyProof.Rows
end HT
namespace L2
open PySem PySem.Spec PyProof.Rows
section
variable{X:Cx}{a:Jc}{fa:Fg}{p pos:Pos}{sc:Jd}
theorem mC{P:qc5}{w:Ja}:∀{J6:η (Key×V)}{vs:η (Key×Value)}{es:η zm9},KV J6 vs->Pairs (aE P w) es vs->Vals (J6.map fun p=>kV p.1) (es.map (·.key))
 |[],_,_,.nil,.nil=>.nil
 |_::_,_,_,.cons r t,.cons h _ m=>.cons (by dsimp only;rw[r.1];exact Ah h) (mC t m)
theorem qQ(hc:X.calm=θ):cz X (.type "list") (fun xs H Q=>∃a J6,xs=[.ref a]/\Rd H a (.dK J6)/\∀l,H l=ψ->Q (.ref l) (upd H l (.e (J6.map fun p=>kV p.1)))):=by
 intro J1 s σ H xs us Q I r h;obtain⟨a,J6,rfl,hq,q⟩:=h;obtain⟨u,rfl,rx⟩:=fK r;cases rx;obtain⟨z,y,vs,Z,ob,es,ep,e1,e2,e3,e4,e5,e6⟩:=BE I hq;have en:EntA s.heap a (es.toList.map (·.key)) ep:=⟨ob,es,e1,e2,e3,rfl⟩;have kv:=mC Z e5;have hz:(es.toList.map (·.key)).length<=qb2:=by rw[<- kv.length,qa1];exact z
 refine PySem.W.kdl_call (sE y) (I.ok.hd hc) en hz fun h' tk J5 c kp hD U=>?_
 have Y:J5.toList=es.toList.map (·.key):=by
  apply zc5;intro j;cases hj:J5.toList[j]? with
  |none=>have h1:=qj3.mp hj;rw[qf1,U.1]at h1;rw[qj3.mpr h1]
  |some v=>exact(U.2 j v (by rw[<- qr0];exact hj)).symm
 exact⟨.ref s.heap.objs.size,_,I.laid (t':=tk) kp (nL _) (show ObjOk X.prog X.w _ h' _ (.e (J6.map fun p=>kV p.1))from⟨by rw[qa1];exact z,J5.toList,c,by rw[Y];exact kv,by rw[Array.toArray_toList];exact hD⟩),rfl,q _ (I.hok.fresh (nL _))⟩
end
noncomputable def qR(K:xA9):Bool:=K.all fun p=>match p.2.data with
 |.seq J8 _=>(match J8.toList with
  |[.int _ _,.str _ _]=>ξ
  |_=>θ)
 |_=>θ
variable{a:J9}
theorem pA{o:Obj}:∀{K:η (J9×Obj)},K.lookup a=ς o->(a,o)∈K
 |[],h=>by cases h
 |(b,u)::K,h=>by
  rw[qh1]at h;cases q:a==b with
  |true=>rw[q]at h;cases h;rw[beq_iff_eq.mp q];exact .head _
  |false=>rw[q]at h;exact .tail _ (pA h)
variable{K:xA9}{H:Hp}
theorem xA{n:Int}{s:Str}(Z:qR K=θ)(h:SqT K H a [.int n,.str s]):H a=ς (.t ([zc6 n,qq2 s].map kV)):=by
 rcases h with h|⟨o,J8,m,hk,hc,Y,hz,r⟩
 .exact h
 .have U:=qk9.mp Z (a,o) (pA hk);dsimp only at U;rw[Y]at U;dsimp only at U;generalize J8.toList=w at U r;cases r with
  |cons r1 t=>
   cases t with
   |cons r2 W=>cases W;obtain⟨t1,rfl⟩:=r1;obtain⟨W,rfl⟩:=r2;cases U
section
variable{X:Cx}{a b:Jc}{ta:TA}{p1 p2 pos1 pos2:Pos}{sc:Jd}{fs:De->ζ (η Dt)}
end
section
variable{X:Cx}{J1:η (J9×Obj)}{s:qa3}{σ:St}{H:Hp}
end
theorem TabsIn.two{h:Heap}{c P c' P':J9}{qs qs':η ((Nat×Nat)×Str)}(kb:K.In h)(e:cS K=[(P,qs),(P',qs')])(hne:P≠P')(n:K.lookup P=ψ)(n':K.lookup P'=ψ)(hc:xK9 K c P=θ)(hc':xK9 K c' P'=θ)(t:h.get? P=ς (xJ9 #[]))(t':h.get? P'=ς (xJ9 #[])):TabsIn K h:=by
 unfold TabsIn;rw[e];refine⟨fun p hp=>?_,fun p hp q hq z=>?_⟩
 .rcases qa5.mp hp with rfl|hp
  .exact⟨n,⟨c,xS9 kb hc⟩,t⟩
  .cases qb1.mp hp;exact⟨n',⟨c',xS9 kb hc'⟩,t'⟩
 .rcases qa5.mp hp with rfl|hp<;>rcases qa5.mp hq with rfl|hq
  .rfl
  .cases qb1.mp hq;exact absurd z hne
  .cases qb1.mp hp;exact absurd z.symm hne
  .cases qb1.mp hp;cases qb1.mp hq;rfl
noncomputable def isK:Dt->ζ (η Key)
 |.t [.int n,.str s]=>ς [.inl n,.inr s]
 |_=>ψ
theorem qS{F:Hp}{d:Dt}{v:V}{ks:η Key}(U:qR K=θ)(h:isK d=ς ks)(r:RepB K F H d v):∃b,v=.ref b/\F b=ς (.t (ks.map kV)):=by
 unfold isK at h;split at h<;>cases h
 obtain⟨a,vs,rfl,h1,h2⟩:=r;unfold Reps at h2;obtain⟨Y,W,rfl,q1,h2⟩:=h2;unfold Reps at h2;obtain⟨Z,w2,rfl,q2,h2⟩:=h2;unfold Reps at h2;subst h2;simp only[Rep]at q1 q2;subst q1 q2;exact⟨a,rfl,xA U h1⟩
section
variable{X:Cx}{o a b e ox ik:Jc}{fa fb fk fe:De->ζ Dt}{pos apos cpos p1 p2 pos1 pos2:Pos}{sc:Jd}{i j m:Nat}{K:xA9}
def qT:De->ζ T:=fun _=>ς (.dcT [])
theorem xB:DO X (.Dict [] [] pos) qT:=PE.mono v3 fun σ H Q ⟨Φ,δ,F,t,Y,U,W,k⟩=>by
 cases W;intro p hp;refine k _ _ F (fun b=>b=p) (Step.made U.fh hp) ⟨p,[],rfl,rfl,aw,rfl,by simp[Reps]⟩ fun b z=>?_
 subst z;exact⟨U.fh.free hp,hp,_,aw,nofun⟩
def uS:Dt->Dt->ζ T
 |.dcT ks l,k=>(isK k).bind fun k=>(cg ks l k).map .f
 |_,_=>ψ
theorem DV(hI:qR X.K=θ)(hr:Room m X.A)(ha:DB X a fa)(Y:DB X b fb)(hn:uc b:=by exact fun _ _=>rfl):DO X (.Subscript a b pos) (d2 uS fa fb):=
 PE.mono (r8 (ji hr) ha Y hn) fun σ H Q ⟨Φ,δ,F,t,hK,en,W,k⟩=>by
  obtain⟨x,hx,W⟩:=bS W;obtain⟨y,hy,W⟩:=bS W;unfold uS at W;split at W<;>first|(cases W;done)|skip
  obtain⟨kk,hk,W⟩:=bS W;obtain⟨d,hd,rfl⟩:=mS W;refine⟨Φ,δ,F,_,hK,en,hx,fun v H1 F1 st rv=>⟨Φ,δ,F1,_,hK,en.step st,hy,fun v2 H2 F2 U Z=>?_⟩⟩;obtain⟨ad,J6,rfl,h1,rfl,h3⟩:=rv;obtain⟨w,hw,rw'⟩:=eX h3 hd;obtain⟨b,rfl,Y⟩:=qS hI hk Z;exact⟨ad,w,rfl,.inr ⟨J6,kk,b,U.hh.rd h1,rfl,U.fh _ _ Y,hw.symm⟩,(k.step (st.trans U)).leaf.here U.fh (rw'.same U.ff)⟩
def xC(fa fb:De->ζ Dt):De->ζ Bool:=fun δ=>(fa δ).bind fun x=>(fb δ).bind fun y=>match y with
 |.dcT ks l=>(isK x).map fun k=>!(cg ks l k).isSome
 |_=>ψ
theorem DX(hI:qR X.K=θ)(hr:Room m X.A)(ha:DB X a fa)(Y:DB X b fb)(hm:qj4 .NotIn b=ξ:=by with_unfolding_all rfl):DT X (.Compare a [.NotIn] [b] pos) (xC fa fb):=
 PT.mono (mP (lR (ji hr) ha Y) hm) fun σ H Q ⟨Φ,δ,F,t,hK,en,W,k⟩=>by
  obtain⟨x,hx,W⟩:=bS W;obtain⟨y,hy,W⟩:=bS W;split at W<;>first|(cases W;done)|skip
  obtain⟨kk,hk,rfl⟩:=mS W;refine⟨Φ,δ,F,x,hK,en,hx,fun v H1 F1 st rv=>⟨Φ,δ,F1,_,hK,en.step st,hy,fun v2 H2 F2 U Z=>?_⟩⟩;obtain⟨ad,J6,rfl,h1,rfl,h3⟩:=Z;obtain⟨b,rfl,Y⟩:=qS hI hk rv;refine⟨ad,_,rfl,.inr ⟨J6,kk,b,h1,rfl,U.fh _ _ (U.ff _ _ Y),rfl⟩,_,rfl,?_⟩;rw[<- jP h3];exact k H2 F2 (st.trans U)
def kM(i:Nat)(fk fe:De->ζ Dt):De->ζ Out:=fun δ=>(fe δ).bind fun d=>(fk δ).bind fun k=>match δ[i]? with
 |some (ς (.dcT l))=>(isK k).bind fun k=>if l.length<qb2/\(l.map (·.1)).Nodup then ς (.nx (δ.set i (ς (.dcT (dL l k d)))))else ψ
 |_=>ψ
theorem sJ (hI:qR X.K=θ) (hr:Room m X.A) (hx:PE X ox (fT i)) (hk:DB X ik fk) (he:DL X e fe)
  (hs:qo5 e (ς (.Subscript ox ik apos)) pos.line X.env=pure ξ:=by rfl):DS1 X (.Assign [.Subscript ox ik apos] e pos) (kM i fk fe):=
 PS.mono (r9 (ji hr) hx hk he hs) fun D σ H ⟨Φ,δ,F,ot,hK,en,W,k⟩=>by
  obtain⟨d,hd,W⟩:=bS W;obtain⟨kd,hkd,W⟩:=bS W;split at W<;>first|(cases W;done)|skip
  rename_i l hl;obtain⟨kk,hkk,W⟩:=bS W;split at W<;>first|(cases W;done)|skip
  rename_i hc;cases W;refine⟨Φ,δ,F,d,hK,en,hd,fun v H1 F1 st rv=>?_⟩;have Y:=en.step st;obtain⟨w0,hv⟩:=Y.has i _ hl;obtain⟨S,s⟩:=Y.sep;obtain⟨a,J6,rfl,_,h1,h2,h3⟩:=s.own i _ w0 (aR hl hv);refine⟨.ref a,hv,Φ,δ,F1,kd,hK,Y,hkd,fun w H2 F2 U rw'=>?_⟩;have en2:=Y.step U;obtain⟨b,rfl,hb⟩:=qS hI hkk rw';have Z:J6.length=l.length:=by simpa using congrArg qp7 h2
  refine⟨a,_,rfl,.inr ⟨J6,kk,b,U.hh _ _ h1,rfl,U.fh _ _ hb,by rw[Z];exact hc.1,rfl⟩,?_⟩;obtain⟨p1,p2⟩:=nq kk v J6 l d (by rw[h2];exact hc.2) h2;exact k σ F2 _ (en2.poke hl hv rfl fun S sa=>⟨a,_,rfl,sa,aw,p1,p2 _ _ (hK▸rv.same U.ff) (h3.same U.ff)⟩)
def gT:η Dt->ζ T
 |[.dcT ks _]=>ς (.e (ks.map kK))
 |[.dct ks _]=>ς (.e (ks.map o7))
 |_=>ψ
abbrev xD:η V->Hp->VK->Prop:=fun xs H Q=>(∃a J6,xs=[.ref a]/\Rd H a (.dT J6)/\∀bs:η J9,bs.length=J6.length->(∀(j:Nat)(b:J9)(p:η Key×V),bs[j]?=ς b->J6[j]?=ς p->H b=ς (.t (p.1.map kV)))->∀l,H l=ψ->Q (.ref l) (upd H l (.e (bs.map V.ref))))∨∃a J6,xs=[.ref a]/\Rd H a (.dK J6)/\∀l,H l=ψ->Q (.ref l) (upd H l (.e (J6.map fun p=>kV p.1)))
theorem kO(U:X.calm=θ):cz X (.type "list") xD:=fun J1 s σ H xs us Q I r h=>h.elim (qP U J1 s σ H xs us Q I r) (qQ U J1 s σ H xs us Q I r)
theorem sK{F:Hp}:∀{U:η (η Key)}{bs:η J9},bs.length=U.length->(∀(j:Nat)(b:J9)(k:η Key),bs[j]?=ς b->U[j]?=ς k->F b=ς (.t (k.map kV)))->Reps K F (U.map kK) (bs.map V.ref)
 |[],[],_,_=>by simp[Reps]
 |[],_::_,h,_=>by cases h
 |_::_,[],h,_=>by cases h
 |k::U,b::bs,h,q=>by simp only[qa4,Reps];exact⟨_,_,rfl,xz (q 0 b k rfl rfl),sK (by simpa using h) fun j b k h1 h2=>q (j+1) b k (by simpa using h1) (by simpa using h2)⟩
theorem sL:CRD K xD gT:=fun F H ds vs Q t fh r hg k=>by
 unfold gT at hg;split at hg<;>cases hg
 .obtain⟨v,rfl,a,J6,rfl,h1,rfl,h3⟩:=dq r;refine .inl ⟨a,J6,rfl,h1,fun bs hl hb l hn=>?_⟩
  have Y:∀(j:Nat)(b:J9)(k:η Key),bs[j]?=ς b->(J6.map (·.1))[j]?=ς k->H b=ς (.t (k.map kV)):=fun j b k h1 h2=>by rw[qb3]at h2;obtain⟨p,hp,rfl⟩:=mS h2;exact hb j b p h1 hp
  have hin:∀b∈bs,∃vs,H b=ς (.t vs):=fun b hm=>by
   obtain⟨j,hj⟩:=qo1 hm;have Z:j<J6.length:=by rw[<- hl];exact(gX hj).1
   exact⟨_,hb j b _ hj (gQ Z)⟩
  let F':Hp:=fun b=>if b∈bs then H b else F b
  have fin:∀{b:J9},b∈bs->F' b=H b:=fun h=>if_pos h
  have U:∀{b:J9},b∉bs->F' b=F b:=fun h=>if_neg h
  have ff:Same F F':=fun b o e=>by
   by_cases h:b∈bs
   .rw[fin h];exact fh _ _ e
   .rw[U h];exact e
  have W:Same F' H:=fun b o e=>by
   by_cases h:b∈bs
   .rw[fin h]at e;exact e
   .rw[U h]at e;exact fh _ _ e
  have st:Step F H F' H:=⟨Same.refl _,ff,W,fun b o e=>by
   by_cases h:b∈bs
   .exact .inr (.inr (hin b h))
   .rw[U h]at e;exact .inl e⟩
  exact em (k.step st) W (sK (by simpa using hl) fun j b k h1 h2=>by rw[fin (qc7 h1)];exact Y j b k h1 h2) hn
 .obtain⟨v,rfl,a,J6,rfl,h1,rfl,h3⟩:=dq r;refine .inr ⟨a,J6,rfl,h1,fun l hn=>em k fh ?_ hn⟩;rw[show(J6.map fun p=>kV p.1)=(J6.map (·.1)).map kV by rw[qc6];rfl];exact i7 _
def vLR(fa:De->ζ Dt):De->ζ T:=fun δ=>(fa δ).bind fun d=>match d with
 |.e l=>ς (.e l.reverse)
 |_=>ψ
theorem Reps.rev{F:Hp}:∀{l:η Dt}{vs:η V},Reps K F l vs->Reps K F l.reverse vs.reverse
 |[],_,h=>by simp only[Reps]at h;subst h;simp[Reps]
 |d::l,_,h=>by simp only[Reps]at h;obtain⟨v,U,rfl,h1,h2⟩:=h;rw[qw1,qw1];exact(Reps.rev h2).append (Reps.one h1)
theorem qU (h1:aB sc "list"=θ) (h2:aB sc "reversed"=θ) (Z:X.mg "list"=ψ) (W:X.mg "reversed"=ψ) (hc:X.calm=θ) (ha:DB X a fa) (e1:bN X sc:=by rfl) (he:qa8 [a] X.env=(ξ,eval a X.env)::qa8 [] X.env:=by rfl) (hs:qa8 [a] X.env=[(ξ,eval a X.env)]:=by rfl)
  (Y:qa8 [.Call (.Name "reversed" p2) [a] [] pos2] X.env=[(ξ,eval (.Call (.Name "reversed" p2) [a] [] pos2) X.env)]:=by rfl) :
  DO X (.Call (.Name "list" p1) [.Call (.Name "reversed" p2) [a] [] pos2] [] pos1) (vLR fa):=
 PE.mono (qO h1 h2 Z W hc (bW ha eG he) e1 hs Y) fun σ H Q ⟨Φ,δ,F,t,hK,en,U,k⟩=>by
  obtain⟨d,hd,U⟩:=bS U;split at U<;>cases U
  refine⟨Φ,δ,F,_,hK,en,hd,fun v H1 F1 st rv=>?_⟩;obtain⟨a,vs,rfl,g1,g2⟩:=rv;exact⟨a,vs,rfl,g1,fun q hq=>em (k.step st) st.fh (g2.rev) hq⟩
end
def AtF(K:xA9)(x:Str)(st:Jb):Prop:=∃(f:J9)(oc:Value)(od an:ζ J9)(sl:Array (ζ Value))(kV dc pm U ct:Value),xB9 K qc1 x=ς (ς (.ref f))/\K.lookup f=ς ⟨oc,od,.func (xC9 x x (bJ st) (aF st) (ab st) .none kV dc pm an U ct),sl⟩/\xH9 K U x=θ/\xF9 K (.ref f)=θ
def AtC(K:xA9)(x:Str)(st:Jb)(c P:J9):Prop:=∃(f:J9)(oc:Value)(od an:ζ J9)(sl:Array (ζ Value))(kV dc pm ct Y:Value)(xd:ζ J9)(U:Array Value)(xs:Array (ζ Value)),
 xB9 K qc1 x=ς (ς (.ref f))/\K.lookup f=ς ⟨oc,od,.func (xC9 x x (bJ st) (aF st) (ab st) .none kV dc pm an (.ref c) ct),sl⟩/\xH9 K (.ref c) x=θ/\xF9 K (.ref f)=θ∧
 K.lookup c=ς ⟨Y,xd,.fields U,xs⟩/\U[11]?=ς (.ref P)
variable{f:J9}{oc dc pm:Value}{od an:ζ J9}
section
variable{K:xA9}{mg:Str->ζ Value}{h:Heap}{x:Str}{st:Jb}{ps:η Str}{c P:J9}
theorem AtF.mk{sl:Array (ζ Value)}{kV U ct:Value}(a:xB9 K qc1 x=ς (ς (.ref f)))(l:K.lookup f=ς ⟨oc,od,.func (xC9 x x (bJ st) (aF st) (ab st) .none kV dc pm an U ct),sl⟩)(c:xH9 K U x=θ)(k:xF9 K (.ref f)=θ):AtF K x st:=⟨f,oc,od,an,sl,kV,dc,pm,U,ct,a,l,c,k⟩
theorem AtC.mk{sl:Array (ζ Value)}{kV ct Y:Value}{xd:ζ J9}{U:Array Value}{xs:Array (ζ Value)}(a:xB9 K qc1 x=ς (ς (.ref f)))(l:K.lookup f=ς ⟨oc,od,.func (xC9 x x (bJ st) (aF st) (ab st) .none kV dc pm an (.ref c) ct),sl⟩)(Z:xH9 K (.ref c) x=θ)(k:xF9 K (.ref f)=θ)(cl:K.lookup c=ς ⟨Y,xd,.fields U,xs⟩)(cp:U[11]?=ς (.ref P)):AtC K x st c P:=⟨f,oc,od,an,sl,kV,dc,pm,ct,Y,xd,U,xs,a,l,Z,k,cl,cp⟩
theorem AtF.df(A:AtF K x st)(X:K.In h)(G:h.Ns qc1 mg)(U:∀(kV doc pm:Value)(an:ζ J9)(cdv ct:Value)(us:η Value),us.length=ps.length->zk2 (xC9 x x (bJ st) (aF st) (ab st) .none kV doc pm an cdv ct) ⟨us,[]⟩=pure (ps.zip us)):DefF K mg x st ps:=by obtain⟨f,oc,od,an,sl,kV,dc,pm,Y,ct,a,l,c,k⟩:=A;exact DefF.mk' X G a l c k U
theorem AtC.df(A:AtC K x st c P)(X:K.In h)(G:h.Ns qc1 mg)(U:∀(kV doc pm:Value)(an:ζ J9)(cdv ct:Value)(us:η Value),us.length=ps.length->zk2 (xC9 x x (bJ st) (aF st) (ab st) .none kV doc pm an cdv ct) ⟨us,[]⟩=pure (ps.zip us)):DefC K mg x st ps c:=by obtain⟨f,oc,od,an,sl,kV,dc,pm,ct,Z,xd,Y,xs,a,l,c,k,_⟩:=A;exact DefC.mk' X G a l c k U
end
variable{r:η V->Hp->VK->Prop}{gg:η Dt->ζ T}
section
variable{X:Cx}{e:Jc}{es:η Jc}{x:Str}{p pos:Pos}{fs:De->ζ (η Dt)}{i:Nat}
theorem pvX(h:dl X.env.scope X.N i x=θ):PE X (.Name x pos) (fT i):=pvD i h rfl rfl
theorem dbX(h:dl X.env.scope X.N i x=θ):DB X (.Name x pos) (vB i):=Dh (pvX h)
theorem dlX(h:dl X.env.scope X.N i x=θ):DL X (.Name x pos) (vL i):=Dg (pvX h)
theorem doF{k m n:Nat}{ps:η Str}{W:η Dt->ζ T}(h:aB X.env.scope x=θ)(F:OkF X.prog X.w X.K X.mg X.base x k ps (spD X.K n W))(hr:Room m X.A)(hk:k<=m)(Y:DA X (e::es) fs)(hn:(e::es).length=n:=by rfl)(Z:qa8 (e::es) X.env=(ξ,eval e X.env)::qa8 es X.env:=by rfl)(U:(ql8 pos (qa8 es X.env)).any (·.1)=ξ:=by rfl):DO X (.Call (.Name x p) (e::es) [] pos) (ag W fs):=dh h F (hr.mono hk) Y hn rfl Z U
theorem doB{id:String}(h:aB X.env.scope x=θ)(hc:cz X (.builtin id) r)(hr:CRD X.K r gg)(hm:X.mg x=ψ)(Y:qe0 x=ς (.builtin id))(W:DAB X (e::es) fs)(Z:qa8 (e::es) X.env=(ξ,eval e X.env)::qa8 es X.env:=by rfl)(U:(ql8 pos (qa8 es X.env)).any (·.1)=ξ:=by rfl):DO X (.Call (.Name x p) (e::es) [] pos) (ag gg fs):=iq h hc hr hm Y W rfl Z U
theorem doT{Ty:String}(h:aB X.env.scope x=θ)(hc:cz X (.type Ty) r)(hr:CRD X.K r gg)(hm:X.mg x=ψ)(Y:qe0 x=ς (.type Ty))(W:DAB X (e::es) fs)(Z:qa8 (e::es) X.env=(ξ,eval e X.env)::qa8 es X.env:=by rfl)(U:(ql8 pos (qa8 es X.env)).any (·.1)=ξ:=by rfl):DO X (.Call (.Name x p) (e::es) [] pos) (ag gg fs):=dJ h hc hr hm Y W rfl Z U
theorem dlG{d:Dt}(h:aB X.env.scope x=θ)(U:iw X.K X.mg x d):DL X (.Name x pos) (kD d):=zZ h U rfl
end
end L2
namespace HT
open PySem PySem.Spec PyProof.Rows
end HT
namespace L2
open PySem PySem.Spec PyProof.Rows
variable{K:xA9}
section
variable{X:Cx}
def gSlW:Dt->ζ Int->ζ Int->ζ T
 |.t l,lo,hi=>if HT.sIx l.length 0 lo=0/\HT.sIx l.length l.length hi=l.length then ς (.f (.t l))else ς (.f (.t (kt l lo hi)))
 |x,lo,hi=>gSl x lo hi
def xE(K:xA9):R2:=fun x y H Q=>∃a b z xs,x=.ref a/\y=.ref b/\SqT K H a (z::xs)/\SqT K H b []/\Q (.ref a) H
def Aq:OpR X (qm9 .Add) (xE X.K):=by
 intro J1 s σ H x y v u Q I rx ry h;obtain⟨a,b,z,xs,rfl,rfl,ha,hb,q⟩:=h;cases rx;cases ry;obtain⟨J8,r1,p1,_⟩:=I.tuple ha;obtain⟨its2,r2,p2,_⟩:=I.tuple hb;cases r2;obtain⟨⟨cls,dd,data,sl⟩,ho,hc,n,hd⟩:=id p1;obtain⟨⟨cls2,Z,data2,sl2⟩,W,Y,n2,U⟩:=id p2;simp only at hc hd Y U;subst hc hd Y U
 exact za5 ⟨_,ho,rfl⟩ ⟨_,W,rfl⟩ qw7 zc9 PySem.F.slot_tuple_add PySem.F.entry_tuple_add (PySem.F.args_tuple_add_2 _ _)
  (tuple_addW1 a b J8.toArray #[] n n2 dd Z sl sl2 (by cases r1;simp) rfl) ⟨ho,W,⟨.ref a,H,I,rfl,q⟩⟩
def pB:Dt->Dt->ζ T
 |.t (d::l),.t []=>ς (.f (.t (d::l)))
 |x,y=>wR x y
theorem Ar:OpR X (qm9 .Add) (fun x y H Q=>(o6 X.K x y H Q∨l6 X.K x y H Q)∨xE X.K x y H Q):=OpR.or Ag Aq
theorem DY:R2D K (fun x y H Q=>(o6 K x y H Q∨l6 K x y H Q)∨xE K x y H Q) pB:=by
 intro F H x y vx vy Q t W Z ry Y k;unfold pB at Y;split at Y
 .rename_i d l;cases Y;obtain⟨a,vs,rfl,h1,h2⟩:=Z;obtain⟨b,ws,rfl,h3,h4⟩:=ry;simp only[Reps]at h4;subst h4;have U:=h2;simp only[Reps]at U;obtain⟨v,us,rfl,_,_⟩:=U;refine .inr ⟨a,b,v,us,rfl,rfl,W.tup h1,W.tup h3,k.leaf.here W ?_⟩;simp only[Rep];exact⟨a,_,rfl,h1,h2⟩
 .exact .inl (DC F H _ _ vx vy Q t W Z ry Y k)
end
abbrev Hk3:=Str×Int×Bool
def h3(k:Hk3):Dt:=.t [.str k.1,.int k.2.1,.bl k.2.2]
section
variable{X:Cx}{J1:η (J9×Obj)}{s:qa3}{σ:St}{H:Hp}
end
variable{ns:η Int}
theorem qV{J8:η Value}(h:zg8 J8 ns):∃xs:Array (Int×Tok),J8.toArray=intItems xs/\xs.toList.map (·.1)=ns:=by
 induction h with
 |nil=>exact⟨#[],by simp[intItems],rfl⟩
 |cons k t _ Z=>obtain⟨xs,Y,W⟩:=Z;refine⟨((k,t)::xs.toList).toArray,?_,by simp[W]⟩;have U:=congrArg zl6 Y;simp only[intItems]at U ⊢;apply Array.toList_inj.mp;simp at U ⊢;exact U
variable{i:Nat}
theorem kP{xs:Array (Int×Tok)}(hi:i<xs.size):(xs.toList.map (·.1))[i]?=ς (numAt xs i):=by simp[numAt,hi]
section
variable{X:Cx}
end
section
variable{P:qc5}{u:Ja}{A:qe1}{R:zn1->qa3->Prop}{I:J9}{fp wr:η J9}{n:Nat}{Pv:Nat->Value->Prop}{St:Nat->Heap->Prop}
end
section
variable{P:qc5}{u:Ja}{A:qe1}{E:Value->qa3->Prop}{s:qa3}{l:J9}{xs:Array (Int×Tok)}{d:Value}
end
section
variable{X:Cx}{e:Jc}{pos p kp kq:Pos}{sc:Jd}{fs:De->ζ (η Dt)}{d:Int}{t:TA}{i:Nat}
end
def pC:Dt->Dt->ζ T
 |.str x,.int n=>if 0<=n/\n<=1000/\x.length<=1000 then ς (.f (.str (kx x n)))else ψ
 |_,_=>ψ
def BF:R2:=fun x y H Q=>∃z n,x=.str z/\y=.int n/\(0<=n/\n<=1000/\z.length<=1000)/\Q (.str (kx z n)) H
theorem DZ{z:Str}{n:Int}(h:0<=n/\n<=1000/\z.length<=1000):MulOk z n:=by
 obtain⟨Z,h1,h2⟩:=h;refine⟨?_,fun h _=>?_,fun h _=>?_⟩
 .have W:decide (n < -(2^63:Int))=ξ:=decide_eq_false Θ;have U:decide (n ≥ 2^63)=ξ:=decide_eq_false Θ;rw[W,U];rfl
 .have e:(1000:Int)<=(2^63-1)/n:=(Int.le_ediv_iff_mul_le Θ).mpr Θ;lia
 .have e:z.length*n.toNat<=1000*1000:=zi9 h2 Θ;have Y:qb2=16777216:=qz0;exact decide_eq_false Θ
variable{X:Cx}
theorem As:OpR X (qm9 .Mult) BF:=by intro J1 s σ H x y v u Q I U W h;obtain⟨z,n,rfl,rfl,Y,q⟩:=h;obtain⟨t,rfl⟩:=U;obtain⟨t',rfl⟩:=W;exact SB.mul (DZ Y) fun Z k=>⟨.str (kx z n),H,I.tok _,⟨_,rfl⟩,q⟩
def D0:R2D K BF pC:=by
 intro F H x y vx vy Q t W Y Z U k;unfold pC at U;split at U<;>first|(cases U;done)|skip
 split at U<;>cases U
 rename_i h;cases Y;cases Z;exact⟨_,_,rfl,rfl,h,k.str W⟩
open PySem
section
variable{K:Type}[DecidableEq K]
def uT{J5:η K}{k x:K}:x∈cW J5 k↔x∈J5∨x=k:=by
 unfold cW;split
 .exact⟨.inl,fun h=>h.elim id fun e=>e▸by assumption⟩
 .simp
theorem mD{x:K}:∀{ss J5:η K},x∈ss.foldl cW J5↔x∈J5∨x∈ss
 |[],J5=>by simp
 |k::ss,J5=>by rw[qi4,mD,uT,qa5,or_assoc]
theorem qW{ss:η K}{x:K}:x∈cj ss↔x∈ss:=by unfold cj;rw[mD];simp
theorem pD{J5:η K}{k:K}(h:J5.Nodup):(cW J5 k).Nodup:=by
 unfold cW;split
 .exact h
 .rename_i hk;rw[qm6];exact⟨h,Ξ,fun a U b W e=>hk (by rw[qb1.mp W]at e;exact e▸U)⟩
theorem ju:∀{ss J5:η K},J5.Nodup->(ss.foldl cW J5).Nodup
 |[],_,h=>h
 |k::ss,J5,h=>ju (ss:=ss) (pD h)
def nE(ss:η K):(cj ss).Nodup:=ju qs5
end
theorem kQ:∀ns:η Int,pp (ns.map .int)=ς ns
 |[]=>rfl
 |k::ns=>by rw[qa4];unfold pp;rw[kQ ns];rfl
theorem pE(h1:ns.length<4000)(h2:(cj ns).length<64):eZ [.e (ns.map .int)]=ς (.e ((jt (cj ns)).map .int)):=by unfold eZ uQ;dsimp only;rw[kQ,qa6,if_pos ⟨h1,h2⟩]
section
variable{X:Cx}{K:Type}[DecidableEq K][Inhabited K]{κ:SK X.prog X.w K}
end
section
variable{X:Cx}{e:Jc}{pos pos2 p p2:Pos}{sc:Jd}{fs:De->ζ (η Dt)}
end
section
variable{X:Cx}{e o:Jc}{es:η Jc}{fo:De->ζ Dt}{fs:De->ζ (η Dt)}{apos cpos pos:Pos}
end
section
variable{X:Cx}
end
theorem nG:qy3 (.type "list") "keys"=pure ψ:=by rw[qp4,qk2];kernel_rfl
theorem lF:qy3 (.type "tuple") "keys"=pure ψ:=by rw[qp4,qk2];kernel_rfl
def cM:plainId "dict.update.loop"=θ:=χ
theorem gj:entryFor table "dict.update.loop"=ς qh6.«dict.update.loop»:=entryFor_of_fast (by kernel_rfl)
def tyB(b:Bool):String:=if b then "list" else "tuple"
variable{l:J9}{Q:Value->qa3->Prop}
section
variable{prog:qc5}{w:Ja}{A:qe1}{E:Value->qa3->Prop}{s:qa3}{a it:J9}{J8:Array Value}{c:Nat}{sl:Array (ζ Value)}{b:Bool}{i:Nat}
theorem uU {Q:ζ Value->qa3->Prop} (hx:s.heap.get? a=ς {cls:=.type (tyB b),dict:=ψ,data:=.seq J8 c,slots:=sl}) (hh:A.handled=ψ)
  (hQ:∀h' tk,(∀b ob,s.heap.get? b=ς ob->h'.get? b=ς ob)->Q ψ {s with heap:=h',toks:=tk}) :
  wpAny (model prog w) A (getAttr? (.ref a) "keys") Q E s:=by
 obtain⟨h,g,d,t,os⟩:=s;have f1:=sub_AttributeError;cases b with
 |true=>
  replace hx:h.get? a=ς {cls:=.type "list",dict:=ψ,data:=.seq J8 c,slots:=sl}:=hx
  have hT:∀tk',(⟨h,g,d,tk',os⟩:qa3).TypeIs (.ref a) "list":=fun _=>⟨_,hx,rfl⟩
  have f3:=qu4.lookup;have f4:=qu4.bind (.ref a);have f5:=am_list_getattr_none;unfold getAttr? getAttrBy? getAttrBy
  repeat (any_goals (first|assumption|exact hT _|((with_reducible show wpAny _ _ (call (Value.builtin "list.__getattribute__") _ _) _ _ _);refine qy4 qu4 (hT _) am_entry_list_getattribute (F.args_list_getattribute_2 _ _) (meets_getattribute_miss_list a J8 c sl "keys" _ nG χ) ⟨hx,hh,fun h' tk' e hx'=>?_⟩)|wp_step))
  obtain⟨t',u',he⟩:=hx'.there;show wpAny _ _ (qv3 _ _ _ _ _ _ _) _ _ _;unfold qv3
  repeat (any_goals (first|assumption|wp_step))
  exact hQ _ _ hx'.keeps
 |false=>
  replace hx:h.get? a=ς {cls:=.type "tuple",dict:=ψ,data:=.seq J8 c,slots:=sl}:=hx
  have hT:∀tk',(⟨h,g,d,tk',os⟩:qa3).TypeIs (.ref a) "tuple":=fun _=>⟨_,hx,rfl⟩
  have f3:=qt1.lookup;have f4:=qt1.bind (.ref a);have f5:=am_tuple_getattr_none;unfold getAttr? getAttrBy? getAttrBy
  repeat (any_goals (first|assumption|exact hT _|((with_reducible show wpAny _ _ (call (Value.builtin "tuple.__getattribute__") _ _) _ _ _);refine qy4 qt1 (hT _) am_entry_tuple_getattribute (F.args_tuple_getattribute_2 _ _) (meets_getattribute_miss_tuple a J8 c sl "keys" _ lF χ) ⟨hx,hh,fun h' tk' e hx'=>?_⟩)|wp_step))
  obtain⟨t',u',he⟩:=hx'.there;show wpAny _ _ (qv3 _ _ _ _ _ _ _) _ _ _;unfold qv3
  repeat (any_goals (first|assumption|wp_step))
  exact hQ _ _ hx'.keeps
theorem uV{Q:ζ Value->qa3->Prop}(W:A.handled=ψ)(U:ItB b s.heap it l i)(Y:CoB b s.heap l J8)(Z:J8[i]?=ψ)(hQ:∀h',zd3 it s.heap h'->Q ψ {s with heap:=h'}):wpAny (model prog w) A (qp9 (.ref it)) Q E s:=by
 cases b with
 |true=>exact zg4 W U Y Z hQ
 |false=>exact zf2 W U Y Z hQ
theorem FW{x:Value}{Q:ζ Value->qa3->Prop}(U:ItB b s.heap it l i)(W:CoB b s.heap l J8)(Y:J8[i]?=ς x)(Z:∀h',ItB b h' it l (i+1)->qg2 it s.heap h'->Q (ς x) {s with heap:=h'}):wpAny (model prog w) A (qp9 (.ref it)) Q E s:=by
 cases b with
 |true=>exact zf1 U W Y Z
 |false=>exact zc7 U W Y Z
theorem FX(U:CoB b s.heap l J8)(W:∀h',ItB b h' s.heap.objs.size l 0->(∀b o,s.heap.get? b=ς o->h'.get? b=ς o)->Q (.ref s.heap.objs.size) {s with heap:=h'}):wpAny (model prog w) A (zi6 (.ref l)) Q E s:=by
 cases b with
 |true=>exact qo7 U (W _ ⟨_,qa7 _ rfl,rfl,rfl⟩ fun _ _ e=>gP _ e)
 |false=>exact qq4 U (W _ ⟨_,qa7 _ rfl,rfl,rfl⟩ fun _ _ e=>gP _ e)
end
variable{it D:J9}{items:Array Value}{ps:η (Key×Value)}{b:Bool}
section
variable{prog:qc5}{w:Ja}{A:qe1}
def gk(J6:η (Key×Value)):η (Key×Value)->η (Key×Value)
 |[]=>J6
 |p::ps=>gk (stored J6 p.1 p.2) ps
structure PairsAt(prog:qc5)(w:Ja)(h:Heap)(it D:J9)(items:Array Value)(ps:List (Key×Value)):Prop where
 len:items.size=ps.length
 at_:∀(j:Nat)(p:Key×Value),ps[j]?=ς p->∃t key o n,items[j]?=ς (.ref t)/\t≠it/\t≠D/\(aE prog w).is p.1 key=θ/\h.get? t=ς o/\o.cls=.type "tuple"/\o.data=.seq #[key,p.2] n
theorem PairsAt.keep{h h':Heap}(P:PairsAt prog w h it D items ps)(k:∀b o,b≠it->b≠D->h.get? b=ς o->h'.get? b=ς o):PairsAt prog w h' it D items ps:=⟨P.len,fun j p hp=>by obtain⟨t,U,o,n,h1,h2,h3,Y,W,Z,h7⟩:=P.at_ j p hp;exact⟨t,U,o,n,h1,h2,h3,Y,k t o h2 h3 W,Z,h7⟩⟩
theorem xF {U:Value} (hlD:l≠D) (hli:l≠it) (hiD:it≠D) :
  ∀(k i:Nat)(A:qe1)(s:qa3)(J6:η (Key×Value))(R:zn1->qa3->Prop),A.handled=ψ->ps.length-i=k->i<=ps.length->ItB b s.heap it l i->CoB b s.heap l items->PairsAt prog w s.heap it D items ps->s.heap.DictOf (aE prog w) D J6→
   J6.length+(ps.length-i)<=qb2→
   (∀h' tk,h'.DictOf (aE prog w) D (gk J6 (ps.drop i))->(∀b o,b≠it->b≠D->s.heap.get? b=ς o->h'.get? b=ς o)->R (.ok (.ret U)) {s with heap:=h',toks:=tk})→
   qq7 (model prog w) A (.builtin "dict.update.loop" ⟨[.ref D,.ref it,qf7 i,U],[]⟩) R s:=by
 intro k;induction k with
 |zero=>
  intro i A s J6 R hh hk hi Z hl hP hD hz hR;have hin:i=ps.length:=by lia
  subst hin;refine qj2 gj ?_;rw[qg3 cM _];unfold qh6.«dict.update.loop»;show wpAny _ _ (qp9 (.ref _) >>= _) _ _ _;refine qg4 (uV hh Z hl (by rw[<- hP.len];simp) fun h' eb=>?_);refine wB (qa2 (qa2 (hR h' s.toks ?_ fun b o hb _ e=>eb b o hb e)));rw[zf0];exact hD.extBut eb (qh5 hiD)
 |succ k ih=>
  intro i A s J6 R hh hk hi Z hl hP hD hz hR;have hlt:i<ps.length:=by lia
  obtain⟨t,key,o,n,h1,h2,h3,h4,h5,h6,h7⟩:=hP.at_ i ps[i] (by simp[hlt]);refine qj2 gj ?_;rw[qg3 cM _];unfold qh6.«dict.update.loop»;show wpAny _ _ (qp9 (.ref _) >>= _) _ _ _;refine wB (FW Z hl h1 fun h' hit' sb=>?_);have h5':h'.get? t=ς o:=(sb.2 t h2).trans h5;have hD':h'.DictOf (aE prog w) D J6:=hD.sameBut sb (qh5 hiD);show wpAny _ _ (qy8 [qf3 t] _ >>= _) _ _ _;refine wB (qh9 (wB (qw3 ?_)));unfold qh6.Dict.pairItems;refine wB (qw4 (T:="tuple") ⟨o,h5',h6⟩ ?_);rw[if_pos Ω];refine wB (qg5 h5' h7 ?_);refine qa2 ?_;show wpAny _ _ (qy8 [key,ps[i].2] (dictSet D key ps[i].2)) _ _ _;refine qh9 (wpAny_dictSet_pairs (hsz:=by lia) h4 hD' fun h'' hD'' sb'=>?_);refine qa2 ⟨ql5 cM _,?_⟩
  have kp:∀b o,b≠it->b≠D->s.heap.get? b=ς o->h''.get? b=ς o:=fun b o hb W e=>by rw[sb'.2 b W,sb.2 b hb];exact e
  have hl':CoB b h'' l items:=by cases b<;>(obtain⟨ol,e1,e2⟩:=hl;exact⟨ol,kp l ol hli hlD e1,e2⟩)
  have Y:ItB b h'' it l (i+1):=hit'.at fun o e=>by rw[sb'.2 it hiD];exact e
  refine ih (i+1) _ _ (stored J6 ps[i].1 ps[i].2) R hh Θ Θ Y hl' (hP.keep kp) hD'' ?_ fun h3 tk hD3 kp3=>hR h3 tk ?_ fun b o hb W e=>kp3 b o hb W (kp b o hb W e)
  .have:=stored_length_le J6 ps[i].1 ps[i].2;lia
  .have:ps.drop i=ps[i]::ps.drop (i+1):=za8 hlt;rw[this];exact hD3
variable{E:Value->qa3->Prop}{s:qa3}{a:J9}{J8:Array Value}{c:Nat}{sl:Array (ζ Value)}
theorem lG{b:Bool}{ps:η (Key×Value)}(hx:s.heap.get? a=ς {cls:=.type (tyB b),dict:=ψ,data:=.seq J8 c,slots:=sl})(hh:A.handled=ψ)(hl:J8.size=ps.length)(hz:ps.length<=qb2)
 (hp:∀(j:Nat)(p:Key×Value),ps[j]?=ς p->∃t key o n,J8[j]?=ς (.ref t)/\(aE prog w).is p.1 key=θ/\s.heap.get? t=ς o/\o.cls=.type "tuple"/\o.data=.seq #[key,p.2] n)
 (hQ:∀h' tk,h'.DictOf (aE prog w) s.heap.objs.size (gk [] ps)->(∀b ob,s.heap.get? b=ς ob->h'.get? b=ς ob)->Q (.ref s.heap.objs.size) {s with heap:=h',toks:=tk}) :
  wpAny (model prog w) A (call (.type "dict") [.ref a]) Q E s:=by
 refine callType_codes (Q₁:=fun obj Z=>obj=.ref s.heap.objs.size/\Z={s with heap:=s.heap.push {cls:=.type "dict",data:=.dict #[]}}) F.kt_called_dict (F.kt_typeCall_dict_1 _) F.entry_dict_init (kt_code_dict_new _ ⟨rfl,rfl⟩) ?_;rintro obj Z ⟨rfl,rfl⟩;have U:(s.heap.push {cls:=.type "dict",data:=.dict #[]}).DictOf (aE prog w) s.heap.objs.size []:=Heap.DictOf.new s.heap;have hx1:(s.heap.push {cls:=.type "dict",data:=.dict #[]}).get? a=ς {cls:=.type (tyB b),dict:=ψ,data:=.seq J8 c,slots:=sl}:=gP _ hx;refine⟨U.typeIs,F.args_dict_init_2 _ _,?_⟩;unfold qh6.«dict.__init__»;refine wB ?_;unfold qh6.Dict.selfAndRest;refine wB (zh4 U.typeIs ?_);show wpAny _ _ (pure (s.heap.objs.size,[qf3 a])) _ _ _;refine qa2 ?_;show wpAny _ _ (ze3 "dict.__init__" s.heap.objs.size (.ref a) [] .none) _ _ _;unfold ze3;refine wB (qw4 (T:=tyB b) ⟨_,hx1,rfl⟩ ?_);rw[if_pos (by cases b<;>decide)];refine wB (uU hx1 hh fun h' tk kp=>?_);rw[if_pos (by rfl)];refine wB (qu1 ?_);have hx2:=kp _ _ hx1;have hc2:CoB b h' a J8:=by cases b<;>exact⟨_,hx2,rfl,_,rfl⟩
 refine wB (FX hc2 fun h'' hit Y=>?_);refine qa2 ⟨ql5 cM _,?_⟩;have ha:a<s.heap.objs.size:=qb0 hx;obtain⟨oD,esD,epD,eD,restD⟩:=U;have W:s.heap.objs.size<h'.objs.size:=qb0 (kp _ _ eD);refine xF (b:=b) (l:=a) (it:=h'.objs.size) (D:=s.heap.objs.size) (items:=J8) (ps:=ps) (qb8 ha) (qb8 (qp6 ha W)) (qh5 (qb8 W)) ps.length 0 _ _ [] _ hh Ξ (qk6 _) hit (by cases b<;>exact⟨_,Y _ _ hx2,rfl,_,rfl⟩) ⟨hl,fun j p hj=>?_⟩ ⟨oD,esD,epD,Y _ _ (kp _ _ eD),restD⟩ (by simpa using hz) fun h3 tk3 hD3 kp3=>⟨rfl,?_⟩
 .obtain⟨t,key,o,n,h1,h2,h3,h4,h5⟩:=hp j p hj;have ht:=qb0 h3;exact⟨t,key,o,n,h1,qb8 (qp6 ht W),qb8 ht,h2,Y _ _ (kp _ _ (gP _ h3)),h4,h5⟩
 .refine hQ h3 tk3 (by simpa using hD3) fun b ob e=>kp3 b ob (qb8 (qp6 (qb0 e) W)) (qb8 (qb0 e)) (Y _ _ (kp _ _ (ql0 _ e)))
end
def dO(J6:η (Key×V)):η (Key×V)->η (Key×V)
 |[]=>J6
 |p::ps=>dO (dX J6 p.1 p.2) ps
theorem KV.all:∀{ps:η (Key×V)}{qs:η (Key×Value)}{J6:η (Key×V)}{vs:η (Key×Value)},KV ps qs->KV J6 vs->KV (dO J6 ps) (gk vs qs)
 |[],[],_,_,_,r=>r
 |[],_::_,_,_,h,_=>by cases h
 |_::_,[],_,_,h,_=>by cases h
 |p::ps,q::qs,J6,vs,h,r=>by
  cases h with
  |cons hp W=>obtain⟨e,U⟩:=hp;have:=KV.all W (r.put p.1 U);show KV (dO (dX J6 p.1 p.2) ps) (gk (stored vs q.1 q.2) qs);rw[<- e];exact this
theorem kR:∀(ps J6:η (Key×V)),(dO J6 ps).length<=J6.length+ps.length
 |[],J6=>by simp[dO]
 |p::ps,J6=>by have h1:=kR ps (dX J6 p.1 p.2);have h2:=fZ J6 p.1 p.2;simp only[dO,qe4];lia
section
variable{X:Cx}
def BG(K:xA9):η V->Hp->VK->Prop:=fun xs H Q=>∃(a:J9)(vs:η V)(ps:η (Key×V)),xs=[.ref a]/\SqL K H a vs/\vs.length=ps.length∧(∀(j:Nat)(p:Key×V),ps[j]?=ς p->∃t,vs[j]?=ς (.ref t)/\SqT K H t [kV p.1,p.2])/\∀p,H p=ψ->Q (.ref p) (upd H p (.dK (dO [] ps)))
theorem qX(hc:X.calm=θ):cz X (.type "dict") (BG X.K):=by
 intro J1 s σ H xs us Q I r h;obtain⟨a,vs,ps,rfl,hq,hl,hp,q⟩:=h;obtain⟨u,rfl,rx⟩:=fK r;cases rx
 have hs:∃J8:η Value,Vals vs J8/\(∃n sl,s.heap.get? a=ς {cls:=.type (tyB θ),dict:=ψ,data:=.seq J8.toArray n,slots:=sl})/\vs.length<=qb2:=by obtain⟨J8,Z,⟨⟨cls,dd,data,sl⟩,n,ho,h1,h2,h3⟩,hz⟩:=I.list hq;simp only at h1 h2 h3;subst h1 h2 h3;exact⟨J8,Z,⟨n,sl,ho⟩,hz⟩
 obtain⟨J8,Z,⟨n,sl,ho⟩,hz⟩:=hs
 -- the values of the pairs
 have ex:∀(j:Nat)(p:Key×V),ps[j]?=ς p->∃t U u n o,J8[j]?=ς (.ref t)/\RelV (kV p.1) U/\RelV p.2 u/\s.heap.get? t=ς o/\o.cls=.type "tuple"/\o.data=.seq #[U,u] n:=fun j p W=>by obtain⟨t,ht,hT⟩:=hp j p W;obtain⟨u0,hu0,ru0⟩:=Z.get ht;obtain rfl:u0=qf3 t:=ru0;obtain⟨ws,rws,⟨o,eo,ec,n,ed⟩,_⟩:=I.tuple hT;obtain⟨x,y,rfl,rx,ry⟩:=rS rws;exact⟨t,x,y,n,o,hu0,rx,ry,eo,ec,ed⟩
 have exq:∃qs:η (Key×Value),KV ps qs/\∀(j:Nat)(p:Key×Value),qs[j]?=ς p->∃t U o n,J8[j]?=ς (.ref t)/\(aE X.prog X.w).is p.1 U=θ/\s.heap.get? t=ς o/\o.cls=.type "tuple"/\o.data=.seq #[U,p.2] n:=by
  have U:∀ (ps:η (Key×V)) (J8:η Value),(∀ (j:Nat) (p:Key×V),ps[j]?=ς p->∃ t U u n o,J8[j]?=ς (.ref t)/\RelV (kV p.1) U/\RelV p.2 u/\s.heap.get? t=ς o/\o.cls=.type "tuple"/\o.data=.seq #[U,u] n)→
      ∃qs:η (Key×Value),KV ps qs/\∀(j:Nat)(p:Key×Value),qs[j]?=ς p->∃t U o n,J8[j]?=ς (.ref t)/\(aE X.prog X.w).is p.1 U=θ/\s.heap.get? t=ς o/\o.cls=.type "tuple"/\o.data=.seq #[U,p.2] n:=fun ps=>by
   induction ps with
   |nil=>exact fun J8 _=>⟨[],.nil,fun j p h=>by simp at h⟩
   |cons p ps ih=>
    intro J8 h;obtain⟨t,k,u,n,o,e1,e2,e3,e4,e5,e6⟩:=h 0 p rfl;cases J8 with
    |nil=>simp at e1
    |cons v J8=>
     obtain⟨qs,r1,r2⟩:=ih J8 fun j p W=>h (j+1) p (by simpa using W)
     refine⟨(p.1,u)::qs,.cons ⟨rfl,e3⟩ r1,fun j q W=>?_⟩;cases j with
     |zero=>simp at W;subst W;exact⟨t,k,o,n,by simpa using e1,jh e2,e4,e5,e6⟩
     |succ j=>simpa using r2 j q (by simpa using W)
  exact U ps J8 ex
 obtain⟨qs,rq,hq2⟩:=exq;have Y:J8.length=qs.length:=by rw[<- Z.length,hl];exact rq.length
 have hzz:qs.length<=qb2:=by rw[<- Y,<- Z.length];exact hz
 refine lG (b:=true) ho (I.ok.hd hc) (by simpa using Y) hzz (fun j p W=>by obtain⟨t,U,o,n,e1,e2⟩:=hq2 j p W;exact⟨t,U,o,n,by simpa using e1,e2⟩) fun h' tk hD kp=>⟨.ref s.heap.objs.size,_,I.laid (a:=s.heap.objs.size) (o:=.dK (dO [] ps)) (t':=tk) kp (qn6 _) ?_,rfl,q _ (I.hok.fresh (qn6 _))⟩
 refine vX ?_ (beq_eq_false_iff_ne.mpr (qh5 (qb8 I.big))) (KV.all rq .nil) hD;have:=kR ps [];have:=rq.length;simp at*
 lia
end
def xG:Dt->ζ (Key×Dt)
 |.t [k,d]=>(nn k).map fun k=>(k,d)
 |_=>ψ
def gU:η Dt->ζ (η (Key×Dt))
 |[]=>ς []
 |d::l=>(xG d).bind fun p=>(gU l).map (p::·)
def dz(J6:η (Key×Dt)):η (Key×Dt)->η (Key×Dt)
 |[]=>J6
 |p::ps=>dz (dL J6 p.1 p.2) ps
def xH:η Dt->ζ T
 |[.e l]=>(gU l).map fun ps=>.dct (dz [] ps)
 |_=>ψ
section
variable{K:xA9}{F H:Hp}
theorem xI(U:Same F H){d:Dt}{v:V}{p:Key×Dt}(h:xG d=ς p)(r:Rep K F d v):∃t u,v=.ref t/\SqT K H t [kV p.1,u]/\Rep K F p.2 u:=by
 unfold xG at h;split at h<;>first|(cases h;done)|skip
 rename_i k d;obtain⟨kk,hk,rfl⟩:=mS h;simp only[Rep,Reps]at r;obtain⟨t,vs,rfl,h1,x,ws,rfl,W,y,Y,rfl,Z,rfl⟩:=r;have:=fB (RepB.of U W) hk;subst this;exact⟨t,y,rfl,U.tup h1,Z⟩
theorem mE(Y:Same F H):∀{l:η Dt}{vs:η V}{ps:η (Key×Dt)},gU l=ς ps->Reps K F l vs->∃qs:η (Key×V),vs.length=qs.length/\qs.map (·.1)=ps.map (·.1)/\Reps K F (ps.map (·.2)) (qs.map (·.2))/\∀(j:Nat)(q:Key×V),qs[j]?=ς q->∃t,vs[j]?=ς (.ref t)/\SqT K H t [kV q.1,q.2]
 |[],vs,ps,h,r=>by cases h;simp only[Reps]at r;subst r;exact⟨[],rfl,rfl,by simp[Reps],fun j q U=>by simp at U⟩
 |d::l,vs,ps,h,r=>by
  obtain⟨p,hp,h⟩:=bS h;obtain⟨ps',W,rfl⟩:=mS h;simp only[Reps]at r;obtain⟨v,ws,rfl,Z,r2⟩:=r;obtain⟨t,u,rfl,h1,h2⟩:=xI Y hp Z;obtain⟨qs,q1,q2,q3,q4⟩:=mE Y W r2;refine⟨(p.1,u)::qs,by simp[q1],by simp[q2],by simp only[qa4,Reps];exact⟨_,_,rfl,h2,q3⟩,fun j q U=>?_⟩;cases j with
  |zero=>simp at U;subst U;exact⟨t,rfl,h1⟩
  |succ j=>simpa using q4 j q (by simpa using U)
theorem pF{k x:Key}{d:Dt}:∀{l:η (Key×Dt)},x∈(dL l k d).map (·.1)->x∈l.map (·.1)∨x=k
 |[],h=>.inr (qb1.mp h)
 |p::l,h=>by
  rw[dL]at h;split at h
  .exact .inl h
  .rcases qa5.mp h with h|h
   .exact .inl (h▸.head _)
   .exact(pF h).imp (.tail _) id
theorem sM{k:Key}{d:Dt}:∀{l:η (Key×Dt)},(l.map (·.1)).Nodup->((dL l k d).map (·.1)).Nodup
 |[],_=>by simp[dL]
 |p::l,h=>by
  obtain⟨h1,h2⟩:=qg0.mp h;rw[dL];split
  .exact h
  .rename_i z;exact qg0.mpr ⟨fun q=>(pF q).elim h1 z,sM h2⟩
theorem mF:∀{ps:η (Key×Dt)}{qs J6:η (Key×V)}{l:η (Key×Dt)},(l.map (·.1)).Nodup->J6.map (·.1)=l.map (·.1)->Reps K F (l.map (·.2)) (J6.map (·.2))->qs.map (·.1)=ps.map (·.1)->Reps K F (ps.map (·.2)) (qs.map (·.2))->(dO J6 qs).map (·.1)=(dz l ps).map (·.1)/\Reps K F ((dz l ps).map (·.2)) ((dO J6 qs).map (·.2))
 |[],[],J6,l,_,h,r,_,_=>⟨h,r⟩
 |[],_::_,_,_,_,_,_,h,_=>by cases h
 |_::_,[],_,_,_,_,_,h,_=>by cases h
 |p::ps,q::qs,J6,l,U,h,r,h2,W=>by simp only[qa4,zh3]at h2;simp only[qa4,Reps]at W;obtain⟨v,ws,e,Y,Z⟩:=W;cases e;obtain⟨a,b⟩:=nq q.1 q.2 J6 l p.2 (h▸U) h;rw[dO,dz,<- h2.1];exact mF (sM U) a (b K F Y r) h2.2 Z
theorem At:CRD K (BG K) xH:=fun F H ds vs Q t Y r U k=>by
 unfold xH at U;split at U<;>first|(cases U;done)|skip
 obtain⟨ps,hp,rfl⟩:=mS U;obtain⟨v,rfl,a,ws,rfl,h1,h2⟩:=dq r;obtain⟨qs,q1,q2,q3,q4⟩:=mE Y hp h2;refine⟨a,ws,qs,rfl,h1,q1,q4,fun p W=>?_⟩;obtain⟨e1,Z⟩:=mF (K:=K) (F:=F) (J6:=[]) (l:=[]) Ξ rfl rfl q2 q3;exact k _ _ F (fun b=>b=p) (Step.made Y W) ⟨p,_,rfl,rfl,aw,e1,Z⟩ fun b z=>by subst z;exact⟨Y.free W,W,_,aw,nofun⟩
end
def pG:Dt->Dt->ζ T
 |.e l,.int n=>if 0<=n/\n<=1000/\l.length<=1000 then ς (.e (qb9 n.toNat l).flatten)else ψ
 |_,_=>ψ
theorem FY (a:Int) (t:Tok) (l:J9) (J8:Array Value) (n:Nat) (sl:Array (ζ Value)) :
  Meets (qh6.«int.__rmul__» ⟨[.int a t,.ref l],[]⟩) (fun _ R s=>s.heap.get? l=ς {cls:=.type "list",dict:=ψ,data:=.seq J8 n,slots:=sl}/\R (.ok (.ret Value.notImplemented)) s):=
 .of_wp fun prog w A R s h=>by obtain⟨hp,g,d,tk,U⟩:=s;obtain⟨W,h⟩:=h;wp_walk;exact⟨_,rfl,h⟩
theorem mulL (l:J9) (J8:Array Value) (n:Nat) (sl:Array (ζ Value)) (x:Int) (u:Tok) (h0:¬(!Builtin.List.listFitsIndex x)=θ) (h1:¬J8.size*x.toNat > (2^63-1)/8) (h2:¬qp1 (J8.size*x.toNat)=θ) (hsz:(zi2 (fun W U=>W++U) #[] (qb9 (if J8.isEmpty=θ then 0 else x.toNat) J8)).size<=qb2) :
  Meets (qh6.«list.__mul__» ⟨[.ref l,.int x u],[]⟩) (fun _ R s=>s.heap.get? l=ς {cls:=.type "list",dict:=ψ,data:=.seq J8 n,slots:=sl}/\R (.ok (.ret (qf3 s.heap.objs.size))) {s with heap:=s.heap.push {cls:=ql7 "list",data:=Data.seq (zi2 (fun W U=>W++U) #[] (qb9 (if J8.isEmpty=θ then 0 else x.toNat) J8))},toks:=s.toks}):=
 .of_wp fun prog w A R s h=>by obtain⟨hp,g,d,tk,Y⟩:=s;obtain⟨Z,h⟩:=h;wp_walk;refine wpAny_ite_false (decide_eq_false (qy5.mpr hsz)) ?_;wp_walk;exact⟨_,rfl,h⟩
def BH(K:xA9):R2:=fun x y H Q=>∃l k xs,x=.ref l/\y=.int k/\SqL K H l xs/\(0<=k/\k<=1000/\xs.length<=1000)∧∀p,H p=ψ->Q (.ref p) (upd H p (.e (qb9 k.toNat xs).flatten))
def jQ:OpR X (qm9 .Mult) (BH X.K):=by
 intro J1 s σ H x y v u Q I rx ry h;obtain⟨l,k,xs,rfl,rfl,hH,⟨h0,h1,hx⟩,q⟩:=h;cases rx;obtain⟨t,rfl⟩:=ry;obtain⟨J8,r,pl,_⟩:=I.list hH;obtain⟨⟨cls,dd,data,sl⟩,n,Z,hc,hd0,hd⟩:=pl;simp only at hc hd hd0;subst hc hd hd0;have hl:=r.length;have hk:k.toNat<=1000:=by lia
 have hm:J8.length*k.toNat<=1000*1000:=zi9 Θ hk;have hs:qb2=16777216:=qz0;have Y:J8.toArray.size*k.toNat<=qb2:=by rw[qb6];lia
 have W:zi2 (fun x1 x2=>x1++x2) #[] (qb9 (if J8.toArray.isEmpty=θ then 0 else k.toNat) J8.toArray)=(qb9 k.toNat J8).flatten.toArray:=by
  have f0:∀m:Nat,zi2 (fun x1 x2=>x1++x2) #[] (qb9 m J8.toArray)=(qb9 m J8).flatten.toArray:=fun m=>by have:=lN J8 m [];rw[qr3]at this;exact this
  rw[f0];cases J8 with
  |nil=>simp
  |cons a r'=>rw[if_neg Ξ]
 refine wpAny_binaryOp_repeat_ref (T:="list") (U:="int") Ω ⟨_,Z,rfl⟩ (fun s'=>zi1 s' k t) noFill_list_mul F.fills_int_mul F.slot_int_rmul repeat_list F.slot_int_index.lookup
  (qy4 F.slot_int_rmul (zi1 s k t) F.entry_int_rmul (F.args_int_rmul_2 _ _) (FY k t l J8.toArray n sl)
   ⟨Z,rfl,⟨_,Z,rfl⟩,qy4 F.slot_list_mul ⟨_,Z,rfl⟩ F.entry_list_mul (F.args_list_mul_2 _ _) (mulL l J8.toArray n sl k t (by
    rw[fitsIndex_both Θ Θ];exact qb5) (by
    have:(qb2:Nat)<=(2^63-1)/8:=by decide
    lia) (by
    rw[oB Y];exact qb5) (by
    rw[W,qb6,rY,Nat.mul_comm];lia)) ⟨Z,?_⟩⟩)
 rw[W];exact⟨.ref _,_,I.lnew (t':=s.toks) (r.rep k.toNat) (by rw[rY,Nat.mul_comm,hl];lia),rfl,q _ I.fresh⟩
theorem Reps.rep{F:Hp}{l:η Dt}{vs:η V}(h:Reps K F l vs):∀n:Nat,Reps K F (qb9 n l).flatten (qb9 n vs).flatten
 |0=>by simp[Reps]
 |n+1=>by rw[qj6,qj6,qp0,qp0];exact h.append (Reps.rep h n)
def nH:R2D K (BH K) pG:=by
 intro F H x y vx vy Q t fh Y Z U k;unfold pG at U;split at U<;>first|(cases U;done)|skip
 split at U<;>cases U
 rename_i W;obtain⟨a,vs,rfl,h1,h2⟩:=Y;cases Z;exact⟨a,_,vs,rfl,rfl,h1,⟨W.1,W.2.1,by rw[h2.length];exact W.2.2⟩,fun p hp=>em k fh (Reps.rep h2 _) hp⟩
section
variable{X:Cx}{o z e:Jc}{apos cpos pos:Pos}{i:Nat}{fe:De->ζ Dt}
def Au:V->η V->Hp->VK->Prop:=fun x vs H Q=>∃l xs y,x=.ref l/\vs=[.int 0,y]/\H l=ς (.e xs)/\xs.length<qb2/\Q .non (upd H l (.e (y::xs)))
def uW:MtM X "list.insert" Au:=by
 intro J1 s σ H x vs v us Q I Z U h;obtain⟨l,xs,y,rfl,rfl,W,hz,q⟩:=h;cases Z;cases U with
 |cons r1 U=>obtain⟨t,rfl⟩:=r1;obtain⟨u,rfl,Y⟩:=Vals.one U;obtain⟨_,J8,n,r,hl,e⟩:=I.lstM W;refine qy4 F.slot_list_insert ⟨_,e,rfl⟩ F.entry_list_insert (F.args_list_insert_3 _ _ _) (AutoSeq1.list_insert_list_int_val_1 l J8.toArray n 0 t u Ω (by rw[qb6];lia)) ⟨e,?_⟩;exact⟨.non,_,I.lset (its':=u::J8) W e Ξ (.cons Y r) (by rw[qe4];lia),rfl,q⟩
def D3(i:Nat)(f:De->ζ Dt):De->ζ Out:=fun δ=>match δ[i]? with
 |some (ς (.e l))=>(f δ).bind fun d=>if l.length<qb2 then ς (.nx (δ.set i (ς (.e (d::l)))))else ψ
 |_=>ψ
theorem D4 (hx:PE X o (fT i)) (hz:DL X z (kD (.int 0))) (he:DL X e fe)
  (Y:zd0 o "insert" X.env (eval o X.env)=eval o X.env:=by rfl)
  (hfew:((ql8 cpos (qa8 [z,e] X.env)).all (fun x=>!x.1)&&(backToKw cpos (zj3 [] X.env)).all (fun x=>x.1.isSome)
   && decide ([z,e].length+([]:η zg5).length+(if([]:η zg5).isEmpty then 0 else 1)<30))=θ:=by rfl)
  (Z:(apos.endLine==cpos.line)=θ:=by rfl) (hs:qa8 [z,e] X.env=(ξ,eval z X.env)::qa8 [e] X.env:=by rfl) (hs2:qa8 [e] X.env=(ξ,eval e X.env)::qa8 [] X.env:=by rfl) (U:(ql8 cpos (qa8 [e] X.env)).any (·.1)=ξ:=by rfl)
  (hsw:qo5 (.Call (.Attribute o "insert" apos) [z,e] [] cpos) ψ pos.line X.env=pure ξ:=by rfl) :
  DS1 X (.Expr (.Call (.Attribute o "insert" apos) [z,e] [] cpos) pos) (D3 i fe):=
 PS.mono (mR (vW PySem.F.plainAttrs_list PySem.F.slot_list_insert PySem.F.type_list_insert uW hx (bW hz (bW he eG hs2) hs) Y hfew Z hs U) hsw) fun D σ H hq=>by
  obtain⟨Φ,δ,F,ot,hK,en,W,k⟩:=hq;unfold D3 at W;split at W<;>first|cases W;done|skip
  rename_i l hl;obtain⟨d,hd,W⟩:=bS W;split at W<;>first|cases W;done|skip
  rename_i hc;cases W;obtain⟨a,vs,hv,h1,h2⟩:=en.ownL hl;refine⟨.ref a,hv,.inl ⟨rfl,vs,.inl (.inl h1)⟩,Φ,δ,F,.int 0,hK,en,rfl,fun v0 H0 F0 st0 rv0=>⟨Φ,δ,F0,d,hK,en.step st0,hd,fun v H1 F1 st rv=>?_⟩⟩;have st:=st0.trans st;have h1':=st.hh _ _ h1;simp only[Rep]at rv0;subst rv0;refine⟨a,vs,v,rfl,rfl,h1',by rw[h2.length];exact hc,?_⟩;refine k σ F1 _ ((en.step st).poke hl hv rfl fun S sa=>⟨a,v::vs,rfl,sa,aw,?_⟩);simp only[Reps];exact⟨_,_,rfl,hK▸rv,h2.same st.ff⟩
end
def Tw(h:Heap)(a:J9)(p:Int×Int):Prop:=∃o n t u,h.get? a=ς o/\o.cls=.type "tuple"/\o.data=.seq #[.int p.1 t,.int p.2 u] n
def ltP(p q:Int×Int):Bool:=decide (p.1<q.1)||(decide (p.1=q.1)&&decide (p.2<q.2))
section
variable{P:qc5}{w:Ja}{A:qe1}{E:Value->qa3->Prop}{s:qa3}{a b:J9}{p q:Int×Int}
theorem Tw.ty(x:Tw s.heap a p):s.TypeIs (.ref a) "tuple":=let ⟨o,_,_,_,h,c,_⟩:=x;⟨o,h,c⟩
theorem lt_int{x y:Int}{t u:Tok}(h:Q (.bool (decide (x<y))) s):wpAny (model P w) A (ze4 .Lt (.int x t) (.int y u)) Q E s:=richCompare_gives (op:=.Lt) (zi1 s _ t) (zi1 s _ u) PySem.F.slot_int_lt PySem.F.entry_int_lt (PySem.F.args_int_lt_2 _ _) (gives_int_lt _ _ t u) (fun x=>nomatch x) h
theorem Av{R:PySem.Fin->qa3->Prop}(hx:Tw s.heap a p)(Z:Tw s.heap b q)(h:R (.done (.ret (.bool (ltP p q)))) s):wpAny (model P w) A (qh6.«tuple.__lt__» ⟨[.ref a,.ref b],[]⟩) R E s:=by
 have ty:=Z.ty;obtain⟨o1,n1,t1,u1,g1,c1,d1⟩:=hx;obtain⟨o2,n2,t2,u2,g2,c2,d2⟩:=Z;show wpAny _ _ (isInstance (.ref b) (.type "tuple") >>= _) _ _ s;refine wB (qn3 ty isSubtype_tuple_tuple ?_);simp only[qy0,qd1,if_false];refine wB (wpAny_tupleItemsOf g1 d1 (wB (wpAny_tupleItemsOf g2 d2 ?_)));simp only[List.zip_cons_cons,List.zip_nil_right,qu8,za7];refine wB (wB (wB (ze6 ?_)));unfold ltP at h;by_cases W:p.1=q.1
 .have f1:(p.1==q.1)=θ:=by simp[W]
  simp only[f1,qy0,qd1,if_false];refine qa2 ?_;refine wB (wB (ze6 ?_));by_cases Y:p.2=q.2
  .have f2:(p.2==q.2)=θ:=by simp[Y]
   simp only[f2,qy0,qd1,if_false];refine qa2 (qa2 ?_);have U:(decide (p.1<q.1)||decide (p.1=q.1)&&decide (p.2<q.2))=ξ:=by simp[W,Y]
   rw[U]at h;exact qa2 h
  .have f2:(p.2==q.2)=ξ:=by simp[Y]
   simp only[f2,zb2,if_true];refine wB (qu1 (wB (lt_int (wB (qa2 (qa2 (qa2 (qa2 ?_))))))));have U:(decide (p.1<q.1)||decide (p.1=q.1)&&decide (p.2<q.2))=decide (p.2<q.2):=by simp[W]
   rw[U]at h;exact h
 .have f1:(p.1==q.1)=ξ:=by simp[W]
  simp only[f1,zb2,if_true];refine wB (qu1 (wB (lt_int (wB (qa2 (qa2 (qa2 (qa2 ?_))))))));have U:(decide (p.1<q.1)||decide (p.1=q.1)&&decide (p.2<q.2))=decide (p.1<q.1):=by simp[W]
  rw[U]at h;exact h
theorem Aw(Y:A.units<cLine)(U:Tw s.heap a p)(W:Tw s.heap b q)(h:Q (.bool (ltP p q)) s):wpAny (model P w) A (ze4 .Lt (.ref a) (.ref b)) Q E s:=wpAny_richCompare_same_room (op:=.Lt) U.ty W.ty PySem.F.slot_tuple_lt (qf2 PySem.F.slot_tuple_lt U.ty PySem.F.entry_tuple_lt (Av U W ⟨_,rfl,(fun e=>nomatch e),h⟩) (PySem.F.args_tuple_lt_2 _ _)) Y
end
section
variable{P:qc5}{w:Ja}{A:qe1}{R:zn1->qa3->Prop}{it S:J9}{fp wr:η J9}{n:Nat}{V:Nat->Value->Prop}{St:Nat->Heap->Prop}{bt:Nat->Nat->Bool}{T:Heap->Prop}
structure CmpH(P:qc5)(w:Ja)(A:qe1)(wr:List J9)(S:J9)(V:Nat->Value->Prop)(bt:Nat->Nat->Bool)(T:Heap->Prop):Prop where
 keep:∀h h',T h->(∀b o,b∉wr->b≠S->h.get? b=ς o->h'.get? b=ς o)->T h'
 cmp:∀i j vi vj (s:qa3)(Q E:Value->qa3->Prop),V i vi->V j vj->T s.heap->Q (.bool (bt i j)) s->wpAny (model P w) A (ze4 .Lt vi vj) Q E s
theorem uX (W:Walks P w A.in1 it fp wr n V St) (C:CmpH P w A.in1 wr S V bt T) (nS:S∉fp) :
  ∀(d j:Nat)(s:qa3)(u:Value)(c:Nat),n=j+1+d->St (j+1) s.heap->T s.heap->V (qx2 bt j) u→
  s.heap.get? S=ς {cls:=.type "list",dict:=ψ,data:=.seq #[u,u] c,slots:=#[]}→
  (∀v h' tk,V (qx2 bt (n-1)) v->(∀b o,b∉wr->b≠S->s.heap.get? b=ς o->h'.get? b=ς o)->R (.ok (.ret v)) {s with heap:=h',toks:=tk})→
  qq7 (model P w) A (.builtin "min.loop" ⟨[.ref it,.none,.ref S],[]⟩) R s:=by
 have nw:S∉wr:=fun z=>nS (W.sub _ z)
 have nm:(zl1 "min"++zl1 ".loop":String)="min.loop":=by decide
 intro d;induction d with
 |zero=>intro j s u c hn st ht hu hS k;refine qj2 PySem.F.entry_min_loop ?_;rw[qg3 PySem.F.plain_min_loop _];show wpAny _ A.in1 (zk6 (.ref S) >>= _) _ _ s;refine wB (qg5 hS rfl ?_);show wpAny _ A.in1 (tryCatch (qp9 (.ref it)) _ >>= _) _ _ s;refine wB (qw3 (W.done s _ _ (by rw[hn];exact st) fun h1 tk1 kp=>?_));show wpAny _ A.in1 (zl0 S (fun _=>#[]) >>= _) _ _ _;refine wB (qr2 (kp S _ nw hS) rfl (wB (qt6 (qa2 ?_))));exact k u _ tk1 (by rw[hn];exact hu) fun b o q1 q2 e=>(qh7 _ _ (qh5 q2)).trans (kp b o q1 e)
 |succ d ih=>
  intro j s u c hn st ht hu hS k;refine qj2 PySem.F.entry_min_loop ?_;rw[qg3 PySem.F.plain_min_loop _];show wpAny _ A.in1 (zk6 (.ref S) >>= _) _ _ s;refine wB (qg5 hS rfl ?_);show wpAny _ A.in1 (tryCatch (qp9 (.ref it)) _ >>= _) _ _ s;refine wB (qw3 (W.item (j+1) s _ _ Θ st fun v h1 tk1 hv st1 kp=>?_));have U:=kp S _ nw hS;have Z:T h1:=C.keep _ _ ht fun b o q1 _ e=>kp b o q1 e
  show wpAny _ A.in1 (tryCatch (qy8 [v,v] (ze4 .Lt v u >>= _)) _ >>= _) _ _ _;refine wB (qw3 (qh9 (wB (C.cmp (j+1) (qx2 bt j) v u _ _ _ hv hu Z ?_))));refine wB (qh9 (qo4 (wB (qt6 (qa2 ?_)))));cases hb:bt (j+1) (qx2 bt j)with
  |true=>
   simp only[if_true];refine wB (qr2 U rfl (wB (qt6 ?_)));rw[nm];have Y:∀b o,b≠S->h1.get? b=ς o->(h1.update S (qn1 fun _=>#[v,v])).get? b=ς o:=fun b o q e=>(qh7 _ _ (qh5 q)).trans e
   refine qa2 ⟨ql5 PySem.F.plain_min_loop _,ih (j+1) _ v _ Θ (W.frame _ _ _ st1 fun b q o e=>Y b o (fun z=>nS (z▸q)) e) (C.keep _ _ Z fun b o _ q e=>Y b o q e) (by simp only[qx2,hb,if_true];exact hv) (qe3 _ U rfl)
    fun v2 h2 tk2 r1 r2=>?_⟩
   exact k v2 h2 tk2 r1 fun b o q1 q2 e=>r2 b o q1 q2 (Y b o q2 (kp b o q1 e))
  |false=>simp only[qd1,if_false];refine wB (qt6 ?_);rw[nm];refine qa2 ⟨ql5 PySem.F.plain_min_loop _,ih (j+1) _ u c Θ st1 Z (by simp only[qx2,hb,qd1,if_false];exact hu) U fun v2 h2 tk2 r1 r2=>?_⟩;exact k v2 h2 tk2 r1 fun b o q1 q2 e=>r2 b o q1 q2 (kp b o q1 e)
theorem qY (W:Walks P w A.in1 it fp wr n V St) (C:CmpH P w A.in1 wr S V bt T) (nS:S∉fp) (hn:0<n) {s:qa3} {c:Nat} (st:St 0 s.heap) (ht:T s.heap)
  (hS:s.heap.get? S=ς {cls:=.type "list",dict:=ψ,data:=.seq #[] c,slots:=#[]})
  (k:∀v h' tk,V (qx2 bt (n-1)) v->(∀b o,b∉wr->b≠S->s.heap.get? b=ς o->h'.get? b=ς o)->R (.ok (.ret v)) {s with heap:=h',toks:=tk}) :
  qq7 (model P w) A (.builtin "min.loop" ⟨[.ref it,.none,.ref S],[]⟩) R s:=by
 have nw:S∉wr:=fun z=>nS (W.sub _ z)
 have nm:(zl1 "min"++zl1 ".loop":String)="min.loop":=by decide
 refine qj2 PySem.F.entry_min_loop ?_;rw[qg3 PySem.F.plain_min_loop _];show wpAny _ A.in1 (zk6 (.ref S) >>= _) _ _ s;refine wB (qg5 hS rfl ?_);show wpAny _ A.in1 (tryCatch (qp9 (.ref it)) _ >>= _) _ _ s;refine wB (qw3 (W.item 0 s _ _ hn st fun v h1 tk1 hv Z kp=>?_));have Y:=kp S _ nw hS;show wpAny _ A.in1 (zl0 S (fun _=>#[v,v]) >>= _) _ _ _;have U:∀b o,b≠S->h1.get? b=ς o->(h1.update S (qn1 fun _=>#[v,v])).get? b=ς o:=fun b o q e=>(qh7 _ _ (qh5 q)).trans e
 refine wB (qr2 Y rfl ?_);rw[nm]
 refine qa2 ⟨ql5 PySem.F.plain_min_loop _,uX W C nS (n-1) 0 _ v _ Θ (W.frame _ _ _ Z fun b q o e=>U b o (fun z=>nS (z▸q)) e) (C.keep _ _ ht fun b o q1 q2 e=>U b o q2 (kp b o q1 e)) hv (qe3 _ Y rfl)
  fun v2 h2 tk2 r1 r2=>?_⟩
 exact k v2 h2 tk2 r1 fun b o q1 q2 e=>r2 b o q1 q2 (U b o q2 (kp b o q1 e))
end
section
variable{P:qc5}{w:Ja}{A:qe1}{E:Value->qa3->Prop}{s:qa3}{T:Heap->Prop}{bt:Nat->Nat->Bool}
theorem minH(hh:A.handled=ψ)(hl:s.heap.IsList l items)(hn:0<items.size)(ht:T s.heap)
 (hk:∀h h',T h->(∀b o,b<s.heap.objs.size->h.get? b=ς o->h'.get? b=ς o)->T h')
 (hc:∀i j vi vj (s:qa3)(Q E:Value->qa3->Prop),items[i]?=ς vi->items[j]?=ς vj->T s.heap->Q (.bool (bt i j)) s->wpAny (model P w) A.in1 (ze4 .Lt vi vj) Q E s)
 (h:∀v h' tk,items[qx2 bt (items.size-1)]?=ς v->(∀b o,s.heap.get? b=ς o->h'.get? b=ς o)->Q v {s with heap:=h',toks:=tk}) :
  wpAny (model P w) A (call (.builtin "min") [.ref l]) Q E s:=by
 have nm:(zl1 "min"++zl1 ".loop":String)="min.loop":=by decide
 refine call_function_tree PySem.F.kind_min PySem.F.plain_min PySem.F.entry_min (PySem.F.args_min1 _) ?_;show wpAny _ A.in1 (qz9 "min" ["key","default"] 0 ⟨[],[]⟩ >>= _) _ _ s;refine wB (qz5 (show qz9 "min" ["key","default"] 0 ⟨[],[]⟩=pure [ψ,ψ]from rfl) ?_);refine wB (qa2 (wB (qo7 hl ?_)));have Y:l<s.heap.objs.size:=by obtain⟨_,e,_⟩:=hl;exact qb0 e
 have hne:l≠s.heap.objs.size:=qb8 Y;have W:=Walks.list (prog:=P) (w:=w) (A:=A.in1) hh s.heap.objs.size l hne items;refine wB (qd7 ?_);rw[nm];generalize U:s.heap.push {cls:=.type "list_iterator",data:=.fields #[.ref l,.int 0 0]}=h2;have hs2:h2.objs.size=s.heap.objs.size+1:=by rw[<- U];exact qd9 ..
 have up:∀b o,s.heap.get? b=ς o->h2.get? b=ς o:=fun b o e=>by rw[<- U];exact gP _ e
 have st0:h2.IsListIter s.heap.objs.size l 0/\h2.IsList l items:=by rw[<- U];exact⟨⟨_,qa7 _ rfl,rfl,rfl⟩,hl.push _⟩
 have big:∀b:J9,b<s.heap.objs.size->b∉[s.heap.objs.size]/\b≠h2.objs.size:=fun b Z=>⟨fun z=>qk4 _ (qb1.mp z▸Z),qb8 (by rw[hs2];exact qh4 Z)⟩
 have nS:h2.objs.size∉[s.heap.objs.size,l]:=fun z=>by
  rcases qa5.mp z with z|z
  .exact Nat.succ_ne_self _ (hs2.symm.trans z)
  .exact(big l Y).2 (qb1.mp z).symm
 have C:CmpH P w A.in1 [s.heap.objs.size] h2.objs.size (fun i v=>items[i]?=ς v) bt T:=⟨fun h h' a b=>hk h h' a fun c o d e=>b c o (big c d).1 (big c d).2 e,hc⟩
 refine qa2 ⟨ql5 PySem.F.plain_min_loop _,?_⟩;refine qY W C nS hn (W.frame _ _ _ st0 fun b _ o e=>gP _ e) (hk _ _ ht fun b o _ e=>gP _ (up b o e)) (qa7 _ rfl) fun v h' tk r1 r2=>?_
 refine h v h' tk r1 fun b o e=>?_
 have Z:=big b (qb0 e);exact r2 b o Z.1 Z.2 (gP _ (up b o e))
end
theorem ltP_iff{p q:Int×Int}:ltP p q=θ↔p.1<q.1∨(p.1=q.1/\p.2<q.2):=by simp[ltP]
theorem mG(f:Nat->Int×Int):∀k:Nat,qx2 (fun i j=>ltP (f i) (f j)) k<=k/\∀j,j<=k->ltP (f j) (f (qx2 (fun i j=>ltP (f i) (f j)) k))=ξ
 |0=>⟨qn6 _,fun j h=>by cases Nat.le_zero.mp h;exact qf9.mpr fun z=>by have:=ltP_iff.mp z;simp only[qx2]at this;lia⟩
 |k+1=>by
  obtain⟨h1,h2⟩:=mG f k;simp only[qx2];generalize qx2 (fun i j=>ltP (f i) (f j)) k=b at h1 h2;by_cases U:ltP (f (k+1)) (f b)=θ
  .rw[if_pos U];refine⟨nL _,fun j W=>qf9.mpr fun z=>?_⟩;have z:=ltP_iff.mp z;have y:=ltP_iff.mp U;rcases Nat.lt_or_ge k j with g|g
   .have:j=k+1:=by lia
    subst this;lia
   .exact qf9.mp (h2 j g) (ltP_iff.mpr Θ)
  .rw[if_neg U];refine⟨Θ,fun j W=>?_⟩;rcases Nat.lt_or_ge k j with g|g
   .have:j=k+1:=by lia
    subst this;exact qf9.mpr U
   .exact h2 j g
section
variable{X:Cx}
def prV(p:J9×(Int×Int)):V:=.ref p.1
def xJ(K:xA9):η V->Hp->VK->Prop:=fun xs H Q=>∃(l:J9)(ps:η (J9×(Int×Int))),xs=[.ref l]/\SqL K H l (ps.map prV)/\0<ps.length/\(∀p∈ps,SqT K H p.1 [.int p.2.1,.int p.2.2])∧∀p∈ps,(∀q∈ps,ltP q.2 p.2=ξ)->Q (.ref p.1) H
theorem uY(W:X.calm=θ)(hu:X.A.in1.units<cLine):cz X (.builtin "min") (xJ X.K):=by
 intro J1 s σ H xs us Q I r h;obtain⟨l,ps,rfl,hq,hn,hp,q⟩:=h;obtain⟨u,rfl,rx⟩:=fK r;cases rx;obtain⟨J8,r',pl,hz'⟩:=I.list hq;have hl:=pl.isList;have le:=r'.length;simp only[qa1]at le
 have U:∀(i:Nat)(v:Value),J8.toArray[i]?=ς v->∃p,ps[i]?=ς p/\v=qf3 p.1:=fun i v e=>by
  have e:J8[i]?=ς v:=by simpa using e
  have hi:=(gX e).1;refine⟨ps[i]'Θ,gQ Θ,?_⟩;have:=Vals.get (i:=i) r' (show(ps.map prV)[i]?=ς (prV (ps[i]'Θ))from by rw[qb3,gQ Θ];rfl);obtain⟨u,e2,e3⟩:=this;rw[e]at e2;cases e2;cases e3;rfl
 let f:Nat->Int×Int:=fun i=>(ps.getD i (0,(0,0))).2
 have Z:∀(i:Nat)(p:J9×(Int×Int)),ps[i]?=ς p->f i=p.2:=fun i p e=>by simp[f,e]
 refine minH (T:=fun h=>∀p∈ps,Tw h p.1 p.2) (bt:=fun i j=>ltP (f i) (f j)) (I.ok.hd W) hl (by simpa using le▸hn) (fun p Y=>?_) (fun h h' t k p Y=>?_) (fun i j vi vj s1 Q1 E1 ei ej t q1=>?_) fun v h' tk hv hk=>?_
 .obtain⟨ts,r2,⟨o,e,c,n,d⟩,_⟩:=I.tuple (hp p Y);obtain⟨u1,u2,rfl,x1,x2⟩:=rS r2;obtain⟨t1,rfl⟩:=x1;obtain⟨t2,rfl⟩:=x2;exact⟨o,n,t1,t2,e,c,by simpa using d⟩
 .obtain⟨o,n,t1,t2,e,c,d⟩:=t p Y;obtain⟨ts,r2,⟨o2,e2,_⟩,_⟩:=I.tuple (hp p Y);exact⟨o,n,t1,t2,k _ _ (qb0 e2) e,c,d⟩
 .obtain⟨a,ea,rfl⟩:=U i vi ei;obtain⟨b,eb,rfl⟩:=U j vj ej;refine Aw hu (t a (qc7 ea)) (t b (qc7 eb)) ?_;rw[<- Z i a ea,<- Z j b eb];exact q1
 .obtain⟨p,ep,rfl⟩:=U _ v hv;refine⟨.ref p.1,H,I.kept hk,rfl,q p (qc7 ep) fun c hc=>?_⟩;obtain⟨j,hj,e⟩:=qs1.mp hc;have e:ps[j]?=ς c:=by rw[gQ hj,e]
  have:=(mG f (J8.toArray.size-1)).2 j (by simp;lia);rw[Z j c e,Z _ p ep]at this;exact this
end
def jH(m:Int×Int):η (Int×Int)->Int×Int
 |[]=>m
 |x::r=>jH (if ltP x m then x else m) r
variable{a:Int×Int}
theorem xK{b c:Int×Int}(h1:ltP a b=ξ)(h2:ltP b c=ξ):ltP a c=ξ:=qf9.mpr fun z=>by have z:=ltP_iff.mp z;have h1:=mt ltP_iff.mpr (qf9.mp h1);have h2:=mt ltP_iff.mpr (qf9.mp h2);lia
theorem kS(a:Int×Int):ltP a a=ξ:=qf9.mpr fun z=>by have:=ltP_iff.mp z;lia
theorem D5{b:Int×Int}(h1:ltP a b=ξ)(h2:ltP b a=ξ):a=b:=by have h1:=mt ltP_iff.mpr (qf9.mp h1);have h2:=mt ltP_iff.mpr (qf9.mp h2);exact Prod.ext Θ Θ
theorem kT:∀(m:Int×Int)(l:η (Int×Int)),jH m l∈m::l
 |m,[]=>.head _
 |m,x::r=>by
  have:=kT (if ltP x m then x else m) r;rw[jH];rcases qa5.mp this with h|h
  .rw[h];split
   .exact .tail _ (.head _)
   .exact .head _
  .exact .tail _ (.tail _ h)
theorem jR:∀(m:Int×Int)(l:η (Int×Int))(a:Int×Int),a∈m::l->ltP a (jH m l)=ξ
 |m,[],a,h=>by rw[qb1.mp h];exact kS _
 |m,x::r,a,h=>by
  rw[jH]
  have h1:ltP m (if ltP x m then x else m)=ξ/\ltP x (if ltP x m then x else m)=ξ:=by
   by_cases q:ltP x m=θ
   .rw[if_pos q];refine⟨qf9.mpr fun z=>?_,kS _⟩;have z:=ltP_iff.mp z;have q:=ltP_iff.mp q;lia
   .rw[if_neg q];exact⟨kS _,qf9.mpr q⟩
  generalize (if ltP x m then x else m)=w at h1 ⊢;have U:=jR w r w (.head _);rcases qa5.mp h with rfl|h
  .exact xK h1.1 U
  .rcases qa5.mp h with rfl|h
   .exact xK h1.2 U
   .exact jR w r a (.tail _ h)
def qZ:η Dt->ζ (η (Int×Int))
 |[]=>ς []
 |.t [.int a,.int b]::l=>(qZ l).map fun r=>(a,b)::r
 |_=>ψ
theorem sN{F:Hp}:∀{l:η Dt}{vs:η V}{qs:η (Int×Int)},Reps K F l vs->qZ l=ς qs->∃ps:η (J9×(Int×Int)),vs=ps.map prV/\ps.map (·.2)=qs/\∀p∈ps,SqT K F p.1 [.int p.2.1,.int p.2.2]
 |[],vs,qs,r,h=>by cases h;cases r;exact⟨[],rfl,rfl,fun _ z=>nomatch z⟩
 |d::l,vs,qs,r,h=>by
  unfold qZ at h;split at h<;>first|(cases h;done)|skip
  .rename_i e;cases e
  rename_i a b l' e;cases e;obtain⟨rs,h1,h2⟩:=mS h;cases h2;unfold Reps at r;obtain⟨v,ws,rfl,U,Z⟩:=r;unfold Rep at U;obtain⟨c,us,rfl,s1,s2⟩:=U;obtain⟨u1,us1,rfl,t1,W⟩:=s2;obtain⟨u2,us2,rfl,t3,t4⟩:=W;cases t1;cases t3;cases t4;obtain⟨ps,Y,e2,e3⟩:=sN Z h1;refine⟨(c,(a,b))::ps,by rw[Y];rfl,by simp[e2],fun p hp=>?_⟩;rcases qa5.mp hp with rfl|hp
  .exact s1
  .exact e3 p hp
def sO:η Dt->ζ T
 |[.e ds]=>match qZ ds with
  |some (m::qs)=>ς (.f (.t [.int (jH m qs).1,.int (jH m qs).2]))
  |_=>ψ
 |_=>ψ
def D6:CRD K (xJ K) sO:=by
 intro F H ds vs Q t Y r U k;unfold sO at U;split at U<;>first|(cases U;done)|skip
 split at U<;>first|(cases U;done)|skip
 rename_i m qs hs;cases U;obtain⟨v,rfl,rv⟩:=dq r;obtain⟨a,vs,rfl,h1,h2⟩:=rv;obtain⟨ps,rfl,Z,W⟩:=sN h2 hs;have e4:∀p:Int×Int,p∈m::qs↔∃c∈ps,c.2=p:=fun p=>by rw[<- Z];exact qc8
 refine⟨a,ps,rfl,h1,by have:=congrArg qp7 Z;simp at this;lia,fun p hp=>Y.tup (W p hp),fun p hp hq=>?_⟩
 have e5:p.2=jH m qs:=by obtain⟨c,hc,ec⟩:=(e4 _).mp (kT m qs);exact D5 (jR m qs _ ((e4 _).mpr ⟨p,hp,rfl⟩)) (ec▸hq c hc)
 refine k.leaf.here Y ?_;unfold Rep;refine⟨p.1,_,rfl,W p hp,?_⟩;rw[e5];exact⟨_,_,rfl,rfl,_,_,rfl,rfl,rfl⟩
section
variable{X:Cx}
theorem rf{k:Nat}(W:Room k X.A)(U:X.calm=θ):cz X (.builtin "min") (xJ X.K):=uY U (by have:=W.units;show X.A.units+1<_;lia)
def kU(m:Int):η Int->Int
 |[]=>m
 |x::r=>kU (if x<m then x else m) r
theorem kW:∀(m:Int)(l:η Int),kU m l∈m::l
 |m,[]=>.head _
 |m,x::r=>by
  have:=kW (if x<m then x else m) r;rw[kU];rcases qa5.mp this with h|h
  .rw[h];split
   .exact .tail _ (.head _)
   .exact .head _
  .exact .tail _ (.tail _ h)
theorem nI:∀(m:Int)(l:η Int)(a:Int),a∈m::l->kU m l<=a
 |m,[],a,h=>by rw[qb1.mp h];exact Int.le_refl _
 |m,x::r,a,h=>by
  rw[kU];have h1:(if x<m then x else m)<=m/\(if x<m then x else m)<=x:=by split<;>lia
  generalize (if x<m then x else m)=w at h1 ⊢;have U:=nI w r w (.head _);rcases qa5.mp h with rfl|h
  .lia
  .rcases qa5.mp h with rfl|h
   .lia
   .exact nI w r a (.tail _ h)
theorem uZ(U:X.calm=θ):cz X (.builtin "min") (fun xs H Q=>∃p m ns,xs=[.ref p]/\SqL X.K H p ((m::ns).map V.int)/\Q (.int (kU m ns)) H):=by
 intro J1 s σ H xs us Q I r h;obtain⟨p,m,ns,rfl,hq,q⟩:=h;obtain⟨u,rfl,rx⟩:=fK r;cases rx;obtain⟨J8,r',pl,hz'⟩:=I.list hq;obtain⟨xs,e1,Y⟩:=qV (qk r');have Z:=pl.isList;rw[e1]at Z
 have hsz:xs.size=ns.length+1:=by have:=congrArg qp7 Y;simpa using this
 refine min_intList (I.ok.hd U) Z Θ fun v h' tk hv hk=>?_
 obtain⟨t,rfl⟩:=intItems_at hv;obtain⟨h1,h2⟩:=argBest_lt (numAt xs) (xs.size-1);refine⟨.int (kU m ns),H,I.kept hk,⟨t,?_⟩,q⟩;congr 1;refine Int.le_antisymm ?_ ?_
 .have:=kW m ns;rw[<- Y]at this;obtain⟨j,hj,e⟩:=qs1.mp this;have W:j<xs.size:=by simpa using hj
  have:=kP W;rw[gQ hj,e]at this;rw[qd6 this];exact h2 j Θ
 .refine nI m ns _ ?_;rw[<- Y];exact qc7 (kP Θ)
end
def sP:η Dt->ζ T
 |[.e ds]=>match pp ds with
  |some (m::ns)=>ς (.f (.int (kU m ns)))
  |_=>ψ
 |_=>ψ
theorem D7:CRD K (fun xs H Q=>∃p m ns,xs=[.ref p]/\SqL K H p ((m::ns).map V.int)/\Q (.int (kU m ns)) H) sP:=by
 intro F H ds vs Q t Z r U k;unfold sP at U;split at U<;>first|(cases U;done)|skip
 split at U<;>first|(cases U;done)|skip
 rename_i m ns Y;cases U;obtain⟨v,rfl,W⟩:=dq r;obtain⟨a,vs,rfl,h1,h2⟩:=W;have:=nB h2 Y;subst this;exact⟨a,m,ns,rfl,h1,k.int Z⟩
variable{ts:η Nat}
section
variable{X:Cx}{e c tg iter x y z w:Jc}{a:η Jb}{f:De->ζ T}{tc:De->ζ Bool}{pos tpos pos2:Pos}{i p q k:Nat}{Φ:Fm}{δ:De}{σ:St}{F H:Hp}
def toZ(f:De->ζ T):De->ζ Dt:=fun δ=>(f δ).bind T.z
theorem DO.toZ(h:DO X e f):DL X e (toZ f):=PE.mono h fun σ H Q ⟨Φ,δ,F,d,hK,Z,hf,k⟩=>by
 obtain⟨t,ht,Y⟩:=bS hf;refine⟨Φ,δ,F,t,hK,Z,ht,fun v H' F' S st o U=>?_⟩;refine k v H' (m8 F' H' S) ⟨st.hh,st.ff.trans (il fun b z=>(U b z).1),jL st.fh,fun b u z=>?_⟩ (o.freeze (fun b z=>(U b z).1) Y);by_cases W:S b
 .exact .inr (.inl (U b W).2.1)
 .rw[de W]at z;exact st.nw b u z
def xL(p q:Nat):De->ζ Out:=fun δ=>match δ[p]?,δ[q]? with
 |some (ς (.e l)),ς (ς (.e m))=>if p≠q then ς (.rt (.two l m))else ψ
 |_,_=>ψ
theorem Ax{k:Nat}(hp:PE X x (fT p))(hq:PE X y (fT q))(hs:qa8 [x,y] X.env=(ξ,eval x X.env)::qa8 [y] X.env:=by rfl)(hs2:qa8 [y] X.env=(ξ,eval y X.env)::qa8 [] X.env:=by rfl):DS1 X (.Return (ς (.Tuple [x,y] k tpos)) pos) (xL p q):=
 PS.mono (qb (vP (bW hp (bW hq eG hs2) hs))) fun D σ H ⟨Φ,δ,F,o,hK,U,Y,k⟩=>by
  unfold xL at Y;split at Y<;>first|(cases Y;done)|skip
  rename_i l m h1 h2;split at Y<;>cases Y
  rename_i ne;obtain⟨S,s⟩:=U.sep;obtain⟨v,hv⟩:=U.has p _ h1;obtain⟨u,hu⟩:=U.has q _ h2;obtain⟨a,vs,rfl,sa,ha,ra⟩:=s.own p _ _ (aR h1 hv);obtain⟨b,us,rfl,sb,hb,rb⟩:=s.own q _ _ (aR h2 hu);refine⟨_,hv,_,hu,show 2<=qb2 from by decide,fun t ht=>?_⟩;have st:=Step.new (o:=.t [.ref a,.ref b]) U.fh ht;have Z:=U.step st;refine k _ _ _ ⟨Z.fh,Z.prot,Z.old,Z.nw,fun c=>c=a∨c=b,⟨t,a,b,vs,us,rfl,SqT.of aw,.inl rfl,.inr rfl,fun e=>ne (s.dis p q a sa (e▸sb)),st.hh _ _ ha,st.hh _ _ hb,ra.same st.ff,rb.same st.ff⟩,fun c hc=>?_⟩
  have W:∀j,S j c->upd F t (.t [.ref a,.ref b]) c=ψ/\(∃o,upd H t (.t [.ref a,.ref b]) c=ς o/\NT o)/\Φ.B c:=fun j hj=>by obtain⟨h1,⟨o,h2,nt⟩,h3⟩:=s.out j c hj;exact⟨st.keepN h1 h2 nt,⟨o,st.hh _ _ h2,nt⟩,h3⟩
  rcases hc with rfl|rfl
  .exact W p sa
  .exact W q sb
def D8(i p q:Nat):De->ζ Out:=fun δ=>match δ[i]? with
 |some (ς (.two l m))=>if p≠q/\i≠p/\i≠q/\p<δ.length/\q<δ.length then ς (.nx (((δ.set i ψ).set p (ς (.e l))).set q (ς (.f (.e m)))))else ψ
 |_=>ψ
theorem pH{α:Type}{l:η (ζ α)}{j:Nat}{x y:ζ α}(h:(l.set i x)[j]?=ς y)(n:i≠j):l[j]?=ς y:=by rwa [gN n]at h
theorem D9 {k:Nat} (hc:X.calm=θ) (hx:PE X x (fT i)) (h1:PG X y (hW p)) (h2:PG X z (hW q))
  (s1:(qj9 [y,z] X.env).map (·.2)=zb4 y X.env::(qj9 [z] X.env).map (·.2):=by rfl) (s2:(qj9 [z] X.env).map (·.2)=zb4 z X.env::(qj9 [] X.env).map (·.2):=by rfl)
  (hn:(qj9 [y,z] X.env).length=2:=by rfl) (hst:(qj9 [y,z] X.env).findIdx? (·.1)=ψ:=by rfl)
  (hs:zj9 [.Tuple [y,z] k tpos] x pos.line X.env=pure ξ:=by rfl) (hw:zk0 [.Tuple [y,z] k tpos] x X.env=pure ψ:=by rfl)
  (ha:(qj9 [.Tuple [y,z] k tpos] X.env).map (·.2)=[zb4 (.Tuple [y,z] k tpos) X.env]:=by rfl):DS1 X (.Assign [.Tuple [y,z] k tpos] x pos) (D8 i p q):=
 PS.mono (vF hx (vE hc (j2 h1 (j2 h2 rK s2) s1) hn hst) hs hw ha) fun D σ H ⟨Φ,δ,F,o,hK,W,hg,k⟩=>by
  unfold D8 at hg;split at hg<;>first|(cases hg;done)|skip
  rename_i l m hi;split at hg<;>cases hg
  rename_i c;obtain⟨c1,c2,c3,c4,c5⟩:=c;obtain⟨S,s⟩:=W.sep;obtain⟨v,hv⟩:=W.has i _ hi;obtain⟨t,a,b,vs,us,rfl,ht,sa,sb,ne,ha,hb,ra,rb⟩:=s.own i _ _ (aR hi hv);refine⟨_,hv,t,_,rfl,W.fh.tup (hK▸ht),rfl,_,_,rfl,_,_,rfl,rfl,?_⟩;have hbF:=(s.out i b sb).1;have ff:Same F (upd F b (.e us)):=Same.upd hbF;refine k _ (upd F b (.e us)) H ⟨fun d u e=>?_,W.prot,W.old.trans ff,fun d u e=>?_,by simp[W.len],fun j u e=>?_,fun j d=>if j=p then d=a else(S j d/\j≠q/\j≠i),fun j u w e=>?_,fun j d e=>?_,fun j j' d U Y=>?_⟩
  .by_cases Z:d=b
   .subst Z;rw[aw]at e;exact e▸hb
   .rw[aq Z]at e;exact W.fh _ _ e
  .by_cases Z:d=b
   .subst Z;exact .inr (.inl (s.out i d sb).2.2)
   .rw[aq Z]at e;exact W.nw _ _ e
  .by_cases q1:j=q
   .subst q1;exact⟨.ref b,by simp[<- W.len,c5]⟩
   .by_cases q2:j=p
    .subst q2;exact⟨.ref a,by rw[qo0 fun z=>q1 z.symm];simp[<- W.len,c4]⟩
    .have e:=pH (pH e fun z=>q1 z.symm) fun z=>q2 z.symm
     by_cases q3:j=i
     .subst q3;rw[zc0]at e;simp at e
     .obtain⟨w,hw⟩:=W.has j u (pH e fun z=>q3 z.symm);exact⟨w,by rw[gN fun z=>q1 z.symm,gN fun z=>q2 z.symm];exact hw⟩
  .obtain⟨U,Y⟩:=cb e;by_cases q1:j=q
   .subst q1;rw[qd0 (by simp[c5])]at U;rw[qd0 (by simp[<- W.len,c5])]at Y;cases U;cases Y;show Rep _ _ (.e m) _;simp only[Rep];exact⟨b,us,rfl,SqL.of aw,rb.same ff⟩
   .by_cases q2:j=p
    .subst q2;rw[qo0 fun z=>q1 z.symm,qd0 (by simp[c4])]at U;rw[qo0 fun z=>q1 z.symm,qd0 (by simp[<- W.len,c4])]at Y;cases U;cases Y;exact⟨a,vs,rfl,Ξ,ha,ra.same ff⟩
    .have U:=pH (pH U fun z=>q1 z.symm) fun z=>q2 z.symm
     have Y:=pH (pH Y fun z=>q1 z.symm) fun z=>q2 z.symm
     by_cases q3:j=i
     .subst q3;rw[zc0]at U;simp at U
     .have:=(s.own j u w (aR (pH U fun z=>q3 z.symm) Y)).step ff fun _ _ _ z=>z
      refine this.grow fun d Z=>?_
      rw[if_neg q2];exact⟨Z,q1,q3⟩
  .by_cases q2:j=p
   .rw[if_pos q2]at e;subst e;exact⟨by rw[aq ne];exact(s.out i d sa).1,⟨_,ha,nofun⟩,(s.out i d sa).2.2⟩
   .rw[if_neg q2]at e;obtain⟨h1,h2,h3⟩:=s.out j d e.1;refine⟨?_,h2,h3⟩;rw[aq fun z=>e.2.2 (s.dis j i d e.1 (by rw[z];exact sb))];exact h1
  .split at U<;>split at Y
   .rename_i q1 q2;rw[q1,q2]
   .subst U;exact absurd (s.dis j' i d Y.1 sa) Y.2.2
   .subst Y;exact absurd (s.dis j i d U.1 sa) U.2.2
   .exact s.dis j j' d U.1 Y.1
def rg(i:Nat)(c:De->ζ Bool):De->ζ Out:=fun δ=>match δ[i]? with
 |some (ς t)=>t.z.bind fun d=>(c (δ.set i (ς (.f d)))).bind fun b=>if b then ψ else ς (.nx δ)
 |_=>ψ
theorem xM:PSs X a (fun _ _ _=>False):=fun _ _ _ _ _ _ q=>q.elim
theorem rh(hc:DT X c tc):DS1 X (.If c a [] pos) (rg i tc):=PS.mono (vD hc xM mQ) fun D σ H ⟨Φ,δ,F,o,hK,W,U,k⟩=>by
 unfold rg at U;split at U<;>first|(cases U;done)|skip
 rename_i t q;obtain⟨d,Z,U⟩:=bS U;obtain⟨b,hb,U⟩:=bS U;cases b with
 |true=>cases U
 |false=>cases U;obtain⟨F',Y⟩:=W.freeze q Z;refine⟨Φ,_,F',ξ,hK,Y,hb,fun H' F'' st=>?_⟩;exact k σ F H' (W.step ⟨st.hh,Same.refl _,W.fh.trans st.hh,fun b o e=>.inl e⟩)
def clr(ts:η Nat)(δ:De):De:=δ.mapIdx fun j x=>if j∈ts then ψ else x
noncomputable def okZ(i:Nat)(ts:η Nat)(δ:De):Bool:=decide (i∉ts)&&(qb7 δ.length).all fun j=>decide (j=i)||match δ[j]? with
 |some (ς (.f _))=>θ
 |some ψ=>θ
 |_=>ξ
def pI(bb:Dt->De->ζ De)(c:De->ζ Bool):η Dt->De->Bool
 |[],_=>θ
 |d::r,δ=>match bb d δ with
  |some δ1=>decide (c δ1=ς ξ)&&pI bb c r δ1
  |none=>ξ
def xN(i:Nat)(ts:η Nat)(fi:De->ζ (η Dt))(bb:Dt->De->ζ De)(c:De->ζ Bool):De->ζ Out:=fun δ=>match δ[i]? with
 |some (ς t)=>t.z.bind fun d=>(fi (δ.set i (ς (.f d)))).bind fun ds=>if pI bb c ds (δ.set i (ς (.f d)))&&okZ i ts δ then ς (.nx (clr ts δ))else ψ
 |_=>ψ
theorem En.lend {t:T} {d:Dt} (e:En Φ δ σ F H) (h:δ[i]?=ς (ς t)) (hd:t.z=ς d) (ok:okZ i ts δ=θ):∃ F1,En Φ (δ.set i (ς (.f d))) σ F1 H∧
  ∀W F' H',Same F1 F'->Same F' H'->(∀b o,Φ.H0 b=ς o->¬ Φ.S0 b->H' b=ς o)->W.length=σ.length->(∀j,j∉ts->W[j]?=σ[j]?)->En Φ (clr ts δ) W F H':=by
 obtain⟨F0,_⟩:=e.freeze h hd;obtain⟨S,s⟩:=e.sep;have sn:∀b,S i b->F b=ψ:=fun b z=>(s.out _ b z).1
 have ff:=il (H:=H) sn;unfold okZ at ok;simp only[qa9,decide_eq_true_eq,qk9,qd8,qj1]at ok;obtain⟨oi,ok⟩:=ok;obtain⟨v,hv⟩:=e.has i t h;have so:=s.own i t v (aR h hv);refine⟨m8 F H (S i),⟨jL e.fh,e.prot,e.old.trans ff,fun b o z=>?_,by simp[e.len],fun j u z=>?_,fun j b=>S j b/\j≠i,fun j u w z=>?_,fun j b z=>?_,fun j k b h1 h2=>s.dis _ _ b h1.1 h2.1⟩,fun W F' H' f1 f2 pr hl hσ=>?_⟩
 .by_cases U:S i b
  .exact .inr (.inl (s.out _ b U).2.2)
  .rw[de U]at z;exact e.nw b o z
 .rcases cC z with ⟨rfl,_⟩|⟨hn,z⟩
  .exact⟨_,hv⟩
  .exact e.has j u z
 .obtain⟨h1,h2⟩:=cb z;rcases cC h1 with ⟨rfl,Y⟩|⟨hn,Y⟩
  .cases Y;rw[hv]at h2;cases h2;exact so.freeze sn hd
  .refine((s.own j u w (aR Y h2)).step ff fun _ _ _ q=>q).grow fun b q=>⟨q,fun y=>hn y.symm⟩
 .obtain⟨h1,h2,h3⟩:=s.out j b z.1;refine⟨?_,h2,h3⟩;rw[de fun y=>z.2 (s.dis _ _ b z.1 y)];exact h1
 .have fh:=ff.trans (f1.trans f2)
  have get:∀j u,(clr ts δ)[j]?=ς (ς u)->j∉ts/\δ[j]?=ς (ς u):=fun j u z=>by
   unfold clr at z;rw[qx6]at z;obtain⟨x,hx,z⟩:=mS z;split at z
   .cases z
   .rename_i q;exact⟨q,by rw[hx,z]⟩
  have hi:∀b o,S i b->H b=ς o->H' b=ς o:=fun b o sb U=>(f1.trans f2) b o (by rw[fj sb];exact U)
  refine⟨fh,pr,e.old,e.nw,by simp[clr,hl,e.len],fun j u z=>?_,fun j b=>S j b/\j=i,fun j u w z=>?_,fun j b z=>?_,fun j k b h1 h2=>h1.2.trans h2.2.symm⟩
  .obtain⟨Y,Z⟩:=get j u z;rw[hσ j Y];exact e.has j u Z
  .obtain⟨h1,h2⟩:=cb z;obtain⟨Y,Z⟩:=get j u h1;rw[hσ j Y]at h2;have o:=s.own j u w (aR Z h2);by_cases q:j=i
   .subst q;exact(o.step (Same.refl _) hi).grow fun b U=>⟨U,rfl⟩
   .have:=(ok j (gX Z).1).resolve_left q;rw[Z]at this;cases u with
    |f d=>exact o
    |_=>cases this
  .obtain⟨U,rfl⟩:=z;obtain⟨h1,⟨o,h2,nt⟩,h3⟩:=s.out j b U;exact⟨h1,⟨o,hi b o U h2,nt⟩,h3⟩
def tIf0(K:xA9)(c:De->ζ Bool):TS:=fun D σ H=>∃ Φ δ F,Fm.K Φ=K/\En Φ δ σ F H/\c δ=ς ξ/\∀F' H',Step F H F' H'->D.nx σ H'
theorem Ea(W:DT X c tc):PS X (.If c a [] pos) (tIf0 X.K tc):=PS.mono (vD W xM mQ) fun D σ H ⟨Φ,δ,F,Y,U,Z,k⟩=>⟨Φ,δ,F,ξ,Y,U,Z,fun H' F' st=>k F' H' st⟩
theorem Ay{fi:De->ζ (η Dt)}{bb:Dt->De->ζ De}(hp:zk1 (model X.prog X.w) X.A X.env X.xe)(hcm:X.calm=θ)(hi:DIF X tg iter fi)(hg:DG X tg ts bb)(hc:DT X c tc)
 (hs:∀x,qi6 iter X.env x=pure x:=by intro _;rfl):DS1 X (.For tg iter [.If c a [] pos2] [] pos) (xN i ts fi bb tc):=PS.mono (vI hp hcm hi hg (rH (Ea hc)) hs) fun D σ H ⟨Φ,δ,F,o,hK,en,hg,k⟩=>by
 unfold xN at hg;split at hg<;>first|(cases hg;done)|skip
 rename_i t q;obtain⟨d,hd,hg⟩:=bS hg;obtain⟨ds,hds,hg⟩:=bS hg;split at hg
 case isFalse=>cases hg
 rename_i z;cases hg;simp only[qa9]at z;obtain⟨F1,en1,back⟩:=en.lend q hd z.2;rw[si];refine⟨Φ,_,F1,ds,hK,en1,hds,fun J ok H1 F2 st1 wd ho=>?_⟩;have en2:=en1.step st1;refine oO (n:=ds.length) (fun i W H'=>∃Z F',En (Φ.at F2) Z W F' H'/\pI bb tc (ds.drop i) Z=θ/\W.length=σ.length/\∀j,j∉ts->W[j]?=σ[j]?) ⟨_,F2,en2.at,by simpa using z.1,rfl,fun _ _=>rfl⟩ (fun i W H' ⟨Z,F',U,_⟩=>?_) ?_ ?_
 .obtain⟨p1,p2,_⟩:=wd i H' F' (ho H' (U.old.trans U.fh)) U.fh U.old;exact⟨p1,p2⟩
 .rintro i x W H' H'' hi ⟨Z,F',U,Y,hl,hσ⟩ hy;obtain⟨_,_,p3⟩:=wd i H' F' (ho H' (U.old.trans U.fh)) U.fh U.old;obtain⟨d,F3,hd',st2,rd⟩:=p3 x H'' hi hy;rw[ng hd']at Y;unfold pI at Y;split at Y
  .rename_i δ1 h1;simp only[qa9,decide_eq_true_eq]at Y;refine⟨Φ.at F2,Z,F3,d,δ1,hK,U.step st2,rd,h1,fun σ1 l1 k1 en1=>⟨Φ.at F2,δ1,F3,hK,en1,Y.1,fun F4 H4 st4=>⟨δ1,F4,en1.step st4,Y.2,l1.trans hl,fun j hj=>(k1 j hj).trans (hσ j hj)⟩⟩⟩
  .cases Y
 .rintro W H' ⟨Z,F',U,_,hl,hσ⟩;exact k W F H' (back W F' H' (st1.ff.trans U.old) U.fh U.prot hl hσ)
end
seal L2.PE L2.PS L2.PSs L2.PT L2.PW L2.PA L2.PI L2.PG L2.PTs L2.PO L2.PGs L2.cz L2.OpR L2.IxR L2.SlR L2.MtR L2.UnR L2.DO L2.DL L2.DB L2.DT L2.DW L2.DS L2.DS1 L2.R2D L2.CRD L2.MRD L2.DG L2.DGs L2.DIF L2.DIB L2.DTs L2.DP
theorem el1{α:Type}{p:η α->Prop}(h:∀a,p [a]):∀us:η α,us.length=1->p us
 |[a],_=>h a
theorem el2{α:Type}{p:η α->Prop}(h:∀a b,p [a,b]):∀us:η α,us.length=2->p us
 |[a,b],_=>h a b
theorem el3{α:Type}{p:η α->Prop}(h:∀a b c,p [a,b,c]):∀us:η α,us.length=3->p us
 |[a,b,c],_=>h a b c
theorem el4{α:Type}{p:η α->Prop}(h:∀a b c d,p [a,b,c,d]):∀us:η α,us.length=4->p us
 |[a,b,c,d],_=>h a b c d
theorem el5{α:Type}{p:η α->Prop}(h:∀a b c d e,p [a,b,c,d,e]):∀us:η α,us.length=5->p us
 |[a,b,c,d,e],_=>h a b c d e
end L2
namespace P55
open PySem L2
noncomputable def top(i:Nat):Jb:=PySem.Challenge.pw_dimhouse_k55_whole_fewest.main.body.getD i (.Pass ⟨0,0,0,0⟩)
noncomputable section
def k_A:η Key:=[.inr "copy",.inr "op",.inr "store",.inr "take",.inr "lay",.inr "say",.inr "if",.inr "end"]
def eI:η Dt:=[(.t [(.int 2),(.int 3)]),(.t [(.int 3),(.int 5)]),(.t [(.int 2),(.int 3)]),(.t [(.int 3),(.int 4)]),(.t [(.int 2),(.int 4)]),(.t [(.int 1),(.int 2)]),(.t [(.int 1),(.int 2)]),(.t [(.int 1),(.int 2)])]
def c7:Dt:=(.str "fresh")
def nJ:Dt:=(.str "safe")
def kX:Dt:=(.str "seen")
def mH:Dt:=(.t [(.str "copy"),(.str "op"),(.str "load"),(.str "take"),(.str "hear")])
def gl:Dt:=(.str "spoilt")
def q5:η Dt->ζ T:=bC 2 ((ai (sIf (tB2 (fV fun i j=>decide (i<j)) (vB 1) (toD (ag be (aa (vB 0) ae)))) (aZ (d2 ah (vB 0) (vB 1))) bc) (aZ (toT (kD (.int 0))))))
def q40:De->ζ Dt:=(toD (aG (aa (vL 0) (aa (toD (ag cU (aa (toD (d2 ah (vB 1) (vB 0))) ae))) ae))))
def z19:η Dt->ζ T:=bC 2 ((aZ (aG (aa (toD (ag cU (aa (toD (d2 ah (vB 0) (kD (.int 0)))) ae))) (aa (toD (ag cU (aa (toD (aH [ψ,ς 0] (fIt (vB 1)) (ak 0) bi q40)) ae))) ae)))))
def z43:De->ζ Out:=(ai (z9 2 (toD (d2 ce (vB 0) (vB 3)))) (al 0 (toT (toD (d2 jq (vB 0) (vB 3))))))
def q12:η Dt->ζ T:=bC 4 ((ai (al 2 (aU ae))
  (ai (cE (fIt (vL 1)) (ak 3) z43)
  (fM 2))))
def y25:η Dt->ζ T:=bC 13 ((ai (al 5 (toT (toD (d2 aI (toD (ag be (aa (vB 4) ae))) (kD (.int 1))))))
  (ai (al 6 (toT (toD (ag q12 (aa (vL 0) (aa (toD (aU (aa (kD (.int 12)) (aa (toD (ag be (aa (vB 4) ae))) (aa (vL 5) (aa (toD (d2 ko (kD (.int 2)) (kD (.int 40)))) (aa (vL 5) (aa (toD (d2 ko (kD (.int 2)) (kD (.int 40)))) (aa (kD (.int 8)) (aa (kD (.int 24)) (aa (vL 1) ae))))))))))) ae))))))
  (ai (al 7 (toT (toD (d2 ah (toD (d2 aI (vB 4) (toD (aU (aa (toD (d2 ah (vB 6) (kD (.int 3)))) ae))))) (toD (d2 ah (vB 6) (kD (.int 2))))))))
  (ai (al 8 (toT (toD (d2 ah (toD (d2 aI (vB 4) (toD (aU (aa (toD (d2 ah (vB 6) (kD (.int 5)))) ae))))) (toD (d2 ah (vB 6) (kD (.int 4))))))))
  (ai (al 9 (toT (toD (d2 ah (vB 4) (toD (d2 ah (vB 6) (kD (.int 1))))))))
  (ai (al 10 (toT (toD (d2 ah (vB 2) (toD (d2 ce (toD (d2 ah (vB 6) (kD (.int 7)))) (toD (ag be (aa (vB 2) ae)))))))))
  (ai (al 11 (aU (aa (toD (aG (aa (kD (.str "copy")) (aa (vL 9) (aa (vL 7) ae))))) (aa (toD (aG (aa (kD (.str "op")) (aa (vL 9) (aa (toD (d2 ah (kD (.str "+-*<=&|^")) (toD (d2 ah (vB 6) (kD (.int 6)))))) (aa (vL 7) (aa (vL 8) ae))))))) (aa (toD (aG (aa (kD (.str "load")) (aa (vL 9) (aa (vL 10) ae))))) (aa (toD (aG (aa (kD (.str "store")) (aa (vL 10) (aa (vL 7) ae))))) ae))))))
  (ai (al 11 (d2 aI (vB 11) (toD (aU (aa (toD (aG (aa (kD (.str "load")) (aa (vL 9) (aa (vL 10) ae))))) (aa (toD (aG (aa (kD (.str "store")) (aa (vL 10) (aa (vL 8) ae))))) (aa (toD (aG (aa (kD (.str "hear")) (aa (vL 9) ae)))) (aa (toD (aG (aa (kD (.str "say")) (aa (vL 7) ae)))) ae))))))))
  (ai (al 11 (d2 aI (vB 11) (toD (aU (aa (toD (aG (aa (kD (.str "if")) (aa (vL 7) (aa (toD (d2 ah (vB 6) (kD (.int 8)))) ae))))) (aa (toD (aG (aa (kD (.str "go")) (aa (toD (d2 ah (vB 6) (kD (.int 8)))) ae)))) (aa (toD (aG (aa (kD (.str "end")) (aa (vL 7) ae)))) (aa (toD (d2 ah (vB 11) (kD (.int 1)))) ae))))))))
  (ai (sIf (tB2 (fV fun i j=>decide (j<i)) (toD (ag be (aa (vB 3) ae))) (kD (.int 0))) (ai (al 12 (toT (toD (d2 ah (vB 3) (toD (d2 ce (toD (d2 ah (vB 6) (kD (.int 7)))) (toD (ag be (aa (vB 3) ae)))))))))
  (ai (np 11 (kD (.int 4)) (toD (aG (aa (kD (.str "take")) (aa (vL 9) (aa (vL 12) (aa (vL 7) ae)))))))
  (np 11 (kD (.int 5)) (toD (aG (aa (kD (.str "lay")) (aa (vL 12) (aa (vL 7) (aa (vL 8) ae))))))))) bc)
  (aZ (d2 ah (vB 11) (toD (d2 ah (vB 6) (kD (.int 0)))))))))))))))))
def z65:De->ζ Out:=(ai (al 9 (toT (toD (d2 ah (kD (.str "abcdefghijklmnopqrstuvwxyz")) (toD (d2 ce (toD (d2 aI (toD (d2 ah (vB 3) (kD (.int 2)))) (vB 8))) (kD (.int 26)))))))) (z9 7 (toD (d2 aI (toD (d2 aI (toD (d2 pC (vB 6) (vB 5))) (vB 9))) (toD (d2 pC (vB 6) (toD (d2 eU (toD (d2 eU (vB 4) (kD (.int 1)))) (vB 5)))))))))
def z18:η Dt->ζ T:=bC 10 ((ai (al 2 (toT (toD (d2 ce (toD (d2 jD (vB 0) (kD (.int 48271)))) (kD (.int 1000000007))))))
  (ai (al 3 (toT (toD (ag q12 (aa (vL 2) (aa (toD (aU (aa (kD (.int 6)) (aa (kD (.int 6)) (aa (kD (.int 26)) (aa (kD (.int 5)) ae)))))) ae))))))
  (ai (al 4 (toT (toD (d2 aI (kD (.int 1)) (toD (d2 ah (vB 3) (kD (.int 0))))))))
  (ai (al 5 (toT (toD (d2 ce (toD (d2 ah (vB 3) (kD (.int 1)))) (vB 4)))))
  (ai (al 6 (toT (toD (d2 ah (kD (.str "qxzjw")) (toD (d2 ah (vB 3) (kD (.int 3))))))))
  (ai (al 7 (aU ae))
  (ai (cE (bQ eh (aa (vL 1) ae)) (ak 8) z65)
  (fM 7)))))))))
def z27:De->ζ Dt:=(toD (aG (aa (toD (d2 ah (vB 2) (vB 0))) (aa (toD (d2 ah (vB 3) (vB 0))) (aa (toD (d2 (gEq ξ) (toD (d2 ah (vB 1) (toD (d2 aI (kD (.int 3)) (vB 0))))) (kD (.int 1)))) ae)))))
def q28:De->ζ Dt:=(toD (aG (aa (toD (d2 ah (vB 2) (toD (d2 aI (kD (.int 8)) (vB 0))))) (aa (toD (d2 aI (kD (.int 1)) (toD (d2 ah (vB 1) (toD (d2 aI (kD (.int 15)) (vB 0))))))) (aa (toD (d2 (gEq ξ) (toD (d2 ah (vB 1) (toD (d2 aI (kD (.int 11)) (vB 0))))) (kD (.int 1)))) ae)))))
def y62:De->ζ Dt:=(toD (d2 ah (vB 0) (kD (.int 0))))
def q64:De->ζ Dt:=(toD (d2 ah (vB 0) (kD (.int 0))))
def z37:De->ζ Out:=(ai (al 11 (toT (toD (aU (aa (toD (aH [ψ] (fIt (vB 6)) (ak 0) bi q64)) (aa (toD (aH [ψ] (fIt (vB 7)) (ak 0) bi y62)) ae)))))) (z9 9 (toD (ag y25 (aa (vL 10) (aa (toD (d2 aI (toD (ag be (aa (vB 8) ae))) (kD (.int 1)))) (aa (toD (d2 ah (vB 11) (kD (.int 0)))) (aa (toD (d2 ah (vB 11) (kD (.int 1)))) (aa (vL 4) ae)))))))))
def q17:η Dt->ζ T:=bC 13 ((ai (al 2 (toT (toD (ag q12 (aa (toD (d2 jq (toD (ag q5 (aa (vL 0) (aa (kD (.int 0)) ae)))) (kD (.int 2)))) (aa (toD (d2 aI (toD (d2 aI (toD (aU (aa (kD (.int 8)) (aa (kD (.int 5)) (aa (kD (.int 12)) ae))))) (toD (d2 pG (toD (aU (aa (kD (.int 2)) ae))) (kD (.int 12)))))) (toD (d2 pG (toD (aU (aa (kD (.int 8)) ae))) (kD (.int 4)))))) ae))))))
  (ai (al 3 (toT (toD (ag z18 (aa (toD (ag q5 (aa (vL 0) (aa (kD (.int 1)) ae)))) (aa (kD (.int 12)) ae))))))
  (ai (al 4 (toT (toD (ag z18 (aa (toD (ag q5 (aa (vL 0) (aa (kD (.int 2)) ae)))) (aa (toD (d2 aI (kD (.int 1)) (toD (d2 ah (vB 2) (kD (.int 2)))))) ae))))))
  (ai (al 5 (toT (toD (ag q12 (aa (toD (ag q5 (aa (vL 0) (aa (kD (.int 3)) ae)))) (aa (toD (d2 aI (toD (d2 pG (toD (aU (aa (toD (d2 ko (kD (.int 2)) (kD (.int 40)))) ae))) (kD (.int 9)))) (toD (aU (aa (kD (.int 2)) (aa (kD (.int 60)) (aa (toD (d2 aI (toD (ag be (aa (vB 4) ae))) (kD (.int 1)))) ae))))))) ae))))))
  (ai (al 6 (toT (toD (ag cU (aa (toD (aH [ψ,ς 2,ς 3,ς 5] (bQ eh (aa (toD (d2 aI (kD (.int 1)) (toD (d2 ah (vB 2) (kD (.int 0)))))) ae)) (ak 0) bi z27)) ae)))))
  (ai (al 7 (toT (toD (ag cU (aa (toD (aH [ψ,ς 2,ς 3] (bQ eh (aa (toD (d2 ah (vB 2) (kD (.int 1)))) ae)) (ak 0) bi q28)) ae)))))
  (ai (al 8 (toT (toD (vSl (vB 0) (fO (kD (.int 4))) (fO (toD (d2 aI (kD (.int 4)) (vB 1))))))))
  (ai (al 9 (aU ae))
  (ai (cE (fIt (vL 8)) (ak 10) z37)
  (ai (al 12 (toT (toD (aG (aa (kD (.str "end")) (aa (toD (d2 ah (toD (d2 aI (vB 4) (toD (aU (aa (toD (d2 ah (vB 5) (kD (.int 8)))) ae))))) (toD (d2 ah (vB 5) (kD (.int 11)))))) ae))))))
  (ai (sIf (tB2 (gEq ξ) (toD (d2 ah (vB 5) (kD (.int 9)))) (kD (.int 1))) (al 12 (toT (toD (aG (aa (kD (.str "go")) (aa (toD (d2 ce (toD (d2 ah (vB 5) (kD (.int 10)))) (toD (d2 aI (toD (ag be (aa (vB 8) ae))) (kD (.int 1)))))) ae)))))) bc)
  (aZ (aG (aa (vL 6) (aa (vL 7) (aa (toD (ag cU (aa (toD (d2 aI (vB 9) (toD (aU (aa (vL 12) ae))))) ae))) ae)))))))))))))))))
def q26:De->ζ Out:=(ai (al 7 (toT (toD (d2 ah (toD (d2 ah (vB 0) (kD (.int 2)))) (toD (d2 eU (vB 6) (kD (.int 1))))))))
  (ai (sIf (cR (tB2 (bF ξ) (toD (d2 ah (vB 7) (kD (.int 0)))) (toD (aG (aa (kD (.str "load")) (aa (kD (.str "take")) ae))))) (cR (tB2 (bF ξ) (toD (d2 ah (vB 7) (kD (.int 2)))) (vB 1)) (tB2 (bF θ) (toD (d2 ah (vB 7) (kD (.int 2)))) (vB 4)))) (z9 3 (toD (d2 ah (vB 7) (kD (.int 2))))) bc)
  (ai (sIf (cR (tB2 (bF ξ) (toD (d2 ah (vB 7) (kD (.int 0)))) (toD (aG (aa (kD (.str "store")) (aa (kD (.str "lay")) ae))))) (tB2 (bF ξ) (toD (d2 ah (vB 7) (kD (.int 1)))) (vB 3))) Dl bc)
  (ai (sIf (tB2 (gEq ξ) (toD (d2 ah (vB 7) (kD (.int 0)))) (kD (.str "store"))) (z9 4 (toD (d2 ah (vB 7) (kD (.int 1))))) bc)
  (z9 5 (vL 6))))))
def q30:η Dt->ζ T:=bC 8 ((ai (al 3 (aU ae))
  (ai (al 4 (aU ae))
  (ai (al 5 (aU ae))
  (ai (cE (bQ lA (aa (toD (d2 aI (vB 2) (kD (.int 1)))) (aa (toD (ag be (aa (toD (d2 ah (vB 0) (kD (.int 2)))) ae))) ae))) (ak 6) q26)
  (fM 5))))))
def z29:De->ζ Bool:=(tB2 (bF ξ) (vB 3) (toD (d2 ah (vB 2) (vB 0))))
def y28:De->ζ Dt:=(toD (d2 aI (toD (d2 ah (vB 1) (vB 0))) (kD (.int 1))))
def y21:De->ζ Out:=(ai (al 3 (toT (toD (aH [ψ,ς 0,ς 1,ς 2] (bQ eh (aa (vL 2) ae)) (ak 0) z29 y28)))) (sIf (fOr (tB2 (bF θ) (toD (d2 ah (vB 0) (vB 2))) (vB 3)) (tB2 (fV fun i j=>decide (i<j)) (toD (ag sP (aa (vB 3) ae))) (toD (d2 ah (vB 0) (vB 2))))) du bc))
def q19:η Dt->ζ T:=bC 4 ((ai (cE (bQ lA (aa (kD (.int 1)) (aa (toD (ag be (aa (vB 0) ae))) ae))) (ak 2) y21) (aZ (d2 (gEq ξ) (toD (d2 ah (vB 0) (kD (.int 0)))) (kD (.int 0))))))
def y23:η Dt->ζ T:=bC 3 ((ai (sIf (tB2 (fV fun i j=>decide (i<j)) (vB 0) (toD (ag be (aa (vB 2) ae)))) (aZ (d2 ah (vB 2) (vB 0))) bc)
  (ai (sIf (tB2 (gEq ξ) (toD (d2 ce (vB 1) (kD (.int 3)))) (kD (.int 0))) (aZ (d2 ce (toD (d2 jq (vB 1) (kD (.int 3)))) (kD (.int 4)))) bc)
  (aZ (d2 ce (toD (d2 jD (vB 1) (kD (.int 69621)))) (toD (d2 ko (kD (.int 2)) (kD (.int 40)))))))))
def z44:η Dt->ζ T:=bC 14 ((ai (al 5 (toT (toD (d2 ce (toD (d2 jD (vB 0) (kD (.int 48271)))) (kD (.int 1000000007))))))
  (ai (al 6 (toT (toD (ag q12 (aa (vL 5) (aa (toD (aU (aa (kD (.int 16)) (aa (toD (ag be (aa (vB 4) ae))) (aa (toD (d2 aI (toD (ag be (aa (vB 4) ae))) (kD (.int 2)))) (aa (toD (d2 aI (toD (ag be (aa (vB 4) ae))) (kD (.int 2)))) (aa (kD (.int 9)) (aa (kD (.int 12)) (aa (vL 1) ae))))))))) ae))))))
  (ai (al 7 (toT (toD (ag y23 (aa (toD (d2 ah (vB 6) (kD (.int 2)))) (aa (vL 0) (aa (vL 4) ae)))))))
  (ai (al 8 (toT (toD (ag y23 (aa (toD (d2 ah (vB 6) (kD (.int 3)))) (aa (toD (d2 jq (vB 0) (kD (.int 5)))) (aa (vL 4) ae)))))))
  (ai (al 9 (toT (toD (d2 ah (vB 4) (toD (d2 ah (vB 6) (kD (.int 1))))))))
  (ai (al 10 (toT (toD (d2 ah (vB 2) (toD (d2 ce (toD (d2 ah (vB 6) (kD (.int 5)))) (toD (ag be (aa (vB 2) ae)))))))))
  (ai (al 11 (toT (toD (d2 ah (vB 6) (kD (.int 0))))))
  (ai (sIf (cR (tB2 (bF ξ) (vB 11) (toD (aG (aa (kD (.int 7)) (aa (kD (.int 8)) ae))))) (tB2 (fV fun i j=>decide (j<i)) (toD (ag be (aa (vB 3) ae))) (kD (.int 0)))) (ai (al 12 (toT (toD (d2 ah (vB 3) (toD (d2 ce (toD (d2 ah (vB 6) (kD (.int 5)))) (toD (ag be (aa (vB 3) ae)))))))))
  (aZ (d2 ah (toD (aU (aa (toD (aG (aa (kD (.str "take")) (aa (vL 9) (aa (vL 12) (aa (vL 7) ae)))))) (aa (toD (aG (aa (kD (.str "lay")) (aa (vL 12) (aa (vL 7) (aa (vL 8) ae)))))) ae)))) (toD (d2 eU (vB 11) (kD (.int 7))))))) bc)
  (ai (sIf (tB2 (bF ξ) (vB 11) (toD (aG (aa (kD (.int 3)) (aa (kD (.int 4)) (aa (kD (.int 7)) ae)))))) (aZ (aG (aa (kD (.str "load")) (aa (vL 9) (aa (vL 10) ae))))) bc)
  (ai (sIf (tB2 (bF ξ) (vB 11) (toD (aG (aa (kD (.int 5)) (aa (kD (.int 6)) (aa (kD (.int 8)) ae)))))) (aZ (aG (aa (kD (.str "store")) (aa (vL 10) (aa (vL 7) ae))))) bc)
  (ai (sIf (cR (tB2 (fV fun i j=>decide (j<i)) (vB 11) (kD (.int 8))) (tB2 (fV fun i j=>decide (i<j)) (vB 11) (kD (.int 15)))) (ai (al 13 (toT (toD (aU (aa (toD (aG (aa (kD (.str "hear")) (aa (vL 9) ae)))) (aa (toD (aG (aa (kD (.str "say")) (aa (vL 7) ae)))) (aa (toD (aG (aa (kD (.str "if")) (aa (vL 7) (aa (toD (d2 ah (vB 6) (kD (.int 6)))) ae))))) (aa (toD (aG (aa (kD (.str "if")) (aa (vL 7) (aa (toD (d2 ah (vB 6) (kD (.int 6)))) ae))))) (aa (toD (aG (aa (kD (.str "go")) (aa (toD (d2 ah (vB 6) (kD (.int 6)))) ae)))) ae)))))))))
  (aZ (d2 ah (toD (d2 aI (vB 13) (toD (aU (aa (toD (aG (aa (kD (.str "end")) (aa (vL 7) ae)))) ae))))) (toD (d2 eU (vB 11) (kD (.int 9))))))) bc)
  (ai (sIf (tB2 (gEq ξ) (vB 11) (kD (.int 0))) (aZ (aG (aa (kD (.str "copy")) (aa (vL 9) (aa (vL 7) ae))))) bc)
  (aZ (aG (aa (kD (.str "op")) (aa (vL 9) (aa (toD (d2 ah (kD (.str "+-*<=&|^+")) (toD (d2 ah (vB 6) (kD (.int 4)))))) (aa (vL 7) (aa (vL 8) ae))))))))))))))))))))
def z58:De->ζ Out:=(z9 9 (toD (aG (aa (toD (d2 ah (vB 5) (vB 10))) (aa (toD (d2 ce (toD (d2 jD (toD (d2 aI (vB 8) (vB 10))) (kD (.int 982451653)))) (toD (d2 ko (kD (.int 2)) (kD (.int 40)))))) (aa (toD (d2 (gEq ξ) (toD (d2 ah (vB 4) (toD (d2 aI (kD (.int 3)) (toD (d2 ce (vB 10) (kD (.int 6)))))))) (kD (.int 1)))) ae))))))
def q59:De->ζ Out:=(z9 11 (toD (aG (aa (toD (d2 ah (vB 5) (toD (d2 aI (kD (.int 8)) (vB 10))))) (aa (toD (d2 aI (kD (.int 1)) (toD (d2 ah (vB 4) (toD (d2 aI (kD (.int 9)) (toD (d2 ce (vB 10) (kD (.int 2)))))))))) (aa (toD (d2 (gEq ξ) (toD (d2 ah (vB 4) (toD (d2 eU (kD (.int 7)) (vB 10))))) (kD (.int 1)))) ae))))))
def y79:De->ζ Dt:=(toD (d2 ah (vB 0) (kD (.int 0))))
def z78:De->ζ Dt:=(toD (d2 ah (vB 0) (kD (.int 0))))
def y56:De->ζ Out:=(z9 12 (toD (ag z44 (aa (vL 14) (aa (toD (d2 aI (toD (ag be (aa (vB 13) ae))) (kD (.int 1)))) (aa (toD (aH [ψ] (fIt (vB 9)) (ak 0) bi z78)) (aa (toD (aH [ψ] (fIt (vB 11)) (ak 0) bi y79)) (aa (vL 7) ae))))))))
def z24:η Dt->ζ T:=bC 15 ((ai (al 3 (toT (toD (d2 ce (toD (d2 jD (toD (ag q5 (aa (vL 0) (aa (kD (.int 0)) ae)))) (kD (.int 69621)))) (kD (.int 1000000007))))))
  (ai (al 4 (toT (toD (ag q12 (aa (vL 3) (aa (toD (aU (aa (kD (.int 4)) (aa (kD (.int 3)) (aa (kD (.int 4)) (aa (kD (.int 2)) (aa (kD (.int 2)) (aa (kD (.int 2)) (aa (kD (.int 2)) (aa (kD (.int 2)) (aa (kD (.int 2)) (aa (kD (.int 8)) (aa (kD (.int 8)) (aa (kD (.int 4)) ae)))))))))))))) ae))))))
  (ai (al 5 (toT (toD (ag z18 (aa (toD (ag q5 (aa (vL 0) (aa (kD (.int 1)) ae)))) (aa (kD (.int 12)) ae))))))
  (ai (al 6 (toT (toD (aU (aa (toD (d2 aI (kD (.int 1)) (toD (d2 ah (vB 4) (kD (.int 0)))))) (aa (toD (d2 ah (vB 4) (kD (.int 1)))) (aa (toD (d2 aI (kD (.int 2)) (toD (d2 ah (vB 4) (kD (.int 2)))))) ae)))))))
  (ai (sIf (cR (dZ (vB 2)) (tB2 (gEq ξ) (toD (d2 ah (vB 4) (kD (.int 11)))) (kD (.int 1)))) (al 6 (toT (toD (aU (aa (kD (.int 8)) (aa (kD (.int 4)) (aa (kD (.int 12)) ae))))))) bc)
  (ai (al 7 (toT (toD (ag z18 (aa (toD (ag q5 (aa (vL 0) (aa (kD (.int 2)) ae)))) (aa (toD (d2 ah (vB 6) (kD (.int 2)))) ae))))))
  (ai (al 8 (toT (toD (ag q5 (aa (vL 0) (aa (kD (.int 3)) ae))))))
  (ai (al 9 (aU ae))
  (ai (cE (bQ eh (aa (toD (d2 ah (vB 6) (kD (.int 0)))) ae)) (ak 10) z58)
  (ai (al 11 (aU ae))
  (ai (cE (bQ eh (aa (toD (d2 ah (vB 6) (kD (.int 1)))) ae)) (ak 10) q59)
  (ai (al 12 (aU ae))
  (ai (al 13 (toT (toD (vSl (vB 0) (fO (kD (.int 4))) (fO (toD (d2 aI (kD (.int 4)) (vB 1))))))))
  (ai (cE (fIt (vL 13)) (ak 14) y56)
  (ai (z9 12 (toD (aG (aa (kD (.str "end")) (aa (toD (ag y23 (aa (toD (d2 ce (vB 3) (toD (d2 aI (toD (ag be (aa (vB 7) ae))) (kD (.int 1)))))) (aa (vL 8) (aa (vL 7) ae))))) ae)))))
  (aZ (aG (aa (toD (ag cU (aa (vB 9) ae))) (aa (toD (ag cU (aa (vB 11) ae))) (aa (toD (ag cU (aa (vB 12) ae))) ae)))))))))))))))))))))
def z28:De->ζ Out:=(ai (sIf (tB2 (gEq ξ) (toD (d2 ah (vB 2) (kD (.int 0)))) (kD (.str "go"))) (al 2 (toT (toD (aG (aa (kD (.str "store")) (aa (toD (d2 ah (toD (d2 ah (toD (d2 ah (vB 0) (kD (.int 0)))) (toD (d2 ce (toD (d2 ah (vB 2) (kD (.int 1)))) (toD (ag be (aa (toD (d2 ah (vB 0) (kD (.int 0)))) ae))))))) (kD (.int 0)))) (aa (toD (d2 ah (vB 2) (kD (.int 1)))) ae))))))) (sIf (tB2 (gEq ξ) (toD (d2 ah (vB 2) (kD (.int 0)))) (kD (.str "if"))) (al 2 (toT (toD (aG (aa (kD (.str "store")) (aa (toD (d2 ah (toD (d2 ah (toD (d2 ah (vB 0) (kD (.int 0)))) (toD (d2 ce (toD (d2 ah (vB 2) (kD (.int 2)))) (toD (ag be (aa (toD (d2 ah (vB 0) (kD (.int 0)))) ae))))))) (kD (.int 0)))) (aa (toD (d2 ah (vB 2) (kD (.int 1)))) ae))))))) (sIf (tB2 (gEq ξ) (toD (d2 ah (vB 2) (kD (.int 0)))) (kD (.str "end"))) (al 2 (toT (toD (aG (aa (kD (.str "say")) (aa (toD (d2 ah (vB 2) (kD (.int 1)))) ae)))))) bc))) (z9 1 (vL 2)))
def z16:η Dt->ζ T:=bC 3 ((ai (al 1 (aU ae))
  (ai (cE (fIt (toD (vSl (toD (d2 ah (vB 0) (kD (.int 2)))) oV (fO (toD (jE (kD (.int 1)))))))) (ak 2) z28)
  (aZ (aG (aa (toD (d2 ah (vB 0) (kD (.int 0)))) (aa (toD (d2 ah (vB 0) (kD (.int 1)))) (aa (toD (ag cU (aa (toD (d2 aI (vB 1) (toD (aU (aa (toD (aG (aa (kD (.str "end")) (aa (toD (d2 ah (toD (d2 ah (toD (d2 ah (vB 0) (kD (.int 2)))) (toD (jE (kD (.int 1)))))) (kD (.int 1)))) ae)))) ae))))) ae))) ae))))))))
def y18:η Dt->ζ T:=bC 3 ((ai (sIf (cR (tB2 (gEq ξ) (vB 0) (kD c7)) (cR (tB2 (bF ξ) (toD (d2 ah (vB 1) (kD (.int 0)))) (toD (aG (aa (kD (.str "load")) (aa (kD (.str "take")) ae))))) (tB2 (gEq ξ) (toD (d2 ah (vB 1) (kD (.int 2)))) (vB 2)))) (aZ (toT (kD kX))) bc)
  (ai (sIf (cR (tB2 (gEq ξ) (vB 0) (kD c7)) (cR (tB2 (gEq ξ) (toD (d2 ah (vB 1) (kD (.int 0)))) (kD (.str "store"))) (tB2 (gEq ξ) (toD (d2 ah (vB 1) (kD (.int 1)))) (vB 2)))) (aZ (toT (kD nJ))) bc)
  (ai (sIf (cR (tB2 (gEq ξ) (vB 0) (kD kX)) (cR (tB2 (bF ξ) (toD (d2 ah (vB 1) (kD (.int 0)))) (toD (aG (aa (kD (.str "store")) (aa (kD (.str "lay")) ae))))) (tB2 (gEq ξ) (toD (d2 ah (vB 1) (kD (.int 1)))) (vB 2)))) (aZ (toT (kD gl))) bc)
  (fM 0)))))
def z61:De->ζ Bool:=(lx (dZ (toD (d2 ah (vB 0) (kD (.int 2))))))
def q60:De->ζ Dt:=(toD (d2 ah (vB 0) (kD (.int 0))))
def y15:η Dt->ζ T:=bC 1 ((aZ (aH [ψ] (fIt (toD (d2 pB (toD (d2 ah (vB 0) (kD (.int 0)))) (toD (d2 ah (vB 0) (kD (.int 1))))))) (ak 0) z61 q60)))
def q90:De->ζ Dt:=(toD (aG (aa (vL 0) (aa (kD c7) ae))))
def q51:De->ζ Out:=(ai (np 3 (vB 5) (toD (ag y18 (aa (toD (d2 ah (vB 3) (vB 5))) (aa (toD (d2 ah (vB 2) (vB 4))) (aa (vL 5) ae)))))) (sIf (tB2 (gEq ξ) (toD (d2 ah (vB 3) (vB 5))) (kD gl)) (fM 4) bc))
def z51:De->ζ Out:=(cE (fIt (toD (ag gT (aa (vB 3) ae)))) (ak 5) q51)
def z64:η Dt->ζ T:=bC 6 ((ai (al 2 (toT (toD (d2 ah (vB 0) (kD (.int 2))))))
  (ai (al 3 (ag xH (aa (toD (aH [ψ] (fIt (toD (ag y15 (aa (vL 0) ae)))) (ak 0) bi q90)) ae)))
  (ai (cE (bQ lA (aa (vL 1) (aa (toD (ag be (aa (vB 2) ae))) ae))) (ak 4) z51)
  (aZ (d2 eU (toD (ag be (aa (vB 2) ae))) (kD (.int 1))))))))
def q83:De->ζ Dt:=(toD (ag z64 (aa (vL 1) (aa (vL 0) ae))))
def z68:De->ζ Bool:=(tB2 (fV fun i j=>decide (j<=i)) (toD (d2 ah (vB 1) (vB 0))) (vB 3))
def z53:De->ζ Dt:=(toD (aG (aa (toD (d2 ah (vB 2) (vB 0))) (aa (vL 0) ae))))
def q53:De->ζ Out:=(ai (al 6 (toT (toD (ag sO (aa (toD (aH [ψ,ς 2,ς 3,ς 5] (bQ eh (aa (vL 5) ae)) (ak 0) z68 z53)) ae)))))
  (ai (z9 3 (toD (d2 aI (toD (d2 ah (vB 6) (kD (.int 0)))) (kD (.int 1)))))
  (z9 4 (toD (d2 ah (vB 6) (kD (.int 1)))))))
def z54:De->ζ Out:=(D3 7 (toD (d2 ah (vB 4) (toD (d2 ah (vB 7) (kD (.int 0)))))))
def q69:De->ζ Bool:=(tB2 (fV fun i j=>decide (j<i)) (toD (d2 ah (vB 4) (toD (d2 ah (vB 7) (kD (.int 0)))))) (kD (.int 0)))
def z35:η Dt->ζ T:=bC 8 ((ai (al 1 (toT (toD (ag be (aa (toD (d2 ah (vB 0) (kD (.int 2)))) ae)))))
  (ai (al 2 (toT (toD (aH [ψ,ς 0] (bQ eh (aa (vL 1) ae)) (ak 0) bi q83))))
  (ai (al 3 (aU (aa (kD (.int 0)) ae)))
  (ai (al 4 (aU (aa (kD (.int 0)) ae)))
  (ai (cE (bQ lA (aa (kD (.int 1)) (aa (vL 1) ae))) (ak 5) q53)
  (ai (al 7 (aU (aa (toD (d2 eU (vB 1) (kD (.int 1)))) ae)))
  (ai (aT q69 z54 100000)
  (xL 7 3)))))))))
def q70:De->ζ Dt:=(toD (d2 ah (vB 0) (kD (.int 0))))
def y16:η Dt->ζ T:=bC 1 ((aZ (aH [ψ] (fIt (toD (d2 ah (vB 0) (kD (.int 1))))) (ak 0) bi q70)))
def y39:De->ζ Out:=(sIf (cR (tB2 (gEq ξ) (toD (d2 ah (vB 4) (kD (.int 0)))) (kD (.str "end"))) (tB2 (bF θ) (vB 3) (vB 2))) du bc)
def q34:η Dt->ζ T:=bC 5 ((ai (al 2 (toT (toD (ag y16 (aa (vL 1) ae)))))
  (ai (cE (bQ me (aa (toD (d2 ah (vB 0) (kD (.int 2)))) ae)) (lz 2 (cI (ak 3) (cI (ak 4) ly))) y39)
  (aZ (toT (kD .non))))))
def q76:η Dt->ζ T:=bC 1 ((aZ (vIf (tB2 (bF ξ) (toD (d2 ah (vB 0) (kD (.int 0)))) (kD mH)) (d2 ah (vB 0) (kD (.int 1))) (toT (kD .non)))))
def y75:η Dt->ζ T:=bC 2 ((ai (sIf (fSi θ k_A eI (toD (d2 ah (vB 0) (kD (.int 0))))) (aZ (aG ae)) bc)
  (ai (al 1 (toT (toD (vSg k_A eI (toD (d2 ah (vB 0) (kD (.int 0))))))))
  (aZ (vSl (vB 0) (fO (toD (d2 ah (vB 1) (kD (.int 0))))) (fO (toD (d2 ah (vB 1) (kD (.int 1))))))))))
def y60:De->ζ Out:=(sIf (cR (dZ (toD (ku "str" (vB 2)))) (tB2 (bF θ) (vB 2) (vB 1))) (z9 1 (vL 2)) bc)
def z67:η Dt->ζ T:=bC 3 ((ai (al 1 (aU ae))
  (ai (cE (fIt (toD (ag y75 (aa (vL 0) ae)))) (ak 2) y60)
  (fM 1))))
def y40:De->ζ Bool:=(tB2 (gEq θ) (vB 0) (toD (ag q76 (aa (vL 1) ae))))
def z40:De->ζ Out:=(y59 2 (aH [ψ,ς 0] (fIt (vB 3)) (ak 0) y40 (vL 0)))
def y19:η Dt->ζ T:=bC 4 ((ai (al 2 (ag z67 (aa (vL 0) ae)))
  (ai (cE (fIt (vL 1)) (ak 3) z40)
  (aZ (ag iF (aa (vB 2) ae))))))
def q61:η Dt->ζ T:=bC 2 ((ai (sIf (tB2 (gEq ξ) (toD (d2 ah (vB 1) (kD (.int 0)))) (kD (.str "go"))) (aZ (aG (aa (toD (d2 ah (vB 1) (kD (.int 1)))) ae))) bc)
  (ai (sIf (tB2 (gEq ξ) (toD (d2 ah (vB 1) (kD (.int 0)))) (kD (.str "if"))) (aZ (aG (aa (toD (d2 ah (vB 1) (kD (.int 2)))) (aa (toD (d2 aI (vB 0) (kD (.int 1)))) ae)))) bc)
  (ai (sIf (tB2 (gEq ξ) (toD (d2 ah (vB 1) (kD (.int 0)))) (kD (.str "end"))) (aZ (aG ae)) bc)
  (aZ (aG (aa (toD (d2 aI (vB 0) (kD (.int 1)))) ae)))))))
def z95:De->ζ Dt:=(toD (ag q61 (aa (vL 0) (aa (vL 1) ae))))
def dP:η Dt->ζ T:=bC 1 ((aZ (aH [ψ,ψ] (bQ me (aa (toD (d2 ah (vB 0) (kD (.int 2)))) ae)) (lz 2 (cI (ak 0) (cI (ak 1) ly))) bi z95)))
def q27:De->ζ Dt:=(toD (aU ae))
def y53:De->ζ Dt:=(toD (d2 ah (vB 1) (vB 0)))
def q54:De->ζ Out:=(ai (al 6 (toT (toD (ag y19 (aa (toD (d2 ah (vB 1) (vB 5))) (aa (toD (aH [ψ,ς 3] (fIt (toD (d2 ah (vB 2) (vB 5)))) (ak 0) bi y53)) ae))))))
  (sIf (tB2 (gEq θ) (vB 6) (toD (d2 ah (vB 3) (vB 5)))) (ai (np 3 (vB 5) (vL 6))
  (al 4 (toT (kD (.bl θ))))) bc))
def y52:De->ζ Out:=(ai (al 4 (toT (kD (.bl ξ)))) (cE (bQ uF (aa (toD (d2 eU (toD (ag be (aa (vB 1) ae))) (kD (.int 1)))) (aa (toD (jE (kD (.int 1)))) (aa (toD (jE (kD (.int 1)))) ae)))) (ak 5) q54))
def y80:De->ζ Bool:=(dZ (vB 4))
def y27:η Dt->ζ T:=bC 7 ((ai (al 1 (toT (toD (d2 ah (vB 0) (kD (.int 2))))))
  (ai (al 2 (toT (toD (ag dP (aa (vL 0) ae)))))
  (ai (al 3 (aH [ψ] (fIt (vB 1)) (ak 0) bi q27))
  (ai (al 4 (toT (kD (.bl θ))))
  (ai (aT y80 y52 100000)
  (fM 3)))))))
def q65:De->ζ Dt:=(toD (aG (aa (toD (d2 ah (vB 0) (kD (.int 0)))) (aa (toD (d2 ah (vB 0) (kD (.int 1)))) (aa (kD (.bl ξ)) ae)))))
def y46:De->ζ Out:=(sIf (tB2 (bF θ) (vB 7) (vB 5)) du bc)
def z49:De->ζ Out:=(cE (fIt (toD (d2 ah (vB 2) (vB 4)))) (ak 7) y46)
def y30:η Dt->ζ T:=bC 8 ((ai (al 2 (toT (toD (ag y27 (aa (vL 0) ae)))))
  (ai (al 3 (toT (toD (d2 aI (toD (aU (aa (toD (aG (aa (kD (.int 0)) (aa (toD (d2 ah (vB 1) (kD (.int 0)))) (aa (kD (.bl θ)) ae))))) ae))) (toD (aH [ψ] (fIt (toD (d2 ah (vB 1) (kD (.int 1))))) (ak 0) bi q65))))))
  (ai (cE (fIt (vL 3)) (lz 3 (cI (ak 4) (cI (ak 5) (cI (ak 6) ly)))) z49)
  (aZ (toT (kD .non)))))))
def z33:De->ζ Dt:=(toD (d2 (bF ξ) (vB 0) (vB 1)))
def y17:De->ζ Bool:=(dZ (toD (ag (zY fun bs=>bs.any id) (aa (toD (aH [ψ,ς 2] (fIt (toD (d2 ah (vB 1) (vB 0)))) (ak 0) bi z33)) ae))))
def z32:De->ζ Out:=(ai (al 4 (toT (toD (aH [ψ,ς 0,ς 2] (fIt (vB 2)) (ak 0) y17 (vL 0)))))
  (ai (al 3 (toT (toD (d2 (fV fun i j=>decide (i<j)) (toD (ag be (aa (vB 4) ae))) (toD (ag be (aa (vB 2) ae)))))))
  (al 2 (toT (vL 4)))))
def q41:De->ζ Bool:=(dZ (vB 3))
def y29:η Dt->ζ T:=bC 5 ((ai (al 2 (toT (vL 1)))
  (ai (al 3 (toT (kD (.bl θ))))
  (ai (aT q41 z32 100000)
  (fM 2)))))
def z36:De->ζ Bool:=(tB2 (bF θ) (vB 0) (vB 1))
def q29:η Dt->ζ T:=bC 7 ((ai (al 2 (toT (toD (ag y16 (aa (vL 1) ae)))))
  (ai (al 3 (toT (toD (ag dP (aa (vL 0) ae)))))
  (ai (al 4 (toT (toD (ag y29 (aa (vL 3) (aa (toD (aH [ψ,ς 2] (bQ eh (aa (toD (ag be (aa (vB 3) ae))) ae)) (ak 0) z36 (vL 0))) ae))))))
  (ai (sIf (tB2 (gEq ξ) (toD (ag be (aa (vB 4) ae))) (kD (.int 0))) (aZ (toT (kD .non))) bc)
  (ai du
  (ai du
  (ai du
  du))))))))
def q67:De->ζ Bool:=(tB2 (bF θ) (vB 0) (vB 1))
def q49:De->ζ Dt:=(toD (aH [ψ,ς 1] (fIt (vB 0)) (ak 0) q67 (vL 0)))
def q21:η Dt->ζ T:=bC 3 ((ai (al 2 (toT (toD (ag y16 (aa (vL 1) ae))))) (aZ (aH [ψ,ς 2] (fIt (toD (ag dP (aa (vL 0) ae)))) (ak 0) bi q49))))
def y101:De->ζ Out:=(ai (z9 2 (vL 3)) (al 3 (toT (toD (d2 uS (vB 0) (vB 3))))))
def q101:De->ζ Bool:=(tB2 (gIs θ) (vB 3) (kD .non))
def z79:η Dt->ζ T:=bC 4 ((ai (al 2 (aU ae))
  (ai (al 3 (toT (vL 1)))
  (ai (aT q101 y101 100000)
  (aZ (vLR (vB 2)))))))
def z103(G:Orc):De->ζ Out:=(kM 3 (vB 4) (kD .non))
def z104(G:Orc):De->ζ Out:=(sIf (xC (vB 8) (vB 3)) (ai (kM 3 (vB 8) (vL 7)) (z9 5 (vL 8))) bc)
def q103 (G:Orc):De->ζ Out:=(ai (al 7 (toT (toD (d2 ah (vB 5) (vB 6)))))
  (ai (ur (fun i j=>i+j) 6 (kD (.int 1)))
  (ai (sIf (dZ (toD (vCl G 2 (aa (vL 7) ae)))) (wx 3 (aZ (ag z79 (aa (vL 3) (aa (vL 7) ae))))) bc)
  (cE (fIt (toD (vCl G 1 (aa (vL 7) ae)))) (ak 8) (z104 G)))))
def y104(G:Orc):De->ζ Bool:=(tB2 (fV fun i j=>decide (i<j)) (vB 6) (toD (ag be (aa (vB 5) ae))))
def z75 (G:Orc):Dt->J9->J9->Hp->ζ T:=uz 9 ((ai (al 3 qT)
  (ai (cE (fIt (vL 0)) (ak 4) (z103 G))
  (ai (al 5 (ag gT (aa (vB 3) ae)))
  (ai (al 6 (toT (kD (.int 0))))
  (ai (aT (y104 G) (q103 G) 100000)
  (aZ (toT (kD .non)))))))))
def z52:De->ζ Dt:=(toD (aG (aa (vL 0) (aa (vL 1) ae))))
def bH:De->ζ Out:=(ai (al 1 (toT (toD (ag y18 (aa (toD (d2 ah (vB 0) (kD (.int 1)))) (aa (toD (d2 ah (vB 3) (toD (d2 ah (vB 0) (kD (.int 0)))))) (aa (vL 2) ae))))))) (aZ (vIf (tB2 (gEq ξ) (vB 1) (kD nJ)) (aU ae) (aH [ψ,ς 1] (fIt (toD (d2 ah (vB 4) (toD (d2 ah (vB 0) (kD (.int 0))))))) (ak 0) bi z52))))
def bI:De->ζ Out:=(aZ (d2 (gEq ξ) (toD (ag y18 (aa (toD (d2 ah (vB 0) (kD (.int 1)))) (aa (toD (d2 ah (vB 2) (toD (d2 ah (vB 0) (kD (.int 0)))))) (aa (vL 1) ae))))) (kD gl)))
def y81:De->ζ Dt:=(toD (aG (aa (vL 0) (aa (kD c7) ae))))
def q55:De->ζ Dt:=(toD (aH [ψ] (fIt (toD (d2 aI (toD (aU (aa (kD (.int 0)) ae))) (toD (ag y16 (aa (vL 1) ae)))))) (ak 0) bi y81))
def z82:De->ζ Dt:=(toD (d2 ah (vB 0) (kD (.int 0))))
def q50:η Dt->ζ T:=bC 8 ((ai (sIf (tB2 (bF θ) (vB 2) (toD (ag y15 (aa (vL 0) ae)))) (aZ (toT (kD .non))) bc)
  (ai (al 3 (toT (toD (d2 ah (vB 0) (kD (.int 2))))))
  (ai (al 4 (toT (toD (ag q21 (aa (vL 0) (aa (vL 1) ae))))))
  (fun δ=>(ai (al 7 (fRt [2,3,4] [2,3] ["place","mark","name","rows","inner"] ["place","name","rows"] bH bI q55 z75))
  (aZ (vIf (tB2 (gIs ξ) (vB 7) (kD .non)) (toT (kD .non)) (aH [ψ] (fIt (vB 7)) (ak 0) bi z82)))) (qC 5 6 δ))))))
def q15:De->ζ Out:=(ai (al 3 (toT (toD (ag q50 (aa (vL 0) (aa (vL 1) (aa (vL 2) ae))))))) (sIf (tB2 (gIs θ) (vB 3) (kD .non)) (aZ (aG (aa (kD (.str "spoil")) (aa (vL 2) (aa (vL 3) ae))))) bc))
def y22:η Dt->ζ T:=bC 4 ((ai (cE (fIt (toD (ag y15 (aa (vL 0) ae)))) (ak 2) q15) (aZ (toT (kD .non)))))
def z55:η Dt->ζ T:=bC 3 ((ai (al 2 (toT (toD (ag q34 (aa (vL 0) (aa (vL 1) ae))))))
  (ai (sIf (tB2 (gIs ξ) (vB 2) (kD .non)) (al 2 (toT (toD (ag q29 (aa (vL 0) (aa (vL 1) ae)))))) bc)
  (ai (sIf (tB2 (gIs ξ) (vB 2) (kD .non)) (al 2 (toT (toD (ag y22 (aa (vL 0) (aa (vL 1) ae)))))) bc)
  (ai (sIf (tB2 (gIs ξ) (vB 2) (kD .non)) (al 2 (toT (toD (ag y30 (aa (vL 0) (aa (vL 1) ae)))))) bc)
  (fM 2))))))
def q42:η Dt->ζ T:=bC 2 ((aZ (d2 (gIs ξ) (toD (ag z55 (aa (vL 0) (aa (vL 1) ae)))) (kD .non))))
def y97:De->ζ Bool:=(dZ (toD (ku "bool" (vB 0))))
def z97:De->ζ Bool:=(lx (dZ (toD (d2 ah (vB 0) (kD (.int 2))))))
def q99:De->ζ Dt:=(toD (d2 ah (vB 0) (kD (.int 0))))
def z99:De->ζ Dt:=(toD (ag q30 (aa (vL 1) (aa (vL 2) (aa (vL 0) ae)))))
def y86:De->ζ Bool:=(tB2 (bF θ) (vB 10) (toD (d2 ah (vB 8) (vB 9))))
def z76:De->ζ Out:=(ai (al 11 (toT (toD (d2 ce (toD (d2 jD (vB 11) (kD (.int 69621)))) (kD (.int 1000000007)))))) (sIf (tB2 (fV fun i j=>decide (i<j)) (toD (d2 ce (vB 11) (kD (.int 9)))) (toD (d2 aI (toD (d2 jq (toD (d2 jD (toD (ag be (aa (vB 5) ae))) (kD (.int 3)))) (toD (d2 aI (vB 2) (kD (.int 1)))))) (vB 12)))) (z9 13 (vL 14)) bc))
def y74:De->ζ Out:=(ai (al 13 (aU ae))
  (ai (cE (bQ eh (aa (vL 2) ae)) (ak 14) z76)
  (sIf (cR (dZ (toD (ag q42 (aa (vL 1) (aa (toD (ag z19 (aa (vL 3) (aa (toD (d2 aI (vB 13) (toD (aU (aa (vL 2) ae))))) ae)))) ae))))) (tB2 (fV fun i j=>decide (i<j)) (toD (d2 aI (toD (ag be (aa (vB 13) ae))) (kD (.int 1)))) (toD (ag be (aa (vB 5) ae))))) du bc)))
def sQ:η Dt->ζ T:=bC 15 ((ai (al 1 (toT (toD (ag z16 (aa (toD (ag z24 (aa (vL 0) (aa (kD (.int 24)) (aa (kD (.bl θ)) ae))))) ae)))))
  (ai (sIf (tB2 (gEq ξ) (toD (d2 ce (toD (ag q5 (aa (vL 0) (aa (kD (.int 0)) ae)))) (kD (.int 2)))) (kD (.int 1))) (al 1 (toT (toD (ag z16 (aa (toD (ag q17 (aa (vL 0) (aa (kD (.int 58)) ae)))) ae))))) bc)
  (ai (al 2 (toT (toD (d2 eU (toD (ag be (aa (toD (d2 ah (vB 1) (kD (.int 2)))) ae))) (kD (.int 1))))))
  (ai (al 3 (toT (toD (ag y27 (aa (vL 1) ae)))))
  (ai (al 4 (ag z35 (aa (vL 1) ae)))
  (ai (rg 4 (fOr (lx (dZ (toD (ku "tuple" (vB 4))))) (tB2 (gEq θ) (toD (ag be (aa (vB 4) ae))) (kD (.int 2)))))
  (ai (rg 4 (fOr (lx (dZ (toD (ku "list" (toD (d2 ah (vB 4) (kD (.int 0)))))))) (lx (dZ (toD (ku "list" (toD (d2 ah (vB 4) (kD (.int 1))))))))))
  (ai (D8 4 5 6)
  (ai (sIf (tB2 (gEq θ) (toD (aH [ψ] (fIt (toD (d2 aI (vB 5) (vB 6)))) (ak 0) y97 (vL 0))) (toD (aU ae))) du bc)
  (ai (sIf (tB2 (gEq ξ) (vB 2) (kD (.int 0))) (aZ (zL (toD (d2 (gEq ξ) (vB 5) (toD (aU (aa (kD (.int 0)) ae))))) (d2 (gEq ξ) (vB 6) (toD (aU (aa (kD (.int 0)) ae)))))) bc)
  (ai (al 7 (toT (toD (aH [ψ] (fIt (toD (d2 pB (toD (d2 ah (vB 1) (kD (.int 0)))) (toD (d2 ah (vB 1) (kD (.int 1))))))) (ak 0) z97 q99))))
  (ai (al 8 (toT (toD (aH [ψ,ς 1,ς 7] (bQ eh (aa (toD (d2 aI (vB 2) (kD (.int 1)))) ae)) (ak 0) bi z99))))
  (ai (sIf (fOr (tB2 (gEq θ) (toD (ag be (aa (vB 6) ae))) (toD (d2 aI (vB 2) (kD (.int 1))))) (lx (dZ (toD (ag q19 (aa (vL 6) (aa (vL 8) ae))))))) du bc)
  (ai (sIf (fOr (tB2 (gEq ξ) (vB 5) (toD (aU ae))) (fOr (tB2 (gEq θ) (toD (d2 ah (vB 5) (toD (jE (kD (.int 1)))))) (vB 2)) (fOr (tB2 (gEq θ) (toD (ag be (aa (vB 5) ae))) (toD (d2 ah (vB 6) (vB 2)))) (tB2 (gEq θ) (vB 5) (toD (ag eZ (aa (vB 5) ae))))))) du bc)
  (ai (xN 5 [9,10] (bQ wN (aa (toD (d2 aI (toD (aU (aa (kD (.int 0)) ae))) (vB 5))) (aa (vL 5) ae))) (lz 2 (cI (ak 9) (cI (ak 10) ly))) y86)
  (ai (rg 5 (tB2 (Dz θ) (toD (ag q42 (aa (vL 1) (aa (toD (ag z19 (aa (vL 3) (aa (vL 5) ae)))) ae)))) (kD (.bl θ))))
  (ai (al 11 (toT (toD (d2 ce (toD (d2 jD (toD (ag q5 (aa (vL 0) (aa (kD (.int 3)) ae)))) (kD (.int 48271)))) (kD (.int 1000000007))))))
  (ai (cE (bQ eh (aa (kD (.int 4)) ae)) (ak 12) y74)
  (ai (z9 5 (kD (.int 0)))
  (aZ (d2 (gEq ξ) (toZ (ag z35 (aa (vL 1) ae))) (toD (aG (aa (toD (vSl (vB 5) oV (fO (toD (jE (kD (.int 1))))))) (aa (vL 6) ae))))))))))))))))))))))))))
end
structure Txt(P:qc5)(w:Ja)(K:xA9)(mg:Str->Option Value):Prop where
 n_any:mg "any"=ψ
 n_bool:mg "bool"=ψ
 n_dict:mg "dict"=ψ
 n_enumerate:mg "enumerate"=ψ
 n_isinstance:mg "isinstance"=ψ
 n_len:mg "len"=ψ
 n_list:mg "list"=ψ
 n_min:mg "min"=ψ
 n_range:mg "range"=ψ
 n_reversed:mg "reversed"=ψ
 n_set:mg "set"=ψ
 n_sorted:mg "sorted"=ψ
 n_str:mg "str"=ψ
 n_tuple:mg "tuple"=ψ
 n_zip:mg "zip"=ψ
 g_A:Ab P w K mg "ATOM_PLACES" k_A eI
 g_D:iw K mg "FRESH" c7
 g_E:iw K mg "SAFE" nJ
 g_F:iw K mg "SEEN" kX
 g_B:iw K mg "SETTING" mH
 g_C:iw K mg "SPOILT" gl
 is:qR K=θ
 k_str:fA K "str"
 k_tuple:fA K "tuple"
 k_list:fA K "list"
 k_bool:fA K "bool"
local macro_rules | `(tactic| walk_at "x") => `(tactic| (repeat' (first | ((with_reducible show DB _ _ _); first | refine DO.toB ?_ | exact dbX (by kernel_rfl) | refine DL.toB ?_) | ((with_reducible show DL _ _ _); first | refine DO.toL ?_ | exact dlX (by kernel_rfl) | exact bv | exact Di | exact oK | exact fm | refine DO.toZ ?_ | exact dlG (by kernel_rfl) ‹Txt _ _ _ _›.g_D | exact dlG (by kernel_rfl) ‹Txt _ _ _ _›.g_E | exact dlG (by kernel_rfl) ‹Txt _ _ _ _›.g_F | exact dlG (by kernel_rfl) ‹Txt _ _ _ _›.g_B | exact dlG (by kernel_rfl) ‹Txt _ _ _ _›.g_C) | ((with_reducible show DO _ _ _); first | refine Ds ‹Room _ _› ?_ ?_ | refine DL.toO ?_ | refine km ?_ | refine ca ?_ | refine doF (by kernel_rfl) ‹_› ‹Room _ _› Ω ?_ | refine bw ev jp ?_ ?_ | refine bw CN FI ?_ ?_ | refine bw CO FJ ?_ ?_ | refine bw wS DD ?_ ?_ | refine bw qe wC ?_ ?_ | refine doB (by kernel_rfl) (oH rfl) (Bw (f := fun bs => bs.any id)) ‹Txt _ _ _ _›.n_any v8 ?_ | refine doB (by kernel_rfl) vO FK ‹Txt _ _ _ _›.n_len C6 ?_ | refine doB (by kernel_rfl) call_sortedS c_sorted ‹Txt _ _ _ _›.n_sorted bt_sorted ?_ | refine doT (by kernel_rfl) cZ jO ‹Txt _ _ _ _›.n_tuple f7 ?_ | refine f9 (wD ‹Room _ _›) r_eq ?_ ?_ (bP _) | refine f9 (ni ‹Room _ _›) zV ?_ ?_ (bP _) | refine f9 vK ir ?_ ?_ (bP _) | refine f9 op_le ir ?_ ?_ (bP _) | refine f9 Bn ir ?_ ?_ (bP _) | refine f9 Bo ir ?_ ?_ (bP _) | refine f9 vM r_is ?_ ?_ (bP _) | refine f9 rQ sv ?_ ?_ (bP _) | refine FL ‹Room _ _› ?_ ?_ | refine do_notin ‹Room _ _› ?_ ?_ | refine wH ?_ ?_ ?_ | refine wt ?_ ?_ ?_ | refine do_not ?_ | refine Dq ?_ | refine Dk ?_ ?_ | refine do_or ?_ ?_ | refine Dj ?_ | refine bw Ar DY ?_ ?_ | refine bw As D0 ?_ ?_ | refine bw jQ nH ?_ ?_) | ((with_reducible show DT _ _ _); first | refine dm (wD ‹Room _ _›) r_eq ?_ ?_ (bP _) | refine dm (ni ‹Room _ _›) zV ?_ ?_ (bP _) | refine dm vK ir ?_ ?_ (bP _) | refine dm op_le ir ?_ ?_ (bP _) | refine dm Bn ir ?_ ?_ (bP _) | refine dm Bo ir ?_ ?_ (bP _) | refine dm vM r_is ?_ ?_ (bP _) | refine dm rQ sv ?_ ?_ (bP _) | refine FM ‹Room _ _› ?_ ?_ | refine wJ ‹Room _ _› ?_ ?_ | refine DW.t (qr ?_ ?_) | refine DW.t (jm ?_ ?_) | refine m9 ?_ | refine dg ?_ (fun _ => rfl) | refine dm uy wQ ?_ ?_ (bP _)) | ((with_reducible show DA _ _ _); first | refine az ?_ ?_ | exact aX) | ((with_reducible show DAB _ _ _); first | refine dH ?_ ?_ | exact fu) | refine qr ?_ ?_ | refine jm ?_ ?_ | refine sq ?_ | refine kl ?_ | exact zW | refine zX ?_)))
seal qh8 toD toT vB vL kD d2 aG aU ag aa ae tB2 cR fOr lx dZ vSl fO oV vIf vNot jE zL vOr
variable{X:Cx}{pos:Pos}{sc:Jd}{N:η Str}{x:Str}
theorem dsN{e:Jc}{f:De->ζ T}{i:Nat}{pos':Pos}(h:cB sc N=θ)(Y:N.Nodup)(W:DO X e f)(e0:N[i]?=ς x:=by rfl)(e1:bN X sc:=by rfl)(Z:X.N=N:=by rfl)(hf:X.fn x=θ∨X.env.scope.names.lookup x=ς .local:=by exact .inl rfl)(U:qo5 e (ς (.Name x pos')) pos.line X.env=pure ξ:=by rfl):DS1 X (.Assign [.Name x pos'] e pos) (al i f):=ww (nsN h i e0) (nsL h i e0) Y W e1 Z hf U
theorem doC{p:Pos}{iter elt:Jc}{ifs:η Jc}{scope:Jd}{src:η (ζ Nat)}{fi:De->ζ (η Dt)}{ft:De->ζ Bool}{fe:De->ζ Dt}(M:η Str)(h:(wc X.N X.env.scope scope M src&&dl (kf scope X.env.scope) M 0 x&&loOk (kf scope X.env.scope) x&&decide (src[0]?=ς ψ))=θ)(hi:DIB X (.Name x p) iter fi)(U:∀C s H ex,DTs (cxC X M scope C s H ex) ifs ft)(Y:∀C s H ex,DL (cxC X M scope C s H ex) elt fe)(hc:X.calm=θ:=by rfl)(W:∀x,qi6 iter X.env x=pure x:=by intro _;rfl):DO X (.ListComp elt [⟨.Name x p,iter,ifs,0⟩] scope pos) (aH src fi (ak 0) ft fe):=by simp only[qa9]at h;exact jN (ts:=[0]) (CmpScope.of h.1.1.1) hc hi (fun Z C s H ex=>ay (da h.1.1.2 h.1.2 Z (scC rfl))) U Y (by simp only[qm2,zm2,qu9];exact h.2) W
theorem fnS{P:η Str}(h:N.Nodup/\N.take P.length=P/\(∀x∈P,sc.names.lookup x=ς .local∨sc.names.lookup x=ς .cell)/\∀y∈sc.names,y.2≠.free)(a:sc.kind=.function:=by rfl)(b:sc.isCoroutine=ξ:=by rfl)(c:sc.isGenerator=ξ:=by rfl):FnScope N P sc:=⟨a,b,c,h.1,h.2.1,h.2.2.1,h.2.2.2⟩
section
variable{P:qc5}{w:Ja}{K:xA9}{mg:Str->ζ Value}{base:Heap}
abbrev z47:Jb:=top 36
theorem q82:FnScope ["_law_script","_law_k"] ["_law_script","_law_k"] (ab z47):=fnS χ
theorem z81(T:Txt P w K mg)(D:DefF K mg "_law_cell_at" z47 ["_law_script","_law_k"]):OkF P w K mg base "_law_cell_at" 1 ["_law_script","_law_k"] (spD K 2 q5):=
 br D q82 rfl fun f cdv A outer s H E U=>(ac (aP Ψ (aj (au Ψ)) aA)
     (aj (au (DL.toO bv))))
abbrev y36:Jb:=top 47
theorem q80:FnScope ["_law_need","_law_rows"] ["_law_need","_law_rows"] (ab y36):=fnS χ
def y67:aB (ab y36) "tuple"=θ:=χ
theorem y84(T:Txt P w K mg)(D:DefF K mg "_law_cutting" y36 ["_law_need","_law_rows"]):OkF P w K mg base "_law_cutting" 1 ["_law_need","_law_rows"] (spD K 2 z19):=br D q80 rfl fun f cdv A outer s H E U=>(aj (au (km (az Ψ (az (DO.toL (dJ y67 cZ jO T.n_tuple f7 (dH (DO.toB (doC ["_law_row_here","_law_need"] (by kernel_rfl) (bh Ψ) (fun _ _ _ _=>bo) (fun _ _ _ _=>Ψ))) fu))) aX)))))
abbrev q38:Jb:=top 37
theorem q36:FnScope ["_law_number","_law_sizes","_law_digits_here","_law_size"] ["_law_number","_law_sizes"] (ab q38):=fnS χ
theorem bT:cB (ab q38) ["_law_number","_law_sizes","_law_digits_here","_law_size"]=θ:=χ
theorem q88(T:Txt P w K mg)(D:DefF K mg "_law_digits" q38 ["_law_number","_law_sizes"]):OkF P w K mg base "_law_digits" 1 ["_law_number","_law_sizes"] (spD K 2 q12):=
 br D q36 rfl fun f cdv A outer s H E U=>(ac (dsN bT q36.nd (ca aX))
     (ac (bB qc3 rfl (dn Ψ) (ay (ax (nsN bT 3) (nsL bT 3) q36.nd)) (ac (aQ (pvN 2 bT) Ψ)
     (aj (dsN bT q36.nd (DL.toO Ψ)))))
     (aj (dw (pvN 2 bT)))))
abbrev z25:Jb:=top 41
theorem q13:FnScope ["_law_cell","_law_many","_law_cells","_law_shelves","_law_boxes","_law_more","_law_digits_here","_law_one","_law_other","_law_x","_law_c","_law_some","_law_f"] ["_law_cell","_law_many","_law_cells","_law_shelves","_law_boxes"] (ab z25):=fnS χ
theorem av:cB (ab z25) ["_law_cell","_law_many","_law_cells","_law_shelves","_law_boxes","_law_more","_law_digits_here","_law_one","_law_other","_law_x","_law_c","_law_some","_law_f"]=θ:=χ
def q46:aB (ab z25) "_law_digits"=θ:=χ
theorem y76(T:Txt P w K mg)(D:DefF K mg "_law_digit_row" z25 ["_law_cell","_law_many","_law_cells","_law_shelves","_law_boxes"])(U:OkF P w K mg base "_law_digits" 1 ["_law_number","_law_sizes"] (spD K 2 (q12))):OkF P w K mg base "_law_digit_row" 2 ["_law_cell","_law_many","_law_cells","_law_shelves","_law_boxes"] (spD K 5 y25):=
 br D q13 rfl fun f cdv A outer s H E W=>(ac (dsN av q13.nd (DL.toO Ψ))
     (ac (dsN av q13.nd (DL.toO (DO.toL (dh q46 U (W.mono Ω) (az Ψ (az (DO.toL (ca (az bv (az Ψ (az Ψ (az (DO.toL (bw j3 oR (DL.toB bv) (DL.toB bv))) (az Ψ (az (DO.toL (bw j3 oR (DL.toB bv) (DL.toB bv))) (az bv (az bv (az Ψ aX))))))))))) aX))))))
     (ac (dsN av q13.nd (DL.toO Ψ))
     (ac (dsN av q13.nd (DL.toO Ψ))
     (ac (dsN av q13.nd (DL.toO Ψ))
     (ac (dsN av q13.nd (DL.toO Ψ))
     (ac (dsN av q13.nd Ψ)
     (ac (dsN av q13.nd Ψ)
     (ac (dsN av q13.nd Ψ)
     (ac (aP Ψ (ac (dsN av q13.nd (DL.toO Ψ))
     (ac (nr W (pvN 11 av) (DL.toB bv) Ψ)
     (aj (nr W (pvN 11 av) (DL.toB bv) Ψ)))) aA)
     (aj (au Ψ))))))))))))
abbrev y35:Jb:=top 38
theorem z17:FnScope ["_law_cell","_law_many","_law_number","_law_digits_here","_law_size","_law_at","_law_fill","_law_found","_law_k","_law_letter"] ["_law_cell","_law_many"] (ab y35):=fnS χ
theorem aS:cB (ab y35) ["_law_cell","_law_many","_law_number","_law_digits_here","_law_size","_law_at","_law_fill","_law_found","_law_k","_law_letter"]=θ:=χ
def y71:aB (ab y35) "range"=θ:=χ
theorem q91(T:Txt P w K mg)(D:DefF K mg "_law_names" y35 ["_law_cell","_law_many"])(U:OkF P w K mg base "_law_digits" 1 ["_law_number","_law_sizes"] (spD K 2 (q12))):OkF P w K mg base "_law_names" 2 ["_law_cell","_law_many"] (spD K 2 z18):=
 br D z17 rfl fun f cdv A outer s H E W=>(ac (dsN aS z17.nd (DL.toO Ψ))
     (ac (dsN aS z17.nd (DL.toO Ψ))
     (ac (dsN aS z17.nd (DL.toO Ψ))
     (ac (dsN aS z17.nd (DL.toO Ψ))
     (ac (dsN aS z17.nd (DL.toO Ψ))
     (ac (dsN aS z17.nd (ca aX))
     (ac (bB qc3 rfl (bG y71 T.n_range Ψ) (ay (ax (nsN aS 8) (nsL aS 8) z17.nd)) (ac (dsN aS z17.nd (DL.toO Ψ))
     (aj (aQ (pvN 7 aS) Ψ))))
     (aj (dw (pvN 7 aS))))))))))
abbrev z15:Jb:=top 42
theorem z7:FnScope ["_law_script","_law_most","_law_digits_here","_law_names_here","_law_boxes","_law_starts","_law_cells","_law_shelves","_law_some","_law_rows","_law_cell","_law_called","_law_last"] ["_law_script","_law_most"] (ab z15):=fnS χ
theorem ao:cB (ab z15) ["_law_script","_law_most","_law_digits_here","_law_names_here","_law_boxes","_law_starts","_law_cells","_law_shelves","_law_some","_law_rows","_law_cell","_law_called","_law_last"]=θ:=χ
def z23:aB (ab z15) "_law_digits"=θ:=χ
def q32:aB (ab z15) "range"=θ:=χ
def z31:aB (ab z15) "tuple"=θ:=χ
theorem y66(T:Txt P w K mg)(D:DefF K mg "_law_digit_program" z15 ["_law_script","_law_most"])(q25:OkF P w K mg base "_law_cell_at" 1 ["_law_script","_law_k"] (spD K 2 (q5)))(Z:OkF P w K mg base "_law_digit_row" 2 ["_law_cell","_law_many","_law_cells","_law_shelves","_law_boxes"] (spD K 5 (y25)))(U:OkF P w K mg base "_law_digits" 1 ["_law_number","_law_sizes"] (spD K 2 (q12)))(Y:OkF P w K mg base "_law_names" 2 ["_law_cell","_law_many"] (spD K 2 (z18))):OkF P w K mg base "_law_digit_program" 3 ["_law_script","_law_most"] (spD K 2 q17):=
 br D z7 rfl fun f cdv A outer s H E W=>(ac (dsN ao z7.nd (DL.toO (DO.toL (dh z23 U (W.mono Ω) (az Ψ (az (DO.toL (bw ev jp (DO.toB (bw ev jp Ψ (DO.toB (bw jQ nH Ψ (DL.toB bv))))) (DO.toB (bw jQ nH Ψ (DL.toB bv))))) aX))))))
     (ac (dsN ao z7.nd (DL.toO Ψ))
     (ac (dsN ao z7.nd (DL.toO Ψ))
     (ac (dsN ao z7.nd (DL.toO (DO.toL (dh z23 U (W.mono Ω) (az Ψ (az (DO.toL (bw ev jp (DO.toB (bw jQ nH (DO.toB (ca (az (DO.toL (bw j3 oR (DL.toB bv) (DL.toB bv))) aX))) (DL.toB bv))) Ψ)) aX))))))
     (ac (dsN ao z7.nd (DL.toO (DO.toL (dJ z31 cZ jO T.n_tuple f7 (dH (DO.toB (doC ["_law_k","_law_digits_here","_law_names_here","_law_starts"] (by kernel_rfl) (DIF.toB (bG q32 T.n_range Ψ)) (fun _ _ _ _=>bo) (fun _ _ _ _=>Ψ))) fu)))))
     (ac (dsN ao z7.nd (DL.toO (DO.toL (dJ z31 cZ jO T.n_tuple f7 (dH (DO.toB (doC ["_law_k","_law_digits_here","_law_names_here"] (by kernel_rfl) (DIF.toB (bG q32 T.n_range Ψ)) (fun _ _ _ _=>bo) (fun _ _ _ _=>Ψ))) fu)))))
     (ac (dsN ao z7.nd (DL.toO Ψ))
     (ac (dsN ao z7.nd (ca aX))
     (ac (bB qc3 rfl (dn Ψ) (ay (ax (nsN ao 10) (nsL ao 10) z7.nd)) (ac (dsN ao z7.nd (DL.toO (DO.toL (ca (az (DO.toL (doC ["_law_one"] (by kernel_rfl) (bh Ψ) (fun _ _ _ _=>bo) (fun _ _ _ _=>Ψ))) (az (DO.toL (doC ["_law_one"] (by kernel_rfl) (bh Ψ) (fun _ _ _ _=>bo) (fun _ _ _ _=>Ψ))) aX))))))
     (aj (aQ (pvN 9 ao) Ψ))))
     (ac (dsN ao z7.nd (DL.toO Ψ))
     (ac (aP Ψ (aj (dsN ao z7.nd (DL.toO Ψ))) aA)
     (aj (au Ψ)))))))))))))
abbrev q31:Jb:=top 45
theorem q22:FnScope ["_law_program_here","_law_names_here","_law_i","_law_opened","_law_stored","_law_found","_law_j","_law_row_here"] ["_law_program_here","_law_names_here","_law_i"] (ab q31):=fnS χ
theorem aJ:cB (ab q31) ["_law_program_here","_law_names_here","_law_i","_law_opened","_law_stored","_law_found","_law_j","_law_row_here"]=θ:=χ
def q68:aB (ab q31) "range"=θ:=χ
theorem y82(T:Txt P w K mg)(D:DefF K mg "_law_good_to" q31 ["_law_program_here","_law_names_here","_law_i"]):OkF P w K mg base "_law_good_to" 1 ["_law_program_here","_law_names_here","_law_i"] (spD K 3 q30):=
 br D q22 rfl fun f cdv A outer s H E U=>(ac (dsN aJ q22.nd (ca aX))
     (ac (dsN aJ q22.nd (ca aX))
     (ac (dsN aJ q22.nd (ca aX))
     (ac (bB qc3 rfl (gy q68 T.n_range Ψ) (ay (ax (nsN aJ 6) (nsL aJ 6) q22.nd)) (ac (dsN aJ q22.nd (DL.toO Ψ))
     (ac (aP Ψ (aj (aQ (pvN 3 aJ) Ψ)) aA)
     (ac (aP Ψ (aj wv) aA)
     (ac (aP Ψ (aj (aQ (pvN 4 aJ) Ψ)) aA)
     (aj (aQ (pvN 5 aJ) Ψ)))))))
     (aj (dw (pvN 5 aJ)))))))
abbrev q16:Jb:=top 46
theorem y32:FnScope ["_law_labels","_law_good","_law_j","_law_some"] ["_law_labels","_law_good"] (ab q16):=fnS χ
theorem bL:cB (ab q16) ["_law_labels","_law_good","_law_j","_law_some"]=θ:=χ
def y33:aB (ab q16) "range"=θ:=χ
def z57:aB (ab q16) "min"=θ:=χ
theorem z69(T:Txt P w K mg)(D:DefF K mg "_law_labels_right" q16 ["_law_labels","_law_good"]):OkF P w K mg base "_law_labels_right" 1 ["_law_labels","_law_good"] (spD K 2 q19):=
 br D y32 rfl fun f cdv A outer s H E W=>(ac (bB qc3 rfl (gy y33 T.n_range Ψ) (ay (ax (nsN bL 2) (nsL bL 2) y32.nd)) (ac (kw (nsN bL 3) (nsL bL 3) y32.nd (M:=["_law_i","_law_labels","_law_good","_law_j"]) (src:=[ψ,ς 0,ς 1,ς 2]) (ts:=[0]) (CmpScope.of (by kernel_rfl)) rfl (DIF.toB (bG y33 T.n_range Ψ)) (fun U _ _ _ _=>(ay (da (N:=["_law_i","_law_labels","_law_good","_law_j"]) (i:=0) χ χ U (scC (outer:=ab q16) (by exact rfl))))) (fun _ _ _ _=>dy Ψ) (fun _ _ _ _=>Ψ) χ)
     (aj (aP (DW.t (jm Ψ (kl (dm vK ir (DO.toB (iq z57 (uZ rfl) D7 T.n_min wa Ψ)) Ψ (bP _))))) (aj ci) aA))))
     (aj (au Ψ)))
abbrev q63:Jb:=top 39
theorem y96:FnScope ["_law_digit","_law_cell","_law_boxes"] ["_law_digit","_law_cell","_law_boxes"] (ab q63):=fnS χ
theorem z94(T:Txt P w K mg)(D:DefF K mg "_law_atom" q63 ["_law_digit","_law_cell","_law_boxes"]):OkF P w K mg base "_law_atom" 1 ["_law_digit","_law_cell","_law_boxes"] (spD K 3 y23):=
 br D y96 rfl fun f cdv A outer s H E U=>(ac (aP Ψ (aj (au Ψ)) aA)
     (ac (aP Ψ (aj (au Ψ)) aA)
     (aj (au (bw qe wC Ψ (DO.toB (bw j3 oR (DL.toB bv) (DL.toB bv))))))))
abbrev y54:Jb:=top 40
theorem q18:FnScope ["_law_cell","_law_many","_law_cells","_law_shelves","_law_boxes","_law_number","_law_digits_here","_law_one","_law_other","_law_x","_law_c","_law_kind","_law_f","_law_some"] ["_law_cell","_law_many","_law_cells","_law_shelves","_law_boxes"] (ab y54):=fnS χ
theorem bM:cB (ab y54) ["_law_cell","_law_many","_law_cells","_law_shelves","_law_boxes","_law_number","_law_digits_here","_law_one","_law_other","_law_x","_law_c","_law_kind","_law_f","_law_some"]=θ:=χ
theorem q97(T:Txt P w K mg)(D:DefF K mg "_law_row" y54 ["_law_cell","_law_many","_law_cells","_law_shelves","_law_boxes"])(U:OkF P w K mg base "_law_atom" 1 ["_law_digit","_law_cell","_law_boxes"] (spD K 3 (y23)))(W:OkF P w K mg base "_law_digits" 1 ["_law_number","_law_sizes"] (spD K 2 (q12))):OkF P w K mg base "_law_row" 2 ["_law_cell","_law_many","_law_cells","_law_shelves","_law_boxes"] (spD K 5 z44):=
 br D q18 rfl fun f cdv A outer s H E Y=>(ac (dsN bM q18.nd (DL.toO Ψ))
     (ac (dsN bM q18.nd (DL.toO Ψ))
     (ac (dsN bM q18.nd (DL.toO Ψ))
     (ac (dsN bM q18.nd (DL.toO Ψ))
     (ac (dsN bM q18.nd (DL.toO Ψ))
     (ac (dsN bM q18.nd (DL.toO Ψ))
     (ac (dsN bM q18.nd (DL.toO Ψ))
     (ac (aP Ψ (ac (dsN bM q18.nd (DL.toO Ψ))
     (aj (au Ψ))) aA)
     (ac (aP Ψ (aj (au Ψ)) aA)
     (ac (aP Ψ (aj (au Ψ)) aA)
     (ac (aP Ψ (ac (dsN bM q18.nd (DL.toO Ψ))
     (aj (au Ψ))) aA)
     (ac (aP Ψ (aj (au Ψ)) aA)
     (aj (au Ψ))))))))))))))
abbrev q24:Jb:=top 43
theorem z8:FnScope ["_law_script","_law_most","_law_wide","_law_head","_law_digits_here","_law_names_here","_law_sizes","_law_boxes","_law_start","_law_cells","_law_k","_law_shelves","_law_rows","_law_some","_law_cell"] ["_law_script","_law_most","_law_wide"] (ab q24):=fnS χ
theorem am:cB (ab q24) ["_law_script","_law_most","_law_wide","_law_head","_law_digits_here","_law_names_here","_law_sizes","_law_boxes","_law_start","_law_cells","_law_k","_law_shelves","_law_rows","_law_some","_law_cell"]=θ:=χ
def z42:aB (ab q24) "range"=θ:=χ
def q57:aB (ab q24) "_law_row"=θ:=χ
theorem q84(T:Txt P w K mg)(D:DefF K mg "_law_program" q24 ["_law_script","_law_most","_law_wide"])(y50:OkF P w K mg base "_law_atom" 1 ["_law_digit","_law_cell","_law_boxes"] (spD K 3 (y23)))(q25:OkF P w K mg base "_law_cell_at" 1 ["_law_script","_law_k"] (spD K 2 (q5)))(W:OkF P w K mg base "_law_digits" 1 ["_law_number","_law_sizes"] (spD K 2 (q12)))(Z:OkF P w K mg base "_law_names" 2 ["_law_cell","_law_many"] (spD K 2 (z18)))(U:OkF P w K mg base "_law_row" 2 ["_law_cell","_law_many","_law_cells","_law_shelves","_law_boxes"] (spD K 5 (z44))):OkF P w K mg base "_law_program" 3 ["_law_script","_law_most","_law_wide"] (spD K 3 z24):=
 br D z8 rfl fun f cdv A outer s H E Y=>(ac (dsN am z8.nd (DL.toO Ψ))
     (ac (dsN am z8.nd (DL.toO Ψ))
     (ac (dsN am z8.nd (DL.toO Ψ))
     (ac (dsN am z8.nd (DL.toO Ψ))
     (ac (aP Ψ (aj (dsN am z8.nd (DL.toO Ψ))) aA)
     (ac (dsN am z8.nd (DL.toO Ψ))
     (ac (dsN am z8.nd (DL.toO Ψ))
     (ac (dsN am z8.nd (ca aX))
     (ac (bB qc3 rfl (bG z42 T.n_range Ψ) (ay (ax (nsN am 10) (nsL am 10) z8.nd)) (aj (aQ (pvN 9 am) (DO.toL (km (az Ψ (az (DO.toL (bw qe wC Ψ (DO.toB (bw j3 oR (DL.toB bv) (DL.toB bv))))) (az Ψ aX))))))))
     (ac (dsN am z8.nd (ca aX))
     (ac (bB qc3 rfl (bG z42 T.n_range Ψ) (ay (ax (nsN am 10) (nsL am 10) z8.nd)) (aj (aQ (pvN 11 am) Ψ)))
     (ac (dsN am z8.nd (ca aX))
     (ac (dsN am z8.nd (DL.toO Ψ))
     (ac (bB qc3 rfl (dn Ψ) (ay (ax (nsN am 14) (nsL am 14) z8.nd)) (aj (aQ (pvN 12 am) (DO.toL (dh q57 U (Y.mono Ω) (az Ψ (az Ψ (az (DO.toL (doC ["_law_one"] (by kernel_rfl) (bh Ψ) (fun _ _ _ _=>bo) (fun _ _ _ _=>Ψ))) (az (DO.toL (doC ["_law_one"] (by kernel_rfl) (bh Ψ) (fun _ _ _ _=>bo) (fun _ _ _ _=>Ψ))) (az Ψ aX))))))))))
     (ac (aQ (pvN 12 am) Ψ)
     (aj (au Ψ)))))))))))))))))
abbrev z34:Jb:=top 44
theorem y20:FnScope ["_law_program_here","_law_rows","_law_row_here"] ["_law_program_here"] (ab z34):=fnS χ
theorem bf:cB (ab z34) ["_law_program_here","_law_rows","_law_row_here"]=θ:=χ
theorem q78(T:Txt P w K mg)(D:DefF K mg "_law_straight" z34 ["_law_program_here"]):OkF P w K mg base "_law_straight" 1 ["_law_program_here"] (spD K 1 z16):=
 br D y20 rfl fun f cdv A outer s H E U=>(ac (dsN bf y20.nd (ca aX))
     (ac (bB qc3 rfl (dn Ψ) (ay (ax (nsN bf 2) (nsL bf 2) y20.nd)) (ac (aP Ψ (aj (dsN bf y20.nd (DL.toO Ψ))) (aj (aP Ψ (aj (dsN bf y20.nd (DL.toO Ψ))) (aj (aP Ψ (aj (dsN bf y20.nd (DL.toO Ψ))) aA)))))
     (aj (aQ (pvN 1 bf) Ψ))))
     (aj (au Ψ))))
abbrev q39:Jb:=top 21
theorem z89:FnScope ["mark","row","name"] ["mark","row","name"] (ab q39):=fnS χ
def kY:cB (ab q39) ["mark","row","name"]=θ:=χ
theorem z85(T:Txt P w K mg)(D:DefF K mg "mark_behind" q39 ["mark","row","name"]):OkF P w K mg base "mark_behind" 1 ["mark","row","name"] (spD K 3 y18):=
 br D z89 rfl fun f cdv A outer s H E U=>(ac (aP Ψ (aj (au Ψ)) aA)
     (ac (aP Ψ (aj (au Ψ)) aA)
     (ac (aP Ψ (aj (au Ψ)) aA)
     (aj (dw (pvN 0 kY))))))
abbrev q52:Jb:=top 18
theorem y88:FnScope ["program"] ["program"] (ab q52):=fnS χ
theorem z86(T:Txt P w K mg)(D:DefF K mg "plain_names" q52 ["program"]):OkF P w K mg base "plain_names" 1 ["program"] (spD K 1 y15):=br D y88 rfl fun f cdv A outer s H E U=>(aj (au (doC ["head"] (by kernel_rfl) (bh Ψ) (fun _ _ _ _=>dy Ψ) (fun _ _ _ _=>Ψ))))
abbrev y49:Jb:=top 33
theorem y58:FnScope ["program","first","rows","marks","number","name"] ["program","first"] (ab y49):=fnS χ
theorem di:cB (ab y49) ["program","first","rows","marks","number","name"]=θ:=χ
def y90:aB (ab y49) "dict"=θ:=χ
def z87:aB (ab y49) "range"=θ:=χ
def z92:aB (ab y49) "list"=θ:=χ
theorem y105(T:Txt P w K mg)(D:DefF K mg "reach" y49 ["program","first"])(U:OkF P w K mg base "mark_behind" 1 ["mark","row","name"] (spD K 3 (y18)))(W:OkF P w K mg base "plain_names" 1 ["program"] (spD K 1 (y15))):OkF P w K mg base "reach" 2 ["program","first"] (spD K 2 z64):=
 br D y58 rfl fun f cdv A outer s H E Y=>(ac (dsN di y58.nd (DL.toO Ψ))
     (ac (dsN di y58.nd (dJ y90 (qX rfl) At T.n_dict zH (dH (DO.toB (doC ["name"] (by kernel_rfl) (bh Ψ) (fun _ _ _ _=>bo) (fun _ _ _ _=>Ψ))) fu)))
     (ac (bB qc3 rfl (gy z87 T.n_range Ψ) (ay (ax (nsN di 4) (nsL di 4) y58.nd)) (aj (bB qc3 rfl (dn (DO.toL (dJ z92 (kO rfl) sL T.n_list ib Ψ))) (ay (ax (nsN di 5) (nsL di 5) y58.nd)) (ac (nr Y (pvN 3 di) Ψ Ψ)
     (aj (aP Ψ (aj (dw (pvN 4 di))) aA))))))
     (aj (au Ψ)))))
abbrev q47:Jb:=top 34
theorem y31:FnScope ["program","count","reached","labels","ahead","row","best","rows"] ["program"] (ab q47):=fnS χ
theorem bz:cB (ab q47) ["program","count","reached","labels","ahead","row","best","rows"]=θ:=χ
def y43:aB (ab q47) "range"=θ:=χ
def q93:aB (ab q47) "min"=θ:=χ
theorem y103(T:Txt P w K mg)(D:DefF K mg "fewest" q47 ["program"])(U:OkF P w K mg base "reach" 2 ["program","first"] (spD K 2 (z64))):OkF P w K mg base "fewest" 3 ["program"] (spD K 1 z35):=
 br D y31 rfl fun f cdv A outer s H E W=>(ac (dsN bz y31.nd (DL.toO Ψ))
     (ac (dsN bz y31.nd (DL.toO (DO.toL (doC ["row","program"] (by kernel_rfl) (DIF.toB (bG y43 T.n_range Ψ)) (fun _ _ _ _=>bo) (fun _ _ _ _=>Ψ)))))
     (ac (dsN bz y31.nd Ψ)
     (ac (dsN bz y31.nd Ψ)
     (ac (bB qc3 rfl (gy y43 T.n_range Ψ) (ay (ax (nsN bz 5) (nsL bz 5) y31.nd)) (ac (dsN bz y31.nd (DL.toO (DO.toL (iq q93 (rf W rfl) D6 T.n_min wa (dH (DO.toB (doC ["first","reached","labels","row"] (by kernel_rfl) (DIF.toB (bG y43 T.n_range Ψ)) (fun _ _ _ _=>dy Ψ) (fun _ _ _ _=>Ψ))) fu)))))
     (ac (aQ (pvN 3 bz) Ψ)
     (aj (aQ (pvN 4 bz) Ψ)))))
     (ac (dsN bz y31.nd Ψ)
     (ac (gd 100000 qc3 Ψ (aj (D4 (pvN 7 bz) bv Ψ)))
     (aj (Ax (pvN 7 bz) (pvN 3 bz))))))))))
abbrev z63:Jb:=top 19
def y94:FnScope ["code"] ["code"] (ab z63):=fnS χ
theorem z93(T:Txt P w K mg)(D:DefF K mg "kept_rows" z63 ["code"]):OkF P w K mg base "kept_rows" 1 ["code"] (spD K 1 y16):=br D y94 rfl fun f cdv A outer s H E U=>(aj (au (doC ["keep"] (by kernel_rfl) (bh Ψ) (fun _ _ _ _=>bo) (fun _ _ _ _=>Ψ))))
abbrev y37:Jb:=top 24
theorem q45:FnScope ["program","code","kept","number","row"] ["program","code"] (ab y37):=fnS χ
theorem cN:cB (ab y37) ["program","code","kept","number","row"]=θ:=χ
def q62:aB (ab y37) "enumerate"=θ:=χ
theorem q94(T:Txt P w K mg)(D:DefF K mg "end_fault" y37 ["program","code"])(U:OkF P w K mg base "kept_rows" 1 ["code"] (spD K 1 (y16))):OkF P w K mg base "end_fault" 2 ["program","code"] (spD K 2 q34):=
 br D q45 rfl fun f cdv A outer s H E W=>(ac (dsN cN q45.nd (DL.toO Ψ))
     (ac (bB qc3 rfl (iz q62 T.n_enumerate Ψ) (na rfl (cJ (ay (ax (nsN cN 3) (nsL cN 3) q45.nd)) (cJ (ay (ax (nsN cN 4) (nsL cN 4) q45.nd)) jM))) (aj (aP Ψ (aj ci) aA)))
     (aj (au (DL.toO fm)))))
abbrev z88:Jb:=top 10
def y107:FnScope ["row"] ["row"] (ab z88):=fnS χ
theorem z106(T:Txt P w K mg)(D:DefF K mg "gives" z88 ["row"]):OkF P w K mg base "gives" 1 ["row"] (spD K 1 q76):=br D y107 rfl fun f cdv A outer s H E U=>(aj (au Ψ))
abbrev y64:Jb:=top 8
theorem y93:FnScope ["row","bounds"] ["row"] (ab y64):=fnS χ
def xO:cB (ab y64) ["row","bounds"]=θ:=χ
def z45:aB (ab y64) "ATOM_PLACES"=θ:=χ
theorem q106(T:Txt P w K mg)(D:DefF K mg "atoms" y64 ["row"]):OkF P w K mg base "atoms" 1 ["row"] (spD K 1 y75):=
 br D y93 rfl fun f cdv A outer s H E U=>(ac (aP (Dx z45 T.g_A Ψ) (aj (au (km aX))) aA)
     (ac (dsN xO y93.nd (DL.toO (DO.toL (FP z45 T.g_A Ψ))))
     (aj (au Ψ))))
abbrev q56:Jb:=top 9
theorem q79:FnScope ["row","boxes","atom"] ["row"] (ab q56):=fnS χ
def gm:cB (ab q56) ["row","boxes","atom"]=θ:=χ
def q71:aB (ab q56) "isinstance"=θ:=χ
def q95:aB (ab q56) "str"=θ:=χ
theorem q108(T:Txt P w K mg)(D:DefF K mg "reads" q56 ["row"])(U:OkF P w K mg base "atoms" 1 ["row"] (spD K 1 (y75))):OkF P w K mg base "reads" 2 ["row"] (spD K 1 z67):=
 br D q79 rfl fun f cdv A outer s H E W=>(ac (dsN gm q79.nd (ca aX))
     (ac (bB qc3 rfl (dn Ψ) (ay (ax (nsN gm 2) (nsL gm 2) q79.nd)) (aj (aP (DW.t (qr (dg (DO.toB (eV q71 q95 T.n_isinstance T.n_str C7 T.k_str Ψ)) (fun _=>rfl)) (sq Ψ))) (aj (aQ (pvN 1 gm) Ψ)) aA)))
     (aj (dw (pvN 1 gm)))))
abbrev y24:Jb:=top 11
theorem y45:FnScope ["row","behind","boxes","later"] ["row","behind"] (ab y24):=fnS χ
theorem cD:cB (ab y24) ["row","behind","boxes","later"]=θ:=χ
def y63:aB (ab y24) "sorted"=θ:=χ
def z71:aB (ab y24) "set"=θ:=χ
theorem y83(T:Txt P w K mg)(D:DefF K mg "needed_ahead" y24 ["row","behind"])(U:OkF P w K mg base "gives" 1 ["row"] (spD K 1 (q76)))(W:OkF P w K mg base "reads" 2 ["row"] (spD K 1 (z67))):OkF P w K mg base "needed_ahead" 3 ["row","behind"] (spD K 2 y19):=
 br D y45 rfl fun f cdv A outer s H E Y=>(ac (dsN cD y45.nd Ψ)
     (ac (bB qc3 rfl (dn Ψ) (ay (ax (nsN cD 3) (nsL cD 3) y45.nd)) (aj (uR (pvN 2 cD) (doC ["box","row"] (by kernel_rfl) (bh Ψ) (fun _ _ _ _=>dy Ψ) (fun _ _ _ _=>Ψ)))))
     (aj (au (qM y63 z71 rfl T.n_sorted T.n_set Ψ)))))
abbrev z74:Jb:=top 1
theorem z101:FnScope ["number","row"] ["number","row"] (ab z74):=fnS χ
theorem y100(T:Txt P w K mg)(D:DefF K mg "ways_of" z74 ["number","row"]):OkF P w K mg base "ways_of" 1 ["number","row"] (spD K 2 q61):=
 br D z101 rfl fun f cdv A outer s H E U=>(ac (aP Ψ (aj (au Ψ)) aA)
     (ac (aP Ψ (aj (au Ψ)) aA)
     (ac (aP Ψ (aj (au (km aX))) aA)
     (aj (au Ψ)))))
abbrev i8:Jb:=top 2
theorem y108:FnScope ["program"] ["program"] (ab i8):=fnS χ
def q77:aB (ab i8) "enumerate"=θ:=χ
theorem q109(T:Txt P w K mg)(D:DefF K mg "ways" i8 ["program"])(W:OkF P w K mg base "ways_of" 1 ["number","row"] (spD K 2 (q61))):OkF P w K mg base "ways" 2 ["program"] (spD K 1 dP):=br D y108 rfl fun f cdv A outer s H E Y=>(aj (au (jN (M:=["number","row"]) (src:=[ψ,ψ]) (ts:=[0,1]) (CmpScope.of (by kernel_rfl)) rfl (DIF.toB (iz q77 T.n_enumerate Ψ)) (fun U _ _ _ _=>(na rfl (cJ (ay (da (N:=["number","row"]) (i:=0) χ χ U (scC (outer:=ab i8) (by exact rfl)))) (cJ (ay (da (N:=["number","row"]) (i:=1) χ χ U (scC (outer:=ab i8) (by exact rfl)))) jM)))) (fun _ _ _ _=>bo) (fun _ _ _ _=>Ψ) χ)))
abbrev y47:Jb:=top 12
theorem y26:FnScope ["program","rows","onward","found","changed","number","boxes"] ["program"] (ab y47):=fnS χ
theorem bU:cB (ab y47) ["program","rows","onward","found","changed","number","boxes"]=θ:=χ
def z80:aB (ab y47) "range"=θ:=χ
def z62:aB (ab y47) "needed_ahead"=θ:=χ
theorem q105(T:Txt P w K mg)(D:DefF K mg "needed" y47 ["program"])(W:OkF P w K mg base "needed_ahead" 3 ["row","behind"] (spD K 2 (y19)))(U:OkF P w K mg base "ways" 2 ["program"] (spD K 1 (dP))):OkF P w K mg base "needed" 4 ["program"] (spD K 1 y27):=
 br D y26 rfl fun f cdv A outer s H E Y=>(ac (dsN bU y26.nd (DL.toO Ψ))
     (ac (dsN bU y26.nd (DL.toO Ψ))
     (ac (dsN bU y26.nd (doC ["row"] (by kernel_rfl) (bh Ψ) (fun _ _ _ _=>bo) (fun _ _ _ _=>Ψ)))
     (ac (dsN bU y26.nd (DL.toO oK))
     (ac (gd 100000 qc3 Ψ (ac (dsN bU y26.nd (DL.toO oK))
     (aj (bB qc3 rfl (uG z80 T.n_range Ψ) (ay (ax (nsN bU 5) (nsL bU 5) y26.nd)) (ac (dsN bU y26.nd (DL.toO (DO.toL (dh z62 W (Y.mono Ω) (az Ψ (az (DO.toL (doC ["way","found"] (by kernel_rfl) (bh Ψ) (fun _ _ _ _=>bo) (fun _ _ _ _=>Ψ))) aX))))))
     (aj (aP Ψ (ac (nr Y (pvN 3 bU) Ψ Ψ)
     (aj (dsN bU y26.nd (DL.toO oK)))) aA)))))))
     (aj (dw (pvN 3 bU))))))))
abbrev y44:Jb:=top 29
theorem z22:FnScope ["program","code","wanted","places","start","boxes","begin","box"] ["program","code"] (ab y44):=fnS χ
theorem aV:cB (ab y44) ["program","code","wanted","places","start","boxes","begin","box"]=θ:=χ
theorem y91(T:Txt P w K mg)(D:DefF K mg "lost_fault" y44 ["program","code"])(U:OkF P w K mg base "needed" 4 ["program"] (spD K 1 (y27))):OkF P w K mg base "lost_fault" 5 ["program","code"] (spD K 2 y30):=
 br D z22 rfl fun f cdv A outer s H E W=>(ac (dsN aV z22.nd (DL.toO Ψ))
     (ac (dsN aV z22.nd (DL.toO (DO.toL (bw ev jp Ψ (DO.toB (doC ["keep"] (by kernel_rfl) (bh Ψ) (fun _ _ _ _=>bo) (fun _ _ _ _=>Ψ)))))))
     (ac (bB qc3 rfl (dn Ψ) (na rfl (cJ (ay (ax (nsN aV 4) (nsL aV 4) z22.nd)) (cJ (ay (ax (nsN aV 5) (nsL aV 5) z22.nd)) (cJ (ay (ax (nsN aV 6) (nsL aV 6) z22.nd)) jM)))) (aj (bB qc3 rfl (dn Ψ) (ay (ax (nsN aV 7) (nsL aV 7) z22.nd)) (aj (aP Ψ (aj ci) aA)))))
     (aj (au (DL.toO fm))))))
abbrev q20:Jb:=top 25
theorem z21:FnScope ["onward","rows","left","fewer","staying"] ["onward","rows"] (ab q20):=fnS χ
theorem bq:cB (ab q20) ["onward","rows","left","fewer","staying"]=θ:=χ
theorem q81(T:Txt P w K mg)(D:DefF K mg "endless_rows" q20 ["onward","rows"]):OkF P w K mg base "endless_rows" 1 ["onward","rows"] (spD K 2 y29):=
 br D z21 rfl fun f cdv A outer s H E W=>(ac (dsN bq z21.nd (DL.toO Ψ))
     (ac (dsN bq z21.nd (DL.toO oK))
     (ac (gd 100000 qc3 Ψ (ac (kw (nsN bq 4) (nsL bq 4) z21.nd (M:=["row","onward","left"]) (src:=[ψ,ς 0,ς 2]) (ts:=[0]) (CmpScope.of (by kernel_rfl)) rfl (bh Ψ) (fun U _ _ _ _=>(ay (da (N:=["row","onward","left"]) (i:=0) χ χ U (scC (outer:=ab q20) (by exact rfl))))) (fun _ _ _ _=>dy (dg (DO.toB (iq χ (oH rfl) (Bw (f:=fun bs=>bs.any id)) T.n_any v8 (dH (DO.toB (jN (M:=["way","left"]) (src:=[ψ,ς 2]) (ts:=[0]) (CmpScope.of (by kernel_rfl)) rfl (bh Ψ) (fun U _ _ _ _=>(ay (da (N:=["way","left"]) (i:=0) χ χ U (scC (scC (outer:=ab q20) (by exact rfl)))))) (fun _ _ _ _=>bo) (fun _ _ _ _=>Ψ) χ)) fu) (e1:=(scC (outer:=ab q20) rfl)))) (fun _=>rfl))) (fun _ _ _ _=>Ψ) χ)
     (ac (dsN bq z21.nd (DL.toO Ψ))
     (aj (dsN bq z21.nd (DL.toO Ψ))))))
     (aj (dw (pvN 2 bq))))))
abbrev z30:Jb:=top 26
theorem y38:FnScope ["program","code","kept","onward","endless","walked","here"] ["program","code"] (ab z30):=fnS χ
theorem eJ:cB (ab z30) ["program","code","kept","onward","endless","walked","here"]=θ:=χ
def q72:aB (ab z30) "range"=θ:=χ
def y51:aB (ab z30) "endless_rows"=θ:=χ
theorem y92(T:Txt P w K mg)(D:DefF K mg "ring_fault" z30 ["program","code"])(W:OkF P w K mg base "endless_rows" 1 ["onward","rows"] (spD K 2 (y29)))(Y:OkF P w K mg base "kept_rows" 1 ["code"] (spD K 1 (y16)))(U:OkF P w K mg base "ways" 2 ["program"] (spD K 1 (dP))):OkF P w K mg base "ring_fault" 3 ["program","code"] (spD K 2 q29):=
 br D y38 rfl fun f cdv A outer s H E Z=>(ac (dsN eJ y38.nd (DL.toO Ψ))
     (ac (dsN eJ y38.nd (DL.toO Ψ))
     (ac (dsN eJ y38.nd (DL.toO (DO.toL (dh y51 W (Z.mono Ω) (az Ψ (az (DO.toL (doC ["row","kept"] (by kernel_rfl) (DIF.toB (bG q72 T.n_range Ψ)) (fun _ _ _ _=>dy Ψ) (fun _ _ _ _=>Ψ))) aX))))))
     (ac (aP Ψ (aj (au (DL.toO fm))) aA)
     (ac ci
     (ac ci
     (ac ci
     (aj ci))))))))
abbrev y34:Jb:=top 20
theorem z70:FnScope ["program","code","kept"] ["program","code"] (ab y34):=fnS χ
def lH:cB (ab y34) ["program","code","kept"]=θ:=χ
theorem q92(T:Txt P w K mg)(D:DefF K mg "inner_ways" y34 ["program","code"])(Y:OkF P w K mg base "kept_rows" 1 ["code"] (spD K 1 (y16)))(U:OkF P w K mg base "ways" 2 ["program"] (spD K 1 (dP))):OkF P w K mg base "inner_ways" 3 ["program","code"] (spD K 2 q21):=
 br D z70 rfl fun f cdv A outer s H E Z=>(ac (dsN lH z70.nd (DL.toO Ψ))
     (aj (au (doC ["onward","kept"] (by kernel_rfl) (bh Ψ) (fun _ _ _ _=>bo) (fun _ _ _ _=>(DO.toL (jN (M:=["way","kept"]) (src:=[ψ,ς 1]) (ts:=[0]) (CmpScope.of (by kernel_rfl)) rfl (bh Ψ) (fun W _ _ _ _=>(ay (da (N:=["way","kept"]) (i:=0) χ χ W (scC (scC (outer:=ab y34) (by exact rfl)))))) (fun _ _ _ _=>dy Ψ) (fun _ _ _ _=>Ψ) χ)))))))
abbrev y48:Jb:=top 3
theorem z60:FnScope ["came_from","last","places","here"] ["came_from","last"] (ab y48):=fnS χ
theorem gB:cB (ab y48) ["came_from","last","places","here"]=θ:=χ
def y85:aB (ab y48) "list"=θ:=χ
def y72:aB (ab y48) "reversed"=θ:=χ
theorem y102(T:Txt P w K mg)(D:DefF K mg "traced" y48 ["came_from","last"]):OkF P w K mg base "traced" 1 ["came_from","last"] (spD K 2 z79):=
 br D z60 rfl fun f cdv A outer s H E U=>(ac (dsN gB z60.nd (ca aX))
     (ac (dsN gB z60.nd (DL.toO Ψ))
     (ac (gd 100000 qc3 Ψ (ac (aQ (pvN 2 gB) Ψ)
     (aj (dsN gB z60.nd (DL.toO (DO.toL (DV T.is U Ψ Ψ)))))))
     (aj (au (qU y85 y72 T.n_list T.n_reversed rfl Ψ))))))
abbrev y55:Jb:=top 4
theorem q35:FnScope ["starts","behind","fits","came_from","start","queue","looked","here","there"] ["starts","behind","fits"] (ab y55):=fnS χ
theorem bD:cB (ab y55) ["starts","behind","fits","came_from","start","queue","looked","here","there"]=θ:=χ
def z91:aB (ab y55) "list"=θ:=χ
def z83:aB (ab y55) "traced"=θ:=χ
theorem z107(T:Txt P w K mg)(D:DefF K mg "route" y55 ["starts","behind","fits"])(W:OkF P w K mg base "traced" 1 ["came_from","last"] (spD K 2 (z79))):OkF P w K mg base "route" 4 ["starts","behind","fits"] (spR P w K mg base 3 z75):=
 DE D q35 rfl fun f cdv A outer s H E U G Y=>(ac (dsN bD q35.nd xB)
     (ac (bB qc3 rfl (dn Ψ) (ay (ax (nsN bD 4) (nsL bD 4) q35.nd)) (aj (sJ T.is U (pvN 3 bD) Ψ fm)))
     (ac (dsN bD q35.nd (dJ z91 (kO rfl) sL T.n_list ib Ψ))
     (ac (dsN bD q35.nd (DL.toO bv))
     (ac (gd 100000 qc3 Ψ (ac (dsN bD q35.nd (DL.toO Ψ))
     (ac (qw (nsN bD 6) (nsL bD 6) q35.nd (DL.toB bv))
     (ac (aP (dg (DO.toB (sy (pvN 2 bD) Y (U.mono Ω) Ψ)) (fun _=>rfl)) (aj (zN (i:=3) (au (dh z83 W (U.mono Ω) Ψ)))) aA)
     (aj (bB qc3 rfl (dn (DO.toL (sy (pvN 1 bD) Y (U.mono Ω) Ψ))) (ay (ax (nsN bD 8) (nsL bD 8) q35.nd)) (aj (aP (DX T.is U Ψ Ψ) (ac (sJ T.is U (pvN 3 bD) Ψ Ψ)
     (aj (aQ (pvN 5 bD) Ψ))) aA))))))))
     (aj (au (DL.toO fm))))))))
abbrev z20:Jb:=top 22
theorem y41:FnScope ["program","code","name","rows","inner","behind","spoils","found"] ["program","code","name"] (ab z20):=fnS χ
theorem b9:cB (ab z20) ["program","code","name","rows","inner","behind","spoils","found"]=θ:=χ
def z84:aB (ab z20) "route"=θ:=χ
abbrev y42:Jb:=(aF z20).getD 3 (.Pass ⟨0,0,0,0⟩)
theorem q33:NsC (ab z20) ["program","code","name","rows","inner","behind","spoils","found"] ["place","mark","name","rows","inner"] ["place"] ["name","rows","inner"] [2,3,4] (ab y42):=NsC.of χ
theorem z73:dl (ab y42) ["place","mark","name","rows","inner"] 1 "mark"=θ:=χ
def q74:iT (ab y42) "mark"=θ:=χ
abbrev q85:Jb:=(aF z20).getD 4 (.Pass ⟨0,0,0,0⟩)
theorem z41:NsC (ab z20) ["program","code","name","rows","inner","behind","spoils","found"] ["place","name","rows"] ["place"] ["name","rows"] [2,3] (ab q85):=NsC.of χ
theorem q104{c Pt:J9}(T:Txt P w K mg)(D:DefC K mg "spoilt" z20 ["program","code","name"] c)(B:TabB mg base c Pt)(Z:(Pt,ou "spoilt" (aF z20))∈cS K)(z72:OkF P w K mg base "inner_ways" 3 ["program","code"] (spD K 2 (q21)))(q23:OkF P w K mg base "kept_rows" 1 ["code"] (spD K 1 (y16)))(z38:OkF P w K mg base "mark_behind" 1 ["mark","row","name"] (spD K 3 (y18)))(z26:OkF P w K mg base "plain_names" 1 ["program"] (spD K 1 (y15)))(U:OkF P w K mg base "route" 4 ["starts","behind","fits"] (spR P w K mg base 3 z75)):OkF P w K mg base "spoilt" 5 ["program","code","name"] (spD K 3 (q50)):=
 DR D y41 rfl fun f A outer s H E Y=>(ac (aP Ψ (aj (au (DL.toO fm))) aA)
     (ac (dsN b9 y41.nd (DL.toO Ψ))
     (ac (dsN b9 y41.nd (DL.toO Ψ))
     (wX (i1:=5) (i2:=6) Ω (DQ (NX:=["program","code","name","rows","inner","behind","spoils","found"]) rfl) (sH (qual:="spoilt.<locals>.behind") (nsN b9 5) (nsL b9 5) y41.nd q33 B Z χ) (sH (qual:="spoilt.<locals>.spoils") (nsN b9 6) (nsL b9 6) y41.nd z41 B Z χ)
     (wY (Ak (nsN b9 7) (nsL b9 7) y41.nd (FS (i1:=5) (i2:=6) U (Y.mono Ω) (glD z84) (fun _=>rfl) (DO.toL (doC ["row"] (by kernel_rfl) (bh (DO.toB (bw ev jp Ψ Ψ))) (fun _ _ _ _=>bo) (fun _ _ _ _=>Ψ))) (pvN 5 b9) (pvN 6 b9) (NestD.of q33 (fun s cl doc pm ctv cd us W=>match us,W with|[_],_=>.of_eq rfl) fun f c' cl A outer s H Y=>(ac (ww z73 q74 q33.nd (DL.toO Ψ))
     (aj (au (wt Ψ (ca aX) (doC ["way","mark"] (by kernel_rfl) (bh Ψ) (fun _ _ _ _=>bo) (fun _ _ _ _=>Ψ))))))) (NestD.of z41 (fun s cl doc pm ctv cd us W=>match us,W with|[_],_=>.of_eq rfl) fun f c' cl A outer s H Y=>(aj (au Ψ))) q33.all z41.all))
     (aj (au (wt Ψ (DL.toO fm) (doC ["place"] (by kernel_rfl) (bh Ψ) (fun _ _ _ _=>bo) (fun _ _ _ _=>Ψ))))))))))
abbrev z39:Jb:=top 27
theorem z48:FnScope ["program","code","name","rows"] ["program","code"] (ab z39):=fnS χ
theorem dQ:cB (ab z39) ["program","code","name","rows"]=θ:=χ
theorem y87(T:Txt P w K mg)(D:DefF K mg "spoil_fault" z39 ["program","code"])(W:OkF P w K mg base "plain_names" 1 ["program"] (spD K 1 (y15)))(U:OkF P w K mg base "spoilt" 5 ["program","code","name"] (spD K 3 (q50))):OkF P w K mg base "spoil_fault" 6 ["program","code"] (spD K 2 y22):=
 br D z48 rfl fun f cdv A outer s H E Y=>(ac (bB qc3 rfl (dn Ψ) (ay (ax (nsN dQ 2) (nsL dQ 2) z48.nd)) (ac (dsN dQ z48.nd (DL.toO Ψ))
     (aj (aP Ψ (aj (au Ψ)) aA))))
     (aj (au (DL.toO fm))))
abbrev q75:Jb:=top 30
theorem q58:FnScope ["program","code","found"] ["program","code"] (ab q75):=fnS χ
theorem gp:cB (ab q75) ["program","code","found"]=θ:=χ
theorem q107(T:Txt P w K mg)(D:DefF K mg "fault" q75 ["program","code"])(Z:OkF P w K mg base "end_fault" 2 ["program","code"] (spD K 2 (q34)))(W:OkF P w K mg base "lost_fault" 5 ["program","code"] (spD K 2 (y30)))(Y:OkF P w K mg base "ring_fault" 3 ["program","code"] (spD K 2 (q29)))(U:OkF P w K mg base "spoil_fault" 6 ["program","code"] (spD K 2 (y22))):OkF P w K mg base "fault" 7 ["program","code"] (spD K 2 z55):=
 br D q58 rfl fun f cdv A outer s H E hr=>(ac (dsN gp q58.nd (DL.toO Ψ))
     (ac (aP Ψ (aj (dsN gp q58.nd (DL.toO Ψ))) aA)
     (ac (aP Ψ (aj (dsN gp q58.nd (DL.toO Ψ))) aA)
     (ac (aP Ψ (aj (dsN gp q58.nd (DL.toO Ψ))) aA)
     (aj (dw (pvN 2 gp)))))))
abbrev q86:Jb:=top 31
theorem z105:FnScope ["program","code"] ["program","code"] (ab q86):=fnS χ
theorem y106(T:Txt P w K mg)(D:DefF K mg "holds" q86 ["program","code"])(U:OkF P w K mg base "fault" 7 ["program","code"] (spD K 2 (z55))):OkF P w K mg base "holds" 8 ["program","code"] (spD K 2 q42):=br D z105 rfl fun f cdv A outer s H E W=>(aj (au Ψ))
abbrev dj:Jb:=top 48
theorem sc_law:FnScope ["_law_script","_law_program_here","_law_last","_law_need","_law_found","_law_rows","_law_labels","_law_names_here","_law_good","_law_at","_law_to","_law_number","_law_turn","_law_some","_law_row_here"] ["_law_script"] (ab dj):=fnS χ
theorem bj:cB (ab dj) ["_law_script","_law_program_here","_law_last","_law_need","_law_found","_law_rows","_law_labels","_law_names_here","_law_good","_law_at","_law_to","_law_number","_law_turn","_law_some","_law_row_here"]=θ:=χ
def q37:aB (ab dj) "isinstance"=θ:=χ
def q96:aB (ab dj) "tuple"=θ:=χ
def z77:aB (ab dj) "list"=θ:=χ
def y57:aB (ab dj) "range"=θ:=χ
def z90:aB (ab dj) "sorted"=θ:=χ
def z102:aB (ab dj) "set"=θ:=χ
def q102:aB (ab dj) "zip"=θ:=χ
theorem Eb{f:J9}{fd:qr5}(T:Txt P w K mg)(D:Fun K "law" "law" dj f fd)(q25:OkF P w K mg base "_law_cell_at" 1 ["_law_script","_law_k"] (spD K 2 (q5)))(z66:OkF P w K mg base "_law_cutting" 1 ["_law_need","_law_rows"] (spD K 2 (z19)))(Z:OkF P w K mg base "_law_digit_program" 3 ["_law_script","_law_most"] (spD K 2 (q17)))(q66:OkF P w K mg base "_law_good_to" 1 ["_law_program_here","_law_names_here","_law_i"] (spD K 3 (q30)))(W:OkF P w K mg base "_law_labels_right" 1 ["_law_labels","_law_good"] (spD K 2 (q19)))(y65:OkF P w K mg base "_law_program" 3 ["_law_script","_law_most","_law_wide"] (spD K 3 (z24)))(Y:OkF P w K mg base "_law_straight" 1 ["_law_program_here"] (spD K 1 (z16)))(z96:OkF P w K mg base "fewest" 3 ["program"] (spD K 1 (z35)))(z98:OkF P w K mg base "holds" 8 ["program","code"] (spD K 2 (q42)))(y68:OkF P w K mg base "needed" 4 ["program"] (spD K 1 (y27))):FnOk P w K mg base CX0 9 f fd ["_law_script"] (spD K 1 sQ):=
 FH D sc_law rfl fun cdv A outer s H E U=>(ac (dsN bj sc_law.nd (DL.toO Ψ))
     (ac (aP Ψ (aj (dsN bj sc_law.nd (DL.toO Ψ))) aA)
     (ac (dsN bj sc_law.nd (DL.toO Ψ))
     (ac (dsN bj sc_law.nd (DL.toO Ψ))
     (ac (dsN bj sc_law.nd Ψ)
     (ac (rh (i:=4) (DW.t (jm (m9 (dg (DO.toB (eV q37 q96 T.n_isinstance T.n_tuple f7 T.k_tuple Ψ)) (fun _=>rfl))) (kl Ψ))))
     (ac (rh (i:=4) (DW.t (jm (m9 (dg (DO.toB (eV q37 z77 T.n_isinstance T.n_list ib T.k_list Ψ)) (fun _=>rfl))) (kl (m9 (dg (DO.toB (eV q37 z77 T.n_isinstance T.n_list ib T.k_list Ψ)) (fun _=>rfl)))))))
     (ac (D9 rfl (pvN 4 bj) (ax (nsN bj 5) (nsL bj 5) sc_law.nd) (ax (nsN bj 6) (nsL bj 6) sc_law.nd))
     (ac (aP (dm (ni U) zV (DO.toB (doC ["_law_one"] (by kernel_rfl) (bh Ψ) (fun _ _ _ _=>dy (dg (DO.toB (eV χ χ T.n_isinstance T.n_bool zG T.k_bool Ψ (e1:=(scC (outer:=ab dj) rfl)))) (fun _=>rfl))) (fun _ _ _ _=>Ψ))) Ψ (bP _)) (aj ci) aA)
     (ac (aP Ψ (aj (au Ψ)) aA)
     (ac (dsN bj sc_law.nd (DL.toO (DO.toL (doC ["_law_one"] (by kernel_rfl) (bh Ψ) (fun _ _ _ _=>dy Ψ) (fun _ _ _ _=>Ψ)))))
     (ac (kw (nsN bj 8) (nsL bj 8) sc_law.nd (M:=["_law_i","_law_program_here","_law_names_here"]) (src:=[ψ,ς 1,ς 7]) (ts:=[0]) (CmpScope.of (by kernel_rfl)) rfl (DIF.toB (bG y57 T.n_range Ψ)) (fun nd _ _ _ _=>(ay (da (N:=["_law_i","_law_program_here","_law_names_here"]) (i:=0) χ χ nd (scC (outer:=ab dj) (by exact rfl))))) (fun _ _ _ _=>bo) (fun _ _ _ _=>Ψ) χ)
     (ac (aP Ψ (aj ci) aA)
     (ac (aP (DW.t (jm Ψ (jm Ψ (jm Ψ (kl (dm (ni U) zV Ψ (DO.toB (pv z90 z102 rfl T.n_sorted T.n_set Ψ)) (bP _))))))) (aj ci) aA)
     (ac (Ay (i:=5) qc3 rfl (Dv q102 T.n_zip (az (DO.toL (bw ev jp Ψ Ψ)) (az Ψ aX))) (na rfl (cJ (ay (ax (nsN bj 9) (nsL bj 9) sc_law.nd)) (cJ (ay (ax (nsN bj 10) (nsL bj 10) sc_law.nd)) jM))) Ψ)
     (ac (rh (i:=5) Ψ)
     (ac (dsN bj sc_law.nd (DL.toO Ψ))
     (ac (bB qc3 rfl (bG y57 T.n_range Ψ) (ay (ax (nsN bj 12) (nsL bj 12) sc_law.nd)) (ac (dsN bj sc_law.nd (ca aX))
     (ac (bB qc3 rfl (bG y57 T.n_range Ψ) (ay (ax (nsN bj 14) (nsL bj 14) sc_law.nd)) (ac (dsN bj sc_law.nd (DL.toO Ψ))
     (aj (aP Ψ (aj (aQ (pvN 13 bj) Ψ)) aA))))
     (aj (aP Ψ (aj ci) aA)))))
     (ac (aQ (pvN 5 bj) bv)
     (aj (au Ψ)))))))))))))))))))))
end
end P55
namespace L2
open PySem PySem.Spec PyProof.Rows
variable{i j:Int}
theorem gAdd_i:aI (.int i) (.int j)=ς (.f (.int (i+j))):=rfl
variable{x y:Str}
theorem xP(h:x.length+y.length<=qb2):aI (.str x) (.str y)=ς (.f (.str (x++y))):=if_pos h
variable{l m:η Dt}
theorem xQ(h:l.length+m.length<=qb2):aI (.e l) (.e m)=ς (.e (l++m)):=if_pos h
theorem Ec(h:jo i j=θ):jD (.int i) (.int j)=ς (.f (.int (i*j))):=if_pos h
theorem cF(h:0<j):ce (.int i) (.int j)=ς (.f (.int (i%j))):=if_pos h
theorem xR(h:oQ i j=θ):ko (.int i) (.int j)=ς (.f (.int (i^j.toNat))):=if_pos h
def xS:oQ 2 40=θ:=Ω
@[irreducible] def wide:Int:=1099511627776
def sU:wide=1099511627776:=by unfold wide;rfl
theorem GF:ko (.int 2) (.int 40)=ς (.f (.int wide)):=by rw[xR xS,sU];rfl
def xT:(0:Int)<wide:=by rw[sU];decide
theorem gMod_w:ce (.int i) (.int wide)=ς (.f (.int (i%wide))):=cF xT
theorem gCmp_i{f:Int->Int->Bool}:fV f (.int i) (.int j)=ς (.f (.bl (f i j))):=rfl
theorem FZ(h:(cmpbs l m&&decide (deeps l<=59))=θ):eqD (.t l) (.t m)=ς (peqs l m):=if_pos h
theorem F5(h:(cmpbs l m&&decide (deeps l<=59))=θ):eqD (.e l) (.e m)=ς (peqs l m):=if_pos h
variable{neg b:Bool}
theorem xU{x y:Dt}(h:eqD x y=ς b):gEq neg x y=ς (.f (.bl (if neg then !b else b))):=by unfold gEq;rw[h];rfl
theorem gEq_ii:gEq ξ (.int i) (.int j)=ς (.f (.bl (decide (i=j)))):=rfl
theorem gEq_ss{i j:Str}:gEq ξ (.str i) (.str j)=ς (.f (.bl (decide (i=j)))):=rfl
theorem gNe_ss{i j:Str}:gEq θ (.str i) (.str j)=ς (.f (.bl (!decide (i=j)))):=rfl
theorem gIs_n{x:Dt}:gIs neg x .non=ς (.f (.bl (if neg then !gh x else gh x))):=rfl
def fS:ah (.e l) (.int i)=(atI l i).map .f:=rfl
def sV:ah (.t l) (.int i)=(atI l i).map .f:=rfl
theorem F6(h:x.length<=qb2):ah (.str x) (.int i)=(atI x.cps.toList i).map fun c=>.f (.str ⟨#[c]⟩):=if_pos h
theorem F7{ks:η Key}{k:Dt}:ah (.dct ks l) k=(nn k).bind fun k=>(cg ks l k).map .f:=rfl
theorem F8{x:Dt}(h:(bV x&&l.all bV)=θ):bF neg x (.e l)=ς (.f (.bl (if neg then !(l.any fun y=>eqF y x)else l.any fun y=>eqF y x))):=by cases x<;>simp only[bF,gIn,inD]<;>first|rw[if_pos h];rfl|cases h
theorem F9{x:Dt}(h:(bV x&&l.all bV)=θ):bF neg x (.t l)=ς (.f (.bl (if neg then !(l.any fun y=>eqF y x)else l.any fun y=>eqF y x))):=by cases x<;>simp only[bF,gIn,inD]<;>first|rw[if_pos h];rfl|cases h
def gLen_l:be [.e l]=ς (.f (.int l.length)):=rfl
theorem Ed(h:fN j=θ):eh [.int j]=ς (fz 0 j.toNat):=if_pos h
theorem xV(U:-1000000000<=j)(h1:j<=1000000000):fN j=θ:=by unfold fN;simp only[qa9,decide_eq_true_eq];lia
variable{n:Nat}
theorem Ee(h:n<=1000000000):eh [.int n]=ς (fz 0 n):=by rw[Ed (xV Θ Θ)];rfl
def itD_l:itD (.e l)=ς l:=rfl
def itD_t:itD (.t l)=ς l:=rfl
def truD_b:wn (.bl b)=ς b:=rfl
def asB_b:asB (.f (.bl b))=ς b:=rfl
def Ga{b:Int}:asI (.int b)=ς b:=rfl
def small(h:n<=1000000):n<=qb2:=qc0 h Ω
def gq(h:n<1000000):n<qb2:=qc2 h Ω
variable{f:De->ζ (η Dt)}{δ:De}{ds:η Dt}
theorem sW(h:f δ=ς ds)(U:ds.length<=1000000):aU f δ=ς (.e ds):=by unfold aU;rw[h];exact if_pos (small U)
variable{g2:De->ζ Out}
theorem ap{g1:De->ζ Out}{δ':De}(h:g1 δ=ς (.nx δ')):ai g1 g2 δ=g2 δ':=by unfold ai;rw[h];rfl
theorem xW{g1:De->ζ Out}{t:T}(h:g1 δ=ς (.rt t)):ai g1 g2 δ=ς (.rt t):=by unfold ai;rw[h];rfl
theorem mem_range{lo:Int}{d:Dt}(h:d∈fz lo n):∃i:Nat,i<n/\d=.int (lo+i):=by unfold fz at h;obtain⟨i,hi,rfl⟩:=qc8.mp h;exact⟨i,qd8.mp hi,rfl⟩
variable{src:η (ζ Nat)}{fi:De->ζ (η Dt)}{bb:Dt->De->ζ De}{ft:De->ζ Bool}{fe:De->ζ Dt}
theorem xX{ys:η Dt}(h1:fi δ=ς ds)(h2:bK bb ft fe (dC src δ) ds=ς ys)(h3:ys.length<=1000000):aH src fi bb ft fe δ=ς (.e ys):=by unfold aH;rw[h1,qa6,h2,qa6];exact if_pos (small h3)
variable{g:De->ζ Out}{δ1:De}
theorem aD{d:Dt}{r:η Dt}{δ2:De}(h1:bb d δ=ς δ1)(h2:g δ1=ς (.nx δ2)):b7 bb g (d::r) δ=b7 bb g r δ2:=by show((bb d δ).bind fun δ1=>(g δ1).bind fun o=>match o with|.nx δ2=>b7 bb g r δ2|.ct δ2=>b7 bb g r δ2|.bk δ2=>ς (.nx δ2)|.rt t=>ς (.rt t))=_;rw[h1,qa6,h2];rfl
theorem bn{α:Type}{l:η α}{k:Nat}:atI l (k:Int)=l[k]?:=by
 unfold atI ixN;rw[if_pos Θ];by_cases h:k<l.length
 .rw[if_pos Θ];simp
 .rw[if_neg Θ];simp;lia
theorem i9(h1:-1000000000000000000<j)(h2:j<1000000000000000000):jD (.int i) (.int j)=ς (.f (.int (i*j))):=Ec (zS h1 h2)
def xY(o:ζ Out)(g:De->ζ Out):ζ Out:=o.bind fun o=>match o with
 |.nx U=>g U
 |o=>ς o
def bX{g1:De->ζ Out}:ai g1 g2 δ=xY (g1 δ) g2:=rfl
def ck:xY (ς (.nx δ)) g=g δ:=rfl
def Gb{t:T}:xY (ς (.rt t)) g=ς (.rt t):=rfl
def Ef:ζ Out->ζ T
 |some (.rt t)=>ς t
 |some (.nx _)=>ς (.f .non)
 |_=>ψ
theorem xZ{m:Nat}:bC m g ds=Ef (g (ds.map (fun d=>ς (.f d))++qb9 (m-ds.length) ψ)):=rfl
def GG{t:T}:Ef (ς (.rt t))=ς t:=rfl
def jv{α:Type}(b:ζ Bool)(f g:De->ζ α)(δ:De):ζ α:=b.bind fun b=>if b then f δ else g δ
theorem jS{α:Type}{f g:De->ζ α}:jv (ς θ) f g δ=f δ:=rfl
theorem jT{α:Type}{f g:De->ζ α}:jv (ς ξ) f g δ=g δ:=rfl
theorem fF{α:Type}{f g:De->ζ α}(h:b=θ):jv (ς b) f g δ=f δ:=by subst h;rfl
theorem eC{α:Type}{f g:De->ζ α}(h:b=ξ):jv (ς b) f g δ=g δ:=by subst h;rfl
variable{c:De->ζ Bool}
theorem pJ{g1:De->ζ Out}:sIf c g1 g2 δ=jv (c δ) g1 g2 δ:=rfl
theorem vIf_d{g1 g2:De->ζ T}:vIf c g1 g2 δ=jv (c δ) g1 g2 δ:=rfl
def kB(b:Bool):De->ζ Bool:=fun _=>ς b
def kB_d:kB b δ=ς b:=rfl
theorem ja{f g:De->ζ Bool}:cR f g δ=jv (f δ) g (kB ξ) δ:=rfl
theorem Gc{f g:De->ζ Bool}:fOr f g δ=jv (f δ) (kB θ) g δ:=rfl
def mkL(ds:η Dt):ζ T:=if ds.length<=qb2 then ς (.e ds)else ψ
def mkTp(ds:η Dt):ζ T:=if ds.length<=qb2 then ς (.f (.t ds))else ψ
theorem cO(h:ds.length<=1000000):mkL ds=ς (.e ds):=if_pos (small h)
theorem GH(h:ds.length<=1000000):mkTp ds=ς (.f (.t ds)):=if_pos (small h)
def ya:aU f δ=(f δ).bind mkL:=rfl
def vTup_d:aG f δ=(f δ).bind mkTp:=rfl
theorem GI:aH src fi bb ft fe δ=(fi δ).bind fun ds=>(bK bb ft fe (dC src δ) ds).bind mkL:=rfl
def appL(l:η Dt)(i:Nat)(δ:De)(d:Dt):ζ Out:=if l.length<qb2 then ς (.nx (δ.set i (ς (.e (l++[d])))))else ψ
theorem sX{i:Nat}{d:Dt}(h:l.length<1000000):appL l i δ d=ς (.nx (δ.set i (ς (.e (l++[d]))))):=if_pos (gq h)
theorem BJ{i:Nat}{f:De->ζ Dt}(h:δ[i]?=ς (ς (.e l))):z9 i f δ=(f δ).bind (appL l i δ):=by unfold z9;rw[h];rfl
theorem kZ:∀ts:η Str,iV (ts.map .str)=ς ts
 |[]=>rfl
 |t::r=>by show(iV (r.map .str)).map (t::·)=_;rw[kZ r];rfl
theorem Eg{α:Type}{xs:η α}(W:0<=i)(h1:i<xs.length):∃v,atI xs i=ς v/\v∈xs:=by
 obtain⟨n,rfl⟩:=Int.eq_ofNat_of_zero_le W;have U:n<xs.length:=by lia
 exact⟨xs[n],zy (by simp[U]),qx1 U⟩
theorem Az(x:Str):x.length=x.cps.toList.length:=by show x.cps.size=_;simp
theorem jU(Y:x.length<=1000000)(W:0<=i)(h1:i<x.length):∃c,ah (.str x) (.int i)=ς (.f (.str ⟨#[c]⟩))/\c∈x.cps.toList:=by obtain⟨c,e,U⟩:=Eg (xs:=x.cps.toList) W (by rw[<- Az];exact h1);refine⟨c,?_,U⟩;rw[F6 (small Y),e];rfl
theorem jV(h:l.length+m.length<=1000000):aI (.e l) (.e m)=ς (.e (l++m)):=xQ (small h)
def GJ:bV (.int i)=θ:=rfl
def GK:bV (.str x)=θ:=rfl
theorem eqF_s:eqF (.str x) (.str y)=decide (x=y):=by show(x==y)=_;rw[qj0];simp
theorem eqF_i{x y:Int}:eqF (.int x) (.int y)=decide (x=y):=by show(x==y)=_;rw[qj0];simp
theorem fG:∀{l m:η Dt},l.all bV=θ->m.all bV=θ->cmpbs l m=θ
 |[],m,_,_=>by cases m<;>simp[cmpbs]
 |_::_,[],_,_=>by simp[cmpbs]
 |d::l,e::m,h,h'=>by
  simp only[qm2,qa9]at h h';simp only[cmpbs,fG h.2 h'.2,qu9];cases d<;>first|(cases h.1;done)|skip
  all_goals cases e<;>first|(cases h'.1;done)|rfl
theorem fH:∀{l:η Dt},l.all bV=θ->deeps l=0
 |[],_=>by simp[deeps]
 |d::l,h=>by simp only[qm2,qa9]at h;simp only[deeps,fH h.2];cases d<;>first|(cases h.1;done)|rfl
theorem k5(U:l.all bV=θ)(W:m.all bV=θ):gEq neg (.e l) (.e m)=ς (.f (.bl (if neg then !peqs l m else peqs l m))):=xU (F5 (by rw[fG U W,fH U];rfl))
theorem yb(U:l.all bV=θ):gEq neg (.e l) (.e l)=ς (.f (.bl (!neg))):=by rw[k5 U U,peqs_self];cases neg<;>rfl
theorem jb:cE fi bb g δ=(fi δ).bind fun ds=>b7 bb g ds δ:=rfl
def atI_0{α:Type}{l:η α}:atI l 0=l[0]?:=bn (k:=0)
def atI_1{α:Type}{l:η α}:atI l 1=l[1]?:=bn (k:=1)
def atI_2{α:Type}{l:η α}:atI l 2=l[2]?:=bn (k:=2)
theorem atI_3{α:Type}{l:η α}:atI l 3=l[3]?:=bn (k:=3)
theorem atI_4{α:Type}{l:η α}:atI l 4=l[4]?:=bn (k:=4)
theorem atI_5{α:Type}{l:η α}:atI l 5=l[5]?:=bn (k:=5)
open PySem
def Eh:(qa0 "copy"=qa0 "op")=False:=ω
def AA:(qa0 "copy"=qa0 "load")=False:=ω
def yS:(qa0 "copy"=qa0 "store")=False:=ω
def AB:(qa0 "copy"=qa0 "take")=False:=ω
def BK:(qa0 "copy"=qa0 "lay")=False:=ω
def AC:(qa0 "copy"=qa0 "hear")=False:=ω
def BL:(qa0 "copy"=qa0 "say")=False:=ω
def Ei:(qa0 "copy"=qa0 "if")=False:=ω
def Ej:(qa0 "copy"=qa0 "go")=False:=ω
def BM:(qa0 "copy"=qa0 "end")=False:=ω
def Ek:(qa0 "op"=qa0 "copy")=False:=ω
def El:(qa0 "op"=qa0 "load")=False:=ω
def BN:(qa0 "op"=qa0 "store")=False:=ω
def Em:(qa0 "op"=qa0 "take")=False:=ω
def EW:(qa0 "op"=qa0 "lay")=False:=ω
def Eo:(qa0 "op"=qa0 "hear")=False:=ω
def EX:(qa0 "op"=qa0 "say")=False:=ω
def Ge:(qa0 "op"=qa0 "if")=False:=ω
def Gf:(qa0 "op"=qa0 "go")=False:=ω
def EY:(qa0 "op"=qa0 "end")=False:=ω
def AD:(qa0 "load"=qa0 "copy")=False:=ω
def Ep:(qa0 "load"=qa0 "op")=False:=ω
def yT:(qa0 "load"=qa0 "store")=False:=ω
def AE:(qa0 "load"=qa0 "take")=False:=ω
def BO:(qa0 "load"=qa0 "lay")=False:=ω
def AF:(qa0 "load"=qa0 "hear")=False:=ω
def BP:(qa0 "load"=qa0 "say")=False:=ω
def Er:(qa0 "load"=qa0 "if")=False:=ω
def Es:(qa0 "load"=qa0 "go")=False:=ω
def BQ:(qa0 "load"=qa0 "end")=False:=ω
def yU:(qa0 "store"=qa0 "copy")=False:=ω
def BR:(qa0 "store"=qa0 "op")=False:=ω
def yV:(qa0 "store"=qa0 "load")=False:=ω
def yW:(qa0 "store"=qa0 "take")=False:=ω
def AG:(qa0 "store"=qa0 "lay")=False:=ω
def yX:(qa0 "store"=qa0 "hear")=False:=ω
def AH:(qa0 "store"=qa0 "say")=False:=ω
def BS:(qa0 "store"=qa0 "if")=False:=ω
def BT:(qa0 "store"=qa0 "go")=False:=ω
def AI:(qa0 "store"=qa0 "end")=False:=ω
def AJ:(qa0 "take"=qa0 "copy")=False:=ω
def Et:(qa0 "take"=qa0 "op")=False:=ω
def AK:(qa0 "take"=qa0 "load")=False:=ω
def yY:(qa0 "take"=qa0 "store")=False:=ω
def BU:(qa0 "take"=qa0 "lay")=False:=ω
def AL:(qa0 "take"=qa0 "hear")=False:=ω
def BV:(qa0 "take"=qa0 "say")=False:=ω
def Eu:(qa0 "take"=qa0 "if")=False:=ω
def Ev:(qa0 "take"=qa0 "go")=False:=ω
def BW:(qa0 "take"=qa0 "end")=False:=ω
def BX:(qa0 "lay"=qa0 "copy")=False:=ω
def EZ:(qa0 "lay"=qa0 "op")=False:=ω
def BY:(qa0 "lay"=qa0 "load")=False:=ω
def AM:(qa0 "lay"=qa0 "store")=False:=ω
def BZ:(qa0 "lay"=qa0 "take")=False:=ω
def B0:(qa0 "lay"=qa0 "hear")=False:=ω
def Ew:(qa0 "lay"=qa0 "say")=False:=ω
def E2:(qa0 "lay"=qa0 "if")=False:=ω
def E3:(qa0 "lay"=qa0 "go")=False:=ω
def Ey:(qa0 "lay"=qa0 "end")=False:=ω
def AN:(qa0 "hear"=qa0 "copy")=False:=ω
def Ez:(qa0 "hear"=qa0 "op")=False:=ω
def AO:(qa0 "hear"=qa0 "load")=False:=ω
def yZ:(qa0 "hear"=qa0 "store")=False:=ω
def AQ:(qa0 "hear"=qa0 "take")=False:=ω
def B1:(qa0 "hear"=qa0 "lay")=False:=ω
def B2:(qa0 "hear"=qa0 "say")=False:=ω
def EA:(qa0 "hear"=qa0 "if")=False:=ω
def EB:(qa0 "hear"=qa0 "go")=False:=ω
def B3:(qa0 "hear"=qa0 "end")=False:=ω
def AR:(qa0 "say"=qa0 "store")=False:=ω
def E4:(qa0 "say"=qa0 "if")=False:=ω
def E5:(qa0 "say"=qa0 "go")=False:=ω
def EC:(qa0 "say"=qa0 "end")=False:=ω
def B4:(qa0 "if"=qa0 "store")=False:=ω
def Gg:(qa0 "if"=qa0 "go")=False:=ω
def B5:(qa0 "go"=qa0 "store")=False:=ω
def AS:(qa0 "end"=qa0 "store")=False:=ω
def E6:(qa0 "end"=qa0 "if")=False:=ω
def E7:(qa0 "end"=qa0 "go")=False:=ω
variable{J5:η Str}
def yc{k:Str}:x∈cW J5 k↔x∈J5∨x=k:=by
 unfold cW;split
 .rename_i h;exact⟨.inl,fun z=>z.elim id fun e=>e▸h⟩
 .simp
theorem gr:∀{ss J5:η Str},x∈ss.foldl cW J5↔x∈J5∨x∈ss
 |[],J5=>by simp
 |s::ss,J5=>by rw[qi4,gr,yc,qa5,or_assoc]
variable{ss:η Str}
theorem onces_mem:x∈cj ss↔x∈ss:=by unfold cj;rw[gr];simp
def rj{k:Str}(h:J5.Nodup):(cW J5 k).Nodup:=by
 unfold cW;split
 .exact h
 .rename_i hk;rw[qm6];exact⟨h,Ξ,fun a U b W e=>hk (by rw[qb1.mp W]at e;exact e▸U)⟩
theorem e7:∀{ss J5:η Str},J5.Nodup->(ss.foldl cW J5).Nodup
 |[],J5,h=>h
 |s::ss,J5,h=>by rw[qi4];exact e7 (rj h)
def jw(ss:η Str):(cj ss).Nodup:=e7 qs5
def Sd(l:η Str):Prop:=l.Pairwise fun a b=>leS a b=θ/\a≠b
def AT(U:ss.Nodup):Sd (fP ss):=by
 have h1:=iB ss;have h2:(fP ss).Pairwise fun a b=>a≠b:=(cV ss).nodup_iff.mpr U
 exact h1.and h2
theorem Sd.nodup{l:η Str}(h:Sd l):l.Nodup:=qv9 (fun z=>z.2) h
theorem yd:∀{l m:η Str},Sd l->Sd m->(∀x,x∈l↔x∈m)->l=m
 |[],[],_,_,_=>rfl
 |[],b::m,_,_,h=>by simpa using (h b).mpr (.head _)
 |a::l,[],_,_,h=>by simpa using (h a).mp (.head _)
 |a::l,b::m,Z,hm,h=>by
  have U:=qg6.mp Z;have W:=qg6.mp hm
  have e:a=b:=by
   rcases qa5.mp ((h a).mp (.head _))with z|z
   .exact z
   .rcases qa5.mp ((h b).mpr (.head _))with y|y
    .exact y.symm
    .exact pb (U.1 b y).1 (W.1 a z).1
  subst e;congr 1;refine yd U.2 W.2 fun x=>⟨fun Y=>?_,fun Y=>?_⟩
  .rcases qa5.mp ((h x).mp (.tail _ Y))with z|z
   .exact absurd z.symm (U.1 x Y).2
   .exact z
  .rcases qa5.mp ((h x).mpr (.tail _ Y))with z|z
   .exact absurd z.symm (W.1 x Y).2
   .exact z
theorem cw{α:Type}[DecidableEq α]:∀{l m:η α},l.Nodup->(∀x∈l,x∈m)->l.length<=m.length
 |[],m,_,_=>qk6 _
 |a::l,m,h,W=>by
  obtain⟨h1,h2⟩:=qg0.mp h;have U:a∈m:=W a (.head _);have:=cw (m:=m.erase a) h2 fun x Y=>(List.mem_erase_of_ne (show x≠a from fun e=>h1 (by rw[<- e];exact Y))).mpr (W x (.tail _ Y))
  rw[List.length_erase_of_mem U]at this;have hp:=List.length_pos_of_mem U;rw[qe4];lia
theorem Gh{l m:η Str}(W:Sd l)(hm:Sd m)(h:∀x∈l,x∈m)(Y:l≠m):l.length<m.length:=by
 by_cases z:∃x,x∈m/\x∉l
 .obtain⟨x,h1,h2⟩:=z
  have:=cw (l:=x::l) (m:=m) (qg0.mpr ⟨h2,W.nodup⟩) fun y U=>by
   rcases qa5.mp U with rfl|U
   .exact h1
   .exact h y U
  rw[qe4]at this;lia
 .exact absurd (yd W hm fun x=>⟨h x,fun Z=>qs7 fun q=>z ⟨x,Z,q⟩⟩) Y
inductive Atm where
 |nm (x:Str)|vl (i:Int)
inductive Rw where
 |copy (x:Str) (a:Atm)|op (x s:Str) (a b:Atm)|load (x c:Str)|store (c:Str) (a:Atm)|take (x f:Str) (a:Atm)|lay (f:Str) (a b:Atm)|hear (x:Str)|say (a:Atm)|iff (a:Atm) (g:Nat)|go (g:Nat)|fin (a:Atm)
noncomputable def Rw.atoms:Rw->η Atm
 |.copy _ a=>[a]|.op _ _ a b=>[a,b]|.load _ _=>[]|.store _ a=>[a]|.take _ _ a=>[a]|.lay _ a b=>[a,b]|.hear _=>[]|.say a=>[a]|.iff a _=>[a]|.go _=>[]|.fin a=>[a]
def nms:η Atm->η Str
 |[]=>[]
 |.nm x::r=>x::nms r
 |.vl _::r=>nms r
def Rw.reads(r:Rw):η Str:=cj (nms r.atoms)
noncomputable def Rw.sets:Rw->ζ Str
 |.copy x _=>ς x|.op x _ _ _=>ς x|.load x _=>ς x|.take x _ _=>ς x|.hear x=>ς x
 |_=>ψ
noncomputable def Rw.outs(n:Nat):Rw->η Nat
 |.go g=>[g]|.iff _ g=>[g,n+1]|.fin _=>[]
 |_=>[n+1]
theorem nM:∀l:η Atm,(nms l).length<=l.length
 |[]=>nL _
 |.nm x::r=>Nat.succ_le_succ (nM r)
 |.vl _::r=>Nat.le_succ_of_le (nM r)
def Rw.reads_len(r:Rw):r.reads.length<=2:=by
 have h1:=my (nms r.atoms);have h2:=nM r.atoms;have h3:r.atoms.length<=2:=by cases r<;>simp[Rw.atoms]
 unfold Rw.reads;lia
theorem Rw.outs_len(r:Rw)(n:Nat):(r.outs n).length<=2:=by cases r<;>simp[Rw.outs]
def jx(r:Rw)(U:η (η Str)):η Str:=U.flatMap fun l=>l.filter fun b=>decide (r.sets≠ς b)
def NA(r:Rw)(U:η (η Str)):η Str:=fP (cj (r.reads++jx r U))
def u6:x∈fP ss↔x∈ss:=(cV ss).mem_iff
variable{r:Rw}
theorem ED{Y:η (η Str)}{b:Str}:b∈NA r Y↔b∈r.reads∨(r.sets≠ς b/\∃l∈Y,b∈l):=by
 unfold NA jx;rw[u6,onces_mem,qi3,List.mem_flatMap];constructor
 .rintro(h|⟨l,W,U⟩)
  .exact .inl h
  .rw[qi1,decide_eq_true_eq]at U;exact .inr ⟨U.2,l,W,U.1⟩
 .rintro(h|⟨h,l,W,U⟩)
  .exact .inl h
  .exact .inr ⟨l,W,qi1.mpr ⟨U,decide_eq_true_eq.mpr h⟩⟩
def Gi(r:Rw)(U:η (η Str)):Sd (NA r U):=AT (jw _)
inductive Needs(J0:List Rw):Nat->Str->Prop
 |here {i:Nat} {r:Rw} {b:Str}:J0[i]?=ς r->b∈r.reads->Needs J0 i b
 |on {i j:Nat} {r:Rw} {b:Str}:J0[i]?=ς r->r.sets≠ς b->j∈r.outs i->Needs J0 j b->Needs J0 i b
def nw(J0:η Rw)(J3:η (η Str))(i:Nat):η Str:=match J0[i]? with
 |some r=>NA r ((r.outs i).map fun j=>J3.getD j [])
 |none=>[]
variable{J0:η Rw}
theorem rk{J3:η (η Str)}{i:Nat}{b:Str}(h:J0[i]?=ς r):b∈nw J0 J3 i↔b∈r.reads∨(r.sets≠ς b/\∃j∈r.outs i,b∈J3.getD j []):=by
 unfold nw;rw[h];show b∈NA r _↔_;rw[ED];simp only[qc8];constructor
 .rintro(h|⟨h,l,⟨j,W,rfl⟩,U⟩)
  .exact .inl h
  .exact .inr ⟨h,j,W,U⟩
 .rintro(h|⟨h,j,W,U⟩)
  .exact .inl h
  .exact .inr ⟨h,_,⟨j,W,rfl⟩,U⟩
theorem B6(J0:η Rw)(J3:η (η Str))(i:Nat):Sd (nw J0 J3 i):=by
 unfold nw;split
 .exact Gi _ _
 .exact qr7
theorem nN{α:Type}{l:η (η α)}{j:Nat}{b:α}(h:b∈l.getD j []):∃m,l[j]?=ς m/\b∈m:=by
 rw[qb4]at h;cases q:l[j]? with
 |none=>rw[q]at h;simp at h
 |some m=>rw[q]at h;exact⟨m,rfl,h⟩
theorem nO{α:Type}{l:η (η α)}{j:Nat}{m:η α}(h:l[j]?=ς m):l.getD j []=m:=by rw[qb4,h];rfl
structure Fnd(J0:List Rw)(B:List Str)(J3:List (List Str)):Prop where
 len:J3.length=J0.length
 sd:∀(i:Nat)(l:List Str),J3[i]?=ς l->Sd l
 sub:∀(i:Nat)(l:List Str)(b:Str),J3[i]?=ς l->b∈l->b∈B
 nd:∀(i:Nat)(l:List Str)(b:Str),J3[i]?=ς l->b∈l->Needs J0 i b
 inc:∀(i:Nat)(l:List Str)(b:Str),J3[i]?=ς l->b∈l->b∈nw J0 J3 i
def tot(J3:η (η Str)):Nat:=(J3.map qp7).sum
theorem Fnd.start{B:η Str}:Fnd J0 B (J0.map fun _=>[]):=by
 have W:∀(i:Nat)(l:η Str),(J0.map fun _=>([]:η Str))[i]?=ς l->l=[]:=fun i l h=>by rw[qb3]at h;obtain⟨r,_,e⟩:=mS h;exact e.symm
 refine⟨Ξ,fun i l h=>?_,fun i l b h U=>?_,fun i l b h U=>?_,fun i l b h U=>?_⟩
 .rw[W i l h];exact qr7
 all_goals (rw[W i l h]at U;cases U)
section
variable{J0:η Rw}{B:η Str}{J3:η (η Str)}
theorem sY{f g:η (η Str)}(h:∀j b,b∈f.getD j []->b∈g.getD j []){i:Nat}{b:Str}(U:b∈nw J0 f i):b∈nw J0 g i:=by
 cases q:J0[i]? with
 |none=>unfold nw at U;rw[q]at U;cases U
 |some r=>rw[rk q]at U ⊢;exact U.imp id fun⟨h1,j,W,U⟩=>⟨h1,j,W,h j b U⟩
theorem Fnd.step(F:Fnd J0 B J3)(hB:∀(i:Nat)(r:Rw)(b:Str),J0[i]?=ς r->b∈r.reads->b∈B){i:Nat}(hi:i<J0.length):Fnd J0 B (J3.set i (nw J0 J3 i)):=by
 have Z:i<J3.length:=by rw[F.len];exact hi
 obtain⟨r,hr⟩:∃r,J0[i]?=ς r:=⟨J0[i],by simp[hi]⟩
 have mono:∀j b,b∈J3.getD j []->b∈(J3.set i (nw J0 J3 i)).getD j []:=fun j b U=>by
  obtain⟨m,W,Y⟩:=nN U;by_cases e:i=j
  .subst e;rw[nO (qd0 Z)];exact F.inc i m b W Y
  .rw[nO (l:=J3.set i (nw J0 J3 i)) (m:=m) (by rw[gN e];exact W)];exact Y
 refine⟨by simp[F.len],fun j l h=>?_,fun j l b h U=>?_,fun j l b h U=>?_,fun j l b h U=>?_⟩
 .by_cases e:i=j
  .subst e;rw[qd0 Z]at h;cases h;exact B6 _ _ _
  .rw[gN e]at h;exact F.sd j l h
 .by_cases e:i=j
  .subst e;rw[qd0 Z]at h;cases h;rcases(rk hr).mp U with z|⟨_,j,_,z⟩
   .exact hB i r b hr z
   .obtain⟨m,W,U⟩:=nN z;exact F.sub j m b W U
  .rw[gN e]at h;exact F.sub j l b h U
 .by_cases e:i=j
  .subst e;rw[qd0 Z]at h;cases h;rcases(rk hr).mp U with z|⟨h1,j,hj,z⟩
   .exact .here hr z
   .obtain⟨m,W,U⟩:=nN z;exact .on hr h1 hj (F.nd j m b W U)
  .rw[gN e]at h;exact F.nd j l b h U
 .by_cases e:i=j
  .subst e;rw[qd0 Z]at h;cases h;exact sY mono U
  .rw[gN e]at h;exact sY mono (F.inc j l b h U)
theorem sZ:∀{J3:η (η Str)}{i:Nat}{l m:η Str},J3[i]?=ς l->tot (J3.set i m)+l.length=tot J3+m.length
 |[],i,l,m,h=>by simp at h
 |x::f,0,l,m,h=>by simp at h;subst h;simp only[tot,qv0,qa4,qv4];lia
 |x::f,i+1,l,m,h=>by have:=sZ (J3:=f) (i:=i) (l:=l) (m:=m) (by simpa using h);simp only[tot,qv1,qa4,qv4]at this ⊢;lia
theorem tot_le:∀{J3:η (η Str)},(∀l∈J3,l.length<=n)->tot J3<=J3.length*n
 |[],_=>by simp[tot]
 |x::f,h=>by
  have:=tot_le (J3:=f) fun l U=>h l (.tail _ U)
  have h1:=h x (.head _);simp only[tot,qa4,qv4,qe4,zl9]at this ⊢;lia
theorem Fnd.short(F:Fnd J0 B J3){i:Nat}{l:η Str}(h:J3[i]?=ς l):l.length<=B.length:=cw (F.sd i l h).nodup fun b U=>F.sub i l b h U
theorem Fnd.tot_le(F:Fnd J0 B J3):tot J3<=J0.length*B.length:=by
 rw[<- F.len];refine L2.tot_le fun l U=>?_
 obtain⟨i,h⟩:=qo1 U;exact F.short h
theorem Fnd.more(F:Fnd J0 B J3){i:Nat}{l:η Str}(h:J3[i]?=ς l)(U:nw J0 J3 i≠l):tot J3<tot (J3.set i (nw J0 J3 i)):=by have h1:=sZ (m:=nw J0 J3 i) h;have h2:=Gh (F.sd i l h) (B6 J0 J3 i) (fun x W=>F.inc i l x h W) (qh5 U);lia
def Fix(J0:η Rw)(J3:η (η Str)):Prop:=∀(i:Nat)(l:η Str),J3[i]?=ς l->nw J0 J3 i=l
end
def Atm.d:Atm->Dt
 |.nm x=>.str x
 |.vl i=>.int i
def Rw.d:Rw->Dt
 |.copy x a=>.t [.str "copy",.str x,a.d]
 |.op x s a b=>.t [.str "op",.str x,.str s,a.d,b.d]
 |.load x c=>.t [.str "load",.str x,.str c]
 |.store c a=>.t [.str "store",.str c,a.d]
 |.take x f a=>.t [.str "take",.str x,.str f,a.d]
 |.lay f a b=>.t [.str "lay",.str f,a.d,b.d]
 |.hear x=>.t [.str "hear",.str x]
 |.say a=>.t [.str "say",a.d]
 |.iff a g=>.t [.str "if",a.d,.int g]
 |.go g=>.t [.str "go",.int g]
 |.fin a=>.t [.str "end",a.d]
noncomputable def dI(j:Nat):Dt:=.int (j:Int)
noncomputable def dS(l:η Str):Dt:=.e (l.map .str)
def dF(f:η (η Str)):Dt:=.e (f.map dS)
def dR(J0:η Rw):Dt:=.t (J0.map Rw.d)
theorem aY{α:Type}{f h:α->Dt}:∀{l:η α},(∀a∈l,∃ δ1,bb (f a) δ=ς δ1/\ft δ1=ς θ/\fe δ1=ς (h a))->bK bb ft fe δ (l.map f)=ς (l.map h)
 |[],_=>rfl
 |a::l,q=>by obtain⟨δ1,h1,h2,h3⟩:=q a qe7;rw[qa4];unfold bK;rw[h1,qa6,h2,qa6,if_pos rfl,h3,qa6,aY fun e U=>q e (qd4 _ U)];rfl
theorem bO{α:Type}{f h:α->Dt}{p:α->Bool}:∀{l:η α},(∀a∈l,∃ δ1,bb (f a) δ=ς δ1/\ft δ1=ς (p a)/\(p a=θ->fe δ1=ς (h a)))->bK bb ft fe δ (l.map f)=ς ((l.filter p).map h)
 |[],_=>rfl
 |a::l,q=>by
  obtain⟨δ1,h1,h2,h3⟩:=q a qe7;have U:=bO (l:=l) fun e W=>q e (qd4 _ W)
  rw[qa4];unfold bK;rw[h1,qa6,h2,qa6];cases hp:p a with
  |true=>rw[if_pos rfl,h3 hp,qa6,U,List.filter_cons_of_pos hp];rfl
  |false=>rw[if_neg Ξ,U,List.filter_cons_of_neg (by simp[hp])]
theorem u7{α:Type}{f:α->Dt}:∀(l:η α)(i:Nat),dM i (l.map f)=(l.mapIdx fun k a=>Dt.t [.int ((i+k:Nat):Int),f a])
 |[],_=>rfl
 |a::l,i=>by rw[qa4,dM,u7 l (i+1),List.mapIdx_cons];congr 1;congr 1;funext k a;rw[show i+1+k=i+(k+1)by lia]
theorem k6{α:Type}{f:α->Dt}{h:Nat->α->Dt}:∀{l:η α}(i:Nat),(∀k a,∃ δ1,bb (.t [.int ((k:Nat):Int),f a]) δ=ς δ1/\fe δ1=ς (h k a))->bK bb bi fe δ (dM i (l.map f))=ς (l.mapIdx fun k a=>h (i+k) a)
 |[],_,_=>rfl
 |a::l,i,q=>by obtain⟨δ1,h1,h3⟩:=q i a;rw[qa4,dM];unfold bK;rw[h1,qa6];show((fe δ1).bind fun y=>_)=_;rw[h3,qa6,k6 (i+1) q,List.mapIdx_cons];show ς _=ς _;congr 1;congr 1;congr 1;funext k a;rw[show i+1+k=i+(k+1)by lia]
theorem dA(l:η Str):(l.map Dt.str).all bV=θ:=by rw[qk9];intro x U;obtain⟨y,_,rfl⟩:=qc8.mp U;rfl
theorem tj(l:η Str)(x:Str):((l.map Dt.str).any fun y=>eqF y (.str x))=decide (x∈l):=by
 induction l with
 |nil=>rfl
 |cons a l U=>
  rw[qa4,ql2,U,show eqF (.str a) (.str x)=decide (a=x)from rfl];by_cases h:a=x
  .simp[h]
  .have:¬ x=a:=fun z=>h z.symm
   simp[h,this]
theorem k7{l:η Str}:bF neg (.str x) (.e (l.map .str))=ς (.f (.bl (if neg then !decide (x∈l)else decide (x∈l)))):=by rw[F8 (by rw[dA];rfl),tj]
theorem pK{l:η Str}(h:l.length<64):iF [.e (l.map .str)]=ς (.e ((fP (cj l)).map .str)):=by unfold iF uQ;dsimp only;rw[kZ,qa6,if_pos ⟨Θ,Nat.lt_of_le_of_lt (my l) h⟩]
def extL(l m:η Dt)(i:Nat)(δ:De):ζ Out:=if l.length+m.length<=qb2 then ς (.nx (δ.set i (ς (.e (l++m)))))else ψ
theorem AU{i:Nat}(h:l.length+m.length<=1000000):extL l m i δ=ς (.nx (δ.set i (ς (.e (l++m))))):=if_pos (small h)
theorem Gj{i:Nat}{f:De->ζ T}(h:δ[i]?=ς (ς (.e l)))(U:f δ=ς (.e m)):y59 i f δ=extL l m i δ:=by unfold y59;rw[h];dsimp only;rw[U];rfl
theorem mI:∀{l m:η Str},peqs (l.map .str) (m.map .str)=decide (l=m)
 |[],[]=>rfl
 |[],_::_=>rfl
 |_::_,[]=>rfl
 |a::l,b::m=>by rw[qa4,qa4];show(decide (a=b)&&peqs (l.map .str) (m.map .str))=_;rw[mI];by_cases h1:a=b<;>by_cases h2:l=m<;>simp[h1,h2]
theorem ye{l m:η Str}:gEq neg (.e (l.map .str)) (.e (m.map .str))=ς (.f (.bl (if neg then !decide (l=m)else decide (l=m)))):=by rw[k5 (dA l) (dA m),mI]
theorem ar{i:Nat}{f:De->ζ T}{t:T}(h:f δ=ς t):al i f δ=ς (.nx (δ.set i (ς t))):=by unfold al;rw[h];rfl
theorem jI{g1:De->ζ Out}(h:c δ=ς θ):sIf c g1 g2 δ=g1 δ:=by unfold sIf;rw[h];rfl
theorem gt{g1:De->ζ Out}(h:c δ=ς ξ):sIf c g1 g2 δ=g2 δ:=by unfold sIf;rw[h];rfl
theorem iH(h:c δ=ς θ)(U:g δ=ς (.nx δ1)):aT c g (n+1) δ=aT c g n δ1:=by
 conv=>lhs;unfold aT
 rw[h,qa6,if_pos rfl,U];rfl
theorem yf{t:T}(h:c δ=ς θ)(U:g δ=ς (.rt t)):aT c g (n+1) δ=ς (.rt t):=by
 conv=>lhs;unfold aT
 rw[h,qa6,if_pos rfl,U];rfl
def jW(h:c δ=ς ξ):aT c g (n+1) δ=ς (.nx δ):=by
 conv=>lhs;unfold aT
 rw[h];rfl
theorem jX{m:Nat}{t:T}(h:g (ds.map (fun d=>ς (T.f d))++qb9 (m-ds.length) ψ)=ς (.rt t)):bC m g ds=ς t:=by unfold bC;rw[h]
theorem EE{k:Nat}(h:k<n):ixN n (k:Int)=ς k:=by unfold ixN;rw[if_pos Θ,if_pos Θ];simp
variable{fk:De->ζ Dt}
theorem yg{i k:Nat}{d:Dt}(h:δ[i]?=ς (ς (.e l)))(hk:fk δ=ς (dI k))(U:fe δ=ς d)(W:k<l.length):np i fk fe δ=ς (.nx (δ.set i (ς (.e (l.set k d))))):=by
 unfold np dI at*
 rw[U,hk,qa6,qa6,h];simp only[Ga,qa6,EE W,qo2]
theorem cy{i:Nat}{f:De->ζ Dt}{d:Dt}(h:δ[i]?=ς (ς (.e l)))(U:f δ=ς d)(W:l.length<1000000):z9 i f δ=ς (.nx (δ.set i (ς (.e (l++[d]))))):=by unfold z9;rw[h];dsimp only;rw[U,qa6,if_pos (gq W)]
theorem u8(h:n<=1000):uF [.int ((n:Int)-1),.int (-1),.int (-1)]=ς (((qb7 n).map fun i=>n-1-i).map dI):=by
 unfold uF
 have e:(qd2 ((n:Int)-1) (-1) (-1)).toNat=n:=by
  unfold qd2;rw[if_neg Ω];by_cases U:(n:Int)-1 > -1
  .rw[if_pos U];have:((n:Int)-1 - -1-1)/(- -1)=(n:Int)-1:=by rw[show(- -1:Int)=1 by decide,Int.ediv_one];lia
   rw[this];lia
  .rw[if_neg U];lia
 dsimp only;rw[if_pos (show w4 ((n:Int)-1) (-1) (-1)=θ by unfold w4;simp;lia),e];congr 1;unfold qE;rw[qc6];refine qt5 fun i hi=>?_
 have:=qd8.mp hi;show Dt.int _=Dt.int ((n-1-i:Nat):Int);congr 1;lia
section
variable{α:Type}[DecidableEq α]
abbrev CF(α:Type):=η (α×ζ α)
noncomputable def ks(U:CF α):η α:=U.map (·.1)
def gW(h:α)(U:CF α)(t:α):CF α:=if t∈ks U then U else U++[(t,ς h)]
def cq(h:α)(U:CF α)(ts:η α):CF α:=ts.foldl (gW h) U
def bfs(beh:α->η α)(fit:α->Bool):Nat->CF α->Nat->η (η α)->ζ (ζ α×CF α×η (η α))
 |0,_,_,_=>ψ
 |n+1,U,k,J=>match U[k]? with
  |none=>ς (ψ,U,J)
  |some (h,_)=>if fit h then ς (ς h,U,J)else bfs beh fit n (cq h U (beh h)) (k+1) (J++[beh h])
def bu(U:CF α)(s:α):CF α:=if s∈ks U then U else U++[(s,ψ)]
structure BI(beh:α->List α)(fit:α->Bool)(J4:List α)(cf:CF α)(k:Nat):Prop where
 nd:(ks cf).Nodup
 sub:∀s∈J4,s∈ks cf
 par:∀(i:Nat)(t p:α),cf[i]?=ς (t,ς p)->∃j q,j<i/\cf[j]?=ς (p,q)/\t∈beh p/\fit p=ξ
 st:∀(i:Nat)(t:α),cf[i]?=ς (t,ψ)->t∈J4
 done:∀(i:Nat)(t:α)(q:Option α),i<k->cf[i]?=ς (t,q)->fit t=ξ/\∀u∈beh t,u∈ks cf
variable{beh:α->η α}{fit:α->Bool}{J4:η α}
def eL(U cf':CF α):ks (U++cf')=ks U++ks cf':=qd3
theorem gC{U:CF α}{t:α}(h:t∈ks U):∃(i:Nat)(q:ζ α),U[i]?=ς (t,q):=by obtain⟨p,hp,rfl⟩:=qc8.mp h;obtain⟨i,hi,e⟩:=List.getElem_of_mem hp;exact⟨i,p.2,by rw[gQ hi,e]⟩
theorem gE{cf:CF α}{t:α}{i:Nat}{q:ζ α}(h:cf[i]?=ς (t,q)):t∈ks cf:=qc8.mpr ⟨(t,q),qc7 h,rfl⟩
theorem cX(h:α):∀(ts:η α)(cf:CF α),∃e,cq h cf ts=cf++e/\(∀p∈e,p.2=ς h/\p.1∈ts)/\((ks cf).Nodup->(ks (cq h cf ts)).Nodup)/\∀t∈ts,t∈ks (cq h cf ts)
 |[],cf=>⟨[],by simp[cq],Ξ,fun z=>z,Ξ⟩
 |t::ts,cf=>by
  obtain⟨e,h1,h2,h3,h4⟩:=cX h ts (gW h cf t);have e0:cq h cf (t::ts)=cq h (gW h cf t) ts:=rfl;rw[e0]
  have W:t∈ks (cq h (gW h cf t) ts):=by
   rw[h1,eL];refine qi8 _ ?_;unfold gW;split
   .assumption
   .rw[eL];exact qe2 _ (by simp[ks])
  have U:∀u∈t::ts,u∈ks (cq h (gW h cf t) ts):=fun u Y=>by
   rcases qa5.mp Y with rfl|Y
   .exact W
   .exact h4 u Y
  by_cases q:t∈ks cf
  .have:gW h cf t=cf:=if_pos q;rw[this]at h1 h3 ⊢;refine⟨e,h1,fun p hp=>⟨(h2 p hp).1,qd4 _ (h2 p hp).2⟩,h3,?_⟩;rw[this]at U;exact U
  .have:gW h cf t=cf++[(t,ς h)]:=if_neg q;rw[this]at h1 h3 ⊢;refine⟨(t,ς h)::e,by rw[h1,qk0];rfl,fun p hp=>?_,fun nd=>h3 ?_,?_⟩
   .rcases qa5.mp hp with rfl|hp
    .exact⟨rfl,qe7⟩
    .exact⟨(h2 p hp).1,qd4 _ (h2 p hp).2⟩
   .rw[eL];refine qm6.mpr ⟨nd,by simp[ks],fun a ha b Z=>?_⟩;simp[ks]at Z;subst Z;rintro rfl;exact q ha
   .rw[this]at U;exact U
theorem BI.step{U:CF α}{k:Nat}{h:α}{q:ζ α}(B:BI beh fit J4 U k)(hk:U[k]?=ς (h,q))(hf:fit h=ξ):BI beh fit J4 (cq h U (beh h)) (k+1):=by
 obtain⟨e,h1,h2,h3,h4⟩:=cX h (beh h) U
 have keep:∀{i:Nat}{x:α×ζ α},U[i]?=ς x->(cq h U (beh h))[i]?=ς x:=fun {i x} z=>by rw[h1,qc9 (gX z).1];exact z
 have W:∀{i:Nat}{x:α×ζ α},(cq h U (beh h))[i]?=ς x->U[i]?=ς x∨(x.2=ς h/\x.1∈beh h/\U.length<=i):=fun {i x} z=>by
  rw[h1]at z;by_cases hi:i<U.length
  .rw[qc9 hi]at z;exact .inl z
  .rw[qd5 Θ]at z;have:=h2 _ (qc7 z);exact .inr ⟨this.1,this.2,Θ⟩
 have Y:∀{t:α},t∈ks U->t∈ks (cq h U (beh h)):=fun {t} z=>by rw[h1,eL];exact qi8 _ z
 refine⟨h3 B.nd,fun s hs=>Y (B.sub s hs),fun i t p z=>?_,fun i t z=>?_,fun i t q' hi z=>?_⟩
 .rcases W z with z|⟨z1,z2,z3⟩
  .obtain⟨j,q',g1,g2,g3⟩:=B.par i t p z;exact⟨j,q',g1,keep g2,g3⟩
  .cases z1;exact⟨k,q,qc2 (gX hk).1 z3,keep hk,z2,hf⟩
 .rcases W z with z|⟨z1,_,_⟩
  .exact B.st i t z
  .cases z1
 .have hk':=(gX hk).1;rcases W z with z|⟨_,_,z3⟩
  .by_cases hik:i=k
   .subst hik;rw[hk]at z;cases z;exact⟨hf,fun u Z=>h4 u Z⟩
   .obtain⟨g1,g2⟩:=B.done i t q' Θ z;exact⟨g1,fun u Z=>Y (g2 u Z)⟩
  .lia
theorem k8{U:η α}{h:α}{ts:η α}{W:CF α}(Y:∀t∈ks W,t∈U)(Z:∀t∈ts,t∈U):∀t∈ks (cq h W ts),t∈U:=fun t z=>by
 obtain⟨e,h1,h2,_,_⟩:=cX h ts W;rw[h1,eL]at z;rcases qi3.mp z with z|z
 .exact Y t z
 .obtain⟨p,hp,rfl⟩:=qc8.mp z;exact Z _ (h2 p hp).2
theorem pL {U:η α} (hU:∀ t∈U,∀ u∈beh t,u∈U):∀ (n:Nat) (W:CF α) (k:Nat) (J:η (η α)),BI beh fit J4 W k->(∀ t∈ks W,t∈U)->k<=W.length->U.length<n+k→
  ∃f Y J' k',bfs beh fit n W k J=ς (f,Y,J')/\BI beh fit J4 Y k'/\(∀t∈ks Y,t∈U)/\(f=ψ->k'=Y.length)/\∀h,f=ς h->fit h=θ/\h∈ks Y
 |0,W,k,J,B,Z,hk,hn=>by have:=cw B.nd Z;rw[show(ks W).length=W.length from qa1 ..]at this;lia
 |n+1,W,k,J,B,Z,hk,hn=>by
  unfold bfs;cases q:W[k]? with
  |none=>have:=qj3.mp q;exact⟨ψ,W,J,k,rfl,B,Z,fun _=>Θ,fun h z=>nomatch z⟩
  |some x=>
   obtain⟨h,p⟩:=x;dsimp only;cases hf:fit h with
   |true=>exact⟨ς h,W,J,k,rfl,B,Z,fun z=>(nomatch z),fun h' z=>by cases z;exact⟨hf,gE q⟩⟩
   |false=>have hk':=(gX q).1;obtain⟨e,h1,_⟩:=cX h (beh h) W;exact pL hU n _ (k+1) _ (B.step q hf) (k8 Z (hU h (Z h (gE q)))) (by rw[h1,qc4];lia) Θ
theorem BI.start:BI beh fit J4 (J4.foldl bu []) 0:=by
 have Z:∀(ss:η α)(W:CF α),(ks W).Nodup->(∀p∈W,p.2=ψ/\p.1∈J4)->(∀s∈ss,s∈J4)->(ks (ss.foldl bu W)).Nodup/\(∀p∈ss.foldl bu W,p.2=ψ/\p.1∈J4)/\∀s,(s∈ss∨s∈ks W)->s∈ks (ss.foldl bu W):=fun ss=>by
  induction ss with
  |nil=>intro W h1 h2 _;exact⟨h1,h2,fun s Y=>Y.elim (fun z=>nomatch z) id⟩
  |cons s ss ih=>
   intro W h1 h2 h3;rw[qi4]
   have Y:s∈ks (bu W s):=by
    unfold bu;split
    .assumption
    .rw[eL];exact qe2 _ (by simp[ks])
   have hm:∀t∈ks W,t∈ks (bu W s):=fun t U=>by
    unfold bu;split
    .exact U
    .rw[eL];exact qi8 _ U
   obtain⟨a,b,c⟩:=ih (bu W s) (by
    unfold bu;split
    .exact h1
    .rename_i q;rw[eL];refine qm6.mpr ⟨h1,by simp[ks],fun a ha b hb=>?_⟩;simp[ks]at hb;subst hb;rintro rfl;exact q ha) (fun p hp=>by
    unfold bu at hp;split at hp
    .exact h2 p hp
    .rcases qi3.mp hp with hp|hp
     .exact h2 p hp
     .cases qb1.mp hp;exact⟨rfl,h3 _ qe7⟩) fun t U=>h3 t (qd4 _ U)
   refine⟨a,b,fun t U=>c t ?_⟩;rcases U with U|U
   .rcases qa5.mp U with rfl|U
    .exact .inr Y
    .exact .inl U
   .exact .inr (hm t U)
 obtain⟨a,b,c⟩:=Z J4 [] (by simp[ks]) Ξ fun s Y=>Y
 exact⟨a,fun s Y=>c s (.inl Y),fun i t p z=>(by have:=(b _ (qc7 z)).1;cases this),fun i t z=>(b _ (qc7 z)).2,fun i t q hi=>Θ⟩
def look(U:CF α)(t:α):ζ (ζ α):=(U.find? fun p=>decide (p.1=t)).map (·.2)
theorem nQ:∀{U:CF α}{i:Nat}{t:α}{q:ζ α},(ks U).Nodup->U[i]?=ς (t,q)->look U t=ς q
 |[],i,t,q,_,h=>by simp at h
 |p::U,0,t,q,W,h=>by simp at h;subst h;simp[look]
 |p::U,i+1,t,q,W,h=>by
  have h:U[i]?=ς (t,q):=by simpa using h
  have W:(p.1::ks U).Nodup:=W;have Y:p.1≠t:=fun z=>(qg0.mp W).1 (z▸gE h)
  have:=nQ (qg0.mp W).2 h;unfold look at this ⊢;rw[zf8 (by simpa using Y)];exact this
inductive Tr(cf:CF α):α->List α->Prop
 |one {t:α} (h:look cf t=ς ψ):Tr cf t [t]
 |more {t p:α} {r:List α} (h:look cf t=ς (ς p)) (r':Tr cf p r):Tr cf t (t::r)
inductive Wy(beh:α->List α)(fit:α->Bool)(J4:List α):α->List α->Prop
 |one {t:α} (h:t∈J4):Wy beh fit J4 t [t]
 |more {t p:α} {r:List α} (h:t∈beh p) (hf:fit p=ξ) (w:Wy beh fit J4 p r):Wy beh fit J4 t (t::r)
theorem BI.trace{U:CF α}{k:Nat}(B:BI beh fit J4 U k):∀(i:Nat)(t:α)(q:ζ α),U[i]?=ς (t,q)->∃r,Tr U t r/\Wy beh fit J4 t r/\r.length<=i+1:=fun i=>by
 induction i using Nat.strongRecOn with
 |ind i W=>
  intro t q h;cases q with
  |none=>exact⟨[t],.one (nQ B.nd h),.one (B.st i t h),Ξ⟩
  |some p=>obtain⟨j,Z,h1,h2,h3,Y⟩:=B.par i t p h;obtain⟨r,g1,g2,g3⟩:=W j h1 p Z h2;exact⟨t::r,.more (nQ B.nd h) g1,.more h3 Y g2,by simp;lia⟩
inductive Rch(beh:α->List α)(J4:List α):α->Prop
 |one {t:α} (h:t∈J4):Rch beh J4 t
 |more {t p:α} (w:Rch beh J4 p) (h:t∈beh p):Rch beh J4 t
theorem BI.none{cf:CF α}(B:BI beh fit J4 cf cf.length){t:α}(h:Rch beh J4 t):fit t=ξ:=by
 have U:t∈ks cf:=by
  induction h with
  |one h=>exact B.sub _ h
  |more w h W=>obtain⟨i,q,e⟩:=gC W;exact(B.done i _ q (gX e).1 e).2 _ h
 obtain⟨i,q,e⟩:=gC U;exact(B.done i t q (gX e).1 e).1
end
inductive Mrk where
 |fresh|seen|safe|spoilt
deriving DecidableEq
def Rw.gets:Rw->Str->Bool
 |.load _ c,nm=>decide (c=nm)|.take _ f _,nm=>decide (f=nm)
 |_,_=>ξ
noncomputable def Rw.puts:Rw->Str->Bool
 |.store c _,nm=>decide (c=nm)|.lay f _ _,nm=>decide (f=nm)
 |_,_=>ξ
def Rw.stores:Rw->Str->Bool
 |.store c _,nm=>decide (c=nm)
 |_,_=>ξ
def mb:Mrk->Rw->Str->Mrk
 |.fresh,r,nm=>if r.gets nm then .seen else if r.stores nm then .safe else .fresh
 |.seen,r,nm=>if r.puts nm then .spoilt else .seen
 |m,_,_=>m
section
variable(J0:η Rw)(kept:η Nat)(nm:Str)
def iI(t:Nat×Mrk):η (Nat×Mrk):=match J0[t.1]? with
 |none=>[]
 |some r=>if mb t.2 r nm=.safe then []else((r.outs t.1).filter fun w=>!decide (w∈kept)).map fun w=>(w,mb t.2 r nm)
def jc(t:Nat×Mrk):Bool:=match J0[t.1]? with
 |none=>ξ
 |some r=>decide (mb t.2 r nm=.spoilt)
def cP:η (Nat×Mrk):=(0::kept).map fun k=>(k,.fresh)
def gA(k:Nat):Bool:=match J0[k]? with|some r=>r.gets nm|none=>ξ
def runN(s:Nat):Nat->Mrk
 |0=>.fresh
 |d+1=>match J0[s+d]? with
  |some r=>mb (runN s d) r nm
  |none=>runN s d
def jJ:Prop:=∀(k:Nat)(r:Rw),J0[k]?=ς r->r.outs k=if k+1<J0.length then [k+1]else []
end
section
variable{J0:η Rw}{kept:η Nat}{nm:Str}
end
section
variable{J0:η Rw}{kept:η Nat}{nm:Str}
theorem yh{t u:Nat×Mrk}(h:u∈iI J0 kept nm t):∃r,J0[t.1]?=ς r/\mb t.2 r nm≠.safe/\u.1∈r.outs t.1/\u.1∉kept/\u.2=mb t.2 r nm:=by
 unfold iI at h;split at h
 .cases h
 .rename_i r e;split at h
  .cases h
  .rename_i U;obtain⟨w,W,rfl⟩:=qc8.mp h;obtain⟨h1,h2⟩:=qi1.mp W;exact⟨r,e,U,h1,by simpa using h2,rfl⟩
end
def TRb:De->ζ Out:=(ai (z9 2 (vL 3)) (al 3 (toT (toD (d2 uS (vB 0) (vB 3))))))
def TRc:De->ζ Bool:=(tB2 (gIs θ) (vB 3) (kD .non))
def TRf:η Dt->ζ T:=bC 4 ((ai (al 2 (aU ae)) (ai (al 3 (toT (vL 1))) (ai (aT TRc TRb 100000) (aZ (vLR (vB 2)))))))
def RT0:De->ζ Out:=(kM 3 (vB 4) (kD .non))
def RT1:De->ζ Out:=(sIf (xC (vB 8) (vB 3)) (ai (kM 3 (vB 8) (vL 7)) (z9 5 (vL 8))) bc)
def RT2(G:Orc):De->ζ Out:=(ai (al 7 (toT (toD (d2 ah (vB 5) (vB 6))))) (ai (ur (fun i j=>i+j) 6 (kD (.int 1))) (ai (sIf (dZ (toD (vCl G 2 (aa (vL 7) ae)))) (wx 3 (aZ (ag TRf (aa (vL 3) (aa (vL 7) ae))))) bc) (cE (fIt (toD (vCl G 1 (aa (vL 7) ae)))) (ak 8) RT1))))
def RTc:De->ζ Bool:=(tB2 (fV fun i j=>decide (i<j)) (vB 6) (toD (ag be (aa (vB 5) ae))))
def RTf(G:Orc):Dt->J9->J9->Hp->ζ T:=uz 9 ((ai (al 3 qT) (ai (cE (fIt (vL 0)) (ak 4) RT0) (ai (al 5 (ag gT (aa (vB 3) ae))) (ai (al 6 (toT (kD (.int 0)))) (ai (aT RTc (RT2 G) 100000) (aZ (toT (kD .non)))))))))
theorem EF{g:Dt->Dt->ζ T}{fa fb:De->ζ Dt}{x y:Dt}(h1:fa δ=ς x)(h2:fb δ=ς y)(h:g x y=ς (.f (.bl b))):tB2 g fa fb δ=ς b:=by unfold tB2 d2;rw[h1,h2];show(g x y).bind asB=_;rw[h];rfl
theorem B7{i:Nat}{l:η (η Key×Dt)}{kd d:Dt}{k:η Key}(h:δ[i]?=ς (ς (.dcT l)))(hk:fk δ=ς kd)(U:isK kd=ς k)(W:fe δ=ς d)(Z:l.length<1000000)(Y:(l.map (·.1)).Nodup):kM i fk fe δ=ς (.nx (δ.set i (ς (.dcT (dL l k d))))):=by unfold kM;rw[W,hk,qa6,qa6,h];dsimp only;rw[U,qa6,if_pos ⟨gq Z,Y⟩]
variable{x4 x6:ζ T}
section
variable{α:Type}[DecidableEq α](ky:α->Int×Str)
noncomputable def nD(t:α):Dt:=.t [.int (ky t).1,.str (ky t).2]
def nK(t:α):η Key:=[.inl (ky t).1,.inr (ky t).2]
def pN:ζ α->Dt
 |none=>.non
 |some h=>nD ky h
def cfT(U:CF α):T:=.dcT (U.map fun p=>(nK ky p.1,pN ky p.2))
def cfD(U:CF α):Dt:=.dcT (U.map fun p=>nK ky p.1) (U.map fun p=>pN ky p.2)
def sT(U:CF α)(W:Dt)(J5:η α)(h:Dt):De:=[ς (.f (cfD ky U)),ς (.f W),ς (.e (J5.map (nD ky))),ς (.f h)]
def sR(st:Dt)(f1 f2:J9)(F0:Hp)(U:CF α)(x4 x6 x7 x8:ζ T):De:=[ς (.f st),ς (.fn f1 F0),ς (.fn f2 F0),ς (cfT ky U),x4,ς (.e ((ks U).map (nD ky))),x6,x7,x8]
def sS(st:Dt)(f1 f2:J9)(F0:Hp)(U:CF α)(x4:ζ T):De:=[ς (.f st),ς (.fn f1 F0),ς (.fn f2 F0),ς (cfT ky U),x4,ψ,ψ,ψ,ψ]
variable{ky}(hk:∀a b,ky a=ky b->a=b)
theorem nR(hk:∀a b,ky a=ky b->a=b){a b:α}(h:nK ky a=nK ky b):a=b:=by unfold nK at h;simp only[zh3,zc6.injEq,qq2.injEq,and_true]at h;exact hk a b (Prod.ext h.1 h.2)
theorem yi(U:CF α):(cfT ky U).d=ς (cfD ky U):=by unfold cfT T.d;dsimp only;rw[qc6,qc6];rfl
include hk
theorem nT(t:α):∀U:CF α,cg (U.map fun p=>nK ky p.1) (U.map fun p=>pN ky p.2) (nK ky t)=(look U t).map (pN ky)
 |[]=>rfl
 |p::U=>by
  simp only[qa4,cg];unfold look;by_cases h:p.1=t
  .rw[if_pos (by rw[h]),List.find?_cons_of_pos (by simpa using h)];rfl
  .rw[if_neg fun z=>h (nR hk z),zf8 (by simpa using h),nT t U];rfl
theorem Gk(U:CF α)(t:α){q:ζ α}(h:look U t=ς q):uS (cfD ky U) (nD ky t)=ς (.f (pN ky q)):=by show(cg (U.map fun p=>nK ky p.1) (U.map fun p=>pN ky p.2) (nK ky t)).map T.f=_;rw[nT hk,h];rfl
omit hk in
theorem Gm(U:CF α)(t:α):(look U t).isSome=decide (t∈ks U):=by unfold look ks;rw[qr6,qj0,List.find?_isSome];simp
theorem AV {U:CF α} {Z:Dt}:∀ {t:α} {W:η α},Tr U t W->∀ (n:Nat) (J5:η α),W.length<n->J5.length+W.length<100000→
  aT TRc TRb n (sT ky U Z J5 (nD ky t))=ς (.nx (sT ky U Z (J5++W) .non)):=by
 intro t W tr
 have one:∀(t:α)(J5:η α)(q:ζ α),look U t=ς q->J5.length<100000->TRb (sT ky U Z J5 (nD ky t))=ς (.nx (sT ky U Z (J5++[t]) (pN ky q))):=by
  intro t J5 q hq Y;unfold TRb
  rw[ap (cy (l:=J5.map (nD ky)) (d:=nD ky t) rfl rfl (by rw[qa1];lia)),ar (t:=.f (pN ky q)) (by show((uS (cfD ky U) (nD ky t)).bind T.d).map T.f=_;rw[Gk hk U t hq];rfl)]
  unfold sT;rw[qd3];rfl
 induction tr with
 |@one t h=>intro n J5 hn Y;obtain⟨n,rfl⟩:∃m,n=m+2:=⟨n-2,by simp at hn;lia⟩;rw[iH rfl (one t J5 ψ h Θ)];exact jW rfl
 |@more t p r h r' ih=>intro n J5 hn Y;obtain⟨n,rfl⟩:∃m,n=m+1:=⟨n-1,Θ⟩;rw[iH rfl (one t J5 (ς p) h (by simp at Y;lia))];have:=ih n (J5++[t]) (by simp at hn;lia) (by simp at Y ⊢;lia);rw[show pN ky (ς p)=nD ky p from rfl,this,qk0];rfl
theorem u9{W:CF α}{t:α}{U:η α}(Y:Tr W t U)(Z:U.length<10000):TRf [cfD ky W,nD ky t]=ς (.e (U.reverse.map (nD ky))):=by unfold TRf;refine jX ?_;show ai _ _ [ς (.f (cfD ky W)),ς (.f (nD ky t)),ψ,ψ]=_;rw[ap (ar (t:=.e []) (by rw[ya];show((ς []).bind mkL)=_;rw[qa6,cO Ξ])),ap (δ':=sT ky W (nD ky t) [] (nD ky t)) (ar rfl),ap (AV hk Y 100000 [] Θ (by simp;lia)),qr3];show ς (Out.rt (.e (U.map (nD ky)).reverse))=_;rw[List.map_reverse]
variable{f1 f2:J9}{F0:Hp}{G:Orc}{st:Dt}
theorem nU(t:α)(q:ζ α):∀{cf:CF α},t∉ks cf->dL (cf.map fun p=>(nK ky p.1,pN ky p.2)) (nK ky t) (pN ky q)=(cf++[(t,q)]).map fun p=>(nK ky p.1,pN ky p.2)
 |[],_=>rfl
 |p::cf,h=>by have h:t∉p.1::ks cf:=h;rw[qa4,dL,if_neg fun z=>h (by rw[nR hk z];exact .head _),nU t q fun z=>h (.tail _ z)];rfl
theorem pM{t:α}:∀{U:CF α},t∈ks U->(∀p∈U,p.2=ψ)->dL (U.map fun p=>(nK ky p.1,pN ky p.2)) (nK ky t) .non=U.map fun p=>(nK ky p.1,pN ky p.2)
 |[],h,_=>by cases h
 |p::U,h,W=>by
  rw[qa4,dL];by_cases e:p.1=t
  .rw[if_pos (by rw[e]),W p (.head _)];rfl
  .rw[if_neg fun z=>e (nR hk z),pM ((qa5.mp (show t∈p.1::ks U from h)).resolve_left fun z=>e z.symm) fun q Y=>W q (.tail _ Y)]
theorem B8{U:CF α}(h:(ks U).Nodup):((U.map fun p=>(nK ky p.1,pN ky p.2)).map (·.1)).Nodup:=by
 have:((ks U).map (nK ky)).Nodup:=by rw[za3,qv8];exact qv9 (fun {a b}(z:a≠b) e=>z (nR hk e)) h
 rw[qc6];unfold ks at this;rw[qc6]at this;exact this
omit hk in
def nV(U:CF α):(ks U).length=U.length:=qa1 ..
theorem Gn {U:CF α} {h t:α} (Y:(ks U).Nodup) (Z:U.length<100000) :
  RT1 (sR ky st f1 f2 F0 U x4 x6 (ς (.f (nD ky h))) (ς (.f (nD ky t))))=ς (.nx (sR ky st f1 f2 F0 (gW h U t) x4 x6 (ς (.f (nD ky h))) (ς (.f (nD ky t))))):=by
 have W:xC (vB 8) (vB 3) (sR ky st f1 f2 F0 U x4 x6 (ς (.f (nD ky h))) (ς (.f (nD ky t))))=ς (!decide (t∈ks U)):=by unfold xC;rw[show vB 8 (sR ky st f1 f2 F0 U x4 x6 (ς (.f (nD ky h))) (ς (.f (nD ky t))))=ς (nD ky t)from rfl,show vB 3 (sR ky st f1 f2 F0 U x4 x6 (ς (.f (nD ky h))) (ς (.f (nD ky t))))=ς (cfD ky U)from yi U];show ς (!(cg (U.map fun p=>nK ky p.1) (U.map fun p=>pN ky p.2) (nK ky t)).isSome)=_;rw[nT hk,qr6,Gm]
 unfold RT1;by_cases q:t∈ks U
 .rw[decide_eq_true q]at W;rw[gt W,show gW h U t=U from if_pos q];rfl
 .rw[decide_eq_false q]at W;rw[jI W,show gW h U t=U++[(t,ς h)]from if_neg q,ap (B7 (i:=3) (kd:=nD ky t) (k:=nK ky t) (d:=pN ky (ς h)) (l:=U.map fun p=>(nK ky p.1,pN ky p.2)) rfl rfl rfl rfl (by rw[qa1];lia) (B8 hk Y)),nU hk t (ς h) q];refine(cy (i:=5) (l:=(ks U).map (nD ky)) (d:=nD ky t) rfl rfl (by rw[qa1,nV];lia)).trans ?_;unfold sR;rw[eL,qd3 (f:=nD ky)];rfl
omit hk in
theorem AW{h t:α}{U:CF α}(W:(ks U).Nodup):(ks (gW h U t)).Nodup:=by obtain⟨_,_,_,h3,_⟩:=cX h [t] U;exact h3 W
omit hk in
theorem yj(h t:α)(U:CF α):(gW h U t).length<=U.length+1:=by unfold gW;split<;>simp
theorem B9 {h:α}:∀ (ts:η α) (U:CF α) (x8:ζ T),(ks U).Nodup->U.length+ts.length<100000→
  ∃W,b7 (ak 8) RT1 (ts.map (nD ky)) (sR ky st f1 f2 F0 U x4 x6 (ς (.f (nD ky h))) x8)=ς (.nx (sR ky st f1 f2 F0 (cq h U ts) x4 x6 (ς (.f (nD ky h))) W))
 |[],U,x8,_,_=>⟨x8,rfl⟩
 |t::ts,U,x8,Y,Z=>by rw[qe4]at Z;obtain⟨W,e⟩:=B9 ts (gW h U t) (ς (.f (nD ky t))) (AW Y) (by have:=yj h t U;lia);refine⟨W,?_⟩;rw[qa4,aD rfl (Gn hk Y Θ)];exact e
omit hk in
theorem EG(U:CF α)(t:α):(bu U t).length<=U.length+1:=by unfold bu;split<;>simp
omit hk in
theorem Go{Y:CF α}{t:α}(U:(ks Y).Nodup):(ks (bu Y t)).Nodup:=by
 unfold bu;split
 .exact U
 .rename_i q;rw[eL];refine qm6.mpr ⟨U,by simp[ks],fun a Z b W=>?_⟩;simp[ks]at W;subst W;rintro rfl;exact q Z
omit hk in
theorem tm{W:CF α}{t:α}(U:∀p∈W,p.2=ψ):∀p∈bu W t,p.2=ψ:=fun p hp=>by
 unfold bu at hp;split at hp
 .exact U p hp
 .rcases qi3.mp hp with z|z
  .exact U p z
  .cases qb1.mp z;rfl
include hk in
theorem vd{x4:ζ T}{U:CF α}{t:α}(W:(ks U).Nodup)(Y:∀p∈U,p.2=ψ)(Z:U.length<100000):RT0 (sS ky st f1 f2 F0 U (ς (.f (nD ky t))))=ς (.nx (sS ky st f1 f2 F0 (bu U t) (ς (.f (nD ky t))))):=by
 unfold RT0;rw[B7 (i:=3) (kd:=nD ky t) (k:=nK ky t) (d:=.non) (l:=U.map fun p=>(nK ky p.1,pN ky p.2)) rfl rfl rfl rfl (by rw[qa1];lia) (B8 hk W)];unfold bu;split
 .rename_i q;rw[pM hk q Y];rfl
 .rename_i q;rw[show(Dt.non)=pN ky (ψ:ζ α)from rfl,nU hk t ψ q];rfl
theorem mJ:∀ (ss:η α) (U:CF α) (x4:ζ T),(ks U).Nodup->(∀ p∈U,p.2=ψ)->U.length+ss.length<100000→
  ∃W,b7 (ak 4) RT0 (ss.map (nD ky)) (sS ky st f1 f2 F0 U x4)=ς (.nx (sS ky st f1 f2 F0 (ss.foldl bu U) W))
 |[],U,x4,_,_,_=>⟨x4,rfl⟩
 |t::ss,U,x4,Y,Z,hl=>by rw[qe4]at hl;obtain⟨W,e⟩:=mJ ss (bu U t) (ς (.f (nD ky t))) (Go Y) (tm Z) (by have:=EG U t;lia);refine⟨W,?_⟩;rw[qa4,aD rfl (vd hk Y Z Θ (x4:=x4))];exact e
end
section
variable{α:Type}[DecidableEq α]{ky:α->Int×Str}(hk:∀a b,ky a=ky b->a=b){f1 f2:J9}{F0:Hp}{G:Orc}{st:Dt}
def LpR(ky:α->Int×Str)(U:CF α)(o:ζ Out):ζ α->Prop
 |none=>∃ δ,o=ς (.nx δ)
 |some h=>∀c,TRf [cfD ky U,nD ky h]=ς c->o=ς (.rt c)
include hk
theorem gY {x4:ζ T} {U:η α} {beh:α->η α} {fit:α->Bool} (hU:∀ t∈U,∀ u∈beh t,u∈U) (hUl:U.length<=10000) (hbl:∀ t∈U,(beh t).length<=1000) (h1:∀ t∈U,G f1 F0 [nD ky t]=ς (.e ((beh t).map (nD ky)))) (h2:∀ t∈U,G f2 F0 [nD ky t]=ς (.f (.bl (fit t)))) :
  ∀(n:Nat)(W:CF α)(k:Nat)(J:η (η α))(x7 x8:ζ T)(f:ζ α)(cf':CF α)(J':η (η α)),(ks W).Nodup->(∀t∈ks W,t∈U)->bfs beh fit n W k J=ς (f,cf',J')→
   LpR ky cf' (aT RTc (RT2 G) n (sR ky st f1 f2 F0 W x4 (ς (.f (.int k))) x7 x8)) f
 |0,W,k,J,x7,x8,f,cf',J',nd,hc,Z=>by cases Z
 |n+1,W,k,J,x7,x8,f,cf',J',nd,hc,Z=>by
  have hcl:W.length<=10000:=by have:=cw nd hc;rw[nV]at this;lia
  have Y:RTc (sR ky st f1 f2 F0 W x4 (ς (.f (.int k))) x7 x8)=ς (decide ((k:Int)<W.length)):=by refine EF (x:=.int k) rfl (y:=.int (W.length:Nat)) ?_ rfl;show ς (Dt.int (((ks W).map (nD ky)).length:Nat))=_;rw[qa1,nV]
  unfold bfs at Z;cases q:W[k]? with
  |none=>rw[q]at Z;cases Z;have:=qj3.mp q;rw[decide_eq_false Θ]at Y;exact⟨_,jW Y⟩
  |some x=>
   obtain⟨h,pq⟩:=x;rw[q]at Z;dsimp only at Z;have hkl:=(gX q).1;have hhU:h∈U:=hc h (gE q);rw[decide_eq_true Θ]at Y
   have s1:al 7 (toT (toD (d2 ah (vB 5) (vB 6)))) (sR ky st f1 f2 F0 W x4 (ς (.f (.int k))) x7 x8)=ς (.nx (sR ky st f1 f2 F0 W x4 (ς (.f (.int k))) (ς (.f (nD ky h))) x8)):=by
    refine(ar (t:=.f (nD ky h)) ?_).trans rfl;show((ah (.e ((ks W).map (nD ky))) (.int k)).bind T.d).map T.f=_;rw[fS,bn,qb3];have:(ks W)[k]?=ς h:=by unfold ks;rw[qb3,q];rfl
    rw[this];rfl
   have s2:ur (fun i j=>i+j) 6 (kD (.int 1)) (sR ky st f1 f2 F0 W x4 (ς (.f (.int k))) (ς (.f (nD ky h))) x8)=ς (.nx (sR ky st f1 f2 F0 W x4 (ς (.f (.int ((k+1:Nat):Int)))) (ς (.f (nD ky h))) x8)):=by show ς (Out.nx _)=ς (Out.nx _);rw[show((k+1:Nat):Int)=(k:Int)+1 by lia];rfl
   have tf:dZ (toD (vCl G 2 (aa (vL 7) ae))) (sR ky st f1 f2 F0 W x4 (ς (.f (.int ((k+1:Nat):Int)))) (ς (.f (nD ky h))) x8)=ς (fit h):=by show(((G f2 F0 [nD ky h]).bind T.d).bind wn)=_;rw[h2 h hhU];rfl
   cases hf:fit h with
   |true=>rw[hf]at Z tf;cases Z;intro c ht;refine yf Y ?_;unfold RT2;rw[ap s1,ap s2];refine xW ?_;rw[jI tf];show((cfT ky W).d.bind fun d=>aZ (ag TRf (aa (vL 3) (aa (vL 7) ae))) ((sR ky st f1 f2 F0 W x4 (ς (.f (.int ((k+1:Nat):Int)))) (ς (.f (nD ky h))) x8).set 3 (ς (.f d))))=_;rw[yi,qa6];show(TRf [cfD ky W,nD ky h]).map Out.rt=_;rw[ht];rfl
   |false=>
    rw[hf]at Z tf;simp only[qd1,if_false]at Z;obtain⟨e,p1,p2,p3,p4⟩:=cX h (beh h) W;obtain⟨y8,hpE⟩:=B9 hk (st:=st) (f1:=f1) (f2:=f2) (F0:=F0) (x4:=x4) (x6:=ς (.f (.int ((k+1:Nat):Int)))) (h:=h) (beh h) W x8 nd (by have:=hbl h hhU;lia)
    have body:RT2 G (sR ky st f1 f2 F0 W x4 (ς (.f (.int k))) x7 x8)=ς (.nx (sR ky st f1 f2 F0 (cq h W (beh h)) x4 (ς (.f (.int ((k+1:Nat):Int)))) (ς (.f (nD ky h))) y8)):=by unfold RT2;rw[ap s1,ap s2,ap (by rw[gt tf];rfl)];show((((G f1 F0 [nD ky h]).bind T.d).bind itD).bind fun ds=>b7 (ak 8) RT1 ds (sR ky st f1 f2 F0 W x4 (ς (.f (.int ((k+1:Nat):Int)))) (ς (.f (nD ky h))) x8))=_;rw[h1 h hhU];exact hpE
    rw[iH Y body];exact gY hU hUl hbl h1 h2 n (cq h W (beh h)) (k+1) _ (ς (.f (nD ky h))) y8 f cf' J' (p3 nd) (k8 hc (hU h hhU)) Z
omit hk in
def resR(ky:α->Int×Str):ζ (η α)->T
 |none=>.f .non
 |some U=>.e (U.reverse.map (nD ky))
theorem jy {J4:η α} (hl:J4.length<=10000):∃ U,∀ o:ζ Out,aT RTc (RT2 G) 100000 (sR ky (.e (J4.map (nD ky))) f1 f2 F0 (J4.foldl bu []) U (ς (.f (.int ((0:Nat):Int)))) ψ ψ)=o→
  (∀c,o=ς (.rt c)->RTf G (.e (J4.map (nD ky))) f1 f2 F0=ς c)/\(∀ δ,o=ς (.nx δ)->RTf G (.e (J4.map (nD ky))) f1 f2 F0=ς (.f .non)):=by
 obtain⟨U,e⟩:=mJ hk (st:=.e (J4.map (nD ky))) (f1:=f1) (f2:=f2) (F0:=F0) J4 [] ψ (by simp[ks]) Ξ (by simp;lia)
 have Z:∀{g:De->ζ Out}{r:T},g (deR 9 (.e (J4.map (nD ky))) f1 f2 F0)=ς (.rt r)->uz 9 g (.e (J4.map (nD ky))) f1 f2 F0=ς r:=fun {g r} z=>by unfold uz;rw[z]
 have e2:cE (fIt (vL 0)) (ak 4) RT0 (sS ky (.e (J4.map (nD ky))) f1 f2 F0 [] ψ)=ς (.nx (sS ky (.e (J4.map (nD ky))) f1 f2 F0 (J4.foldl bu []) U)):=e
 have e3:al 5 (ag gT (aa (vB 3) ae)) (sS ky (.e (J4.map (nD ky))) f1 f2 F0 (J4.foldl bu []) U)=ς (.nx (sR ky (.e (J4.map (nD ky))) f1 f2 F0 (J4.foldl bu []) U ψ ψ ψ)):=by refine(ar (t:=.e ((ks (J4.foldl bu [])).map (nD ky))) ?_).trans rfl;unfold ag aa;rw[show vB 3 (sS ky (.e (J4.map (nD ky))) f1 f2 F0 (J4.foldl bu []) U)=ς (cfD ky (J4.foldl bu []))from yi _];show ς (T.e (((J4.foldl bu []).map fun p=>nK ky p.1).map kK))=_;unfold ks;rw[qc6,qc6];rfl
 refine⟨U,fun o Y=>⟨fun c W=>?_,fun δ W=>?_⟩⟩
 all_goals
  unfold RTf;refine Z ?_;show ai _ _ (ς (.f (.e (J4.map (nD ky))))::ς (.fn f1 F0)::ς (.fn f2 F0)::qb9 6 ψ)=_;rw[ap (δ':=sS ky (.e (J4.map (nD ky))) f1 f2 F0 [] ψ) (ar rfl),ap e2,ap e3,ap (δ':=sR ky (.e (J4.map (nD ky))) f1 f2 F0 (J4.foldl bu []) U (ς (.f (.int ((0:Nat):Int)))) ψ ψ) (ar rfl)]
 .exact xW (Y.trans W)
 .rw[ap (Y.trans W)];rfl
theorem yk {U J4:η α} {beh:α->η α} {fit:α->Bool} (hU:∀ t∈U,∀ u∈beh t,u∈U) (hUl:U.length<=9000) (hbl:∀ t∈U,(beh t).length<=1000) (hs:∀ t∈J4,t∈U) (hsl:J4.length<=10000) :
  ∃ r:ζ (η α),(∀(G:Orc)(f1 f2:J9)(F0:Hp),(∀t∈U,G f1 F0 [nD ky t]=ς (.e ((beh t).map (nD ky))))->(∀t∈U,G f2 F0 [nD ky t]=ς (.f (.bl (fit t))))→
      RTf G (.e (J4.map (nD ky))) f1 f2 F0=ς (resR ky r))∧
   (r=ψ->∀t,Rch beh J4 t->fit t=ξ)/\∀Z,r=ς Z->Z.length<=9001/\∃t,Wy beh fit J4 t Z/\fit t=θ:=by
 have Y:∀t∈ks (J4.foldl bu ([]:CF α)),t∈U:=fun t ht=>by
  obtain⟨i,q,e⟩:=gC ht;have B:=BI.start (beh:=beh) (fit:=fit) (J4:=J4);cases q with
  |none=>exact hs t (B.st i t e)
  |some p=>
   exfalso
   have key:∀(ss:η α)(W:CF α),(∀p∈W,p.2=ψ)->∀p∈ss.foldl bu W,p.2=ψ:=fun ss=>by
    induction ss with
    |nil=>intro W h;exact h
    |cons s ss ih=>intro W h;exact ih _ (tm h)
   have:=key J4 [] Ξ _ (qc7 e);cases this
 obtain⟨f,W,J,k',h1,B,hc,hn,hf⟩:=pL (fit:=fit) (J4:=J4) hU 100000 (J4.foldl bu []) 0 [] BI.start Y (qk6 _) Θ;have nd:=(BI.start (beh:=beh) (fit:=fit) (J4:=J4)).nd;cases f with
 |none=>
  refine⟨ψ,fun G f1 f2 F0 g1 g2=>?_,fun _ t ht=>?_,fun Z z=>(by cases z)⟩
  .obtain⟨y4,hr⟩:=jy hk (G:=G) (f1:=f1) (f2:=f2) (F0:=F0) hsl;obtain⟨δ',hw⟩:=gY hk (st:=.e (J4.map (nD ky))) (x4:=y4) hU Θ hbl g1 g2 100000 _ 0 [] ψ ψ ψ W J nd Y h1;exact(hr _ rfl).2 δ' hw
  .have:=hn rfl;subst this;exact B.none ht
 |some h=>
  obtain⟨g1,g2⟩:=hf h rfl;obtain⟨i,q,e⟩:=gC g2;obtain⟨Z,tr,wy,hl⟩:=B.trace i h q e;have hi:=(gX e).1
  have hcl:W.length<=9000:=by have:=cw B.nd hc;rw[nV]at this;lia
  refine⟨ς Z,fun G f1 f2 F0 q1 q2=>?_,fun z=>(by cases z),fun ws' z=>(by cases z;exact⟨Θ,h,wy,g1⟩)⟩;obtain⟨y4,hr⟩:=jy hk (G:=G) (f1:=f1) (f2:=f2) (F0:=F0) hsl;have hw:=gY hk (st:=.e (J4.map (nD ky))) (x4:=y4) hU Θ hbl q1 q2 100000 _ 0 [] ψ ψ (ς h) W J nd Y h1;exact(hr _ rfl).1 _ (hw _ (u9 hk tr Θ))
end
end L2
open Lean in
def mL0(p:Name)(s:String):=(s.splitOn " ").toArray.map fun s=>mkNode ``Parser.Tactic.simpLemma #[mkNullNode,mkNullNode,mkIdent (p++s.toName)]
def mD0:=mL0 `L2 "xZ GG bX ck Gb bc al aZ fM pJ jS jT kB_d jb wx ur np toT toD T.d kD vL vB d2 tB2 dZ lx ja Gc vNot vIf_d ae aa vTup_d ya cO GH sX ag GI vSl oV fO ku Bx oX jE fIt bQ ak dC bi gAdd_i atI_0 atI_1 atI_2 atI_3 atI_4 atI_5 jV F8 F9 GJ GK eqF_s eqF_i i9 cF GF gMod_w gCmp_i gEq_ii gEq_ss gNe_ss gIs_n gh fS sV F7 gLen_l itD_l itD_t truD_b asB_b Ga"++mL0 .anonymous "qm2 zm2 ql2 List.any_nil qa4 qm4 qe4 zh1 ze8 qr3 qb9 ze5 qk7 qv0 qv1 qa6 Option.bind_none qo2 Option.map_none qt2 Option.join_none Nat.reduceAdd Nat.reduceSub Nat.reduceLeDiff Int.reduceLT Int.reduceEq eq_self Int.reduceNeg Int.reduceLE if_true if_false ite_true ite_false qd1 decide_true decide_false qy0 zb2 qu9 ql3 Bool.or_true zm0 qx7 zd1 qw2 zi7 String.reduceBEq reduceCtorEq"
local macro_rules|`(tactic|walk_at "d")=>do
 let a:=mD0
 `(tactic|simp -implicitDefEqProofs only[$a,*])
local macro_rules|`(tactic|walk_at "k")=>do
 let a:=mD0++mL0 `L2 "Eh AA yS AB BK AC BL Ei Ej BM Ek El BN Em EW Eo EX Ge Gf EY AD Ep yT AE BO AF BP Er Es BQ yU BR yV yW AG yX AH BS BT AI AJ Et AK yY BU AL BV Eu Ev BW BX EZ BY AM BZ B0 Ew E2 E3 Ey AN Ez AO yZ AQ B1 B2 EA EB B3 AR E4 E5 EC B4 Gg B5 AS E6 E7"
 `(tactic|simp -implicitDefEqProofs only[$a,*])
namespace P55
open PySem L2
theorem rm(n:Nat)(r:Rw):q61 [.int n,r.d]=ς (.f (.t ((r.outs n).map dI))):=by cases r<;>kernel_rfl
def dW(J0:η Rw):Dt:=.e (J0.mapIdx fun k r=>.t ((r.outs k).map dI))
theorem nW(c s:Dt)(J0:η Rw)(h:J0.length<=1000):dP [.t [c,s,dR J0]]=ς (.e (J0.mapIdx fun k r=>.t ((r.outs k).map dI))):=by
 unfold dP;walk_at "k";unfold me dR;walk_at "k"
 rw[k6 (h:=fun k r=>.t ((r.outs k).map dI)) 0 fun k a=>⟨_,rfl,by unfold z95;walk_at "k";rw[rm];walk_at "k"⟩]
 walk_at "k";rw[cO (by rw[List.length_mapIdx];lia)];walk_at "k";simp
theorem yl(r:Rw):q76 [r.d]=ς (.f (match r.sets with|some x=>.str x|none=>.non)):=by cases r<;>kernel_rfl
theorem ym(r:Rw):y75 [r.d]=ς (.f (.t (r.atoms.map Atm.d))):=by cases r<;>kernel_rfl
theorem gZ(x0:ζ T):∀(U:η Atm)(J5:η Str)(W:ζ T),J5.length+U.length<=10->∃y,b7 (ak 2) y60 (U.map Atm.d) [x0,ς (.e (J5.map .str)),W]=ς (.nx [x0,ς (.e (((nms U).foldl cW J5).map .str)),y])
 |[],J5,W,_=>⟨W,rfl⟩
 |.vl i::U,J5,W,h=>by obtain⟨y,e⟩:=gZ x0 U J5 (ς (.f (.int i))) (by simp at h ⊢;lia);refine⟨y,?_⟩;rw[qa4,aD (δ1:=[x0,ς (.e (J5.map .str)),ς (.f (.int i))]) (δ2:=[x0,ς (.e (J5.map .str)),ς (.f (.int i))]) rfl (by unfold y60;walk_at "k"<;>rfl)];exact e
 |.nm x::U,J5,W,h=>by
  have Z:J5.length<10:=by simp at h;lia
  obtain⟨y,e⟩:=gZ x0 U (cW J5 x) (ς (.f (.str x))) (by
   have:(cW J5 x).length<=J5.length+1:=by unfold cW;split<;>simp
   simp at h ⊢;lia)
  refine⟨y,?_⟩;rw[qa4,aD (δ1:=[x0,ς (.e (J5.map .str)),ς (.f (.str x))]) (δ2:=[x0,ς (.e ((cW J5 x).map .str)),ς (.f (.str x))]) rfl ?_]
  .exact e
  .unfold y60 cW;walk_at "k";rw[k7];walk_at "k";by_cases Y:x∈J5
   .rw[eC (by simp[Y]),if_pos Y];rfl
   .rw[fF (by simp[Y]),if_neg Y,BJ rfl];walk_at "k";rw[sX (by rw[qa1];lia)];simp
theorem yn(r:Rw):z67 [r.d]=ς (.e (r.reads.map .str)):=by
 have U:r.atoms.length<=2:=by cases r<;>simp[Rw.atoms]
 obtain⟨y,e⟩:=gZ (ς (.f r.d)) r.atoms [] ψ (by simp;lia);unfold z67;walk_at "k";rw[ym];walk_at "k";rw[show([]:η Dt)=([]:η Str).map .str from rfl,e];walk_at "k";rfl
theorem ve(r:Rw)(l:η Str):bK (ak 0) y40 (vL 0) [ψ,ς (.f r.d)] (l.map .str)=ς ((l.filter fun b=>decide (r.sets≠ς b)).map .str):=
 bO fun b _=>⟨[ς (.f (.str b)),ς (.f r.d)],rfl,by
  unfold y40;walk_at "k";rw[yl];walk_at "k";cases U:r.sets with
  |none=>walk_at "k";rw[show gEq θ (Dt.str b) Dt.non=ς (.f (.bl θ))from rfl];simp[asB]
  |some x=>
   walk_at "k";by_cases h:b=x
   .simp[h]
   .have:¬ x=b:=fun z=>h z.symm
    simp[h,this],fun _=>rfl⟩
theorem k9(r:Rw)(U:ζ T):∀(W:η (η Str))(J5:η Str)(Y:ζ T),J5.length+(W.map qp7).sum<=1000->∃y,b7 (ak 3) z40 (W.map dS) [ς (.f r.d),U,ς (.e (J5.map .str)),Y]=ς (.nx [ς (.f r.d),U,ς (.e ((J5++jx r W).map .str)),y])
 |[],J5,Y,_=>⟨Y,by unfold jx;simp[b7]⟩
 |l::W,J5,Y,h=>by
  simp only[qa4,qv4]at h;have Z:=qe6 (fun b=>decide (r.sets≠ς b)) l;obtain⟨y,e⟩:=k9 r U W (J5++l.filter fun b=>decide (r.sets≠ς b)) (ς (.f (dS l))) (by rw[qc4];lia);refine⟨y,?_⟩;rw[qa4,aD (δ1:=[ς (.f r.d),U,ς (.e (J5.map .str)),ς (.f (dS l))]) (δ2:=[ς (.f r.d),U,ς (.e ((J5++l.filter fun b=>decide (r.sets≠ς b)).map .str)),ς (.f (dS l))]) rfl ?_]
  .rw[e];unfold jx;simp
  .unfold z40;rw[Gj (l:=J5.map .str) (m:=(l.filter fun b=>decide (r.sets≠ς b)).map .str) rfl (xX (ds:=l.map .str) rfl (ve r l) (by rw[qa1];lia)),AU (by rw[qa1,qa1];lia)];simp
theorem yo(r:Rw)(U:η (η Str))(h:(U.map qp7).sum<=60):y19 [r.d,.e (U.map dS)]=ς (.e ((NA r U).map .str)):=by
 have Y:=r.reads_len
 have hl:(jx r U).length<=(U.map qp7).sum:=by
  clear h Y;induction U with
  |nil=>simp[jx]
  |cons l U W=>have Z:=qe6 (fun b=>decide (r.sets≠ς b)) l;unfold jx at W ⊢;simp only[List.flatMap_cons,qc4,qa4,qv4];lia
 obtain⟨y,e⟩:=k9 r (ς (.f (.e (U.map dS)))) U r.reads ψ Θ;unfold y19;walk_at "k";rw[yn];walk_at "k";rw[e];walk_at "k";rw[pK (by rw[qc4];lia)];rfl
variable{J3:η (η Str)}
theorem yp(U:∀l∈J3,l.length<=12):∀js:η Nat,((js.map fun j=>J3.getD j []).map qp7).sum<=12*js.length
 |[]=>qk6 _
 |j::js=>by
  have W:=yp U js
  have:(J3.getD j []).length<=12:=by
   rw[qb4];cases h:J3[j]? with
   |none=>simp
   |some l=>exact U l (qc7 h)
  simp only[qa4,qv4,qe4];lia
variable{i:Nat}{r:Rw}
section
variable{P:Dt}{J0:η Rw}{B:η Str}{J3:η (η Str)}
theorem tp(h:J0[i]?=ς r):ah (dW J0) (.int i)=ς (.f (.t ((r.outs i).map dI))):=by unfold dW;rw[fS,bn,qx6,h];rfl
theorem EH(h:J0[i]?=ς r):ah (dR J0) (.int i)=ς (.f r.d):=by unfold dR;rw[sV,bn,qb3,h];rfl
theorem EI{l:η Str}(h:J3[i]?=ς l):ah (dF J3) (.int i)=ς (.f (dS l)):=by unfold dF;rw[fS,bn,qb3,h];rfl
theorem vf (Y:J0[i]?=ς r) (Z:∀ l∈J3,l.length<=12) (hj:∀ j∈r.outs i,j<J3.length) (y4 y6:ζ T) :
  ag y19 (aa (toD (d2 ah (vB 1) (vB 5))) (aa (toD (aH [ψ,ς 3] (fIt (toD (d2 ah (vB 2) (vB 5)))) (ak 0) bi y53)) ae)) [ς (.f P),ς (.f (dR J0)),ς (.f (dW J0)),ς (.e (J3.map dS)),y4,ς (.f (.int i)),y6]=ς (.e ((nw J0 J3 i).map .str)):=by
 walk_at "k";rw[EH Y,tp Y];walk_at "k"
 rw[aY (h:=fun j=>dS (J3.getD j [])) fun j W=>⟨[ς (.f (dI j)),ς (.e (J3.map dS))],rfl,rfl,by have U:=hj j W;unfold y53 dI;walk_at "k";rw[bn,qb3,qo3 U,nO (m:=J3[j]) (by simp[U])];rfl⟩]
 walk_at "k";have ho:=r.outs_len i;rw[cO (by rw[qa1];lia)];walk_at "k";have e:(r.outs i).map (fun j=>dS (J3.getD j []))=((r.outs i).map fun j=>J3.getD j []).map dS:=by rw[qc6];rfl
 rw[e,yo r _ (qc0 (yp Z _) Θ)];unfold nw;rw[Y]
def sl(P:Dt)(J0:η Rw)(J3:η (η Str))(c:Bool)(U x6:ζ T):De:=[ς (.f P),ς (.f (dR J0)),ς (.f (dW J0)),ς (.e (J3.map dS)),ς (.f (.bl c)),U,x6]
theorem AX {l:η Str} (hr:J0[i]?=ς r) (Y:J3[i]?=ς l) (Z:∀ l∈J3,l.length<=12) (hj:∀ j∈r.outs i,j<J3.length) (c:Bool) (x6:ζ T) :
  ∃U c' y6,q54 (sl P J0 J3 c (ς (.f (dI i))) x6)=ς (.nx (sl P J0 U c' (ς (.f (dI i))) y6))∧((nw J0 J3 i=l/\U=J3/\c'=c)∨(nw J0 J3 i≠l/\U=J3.set i (nw J0 J3 i)/\c'=θ)):=by
 have h1:al 6 (toT (toD (ag y19 (aa (toD (d2 ah (vB 1) (vB 5))) (aa (toD (aH [ψ,ς 3] (fIt (toD (d2 ah (vB 2) (vB 5)))) (ak 0) bi y53)) ae))))) (sl P J0 J3 c (ς (.f (dI i))) x6)=ς (.nx (sl P J0 J3 c (ς (.f (dI i))) (ς (.f (dS (nw J0 J3 i)))))):=by exact ar ((congrArg (fun z:ζ T=>(z.bind T.d).map T.f) (vf (P:=P) hr Z hj (ς (.f (.bl c))) x6)).trans rfl)
 have h2:tB2 (gEq θ) (vB 6) (toD (d2 ah (vB 3) (vB 5))) (sl P J0 J3 c (ς (.f (dI i))) (ς (.f (dS (nw J0 J3 i)))))=ς (!decide (nw J0 J3 i=l)):=by unfold sl;walk_at "k";have:=EI Y;unfold dF at this;unfold dI;rw[this];walk_at "k";unfold dS;rw[ye];rfl
 unfold q54;rw[ap h1];by_cases W:nw J0 J3 i=l
 .refine⟨J3,c,ς (.f (dS (nw J0 J3 i))),?_,.inl ⟨W,rfl,rfl⟩⟩;rw[decide_eq_true W]at h2;rw[gt h2];rfl
 .have hi:i<(J3.map dS).length:=by rw[qa1];exact(gX Y).1
  refine⟨J3.set i (nw J0 J3 i),θ,ς (.f (dS (nw J0 J3 i))),?_,.inr ⟨W,rfl,rfl⟩⟩;rw[decide_eq_false W]at h2;rw[jI h2,ap (yg (k:=i) (d:=dS (nw J0 J3 i)) rfl rfl rfl hi),ar rfl];unfold sl;rw[List.map_set];rfl
theorem pass (hB:∀ (i:Nat) (r:Rw) (b:Str),J0[i]?=ς r->b∈r.reads->b∈B) (hO:∀ (i:Nat) (r:Rw) (j:Nat),J0[i]?=ς r->j∈r.outs i->j<J0.length) (hb:B.length<=12) :
  ∀(js:η Nat)(J3:η (η Str))(c:Bool)(x5 x6:ζ T),Fnd J0 B J3->(∀j∈js,j<J0.length)→
  ∃U c' y5 y6,b7 (ak 5) q54 (js.map dI) (sl P J0 J3 c x5 x6)=ς (.nx (sl P J0 U c' y5 y6))/\Fnd J0 B U∧tot J3<=tot U/\(c'=θ->c=θ∨tot J3<tot U)/\(c'=ξ->c=ξ/\U=J3/\∀j∈js,∀l,J3[j]?=ς l->nw J0 J3 j=l)
 |[],J3,c,x5,x6,F,_=>⟨J3,c,x5,x6,rfl,F,nL _,.inl,fun h=>⟨h,rfl,fun j hj=>by cases hj⟩⟩
 |j::js,J3,c,x5,x6,F,hj=>by
  have Z:=hj j (.head _);have hr:J0[j]?=ς J0[j]:=by simp[Z]
  have hlt:j<J3.length:=by rw[F.len];exact Z
  have hl:J3[j]?=ς J3[j]:=by simp[hlt]
  have hs:∀l∈J3,l.length<=12:=fun l hl=>by obtain⟨i,h⟩:=qo1 hl;exact qc0 (F.short h) hb
  obtain⟨found1,c1,z6,e1,q1⟩:=AX (P:=P) hr hl hs (fun k hk=>by rw[F.len];exact hO j _ k hr hk) c x6
  have F1:Fnd J0 B found1:=by
   rcases q1 with ⟨_,rfl,_⟩|⟨_,rfl,_⟩
   .exact F
   .exact F.step hB Z
  obtain⟨W,c2,y5,y6,e2,F2,t2,q2,q3⟩:=pass hB hO hb js found1 c1 (ς (.f (dI j))) z6 F1 fun k hk=>hj k (.tail _ hk)
  refine⟨W,c2,y5,y6,?_,F2,?_,?_,?_⟩
  .rw[qa4,aD rfl e1];exact e2
  .rcases q1 with ⟨_,rfl,_⟩|⟨ne,rfl,_⟩
   .exact t2
   .exact qc0 (qi2 (F.more hl ne)) t2
  .intro h;rcases q1 with ⟨_,rfl,rfl⟩|⟨ne,rfl,_⟩
   .exact q2 h
   .exact .inr (qc2 (F.more hl ne) t2)
  .intro h;obtain⟨h1,h2,h3⟩:=q3 h;rcases q1 with ⟨q,rfl,rfl⟩|⟨ne,rfl,rfl⟩
   .refine⟨h1,h2,fun k hk l Y=>?_⟩;rcases qa5.mp hk with rfl|hk
    .rw[hl]at Y;cases Y;exact q
    .exact h3 k hk l Y
   .cases h1
theorem loop (hB:∀ (i:Nat) (r:Rw) (b:Str),J0[i]?=ς r->b∈r.reads->b∈B) (hO:∀ (i:Nat) (r:Rw) (j:Nat),J0[i]?=ς r->j∈r.outs i->j<J0.length) (hb:B.length<=12) (hn:J0.length<=1000) :
  ∀(m:Nat)(J3:η (η Str))(Z x6:ζ T),Fnd J0 B J3->J0.length*B.length+2<=m+tot J3→
  ∃W y5 y6,aT y80 y52 m (sl P J0 J3 θ Z x6)=ς (.nx (sl P J0 W ξ y5 y6))/\Fnd J0 B W/\Fix J0 W
 |0,J3,Z,x6,F,hm=>by have:=F.tot_le;lia
 |m+1,J3,Z,x6,F,hm=>by
  obtain⟨U,c1,y5,y6,e1,F1,t1,q1,q2⟩:=pass (P:=P) hB hO hb ((qb7 J0.length).map fun i=>J0.length-1-i) J3 ξ Z x6 F fun j hj=>by obtain⟨i,hi,rfl⟩:=qc8.mp hj;have:=qd8.mp hi;lia
  have hb1:y52 (sl P J0 J3 θ Z x6)=ς (.nx (sl P J0 U c1 y5 y6)):=by unfold y52;rw[ap (δ':=sl P J0 J3 ξ Z x6) (ar rfl)];show(uF [.int (((J0.map Rw.d).length:Int)-1),.int (-1),.int (-1)]).bind _=_;rw[qa1,u8 hn,qa6];exact e1
  rw[iH rfl hb1];cases c1 with
  |true=>
   rcases q1 rfl with h|h
   .cases h
   .obtain⟨Y,z5,z6,e2,F2,x2⟩:=loop hB hO hb hn m U y5 y6 F1 Θ;exact⟨Y,z5,z6,e2,F2,x2⟩
  |false=>
   obtain⟨_,rfl,q3⟩:=q2 rfl
   have hm2:∃m',m=m'+1:=by have:=F1.tot_le;exact⟨m-1,Θ⟩
   obtain⟨m',rfl⟩:=hm2;refine⟨U,y5,y6,jW rfl,F1,fun i l hl=>?_⟩;have hi:i<J0.length:=by rw[<- F1.len];exact(gX hl).1
   exact q3 i (qc8.mpr ⟨J0.length-1-i,qd8.mpr Θ,Θ⟩) l hl
end
theorem pO:∀ds:η Dt,bK (ak 0) bi q27 [ψ] ds=ς (ds.map fun _=>.e [])
 |[]=>rfl
 |d::ds=>by unfold bK ak;rw[qa6];show((q27 [ς (.f d)]).bind fun y=>(bK (ak 0) bi q27 [ψ] ds).bind fun r=>ς (y::r))=_;rw[pO ds,show q27 [ς (.f d)]=ς (.e [])by unfold q27;walk_at "k"];rfl
variable{s:Dt}{J0:η Rw}
theorem rn {c:Dt} {B:η Str} (Z:∀ (i:Nat) (r:Rw) (b:Str),J0[i]?=ς r->b∈r.reads->b∈B) (hO:∀ (i:Nat) (r:Rw) (j:Nat),J0[i]?=ς r->j∈r.outs i->j<J0.length) (Y:B.length<=12) (U:J0.length<=1000) :
  ∃J3,y27 [.t [c,s,dR J0]]=ς (.e (J3.map dS))/\Fnd J0 B J3/\Fix J0 J3:=by
 have W:J0.length*B.length<=1000*12:=zi9 U Y;obtain⟨J3,y5,y6,e,F,x⟩:=loop (P:=.t [c,s,dR J0]) Z hO Y U 100000 _ ψ ψ Fnd.start Θ;refine⟨J3,?_,F,x⟩;unfold y27;refine jX ?_
 have s2:al 2 (toT (toD (ag dP (aa (vL 0) ae)))) [ς (.f (.t [c,s,dR J0])),ς (.f (dR J0)),ψ,ψ,ψ,ψ,ψ]=ς (.nx [ς (.f (.t [c,s,dR J0])),ς (.f (dR J0)),ς (.f (dW J0)),ψ,ψ,ψ,ψ]):=by refine ar ?_;show(((dP [.t [c,s,dR J0]]).bind T.d).map T.f)=_;rw[nW c s J0 U];rfl
 have s3:al 3 (aH [ψ] (fIt (vB 1)) (ak 0) bi q27) [ς (.f (.t [c,s,dR J0])),ς (.f (dR J0)),ς (.f (dW J0)),ψ,ψ,ψ,ψ]=ς (.nx [ς (.f (.t [c,s,dR J0])),ς (.f (dR J0)),ς (.f (dW J0)),ς (.e ((J0.map fun _=>[]).map dS)),ψ,ψ,ψ]):=by refine ar ?_;show((bK (ak 0) bi q27 [ψ] (J0.map Rw.d)).bind fun ys=>if ys.length<=qb2 then ς (T.e ys)else ψ)=_;rw[pO,qa6,if_pos (small (by simp;lia)),qc6,qc6];rfl
 show ai _ _ [ς (.f (.t [c,s,dR J0])),ψ,ψ,ψ,ψ,ψ,ψ]=_;rw[ap (ar rfl)];show ai _ _ [ς (.f (.t [c,s,dR J0])),ς (.f (dR J0)),ψ,ψ,ψ,ψ,ψ]=_;rw[ap s2,ap s3,ap (δ':=sl (.t [c,s,dR J0]) J0 (J0.map fun _=>[]) θ ψ ψ) (ar rfl),ap e];rfl
theorem AY(l:η Nat)(x:Nat):((l.map dI).any fun y=>eqF y (dI x))=decide (x∈l):=by
 rw[qj0,qj5];constructor
 .rintro⟨y,W,e⟩;obtain⟨z,U,rfl⟩:=qc8.mp W;have:(z:Int)=x:=by simpa[dI,eqF] using e
  have:z=x:=by lia
  subst this;exact decide_eq_true U
 .intro h;exact⟨dI x,qc8.mpr ⟨x,of_decide_eq_true h,rfl⟩,by simp[dI,eqF]⟩
theorem cQ(l:η Nat):(l.map dI).all bV=θ:=by rw[qk9];intro y U;obtain⟨z,W,rfl⟩:=qc8.mp U;rfl
variable{neg:Bool}{l:η Nat}
theorem gIn_ints{x:Nat}:bF neg (dI x) (.e (l.map dI))=ς (.f (.bl (if neg then !decide (x∈l)else decide (x∈l)))):=by
 show gIn neg (dI x) (.e (l.map dI))=_;unfold gIn
 have:inD (dI x) (.e (l.map dI))=ς (decide (x∈l)):=by show(if bV (dI x)&&(l.map dI).all bV then ς ((l.map dI).any fun y=>eqF y (dI x))else ψ)=_;rw[cQ,AY];rfl
 rw[this];rfl
def kpD(k:Nat×η Str):Dt:=.t [dI k.1,.t (k.2.map .str)]
def cdD(bg:η Str)(ks:η (Nat×η Str)):Dt:=.t [.t (bg.map .str),.t (ks.map kpD)]
theorem jY(b:Dt)(ks:η (Nat×η Str))(h:ks.length<=1000):y16 [.t [b,.t (ks.map kpD)]]=ς (.e ((ks.map (·.1)).map dI)):=by unfold y16;walk_at "k";rw[aY (h:=fun p:Nat×η Str=>dI p.1) fun p hp=>⟨_,rfl,rfl,by unfold q70 kpD;walk_at "k"⟩];walk_at "k";rw[cO (by rw[qa1];lia),qc6];walk_at "k";rfl
abbrev kcD(b:Dt)(ks:η (Nat×η Str)):Dt:=.t [b,.t (ks.map kpD)]
abbrev pcD(c s:Dt)(J0:η Rw):Dt:=.t [c,s,dR J0]
def pP(J0:η Rw)(i:Nat):η Nat:=match J0[i]? with
 |some r=>r.outs i
 |none=>[]
theorem tq(h:J0[i]?=ς r):pP J0 i=r.outs i:=by unfold pP;rw[h]
def stay(J0:η Rw)(l:η Nat):η Nat:=l.filter fun i=>(pP J0 i).any fun j=>decide (j∈l)
theorem mK:∀bs:η Bool,l7 (bs.map .bl)=ς bs
 |[]=>rfl
 |b::bs=>by rw[qa4];unfold l7;rw[mK bs];rfl
theorem yq(l js:η Nat):bK (ak 0) bi z33 [ψ,ς (.f (.e (l.map dI)))] (js.map dI)=ς ((js.map fun j=>decide (j∈l)).map .bl):=by
 have:=aY (f:=dI) (h:=fun j=>Dt.bl (decide (j∈l))) (bb:=ak 0) (ft:=bi) (fe:=z33) (δ:=[ψ,ς (.f (.e (l.map dI)))]) (l:=js) fun j _=>⟨[ς (.f (dI j)),ς (.f (.e (l.map dI)))],rfl,rfl,by unfold z33;show(bF ξ (dI j) (.e (l.map dI))).bind T.d=_;rw[gIn_ints];rfl⟩
 rw[this,qc6];rfl
theorem vg(J0:η Rw)(l:η Nat)(i:Nat)(hi:i<J0.length):y17 [ς (.f (dI i)),ς (.f (dW J0)),ς (.f (.e (l.map dI)))]=ς ((pP J0 i).any fun j=>decide (j∈l)):=by
 have U:J0[i]?=ς J0[i]:=by simp[hi]
 have e:=tp U;have W:((J0[i]).outs i).length<=2:=Rw.outs_len _ _;unfold y17;rw[show dI i=Dt.int (i:Nat)from rfl];walk_at "k";rw[e];walk_at "k";rw[yq,qa6,cO (by simp;lia)];walk_at "k";unfold zY;dsimp only;rw[mK,tq U];walk_at "k";simp[List.any_map,Function.comp_def]
theorem vh(J0:η Rw)(l:η Nat)(U:∀i∈l,i<J0.length):bK (ak 0) y17 (vL 0) [ψ,ς (.f (dW J0)),ς (.f (.e (l.map dI)))] (l.map dI)=ς ((stay J0 l).map dI):=bO fun i hi=>⟨_,rfl,vg J0 l i (U i hi),fun _=>rfl⟩
variable{c:De->ζ Bool}{g:De->ζ Out}{n:Nat}{δ δ2:De}
theorem Gp(h:c δ=ς θ)(U:g δ=ς (.nx δ2)):aT c g (n+1) δ=aT c g n δ2:=by rw[aT,h,qa6,if_pos rfl,U];rfl
theorem Gq(h:c δ=ς ξ):aT c g (n+1) δ=ς (.nx δ):=by rw[aT,h,qa6,if_neg Ω]
def lb(h:i∈stay J0 l):i∈l:=(qi1.mp h).1
theorem ld(J0:η Rw)(l:η Nat):(stay J0 l).length<=l.length:=qe6 _ _
theorem yr(h:¬ (stay J0 l).length<l.length):stay J0 l=l:=by have:=ld J0 l;exact(qt7 (p:=fun i=>(pP J0 i).any fun j=>decide (j∈l))).eq_of_length (by unfold stay at *;lia)
theorem yt (J0:η Rw) (l:η Nat) (hl:∀ i∈l,i<J0.length) (hn:l.length<=1000) (U W x4:ζ T) :
  z32 [ς (.f (dW J0)),U,ς (.f (.e (l.map dI))),W,x4]=ς (.nx [ς (.f (dW J0)),U,ς (.f (.e ((stay J0 l).map dI))),ς (.f (.bl (decide ((stay J0 l).length<l.length)))),ς (.f (.e ((stay J0 l).map dI)))]):=by
 have Z:=vh J0 l hl;have hs:=ld J0 l
 have Y:toD (aH [ψ,ς 0,ς 2] (fIt (vB 2)) (ak 0) y17 (vL 0)) [ς (.f (dW J0)),U,ς (.f (.e (l.map dI))),W,x4]=ς (.e ((stay J0 l).map dI)):=by show T.d =<< ((bK (ak 0) y17 (vL 0) [ψ,ς (.f (dW J0)),ς (.f (.e (l.map dI)))] (l.map dI)).bind mkL)=_;rw[Z,qa6,cO (by rw[qa1];lia)];rfl
 have s1:al 4 (toT (toD (aH [ψ,ς 0,ς 2] (fIt (vB 2)) (ak 0) y17 (vL 0)))) [ς (.f (dW J0)),U,ς (.f (.e (l.map dI))),W,x4]=ς (.nx [ς (.f (dW J0)),U,ς (.f (.e (l.map dI))),W,ς (.f (.e ((stay J0 l).map dI)))]):=by unfold al toT;rw[Y];rfl
 unfold z32;rw[bX,s1,ck];walk_at "k";simp
theorem lg (J0:η Rw) (hn:J0.length<=500) (U:ζ T):∀ (f:Nat) (l:η Nat) (x4:ζ T),l.length<f->(∀ i∈l,i<J0.length)->l.Nodup->l.length<=1000→
  ∃(E:η Nat)(Z:ζ T),aT q41 z32 (f+1) [ς (.f (dW J0)),U,ς (.f (.e (l.map dI))),ς (.f (.bl θ)),x4]=ς (.nx [ς (.f (dW J0)),U,ς (.f (.e (E.map dI))),ς (.f (.bl ξ)),Z])/\stay J0 E=E/\E.Nodup/\(∀i∈E,i∈l)/\∀C:Nat->Prop,(∀i,C i->i∈l)->(∀i,C i->∃j∈pP J0 i,C j)->∀i,C i->i∈E
 |0,l,x4,h,_,_,_=>absurd h (qz8 _)
 |f+1,l,x4,h,hl,nd,h1=>by
  have hb:=yt J0 l hl h1 U (ς (.f (.bl θ))) x4;have hc:q41 [ς (.f (dW J0)),U,ς (.f (.e (l.map dI))),ς (.f (.bl θ)),x4]=ς θ:=rfl;have hs:=ld J0 l
  have keep:∀C:Nat->Prop,(∀i,C i->i∈l)->(∀i,C i->∃j∈pP J0 i,C j)->∀i,C i->i∈stay J0 l:=fun C W Y i hi=>by obtain⟨j,hj,hcj⟩:=Y i hi;refine qi1.mpr ⟨W i hi,?_⟩;rw[qj5];exact⟨j,hj,decide_eq_true (W j hcj)⟩
  rw[Gp hc hb];by_cases z:(stay J0 l).length<l.length
  .rw[decide_eq_true z];obtain⟨E,Z,e,g1,g2,g3,g4⟩:=lg J0 hn U f (stay J0 l) (ς (.f (.e ((stay J0 l).map dI)))) Θ (fun i hi=>hl i (lb hi)) (nd.sublist qt7) Θ;exact⟨E,Z,e,g1,g2,fun i hi=>lb (g3 i hi),fun C W Y=>g4 C (keep C W Y) Y⟩
  .rw[decide_eq_false z];have hf:=yr z;refine⟨stay J0 l,_,Gq rfl,by rw[hf];exact hf,nd.sublist qt7,fun i hi=>lb hi,keep⟩
theorem rz (J0:η Rw) (l:η Nat) (Z:J0.length<=500) (W:∀ i∈l,i<J0.length) (U:l.Nodup) :
  ∃E:η Nat,y29 [dW J0,.e (l.map dI)]=ς (.f (.e (E.map dI)))/\stay J0 E=E/\E.Nodup/\(∀i∈E,i∈l)/\∀C:Nat->Prop,(∀i,C i->i∈l)->(∀i,C i->∃j∈pP J0 i,C j)->∀i,C i->i∈E:=by
 have h1:l.length<=J0.length:=by
  have:=cw U (m:=qb7 J0.length) fun x Y=>qd8.mpr (W x Y)
  simpa using this
 obtain⟨E,y4,e,g⟩:=lg J0 Z (ς (.f (.e (l.map dI)))) 99999 l ψ Θ W U Θ;refine⟨E,?_,g⟩;unfold y29;walk_at "k";rw[show(100000:Nat)=99999+1 from rfl,e];walk_at "k"
variable{fa fb:De->ζ Dt}{y:Dt}
theorem gu{g:Dt->Dt->ζ T}{x:Dt}(h1:fa δ=ς x)(h2:fb δ=ς y):d2 g fa fb δ=g x y:=by unfold d2;rw[h1,h2];rfl
theorem aM{f:De->ζ T}{t:T}(h:f δ=ς t):toD f δ=t.d:=by unfold toD;rw[h];rfl
variable{fi:De->ζ (η Dt)}{bb:Dt->De->ζ De}{fe:De->ζ Dt}{ds:η Dt}
theorem b8{src:η (ζ Nat)}{ft:De->ζ Bool}{ys:η Dt}(h1:fi δ=ς ds)(h2:bK bb ft fe (dC src δ) ds=ς ys)(h3:ys.length<=1000000):aH src fi bb ft fe δ=ς (.e ys):=by unfold aH;rw[h1,qa6,h2,qa6,if_pos (small h3)]
variable{f:De->ζ Dt}
theorem dU{F:η Dt->ζ T}{x:Dt}(h:f δ=ς x):ag F (aa f ae) δ=F [x]:=by unfold ag aa ae;rw[h];rfl
theorem iJ{F:η Dt->ζ T}{g:De->ζ Dt}{x:Dt}(h:f δ=ς x)(h2:g δ=ς y):ag F (aa f (aa g ae)) δ=F [x,y]:=by unfold ag aa ae;rw[h,h2];rfl
theorem vk(kept:η Nat)(n:Nat):bK (ak 0) z36 (vL 0) [ψ,ς (.f (.e (kept.map dI)))] ((qb7 n).map dI)=ς (((qb7 n).filter fun i=>!decide (i∈kept)).map dI):=bO fun j _=>⟨[ς (.f (dI j)),ς (.f (.e (kept.map dI)))],rfl,by unfold z36;show((bF θ (dI j) (.e (kept.map dI))).bind asB)=_;rw[gIn_ints];rfl,fun _=>rfl⟩
theorem yu(n:Nat)(h:n<=1000000):eh [.int n]=ς ((qb7 n).map dI):=by rw[Ee Θ];unfold fz dI;simp
def aN:ae δ=ς []:=rfl
theorem af{fs:De->ζ (η Dt)}{d:Dt}(h1:f δ=ς d)(h2:fs δ=ς ds):aa f fs δ=ς (d::ds):=by unfold aa;rw[h1,qa6,h2];rfl
theorem gF{fs:De->ζ (η Dt)}(h:fs δ=ς ds)(U:ds.length<=1000):aG fs δ=ς (.f (.t ds)):=by unfold aG;rw[h];exact if_pos (small Θ)
theorem bY{d:Dt}(h:f δ=ς d):toT f δ=ς (.f d):=by unfold toT;rw[h];rfl
variable{h:De->ζ Dt}
theorem pQ{F:η Dt->ζ T}{g:De->ζ Dt}{x z:Dt}(h1:f δ=ς x)(h2:g δ=ς y)(h3:h δ=ς z):ag F (aa f (aa g (aa h ae))) δ=F [x,y,z]:=by unfold ag;rw[af h1 (af h2 (af h3 aN))];rfl
theorem oD{g:Dt->Dt->ζ T}{x d:Dt}(h1:fa δ=ς x)(h2:fb δ=ς y)(h:g x y=ς (.f d)):toD (d2 g fa fb) δ=ς d:=aM (t:=.f d) ((gu h1 h2).trans h)
section
variable{F:η Dt->ζ T}{f g h:De->ζ Dt}{δ:De}{x y z d:Dt}{l:η Dt}
theorem c1D(h1:f δ=ς x)(e:F [x]=ς (.f d)):toD (ag F (aa f ae)) δ=ς d:=aM (t:=.f d) ((dU h1).trans e)
theorem c2D(h1:f δ=ς x)(h2:g δ=ς y)(e:F [x,y]=ς (.f d)):toD (ag F (aa f (aa g ae))) δ=ς d:=aM (t:=.f d) ((iJ h1 h2).trans e)
theorem c3D(h1:f δ=ς x)(h2:g δ=ς y)(h3:h δ=ς z)(e:F [x,y,z]=ς (.f d)):toD (ag F (aa f (aa g (aa h ae)))) δ=ς d:=aM (t:=.f d) ((pQ h1 h2 h3).trans e)
theorem c1L(h1:f δ=ς x)(e:F [x]=ς (.e l)):toD (ag F (aa f ae)) δ=ς (.e l):=aM (t:=.e l) ((dU h1).trans e)
theorem c2L(h1:f δ=ς x)(h2:g δ=ς y)(e:F [x,y]=ς (.e l)):toD (ag F (aa f (aa g ae))) δ=ς (.e l):=aM (t:=.e l) ((iJ h1 h2).trans e)
theorem c3L(h1:f δ=ς x)(h2:g δ=ς y)(h3:h δ=ς z)(e:F [x,y,z]=ς (.e l)):toD (ag F (aa f (aa g (aa h ae)))) δ=ς (.e l):=aM (t:=.e l) ((pQ h1 h2 h3).trans e)
end
variable{m:Nat}
theorem dRt{t:T}(h:g (ds.map (fun d=>ς (T.f d))++qb9 (m-ds.length) ψ)=ς (.rt t)):bC m g ds=ς t:=by rw[xZ,h];rfl
theorem Ca{g1 r:De->ζ Out}{t:T}(h:c δ=ς θ)(h1:g1 δ=ς (.rt t)):ai (sIf c g1 bc) r δ=ς (.rt t):=by rw[bX,pJ,h,jS,h1];rfl
theorem pR{g1 r:De->ζ Out}(h:c δ=ς ξ):ai (sIf c g1 bc) r δ=r δ:=by rw[bX,pJ,h,jT];rfl
variable{b:Bool}
theorem bE{g:Dt->Dt->ζ T}{x:Dt}(h1:fa δ=ς x)(h2:fb δ=ς y)(h:g x y=ς (.f (.bl b))):tB2 g fa fb δ=ς b:=by unfold tB2;rw[gu h1 h2,h];rfl
theorem c9{f:De->ζ T}{t:T}(h:f δ=ς t):aZ f δ=ς (.rt t):=by unfold aZ;rw[h];rfl
structure Hd where
 x:Str
 n:Int
 b:Bool
def hdD(h:Hd):Dt:=.t [.str h.x,.int h.n,.bl h.b]
theorem tw{α:Type}(f:α->Dt)(cs ss:η α)(U:cs.length+ss.length<=1000):pB (.t (cs.map f)) (.t (ss.map f))=ς (.f (.t ((cs++ss).map f))):=by
 cases cs with
 |nil=>rfl
 |cons a cs=>
  cases ss with
  |nil=>rw[qh0];rfl
  |cons b ss=>show(if((a::cs).map f).length+((b::ss).map f).length<=qb2/\(a::cs).map f≠[]/\(b::ss).map f≠[]then _ else ψ)=_;rw[if_pos ⟨by rw[qa1,qa1];exact small Θ,Ξ,Ξ⟩,qd3];rfl
theorem lh(cs ss:η Hd)(R:Dt)(U:cs.length+ss.length<=1000):y15 [.t [.t (cs.map hdD),.t (ss.map hdD),R]]=ς (.e ((((cs++ss).filter fun h=>!h.b).map (·.x)).map .str)):=by
 unfold y15;walk_at "k";rw[tw hdD cs ss U];walk_at "k"
 rw[bO (h:=fun h:Hd=>Dt.str h.x) (p:=fun h=>!h.b) fun h _=>⟨_,rfl,by
  unfold z61 hdD;walk_at "k"
  try rfl,fun _=>by unfold q60 hdD;walk_at "k"⟩]
 walk_at "k";rw[cO (by rw[qa1];exact qc0 (qe6 _ _) (by rw[qc4];lia)),qc6];walk_at "k";rfl
abbrev pgD(cs ss:η Hd)(J0:η Rw):Dt:=.t [.t (cs.map hdD),.t (ss.map hdD),dR J0]
variable{a:Bool}
theorem orE{f g:De->ζ Bool}(h1:f δ=ς a)(h2:a=ξ->g δ=ς b):fOr f g δ=ς (a||b):=by
 rw[Gc,h1];cases a with
 |true=>rfl
 |false=>exact h2 rfl
theorem dv{fs:De->ζ (η Dt)}(h:fs δ=ς ds)(U:ds.length<=1000):toD (aU fs) δ=ς (.e ds):=aM (t:=.e ds) (by rw[ya,h,qa6,cO Θ])
theorem cG{fs:De->ζ (η Dt)}(h:fs δ=ς ds)(U:ds.length<=1000):toD (aG fs) δ=ς (.t ds):=aM (t:=.f (.t ds)) (gF h U)
theorem fI{l m:η Dt}(h1:fa δ=ς (.e l))(h2:fb δ=ς (.e m))(U:l.length+m.length<=1000):toD (d2 aI fa fb) δ=ς (.e (l++m)):=aM (t:=.e (l++m)) ((gu h1 h2).trans (jV Θ))
theorem aO{a b c:Nat}(h1:fa δ=ς (dI a))(h2:fb δ=ς (dI b))(h:c=a+b):toD (d2 aI fa fb) δ=ς (dI c):=oD h1 h2 (by rw[h];exact congrArg (fun z:Int=>ς (T.f (.int z))) (Int.natCast_add a b).symm)
theorem cY{l:η Dt}(h:f δ=ς (.e l))(U:n=l.length):toD (ag be (aa f ae)) δ=ς (dI n):=c1D h (by rw[U];rfl)
theorem lI{F:De->ζ Dt}{G:De->ζ Out}{d:Dt}{r:ζ Out}(h:F δ=ς d)(k:G (δ.set i (ς (.f d)))=r):ai (al i (toT F)) G δ=r:=by rw[ap (ar (bY h))];exact k
theorem AZ{l m:η Rw}(h1:fa δ=ς (.e (l.map Rw.d)))(h2:fb δ=ς (.e (m.map Rw.d)))(U:l.length+m.length<=1000):toD (d2 aI fa fb) δ=ς (.e ((l++m).map Rw.d)):=by rw[fI h1 h2 (by simp;lia),qd3]
theorem g8{x:Dt}(h:f δ=ς x)(h2:itD x=ς ds):fIt f δ=ς ds:=by unfold fIt;rw[h];exact h2
theorem A0(a n:Nat)(h:a<=n)(U:n<=1000000):lA [dI a,.int n]=ς ((qj8 a (n-a)).map dI):=by
 show lA [.int a,.int n]=_;unfold lA;have h1:fN (a:Int)=θ:=by unfold fN;simp;lia
 have h2:fN (n:Int)=θ:=by unfold fN;simp;lia
 dsimp only;rw[h1,h2,zd2,if_pos rfl];unfold fz dI;rw[show((n:Int)-a).toNat=n-a by lia,List.range'_eq_map_range,qc6];rfl
theorem vm{f g:De->ζ Bool}(h1:f δ=ς a)(h2:a=θ->g δ=ς b):cR f g δ=ς (a&&b):=by
 unfold cR;rw[h1,qa6];cases a with
 |true=>exact h2 rfl
 |false=>rfl
section
variable{f g h:De->ζ Dt}{δ:De}
theorem jd(h1:f δ=ς (dI i))(h2:g δ=ς (dI n))(U:0<n):toD (d2 ce f g) δ=ς (dI (i%n)):=oD h1 h2 ((cF Θ).trans (by unfold dI;rw[Int.natCast_emod]))
theorem gG{a b c:Nat}(h1:f δ=ς (dI a))(h2:g δ=ς (dI b))(h:c+b=a):toD (d2 eU f g) δ=ς (dI c):=oD h1 h2 (by show ς (T.f (.int ((a:Int)-b)))=_;unfold dI;rw[show(a:Int)-b=c by lia])
end
variable{g2:De->ζ Out}
theorem A1{g1:De->ζ Out}{r:ζ Out}(h:c δ=ς b)(h1:b=θ->g1 δ=r)(h2:b=ξ->g2 δ=r):sIf c g1 g2 δ=r:=by
 cases b with
 |true=>exact(jI h).trans (h1 rfl)
 |false=>exact(gt h).trans (h2 rfl)
theorem lj{r:ζ Out}(h:fi δ=ς ds)(e:b7 bb g ds δ=r):cE fi bb g δ=r:=by rw[jb,h];exact e
def Rn(o:ζ Out)(Q:T->Prop):Prop:=∃t,o=ς (.rt t)/\Q t
section
variable{g g1 g2:De->ζ Out}{δ δ1:De}{Q:T->Prop}{c:De->ζ Bool}{bb:Dt->De->ζ De}{fi:De->ζ (η Dt)}{ds:η Dt}
theorem Rn.of(h:Rn (g (ds.map (fun d=>ς (T.f d))++qb9 (m-ds.length) ψ)) Q):∃t,bC m g ds=ς t/\Q t:=
 let ⟨t,h,q⟩:=h
 ⟨t,dRt h,q⟩
theorem Rn.seq(h:g1 δ=ς (.nx δ1))(k:Rn (g2 δ1) Q):Rn (ai g1 g2 δ) Q:=by rw[ap h];exact k
theorem Rn.set{F:De->ζ Dt}{d:Dt}(h:F δ=ς d)(k:Rn (g (δ.set i (ς (.f d)))) Q):Rn (ai (al i (toT F)) g δ) Q:=.seq (ar (bY h)) k
theorem Rn.for(hi:fi δ=ς ds)(h:b7 bb g1 ds δ=ς (.nx δ1))(k:Rn (g δ1) Q):Rn (ai (cE fi bb g1) g δ) Q:=.seq (by rw[jb,hi];exact h) k
theorem Rn.if{P:De->Prop}(h:c δ=ς b)(h1:b=θ->∃ δ1,g1 δ=ς (.nx δ1)/\P δ1)(h2:b=ξ->P δ)(k:∀ δ,P δ->Rn (g δ) Q):Rn (ai (sIf c g1 bc) g δ) Q:=by
 cases b with
 |true=>obtain⟨δ1,e,p⟩:=h1 rfl;exact .seq ((jI h).trans e) (k _ p)
 |false=>exact .seq ((gt h).trans rfl) (k _ (h2 rfl))
end
theorem e8{α:Type}{f:α->Dt}{Q:α->Prop}{St:η Dt->ζ T->ζ T->De}(Z:∀l x y d,(St l x y).set i (ς (.f d))=St l (ς (.f d)) y):∀(L l:η Dt)(x y:ζ T),l.length+L.length<=1000->(∀d∈L,∀(l:η Dt)(y:ζ T),l.length<=1000->∃(a:α)(Y W:ζ T),Q a/\g (St l (ς (.f d)) y)=ς (.nx (St (l++[f a]) Y W)))->∃(U:η α)(Y W:ζ T),U.length=L.length/\(∀a∈U,Q a)/\b7 (ak i) g L (St l x y)=ς (.nx (St (l++U.map f) Y W))
 |[],l,x,y,_,_=>⟨[],x,y,rfl,nofun,by rw[qm4,qh0];rfl⟩
 |d::L,l,x,y,h,s=>by
  rw[qe4]at h;obtain⟨a,x1,y1,qa,e⟩:=s d (.head _) l y Θ;obtain⟨U,x2,y2,h1,h2,e2⟩:=e8 Z L (l++[f a]) x1 y1 (by simp;lia) fun d hd=>s d (.tail _ hd)
  refine⟨a::U,x2,y2,by simp[h1],fun b hb=>(qa5.mp hb).elim (fun z=>z▸qa) (h2 b),?_⟩;rw[aD (δ1:=St l (ς (.f d)) y) (congrArg ς (Z l x y d)) e,e2,qk0];rfl
def iK(kept:η Nat)(J0:η Rw):η Dt:=J0.mapIdx fun k r=>.e (((r.outs k).filter fun w=>!decide (w∈kept)).map dI)
theorem z109(kept outs:η Nat)(U:outs.length<=10):q49 [ς (.f (.t (outs.map dI))),ς (.f (.e (kept.map dI)))]=ς (.e ((outs.filter fun w=>!decide (w∈kept)).map dI)):=by
 unfold q49;walk_at "k"
 rw[bO (h:=dI) (p:=fun w=>!decide (w∈kept)) fun w W=>⟨_,rfl,by unfold q67;walk_at "k";rw[gIn_ints];rfl,fun _=>rfl⟩]
 walk_at "k";rw[cO (by rw[qa1];exact qc0 (qe6 _ _) Θ)];walk_at "k"
theorem yv(c s b:Dt)(J0:η Rw)(ks:η (Nat×η Str))(h:J0.length<=1000)(hk:ks.length<=1000):q21 [.t [c,s,dR J0],.t [b,.t (ks.map kpD)]]=ς (.e (iK (ks.map (·.1)) J0)):=by unfold q21;walk_at "k";rw[jY b ks hk];walk_at "k";rw[nW c s J0 h];walk_at "k";unfold iK;rw[zb3,zb3,aY (h:=fun p:Rw×Nat=>Dt.e (((p.1.outs p.2).filter fun w=>!decide (w∈ks.map (·.1))).map dI)) fun p hp=>⟨_,rfl,rfl,z109 _ _ (qc0 (Rw.outs_len _ _) Ω)⟩];walk_at "k";rw[cO (by rw[qa1,List.length_zipIdx];lia)];walk_at "k"
noncomputable def ms:Mrk->Str
 |.fresh=>"fresh"|.seen=>"seen"|.safe=>"safe"|.spoilt=>"spoilt"
theorem nX:∀{a b:Mrk},ms a=ms b->a=b:=fun {a b} h=>by cases a<;>cases b<;>first|rfl|(exfalso;revert h;unfold ms;decide +kernel)
theorem Gr(a b:Mrk):decide (ms a=ms b)=decide (a=b):=by rw[decide_eq_decide];exact⟨nX,fun h=>by rw[h]⟩
theorem Gs(r:Rw)(nm:Str)(x:ζ T):tB2 (bF ξ) (toD (d2 ah (vB 1) (kD (.int 0)))) (toD (aG (aa (kD (.str "load")) (aa (kD (.str "take")) ae)))) [x,ς (.f r.d),ς (.f (.str nm))]=ς (match r with|.load _ _=>θ|.take _ _ _=>θ|_=>ξ):=by cases r<;>simp only[Rw.d]<;>walk_at "k"
theorem Gu(r:Rw)(nm:Str)(x:ζ T):tB2 (bF ξ) (toD (d2 ah (vB 1) (kD (.int 0)))) (toD (aG (aa (kD (.str "store")) (aa (kD (.str "lay")) ae)))) [x,ς (.f r.d),ς (.f (.str nm))]=ς (match r with|.store _ _=>θ|.lay _ _ _=>θ|_=>ξ):=by cases r<;>simp only[Rw.d]<;>walk_at "k"
theorem Gv(r:Rw)(nm:Str)(x:ζ T):tB2 (gEq ξ) (toD (d2 ah (vB 1) (kD (.int 0)))) (kD (.str "store")) [x,ς (.f r.d),ς (.f (.str nm))]=ς (match r with|.store _ _=>θ|_=>ξ):=by cases r<;>simp only[Rw.d]<;>walk_at "k"
theorem nY(a b:Mrk)(x y:ζ T):tB2 (gEq ξ) (vB 0) (kD (.str (ms b))) [ς (.f (.str (ms a))),x,y]=ς (decide (a=b)):=by rw[<- Gr];rfl
theorem nZ(m:Mrk)(r:Rw)(nm:Str):y18 [.str (ms m),r.d,.str nm]=ς (.f (.str (ms (mb m r nm)))):=by
 have W:cR (tB2 (gEq ξ) (vB 0) (kD c7)) (cR (tB2 (bF ξ) (toD (d2 ah (vB 1) (kD (.int 0)))) (toD (aG (aa (kD (.str "load")) (aa (kD (.str "take")) ae))))) (tB2 (gEq ξ) (toD (d2 ah (vB 1) (kD (.int 2)))) (vB 2))) [ς (.f (.str (ms m))),ς (.f r.d),ς (.f (.str nm))]=ς (decide (m=.fresh)&&r.gets nm):=by
  rw[ja,show tB2 (gEq ξ) (vB 0) (kD c7) [ς (.f (.str (ms m))),ς (.f r.d),ς (.f (.str nm))]=_ from nY m .fresh _ _];cases decide (m=.fresh)
  .rfl
  .rw[jS,ja,Gs];cases r<;>rfl
 have U:cR (tB2 (gEq ξ) (vB 0) (kD c7)) (cR (tB2 (gEq ξ) (toD (d2 ah (vB 1) (kD (.int 0)))) (kD (.str "store"))) (tB2 (gEq ξ) (toD (d2 ah (vB 1) (kD (.int 1)))) (vB 2))) [ς (.f (.str (ms m))),ς (.f r.d),ς (.f (.str nm))]=ς (decide (m=.fresh)&&r.stores nm):=by
  rw[ja,show tB2 (gEq ξ) (vB 0) (kD c7) [ς (.f (.str (ms m))),ς (.f r.d),ς (.f (.str nm))]=_ from nY m .fresh _ _];cases decide (m=.fresh)
  .rfl
  .rw[jS,ja,Gv];cases r<;>rfl
 have Y:cR (tB2 (gEq ξ) (vB 0) (kD kX)) (cR (tB2 (bF ξ) (toD (d2 ah (vB 1) (kD (.int 0)))) (toD (aG (aa (kD (.str "store")) (aa (kD (.str "lay")) ae))))) (tB2 (gEq ξ) (toD (d2 ah (vB 1) (kD (.int 1)))) (vB 2))) [ς (.f (.str (ms m))),ς (.f r.d),ς (.f (.str nm))]=ς (decide (m=.seen)&&r.puts nm):=by
  rw[ja,show tB2 (gEq ξ) (vB 0) (kD kX) [ς (.f (.str (ms m))),ς (.f r.d),ς (.f (.str nm))]=_ from nY m .seen _ _];cases decide (m=.seen)
  .rfl
  .rw[jS,ja,Gu];cases r<;>rfl
 unfold y18;rw[xZ];show Ef (ai _ _ [ς (.f (.str (ms m))),ς (.f r.d),ς (.f (.str nm))])=_;rw[bX,pJ,W];cases h1:(decide (m=.fresh)&&r.gets nm)with
 |true=>
  have:m=.fresh/\r.gets nm=θ:=by simpa using h1
  rw[this.1];simp only[mb,this.2,if_true];rfl
 |false=>
  rw[jT,bc,ck,bX,pJ,U];cases h2:(decide (m=.fresh)&&r.stores nm)with
  |true=>
   have:m=.fresh/\r.stores nm=θ:=by simpa using h2
   rw[this.1]at h1 ⊢;simp only[decide_true,ql3]at h1;simp only[mb,this.2,h1,if_true,qd1,if_false];rfl
  |false=>
   rw[jT,bc,ck,bX,pJ,Y];cases h3:(decide (m=.seen)&&r.puts nm)with
   |true=>
    have:m=.seen/\r.puts nm=θ:=by simpa using h3
    rw[this.1];simp only[mb,this.2,if_true];rfl
   |false=>
    rw[jT,bc,ck];cases m with
    |fresh=>simp only[decide_true,ql3]at h1 h2;simp only[mb,h1,h2,qd1,if_false];rfl
    |seen=>simp only[decide_true,ql3]at h3;simp only[mb,h3,qd1,if_false];rfl
    |safe=>rfl
    |spoilt=>rfl
def dk(t:Nat×Mrk):Dt:=.t [dI t.1,.str (ms t.2)]
theorem jZ(h:J0[i]?=ς r):ah (dR J0) (dI i)=ς (.f r.d):=by unfold dR dI;rw[sV,bn,qb3,h];rfl
theorem EJ{kept:η Nat}(h:J0[i]?=ς r):ah (.e (iK kept J0)) (dI i)=ς (.f (.e (((r.outs i).filter fun w=>!decide (w∈kept)).map dI))):=by unfold iK dI;rw[fS,bn,qx6,h];rfl
theorem tz(t:Nat×Mrk):ah (dk t) (.int 0)=ς (.f (dI t.1)):=by unfold dk;walk_at "k"
theorem Cb(t:Nat×Mrk):ah (dk t) (.int 1)=ς (.f (.str (ms t.2))):=by unfold dk;walk_at "k"
theorem Cc{a b:Mrk}:decide (ms a=ms b)=decide (a=b):=by rw[decide_eq_decide];exact⟨nX,fun h=>by rw[h]⟩
theorem vn{nm:Str}{t:Nat×Mrk}(h:t.1<J0.length):jC 3 bI [.str nm,dR J0] [dk t]=ς (.f (.bl (jc J0 nm t))):=by
 have U:J0[t.1]?=ς J0[t.1]:=gQ h;unfold jC
 show(match bI [ς (.f (dk t)),ς (.f (.str nm)),ς (.f (dR J0))]with
  |some (.rt t)=>ς t|some (.nx _)=>ς (.f .non)|_=>ψ)=_
 have e:bI [ς (.f (dk t)),ς (.f (.str nm)),ς (.f (dR J0))]=ς (.rt (.f (.bl (jc J0 nm t)))):=by unfold bI;walk_at "k";rw[Cb,tz];walk_at "k";rw[jZ U];walk_at "k";rw[nZ];unfold gl;walk_at "k";unfold jc;simp only[U];rw[<- Cc];rfl
 rw[e]
theorem A2{kept:η Nat}{nm:Str}{t:Nat×Mrk}(h:t.1<J0.length):jC 5 bH [.str nm,dR J0,.e (iK kept J0)] [dk t]=ς (.e ((iI J0 kept nm t).map dk)):=by
 have U:J0[t.1]?=ς J0[t.1]:=gQ h;unfold jC
 show(match bH [ς (.f (dk t)),ψ,ς (.f (.str nm)),ς (.f (dR J0)),ς (.f (.e (iK kept J0)))]with
  |some (.rt t)=>ς t|some (.nx _)=>ς (.f .non)|_=>ψ)=_
 have e:bH [ς (.f (dk t)),ψ,ς (.f (.str nm)),ς (.f (dR J0)),ς (.f (.e (iK kept J0)))]=ς (.rt (.e ((iI J0 kept nm t).map dk))):=by
  unfold bH;walk_at "k";rw[Cb,tz];walk_at "k";rw[jZ U];walk_at "k";rw[nZ];unfold nJ;walk_at "k";unfold iI;simp only[U];generalize W:mb t.2 J0[t.1] nm=m;by_cases e:m=.safe
  .rw[fF (by simp[e,ms]),if_pos e];walk_at "k"
  .rw[eC (by simp only[decide_eq_false_iff_not];exact fun z=>e (nX (b:=.safe) z)),if_neg e];walk_at "k";rw[tz];walk_at "k";rw[EJ U];walk_at "k";rw[aY (h:=fun w:Nat=>dk (w,m)) fun w _=>⟨_,rfl,rfl,by unfold z52 dk;walk_at "k"⟩];walk_at "k";rw[cO (by rw[qa1];exact qc0 (qe6 _ _) (qc0 (Rw.outs_len _ _) Ω)),qc6];walk_at "k";rfl
 rw[e]
def ky(t:Nat×Mrk):Int×Str:=((t.1:Int),ms t.2)
theorem EK(a b:Nat×Mrk)(h:ky a=ky b):a=b:=by unfold ky at h;simp only[Prod.mk.injEq]at h;exact Prod.ext Θ (nX h.2)
def Un(n:Nat):η (Nat×Mrk):=(qb7 n).flatMap fun k=>[(k,.fresh),(k,.seen),(k,.safe),(k,.spoilt)]
def mem_Un{t:Nat×Mrk}:t∈Un n↔t.1<n:=by
 unfold Un;rw[List.mem_flatMap];constructor
 .rintro⟨k,hk,h⟩;have hk:=qd8.mp hk;simp at h;rcases h with rfl|rfl|rfl|rfl<;>exact hk
 .intro h;refine⟨t.1,qd8.mpr h,?_⟩;obtain⟨k,m⟩:=t;cases m<;>simp
def EL(n:Nat):(Un n).length=4*n:=by
 unfold Un;induction n with
 |zero=>rfl
 |succ n U=>rw[List.range_succ,List.flatMap_append,qc4,U];simp;lia
def kps(kp:η (Nat×η Str)):η Nat:=kp.map (·.1)
noncomputable def plain(cs ss:η Hd):η Str:=((cs++ss).filter fun h=>!h.b).map (·.x)
def sl8(P C:Dt)(nm:Str)(U x4 x7:ζ T):De:=[ς (.f P),ς (.f C),ς (.f (.str nm)),U,x4,ψ,ψ,x7]
def endS:ζ (η (Nat×Mrk))->T
 |none=>.f .non
 |some U=>.e ((U.reverse.map (·.1)).map dI)
variable{cs ss:η Hd}
theorem rA {b:Dt} {kp:η (Nat×η Str)} {nm:Str} (hl:cs.length+ss.length<=1000) (h:nm∈plain cs ss) (hr:J0.length<=1000) (hr0:0<J0.length) (hk:kp.length<=1000) (Z:∀ k∈kps kp,k<J0.length) (hO:∀ (k:Nat) (r:Rw) (w:Nat),J0[k]?=ς r->w∈r.outs k->w<J0.length) :
  ∃r:ζ (η (Nat×Mrk)),q50 [pgD cs ss J0,kcD b kp,.str nm]=ς (endS r)∧(r=ψ->∀t,Rch (iI J0 (kps kp) nm) (cP (kps kp)) t->jc J0 nm t=ξ)/\∀W,r=ς W->W.length<=10000/\∃t,Wy (iI J0 (kps kp) nm) (jc J0 nm) (cP (kps kp)) t W/\jc J0 nm t=θ:=by
 obtain⟨r,h1,h2,h3⟩:=yk (ky:=ky) EK (U:=Un J0.length) (J4:=cP (kps kp)) (beh:=iI J0 (kps kp) nm) (fit:=jc J0 nm)
  (fun t Y u hu=>by obtain⟨r,e,_,g,_⟩:=yh hu;exact mem_Un.mpr (hO _ r _ e g))
  (by rw[EL];lia)
  (fun t Y=>by
   unfold iI;split
   .simp
   .split
    .simp
    .rw[qa1];exact qc0 (qe6 _ _) (qc0 (Rw.outs_len _ _) Ω))
  (fun t Y=>by
   obtain⟨k,hk',rfl⟩:=qc8.mp Y;refine mem_Un.mpr ?_;rcases qa5.mp hk' with rfl|z
   .exact hr0
   .exact Z k z)
  (by unfold cP kps;simp;lia)
 refine⟨r,?_,h2,fun W z=>⟨qc0 (h3 W z).1 Ω,(h3 W z).2⟩⟩;have hws:∀W,r=ς W->W.length<=10000:=fun W z=>qc0 (h3 W z).1 Ω
 unfold q50;refine jX ?_;show ai _ _ (sl8 (pgD cs ss J0) (kcD b kp) nm ψ ψ ψ)=_
 have t1:tB2 (bF θ) (vB 2) (toD (ag y15 (aa (vL 0) ae))) (sl8 (pgD cs ss J0) (kcD b kp) nm ψ ψ ψ)=ς ξ:=by unfold sl8;walk_at "k";rw[lh cs ss _ hl];walk_at "k";rw[k7];simp only[if_true];rw[show(((cs++ss).filter fun h=>!h.b).map (·.x))=plain cs ss from rfl,decide_eq_true h];rfl
 have t3:al 4 (toT (toD (ag q21 (aa (vL 0) (aa (vL 1) ae))))) (sl8 (pgD cs ss J0) (kcD b kp) nm (ς (.f (dR J0))) ψ ψ)=ς (.nx (sl8 (pgD cs ss J0) (kcD b kp) nm (ς (.f (dR J0))) (ς (.f (.e (iK (kps kp) J0)))) ψ)):=by refine(ar (t:=.f (.e (iK (kps kp) J0))) ?_).trans rfl;show(((q21 [pgD cs ss J0,kcD b kp]).bind T.d).map T.f)=_;show(((q21 [pcD _ _ J0,kcD b kp]).bind T.d).map T.f)=_;rw[yv _ _ _ J0 kp hr hk];rfl
 rw[ap (by rw[gt t1];rfl),ap (δ':=sl8 (pgD cs ss J0) (kcD b kp) nm (ς (.f (dR J0))) ψ ψ) (ar rfl),ap t3];show ai _ _ (sl8 (pgD cs ss J0) (kcD b kp) nm (ς (.f (dR J0))) (ς (.f (.e (iK (kps kp) J0)))) ψ)=_
 have f0:q55 (sl8 (pgD cs ss J0) (kcD b kp) nm (ς (.f (dR J0))) (ς (.f (.e (iK (kps kp) J0)))) ψ)=ς (.e ((cP (kps kp)).map (nD ky))):=by unfold q55 sl8;walk_at "k";rw[jY b kp hk];walk_at "k";rw[xQ (small (by simp;lia))];walk_at "k";rw[show(Dt.int 0::(kp.map (fun x=>x.1)).map dI)=(0::kps kp).map dI from rfl,aY (h:=fun k:Nat=>dk (k,.fresh)) fun k _=>⟨_,rfl,rfl,by unfold y81 dk c7;walk_at "k";rfl⟩];walk_at "k";rw[cO (by unfold kps;simp;lia)];unfold cP;rw[qc6];rfl
 have fr:fRt [2,3,4] [2,3] ["place","mark","name","rows","inner"] ["place","name","rows"] bH bI q55 z75 (sl8 (pgD cs ss J0) (kcD b kp) nm (ς (.f (dR J0))) (ς (.f (.e (iK (kps kp) J0)))) ψ)=ς (resR ky r):=by
  refine DK (d0:=.e ((cP (kps kp)).map (nD ky))) (a:=[.str nm,dR J0,.e (iK (kps kp) J0)]) (b:=[.str nm,dR J0]) f0 rfl rfl fun f1 f2 F0 hne=>?_
  refine h1 _ f1 f2 F0 (fun t Y=>?_) fun t Y=>?_
  .rw[DH];exact A2 (mem_Un.mp Y)
  .rw[DI hne];exact vn (mem_Un.mp Y)
 rw[ap (ar fr)];cases r with
 |none=>rfl
 |some W=>
  have hwl:W.length<=10000:=hws W rfl;show aZ _ [ς (.f (pgD cs ss J0)),ς (.f (kcD b kp)),ς (.f (.str nm)),ς (.f (dR J0)),ς (.f (.e (iK (kps kp) J0))),ψ,ψ,ς (.e (W.reverse.map (nD ky)))]=_;walk_at "k"
  rw[aY (h:=fun t:Nat×Mrk=>dI t.1) fun t _=>⟨[ς (.f (dk t))],rfl,rfl,by unfold z82;walk_at "k";rw[tz];rfl⟩]
  walk_at "k";rw[cO (by rw[qa1,List.length_reverse];lia)];show ς (Out.rt (.e (W.reverse.map fun t=>dI t.1)))=ς (Out.rt (.e ((W.reverse.map (·.1)).map dI)));rw[qc6];rfl
variable{p:Str->Bool}{x:Str}
section
variable{J0:η Rw}{N:η Str}{a:Nat}
def rN(J0:η Rw)(N:η Str)(a:Nat):Nat->Nat->Nat
 |d,0=>d
 |d,f+1=>if N.any (fun x=>decide (L2.runN J0 x a (d+1)=.spoilt))then d else rN J0 N a (d+1) f
def rch(J0:η Rw)(N:η Str)(a:Nat):Nat:=a+rN J0 N a 0 (J0.length-1-a)
theorem tD:∀(f d:Nat),d<=rN J0 N a d f/\rN J0 N a d f<=d+f
 |0,d=>⟨nL _,nL _⟩
 |f+1,d=>by have:=tD f (d+1);unfold rN;split<;>lia
def tE(h:¬ N.any p=θ):∀x∈N,p x=ξ:=fun x U=>by
 cases e:p x with
 |false=>rfl
 |true=>exact absurd (qj5.mpr ⟨x,U,e⟩) h
theorem Cd:∀(f d:Nat),(∀k,k<=d->∀x∈N,L2.runN J0 x a k≠.spoilt)->∀k,k<=rN J0 N a d f->∀x∈N,L2.runN J0 x a k≠.spoilt
 |0,d,h,k,hk,x,U=>h k hk x U
 |f+1,d,h,k,hk,x,U=>by
  unfold rN at hk;split at hk
  .exact h k hk x U
  .rename_i z;refine Cd f (d+1) (fun j Y y W=>?_) k hk x U;by_cases e:j=d+1
   .rw[e];exact of_decide_eq_false (tE z y W)
   .exact h j Θ y W
theorem yw:∀(f d:Nat),rN J0 N a d f<d+f->∃x∈N,L2.runN J0 x a (rN J0 N a d f+1)=.spoilt
 |0,d,h=>absurd h (qk4 _)
 |f+1,d,h=>by
  unfold rN at h ⊢;split
  .rename_i z;obtain⟨x,U,e⟩:=qj5.mp z;exact⟨x,U,of_decide_eq_true e⟩
  .rename_i z;rw[if_neg z]at h;exact yw f (d+1) Θ
def pS:mb .fresh r x≠.spoilt:=by
 simp only[mb];split
 .exact nofun
 .split<;>exact nofun
def yx:L2.runN J0 x a 1≠.spoilt:=by
 unfold L2.runN;split
 .exact pS
 .exact nofun
theorem Gw{k:Nat}(h:k<=rch J0 N a)(x:Str)(U:x∈N):L2.runN J0 x a (k-a)≠.spoilt:=
 Cd (J0.length-1-a) 0 (fun j W _ _=>by
  obtain rfl:j=0:=by lia
  exact nofun) (k-a) (by unfold rch at h;lia) x U
def EM(h:a+1<J0.length):a+1<=rch J0 N a:=by
 unfold rch;obtain⟨f,e⟩:∃f,J0.length-1-a=f+1:=⟨J0.length-1-a-1,Θ⟩
 have:¬ N.any (fun x=>decide (L2.runN J0 x a (0+1)=.spoilt))=θ:=fun z=>by obtain⟨x,_,e⟩:=qj5.mp z;exact yx (of_decide_eq_true e)
 have U:rN J0 N a 0 (f+1)=rN J0 N a 1 f:=if_neg this;have:=(tD (J0:=J0) (N:=N) (a:=a) f 1).1;rw[e,U];lia
theorem fJ{d:Nat}(h:J0[a+d]?=ς r):L2.runN J0 x a (d+1)=mb (L2.runN J0 x a d) r x:=by rw[L2.runN,h]
theorem tF{d:Nat}(h:L2.runN J0 x a d=.safe):∀e,L2.runN J0 x a (d+e)=.safe
 |0=>h
 |e+1=>by
  have:=tF h e;rw[<- Nat.add_assoc,L2.runN];split
  .rw[this];rfl
  .exact this
def vo(J0:η Rw)(N:η Str)(K:η Nat):Prop:=∀x∈N,∀t,Rch (iI J0 K x) (cP K) t->jc J0 x t=ξ
variable{K:η Nat}
theorem A3(S:jJ J0)(hK:∀k∈K,k<J0.length)(h0:0<J0.length)(hQ:∀a∈0::K,a+1=J0.length∨∃b∈K,a<b/\b<=rch J0 N a):vo J0 N K:=fun x hx t ht=>by
 have J:t.1<J0.length/\∃a∈0::K,a<=t.1/\t.2=L2.runN J0 x a (t.1-a)/\∀k∈K,a<k->t.1<k:=by
  induction ht with
  |@one t h=>
   obtain⟨k,hk,rfl⟩:=qc8.mp h;refine⟨?_,k,hk,nL _,by rw[zm3];rfl,fun _ _ z=>z⟩;rcases qa5.mp hk with rfl|z
   .exact h0
   .exact hK k z
  |@more u p _ h Z=>
   obtain⟨Y,a,W,q1,q2,U⟩:=Z;obtain⟨r,e,_,g1,g2,g3⟩:=yh h;rw[S _ r e]at g1;split at g1
   .have g1:=qb1.mp g1;refine⟨Θ,a,W,Θ,?_,fun k hk z=>?_⟩
    .rw[g3,q2,g1,show p.1+1-a=p.1-a+1 by lia,fJ (r:=r) (by rw[show a+(p.1-a)=p.1 by lia];exact e)]
    .have:=U k hk z;have:k≠u.1:=fun z=>g2 (z▸hk)
     lia
   .cases g1
 obtain⟨Y,a,W,q1,q2,U⟩:=J;obtain⟨r,e⟩:∃r,J0[t.1]?=ς r:=⟨J0[t.1],by simp[Y]⟩;unfold jc;rw[e];refine decide_eq_false fun z=>?_
 rw[q2,<- fJ (r:=r) (by rw[show a+(t.1-a)=t.1 by lia];exact e)]at z;rcases hQ a W with h|⟨b,hb,h1,h2⟩
 .rw[show t.1-a+1=1 by lia]at z;exact yx z
 .have:=U b hb h1;have:=Gw (J0:=J0) (N:=N) (a:=a) (k:=t.1+1) Θ x hx;rw[show t.1+1-a=t.1-a+1 by lia]at this;exact this z
theorem A4(S:jJ J0)(Z:∀k∈K,k<J0.length)(h:vo J0 N K){b:Nat}(W:a∈0::K)(hb:b∈K)(hab:a<b)(hn:∀k∈K,a<k->b<=k):b<=rch J0 N a:=qs7 fun z=>by
 have hbl:=Z b hb;obtain⟨d,Y⟩:∃d,rN J0 N a 0 (J0.length-1-a)=d:=⟨_,rfl⟩;unfold rch at z;obtain⟨x,hx,e⟩:=yw (J0:=J0) (N:=N) (a:=a) (J0.length-1-a) 0 Θ;rw[Y]at z e
 have go:∀k,k<=d->Rch (iI J0 K x) (cP K) (a+k,L2.runN J0 x a k):=fun k=>by
  induction k with
  |zero=>exact fun _=>.one (qc8.mpr ⟨a,W,rfl⟩)
  |succ k ih=>
   intro hk;refine .more (ih Θ) ?_;obtain⟨r,U⟩:∃r,J0[a+k]?=ς r:=⟨J0[a+k]'Θ,Ξ⟩;have e1:=fJ (x:=x) U;unfold iI;dsimp only;rw[U];dsimp only
   have ns:L2.runN J0 x a (k+1)≠.safe:=fun q=>by have:=tF q (d-k);rw[show k+1+(d-k)=d+1 by lia,e]at this;cases this
   rw[<- e1,if_neg ns,S _ r U,if_pos Θ];refine qc8.mpr ⟨a+k+1,qi1.mpr ⟨qb1.mpr rfl,?_⟩,rfl⟩;rw[qi7,decide_eq_false_iff_not];intro q;have:=hn _ q Θ;lia
 have:=h x hx _ (go d (nL _));obtain⟨r,U⟩:∃r,J0[a+d]?=ς r:=⟨J0[a+d]'Θ,Ξ⟩;unfold jc at this;dsimp only at this;rw[U]at this;dsimp only at this;rw[<- fJ U,e]at this;exact absurd this Ω
theorem cnt {L:Nat->Nat} (L0:L 0=0) (hL:∀ i j,i<j->j<J0.length->j<=rch J0 N i->L j<=L i+1) (hK:∀ k∈K,k<J0.length) (Z:∀ a∈0::K,∀ b∈K,a<b->(∀ k∈K,a<k->b<=k)->b<=rch J0 N a) :
  ∀(Ts:η Nat)(a c:Nat),a∈0::K->L a<=c->Ts.Pairwise (· < ·)->(∀k∈Ts,k∈K/\a<=k)->(∀k∈K,k<=a∨k∈Ts)->∀z,Ts.getLast?=ς z->L z<=c+Ts.length
 |[],_,_,_,_,_,_,_,_,h=>by cases h
 |b::Ts,a,c,ha,hc,hp,h1,h2,z,Y=>by
  obtain⟨p1,p2⟩:=qg6.mp hp;obtain⟨W,hab⟩:=h1 b (.head _)
  have U:L b<=c+1:=by
   by_cases e:a=b
   .rw[<- e];lia
   .have:=hL a b Θ (hK b W) (Z a ha b W Θ fun k hk hk2=>by
     rcases h2 k hk with q|q
     .lia
     .rcases qa5.mp q with rfl|q
      .exact nL _
      .exact qi2 (p1 k q))
    lia
  cases Ts with
  |nil=>cases Y;exact U
  |cons b' Ts=>
   have:=cnt L0 hL hK Z (b'::Ts) b (c+1) (.tail _ W) U p2 (fun k hk=>⟨(h1 k (.tail _ hk)).1,qi2 (p1 k hk)⟩) (fun k hk=>by
    rcases h2 k hk with q|q
    .exact .inl Θ
    .rcases qa5.mp q with rfl|q
     .exact .inl (nL _)
     .exact .inr q) z (by rw[qm3]at Y;exact Y)
   simp at this ⊢;lia
def Ch(J0:η Rw)(N:η Str):Nat->η Nat->Prop
 |_,[]=>True
 |a,b::t=>a<b/\b<=rch J0 N a/\Ch J0 N b t
theorem Ch.lo:∀{a:Nat}{t:η Nat},Ch J0 N a t->∀k∈t,a<k
 |_,[],_,_,h=>by cases h
 |a,b::t,h,k,hk=>by
  rcases qa5.mp hk with rfl|hk
  .exact h.1
  .exact qp6 h.1 (h.2.2.lo k hk)
theorem Ch.pw:∀{a:Nat}{t:η Nat},Ch J0 N a t->t.Pairwise (· < ·)
 |_,[],_=>.nil
 |_,b::t,h=>qg6.mpr ⟨h.2.2.lo,h.2.2.pw⟩
theorem Ch.nx:∀{a:Nat}{t:η Nat},Ch J0 N a t->∀k∈a::t,ς k=(a::t).getLast?∨∃b∈t,k<b/\b<=rch J0 N k
 |a,[],_,k,hk=>by rw[qb1.mp hk];exact .inl rfl
 |a,b::t,h,k,hk=>by
  rcases qa5.mp hk with rfl|hk
  .exact .inr ⟨b,.head _,h.1,h.2.1⟩
  .rw[qm3];rcases h.2.2.nx k hk with q|⟨c,U,q⟩
   .exact .inl q
   .exact .inr ⟨c,.tail _ U,q⟩
end
theorem cr{α β:Type}(f:α->β)(l:η α)(k:Nat)(h:k<l.length)(d:α):atI (l.map f) (k:Int)=ς (f (l.getD k d)):=by unfold atI ixN;rw[if_pos Θ,qa1,if_pos Θ];simp[h]
theorem n4(ns:η Int)(k:Nat):q5 [.e (ns.map .int),.int k]=ς (.f (.int (ns.getD k 0))):=by
 unfold q5;walk_at "d";by_cases h:k<ns.length
 .rw[fF (by simpa using h)];walk_at "d";rw[cr Dt.int ns k h 0];rfl
 .rw[eC (by simpa using h)];walk_at "d";simp[List.getD,show ns.length<=k by lia]
theorem j0{i j:Int}(U:0<j)(h1:j<10000000000000):jq (.int i) (.int j)=ς (.f (.int (i/j))):=if_pos ⟨U,Θ⟩
theorem jz(U:ζ T):∀(zs:η Nat)(n:Int)(done:η Nat)(W:ζ T),(∀z∈zs,0<z/\z<10000000000000)->done.length+zs.length<=100->∃(Y:Int)(ds:η Nat)(y:ζ T),b7 (ak 3) z43 (zs.map dI) [ς (.f (.int n)),U,ς (.e (done.map dI)),W]=ς (.nx [ς (.f (.int Y)),U,ς (.e ((done++ds).map dI)),y])/\ds.length=zs.length/\∀(i d z:Nat),ds[i]?=ς d->zs[i]?=ς z->d<z
 |[],n,done,W,_,_=>⟨n,[],W,by simp[b7],rfl,fun i d z h=>by simp at h⟩
 |z::zs,n,done,W,hz,Z=>by
  obtain⟨h0,h1⟩:=hz z (.head _);have m0:=Int.emod_nonneg n (show(z:Int)≠0 by lia);have m1:=Int.emod_lt_of_pos n (show(0:Int)<z by lia);obtain⟨d,hd⟩:∃d:Nat,n%(z:Int)=(d:Int):=⟨(n%(z:Int)).toNat,Θ⟩;obtain⟨Y,ds,y,e,el,ed⟩:=jz U zs (n/z) (done++[d]) (ς (.f (dI z))) (fun w hw=>hz w (.tail _ hw)) (by simp at Z ⊢;lia);refine⟨Y,d::ds,y,?_,by simp[el],fun i d' z' h1 h2=>?_⟩
  .rw[qa4,aD (δ1:=[ς (.f (.int n)),U,ς (.e (done.map dI)),ς (.f (dI z))]) (δ2:=[ς (.f (.int (n/z))),U,ς (.e ((done++[d]).map dI)),ς (.f (dI z))]) rfl ?_]
   .rw[e];simp
   .unfold z43 dI;walk_at "d";rw[BJ rfl];walk_at "d";rw[cF Θ,hd];walk_at "d";rw[sX (by rw[qa1];simp at Z;lia)];walk_at "d";rw[j0 Θ Θ];walk_at "d";simp[dI]
  .cases i with
   |zero=>simp at h1 h2;subst h1 h2;lia
   |succ i=>exact ed i d' z' (by simpa using h1) (by simpa using h2)
theorem dD(n:Int)(zs:η Nat)(U:∀z∈zs,0<z/\z<10000000000000)(Z:zs.length<=50):∃ds:η Nat,q12 [.int n,.e (zs.map dI)]=ς (.e (ds.map dI))/\ds.length=zs.length/\∀(i d z:Nat),ds[i]?=ς d->zs[i]?=ς z->d<z:=by obtain⟨n',ds,y,e,Y,W⟩:=jz (ς (.f (.e (zs.map dI)))) zs n [] ψ U (by simp;lia);refine⟨ds,?_,Y,W⟩;unfold q12;walk_at "d";rw[show([]:η Dt)=([]:η Nat).map dI from rfl,e];walk_at "d"
theorem mL{α:Type}(a:Array α):∀(n:Nat)(J5:Array α),((qb9 n a).foldl (· ++ ·) J5).size=J5.size+n*a.size
 |0,J5=>by simp
 |n+1,J5=>by rw[qj6,qi4,mL a n,Array.size_append,zl9];lia
def tG(c n:Nat):(kx ⟨#[c]⟩ n).length<=n+1:=by
 unfold kx;split
 .simp[Str.empty,zi0]
 .split
  .simp[zi0]
  .show((qb9 (n:Int).toNat #[c]).foldl (· ++ ·) #[]).size<=n+1;rw[mL];simp
theorem tH(c n:Nat)(h:n<=10):pC (.str ⟨#[c]⟩) (.int n)=ς (.f (.str (kx ⟨#[c]⟩ n))):=if_pos ⟨Θ,Θ,by simp[zi0]⟩
theorem A5(c d m n:Nat)(Z:m<=10)(hn:n<=10):∃w:Str,∀{f g h:De->ζ Dt}{δ:De},f δ=ς (.str (kx ⟨#[c]⟩ m))->g δ=ς (.str ⟨#[d]⟩)->h δ=ς (.str (kx ⟨#[c]⟩ n))->toD (d2 aI (toD (d2 aI f g)) h) δ=ς (.str w):=by
 have Y:=tG c m;have W:=tG c n;have U:qb2=16777216:=qz0
 have e:(kx ⟨#[c]⟩ m++(⟨#[d]⟩:Str)).length=(kx ⟨#[c]⟩ m).length+1:=by show((kx ⟨#[c]⟩ m).cps++#[d]).size=_;rw[Array.size_append];rfl
 exact⟨_,fun h1 h2 h3=>oD (oD h1 h2 (xP (by simp[zi0]at *;lia))) h3 (xP (by rw[e];lia))⟩
theorem cu{k:Nat}(h:k<l.length):ah (.e (l.map dI)) (.int k)=ς (.f (dI (l.getD k 0))):=by rw[fS,cr dI l k h 0];rfl
theorem gv(ns:η Int)(k:Nat):∃n,∀ δ,vL 0 δ=ς (.e (ns.map .int))->toD (ag q5 (aa (vL 0) (aa (kD (.int k)) ae))) δ=ς (.int n):=⟨_,fun δ h=>c2D h (y:=.int k) rfl (n4 ns k)⟩
theorem gK(f:De->ζ Dt)(δ:De)(n:Nat)(U:n<=1000)(h:f δ=ς (dI n)):bQ eh (aa f ae) δ=ς ((qb7 n).map dI):=by unfold bQ;rw[af h aN,qa6];exact yu n Θ
theorem n6(f g:De->ζ Dt)(δ:De)(a n:Nat)(h:a<=n)(U:n<=1000)(h1:f δ=ς (dI a))(h2:g δ=ς (dI n)):bQ lA (aa f (aa g ae)) δ=ς ((qj8 a (n-a)).map dI):=by unfold bQ;rw[af h1 (af h2 aN),qa6];exact A0 a n h Θ
theorem A6:be [dR J0]=ς (.f (dI J0.length)):=by show ς (T.f (.int ((J0.map Rw.d).length:Nat)))=_;rw[qa1];rfl
theorem yy(ns:η Int)(m:Nat):∃U:η Int,gSl (.e (ns.map .int)) (ς 4) (ς (4+(m:Int)))=ς (.e (U.map .int))/\U.length<=m:=by
 refine⟨(ns.drop (HT.sIx (ns.map Dt.int).length 0 (ς 4))).take (HT.sIx (ns.map Dt.int).length (ns.map Dt.int).length (ς (4+(m:Int)))-HT.sIx (ns.map Dt.int).length 0 (ς 4)),?_,?_⟩
 .show ς (T.e (kt (ns.map Dt.int) (ς 4) (ς (4+(m:Int)))))=_;unfold kt;rw[List.map_take,List.map_drop]
 .rw[show(ς (4:Int))=ς (((4:Nat):Int))from rfl,show(ς (4+(m:Int)))=ς (((4+m:Nat):Int))by simp,HT.GD,HT.GD];simp;lia
theorem iL(c:Int)(m:Nat)(hm:m<=100):∃l:η Str,l.length=m/\z18 [.int c,.int m]=ς (.e (l.map .str)):=by
 obtain⟨D,eD,Y,W⟩:=dD (c*48271%1000000007) [6,6,26,5] (by intro z hz;simp at hz;lia) Ω;have Y:D.length=4:=Y;have h0:D.getD 0 0<6:=W 0 _ _ (by simp[Y]) rfl;have h3:D.getD 3 0<5:=W 3 _ _ (by simp[Y]) rfl
 obtain⟨U,hcc,_⟩:=jU (x:="qxzjw") (i:=(D.getD 3 0:Nat)) Ω Θ (by
  have:(("qxzjw":Str).length:Int)=5:=by decide
  lia)
 have Z:∀(δ:De)(j:Nat),vB 3 δ=ς (.e (D.map dI))->j<4->toD (d2 ah (vB 3) (kD (.int (j:Nat)))) δ=ς (dI (D.getD j 0)):=fun δ j h hj=>oD (y:=dI j) h rfl (cu Θ)
 obtain⟨a,ha⟩:∃a,D.getD 1 0%(1+D.getD 0 0)=a:=⟨_,rfl⟩;have ha2:a<1+D.getD 0 0:=ha▸qu3 _ Θ
 obtain⟨l,y8,y9,hl,_,e2⟩:=e8 (i:=8) (f:=Dt.str) (Q:=fun _=>True) (g:=z65) (St:=fun l x y=>[ς (.f (.int c)),ς (.f (dI m)),ς (.f (.int (c*48271%1000000007))),ς (.f (.e (D.map dI))),ς (.f (dI (1+D.getD 0 0))),ς (.f (dI a)),ς (.f (.str ⟨#[U]⟩)),ς (.e l),x,y]) (fun _ _ _ _=>rfl) ((qb7 m).map dI) [] ψ ψ (by simp;lia) fun d W l y hl=>by
  obtain⟨k,_,rfl⟩:=qc8.mp W;have hm:=qu3 (D.getD 2 0+k) (show 0<26 by decide)
  obtain⟨ch,hch,_⟩:=jU (x:="abcdefghijklmnopqrstuvwxyz") (i:=((D.getD 2 0+k)%26:Nat)) Ω Θ (by
   have:(("abcdefghijklmnopqrstuvwxyz":Str).length:Int)=26:=by decide
   lia)
  obtain⟨w,hw⟩:=A5 U ch a (D.getD 0 0-a) Θ Θ;exact⟨w,_,_,trivial,(ap (ar (t:=.f (.str ⟨#[ch]⟩)) (bY (oD (x:=.str "abcdefghijklmnopqrstuvwxyz") rfl (jd (n:=26) (aO (b:=k) (Z _ 2 rfl Ω) rfl rfl) rfl Ω) hch)))).trans (cy rfl (hw (oD (x:=.str ⟨#[U]⟩) (y:=dI a) rfl rfl (tH U a Θ)) rfl (oD (x:=.str ⟨#[U]⟩) rfl (gG (gG (a:=1+D.getD 0 0) (b:=1) (c:=D.getD 0 0) rfl rfl Θ) (b:=a) rfl Θ) (tH U _ Θ))) Θ)⟩
 obtain⟨t,e,rfl⟩:∃t,z18 [.int c,.int m]=ς t/\t=.e (l.map .str):=by refine Rn.of ?_;show Rn (ai _ _ [ς (.f (.int c)),ς (.f (dI m)),ψ,ψ,ψ,ψ,ψ,ψ,ψ,ψ]) _;refine .set (oD (oD (x:=.int c) (y:=.int 48271) rfl rfl (i9 Ω Ω)) (y:=.int 1000000007) rfl (cF Ω)) (.set (c2L (y:=.e (([6,6,26,5]:η Nat).map dI)) rfl rfl eD) (.set (aO (a:=1) rfl (Z _ 0 rfl Ω) rfl) (.set (jd (Z _ 1 rfl Ω) rfl Θ) (.set (oD (x:=.str "qxzjw") rfl (Z _ 3 rfl Ω) hcc) (.seq (ar (t:=.e []) rfl) (.for (gK _ _ m Θ rfl) (by rw[ha];exact e2) ⟨_,rfl,rfl⟩))))))
 exact⟨l,hl.trans Ξ,e⟩
theorem g9{B:η Str}{k:Nat}(h:k<B.length):ah (.e (B.map .str)) (.int k)=ς (.f (.str (B.getD k ""))):=by rw[fS,cr Dt.str B k h ""];rfl
theorem mM{B:η Str}{k:Nat}(h:k<B.length):B.getD k ""∈B:=by simp[qb4,h]
theorem n8(d:Nat)(c:Int)(B:η Str):∃a:Atm,y23 [.int d,.int c,.e (B.map .str)]=ς (.f a.d)/\∀x,a=.nm x->x∈B:=by
 unfold y23;walk_at "d";rw[qa1];by_cases h:d<B.length
 .rw[fF (by simpa using h)];walk_at "d";rw[cr Dt.str B d h ""];exact⟨.nm (B.getD d ""),rfl,fun x e=>by cases e;exact mM h⟩
 .rw[eC (by simpa using h)];walk_at "d";by_cases h2:c%3=0
  .rw[fF (by simpa using h2)];walk_at "d";rw[j0 Ω Ω];walk_at "d";exact⟨.vl _,rfl,fun x e=>by cases e⟩
  .rw[eC (by simpa using h2)];walk_at "d";exact⟨.vl _,rfl,fun x e=>by cases e⟩
def Gd(B:η Str)(r:Rw):Prop:=∀x,Atm.nm x∈r.atoms->x∈B
theorem ll{B:η Str}(h:∀x,Atm.nm x∈r.atoms->x∈B):∀b∈r.reads,b∈B:=fun b W=>by
 have W:=onces_mem.mp W
 have U:∀as:η Atm,b∈nms as->Atm.nm b∈as:=fun as=>by
  induction as with
  |nil=>intro h;cases h
  |cons a as Y=>
   cases a with
   |nm x=>
    intro h;rcases qa5.mp h with rfl|h
    .exact .head _
    .exact .tail _ (Y h)
   |vl i=>exact fun h=>.tail _ (Y h)
 exact h b (U _ W)
theorem Gx(h:l.length=7):∃a b c d e f g,l=[a,b,c,d,e,f,g]:=by
 match l,h with
 |[a,b,c,d,e,f,g],_=>exact⟨a,b,c,d,e,f,g,rfl⟩
theorem A7 (cell:Int) (many:Nat) (C S B:η Str) (hm:0<many) (hm2:many<=1000) (hC:0<C.length) (hC2:C.length<=100) (hS:S.length<=100) (hB:0<B.length) (hB2:B.length<=100) :
  ∃r:Rw,z44 [.int cell,.int many,.e (C.map .str),.e (S.map .str),.e (B.map .str)]=ς (.f r.d)/\Gd B r:=by
 obtain⟨ds,e1,hl,hd⟩:=dD (cell*48271%1000000007) [16,B.length,B.length+2,B.length+2,9,12,many] (by intro z hz;simp at hz;lia) Ξ;obtain⟨k,b,p,q,sg,cc,g,rfl⟩:=Gx hl;have h0:=hd 0 k _ rfl rfl;have h1:=hd 1 b _ rfl rfl;have h4:=hd 4 sg _ rfl rfl;clear hd hl;obtain⟨a1,ea1,ha1⟩:=n8 p cell B;obtain⟨a2,ea2,ha2⟩:=n8 q (cell/5) B;have hx:=g9 h1;have hcm:cc%C.length<C.length:=qu3 _ hC;have hc:=g9 hcm
 obtain⟨sn,hsn,_⟩:=jU (x:="+-*<=&|^+") (i:=(sg:Int)) Ω Θ (by
  have:(("+-*<=&|^+":Str).length:Int)=9:=by decide
  lia)
 simp only[qa4,qm4,dI]at e1;unfold z44;walk_at "d";rw[qa1,show q12 [Dt.int (cell*48271%1000000007),Dt.e [Dt.int 16,Dt.int B.length,Dt.int ((B.length:Int)+2),Dt.int ((B.length:Int)+2),Dt.int 9,Dt.int 12,Dt.int many]]=_ from e1];walk_at "d";rw[ea1];walk_at "d";rw[j0 Ω Ω];walk_at "d";rw[ea2];walk_at "d";rw[cr Dt.str B b h1 ""];walk_at "d";rw[qa1,cF Θ];walk_at "d";rw[show((cc:Nat):Int)%((C.length:Nat):Int)=((cc%C.length:Nat):Int)by simp,cr Dt.str C _ hcm ""];walk_at "d";generalize C.getD (cc%C.length) ""=cn;generalize B.getD b ""=xn;have hk:(k:Int)=0∨(k:Int)=1∨(k:Int)=2∨(k:Int)=3∨(k:Int)=4∨(k:Int)=5∨(k:Int)=6∨(k:Int)=7∨(k:Int)=8∨(k:Int)=9∨(k:Int)=10∨(k:Int)=11∨(k:Int)=12∨(k:Int)=13∨(k:Int)=14∨(k:Int)=15:=by lia
 clear hx hc h0;have q2:∀r:Rw,(∀a∈r.atoms,a=a1∨a=a2)->Gd B r:=fun r h x hx=>(h _ hx).elim (fun e=>ha1 x e.symm) fun e=>ha2 x e.symm
 rcases hk with hk|hk|hk|hk|hk|hk|hk|hk|hk|hk|hk|hk|hk|hk|hk|hk<;>rw[hk]<;>clear hk
 .exact⟨.copy xn a1,rfl,q2 _ (by simp[Rw.atoms])⟩
 .walk_at "k";rw[hsn];exact⟨.op xn ⟨#[sn]⟩ a1 a2,rfl,q2 _ (by simp[Rw.atoms])⟩
 .walk_at "k";rw[hsn];exact⟨.op xn ⟨#[sn]⟩ a1 a2,rfl,q2 _ (by simp[Rw.atoms])⟩
 .exact⟨.load xn cn,rfl,q2 _ (by simp[Rw.atoms])⟩
 .exact⟨.load xn cn,rfl,q2 _ (by simp[Rw.atoms])⟩
 .exact⟨.store cn a1,rfl,q2 _ (by simp[Rw.atoms])⟩
 .exact⟨.store cn a1,rfl,q2 _ (by simp[Rw.atoms])⟩
 .walk_at "k";rw[qa1];by_cases z:0<S.length
  .rw[fF (by simpa using z)];walk_at "k";rw[qa1,cF Θ];walk_at "k";rw[show((cc:Nat):Int)%((S.length:Nat):Int)=((cc%S.length:Nat):Int)by simp,cr Dt.str S _ (qu3 _ z) ""];exact⟨.take xn (S.getD (cc%S.length) "") a1,rfl,q2 _ (by simp[Rw.atoms])⟩
  .rw[eC (by simpa using z)];exact⟨.load xn cn,rfl,q2 _ (by simp[Rw.atoms])⟩
 .walk_at "k";rw[qa1];by_cases z:0<S.length
  .rw[fF (by simpa using z)];walk_at "k";rw[qa1,cF Θ];walk_at "k";rw[show((cc:Nat):Int)%((S.length:Nat):Int)=((cc%S.length:Nat):Int)by simp,cr Dt.str S _ (qu3 _ z) ""];exact⟨.lay (S.getD (cc%S.length) "") a1 a2,rfl,q2 _ (by simp[Rw.atoms])⟩
  .rw[eC (by simpa using z)];exact⟨.store cn a1,rfl,q2 _ (by simp[Rw.atoms])⟩
 .exact⟨.hear xn,rfl,q2 _ (by simp[Rw.atoms])⟩
 .exact⟨.say a1,rfl,q2 _ (by simp[Rw.atoms])⟩
 .exact⟨.iff a1 g,rfl,q2 _ (by simp[Rw.atoms])⟩
 .exact⟨.iff a1 g,rfl,q2 _ (by simp[Rw.atoms])⟩
 .exact⟨.go g,rfl,q2 _ (by simp[Rw.atoms])⟩
 .exact⟨.fin a1,rfl,q2 _ (by simp[Rw.atoms])⟩
 .walk_at "k";rw[hsn];exact⟨.op xn ⟨#[sn]⟩ a1 a2,rfl,q2 _ (by simp[Rw.atoms])⟩
theorem pw40:ko (.int 2) (.int 40)=ς (.f (.int 1099511627776)):=by rw[xR χ];rfl
theorem e40(δ:De):toD (d2 ko (kD (.int 2)) (kD (.int 40))) δ=ς (dI 1099511627776):=oD (x:=.int 2) (y:=.int 40) rfl rfl pw40
section
variable{f g h:De->ζ Dt}{δ:De}
theorem tI{S:η Str}(h1:f δ=ς (.e (S.map .str)))(h2:g δ=ς (dI i))(U:0<S.length):toD (d2 ah f (toD (d2 ce g (toD (ag be (aa f ae)))))) δ=ς (.str (S.getD (i%S.length) "")):=oD h1 (jd h2 (cY h1 Ξ) U) (g9 (qu3 _ U))
theorem pT{x:Dt}(h1:f δ=ς x)(h2:g δ=ς y):toD (aG (aa f (aa g ae))) δ=ς (.t [x,y]):=cG (af h1 (af h2 aN)) Ξ
theorem gM{x z:Dt}(h1:f δ=ς x)(h2:g δ=ς y)(h3:h δ=ς z):toD (aG (aa f (aa g (aa h ae)))) δ=ς (.t [x,y,z]):=cG (af h1 (af h2 (af h3 aN))) Ξ
end
variable{j:Nat}
theorem rB{B:η Str}{v:Nat}(W:B.length<=900)(Y:j<B.length+1):∃a:Atm,(∀x,a=.nm x->x∈B)/\∀{f g h:De->ζ Dt}{δ:De},f δ=ς (.e (B.map .str))->g δ=ς (dI v)->h δ=ς (dI j)->toD (d2 ah (toD (d2 aI f (toD (aU (aa g ae))))) h) δ=ς a.d:=by
 have c:∀{f g:De->ζ Dt}{δ:De},f δ=ς (.e (B.map .str))->g δ=ς (dI v)->toD (d2 aI f (toD (aU (aa g ae)))) δ=ς (.e (B.map .str++[dI v])):=fun h1 h2=>fI h1 (dv (af h2 aN) Ξ) (by simp;lia)
 by_cases z:j<B.length
 .refine⟨.nm (B.getD j ""),fun x U=>by cases U;exact mM z,fun h1 h2 h3=>oD (c h1 h2) h3 ?_⟩;unfold dI;rw[fS,bn,qc9 (by simpa using z),qb3,qo3 z,qb4,qo3 z];rfl
 .obtain rfl:j=B.length:=by lia
  refine⟨.vl v,fun x U=>(by cases U),fun h1 h2 h3=>oD (c h1 h2) h3 ?_⟩;unfold dI;rw[fS,bn,qd5 Ξ];simp;rfl
theorem Gy{L:η Rw}(h:j<L.length):∃r∈L,ah (.e (L.map Rw.d)) (dI j)=ς (.f r.d):=by refine⟨L[j],qx1 _,?_⟩;unfold dI;rw[fS,bn,qb3,gQ h];rfl
theorem n9 (W:Int) (U:Nat) (C S B:η Str) (hm:0<U) (hm2:U<=1000) (hC:0<C.length) (hC2:C.length<=100) (hS:S.length<=100) (hB:0<B.length) (hB2:B.length<=100) :
  ∃r:Rw,y25 [.int W,dI U,.e (C.map .str),.e (S.map .str),.e (B.map .str)]=ς (.f r.d)/\Gd B r:=by
 obtain⟨D,eD,Z,hd⟩:=dD W [12,B.length,B.length+1,1099511627776,B.length+1,1099511627776,8,24,U] (by intro z hz;simp at hz;lia) Ξ;have Z:D.length=9:=Z;have b0:D.getD 0 0<12:=hd 0 _ _ (by simp[Z]) rfl;have b1:D.getD 1 0<B.length:=hd 1 _ _ (by simp[Z]) rfl;have b6:D.getD 6 0<8:=hd 6 _ _ (by simp[Z]) rfl
 obtain⟨ch,hch,_⟩:=jU (x:="+-*<=&|^") (i:=(D.getD 6 0:Nat)) Ω Θ (by
  have:(("+-*<=&|^":Str).length:Int)=8:=by decide
  lia)
 have Y:∀(δ:De)(j:Nat),vB 6 δ=ς (.e (D.map dI))->j<9->toD (d2 ah (vB 6) (kD (.int (j:Nat)))) δ=ς (dI (D.getD j 0)):=fun δ j h hj=>oD (y:=dI j) h rfl (cu Θ)
 obtain⟨o,ho,eo⟩:=rB (B:=B) (v:=D.getD 3 0) (j:=D.getD 2 0) Θ (hd 2 _ _ (by simp[Z]) rfl);obtain⟨p,hp,ep⟩:=rB (B:=B) (v:=D.getD 5 0) (j:=D.getD 4 0) Θ (hd 4 _ _ (by simp[Z]) rfl)
 obtain⟨t,e,r,rfl,hr⟩:∃t,y25 [.int W,dI U,.e (C.map .str),.e (S.map .str),.e (B.map .str)]=ς t/\∃r:Rw,t=.f r.d/\∀a∈r.atoms,a=o∨a=p:=by
  refine Rn.of ?_;show Rn (ai _ _ [ς (.f (.int W)),ς (.f (dI U)),ς (.f (.e (C.map .str))),ς (.f (.e (S.map .str))),ς (.f (.e (B.map .str))),ψ,ψ,ψ,ψ,ψ,ψ,ψ,ψ]) _;have lB:∀ δ:De,vB 4 δ=ς (.e (B.map .str))->toD (ag be (aa (vB 4) ae)) δ=ς (dI B.length):=fun δ h=>cY h Ξ
  refine .set (aO (a:=B.length) (b:=1) (lB _ rfl) rfl rfl) (.set (c2L (x:=.int W) (y:=.e (([12,B.length,B.length+1,1099511627776,B.length+1,1099511627776,8,24,U]:η Nat).map dI)) rfl (dv (af rfl (af (lB _ rfl) (af rfl (af (e40 _) (af rfl (af (e40 _) (af rfl (af rfl (af rfl aN))))))))) Ξ) eD) (.set (eo rfl (Y _ 3 rfl Ω) (Y _ 2 rfl Ω)) (.set (ep rfl (Y _ 5 rfl Ω) (Y _ 4 rfl Ω)) (.set (oD (x:=.e (B.map .str)) rfl (Y _ 1 rfl Ω) (g9 b1)) (.set (tI (S:=C) rfl (Y _ 7 rfl Ω) hC) ?_)))));generalize B.getD (D.getD 1 0) ""=x;generalize C.getD (D.getD 7 0%C.length) ""=c;refine .seq (ar (t:=.e (([.copy x o,.op x ⟨#[ch]⟩ o p,.load x c,.store c o]:η Rw).map Rw.d)) (sW (af (gM rfl rfl rfl) (af (cG (af rfl (af rfl (af (oD (x:=.str "+-*<=&|^") rfl (Y _ 6 rfl Ω) hch) (af rfl (af rfl aN))))) Ξ) (af (gM rfl rfl rfl) (af (gM rfl rfl rfl) aN)))) Ξ)) ?_;refine .seq (ar (t:=.e (([.copy x o,.op x ⟨#[ch]⟩ o p,.load x c,.store c o,.load x c,.store c p,.hear x,.say o]:η Rw).map Rw.d)) ((gu rfl (dv (af (gM rfl rfl rfl) (af (gM rfl rfl rfl) (af (pT rfl rfl) (af (pT rfl rfl) aN)))) Ξ)).trans (jV Ξ))) ?_;refine .seq (ar (t:=.e (([.copy x o,.op x ⟨#[ch]⟩ o p,.load x c,.store c o,.load x c,.store c p,.hear x,.say o,.iff o (D.getD 8 0),.go (D.getD 8 0),.fin o,.op x ⟨#[ch]⟩ o p]:η Rw).map Rw.d)) ((gu rfl (dv (af (gM rfl rfl (Y _ 8 rfl Ω)) (af (pT rfl (Y _ 8 rfl Ω)) (af (pT rfl rfl) (af rfl aN)))) Ξ)).trans (jV Ξ))) ?_;refine .if (P:=fun δ=>∃L:η Rw,L.length=12/\(∀r∈L,∀a∈r.atoms,a=o∨a=p)/\vB 11 δ=ς (.e (L.map Rw.d))/\vB 6 δ=ς (.e (D.map dI))) (bE (x:=dI S.length) (y:=.int 0) (cY (l:=S.map .str) rfl Ξ) rfl rfl) (fun hS0=>?_) (fun _=>⟨_,rfl,by simp[Rw.atoms],rfl,rfl⟩) ?_
  .have hS0:0<S.length:=by have:=of_decide_eq_true hS0;lia
   exact⟨_,(ap (ar (bY (tI (S:=S) rfl (Y _ 7 rfl Ω) hS0)))).trans ((ap (yg (k:=4) (d:=(Rw.take x (S.getD (D.getD 7 0%S.length) "") o).d) rfl rfl (cG (af rfl (af rfl (af rfl (af rfl aN)))) Ξ) Ξ)).trans (yg (k:=5) (d:=(Rw.lay (S.getD (D.getD 7 0%S.length) "") o p).d) rfl rfl (cG (af rfl (af rfl (af rfl (af rfl aN)))) Ξ) Ξ)),[.copy x o,.op x ⟨#[ch]⟩ o p,.load x c,.store c o,.take x (S.getD (D.getD 7 0%S.length) "") o,.lay (S.getD (D.getD 7 0%S.length) "") o p,.hear x,.say o,.iff o (D.getD 8 0),.go (D.getD 8 0),.fin o,.op x ⟨#[ch]⟩ o p],rfl,by simp[Rw.atoms],rfl,rfl⟩
  .rintro δ ⟨L,l1,l2,l3,l4⟩;obtain⟨r,hr,er⟩:=Gy (L:=L) (j:=D.getD 0 0) Θ;exact⟨_,c9 ((gu l3 (Y δ 0 l4 Ω)).trans er),r,rfl,l2 r hr⟩
 exact⟨r,e,fun x hx=>(hr _ hx).elim (fun e=>ho x e.symm) fun e=>hp x e.symm⟩
theorem je{α β:Type}{f:α->Dt}{h:β->Dt}{P:β->Prop}:∀{l:η α},(∀a∈l,∃ δ1 y,bb (f a) δ=ς δ1/\fe δ1=ς (h y)/\P y)->∃ys:η β,bK bb bi fe δ (l.map f)=ς (ys.map h)/\ys.length=l.length/\∀y∈ys,P y
 |[],_=>⟨[],rfl,rfl,fun y W=>by cases W⟩
 |a::l,q=>by
  obtain⟨δ1,y,h1,h2,h3⟩:=q a qe7;obtain⟨ys,e,Y,hp⟩:=je (l:=l) fun e Z=>q e (qd4 _ Z)
  refine⟨y::ys,?_,by simp[Y],fun z U=>?_⟩
  .rw[qa4];unfold bK;rw[h1,qa6];show((fe δ1).bind fun y=>_)=_;rw[h2,qa6,e];rfl
  .rcases qa5.mp U with rfl|U
   .exact h3
   .exact hp z U
theorem pU{F:η Dt->ζ T}{fs:De->ζ (η Dt)}(h:fs δ=ς ds):ag F fs δ=F ds:=by unfold ag;rw[h];rfl
theorem tJ{g:De->ζ Dt}{x:Dt}(U:fe=toD (d2 ah (vB 0) (kD (.int 0))))(h:g δ=ς x)(W:itD x=ς (cs.map hdD))(Y:cs.length<=1000):toD (aH [ψ] (fIt g) (ak 0) bi fe) δ=ς (.e ((cs.map (·.x)).map .str)):=by refine aM (t:=.e _) (b8 (g8 h W) ?_ (by simp;lia));rw[qc6];exact aY (f:=hdD) (h:=Dt.str ∘ (·.x)) fun h _=>⟨[ς (.f (hdD h))],rfl,rfl,by rw[U];rfl⟩
structure Prg(B:List Str)(rs:List Rw)(q:Rw):Prop where
 b:B.length<=12
 n:rs.length<=58
 rd:∀r∈rs,∀b∈r.reads,b∈B
 e:(∃a,q=.fin a/\∀x,a=.nm x->x∈B)∨∃k,q=.go k
variable{M M':Str->Mrk}
section
variable{cs ss:η Hd}{J0:η Rw}{N D:η Str}{a:Nat}
def dcM(D:η Str)(M:Str->Mrk):η (Key×Dt):=D.map fun x=>(.inr x,.str (ms (M x)))
theorem pV:∀{D:η Str},x∈D->cg ((dcM D M).map (·.1)) ((dcM D M).map (·.2)) (.inr x)=ς (.str (ms (M x)))
 |[],h=>by cases h
 |y::D,h=>by
  unfold dcM;simp only[qa4,cg];by_cases e:y=x
  .subst e;rw[if_pos rfl]
  .rw[if_neg fun z=>e (by injection z)];exact pV ((qa5.mp h).resolve_left fun z=>e z.symm)
theorem tK(U:∀y,y≠x->M' y=M y):∀{D:η Str},D.Nodup->x∈D->dL (dcM D M) (.inr x) (.str (ms (M' x)))=dcM D M'
 |[],_,h=>by cases h
 |y::D,W,h=>by
  obtain⟨n1,n2⟩:=qg0.mp W;unfold dcM;rw[qa4,dL];by_cases e:y=x
  .subst e;rw[if_pos rfl,qa4];congr 1;refine qt5 fun z Y=>?_
   rw[U z fun q=>n1 (q▸Y)]
  .rw[if_neg fun z=>e (by injection z),qa4,U y e];congr 1;exact tK U n2 ((qa5.mp h).resolve_left fun z=>e z.symm)
theorem vp(h:∀x∈D,M x=M' x):dcM D M=dcM D M':=qt5 fun x U=>by rw[h x U]
theorem pW(M:Str->Mrk):(dcM D M).map (·.1)=D.map qq2:=by unfold dcM;rw[qc6];rfl
theorem A8(U:D.Nodup)(M:Str->Mrk):((dcM D M).map (·.1)).Nodup:=by rw[pW,za3,qv8];exact qv9 (fun {a b}(z:a≠b)(e:(qq2 a:Key)=qq2 b)=>z (qq2.inj e)) U
theorem tM(d:Dt):∀N:η Str,gU (N.map fun x=>.t [.str x,d])=ς (N.map fun x=>(.inr x,d))
 |[]=>rfl
 |x::N=>by rw[qa4,gU];show((ς (qq2 x,d)).bind fun p=>(gU (N.map fun x=>.t [.str x,d])).map (p::·))=_;rw[tM d N];rfl
theorem pX(d:Dt):∀(N J5:η Str),dz (J5.map fun x=>((.inr x:Key),d)) (N.map fun x=>(.inr x,d))=(N.foldl cW J5).map fun x=>(.inr x,d)
 |[],J5=>rfl
 |x::N,J5=>by
  have U:∀J5:η Str,dL (J5.map fun x=>((.inr x:Key),d)) (.inr x) d=(cW J5 x).map fun x=>(.inr x,d):=fun J5=>by
   induction J5 with
   |nil=>rfl
   |cons y J5 W=>
    rw[qa4,dL];by_cases e:y=x
    .subst e;rw[if_pos rfl,cW,if_pos (.head _)];rfl
    .rw[if_neg fun z=>e (by injection z),W];unfold cW;by_cases q:x∈J5
     .rw[if_pos q,if_pos (.tail _ q)];rfl
     .rw[if_neg q,if_neg fun z=>(qa5.mp z).elim (fun z=>e z.symm) q];rfl
  rw[qa4,dz,qi4];dsimp only;rw[U J5];exact pX d N (cW J5 x)
theorem yz(S:jJ J0)(h:0<J0.length):∃z,J0[J0.length-1]?=ς (.fin z):=by obtain⟨r,e⟩:∃r,J0[J0.length-1]?=ς r:=⟨J0[J0.length-1]'Θ,Ξ⟩;have o:=S _ r e;rw[if_neg Θ]at o;cases r<;>first|exact⟨_,e⟩|cases o
def rcS(cs ss:η Hd)(J0:η Rw)(a:Nat)(D:η Str)(M:Str->Mrk)(x4 U:ζ T):De:=[ς (.f (pgD cs ss J0)),ς (.f (dI a)),ς (.f (dR J0)),ς (.dct (dcM D M)),x4,U]
def stM(M:Str->Mrk)(r:Rw)(l:η Str)(y:Str):Mrk:=if y∈l then mb (M y) r y else M y
theorem yA {x:Str} (Z:D.Nodup) (hl:D.length<=1000) (hx:x∈D) (hr:J0[n]?=ς r) :
  q51 (rcS cs ss J0 a D M (ς (.f (dI n))) (ς (.f (.str x))))=if mb (M x) r x=.spoilt then ς (.rt (.f (dI n)))else ς (.nx (rcS cs ss J0 a D (fun y=>if y=x then mb (M x) r x else M y) (ς (.f (dI n))) (ς (.f (.str x))))):=by
 have Y:∀M:Str->Mrk,toD (d2 ah (vB 3) (vB 5)) (rcS cs ss J0 a D M (ς (.f (dI n))) (ς (.f (.str x))))=ς (.str (ms (M x))):=fun M=>oD (x:=.dct ((dcM D M).map (·.1)) ((dcM D M).map (·.2))) (y:=.str x) rfl rfl (by rw[F7];show((ς (qq2 x:Key)).bind fun k=>(cg ((dcM D M).map (·.1)) ((dcM D M).map (·.2)) k).map T.f)=_;rw[qa6,pV hx];rfl)
 have W:toD (d2 ah (vB 2) (vB 4)) (rcS cs ss J0 a D M (ς (.f (dI n))) (ς (.f (.str x))))=ς r.d:=oD (x:=dR J0) (y:=dI n) rfl rfl (jZ hr);have mk:=c3D (Y M) W (h:=vL 5) (z:=.str x) rfl (nZ (M x) r x);obtain⟨M',U⟩:∃M':Str->Mrk,M'=fun y=>if y=x then mb (M x) r x else M y:=⟨_,rfl⟩
 have eM:M' x=mb (M x) r x:=by rw[U];exact if_pos rfl
 unfold q51;refine(ap (δ':=rcS cs ss J0 a D M' (ς (.f (dI n))) (ς (.f (.str x)))) ?_).trans ?_
 .unfold np;rw[mk,show vB 5 (rcS cs ss J0 a D M (ς (.f (dI n))) (ς (.f (.str x))))=ς (.str x)from rfl];show(if(dcM D M).length<qb2/\((dcM D M).map (·.1)).Nodup then ς (Out.nx ((rcS cs ss J0 a D M (ς (.f (dI n))) (ς (.f (.str x)))).set 3 (ς (.dct (dL (dcM D M) (.inr x) (.str (ms (mb (M x) r x))))))))else ψ)=_;rw[if_pos ⟨by unfold dcM;rw[qa1];exact gq Θ,A8 Z M⟩,<- eM,tK (fun y hy=>by rw[U];exact if_neg hy) Z hx];rfl
 rw[<- U]
 refine A1 (b:=decide (mb (M x) r x=.spoilt)) (by rw[<- eM,<- Cc];exact bE (Y M') (y:=.str (ms .spoilt)) rfl rfl) (fun z=>?_) fun z=>?_
 .rw[if_pos (of_decide_eq_true z)];rfl
 .rw[if_neg (of_decide_eq_false z)];rfl
theorem pY{M:Str->Mrk}(W:D.Nodup)(hl:D.length<=1000)(hr:J0[n]?=ς r):∀(l done:η Str)(U:ζ T),D=done++l->∃Y,b7 (ak 5) q51 (l.map .str) (rcS cs ss J0 a D (stM M r done) (ς (.f (dI n))) U)=if l.any (fun x=>decide (mb (M x) r x=.spoilt))then ς (.rt (.f (dI n)))else ς (.nx (rcS cs ss J0 a D (stM M r D) (ς (.f (dI n))) Y))
 |[],done,U,h=>⟨U,by rw[qh0]at h;rw[h];rfl⟩
 |x::l,done,U,h=>by
  have hx:x∈D:=by rw[h];simp
  have Z:x∉done:=fun z=>by rw[h]at W;exact(qm6.mp W).2.2 x z x (.head _) rfl
  have e0:stM M r done x=M x:=if_neg Z;have b:=yA (cs:=cs) (ss:=ss) (a:=a) (M:=stM M r done) W hl hx hr;rw[e0]at b
  have e1:(fun y=>if y=x then mb (M x) r x else stM M r done y)=stM M r (done++[x]):=by
   funext y;unfold stM;by_cases q:y=x
   .subst q;rw[if_pos rfl,if_pos Ξ]
   .rw[if_neg q];by_cases q2:y∈done
    .rw[if_pos q2,if_pos (by simp[q2])]
    .rw[if_neg q2,if_neg (by simp[q2,q])]
  rw[e1]at b;by_cases z:mb (M x) r x=.spoilt
  .rw[if_pos z]at b;refine⟨U,?_⟩;rw[if_pos (by simp[z])];show((q51 (rcS cs ss J0 a D (stM M r done) (ς (.f (dI n))) (ς (.f (.str x))))).bind _)=_;rw[b];rfl
  .rw[if_neg z]at b;obtain⟨Y,e⟩:=pY W hl hr l (done++[x]) (ς (.f (.str x))) (by rw[h];simp);refine⟨Y,?_⟩;rw[qa4,aD (δ1:=rcS cs ss J0 a D (stM M r done) (ς (.f (dI n))) (ς (.f (.str x)))) rfl b,e];simp only[ql2,z,decide_false,zd1]
theorem yB(h:∀x,x∈D↔x∈N):D.any p=N.any p:=by rw[qj0,qj5,qj5];exact⟨fun⟨x,U,e⟩=>⟨x,(h x).mp U,e⟩,fun⟨x,U,e⟩=>⟨x,(h x).mpr U,e⟩⟩
theorem yC(nd:D.Nodup)(hD:∀x,x∈D↔x∈N)(hl:D.length<=1000)(hz:∃z,J0[J0.length-1]?=ς (.fin z)):∀(f d:Nat)(x4 U:ζ T),a+d+f+1=J0.length->(∀x∈N,L2.runN J0 x a d≠.spoilt)->∃y4 W,b7 (ak 4) z51 ((qj8 (a+d) (f+1)).map dI) (rcS cs ss J0 a D (fun x=>L2.runN J0 x a d) x4 U)=if rN J0 N a d f<d+f then ς (.rt (.f (dI (a+rN J0 N a d f))))else ς (.nx (rcS cs ss J0 a D (fun x=>L2.runN J0 x a (d+f+1)) y4 W)):=fun f=>by
 have one:∀(d:Nat)(r:Rw)(U:ζ T),J0[a+d]?=ς r->∃W,z51 (rcS cs ss J0 a D (fun x=>L2.runN J0 x a d) (ς (.f (dI (a+d)))) U)=if N.any (fun x=>decide (L2.runN J0 x a (d+1)=.spoilt))then ς (.rt (.f (dI (a+d))))else ς (.nx (rcS cs ss J0 a D (fun x=>L2.runN J0 x a (d+1)) (ς (.f (dI (a+d)))) W)):=fun d r U Y=>by
  obtain⟨W,e⟩:=pY (cs:=cs) (ss:=ss) (a:=a) (M:=fun x=>L2.runN J0 x a d) nd hl Y D [] U rfl;refine⟨W,?_⟩
  have it:fIt (toD (ag gT (aa (vB 3) ae))) (rcS cs ss J0 a D (fun x=>L2.runN J0 x a d) (ς (.f (dI (a+d)))) U)=ς (D.map .str):=g8 (c1L (x:=.dct ((dcM D fun x=>L2.runN J0 x a d).map (·.1)) ((dcM D fun x=>L2.runN J0 x a d).map (·.2))) rfl (by show ς (T.e (((dcM D fun x=>L2.runN J0 x a d).map (·.1)).map o7))=_;rw[pW,qc6];rfl)) rfl
  have e2:∀M:Str->Mrk,stM M r []=M:=fun M=>funext fun y=>if_neg Ξ
  rw[e2]at e;unfold z51;rw[jb,it,qa6,e,<- yB hD]
  have e3:(fun x=>decide (mb (L2.runN J0 x a d) r x=.spoilt))=fun x=>decide (L2.runN J0 x a (d+1)=.spoilt):=by funext x;rw[fJ Y]
  rw[e3];congr 3;unfold rcS
  rw[vp (M':=fun x=>L2.runN J0 x a (d+1)) fun x Z=>by unfold stM;rw[if_pos Z,fJ Y]]
 induction f with
 |zero=>
  intro d x4 U h hS;obtain⟨z,hz⟩:=hz;have Y:J0[a+d]?=ς (.fin z):=by rw[<- hz];congr 1;lia
  obtain⟨W,e⟩:=one d _ U Y;have hb:∀(m:Mrk)(x:Str),mb m (.fin z) x=m:=fun m x=>by cases m<;>rfl
  rw[if_neg (fun q=>by obtain⟨x,Z,q⟩:=qj5.mp q;have q:=of_decide_eq_true q;rw[fJ Y,hb]at q;exact hS x Z q)]at e
  refine⟨ς (.f (dI (a+d))),W,?_⟩;rw[if_neg (by unfold rN;lia)];show b7 _ _ [dI (a+d)] _=_;rw[aD (δ1:=rcS cs ss J0 a D (fun x=>L2.runN J0 x a d) (ς (.f (dI (a+d)))) U) rfl e];rfl
 |succ f ih=>
  intro d x4 U h hS;obtain⟨r,Y⟩:∃r,J0[a+d]?=ς r:=⟨J0[a+d]'Θ,Ξ⟩;obtain⟨W,e⟩:=one d r U Y;rw[qq1,qa4];unfold rN;by_cases q:N.any (fun x=>decide (L2.runN J0 x a (d+1)=.spoilt))=θ
  .rw[if_pos q]at e;refine⟨x4,U,?_⟩;rw[if_pos q,if_pos Θ];show((z51 (rcS cs ss J0 a D (fun x=>L2.runN J0 x a d) (ς (.f (dI (a+d)))) U)).bind _)=_;rw[e];rfl
  .rw[if_neg q]at e;obtain⟨y4,y5',e2⟩:=ih (d+1) (ς (.f (dI (a+d)))) W Θ (fun x Z=>of_decide_eq_false (tE q x Z));refine⟨y4,y5',?_⟩;rw[if_neg q,aD (δ1:=rcS cs ss J0 a D (fun x=>L2.runN J0 x a d) (ς (.f (dI (a+d)))) U) rfl e,show a+d+1=a+(d+1)by lia,e2,show d+1+f=d+(f+1)by lia]
theorem yD(S:jJ J0)(hl:cs.length+ss.length<=100)(hn:J0.length<=500)(ha:a<J0.length):z64 [pgD cs ss J0,dI a]=ς (.f (dI (rch J0 (plain cs ss) a))):=by
 obtain⟨D,U⟩:∃D,D=cj (plain cs ss):=⟨_,rfl⟩;have Z:D.Nodup:=U▸jw _;have Y:∀x,x∈D↔x∈plain cs ss:=fun x=>by rw[U];exact onces_mem
 have hpl:(plain cs ss).length<=100:=by unfold plain;rw[qa1];exact qc0 (qe6 _ _) (by rw[qc4];lia)
 have W:D.length<=1000:=by
  have:=cw Z (m:=plain cs ss) fun x hx=>(Y x).mp hx
  lia
 obtain⟨y4,y5,e⟩:=yC (cs:=cs) (ss:=ss) (a:=a) Z Y W (yz S Θ) (J0.length-1-a) 0 ψ ψ Θ (fun _ _=>nofun);have hle:=tD (J0:=J0) (N:=plain cs ss) (a:=a) (J0.length-1-a) 0;unfold z64;refine dRt ?_;show ai _ _ [ς (.f (pgD cs ss J0)),ς (.f (dI a)),ψ,ψ,ψ,ψ]=_;refine lI (d:=dR J0) (oD (x:=pgD cs ss J0) (y:=.int 2) rfl rfl rfl) ?_
 rw [ap (ar (t:=.dct (dcM D fun _=>.fresh)) ((dU (aM (t:=.e _) (b8 (ds:=(plain cs ss).map .str) (g8 (c1L (x:=pgD cs ss J0) rfl (lh cs ss _ Θ)) rfl) (aY (f:=Dt.str) (h:=fun x=>.t [.str x,.str (ms .fresh)]) fun x _=>⟨[ς (.f (.str x))],rfl,rfl,by
     unfold q90;exact cG (af (d:=.str x) rfl (af (d:=.str (ms .fresh)) rfl aN)) Ξ⟩) (by rw[qa1];lia)))).trans (by
  show((gU ((plain cs ss).map fun x=>.t [.str x,.str (ms .fresh)])).map fun ps=>T.dct (dz [] ps))=_;rw[tM];show ς (T.dct (dz (([]:η Str).map fun x=>((.inr x:Key),Dt.str (ms .fresh))) _))=_;rw[pX,U];rfl)))]
 show ai _ _ (rcS cs ss J0 a D (fun x=>L2.runN J0 x a 0) ψ ψ)=_;have len:∀ δ:De,vB 2 δ=ς (dR J0)->toD (ag be (aa (vB 2) ae)) δ=ς (dI J0.length):=fun δ h=>c1D h A6
 rw[show J0.length-1-a+1=J0.length-a by lia]at e;rw[bX,lj (n6 _ _ _ a J0.length Θ Θ rfl (len _ rfl)) e];unfold rch;by_cases q:rN J0 (plain cs ss) a 0 (J0.length-1-a)<0+(J0.length-1-a)
 .rw[if_pos q];rfl
 .rw[if_neg q,ck];have h2:a+rN J0 (plain cs ss) a 0 (J0.length-1-a)=J0.length-1:=by lia
  rw[h2];refine c9 ((gu (len _ rfl) (y:=.int 1) rfl).trans ?_);unfold dI;rw[show((J0.length-1:Nat):Int)=(J0.length:Int)-1 by lia];rfl
end
def hd0:Hd:=⟨"",0,ξ⟩
def stf(cs:η Hd):Rw->Rw
 |.go g=>.store (cs.getD (g%cs.length) hd0).x (.vl g)
 |.iff a g=>.store (cs.getD (g%cs.length) hd0).x a
 |.fin a=>.say a
 |r=>r
theorem A9(cs:η Hd)(r:Rw)(n:Nat):(stf cs r).outs n=[n+1]:=by cases r<;>rfl
theorem EN(cs:η Hd)(r:Rw):∀b∈(stf cs r).reads,b∈r.reads:=by cases r<;>first|exact fun b h=>h|exact fun b h=>by cases (show b∈([]:η Str)from h)
def bZ:Rw->Str
 |.copy _ _=>"copy"|.op _ _ _ _=>"op"|.load _ _=>"load"|.store _ _=>"store"|.take _ _ _=>"take"|.lay _ _ _=>"lay"|.hear _=>"hear"|.say _=>"say"|.iff _ _=>"if"|.go _=>"go"|.fin _=>"end"
def jA:Rw->Atm
 |.fin a=>a
 |.go g=>.vl g
 |_=>.vl 0
section
variable{cs ss:η Hd}{J0:η Rw}
theorem yE{g:Nat}(h0:vB 0 δ=ς (pgD cs ss J0))(W:f δ=ς (dI g))(Z:0<cs.length):toD (d2 ah (toD (d2 ah (toD (d2 ah (vB 0) (kD (.int 0)))) (toD (d2 ce f (toD (ag be (aa (toD (d2 ah (vB 0) (kD (.int 0)))) ae))))))) (kD (.int 0))) δ=ς (.str (cs.getD (g%cs.length) hd0).x):=by
 have U:toD (d2 ah (vB 0) (kD (.int 0))) δ=ς (.t (cs.map hdD)):=oD h0 (y:=.int 0) rfl rfl;have hm:=qu3 g Z
 have Y:toD (ag be (aa (toD (d2 ah (vB 0) (kD (.int 0)))) ae)) δ=ς (dI cs.length):=c1D U (by show ς (T.f (.int ((cs.map hdD).length:Nat)))=_;rw[qa1];rfl)
 have c2:toD (d2 ce f (toD (ag be (aa (toD (d2 ah (vB 0) (kD (.int 0)))) ae)))) δ=ς (dI (g%cs.length)):=oD W Y ((cF Θ).trans (by unfold dI;rw[Int.natCast_emod]))
 have c3:toD (d2 ah (toD (d2 ah (vB 0) (kD (.int 0)))) (toD (d2 ce f (toD (ag be (aa (toD (d2 ah (vB 0) (kD (.int 0)))) ae)))))) δ=ς (hdD (cs.getD (g%cs.length) hd0)):=oD U c2 (by unfold dI;rw[sV,cr hdD cs _ hm hd0];rfl)
 exact oD c3 (y:=.int 0) rfl rfl
theorem Ba(J5:η Rw)(r:Rw)(W:0<cs.length)(Y:J5.length<=1000):z28 [ς (.f (pgD cs ss J0)),ς (.e (J5.map Rw.d)),ς (.f r.d)]=ς (.nx [ς (.f (pgD cs ss J0)),ς (.e ((J5++[stf cs r]).map Rw.d)),ς (.f (stf cs r).d)]):=by
 have U:∀q:Rw,z9 1 (vL 2) [ς (.f (pgD cs ss J0)),ς (.e (J5.map Rw.d)),ς (.f q.d)]=ς (.nx [ς (.f (pgD cs ss J0)),ς (.e ((J5++[q]).map Rw.d)),ς (.f q.d)]):=fun q=>(cy (l:=J5.map Rw.d) (d:=q.d) rfl rfl (by rw[qa1];lia)).trans (by rw[qd3];rfl)
 have t:∀s:Str,tB2 (gEq ξ) (toD (d2 ah (vB 2) (kD (.int 0)))) (kD (.str s)) [ς (.f (pgD cs ss J0)),ς (.e (J5.map Rw.d)),ς (.f r.d)]=ς (decide (bZ r=s)):=fun s=>by cases r<;>rfl
 unfold z28;cases r with
 |go g=>have c:=yE (ss:=ss) (J0:=J0) (f:=toD (d2 ah (vB 2) (kD (.int 1)))) (δ:=[ς (.f (pgD cs ss J0)),ς (.e (J5.map Rw.d)),ς (.f (Rw.go g).d)]) (g:=g) rfl rfl W;rw[bX,jI ((t "go").trans (by kernel_rfl)),ar (bY (cG (af (d:=.str "store") rfl (af c (af (d:=dI g) rfl aN))) Ξ))];exact U (stf cs (.go g))
 |iff a g=>have c:=yE (ss:=ss) (J0:=J0) (f:=toD (d2 ah (vB 2) (kD (.int 2)))) (δ:=[ς (.f (pgD cs ss J0)),ς (.e (J5.map Rw.d)),ς (.f (Rw.iff a g).d)]) (g:=g) rfl rfl W;rw[bX,gt ((t "go").trans (by kernel_rfl)),jI ((t "if").trans (by kernel_rfl)),ar (bY (cG (af (d:=.str "store") rfl (af c (af (d:=a.d) rfl aN))) Ξ))];exact U (stf cs (.iff a g))
 |fin a=>rw[bX,gt ((t "go").trans (by kernel_rfl)),gt ((t "if").trans (by kernel_rfl)),jI ((t "end").trans (by kernel_rfl)),ar (bY (cG (af (d:=.str "say") rfl (af (d:=a.d) rfl aN)) Ξ))];exact U (stf cs (.fin a))
 |_=>rw[bX,gt ((t "go").trans (by kernel_rfl)),gt ((t "if").trans (by kernel_rfl)),gt ((t "end").trans (by kernel_rfl))];exact U _
theorem Ce(U:0<cs.length):∀(l J5:η Rw)(x:ζ T),J5.length+l.length<=1000->∃y,b7 (ak 2) z28 (l.map Rw.d) [ς (.f (pgD cs ss J0)),ς (.e (J5.map Rw.d)),x]=ς (.nx [ς (.f (pgD cs ss J0)),ς (.e ((J5++l.map (stf cs)).map Rw.d)),y])
 |[],J5,x,_=>⟨x,by rw[qm4 (f:=stf cs),qh0];rfl⟩
 |r::l,J5,x,h=>by rw[qe4]at h;obtain⟨y,e⟩:=Ce U l (J5++[stf cs r]) (ς (.f (stf cs r).d)) (by simp;lia);refine⟨y,?_⟩;rw[qa4,aD (δ1:=[ς (.f (pgD cs ss J0)),ς (.e (J5.map Rw.d)),ς (.f r.d)]) rfl (Ba J5 r U Θ),e,qk0];rfl
end
variable{q:Rw}
theorem yF{l:η Rw}:gSl (dR (l++[q])) ψ (ς (-1))=ς (.f (.t (l.map Rw.d))):=by
 have h:HT.sIx ((l++[q]).map Rw.d).length ((l++[q]).map Rw.d).length (ς (-1))=l.length:=by unfold HT.sIx;simp;lia
 show(if HT.sIx ((l++[q]).map Rw.d).length 0 ψ=0/\_ then ψ else ς (T.f (.t (kt ((l++[q]).map Rw.d) ψ (ς (-1))))))=_;rw[h,if_neg Ξ];unfold kt;rw[h,HT.Fq,List.drop_zero,zm4,qd3,List.take_left' Ξ]
variable{rs:η Rw}
theorem pZ{ss:η Hd}(Z:0<cs.length)(hn:rs.length<=500)(Y:(∃a,q=.fin a)∨∃k,q=.go k):z16 [pgD cs ss (rs++[q])]=ς (.f (pgD cs ss (rs.map (stf cs)++[.fin (jA q)]))):=by
 obtain⟨y,e⟩:=Ce (ss:=ss) (J0:=rs++[q]) Z rs [] ψ (by simp;lia);unfold z16;refine dRt ?_;show ai _ _ [ς (.f (pgD cs ss (rs++[q]))),ψ,ψ]=_;rw[ap (ar (t:=.e []) rfl)];have U:∀ δ:De,vB 0 δ=ς (pgD cs ss (rs++[q]))->toD (d2 ah (vB 0) (kD (.int 2))) δ=ς (dR (rs++[q])):=fun δ h=>oD h (y:=.int 2) rfl rfl
 have it:fIt (toD (vSl (toD (d2 ah (vB 0) (kD (.int 2)))) oV (fO (toD (jE (kD (.int 1))))))) [ς (.f (pgD cs ss (rs++[q]))),ς (.e (([]:η Rw).map Rw.d)),ψ]=ς (rs.map Rw.d):=by refine g8 (aM (t:=.f (.t (rs.map Rw.d))) ?_) rfl;unfold vSl;rw[U _ rfl];exact yF
 show ai _ _ [ς (.f (pgD cs ss (rs++[q]))),ς (.e (([]:η Rw).map Rw.d)),ψ]=_;rw[bX,jb,it,qa6,e,ck,qr3]
 have g3:toD (d2 ah (toD (d2 ah (vB 0) (kD (.int 2)))) (toD (jE (kD (.int 1))))) [ς (.f (pgD cs ss (rs++[q]))),ς (.e ((rs.map (stf cs)).map Rw.d)),y]=ς q.d:=oD (U _ rfl) (y:=.int (-1)) rfl (by unfold dR;rw[sV,qd3];unfold atI ixN;rw[if_neg Θ,qc4,qa1,if_pos (by simp;lia)];rw[show(-1+((rs.length+([q].map Rw.d).length:Nat):Int)).toNat=rs.length by simp;lia];simp)
 have W:toD (d2 ah (toD (d2 ah (toD (d2 ah (vB 0) (kD (.int 2)))) (toD (jE (kD (.int 1)))))) (kD (.int 1))) [ς (.f (pgD cs ss (rs++[q]))),ς (.e ((rs.map (stf cs)).map Rw.d)),y]=ς (jA q).d:=oD g3 (y:=.int 1) rfl (by rcases Y with ⟨a,rfl⟩|⟨k,rfl⟩<;>rfl)
 refine c9 (gF (af (d:=.t (cs.map hdD)) rfl (af (d:=.t (ss.map hdD)) rfl (af (d:=dR (rs.map (stf cs)++[.fin (jA q)])) (c1D (fI (l:=(rs.map (stf cs)).map Rw.d) (m:=[(Rw.fin (jA q)).d]) rfl (dv (af (cG (af (d:=.str "end") rfl (af W aN)) Ξ) aN) Ξ) (by simp;lia)) (by unfold dR;rw[qd3];rfl)) aN))) Ξ)
def isG:Rw->Bool
 |.load _ _|.take _ _ _=>θ
 |_=>ξ
def isP:Rw->Bool
 |.store _ _|.lay _ _ _=>θ
 |_=>ξ
def isS:Rw->Bool
 |.store _ _=>θ
 |_=>ξ
noncomputable def gn:Rw->Str
 |.load _ c|.take _ c _=>c
 |_=>""
def pn:Rw->Str
 |.store c _|.lay c _ _=>c
 |_=>""
theorem tN(r:Rw)(x:Str):r.gets x=(isG r&&decide (gn r=x)):=by cases r<;>rfl
theorem og(r:Rw)(x:Str):r.puts x=(isP r&&decide (pn r=x)):=by cases r<;>rfl
theorem mN(r:Rw)(x:Str):r.stores x=(isS r&&decide (pn r=x)):=by cases r<;>rfl
theorem GP(r:Rw):isP r=θ->isG r=ξ:=by cases r<;>first|exact fun _=>rfl|exact nofun
theorem SP(r:Rw):isS r=θ->isP r=θ:=by cases r<;>first|exact fun _=>rfl|exact nofun
section
variable{cs ss:η Hd}{J0:η Rw}{N O S:η Str}{Fo:η Nat}{M:Str->Mrk}{r:Rw}
def g1(N S:η Str)(r:Rw):Bool:=isG r&&(decide (gn r∈N)&&!decide (gn r∈S))
def opn(N O S:η Str)(r:Rw):η Str:=if g1 N S r then O++[gn r]else O
def brk(N O S:η Str)(r:Rw):Bool:=isP r&&decide (pn r∈opn N O S r)
def sto(S:η Str)(r:Rw):η Str:=if isS r then S++[pn r]else S
structure Iv(N O S:List Str)(M:Str->Mrk):Prop where
 sub:∀x∈O,x∈N
 m:∀x∈N,(M x=.fresh/\x∉O/\x∉S)∨(M x=.seen/\x∈O)∨(M x=.safe/\x∉O/\x∈S)
theorem Gz(h:isP r=θ):opn N O S r=O:=if_neg (by unfold g1;rw[GP r h];exact nofun)
def oh(h:x∈O):x∈opn N O S r:=by
 unfold opn;split
 .exact qi8 _ h
 .exact h
theorem oj(h:x∈opn N O S r)(U:x∉O):g1 N S r=θ/\x=gn r:=by
 unfold opn at h;split at h
 .rename_i z;exact⟨z,qb1.mp ((qi3.mp h).resolve_left U)⟩
 .exact absurd h U
theorem om:mb .seen r x=if r.puts x then .spoilt else .seen:=rfl
theorem Bb(I:Iv N O S M):brk N O S r=N.any fun x=>decide (mb (M x) r x=.spoilt):=by
 rw[qj0,qj5];constructor
 .intro h;simp only[brk,qa9,decide_eq_true_eq]at h;rw[Gz h.1]at h;refine⟨_,I.sub _ h.2,decide_eq_true ?_⟩;rcases I.m _ (I.sub _ h.2)with ⟨_,q,_⟩|⟨q,_⟩|⟨_,q,_⟩
  .exact absurd h.2 q
  .rw[q,om,og,h.1,decide_eq_true rfl];rfl
  .exact absurd h.2 q
 .rintro⟨x,U,e⟩;have e:=of_decide_eq_true e;rcases I.m x U with ⟨q,_⟩|⟨q,q2⟩|⟨q,_⟩<;>rw[q]at e
  .exact absurd e pS
  .rw[om,og]at e;split at e
   .rename_i z;simp only[qa9,decide_eq_true_eq]at z;unfold brk;rw[z.1,z.2,decide_eq_true (oh q2)];rfl
   .cases e
  .cases e
theorem Iv.step(I:Iv N O S M)(Y:brk N O S r=ξ):Iv N (opn N O S r) (sto S r) (fun x=>mb (M x) r x) where
 sub:=fun x W=>by
  by_cases z:x∈O
  .exact I.sub x z
  .obtain⟨h1,rfl⟩:=oj W z;simp only[g1,qa9,decide_eq_true_eq]at h1;exact h1.2.1
 m:=fun x W=>by
  rcases I.m x W with ⟨q,q1,q2⟩|⟨q,q1⟩|⟨q,q1,q2⟩<;>simp only[q]
  .cases U:r.gets x with
   |true=>right;left;have e:=U;rw[tN]at e;simp only[qa9,decide_eq_true_eq]at e;refine⟨by simp only[mb,U,if_true],?_⟩;unfold opn g1;rw[e.1,e.2,decide_eq_true W,decide_eq_false q2];simp
   |false=>
    have Z:x∉opn N O S r:=fun z=>by obtain⟨h1,h2⟩:=oj z q1;simp only[g1,qa9]at h1;rw[tN,h1.1,h2,decide_eq_true rfl]at U;cases U
    cases es:r.stores x with
    |true=>right;right;have e:=es;rw[mN]at e;simp only[qa9,decide_eq_true_eq]at e;refine⟨by simp only[mb,U,es,if_true,qd1,if_false],Z,?_⟩;unfold sto;rw[e.1,e.2];simp
    |false=>
     left;refine⟨by simp only[mb,U,es,qd1,if_false],Z,?_⟩;unfold sto;split
     .rename_i z;rw[mN,z]at es;simp only[ql3,decide_eq_false_iff_not]at es;intro h;exact(qi3.mp h).elim q2 fun h=>es (qb1.mp h).symm
     .exact q2
  .right;left;refine⟨?_,oh q1⟩;rw[om,og,if_neg];intro z;simp only[qa9,decide_eq_true_eq]at z;unfold brk at Y;rw[z.1,z.2,decide_eq_true (oh q1)]at Y;cases Y
  .right;right;refine⟨rfl,fun z=>?_,?_⟩
   .obtain⟨h1,h2⟩:=oj z q1;simp only[g1,qa9,qi7,decide_eq_false_iff_not]at h1;exact h1.2.2 (h2▸q2)
   .unfold sto;split
    .exact qi8 _ q2
    .exact q2
theorem rC{g:De->ζ Dt}{l:η Str}(h1:f δ=ς (.str x))(h2:g δ=ς (.e (l.map .str))):tB2 (bF neg) f g δ=ς (if neg then !decide (x∈l)else decide (x∈l)):=bE h1 h2 k7
def gtS(cs ss:η Hd)(J0:η Rw)(N:η Str)(i:Nat)(O S:η Str)(Fo:η Nat)(x6 x7:ζ T):De:=[ς (.f (pgD cs ss J0)),ς (.f (dS N)),ς (.f (dI i)),ς (.e (O.map .str)),ς (.e (S.map .str)),ς (.e (Fo.map dI)),x6,x7]
theorem ifbk(h:c δ=ς b):ai (sIf c Dl bc) g δ=if b then ς (.bk δ)else g δ:=by
 cases b with
 |true=>rw[bX,jI h];rfl
 |false=>exact pR h
theorem Bc(x7:ζ T)(Z:J0[j]?=ς r)(hO:O.length<=1000)(hS:S.length<=1000)(hF:Fo.length<=1000):∃ δ',δ'[5]?=ς (ς (.e (Fo.map dI)))/\q26 (gtS cs ss J0 N i O S Fo (ς (.f (dI (j+1)))) x7)=if brk N O S r then ς (.bk δ')else ς (.nx (gtS cs ss J0 N i (opn N O S r) (sto S r) (Fo++[j+1]) (ς (.f (dI (j+1)))) (ς (.f r.d)))):=by
 have kq:∀{δ:De},vB 7 δ=ς r.d->toD (d2 ah (vB 7) (kD (.int 0))) δ=ς (.str (bZ r)):=fun h=>oD h (y:=.int 0) rfl (by cases r<;>rfl)
 have U:isG r=θ->∀{δ:De},vB 7 δ=ς r.d->toD (d2 ah (vB 7) (kD (.int 2))) δ=ς (.str (gn r)):=fun z _ h=>oD h (y:=.int 2) rfl (by cases r<;>first|rfl|cases z)
 have W:isP r=θ->∀{δ:De},vB 7 δ=ς r.d->toD (d2 ah (vB 7) (kD (.int 1))) δ=ς (.str (pn r)):=fun z _ h=>oD h (y:=.int 1) rfl (by cases r<;>first|rfl|cases z)
 refine⟨gtS cs ss J0 N i (opn N O S r) S Fo (ς (.f (dI (j+1)))) (ς (.f r.d)),rfl,?_⟩;unfold q26;rw[ap (ar (bY (oD (oD (x:=pgD cs ss J0) (y:=.int 2) rfl rfl rfl) (gG (a:=j+1) (b:=1) rfl rfl rfl) (jZ Z))))];refine(ap (δ':=gtS cs ss J0 N i (opn N O S r) S Fo (ς (.f (dI (j+1)))) (ς (.f r.d))) (A1 (b:=g1 N S r) (vm (bE (kq rfl) (y:=.t [.str "load",.str "take"]) (by kernel_rfl) (by cases r<;>kernel_rfl)) fun h=>vm (rC (U h rfl) (l:=N) rfl) fun _=>rC (neg:=true) (U h rfl) (l:=S) rfl) (fun z=>?_) fun z=>?_)).trans ?_
 .have Y:isG r=θ:=by simp only[g1,qa9]at z;exact z.1
  unfold opn;rw[cy (l:=O.map .str) (d:=.str (gn r)) rfl (U Y rfl) (by rw[qa1];lia),if_pos z];unfold gtS;rw[qd3];rfl
 .unfold opn;rw[z,if_neg Ω];rfl
 refine(ifbk (b:=brk N O S r) (vm (bE (kq rfl) (y:=.t [.str "store",.str "lay"]) (by kernel_rfl) (by cases r<;>kernel_rfl)) fun h=>rC (neg:=false) (W h rfl) (l:=opn N O S r) rfl)).trans ?_;cases z:brk N O S r with
 |true=>rfl
 |false=>
  rw[if_neg Ω];refine(ap (δ':=gtS cs ss J0 N i (opn N O S r) (sto S r) Fo (ς (.f (dI (j+1)))) (ς (.f r.d))) (A1 (b:=isS r) (bE (kq rfl) (y:=.str "store") rfl (by cases r<;>kernel_rfl)) (fun q=>?_) fun q=>?_)).trans ?_
  .unfold sto;rw[cy (l:=S.map .str) (d:=.str (pn r)) rfl (W (SP r q) rfl) (by rw[qa1];lia),if_pos q];unfold gtS;rw[qd3];rfl
  .unfold sto;rw[q,if_neg Ω];rfl
  rw[cy (l:=Fo.map dI) (d:=dI (j+1)) rfl rfl (by rw[qa1];lia),if_neg Ω];unfold gtS;rw[qd3];rfl
theorem Bd:(opn N O S r).length<=O.length+1:=by unfold opn;split<;>simp
theorem Be:(sto S r).length<=S.length+1:=by unfold sto;split<;>simp
theorem Cf {i:Nat}:∀ (f d:Nat) (O S:η Str) (Fo:η Nat) (x6 x7:ζ T),i+d+f<J0.length->O.length+f<=1000->S.length+f<=1000->Fo.length+f<=1000->Iv N O S (fun x=>L2.runN J0 x i d)→
  ∃ δ',b7 (ak 6) q26 ((qj8 (i+d+1) f).map dI) (gtS cs ss J0 N i O S Fo x6 x7)=ς (.nx δ')/\δ'[5]?=ς (ς (.e ((Fo++qj8 (i+d+1) (rN J0 N i d f-d)).map dI)))
 |0,d,O,S,Fo,x6,x7,_,_,_,_,_=>⟨_,rfl,by unfold rN;rw[zm3];show ς (ς (T.e (Fo.map dI)))=_;rw[List.range'_zero,qh0]⟩
 |f+1,d,O,S,Fo,x6,x7,h,h1,h2,h3,I=>by
  obtain⟨r,U⟩:∃r,J0[i+d]?=ς r:=⟨J0[i+d]'Θ,Ξ⟩;obtain⟨δ',Z,e⟩:=Bc (cs:=cs) (ss:=ss) (N:=N) (O:=O) (S:=S) (Fo:=Fo) (i:=i) x7 U Θ Θ Θ;have W:=Bb (r:=r) I
  have Y:(fun x=>decide (mb (L2.runN J0 x i d) r x=.spoilt))=fun x=>decide (L2.runN J0 x i (d+1)=.spoilt):=by funext x;rw[fJ U]
  rw[Y]at W;rw[qq1,qa4];unfold rN;cases z:brk N O S r with
  |true=>rw[<- W,z,if_pos rfl,zm3];rw[z,if_pos rfl]at e;refine⟨δ',?_,by rw[Z,List.range'_zero,qh0]⟩;show((q26 (gtS cs ss J0 N i O S Fo (ς (.f (dI (i+d+1)))) x7)).bind _)=_;rw[e];rfl
  |false=>
   rw[<- W,z,if_neg Ω];rw[z,if_neg Ω]at e;have hd:=(tD (J0:=J0) (N:=N) (a:=i) f (d+1)).1;have:=Bd (N:=N) (O:=O) (S:=S) (r:=r);have:=Be (S:=S) (r:=r)
   obtain⟨δ2,g1,g2⟩:=Cf (i:=i) f (d+1) (opn N O S r) (sto S r) (Fo++[i+d+1]) (ς (.f (dI (i+d+1)))) (ς (.f r.d)) Θ Θ Θ (by simp;lia) (by have:=I.step z;simp only[<- fJ U]at this;exact this)
   refine⟨δ2,?_,?_⟩
   .rw[aD (δ1:=gtS cs ss J0 N i O S Fo (ς (.f (dI (i+d+1)))) x7) rfl e];exact g1
   .rw[g2,qk0];congr 5;rw[show rN J0 N i (d+1) f-d=rN J0 N i (d+1) f-(d+1)+1 by lia,qq1];rfl
theorem rD{i:Nat}(Y:J0.length<=500)(hi:i<J0.length):q30 [pgD cs ss J0,dS N,dI i]=ς (.e ((qj8 (i+1) (rch J0 N i-i)).map dI)):=by obtain⟨U,e,W⟩:=Cf (cs:=cs) (ss:=ss) (J0:=J0) (N:=N) (i:=i) (J0.length-1-i) 0 [] [] [] ψ ψ Θ (by simp;lia) (by simp;lia) (by simp;lia) ⟨nofun,fun x _=>.inl ⟨rfl,nofun,nofun⟩⟩;unfold q30;refine dRt ?_;show ai _ _ [ς (.f (pgD cs ss J0)),ς (.f (dS N)),ς (.f (dI i)),ψ,ψ,ψ,ψ,ψ]=_;rw[ap (ar (t:=.e []) rfl),ap (ar (t:=.e []) rfl),ap (ar (t:=.e []) rfl)];show ai _ _ (gtS cs ss J0 N i [] [] [] ψ ψ)=_;rw[show J0.length-1-i=J0.length-(i+1)by lia]at e;rw[bX,lj (n6 _ _ _ (i+1) J0.length Θ Θ (aO (a:=i) (b:=1) rfl rfl rfl) (c1D (oD (x:=pgD cs ss J0) (y:=.int 2) rfl rfl rfl) A6)) e,ck];unfold fM;rw[W];unfold rch;rw[qr3,zm4,Nat.add_sub_cancel_left]
end
section
variable{cs ss:η Hd}{J0:η Rw}{N:η Str}{L A:η Nat}
structure FwI(J0:List Rw)(N:List Str)(j:Nat)(L A:List Nat):Prop where
 l:L.length=j
 a:A.length=j
 z:L.getD 0 0=0
 za:A.getD 0 0=0
 h:∀k,0<k->k<j->A.getD k 0<k/\k<=rch J0 N (A.getD k 0)/\L.getD k 0=L.getD (A.getD k 0) 0+1/\∀i,i<k->k<=rch J0 N i->L.getD k 0<=L.getD i 0+1
structure Fw(J0:List Rw)(N:List Str)(L rs:List Nat):Prop where
 l:L.length=J0.length
 z:L.getD 0 0=0
 le:∀i j,i<j->j<J0.length->j<=rch J0 N i->L.getD j 0<=L.getD i 0+1
 ex:∀j,0<j->j<J0.length->∃i,i<j/\j<=rch J0 N i/\L.getD j 0=L.getD i 0+1
 one:J0.length=1->rs=[0]
 ch:1<J0.length->Ch J0 N 0 rs/\rs.getLast?=ς (J0.length-1)/\rs.length=L.getD (J0.length-1) 0
theorem gdL{x k:Nat}(h:k<l.length):(l++[x]).getD k 0=l.getD k 0:=by rw[qb4,qb4,qc9 h]
theorem gdR{x k:Nat}(h:k=l.length):(l++[x]).getD k 0=x:=by subst h;simp
theorem FwI.step(I:FwI J0 N j L A)(W:0<j)(hi:i<j)(Z:j<=rch J0 N i)(hm:∀U,U<j->j<=rch J0 N U->L.getD i 0<=L.getD U 0):FwI J0 N (j+1) (L++[L.getD i 0+1]) (A++[i]) where
 l:=by simp[I.l]
 a:=by simp[I.a]
 z:=by rw[gdL (by rw[I.l];exact W),I.z]
 za:=by rw[gdL (by rw[I.a];exact W),I.za]
 h:=fun k Y hk=>by
  by_cases e:k=j
  .subst e;rw[gdR (l:=A) I.a.symm,gdR (l:=L) I.l.symm,gdL (l:=L) (by rw[I.l];exact hi)];refine⟨hi,Z,rfl,fun U h1 h2=>?_⟩;rw[gdL (l:=L) (by rw[I.l];exact h1)];have:=hm U h1 h2;lia
  .have hk:k<j:=by lia
   obtain⟨q1,q2,q3,q4⟩:=I.h k Y hk;rw[gdL (l:=A) (by rw[I.a];exact hk),gdL (l:=L) (by rw[I.l];exact hk),gdL (l:=L) (by rw[I.l];lia)];refine⟨q1,q2,q3,fun U h1 h2=>?_⟩;rw[gdL (l:=L) (by rw[I.l];lia)];exact q4 U h1 h2
def fwS(cs ss:η Hd)(J0:η Rw)(N:η Str)(L A:η Nat)(U x6 x7:ζ T):De:=[ς (.f (pgD cs ss J0)),ς (.f (dI J0.length)),ς (.f (.e (((qb7 J0.length).map (rch J0 N)).map dI))),ς (.e (L.map dI)),ς (.e (A.map dI)),U,x6,x7]
theorem p0(f:Nat->Nat):∀l:η Nat,qZ (l.map fun i=>.t [dI (f i),dI i])=ς (l.map fun i=>((f i:Int),(i:Int)))
 |[]=>rfl
 |i::l=>by rw[qa4];show(qZ (l.map fun i=>.t [dI (f i),dI i])).map (fun r=>((f i:Int),(i:Int))::r)=_;rw[p0 f l];rfl
theorem Bf (I:FwI J0 N j L A) (hj:0<j) (hl:j<J0.length) (hn:J0.length<=500) (x6 x7:ζ T):∃ i y6,i<j/\j<=rch J0 N i/\(∀ W,W<j->j<=rch J0 N W->L.getD i 0<=L.getD W 0)∧
  q53 (fwS cs ss J0 N L A (ς (.f (dI j))) x6 x7)=ς (.nx (fwS cs ss J0 N (L++[L.getD i 0+1]) (A++[i]) (ς (.f (dI j))) y6 x7)):=by
 obtain⟨P,Z⟩:∃P,P=(qb7 j).filter fun i=>decide (j<=rch J0 N i):=⟨_,rfl⟩
 have U:∀i,i∈P↔i<j/\j<=rch J0 N i:=fun i=>by rw[Z,qi1,qd8,decide_eq_true_eq]
 have hne:P≠[]:=fun z=>by
  have:j-1∈P:=(U _).mpr ⟨Θ,by have:=EM (J0:=J0) (N:=N) (a:=j-1) Θ;lia⟩
  rw[z]at this;cases this
 have Y:bK (ak 0) z68 z53 [ψ,ς (.f (.e (((qb7 J0.length).map (rch J0 N)).map dI))),ς (.e (L.map dI)),ς (.f (dI j))] ((qb7 j).map dI)=ς (P.map fun i=>.t [dI (L.getD i 0),dI i]):=by
  rw[Z];refine bO (f:=dI) (h:=fun i=>.t [dI (L.getD i 0),dI i]) fun i hi=>?_
  have hi:=qd8.mp hi;refine⟨[ς (.f (dI i)),ς (.f (.e (((qb7 J0.length).map (rch J0 N)).map dI))),ς (.e (L.map dI)),ς (.f (dI j))],rfl,?_,fun _=>?_⟩
  .refine bE (x:=dI (rch J0 N i)) (y:=dI j) (oD (x:=.e (((qb7 J0.length).map (rch J0 N)).map dI)) (y:=dI i) rfl rfl ((cu (by simp;lia)).trans (by rw[qb4,qb3,qt4 Θ];rfl))) rfl ?_
   show ς (T.f (.bl (decide ((j:Int)<=(rch J0 N i:Int)))))=_;congr 3;rw[decide_eq_decide];lia
  .unfold z53;exact cG (af (d:=dI (L.getD i 0)) (oD (x:=.e (L.map dI)) (y:=dI i) rfl rfl (cu (by rw[I.l];exact hi))) (af (d:=dI i) rfl aN)) Ξ
 have hPl:P.length<=500:=by rw[Z];exact qc0 (qe6 _ _) (by simp;lia)
 have vc:toD (aH [ψ,ς 2,ς 3,ς 5] (bQ eh (aa (vL 5) ae)) (ak 0) z68 z53) (fwS cs ss J0 N L A (ς (.f (dI j))) x6 x7)=ς (.e (P.map fun i=>.t [dI (L.getD i 0),dI i])):=by refine aM (t:=.e _) (b8 (ds:=(qb7 j).map dI) ?_ Y (by rw[qa1];lia));exact gK _ _ j Θ rfl
 obtain⟨m,qs,hq⟩:∃m qs,P.map (fun i=>((L.getD i 0:Int),(i:Int)))=m::qs:=by
  cases P with
  |nil=>exact absurd rfl hne
  |cons a P=>exact⟨_,_,rfl⟩
 have mn:sO [.e (P.map fun i=>.t [dI (L.getD i 0),dI i])]=ς (.f (.t [.int (jH m qs).1,.int (jH m qs).2])):=by show(match qZ (P.map fun i=>.t [dI (L.getD i 0),dI i])with|some (m::qs)=>ς (T.f (.t [.int (jH m qs).1,.int (jH m qs).2]))|_=>ψ)=_;rw[p0,hq]
 have bm:=kT m qs;have bl:=jR m qs;rw[<- hq]at bm bl;obtain⟨i,hi,e⟩:=qc8.mp bm;obtain⟨i1,i2⟩:=(U i).mp hi;refine⟨i,ς (.f (.t [dI (L.getD i 0),dI i])),i1,i2,fun W h1 h2=>?_,?_⟩
 .have:=bl _ (qc8.mpr ⟨W,(U W).mpr ⟨h1,h2⟩,rfl⟩);rw[<- e]at this;have:=mt ltP_iff.mpr (qf9.mp this);dsimp only at this;lia
 .rw[<- e]at mn;unfold q53;rw[ap (ar (t:=.f (.t [dI (L.getD i 0),dI i])) (bY (c1D vc mn)))];show ai _ _ (fwS cs ss J0 N L A (ς (.f (dI j))) (ς (.f (.t [dI (L.getD i 0),dI i]))) x7)=_;rw[ap (cy (l:=L.map dI) (d:=dI (L.getD i 0+1)) rfl (aO (a:=L.getD i 0) (b:=1) (oD (x:=.t [dI (L.getD i 0),dI i]) (y:=.int 0) rfl rfl rfl) rfl rfl) (by rw[qa1,I.l];lia))];rw[cy (l:=A.map dI) (d:=dI i) rfl (oD (x:=.t [dI (L.getD i 0),dI i]) (y:=.int 1) rfl rfl rfl) (by rw[qa1,I.a];lia)];unfold fwS;rw[qd3,qd3];rfl
theorem Cg(hn:J0.length<=500)(x7:ζ T):∀(m j:Nat)(L A:η Nat)(W x6:ζ T),FwI J0 N j L A->0<j->j+m=J0.length->∃U Y Z y6,FwI J0 N J0.length U Y/\b7 (ak 5) q53 ((qj8 j m).map dI) (fwS cs ss J0 N L A W x6 x7)=ς (.nx (fwS cs ss J0 N U Y Z y6 x7))
 |0,j,L,A,W,x6,I,_,h=>⟨L,A,W,x6,by rw[<- h];exact I,rfl⟩
 |m+1,j,L,A,W,x6,I,h0,h=>by obtain⟨i,y6,h1,h2,h3,e⟩:=Bf (cs:=cs) (ss:=ss) I h0 Θ hn x6 x7;obtain⟨U,Y,Z,z6,I',e'⟩:=Cg hn x7 m (j+1) _ _ (ς (.f (dI j))) y6 (I.step h0 h1 h2 h3) Θ Θ;refine⟨U,Y,Z,z6,I',?_⟩;rw[qq1,qa4,aD (δ1:=fwS cs ss J0 N L A (ς (.f (dI j))) x6 x7) rfl e];exact e'
theorem Ci(I:FwI J0 N J0.length L A)(hn:J0.length<=500)(U x6:ζ T):∀(f h:Nat)(t:η Nat),h<f->h<J0.length->t.length+h<=500->Ch J0 N h t->∃h' t',aT q69 z54 f (fwS cs ss J0 N L A U x6 (ς (.e ((h::t).map dI))))=ς (.nx (fwS cs ss J0 N L A U x6 (ς (.e ((h'::t').map dI)))))/\A.getD h' 0=0/\h'<J0.length/\Ch J0 N h' t'/\(h'::t').getLast?=(h::t).getLast?/\L.getD h' 0+t'.length=L.getD h 0+t.length/\(0<h->0<h')/\h'<=h
 |0,h,t,z,_,_,_=>absurd z (qz8 _)
 |f+1,h,t,hf,Y,ht,c=>by
  have Z:toD (d2 ah (vB 4) (toD (d2 ah (vB 7) (kD (.int 0))))) (fwS cs ss J0 N L A U x6 (ς (.e ((h::t).map dI))))=ς (dI (A.getD h 0)):=oD (x:=.e (A.map dI)) (y:=dI h) rfl (oD (x:=.e ((h::t).map dI)) (y:=.int 0) rfl rfl (show ah (.e ((h::t).map dI)) (.int ((0:Nat):Int))=ς (.f (dI h))from cu (l:=h::t) (k:=0) Ξ)) (cu (by rw[I.a];exact Y))
  have W:q69 (fwS cs ss J0 N L A U x6 (ς (.e ((h::t).map dI))))=ς (decide (0<A.getD h 0)):=by refine bE Z (y:=.int 0) rfl ?_;show ς (T.f (.bl (decide ((0:Int)<(A.getD h 0:Int)))))=_;congr 3;rw[decide_eq_decide];lia
  by_cases z:0<A.getD h 0
  .rw[decide_eq_true z]at W
   have h0:0<h:=by
    cases h with
    |zero=>rw[I.za]at z;exact z
    |succ h=>lia
   obtain⟨q1,q2,q3,_⟩:=I.h h h0 Y
   have b:z54 (fwS cs ss J0 N L A U x6 (ς (.e ((h::t).map dI))))=ς (.nx (fwS cs ss J0 N L A U x6 (ς (.e ((A.getD h 0::h::t).map dI))))):=by unfold z54;show((toD (d2 ah (vB 4) (toD (d2 ah (vB 7) (kD (.int 0))))) (fwS cs ss J0 N L A U x6 (ς (.e ((h::t).map dI))))).bind _)=_;rw[Z,qa6,if_pos (by rw[qa1,qe4];exact gq Θ)];rfl
   obtain⟨h',t',e,g1,g2,g3,g4,g5,g6,g7⟩:=Ci I hn U x6 f (A.getD h 0) (h::t) Θ Θ (by rw[qe4];lia) ⟨q1,q2,c⟩;refine⟨h',t',(iH W b).trans e,g1,g2,g3,by rw[g4,qm3],by rw[g5,q3,qe4];lia,fun _=>g6 z,Θ⟩
  .rw[decide_eq_false z]at W;exact⟨h,t,jW W,Θ,Y,c,rfl,rfl,id,nL _⟩
theorem vq(S:jJ J0)(hl:cs.length+ss.length<=100)(h0:0<J0.length)(hn:J0.length<=200):∃L rs:η Nat,z35 [pgD cs ss J0]=ς (.two (rs.map dI) (L.map dI))/\Fw J0 (plain cs ss) L rs:=by
 obtain⟨L,A,U,Z,I,e⟩:=Cg (cs:=cs) (ss:=ss) (J0:=J0) (N:=plain cs ss) Θ ψ (J0.length-1) 1 [0] [0] ψ ψ ⟨rfl,rfl,rfl,rfl,fun k a b=>Θ⟩ Θ Θ;obtain⟨h',t',e2,g1,g2,g3,g4,Y,g6,g7⟩:=Ci (cs:=cs) (ss:=ss) I Θ U Z 100000 (J0.length-1) [] Θ Θ (by simp;lia) trivial;refine⟨L,h'::t',?_,I.l,I.z,fun i j h1 h2 h3=>(I.h j Θ h2).2.2.2 i h1 h3,fun j h1 h2=>⟨_,(I.h j h1 h2).1,(I.h j h1 h2).2.1,(I.h j h1 h2).2.2.1⟩,fun h=>?_,fun h=>?_⟩
 .unfold z35;refine dRt ?_;show ai _ _ [ς (.f (pgD cs ss J0)),ψ,ψ,ψ,ψ,ψ,ψ,ψ]=_;refine lI (d:=dI J0.length) (c1D (oD (x:=pgD cs ss J0) (y:=.int 2) rfl rfl rfl) A6) ?_;show ai _ _ [ς (.f (pgD cs ss J0)),ς (.f (dI J0.length)),ψ,ψ,ψ,ψ,ψ,ψ]=_
  refine lI (d:=.e (((qb7 J0.length).map (rch J0 (plain cs ss))).map dI)) (by
   refine aM (t:=.e _) (b8 (ds:=(qb7 J0.length).map dI) ?_ (by
    rw[qc6]
    exact aY (f:=dI) (h:=dI ∘ rch J0 (plain cs ss)) fun i hi=>⟨[ς (.f (dI i)),ς (.f (pgD cs ss J0))],rfl,rfl,by unfold q83;exact c2D (x:=pgD cs ss J0) (y:=dI i) rfl rfl (yD S hl Θ (qd8.mp hi))⟩) (by simp;lia))
   exact gK _ _ J0.length Θ rfl) ?_
  rw[ap (ar (t:=.e [dI 0]) rfl),ap (ar (t:=.e [dI 0]) rfl)];show ai _ _ (fwS cs ss J0 (plain cs ss) [0] [0] ψ ψ ψ)=_;rw[bX,lj (n6 _ _ _ 1 J0.length Θ Θ rfl rfl) e,ck];rw[ap (ar (t:=.e [dI (J0.length-1)]) (sW (af (gG (a:=J0.length) (b:=1) rfl rfl Θ) aN) Ξ))];show ai _ _ (fwS cs ss J0 (plain cs ss) L A U Z (ς (.e (([J0.length-1]:η Nat).map dI))))=_;rw[ap e2];rfl
 .have:h'=0:=by lia
  subst this;cases t' with
  |nil=>rfl
  |cons b t'=>have:=Y;rw[show J0.length-1=0 by lia]at this;simp at this
 .have hp:=g6 Θ;obtain⟨q1,q2,W,_⟩:=I.h h' hp g2;rw[g1]at q1 q2 W;refine⟨⟨q1,q2,g3⟩,by rw[g4];rfl,?_⟩;rw[qe4];have:=I.z;simp at Y;simp at this W ⊢;lia
end
def Rw.isFin:Rw->Bool
 |.fin _=>θ
 |_=>ξ
theorem yG{l:η Str}:bF neg (.str x) (.t (l.map .str))=ς (.f (.bl (if neg then !decide (x∈l)else decide (x∈l)))):=by rw[F9 (by rw[dA];rfl),tj]
theorem tP(x0 Y W U x4 x6:ζ T)(bs:η Str):∀(l:η Str)(x7:ζ T),(∀b∈l,b∈bs)->∃y,b7 (ak 7) y46 (l.map .str) [x0,Y,W,U,x4,ς (.f (.t (bs.map .str))),x6,x7]=ς (.nx [x0,Y,W,U,x4,ς (.f (.t (bs.map .str))),x6,y])
 |[],x7,_=>⟨x7,rfl⟩
 |b::l,x7,h=>by
  obtain⟨y,e⟩:=tP x0 Y W U x4 x6 bs l (ς (.f (.str b))) (fun c Z=>h c (.tail _ Z));refine⟨y,?_⟩;rw[qa4,aD (δ1:=[x0,Y,W,U,x4,ς (.f (.t (bs.map .str))),x6,ς (.f (.str b))]) (δ2:=[x0,Y,W,U,x4,ς (.f (.t (bs.map .str))),x6,ς (.f (.str b))]) rfl ?_]
  .exact e
  .unfold y46;walk_at "k";rw[yG];walk_at "k";rw[eC (by simp[h b (.head _)])];rfl
def plD(p:Nat×η Str×Bool):Dt:=.t [dI p.1,.t (p.2.1.map .str),.bl p.2.2]
theorem p5(x0 W U:ζ T){B:η Str}(F:Fnd J0 B J3):∀(ps:η (Nat×η Str×Bool))(x4 Y x6 x7:ζ T),(∀p∈ps,p.1<J0.length/\∀l,J3[p.1]?=ς l->∀b∈l,b∈p.2.1)->∃Z y5 y6 y7,b7 (lz 3 (cI (ak 4) (cI (ak 5) (cI (ak 6) ly)))) z49 (ps.map plD) [x0,W,ς (.f (dF J3)),U,x4,Y,x6,x7]=ς (.nx [x0,W,ς (.f (dF J3)),U,Z,y5,y6,y7])
 |[],x4,Y,x6,x7,_=>⟨x4,Y,x6,x7,rfl⟩
 |p::ps,x4,Y,x6,x7,h=>by
  obtain⟨hp,hB⟩:=h p (.head _);obtain⟨l,hl⟩:∃l,J3[p.1]?=ς l:=⟨J3[p.1]'(by rw[F.len];exact hp),Ξ⟩;obtain⟨y,e1⟩:=tP x0 W (ς (.f (dF J3))) U (ς (.f (dI p.1))) (ς (.f (.bl p.2.2))) p.2.1 l x7 (hB l hl);obtain⟨Z,y5,y6,y7,e⟩:=p5 x0 W U F ps (ς (.f (dI p.1))) (ς (.f (.t (p.2.1.map .str)))) (ς (.f (.bl p.2.2))) y (fun q hq=>h q (.tail _ hq));refine⟨Z,y5,y6,y7,?_⟩;rw[qa4,aD (δ1:=[x0,W,ς (.f (dF J3)),U,ς (.f (dI p.1)),ς (.f (.t (p.2.1.map .str))),ς (.f (.bl p.2.2)),x7]) rfl (δ2:=[x0,W,ς (.f (dF J3)),U,ς (.f (dI p.1)),ς (.f (.t (p.2.1.map .str))),ς (.f (.bl p.2.2)),y]) ?_]
  .exact e
  .unfold z49
   have e2:ah (dF J3) (dI p.1)=ς (.f (dS l)):=by unfold dF dI;rw[fS,bn,qb3,hl];rfl
   walk_at "k";rw[e2];walk_at "k";exact e1
theorem Bg {c:Dt} {B bg:η Str} {ks:η (Nat×η Str)} (hB:∀ (i:Nat) (r:Rw) (b:Str),J0[i]?=ς r->b∈r.reads->b∈B) (hO:∀ (i:Nat) (r:Rw) (j:Nat),J0[i]?=ς r->j∈r.outs i->j<J0.length) (hb:B.length<=12) (hn:J0.length<=500) (hp:0<J0.length) (e:y27 [pcD c s J0]=ς (.e (J3.map dS))) (F:Fnd J0 B J3) (W:∀ l,J3[0]?=ς l->∀ b∈l,b∈bg) (hk:∀ k∈ks,k.1<J0.length/\∀ l,J3[k.1]?=ς l->∀ b∈l,b∈k.2) (Z:ks.length<=900) :
  y30 [pcD c s J0,kcD (.t (bg.map .str)) ks]=ς (.f .non):=by
 unfold y30;walk_at "k";rw[show y27 [pcD c s J0]=_ from e];walk_at "k";rw[aY (h:=fun k:Nat×η Str=>plD (k.1,k.2,ξ)) fun k _=>⟨_,rfl,rfl,by unfold q65 kpD;walk_at "k";rfl⟩];walk_at "k";rw[cO (by rw[qa1];lia)];walk_at "k"
 have ps:=p5 (ς (.f (pcD c s J0))) (ς (.f (kcD (.t (bg.map .str)) ks))) (ς (.f (.e (((0,bg,θ)::ks.map fun k=>(k.1,k.2,ξ)).map plD)))) F ((0,bg,θ)::ks.map fun k=>(k.1,k.2,ξ)) ψ ψ ψ ψ (fun p U=>by
  rcases qa5.mp U with rfl|U
  .exact⟨hp,W⟩
  .obtain⟨k,Y,rfl⟩:=qc8.mp U;exact hk k Y)
 obtain⟨y4,y5,y6,y7,ps⟩:=ps;unfold dF at ps;rw[jV (by simp;lia)];walk_at "k";rw[show Dt.t [Dt.int 0,Dt.t (List.map Dt.str bg),Dt.bl θ]=plD (0,bg,θ)from rfl,show List.map (fun k:Nat×η Str=>plD (k.1,k.2,ξ)) ks=(ks.map fun k=>(k.1,k.2,ξ)).map plD by rw[qc6];rfl,<- qa4,ps];rfl
variable{P C:Dt}
section
variable{cs ss:η Hd}{J0:η Rw}
abbrev EO(nm:Str)(ws:η (Nat×Mrk)):Dt:=.t [.str "spoil",.str nm,.e ((ws.reverse.map (·.1)).map dI)]
def vt(a b:Dt):Dt:=if gh a then b else a
theorem yH {a r l:Dt} (Y:q34 [P,C]=ς (.f a)) (hr:q29 [P,C]=ς (.f r)) (hs:y22 [P,C]=ς (.f s)) (Z:y30 [P,C]=ς (.f l)) :
  z55 [P,C]=ς (.f (vt (vt (vt a r) s) l)):=by
 have st:∀(F:η Dt->ζ T)(d:Dt)(x:ζ T),F [P,C]=ς (.f d)->al 2 (toT (toD (ag F (aa (vL 0) (aa (vL 1) ae))))) [ς (.f P),ς (.f C),x]=ς (.nx [ς (.f P),ς (.f C),ς (.f d)]):=fun F d x h=>by refine(ar (t:=.f d) (bY (c2D (x:=P) (y:=C) rfl rfl h))).trans rfl
 have U:∀(F:η Dt->ζ T)(a d:Dt),F [P,C]=ς (.f d)->sIf (tB2 (gIs ξ) (vB 2) (kD .non)) (al 2 (toT (toD (ag F (aa (vL 0) (aa (vL 1) ae)))))) bc [ς (.f P),ς (.f C),ς (.f a)]=ς (.nx [ς (.f P),ς (.f C),ς (.f (vt a d))]):=fun F a d h=>by
  have W:tB2 (gIs ξ) (vB 2) (kD .non) [ς (.f P),ς (.f C),ς (.f a)]=ς (gh a):=rfl;unfold vt;cases z:gh a with
  |true=>rw[jI (W.trans (by rw[z])),st F d _ h];rfl
  |false=>rw[gt (W.trans (by rw[z]))];rfl
 unfold z55;refine dRt ?_;show ai _ _ [ς (.f P),ς (.f C),ψ]=_;rw[ap (st _ _ _ Y),ap (U _ _ _ hr),ap (U _ _ _ hs),ap (U _ _ _ Z)];rfl
theorem yI{d:Dt}(h:z55 [P,C]=ς (.f d)):q42 [P,C]=ς (.f (.bl (gh d))):=by unfold q42;exact dRt (c9 ((gu (aM ((iJ (x:=P) (y:=C) rfl rfl).trans h)) (y:=.non) rfl).trans rfl))
end
section
variable{cs ss:η Hd}{J0:η Rw}{B:η Str}{J3:η (η Str)}{K:η Nat}
structure Pg(cs ss:List Hd)(J0:List Rw)(B:List Str)(J3:List (List Str)):Prop where
 S:jJ J0
 hB:∀(i:Nat)(r:Rw)(b:Str),J0[i]?=ς r->b∈r.reads->b∈B
 l0:0<J0.length
 l1:J0.length<=60
 hb:B.length<=12
 hh:cs.length+ss.length<=100
 F:Fnd J0 B J3
 en:y27 [pgD cs ss J0]=ς (.e (J3.map dS))
theorem lm(S:jJ J0):∀(i:Nat)(r:Rw)(j:Nat),J0[i]?=ς r->j∈r.outs i->j<J0.length:=fun i r j h U=>by
 rw[S i r h]at U;split at U
 .rw[qb1.mp U];assumption
 .cases U
theorem yJ(S:jJ J0)(h:J0[i]?=ς r)(U:Rw.isFin r=θ):i=J0.length-1:=by
 have:=S i r h;have W:=(gX h).1;cases r<;>first|cases U;done|skip
 split at this
 .cases this
 .lia
theorem yK(P C:ζ T)(kept:η Nat)(k:Nat)(r:Rw)(h:Rw.isFin r=θ->k∈kept):y39 [P,C,ς (.f (.e (kept.map dI))),ς (.f (dI k)),ς (.f r.d)]=ς (.nx [P,C,ς (.f (.e (kept.map dI))),ς (.f (dI k)),ς (.f r.d)]):=by
 have t:cR (tB2 (gEq ξ) (toD (d2 ah (vB 4) (kD (.int 0)))) (kD (.str "end"))) (tB2 (bF θ) (vB 3) (vB 2)) [P,C,ς (.f (.e (kept.map dI))),ς (.f (dI k)),ς (.f r.d)]=ς (Rw.isFin r&&!decide (k∈kept)):=vm (bE (x:=.str (bZ r)) (y:=.str "end") (oD (x:=r.d) (y:=.int 0) rfl rfl (by cases r<;>rfl)) rfl (by cases r<;>kernel_rfl)) fun _=>bE (x:=dI k) (y:=.e (kept.map dI)) rfl rfl (gIn_ints (neg:=true))
 unfold y39
 rw[gt (t.trans (by
  cases z:Rw.isFin r with
  |true=>rw[decide_eq_true (h z)];rfl
  |false=>rfl))]
 rfl
theorem p6(P C:ζ T)(kept:η Nat):∀(rs:η Rw)(k:Nat)(U x4:ζ T),(∀i r,rs[i]?=ς r->Rw.isFin r=θ->k+i∈kept)->∃W Y,b7 (lz 2 (cI (ak 3) (cI (ak 4) ly))) y39 (dM k (rs.map Rw.d)) [P,C,ς (.f (.e (kept.map dI))),U,x4]=ς (.nx [P,C,ς (.f (.e (kept.map dI))),W,Y])
 |[],k,U,x4,_=>⟨U,x4,rfl⟩
 |r::rs,k,U,x4,h=>by
  obtain⟨W,Y,e⟩:=p6 P C kept rs (k+1) (ς (.f (dI k))) (ς (.f r.d)) fun i q Z hf=>by
   have:=h (i+1) q Z hf
   rwa [show k+1+i=k+(i+1)by lia]
  exact⟨W,Y,(aD (δ1:=[P,C,ς (.f (.e (kept.map dI))),ς (.f (dI k)),ς (.f r.d)]) rfl (yK P C kept k r (h 0 r rfl))).trans e⟩
theorem EQ{c b:Dt}{ks:η (Nat×η Str)}(S:jJ J0)(Y:J0.length-1∈ks.map (·.1))(U:ks.length<=1000):q34 [pcD c s J0,kcD b ks]=ς (.f .non):=by
 unfold q34;walk_at "k";rw[show y16 [kcD b ks]=_ from jY b ks U];walk_at "k";unfold me dR;walk_at "k"
 obtain⟨y3,Z,e⟩:=p6 (ς (.f (pcD c s J0))) (ς (.f (kcD b ks))) (ks.map (·.1)) J0 0 ψ ψ fun i r h W=>by rw[Nat.zero_add,yJ S h W];exact Y
 rw[e];rfl
theorem Bh(S:jJ J0){E:η Nat}(h:stay J0 E=E)(W:∀i∈E,i<J0.length):E=[]:=by
 have up:∀i∈E,i+1∈E:=fun i hi=>by
  have h2:=hi;rw[<- h]at h2;obtain⟨j,U,e⟩:=qj5.mp (qi1.mp h2).2;have Y:J0[i]?=ς (J0[i]'(W i hi)):=by simp[W i hi]
  rw[tq Y,S i _ Y]at U;split at U
  .rw[<- qb1.mp U];exact of_decide_eq_true e
  .cases U
 cases E with
 |nil=>rfl
 |cons a E=>
  have go:∀d,a+d∈a::E:=fun d=>by
   induction d with
   |zero=>exact .head _
   |succ d Z=>exact up _ Z
  have:=W _ (go J0.length);lia
theorem Bi{c b:Dt}{ks:η (Nat×η Str)}(S:jJ J0)(hn:J0.length<=500)(Z:ks.length<=1000):q29 [pcD c s J0,kcD b ks]=ς (.f .non):=by
 have ek:=jY b ks Z;have ew:=nW c s J0 Θ;generalize ks.map (·.1)=kept at ek ⊢;have Y:((qb7 J0.length).filter fun i=>!decide (i∈kept)).Nodup:=List.nodup_range.sublist qt7;have W:∀i∈(qb7 J0.length).filter fun i=>!decide (i∈kept),i<J0.length:=fun i hi=>qd8.mp (qi1.mp hi).1
 obtain⟨E,ee,hE,_,U,_⟩:=rz J0 _ hn W Y;obtain rfl:=Bh S hE fun i hi=>W i (U i hi)
 unfold q29;refine jX ?_;show ai _ _ [ς (.f (pcD c s J0)),ς (.f (kcD b ks)),ψ,ψ,ψ,ψ,ψ]=_
 have e1:bQ eh (aa (toD (ag be (aa (vB 3) ae))) ae) [ς (.f (pcD c s J0)),ς (.f (kcD b ks)),ς (.f (.e (kept.map dI))),ς (.f (dW J0)),ψ,ψ,ψ]=ς ((qb7 J0.length).map dI):=by unfold dW;walk_at "k";rw[List.length_mapIdx,yu _ Θ]
 have a2:=aM (b8 (src:=[ψ,ς 2]) (bb:=ak 0) (ft:=z36) (fe:=vL 0) e1 (vk kept J0.length) (by rw[qa1];exact qc0 (qe6 _ _) (by simp;lia)))
 rw[ap (ar (t:=.f (.e (kept.map dI))) (bY (aM (dU (x:=kcD b ks) rfl |>.trans ek))))];rw[ap (ar (t:=.f (dW J0)) (bY (aM (dU (x:=pcD c s J0) rfl |>.trans ew))))];show ai _ _ [ς (.f (pcD c s J0)),ς (.f (kcD b ks)),ς (.f (.e (kept.map dI))),ς (.f (dW J0)),ψ,ψ,ψ]=_;rw[ap (ar (t:=.f (.e [])) (bY (aM (iJ (f:=vL 3) (x:=dW J0) (y:=.e (((qb7 J0.length).filter fun i=>!decide (i∈kept)).map dI)) rfl a2 |>.trans ee))))];exact Ca (by kernel_rfl) rfl
theorem ln{R:Str->ζ (η (Nat×Mrk))->Prop}:∀(l:η Str)(Y U:ζ T),(∀nm∈l,∃r,q50 [P,C,.str nm]=ς (endS r)/\R nm r)->(∃y2 y3,b7 (ak 2) q15 (l.map .str) [ς (.f P),ς (.f C),Y,U]=ς (.nx [ς (.f P),ς (.f C),y2,y3])/\∀nm∈l,R nm ψ)∨∃nm W,nm∈l/\R nm (ς W)/\b7 (ak 2) q15 (l.map .str) [ς (.f P),ς (.f C),Y,U]=ς (.rt (.f (EO nm W)))
 |[],Y,U,_=>.inl ⟨Y,U,rfl,nofun⟩
 |nm::l,Y,U,h=>by
  obtain⟨r,hr,hR⟩:=h nm (.head _);cases r with
  |none=>
   have b:q15 [ς (.f P),ς (.f C),ς (.f (.str nm)),U]=ς (.nx [ς (.f P),ς (.f C),ς (.f (.str nm)),ς (.f .non)]):=by unfold q15;rw[ap ((ar (t:=.f .non) (bY (c3D (x:=P) (y:=C) (z:=.str nm) rfl rfl rfl hr))).trans rfl)];rfl
   have st:b7 (ak 2) q15 ((nm::l).map .str) [ς (.f P),ς (.f C),Y,U]=_:=aD (δ1:=[ς (.f P),ς (.f C),ς (.f (.str nm)),U]) rfl b;rw[st];rcases ln l (ς (.f (.str nm))) (ς (.f .non)) fun n Z=>h n (.tail _ Z)with ⟨y2,y3,e,q⟩|⟨n,W,h1,h2,e⟩
   .refine .inl ⟨y2,y3,e,fun n Z=>?_⟩;rcases qa5.mp Z with rfl|Z
    .exact hR
    .exact q n Z
   .exact .inr ⟨n,W,.tail _ h1,h2,e⟩
  |some W=>
   refine .inr ⟨nm,W,.head _,hR,?_⟩
   have b:q15 [ς (.f P),ς (.f C),ς (.f (.str nm)),U]=ς (.rt (.f (EO nm W))):=by unfold q15;rw[ap ((ar (t:=.f (.e ((W.reverse.map (·.1)).map dI))) (bY (c3L (x:=P) (y:=C) (z:=.str nm) rfl rfl rfl hr))).trans rfl),jI rfl];exact c9 (gF (af rfl (af rfl (af rfl rfl))) Ξ)
   show((q15 [ς (.f P),ς (.f C),ς (.f (.str nm)),U]).bind _)=_;rw[b];rfl
theorem ER{α:Type}{beh:α->η α}{fit:α->Bool}{J4:η α}{t:α}{W:η α}(h:Wy beh fit J4 t W):Rch beh J4 t:=by
 induction h with
 |one h=>exact .one h
 |more h _ _ U=>exact .more U h
theorem yL(I:Pg cs ss J0 B J3){ks:η (Nat×η Str)}(hk:∀k∈kps ks,k<J0.length)(hkl:ks.length<=100)(b:Dt):∃d,y22 [pgD cs ss J0,kcD b ks]=ς (.f d)/\(gh d=θ↔vo J0 (plain cs ss) (kps ks)):=by
 have h1:=I.l1;have h2:=I.hh
 have e0:fIt (toD (ag y15 (aa (vL 0) ae))) [ς (.f (pgD cs ss J0)),ς (.f (kcD b ks)),ψ,ψ]=ς ((plain cs ss).map .str):=by unfold fIt;rw[aM ((dU (x:=pgD cs ss J0) rfl).trans (lh cs ss _ Θ))];rfl
 have W:∀o:ζ Out,b7 (ak 2) q15 ((plain cs ss).map .str) [ς (.f (pgD cs ss J0)),ς (.f (kcD b ks)),ψ,ψ]=o->∀t,(o.bind fun o=>match o with|.nx δ'=>ς (Out.rt (.f .non))|o=>ς o)=ς (.rt t)->y22 [pgD cs ss J0,kcD b ks]=ς t:=fun o e t Y=>by unfold y22;refine dRt ?_;show ai _ _ [ς (.f (pgD cs ss J0)),ς (.f (kcD b ks)),ψ,ψ]=_;rw[bX,jb,e0,qa6,e];exact Y
 rcases ln (P:=pgD cs ss J0) (C:=kcD b ks) (R:=fun nm r=>(r=ψ->∀t,Rch (iI J0 (kps ks) nm) (cP (kps ks)) t->jc J0 nm t=ξ)/\∀U,r=ς U->∃t,Wy (iI J0 (kps ks) nm) (jc J0 nm) (cP (kps ks)) t U/\jc J0 nm t=θ) (plain cs ss) ψ ψ (fun nm Z=>by obtain⟨r,e,h1,h2⟩:=rA (b:=b) (kp:=ks) Θ Z Θ I.l0 Θ hk (lm I.S);exact⟨r,e,h1,fun U z=>(h2 U z).2⟩)with ⟨y2,y3,e,q⟩|⟨nm,U,Z,hR,e⟩
 .exact⟨.non,W _ e _ rfl,fun _ x hx t Y=>(q x hx).1 rfl t Y,fun _=>rfl⟩
 .refine⟨EO nm U,W _ e _ rfl,nofun,fun h=>?_⟩;obtain⟨t,w,hf⟩:=hR.2 U rfl;rw[h nm Z t (ER w)]at hf;cases hf
def kN(J3:η (η Str))(K:η Nat):η (Nat×η Str):=K.map fun k=>(k,J3.getD k [])
theorem rE:kps (kN J3 K)=K:=by unfold kps kN;rw[qc6];exact List.map_id K
theorem p7(I:Pg cs ss J0 B J3)(hK:∀k∈K,k<J0.length)(U:J0.length-1∈K)(hkl:K.length<=100):∃b:Bool,q42 [pgD cs ss J0,cdD (J3.getD 0 []) (kN J3 K)]=ς (.f (.bl b))/\(b=θ↔vo J0 (plain cs ss) K):=by
 have h1:=I.l1;have lk:(kN J3 K).length=K.length:=qa1 ..;have W:∀j l,J3[j]?=ς l->l=J3.getD j []:=fun j l h=>by rw[qb4,h];rfl
 have ee:=EQ (c:=.t (cs.map hdD)) (s:=.t (ss.map hdD)) (b:=.t ((J3.getD 0 []).map .str)) (ks:=kN J3 K) I.S (by rw[show(kN J3 K).map (·.1)=K from rE];exact U) Θ
 have er:=Bi (c:=.t (cs.map hdD)) (s:=.t (ss.map hdD)) (b:=.t ((J3.getD 0 []).map .str)) (ks:=kN J3 K) I.S Θ Θ;obtain⟨d,es,Z⟩:=yL I (ks:=kN J3 K) (by rw[rE];exact hK) Θ (.t ((J3.getD 0 []).map .str));rw[rE]at Z
 have el:=Bg (c:=.t (cs.map hdD)) (s:=.t (ss.map hdD)) (bg:=J3.getD 0 []) (ks:=kN J3 K) I.hB (lm I.S) I.hb Θ I.l0 I.en I.F (fun l U b Y=>by rw[<- W 0 l U];exact Y) (fun k hk=>by obtain⟨j,hj,rfl⟩:=qc8.mp hk;exact⟨hK j hj,fun l U b Y=>by rw[<- W j l U];exact Y⟩) Θ
 refine⟨gh d,(yI (yH ee er es el)).trans ?_,Z⟩;unfold vt;cases d<;>rfl
end
theorem yM{f g:De->ζ Bool}(h1:f δ=ς a)(h2:g δ=ς b):fOr f g δ=ς (a||b):=orE h1 fun _=>h2
section
variable{cs ss:η Hd}{J0:η Rw}{B:η Str}{J3:η (η Str)}{N:η Str}{L rs K:η Nat}
def gdD(J0:η Rw)(N:η Str):Dt:=.e ((qb7 J0.length).map fun i=>.e ((qj8 (i+1) (rch J0 N i-i)).map dI))
theorem GA(h:i<J0.length):ah (gdD J0 N) (dI i)=ς (.f (.e ((qj8 (i+1) (rch J0 N i-i)).map dI))):=by show(atI ((qb7 J0.length).map fun i=>Dt.e ((qj8 (i+1) (rch J0 N i-i)).map dI)) ((i:Nat):Int)).map T.f=_;rw[cr (fun i=>Dt.e ((qj8 (i+1) (rch J0 N i-i)).map dI)) (qb7 J0.length) i (by simpa using h) 0,qb4,qt4 h];rfl
theorem ES:j∈qj8 (i+1) (rch J0 N i-i)↔i<j/\j<=rch J0 N i:=by rw[List.mem_range'_1];have:i<=rch J0 N i:=ze9 _ _;lia
theorem Cj{g:De->ζ Dt}(h1:f δ=ς (dI j))(h2:g δ=ς (dI i))(U:h δ=ς (gdD J0 N))(hi:i<J0.length):tB2 (bF neg) f (toD (d2 ah h g)) δ=ς (if neg then !decide (i<j/\j<=rch J0 N i)else decide (i<j/\j<=rch J0 N i)):=by
 refine bE h1 (oD U h2 (GA hi)) (gIn_ints.trans ?_);have e:decide (j∈qj8 (i+1) (rch J0 N i-i))=decide (i<j/\j<=rch J0 N i):=by rw[decide_eq_decide];exact ES
 rw[e]
theorem yN(F:Fw J0 N L rs)(h0:0<j)(hj:j<J0.length)(hn:J0.length<=200)(x3:ζ T):∃y3,y21 [ς (.f (.e (L.map dI))),ς (.f (gdD J0 N)),ς (.f (dI j)),x3]=ς (.nx [ς (.f (.e (L.map dI))),ς (.f (gdD J0 N)),ς (.f (dI j)),y3]):=by
 obtain⟨P,hP⟩:∃P,P=((qb7 j).filter fun i=>decide (i<j/\j<=rch J0 N i)).map fun i=>L.getD i 0+1:=⟨_,rfl⟩
 have U:∀x,x∈P↔∃i,(i<j/\j<=rch J0 N i)/\L.getD i 0+1=x:=fun x=>by rw[hP,qc8];simp only[qi1,qd8,decide_eq_true_eq];exact⟨fun⟨i,h,e⟩=>⟨i,h.2,e⟩,fun⟨i,h,e⟩=>⟨i,⟨h.1,h⟩,e⟩⟩
 have hPl:P.length<=200:=by rw[hP,qa1];exact qc0 (qe6 _ _) (by simp;lia)
 obtain⟨i0,a1,a2,a3⟩:=F.ex j h0 hj;have W:L.getD j 0∈P:=(U _).mpr ⟨i0,⟨a1,a2⟩,a3.symm⟩
 have hge:∀x∈P,L.getD j 0<=x:=fun x Z=>by obtain⟨i,⟨b1,b2⟩,rfl⟩:=(U x).mp Z;exact F.le i j b1 hj b2
 have cmp:bK (ak 0) z29 y28 [ψ,ς (.f (.e (L.map dI))),ς (.f (gdD J0 N)),ς (.f (dI j))] ((qb7 j).map dI)=ς (P.map dI):=by
  rw[hP,qc6];refine bO (f:=dI) (h:=dI ∘ fun i=>L.getD i 0+1) fun i hi=>?_
  have hi:=qd8.mp hi;refine⟨[ς (.f (dI i)),ς (.f (.e (L.map dI))),ς (.f (gdD J0 N)),ς (.f (dI j))],rfl,Cj (neg:=false) rfl rfl rfl Θ,fun _=>?_⟩;exact aO (a:=L.getD i 0) (b:=1) (oD (x:=.e (L.map dI)) (y:=dI i) rfl rfl (cu (by rw[F.l];lia))) rfl rfl
 have vc:toD (aH [ψ,ς 0,ς 1,ς 2] (bQ eh (aa (vL 2) ae)) (ak 0) z29 y28) [ς (.f (.e (L.map dI))),ς (.f (gdD J0 N)),ς (.f (dI j)),x3]=ς (.e (P.map dI)):=by refine aM (t:=.e _) (b8 (ds:=(qb7 j).map dI) ?_ cmp (by rw[qa1];lia));exact gK _ _ j Θ rfl
 refine⟨ς (.f (.e (P.map dI))),?_⟩;unfold y21;refine lI vc ?_;show sIf _ _ _ [ς (.f (.e (L.map dI))),ς (.f (gdD J0 N)),ς (.f (dI j)),ς (.f (.e (P.map dI)))]=_;have Y:toD (d2 ah (vB 0) (vB 2)) [ς (.f (.e (L.map dI))),ς (.f (gdD J0 N)),ς (.f (dI j)),ς (.f (.e (P.map dI)))]=ς (dI (L.getD j 0)):=oD (x:=.e (L.map dI)) (y:=dI j) rfl rfl (cu (by rw[F.l];exact hj))
 obtain⟨m,qs,hq⟩:∃m qs,P.map (fun k:Nat=>(k:Int))=m::qs:=by
  cases P with
  |nil=>cases W
  |cons a P=>exact⟨_,_,rfl⟩
 have hm:∃x∈P,((x:Nat):Int)=kU m qs:=by have:=kW m qs;rw[<- hq]at this;obtain⟨x,Z,e⟩:=qc8.mp this;exact⟨x,Z,e⟩
 obtain⟨x,Z,ex⟩:=hm
 have mn:toD (ag sP (aa (vB 3) ae)) [ς (.f (.e (L.map dI))),ς (.f (gdD J0 N)),ς (.f (dI j)),ς (.f (.e (P.map dI)))]=ς (dI x):=c1D (x:=.e (P.map dI)) rfl (by show(match pp (P.map dI)with|some (m::ns)=>ς (T.f (.int (kU m ns)))|_=>ψ)=_;rw[show P.map dI=(P.map fun k:Nat=>(k:Int)).map .int by rw[qc6];rfl,kQ,hq];unfold dI;rw[ex])
 rw[gt (yM (a:=false) (b:=false) (bE Y (y:=.e (P.map dI)) rfl (gIn_ints.trans (by rw[decide_eq_true W];rfl))) (bE mn Y (by show ς (T.f (.bl (decide ((x:Int)<(L.getD j 0:Int)))))=_;rw[decide_eq_false (by have:=hge x Z;lia)])))]
 rfl
theorem yO(F:Fw J0 N L rs)(Z:J0.length<=200):∀(m j:Nat)(W U:ζ T),0<j->j+m=J0.length->∃y2 Y,b7 (ak 2) y21 ((qj8 j m).map dI) [ς (.f (.e (L.map dI))),ς (.f (gdD J0 N)),W,U]=ς (.nx [ς (.f (.e (L.map dI))),ς (.f (gdD J0 N)),y2,Y])
 |0,_,W,U,_,_=>⟨W,U,rfl⟩
 |m+1,j,W,U,h0,h=>by obtain⟨Y,e⟩:=yN F h0 Θ Z U;obtain⟨z2,z3,e2⟩:=yO F Z m (j+1) (ς (.f (dI j))) Y Θ Θ;exact⟨z2,z3,by rw[qq1,qa4,aD (δ1:=[ς (.f (.e (L.map dI))),ς (.f (gdD J0 N)),ς (.f (dI j)),U]) rfl e,e2]⟩
theorem vv(F:Fw J0 N L rs)(U:0<J0.length)(W:J0.length<=200):q19 [.e (L.map dI),gdD J0 N]=ς (.f (.bl θ)):=by
 obtain⟨Y,Z,e⟩:=yO F W (J0.length-1) 1 ψ ψ Θ Θ;unfold q19;refine dRt ?_;show ai _ _ [ς (.f (.e (L.map dI))),ς (.f (gdD J0 N)),ψ,ψ]=_;rw[bX,lj (n6 _ _ _ 1 J0.length Θ Θ rfl (cY (l:=L.map dI) rfl (by rw[qa1,F.l]))) e,ck]
 exact c9 ((gu (oD (x:=.e (L.map dI)) (y:=.int 0) rfl rfl (cu (l:=L) (k:=0) (by rw[F.l];exact U))) (y:=.int 0) rfl).trans (by rw[F.z];rfl))
theorem lp(hf:J3.length=J0.length)(Z:0<J0.length)(Y:∀k∈K,k<J0.length)(hl:K.length<=1000):z19 [dF J3,.e (K.map dI)]=ς (.f (cdD (J3.getD 0 []) (kN J3 K))):=by
 have W:∀k,k<J0.length->ah (dF J3) (dI k)=ς (.f (dS (J3.getD k []))):=fun k hk=>by unfold dF dI;rw[fS,cr dS J3 k Θ []];rfl
 have U:∀l:η Str,cU [dS l]=ς (.f (.t (l.map .str))):=fun l=>rfl
 unfold z19;refine dRt ?_;show aZ _ [ς (.f (dF J3)),ς (.f (.e (K.map dI)))]=_
 have c:toD (aH [ψ,ς 0] (fIt (vB 1)) (ak 0) bi q40) [ς (.f (dF J3)),ς (.f (.e (K.map dI)))]=ς (.e ((kN J3 K).map kpD)):=by
  refine aM (t:=.e _) (b8 (ds:=K.map dI) (g8 (x:=.e (K.map dI)) rfl rfl) (by
   unfold kN;rw[qc6]
   exact aY (f:=dI) (h:=kpD ∘ fun k=>(k,J3.getD k [])) fun k hk=>⟨[ς (.f (dI k)),ς (.f (dF J3))],rfl,rfl,by unfold q40;exact cG (af (d:=dI k) rfl (af (c1D (oD (x:=dF J3) (y:=dI k) rfl rfl (W k (Y k hk))) (U _)) aN)) Ξ⟩) (by unfold kN;rw[qa1,qa1];lia))
 exact c9 (gF (af (c1D (oD (x:=dF J3) (y:=dI 0) rfl rfl (W 0 Z)) (U _)) (af (c1D c rfl) aN)) Ξ)
theorem vw(h:l.Pairwise (· < ·))(W:l.length<64):eZ [.e (l.map dI)]=ς (.e (l.map dI)):=by
 have e:l.map dI=(l.map fun k:Nat=>(k:Int)).map .int:=by rw[qc6];rfl
 have pw:(l.map fun k:Nat=>(k:Int)).Pairwise (· < ·):=qv8.mpr (h.imp fun z=>Θ);have U:(l.map fun k:Nat=>(k:Int)).Nodup:=pw.imp fun z=>by lia
 have p:(cj (l.map fun k:Nat=>(k:Int))).Perm (l.map fun k:Nat=>(k:Int)):=(List.perm_ext_iff_of_nodup (nE _) U).mpr fun x=>qW
 rw[e,pE (by rw[qa1];lia) (by rw[p.length_eq,qa1];lia)];rw[gR ((dN _).trans p) (iE _) (pw.imp fun z=>Int.le_of_lt z)]
theorem ET(a b:η Nat):gEq ξ (.t [.e (a.map dI),.e (b.map dI)]) (.t [.e (a.map dI),.e (b.map dI)])=ς (.f (.bl θ)):=by refine xU (neg:=false) ((FZ ?_).trans (by rw[peqs_self]));simp only[cmpbs,dY,fG (cQ a) (cQ a),fG (cQ b) (cQ b),deeps,ij,fH (cQ a),fH (cQ b)];rfl
theorem yP{a:Nat}:gSl (.e ((l++[a]).map dI)) ψ (ς (-1))=ς (.e (l.map dI)):=by
 show ς (T.e (kt ((l++[a]).map dI) ψ (ς (-1))))=_;unfold kt;rw[HT.Fq]
 have:HT.sIx ((l++[a]).map dI).length ((l++[a]).map dI).length (ς (-1))=l.length:=by unfold HT.sIx;simp;lia
 rw[this,List.drop_zero,zm4,qd3,List.take_left' Ξ]
theorem Bj{z:Nat}(h:l.getLast?=ς z):ah (.e (l.map dI)) (.int (-1))=ς (.f (dI z)):=by
 obtain⟨n,U⟩:∃n,l.length=n+1:=⟨l.length-1,by
  cases l with
  |nil=>cases h
  |cons a l=>rfl⟩
 rw[fS];unfold atI ixN;rw[qa1,U,if_neg Θ,if_pos Θ];show(((l.map dI)[(-1+((n+1:Nat):Int)).toNat]?)).map T.f=_;rw[List.getLast?_eq_getElem?,U,Nat.add_sub_cancel]at h;rw[show(-1+((n+1:Nat):Int)).toNat=n by lia,qb3,h];rfl
theorem GB(I:Pg cs ss J0 B J3)(F:Fw J0 (plain cs ss) L rs)(h1:1<J0.length){Ts:η Nat}(hp:(Ts++[J0.length-1]).Pairwise (· < ·))(hs:vo J0 (plain cs ss) (Ts++[J0.length-1])):rs.length<=Ts.length+1:=by
 have U:∀k∈Ts++[J0.length-1],k<J0.length:=fun k hk=>by
  rcases qi3.mp hk with q|q
  .have:=(qs2.mp hp).2.2 k q _ (.head _);lia
  .rw[qb1.mp q];lia
 have:=cnt (K:=Ts++[J0.length-1]) (L:=fun j=>L.getD j 0) F.z F.le U (fun a Y b hb W Z=>A4 I.S U hs Y hb W Z) (Ts++[J0.length-1]) 0 0 (.head _) (by show L.getD 0 0<=0;rw[F.z];exact qn6 _) hp (fun k hk=>⟨hk,qk6 _⟩) (fun k hk=>.inr hk) (J0.length-1) Ξ;rw[(F.ch h1).2.2];simp at this ⊢;lia
theorem few_holds(I:Pg cs ss J0 B J3)(F:Fw J0 (plain cs ss) L rs)(h1:1<J0.length)(U:∀k∈rs,k<J0.length):vo J0 (plain cs ss) rs:=by
 obtain⟨c,W,_⟩:=F.ch h1;refine A3 I.S U I.l0 fun a Y=>?_
 rcases c.nx a Y with q|q
 .left;cases rs with
  |nil=>cases W
  |cons b rs=>rw[qm3,W]at q;cases q;lia
 .exact .inr q
theorem Ch.hi{z:Nat}:∀{a:Nat}{t:η Nat},Ch J0 N a t->t.getLast?=ς z->∀k∈t,k<=z
 |_,[],_,_,_,h=>by cases h
 |a,[b],_,e,k,hk=>by cases e;rw[qb1.mp hk];exact nL _
 |a,b::c::t,h,e,k,hk=>by
  rw[qm3]at e;have:=h.2.2.hi e;rcases qa5.mp hk with rfl|hk
  .exact qc0 (qi2 h.2.2.1) (this c (.head _))
  .exact this k hk
end
def dpS(ns:η Int)(D:η Nat)(N B:η Str)(St:η Nat)(cs ss:η Hd)(Z:η Int)(l:η Dt)(W Y U:ζ T):De:=[ς (.f (.e (ns.map .int))),ς (.f (.int 58)),ς (.f (.e (D.map dI))),ς (.f (.e (N.map .str))),ς (.f (.e (B.map .str))),ς (.f (.e (St.map dI))),ς (.f (.t (cs.map hdD))),ς (.f (.t (ss.map hdD))),ς (.f (.e (Z.map .int))),ς (.e l),W,Y,U]
theorem jf(ns:η Int):∃(cs ss:η Hd)(rs:η Rw)(q:Rw)(B:η Str),q17 [.e (ns.map .int),.int 58]=ς (.f (pgD cs ss (rs++[q])))/\0<cs.length/\cs.length<=8/\ss.length<=4/\Prg B rs q:=by
 obtain⟨n0,c0⟩:=gv ns 0;obtain⟨n1,c1⟩:=gv ns 1;obtain⟨n2,c2⟩:=gv ns 2;obtain⟨n3,c3⟩:=gv ns 3;obtain⟨D,eD,hD,hd⟩:=dD (n0/2) [8,5,12,2,2,2,2,2,2,2,2,2,2,2,2,8,8,8,8] (by intro z hz;simp at hz;lia) Ω;have hD:D.length=19:=hD;have g0:D.getD 0 0<8:=hd 0 _ _ (by simp[hD]) rfl;have g1:D.getD 1 0<5:=hd 1 _ _ (by simp[hD]) rfl;have g2:D.getD 2 0<12:=hd 2 _ _ (by simp[hD]) rfl;obtain⟨N,hN,eN⟩:=iL n1 12 Ω;obtain⟨B,hB,eB⟩:=iL n2 (1+D.getD 2 0) Θ;obtain⟨St,eS,hS,hs⟩:=dD n3 [1099511627776,1099511627776,1099511627776,1099511627776,1099511627776,1099511627776,1099511627776,1099511627776,1099511627776,2,60,B.length+1] (by intro z hz;simp at hz;lia) Ξ;have hS:St.length=12:=hS;have g11:St.getD 11 0<B.length+1:=hs 11 _ _ (by simp[hS]) rfl;obtain⟨ls,els,hls⟩:=yy ns 58;obtain⟨at',hat,eat⟩:=rB (B:=B) (v:=St.getD 8 0) (j:=St.getD 11 0) Θ g11;have d1:∀{i:Nat}{f:De->ζ Dt}{δ:De}{l:η Nat}{j:Nat},vB i δ=ς (.e (l.map dI))->f δ=ς (dI j)->j<l.length->toD (d2 ah (vB i) f) δ=ς (dI (l.getD j 0)):=fun h1 h2 h3=>oD h1 h2 (cu h3)
 obtain⟨cs,ec,lc⟩:∃cs:η Hd,bK (ak 0) bi z27 [ψ,ς (.f (.e (D.map dI))),ς (.f (.e (N.map .str))),ς (.f (.e (St.map dI)))] ((qb7 (1+D.getD 0 0)).map dI)=ς (cs.map hdD)/\cs.length=1+D.getD 0 0:=by
  obtain⟨l,e,h,_⟩:=je (f:=dI) (h:=hdD) (P:=fun _=>True) (bb:=ak 0) (δ:=[ψ,ς (.f (.e (D.map dI))),ς (.f (.e (N.map .str))),ς (.f (.e (St.map dI)))]) (fe:=z27) (l:=qb7 (1+D.getD 0 0)) fun k hk=>⟨_,⟨_,_,_⟩,rfl,have hk:=qd8.mp hk;gM (oD (x:=.e (N.map .str)) (y:=dI k) rfl rfl (g9 Θ)) (d1 (l:=St) (j:=k) rfl rfl Θ) (oD (d1 (l:=D) rfl (aO (a:=3) (b:=k) rfl rfl rfl) Θ) (y:=.int 1) rfl rfl),trivial⟩
  exact⟨l,e,h.trans Ξ⟩
 obtain⟨ss,es,lss⟩:∃ss:η Hd,bK (ak 0) bi q28 [ψ,ς (.f (.e (D.map dI))),ς (.f (.e (N.map .str)))] ((qb7 (D.getD 1 0)).map dI)=ς (ss.map hdD)/\ss.length=D.getD 1 0:=by
  obtain⟨l,e,h,_⟩:=je (f:=dI) (h:=hdD) (P:=fun _=>True) (bb:=ak 0) (δ:=[ψ,ς (.f (.e (D.map dI))),ς (.f (.e (N.map .str)))]) (fe:=q28) (l:=qb7 (D.getD 1 0)) fun k hk=>⟨_,⟨_,_,_⟩,rfl,have hk:=qd8.mp hk;gM (oD (x:=.e (N.map .str)) rfl (aO (a:=8) (b:=k) rfl rfl rfl) (g9 Θ)) (aO (a:=1) rfl (d1 (l:=D) rfl (aO (a:=15) (b:=k) rfl rfl rfl) Θ) rfl) (oD (d1 (l:=D) rfl (aO (a:=11) (b:=k) rfl rfl rfl) Θ) (y:=.int 1) rfl rfl),trivial⟩
  exact⟨l,e,h.trans Ξ⟩
 obtain⟨rs,y10,y11,lr,hr,er⟩:=e8 (i:=10) (f:=Rw.d) (Q:=Gd B) (g:=z37) (St:=fun l x y=>dpS ns D N B St cs ss ls l x y ψ) (fun _ _ _ _=>rfl) (ls.map .int) [] ψ ψ (by simp;lia) fun d hd l y hl=>by obtain⟨c,_,rfl⟩:=qc8.mp hd;obtain⟨r,er,hr⟩:=n9 c (ls.length+1) (cs.map (·.x)) (ss.map (·.x)) B Θ Θ (by simp;lia) (by simp;lia) (by simp;lia) Θ Θ;exact⟨r,_,_,hr,(ap (ar (t:=.f (.e [.e ((cs.map (·.x)).map .str),.e ((ss.map (·.x)).map .str)])) (bY (dv (af (tJ (cs:=cs) rfl rfl rfl Θ) (af (tJ (cs:=ss) rfl rfl rfl Θ) aN)) Ξ)))).trans (cy rfl (aM (t:=.f r.d) ((pU (af (d:=.int c) rfl (af (aO (a:=ls.length) (b:=1) (cY (l:=ls.map .int) rfl Ξ) rfl rfl) (af (d:=.e ((cs.map (·.x)).map .str)) rfl (af (d:=.e ((ss.map (·.x)).map .str)) rfl (af (d:=.e (B.map .str)) rfl aN)))))).trans er)) Θ)⟩
 rw[qa1]at lr;have v5:∀(δ:De)(j:Nat),vB 5 δ=ς (.e (St.map dI))->j<12->toD (d2 ah (vB 5) (kD (.int (j:Nat)))) δ=ς (dI (St.getD j 0)):=fun δ j h hj=>oD (y:=dI j) h rfl (cu Θ)
 obtain⟨zs,hz⟩:∃zs:η Nat,zs=[1099511627776,1099511627776,1099511627776,1099511627776,1099511627776,1099511627776,1099511627776,1099511627776,1099511627776]:=⟨_,rfl⟩
 obtain⟨t,e,q,rfl,hq⟩:∃t,q17 [.e (ns.map .int),.int 58]=ς t/\∃q,t=.f (pgD cs ss (rs++[q]))/\((∃a,q=.fin a/\∀x,a=.nm x->x∈B)∨∃k,q=.go k):=by
  refine Rn.of ?_;show Rn (ai _ _ [ς (.f (.e (ns.map .int))),ς (.f (.int 58)),ψ,ψ,ψ,ψ,ψ,ψ,ψ,ψ,ψ,ψ,ψ]) _;refine .set (c2L (x:=.int (n0/2)) (y:=.e (([8,5,12,2,2,2,2,2,2,2,2,2,2,2,2,8,8,8,8]:η Nat).map dI)) (oD (c0 _ rfl) (y:=.int 2) rfl (j0 Ω Ω)) rfl eD) (.set (c2L (c1 _ rfl) (y:=.int 12) rfl eN) (.set (c2L (c2 _ rfl) (aO (a:=1) (b:=D.getD 2 0) rfl (oD (x:=.e (D.map dI)) (y:=dI 2) rfl rfl (cu Θ)) rfl) eB) (.set (c2L (c3 _ rfl) (fI (l:=zs.map dI) (m:=([2,60,B.length+1]:η Nat).map dI) (aM (t:=.e (zs.map dI)) ((gu (x:=.e [dI 1099511627776]) (y:=.int 9) (dv (af (e40 _) rfl) Ξ) rfl).trans (by rw[hz];rfl))) (dv (af rfl (af rfl (af (aO (a:=B.length) (b:=1) (cY (l:=B.map .str) rfl Ξ) rfl rfl) rfl))) Ξ) (by rw[hz];simp)) (by rw[hz];exact eS)) ?_)));refine .set (c1D (aM (b8 (src:=[ψ,ς 2,ς 3,ς 5]) (gK _ _ (1+D.getD 0 0) Θ (aO (a:=1) (b:=D.getD 0 0) rfl (oD (x:=.e (D.map dI)) (y:=dI 0) rfl rfl (cu Θ)) rfl)) ec (by simp;lia))) rfl) (.set (c1D (aM (b8 (src:=[ψ,ς 2,ς 3]) (gK _ _ (D.getD 1 0) Θ (oD (x:=.e (D.map dI)) (y:=dI 1) rfl rfl (cu Θ))) es (by simp;lia))) rfl) (.set (aM (t:=.e (ls.map .int)) els) ?_));refine .seq (δ1:=dpS ns D N B St cs ss ls [] ψ ψ ψ) rfl (.for (ds:=ls.map .int) rfl er (.set (d:=(Rw.fin at').d) (cG (af rfl (af (eat rfl (v5 _ 8 rfl Ω) (v5 _ 11 rfl Ω)) rfl)) Ξ) (.if (P:=fun δ=>∃q:Rw,δ=dpS ns D N B St cs ss ls (rs.map Rw.d) y10 y11 (ς (.f q.d))/\((∃a,q=.fin a/\∀x,a=.nm x->x∈B)∨∃k,q=.go k)) (bE (v5 _ 9 rfl Ω) (y:=.int 1) rfl rfl) (fun _=>?_) (fun _=>⟨_,rfl,.inl ⟨_,rfl,hat⟩⟩) ?_)))
  .exact⟨_,ar (bY (pT rfl (jd (v5 _ 10 rfl Ω) (aO (a:=ls.length) (b:=1) (cY (l:=ls.map .int) rfl Ξ) rfl rfl) Θ))),.go _,rfl,.inr ⟨_,rfl⟩⟩
  .rintro δ ⟨q,rfl,hq⟩;exact⟨_,c9 (gF (af rfl (af rfl (af (c1D (AZ (l:=rs) (m:=[q]) rfl (dv (af rfl rfl) Ξ) (by simp;lia)) rfl) rfl))) Ξ),q,rfl,hq⟩
 exact⟨cs,ss,rs,q,B,e,Θ,Θ,Θ,Θ,Θ,fun r hr'=>ll (hr r hr'),hq⟩
theorem rF(ns:η Int):∃(cs ss:η Hd)(rs:η Rw)(q:Rw)(B:η Str),z24 [.e (ns.map .int),.int 24,.bl θ]=ς (.f (pgD cs ss (rs++[q])))/\0<cs.length/\cs.length<=8/\ss.length<=4/\Prg B rs q:=by
 obtain⟨n0,c0⟩:=gv ns 0;obtain⟨n1,c1⟩:=gv ns 1;obtain⟨n2,c2⟩:=gv ns 2;obtain⟨n3,c3⟩:=gv ns 3;obtain⟨N,hN,eN⟩:=iL n1 12 Ω;obtain⟨hdn,hh⟩:∃hdn,n0*69621%1000000007=hdn:=⟨_,rfl⟩;obtain⟨D,eD,Z,W⟩:=dD hdn [4,3,4,2,2,2,2,2,2,8,8,4] (by intro z hz;simp at hz;lia) Ω;have Z:D.length=12:=Z;have g0:D.getD 0 0<4:=W 0 _ _ (by simp[Z]) rfl;have g1:D.getD 1 0<3:=W 1 _ _ (by simp[Z]) rfl;have g2:D.getD 2 0<4:=W 2 _ _ (by simp[Z]) rfl;have ix:∀(δ:De)(j:Nat),vB 4 δ=ς (.e (D.map dI))->j<12->toD (d2 ah (vB 4) (kD (.int (j:Nat)))) δ=ς (dI (D.getD j 0)):=fun δ j h hj=>oD (y:=dI j) h rfl (cu Θ)
 obtain⟨t,e,cs,ss,rs,q,B,rfl,h⟩:∃t,z24 [.e (ns.map .int),.int 24,.bl θ]=ς t/\∃(cs ss:η Hd)(rs:η Rw)(q:Rw)(B:η Str),t=.f (pgD cs ss (rs++[q]))/\0<cs.length/\cs.length<=8/\ss.length<=4/\Prg B rs q:=by
  refine Rn.of ?_;show Rn (ai _ _ [ς (.f (.e (ns.map .int))),ς (.f (.int 24)),ς (.f (.bl θ)),ψ,ψ,ψ,ψ,ψ,ψ,ψ,ψ,ψ,ψ,ψ,ψ]) _;refine .set (d:=.int hdn) (oD (oD (c0 _ rfl) (y:=.int 69621) rfl (i9 Ω Ω)) (y:=.int 1000000007) rfl ((cF Ω).trans (by rw[hh]))) (.set (c2L (x:=.int hdn) (y:=.e (([4,3,4,2,2,2,2,2,2,8,8,4]:η Nat).map dI)) rfl rfl eD) (.set (c2L (c1 _ rfl) (y:=.int 12) rfl eN) (.set (dv (af (aO (a:=1) (b:=D.getD 0 0) rfl (ix _ 0 rfl Ω) rfl) (af (ix _ 1 rfl Ω) (af (aO (a:=2) (b:=D.getD 2 0) rfl (ix _ 2 rfl Ω) rfl) rfl))) Ξ) ?_)));refine .if (P:=fun δ=>∃a b c:Nat,1<=a/\a<=8/\b<=4/\1<=c/\c<=12/\δ=[ς (.f (.e (ns.map .int))),ς (.f (.int 24)),ς (.f (.bl θ)),ς (.f (.int hdn)),ς (.f (.e (D.map dI))),ς (.f (.e (N.map .str))),ς (.f (.e [dI a,dI b,dI c])),ψ,ψ,ψ,ψ,ψ,ψ,ψ,ψ]) (vm (a:=true) rfl fun _=>bE (ix _ 11 rfl Ω) (y:=.int 1) rfl rfl) (fun _=>⟨_,rfl,8,4,12,Ω,Ω,Ω,Ω,Ω,rfl⟩) (fun _=>⟨1+D.getD 0 0,D.getD 1 0,2+D.getD 2 0,Θ,Θ,Θ,Θ,Θ,rfl⟩) ?_
  rintro δ ⟨a,b,c,ha,ha2,hb,hc,hc2,rfl⟩;obtain⟨B,hB,eB⟩:=iL n2 c Θ;obtain⟨Y,els,hls⟩:=yy ns 24;obtain⟨x0,hx0⟩:∃x0,x0=ς (T.f (.e (ns.map .int))):=⟨_,rfl⟩;obtain⟨x6,hx6⟩:∃x6,x6=ς (T.f (.e [dI a,dI b,dI c])):=⟨_,rfl⟩
  have mm:∀{n:Nat}{d:Dt},d∈(qb7 n).map dI->∃k,k<n/\d=dI k:=fun h=>by obtain⟨k,hk,rfl⟩:=qc8.mp h;exact⟨k,qd8.mp hk,rfl⟩
  have d4:∀{f:De->ζ Dt}{δ:De}{j:Nat},vB 4 δ=ς (.e (D.map dI))->f δ=ς (dI j)->j<12->toD (d2 ah (vB 4) f) δ=ς (dI (D.getD j 0)):=fun h1 h2 h3=>oD h1 h2 (cu Θ)
  have n5:∀{f:De->ζ Dt}{δ:De}{j:Nat},vB 5 δ=ς (.e (N.map .str))->f δ=ς (dI j)->j<12->toD (d2 ah (vB 5) f) δ=ς (.str (N.getD j "")):=fun h1 h2 h3=>oD h1 h2 (g9 Θ)
  obtain⟨cs,y10,y,l1,_,e1⟩:=e8 (i:=10) (f:=hdD) (Q:=fun _=>True) (g:=z58) (St:=fun l x _=>[x0,ς (.f (.int 24)),ς (.f (.bl θ)),ς (.f (.int hdn)),ς (.f (.e (D.map dI))),ς (.f (.e (N.map .str))),x6,ς (.f (.e (B.map .str))),ς (.f (.int n3)),ς (.e l),x,ψ,ψ,ψ,ψ]) (fun _ _ _ _=>rfl) ((qb7 a).map dI) [] ψ ψ (by simp;lia) fun d W l y hl=>by obtain⟨k,hk,rfl⟩:=mm W;exact⟨⟨_,_,_⟩,_,y,trivial,cy rfl (gM (n5 (j:=k) rfl rfl Θ) (oD (oD (oD (x:=.int n3) (y:=dI k) rfl rfl rfl) (y:=.int 982451653) rfl (i9 Ω Ω)) (e40 _) (cF Ω)) (oD (d4 rfl (aO (a:=3) rfl (jd (i:=k) (n:=6) rfl rfl Ω) rfl) Θ) (y:=.int 1) rfl rfl)) Θ⟩
  obtain⟨ss,z10,y,l2,_,e2⟩:=e8 (i:=10) (f:=hdD) (Q:=fun _=>True) (g:=q59) (St:=fun l x _=>[x0,ς (.f (.int 24)),ς (.f (.bl θ)),ς (.f (.int hdn)),ς (.f (.e (D.map dI))),ς (.f (.e (N.map .str))),x6,ς (.f (.e (B.map .str))),ς (.f (.int n3)),ς (.e (cs.map hdD)),x,ς (.e l),ψ,ψ,ψ]) (fun _ _ _ _=>rfl) ((qb7 b).map dI) [] y10 ψ (by simp;lia) fun d W l y hl=>by obtain⟨k,hk,rfl⟩:=mm W;exact⟨⟨_,_,_⟩,_,y,trivial,cy rfl (gM (n5 rfl (aO (a:=8) (b:=k) rfl rfl rfl) Θ) (aO (a:=1) rfl (d4 rfl (aO (a:=9) rfl (jd (i:=k) (n:=2) rfl rfl Ω) rfl) Θ) rfl) (oD (d4 rfl (gG (a:=7) (b:=k) (c:=7-k) rfl rfl Θ) Θ) (y:=.int 1) rfl rfl)) Θ⟩
  rw[qa1,qr8]at l1 l2
  obtain⟨rs,y14,y,l3,hg,e3⟩:=e8 (i:=14) (f:=Rw.d) (Q:=Gd B) (g:=y56) (St:=fun l x _=>[x0,ς (.f (.int 24)),ς (.f (.bl θ)),ς (.f (.int hdn)),ς (.f (.e (D.map dI))),ς (.f (.e (N.map .str))),x6,ς (.f (.e (B.map .str))),ς (.f (.int n3)),ς (.e (cs.map hdD)),z10,ς (.e (ss.map hdD)),ς (.e l),ς (.f (.e (Y.map .int))),x]) (fun _ _ _ _=>rfl) (Y.map .int) [] ψ ψ (by simp;lia) fun d W l y hl=>by obtain⟨c,_,rfl⟩:=qc8.mp W;obtain⟨r,er,hr⟩:=A7 c (Y.length+1) (cs.map (·.x)) (ss.map (·.x)) B Θ Θ (by simp;lia) (by simp;lia) (by simp;lia) Θ Θ;exact⟨r,_,y,hr,cy rfl (aM (t:=.f r.d) ((pU (af (d:=.int c) rfl (af (aO (a:=Y.length) (b:=1) (cY (l:=Y.map .int) rfl Ξ) rfl rfl) (af (tJ (cs:=cs) rfl rfl rfl Θ) (af (tJ (cs:=ss) rfl rfl rfl Θ) (af rfl aN)))))).trans er)) Θ⟩
  rw[qa1]at l3;obtain⟨U,eat,hat⟩:=n8 (hdn%((B.length:Int)+1)).toNat n3 B;rw[show((hdn%((B.length:Int)+1)).toNat:Int)=hdn%((B.length:Int)+1)from Int.toNat_of_nonneg (Int.emod_nonneg hdn Θ)]at eat
  rw[hx0]at e1 e2 e3;rw[hx6]at e1 e2 e3;refine .set (c2L (c2 _ rfl) (oD (y:=.int 2) rfl rfl rfl) eB) (.set (c3 _ rfl) (.seq (ar (t:=.e []) rfl) (.for (gK _ _ a Θ (oD (y:=.int 0) rfl rfl rfl)) e1 (.seq (ar (t:=.e []) rfl) (.for (gK _ _ b Θ (oD (y:=.int 1) rfl rfl rfl)) e2 (.seq (ar (t:=.e []) rfl) (.set (aM (t:=.e (Y.map .int)) els) (.for (ds:=Y.map .int) rfl e3 (.seq (cy (l:=rs.map Rw.d) (d:=(Rw.fin U).d) rfl (cG (af rfl (af (c3D (oD (x:=.int hdn) rfl (aO (a:=B.length) (b:=1) (cY (l:=B.map .str) rfl Ξ) rfl rfl) (cF Θ)) rfl rfl eat) rfl)) Ξ) (by rw[qa1];lia)) ?_)))))))));exact⟨_,c9 (gF (af (c1D (x:=.e (cs.map hdD)) rfl rfl) (af (c1D (x:=.e (ss.map hdD)) rfl rfl) (af (d:=dR (rs++[.fin U])) (c1D (x:=.e (rs.map Rw.d++[(Rw.fin U).d])) rfl (by unfold dR;rw[qd3];rfl)) rfl))) Ξ),cs,ss,rs,.fin U,B,rfl,Θ,Θ,Θ,Θ,Θ,fun r hr=>ll (hg r hr),.inl ⟨U,rfl,hat⟩⟩
 exact⟨cs,ss,rs,q,B,e,h⟩
def lw(x0:ζ T)(P:Dt)(n:Nat)(J3:η (η Str))(rs L:η Nat)(x7 x8 Z Y W U:ζ T):De:=[x0,ς (.f P),ς (.f (dI (n-1))),ς (.f (dF J3)),ψ,ς (.e (rs.map dI)),ς (.f (.e (L.map dI))),x7,x8,ψ,ψ,Z,Y,W,U]
theorem rG{t:T}{d:Dt}(h:δ[i]?=ς (ς t))(U:t.z=ς d)(W:c (δ.set i (ς (.f d)))=ς ξ):rg i c δ=ς (.nx δ):=by unfold rg;rw[h];dsimp only;rw[U,qa6,W];rfl
section
variable{cs ss:η Hd}{J0:η Rw}{B:η Str}{J3:η (η Str)}{L rs:η Nat}{x0 x7 x8:ζ T}
theorem yQ(U:Int)(t k n:Nat)(hn:n<=200)(Ts:η Nat)(Z:Ts.length<=500):∃(Y:Int)(b:Bool),z76 (lw x0 (pgD cs ss J0) n J3 rs L x7 x8 (ς (.f (.int U))) (ς (.f (dI t))) (ς (.e (Ts.map dI))) (ς (.f (dI k))))=ς (.nx (lw x0 (pgD cs ss J0) n J3 rs L x7 x8 (ς (.f (.int Y))) (ς (.f (dI t))) (ς (.e ((Ts++if b then [k]else []).map dI))) (ς (.f (dI k))))):=by
 refine⟨U*69621%1000000007,decide (U*69621%1000000007%9<((rs.length:Nat):Int)*3/(((n-1:Nat):Int)+1)+((t:Nat):Int)),?_⟩;unfold z76;refine lI (d:=.int (U*69621%1000000007)) (oD (x:=.int (U*69621)) (y:=.int 1000000007) (oD (x:=.int U) (y:=.int 69621) rfl rfl (i9 Ω Ω)) rfl (cF Ω)) ?_;show sIf _ _ _ (lw x0 (pgD cs ss J0) n J3 rs L x7 x8 (ς (.f (.int (U*69621%1000000007)))) (ς (.f (dI t))) (ς (.e (Ts.map dI))) (ς (.f (dI k))))=_;generalize U*69621%1000000007=W
 refine A1 (b:=decide (W%9<((rs.length:Nat):Int)*3/(((n-1:Nat):Int)+1)+((t:Nat):Int))) (by refine bE (x:=.int (W%9)) (y:=.int (((rs.length:Nat):Int)*3/(((n-1:Nat):Int)+1)+((t:Nat):Int))) (oD (x:=.int W) (y:=.int 9) rfl rfl (cF Ω)) ?_ rfl;refine oD (x:=.int (((rs.length:Nat):Int)*3/(((n-1:Nat):Int)+1))) (y:=dI t) (oD (x:=.int (((rs.length:Nat):Int)*3)) (y:=.int (((n-1:Nat):Int)+1)) (oD (x:=dI rs.length) (y:=.int 3) (cY (l:=rs.map dI) rfl (by rw[qa1])) rfl (i9 Ω Ω)) (oD (x:=dI (n-1)) (y:=.int 1) rfl rfl rfl) (if_pos ⟨Θ,Θ⟩)) rfl rfl) (fun z=>?_) fun z=>?_
 .rw[cy (l:=Ts.map dI) (d:=dI k) rfl rfl (by rw[qa1];lia),if_pos z];unfold lw;rw[qd3];rfl
 .rw[z,if_neg Ω,qh0];rfl
theorem tQ(t n:Nat)(hn:n<=200):∀(m j:Nat)(U:Int)(Ts:η Nat)(Y:ζ T),Ts.Pairwise (· < ·)->(∀k∈Ts,k<j)->Ts.length+m<=500->∃(W:Int)(T':η Nat)(Z:ζ T),T'.Pairwise (· < ·)/\(∀k∈T',k<j+m)/\T'.length<=Ts.length+m/\b7 (ak 14) z76 ((qj8 j m).map dI) (lw x0 (pgD cs ss J0) n J3 rs L x7 x8 (ς (.f (.int U))) (ς (.f (dI t))) (ς (.e (Ts.map dI))) Y)=ς (.nx (lw x0 (pgD cs ss J0) n J3 rs L x7 x8 (ς (.f (.int W))) (ς (.f (dI t))) (ς (.e (T'.map dI))) Z))
 |0,j,U,Ts,Y,h1,h2,_=>⟨U,Ts,Y,h1,h2,nL _,rfl⟩
 |m+1,j,U,Ts,Y,h1,h2,h3=>by
  obtain⟨W,b,e⟩:=yQ (cs:=cs) (ss:=ss) (J0:=J0) (J3:=J3) (L:=L) (rs:=rs) (x0:=x0) (x7:=x7) (x8:=x8) U t j n hn Ts Θ
  have hb:∀k∈(if b then [j]else []),k=j:=fun k hk=>by
   cases b with
   |true=>exact qb1.mp hk
   |false=>cases hk
  have hbl:(if b then [j]else []).length<=1:=by cases b<;>simp
  obtain⟨num2,T',Z,g1,g2,g3,e2⟩:=tQ t n hn m (j+1) W (Ts++if b then [j]else []) (ς (.f (dI j))) (qs2.mpr ⟨h1,by cases b<;>simp,fun a ha c hc=>by rw[hb c hc];exact h2 a ha⟩) (fun k hk=>by
   rcases qi3.mp hk with q|q
   .exact qh4 (h2 k q)
   .rw[hb k q];exact qn2 j) (by rw[qc4];lia)
  refine⟨num2,T',Z,g1,fun k hk=>by have:=g2 k hk;lia,by rw[qc4]at g3;lia,?_⟩;rw[qq1,qa4,aD (δ1:=lw x0 (pgD cs ss J0) n J3 rs L x7 x8 (ς (.f (.int U))) (ς (.f (dI t))) (ς (.e (Ts.map dI))) (ς (.f (dI j)))) rfl e,e2]
theorem Bk(I:Pg cs ss J0 B J3)(F:Fw J0 (plain cs ss) L rs)(h1:1<J0.length)(Z:Int)(t:Nat)(x13 x14:ζ T):∃(U:Int)(y13 W:ζ T),y74 (lw x0 (pgD cs ss J0) J0.length J3 rs L x7 x8 (ς (.f (.int Z))) (ς (.f (dI t))) x13 x14)=ς (.nx (lw x0 (pgD cs ss J0) J0.length J3 rs L x7 x8 (ς (.f (.int U))) (ς (.f (dI t))) y13 W)):=by
 have l1:=I.l1;obtain⟨U,Ts,W,g1,g2,g3,e⟩:=tQ (cs:=cs) (ss:=ss) (J0:=J0) (J3:=J3) (L:=L) (rs:=rs) (x0:=x0) (x7:=x7) (x8:=x8) t J0.length Θ (J0.length-1) 0 Z [] x14 .nil nofun (by simp;lia);refine⟨U,ς (.e (Ts.map dI)),W,?_⟩;have g2:∀k∈Ts,k<J0.length-1:=fun k hk=>by have:=g2 k hk;lia
 have g3:Ts.length<=J0.length:=by simp at g3;lia
 obtain⟨K,Y⟩:∃K,K=Ts++[J0.length-1]:=⟨_,rfl⟩
 have hK:∀k∈K,k<J0.length:=fun k hk=>by
  rw[Y]at hk;rcases qi3.mp hk with q|q
  .have:=g2 k q;lia
  .rw[qb1.mp q];lia
 have hKl:K.length<=100:=by rw[Y];simp;lia
 obtain⟨b,eb,hb⟩:=p7 I hK (by rw[Y];simp) hKl;have ec:=lp I.F.len I.l0 hK Θ;unfold y74;rw[ap (ar (t:=.e []) rfl)];show ai _ _ (lw x0 (pgD cs ss J0) J0.length J3 rs L x7 x8 (ς (.f (.int Z))) (ς (.f (dI t))) (ς (.e (([]:η Nat).map dI))) x14)=_;rw[<- List.range_eq_range']at e;rw[bX,lj (gK _ _ (J0.length-1) Θ rfl) e,ck]
 have aL:toD (d2 aI (vB 13) (toD (aU (aa (vL 2) ae)))) (lw x0 (pgD cs ss J0) J0.length J3 rs L x7 x8 (ς (.f (.int U))) (ς (.f (dI t))) (ς (.e (Ts.map dI))) W)=ς (.e (K.map dI)):=by rw[Y,qd3];exact fI (l:=Ts.map dI) (m:=[dI (J0.length-1)]) rfl (dv (af rfl aN) Ξ) (by simp;lia)
 have hh:dZ (toD (ag q42 (aa (vL 1) (aa (toD (ag z19 (aa (vL 3) (aa (toD (d2 aI (vB 13) (toD (aU (aa (vL 2) ae))))) ae)))) ae)))) (lw x0 (pgD cs ss J0) J0.length J3 rs L x7 x8 (ς (.f (.int U))) (ς (.f (dI t))) (ς (.e (Ts.map dI))) W)=ς b:=by unfold dZ;rw[c2D (x:=pgD cs ss J0) rfl (c2D (x:=dF J3) rfl aL ec) eb];rfl
 have hc:tB2 (fV fun i j=>decide (i<j)) (toD (d2 aI (toD (ag be (aa (vB 13) ae))) (kD (.int 1)))) (toD (ag be (aa (vB 5) ae))) (lw x0 (pgD cs ss J0) J0.length J3 rs L x7 x8 (ς (.f (.int U))) (ς (.f (dI t))) (ς (.e (Ts.map dI))) W)=ς (decide (((Ts.length+1:Nat):Int)<((rs.length:Nat):Int))):=bE (aO (a:=Ts.length) (b:=1) (cY (l:=Ts.map dI) rfl (by rw[qa1])) rfl rfl) (cY (l:=rs.map dI) rfl (by rw[qa1])) rfl
 rw[gt ((vm hh fun _=>hc).trans (by
  cases b with
  |false=>rfl
  |true=>have:=GB I F h1 (Ts:=Ts) (qs2.mpr ⟨g1,Ξ,fun a ha c hc=>by rw[qb1.mp hc];exact g2 a ha⟩) (by rw[<- Y];exact hb.mp rfl);rw[decide_eq_false Θ];rfl))]
 rfl
theorem p8(I:Pg cs ss J0 B J3)(F:Fw J0 (plain cs ss) L rs)(h1:1<J0.length):∀(l:η Nat)(W:Int)(x12 U Y:ζ T),∃(y11 y12 y13 Z:ζ T),b7 (ak 12) y74 (l.map dI) (lw x0 (pgD cs ss J0) J0.length J3 rs L x7 x8 (ς (.f (.int W))) x12 U Y)=ς (.nx (lw x0 (pgD cs ss J0) J0.length J3 rs L x7 x8 y11 y12 y13 Z))
 |[],W,x12,U,Y=>⟨_,_,_,_,rfl⟩
 |t::l,W,x12,U,Y=>by obtain⟨num',y13,Z,e⟩:=Bk (x0:=x0) (x7:=x7) (x8:=x8) I F h1 W t U Y;obtain⟨z11,z12,z13,z14,e2⟩:=p8 I F h1 l num' (ς (.f (dI t))) y13 Z;exact⟨z11,z12,z13,z14,by rw[qa4,aD (δ1:=lw x0 (pgD cs ss J0) J0.length J3 rs L x7 x8 (ς (.f (.int W))) (ς (.f (dI t))) U Y) rfl e,e2]⟩
theorem yR(h8:∀W U:ζ T,vB 8 ((δ.set 9 W).set 10 U)=ς (gdD J0 (plain cs ss)))(Y:10<δ.length):∀(t:η Nat)(a:Nat)(W U:ζ T),a<J0.length->(∀k∈t,k<J0.length)->Ch J0 (plain cs ss) a t->pI (lz 2 (cI (ak 9) (cI (ak 10) ly))) y86 (iY ((a::t).map dI) (t.map dI)) ((δ.set 9 W).set 10 U)=θ
 |[],a,W,U,_,_,_=>rfl
 |b::t,a,W,U,ha,hk,c=>by
  have e1:lz 2 (cI (ak 9) (cI (ak 10) ly)) (.t [dI a,dI b]) ((δ.set 9 W).set 10 U)=ς ((δ.set 9 (ς (.f (dI a)))).set 10 (ς (.f (dI b)))):=by show ς ((((δ.set 9 W).set 10 U).set 9 (ς (.f (dI a)))).set 10 (ς (.f (dI b))))=_;rw[List.set_comm _ _ (show(10:Nat)≠9 by decide),List.set_set,List.set_set]
  have Z:vB 10 ((δ.set 9 (ς (.f (dI a)))).set 10 (ς (.f (dI b))))=ς (dI b):=by unfold vB;rw[qd0 (by simpa using Y)];rfl
  have v9:vB 9 ((δ.set 9 (ς (.f (dI a)))).set 10 (ς (.f (dI b))))=ς (dI a):=by unfold vB;rw[gN Ω,qd0 Θ];rfl
  have c1:y86 ((δ.set 9 (ς (.f (dI a)))).set 10 (ς (.f (dI b))))=ς ξ:=(Cj (neg:=true) Z v9 (h8 _ _) ha).trans (by rw[decide_eq_true ⟨c.1,c.2.1⟩];rfl);show pI _ _ (.t [dI a,dI b]::iY ((b::t).map dI) (t.map dI)) _=θ;unfold pI;rw[e1];dsimp only;rw[c1,yR h8 Y t b _ _ (hk b (.head _)) (fun k h=>hk k (.tail _ h)) c.2.2];rfl
end
theorem EU{g1 U:De->ζ Out}{t:T}{P:De->Prop}(h:∀ δ,P δ->U δ=ς (.rt t)){δ1:De}(h1:g1 δ=ς (.nx δ1))(h2:g2 δ1=ς (.nx δ2))(hp:P δ2):ai g1 (ai g2 U) δ=ς (.rt t):=by rw[ap h1,ap h2];exact h _ hp
def Sta(ns:η Int)(δ:De):Prop:=∃cs ss J0 B J3,Pg cs ss J0 B J3/\δ=[ς (.f (.e (ns.map .int))),ς (.f (pgD cs ss J0)),ψ,ψ,ψ,ψ,ψ,ψ,ψ,ψ,ψ,ψ,ψ,ψ,ψ]
theorem Ck{B:η Str}(hc:0<cs.length)(hc2:cs.length<=8)(hs:ss.length<=4)(p:Prg B rs q):z16 [pgD cs ss (rs++[q])]=ς (.f (pgD cs ss (rs.map (stf cs)++[.fin (jA q)])))/\∃J3,Pg cs ss (rs.map (stf cs)++[.fin (jA q)]) B J3:=by
 have hn:=p.n;refine⟨pZ hc Θ (p.e.imp (fun⟨a,h,_⟩=>⟨a,h⟩) id),?_⟩;obtain⟨J0,Y⟩:∃J0,J0=rs.map (stf cs)++[Rw.fin (jA q)]:=⟨_,rfl⟩;have hl:J0.length=rs.length+1:=by rw[Y];simp
 rw[<- Y]
 have W:∀(i:Nat)(r:Rw),J0[i]?=ς r->(i<rs.length/\∃U∈rs,r=stf cs U)∨(i=rs.length/\r=.fin (jA q)):=fun i r h=>by
  rw[Y]at h;by_cases z:i<rs.length
  .rw[qc9 (by simpa using z)]at h;obtain⟨U,h1,h2⟩:=qc8.mp (qc7 h);exact .inl ⟨z,U,h1,h2.symm⟩
  .have hi:=(gX h).1;simp at hi;obtain rfl:i=rs.length:=by lia
   rw[qd5 Ξ]at h;simp at h;exact .inr ⟨rfl,h.symm⟩
 have S:jJ J0:=fun i r h=>by
  rcases W i r h with ⟨hi,U,_,rfl⟩|⟨hi,rfl⟩
  .rw[A9,if_pos Θ]
  .rw[if_neg Θ];rfl
 have hB:∀(i:Nat)(r:Rw)(b:Str),J0[i]?=ς r->b∈r.reads->b∈B:=fun i r b h Z=>by
  rcases W i r h with ⟨hi,U,hm,rfl⟩|⟨hi,rfl⟩
  .exact p.rd U hm b (EN cs U b Z)
  .rcases p.e with ⟨a,rfl,ha⟩|⟨k,rfl⟩
   .exact ll (fun x hx=>ha x (qb1.mp hx).symm) b Z
   .cases (show b∈([]:η Str)from Z)
 obtain⟨J3,en,Fn,_⟩:=rn (c:=.t (cs.map hdD)) (s:=.t (ss.map hdD)) hB (lm S) p.b Θ;exact⟨J3,S,hB,Θ,Θ,p.b,Θ,Fn,en⟩
theorem main(ns:η Int)(h:ns.length<=63):sQ [.e (ns.map .int)]=ς (.f (.bl θ)):=by
 obtain⟨cs,ss,rs,q,B,e1,hc0,hc,hs,p⟩:=rF ns;obtain⟨cs',ss',rs',q',B',e1',hc0',hc',hs',p'⟩:=jf ns;obtain⟨e2,J3,I⟩:=Ck hc0 hc hs p;obtain⟨e2',found',I'⟩:=Ck hc0' hc' hs' p';have s1:Sta ns _:=⟨_,_,_,_,_,I,rfl⟩;have s2:Sta ns _:=⟨_,_,_,_,_,I',rfl⟩;have c0:q5 [.e (ns.map .int),.int 0]=ς (.f (.int (ns.getD 0 0))):=n4 ns 0;unfold sQ;refine dRt ?_;show ai _ _ [ς (.f (.e (ns.map .int))),ψ,ψ,ψ,ψ,ψ,ψ,ψ,ψ,ψ,ψ,ψ,ψ,ψ,ψ]=_;have t0:∀ δ:De,vL 0 δ=ς (.e (ns.map .int))->tB2 (gEq ξ) (toD (d2 ce (toD (ag q5 (aa (vL 0) (aa (kD (.int 0)) ae)))) (kD (.int 2)))) (kD (.int 1)) δ=ς (decide (ns.getD 0 0%2=1)):=fun δ h=>bE (x:=.int (ns.getD 0 0%2)) (y:=.int 1) (oD (x:=.int (ns.getD 0 0)) (y:=.int 2) (c2D h (y:=.int 0) rfl c0) rfl (cF Ω)) rfl rfl
 have w:∃ δ1,al 1 (toT (toD (ag z16 (aa (toD (ag z24 (aa (vL 0) (aa (kD (.int 24)) (aa (kD (.bl θ)) ae))))) ae)))) [ς (.f (.e (ns.map .int))),ψ,ψ,ψ,ψ,ψ,ψ,ψ,ψ,ψ,ψ,ψ,ψ,ψ,ψ]=ς (.nx δ1)/\∃ δ2,sIf (tB2 (gEq ξ) (toD (d2 ce (toD (ag q5 (aa (vL 0) (aa (kD (.int 0)) ae)))) (kD (.int 2)))) (kD (.int 1))) (al 1 (toT (toD (ag z16 (aa (toD (ag q17 (aa (vL 0) (aa (kD (.int 58)) ae)))) ae))))) bc δ1=ς (.nx δ2)/\Sta ns δ2:=by
  refine⟨_,ar (bY (c1D (c3D (x:=.e (ns.map .int)) (y:=.int 24) (z:=.bl θ) rfl rfl rfl e1) e2)),?_⟩;by_cases z:ns.getD 0 0%2=1
  .exact⟨_,(jI ((t0 _ rfl).trans (by rw[decide_eq_true z]))).trans (ar (bY (c1D (c2D (x:=.e (ns.map .int)) (y:=.int 58) rfl rfl e1') e2'))),s2⟩
  .exact⟨_,(gt ((t0 _ rfl).trans (by rw[decide_eq_false z]))).trans rfl,s1⟩
 obtain⟨δ1,w1,δ2,w2,w3⟩:=w;refine EU (P:=Sta ns) ?_ w1 w2 w3;clear e1 e1' e2 e2' I I' s1 s2 w1 w2 w3 t0 c0 p p' hs hs';rintro δ ⟨cs,ss,J0,B,J3,I,rfl⟩;have l0:=I.l0;have l1:=I.l1;have hh:=I.hh;obtain⟨x0,hx0⟩:∃x0,x0=ς (T.f (.e (ns.map .int))):=⟨_,rfl⟩;obtain⟨L,rs,ef,F⟩:=vq I.S hh l0 Θ
 have hpl:(plain cs ss).length<=100:=by unfold plain;rw[qa1];exact qc0 (qe6 _ _) (by rw[qc4];lia)
 have rlt:∀k∈rs,k<J0.length:=fun k hk=>by
  by_cases h1:J0.length=1
  .rw[F.one h1]at hk;rw[qb1.mp hk];exact l0
  .obtain⟨c,c2,_⟩:=F.ch Θ;have:=c.hi c2 k hk;lia
 have rl:rs.length<=60:=by
  by_cases h1:J0.length=1
  .rw[F.one h1];simp
  .have nd:rs.Nodup:=(F.ch Θ).1.pw.imp fun z=>by lia
   have:=cw nd (m:=qb7 J0.length) fun x hx=>qd8.mpr (rlt x hx)
   simp at this;lia
 rw[<- hx0];refine lI (d:=dI (J0.length-1)) (gG (c1D (oD (x:=pgD cs ss J0) (y:=.int 2) rfl rfl rfl) A6) (b:=1) rfl Θ) ?_;refine lI (d:=dF J3) (c1L (x:=pgD cs ss J0) rfl I.en) ?_;have fw:∀ δ:De,vL 1 δ=ς (pgD cs ss J0)->ag z35 (aa (vL 1) ae) δ=ς (.two (rs.map dI) (L.map dI)):=fun δ h=>(dU h).trans ef
 rw[ap (ar (fw _ rfl))];show ai _ _ [x0,ς (.f (pgD cs ss J0)),ς (.f (dI (J0.length-1))),ς (.f (dF J3)),ς (.two (rs.map dI) (L.map dI)),ψ,ψ,ψ,ψ,ψ,ψ,ψ,ψ,ψ,ψ]=_;rw[ap (rG (i:=4) (t:=.two (rs.map dI) (L.map dI)) rfl rfl (by kernel_rfl)),ap (rG (i:=4) (t:=.two (rs.map dI) (L.map dI)) rfl rfl (by kernel_rfl))];rw[ap (δ':=lw x0 (pgD cs ss J0) J0.length J3 rs L ψ ψ ψ ψ ψ ψ) rfl]
 refine(pR (by
  refine bE (x:=.e []) (y:=.e []) (aM (t:=.e []) (b8 (ds:=(rs++L).map dI) (g8 (fI (l:=rs.map dI) (m:=L.map dI) rfl rfl (by rw[qa1,qa1,F.l];lia)) (by rw[<- qd3];rfl)) ?_ Ξ)) rfl (by kernel_rfl);have:=bO (f:=dI) (h:=dI) (p:=fun _=>ξ) (bb:=ak 0) (ft:=y97) (fe:=vL 0) (δ:=[ψ]) (l:=rs++L) fun k _=>⟨[ς (.f (dI k))],rfl,rfl,fun z=>by cases z⟩
  refine this.trans ?_;rw[List.filter_eq_nil_iff.mpr fun _ _=>Ξ];rfl)).trans ?_
 have c8:tB2 (gEq ξ) (vB 2) (kD (.int 0)) (lw x0 (pgD cs ss J0) J0.length J3 rs L ψ ψ ψ ψ ψ ψ)=ς (decide (((J0.length-1:Nat):Int)=0)):=rfl;by_cases h1:J0.length=1
 .rw[decide_eq_true Θ]at c8;refine Ca c8 ?_;have e1:=F.one h1;subst e1
  obtain⟨x,hx⟩:∃x,L=[x]:=by
   have:=F.l;rw[h1]at this
   match L,this with
   |[x],_=>exact⟨x,rfl⟩
  subst hx;have:=F.z;have:x=0:=this;subst this;kernel_rfl
 rw[decide_eq_false Θ]at c8;rw[pR c8];have h1:1<J0.length:=by lia
 obtain⟨c,c2,c3⟩:=F.ch h1
 refine lI (d:=dS (plain cs ss)) (by
  refine aM (t:=.e ((plain cs ss).map .str)) (b8 (ds:=(cs++ss).map hdD) (g8 (oD (x:=.t (cs.map hdD)) (y:=.t (ss.map hdD)) (oD (x:=pgD cs ss J0) (y:=.int 0) rfl rfl rfl) (oD (x:=pgD cs ss J0) (y:=.int 1) rfl rfl rfl) (tw hdD cs ss Θ)) rfl) ?_ (by rw[qa1];lia));have:=bO (f:=hdD) (h:=fun h:Hd=>Dt.str h.x) (p:=fun h=>!h.b) (bb:=ak 0) (ft:=z97) (fe:=q99) (δ:=[ψ]) (l:=cs++ss) fun h _=>⟨[ς (.f (hdD h))],rfl,rfl,fun _=>rfl⟩
  refine this.trans ?_;unfold plain;rw[qc6];rfl) ?_
 refine lI (d:=gdD J0 (plain cs ss)) (by
  refine aM (t:=.e _) (b8 (ds:=(qb7 J0.length).map dI) ?_ (aY (f:=dI) (h:=fun i=>.e ((qj8 (i+1) (rch J0 (plain cs ss) i-i)).map dI)) fun i hi=>⟨[ς (.f (dI i)),ς (.f (pgD cs ss J0)),ς (.f (dS (plain cs ss)))],rfl,rfl,by unfold z99;exact c3L (x:=pgD cs ss J0) (y:=dS (plain cs ss)) (z:=dI i) rfl rfl rfl (rD Θ (qd8.mp hi))⟩) (by simp;lia))
  exact gK _ _ J0.length Θ (aO (a:=J0.length-1) (b:=1) rfl rfl Θ)) ?_
 show ai _ _ (lw x0 (pgD cs ss J0) J0.length J3 rs L (ς (.f (dS (plain cs ss)))) (ς (.f (gdD J0 (plain cs ss)))) ψ ψ ψ ψ)=_;obtain⟨x7,hx7⟩:∃x7,x7=ς (T.f (dS (plain cs ss))):=⟨_,rfl⟩;obtain⟨x8,hx8⟩:∃x8,x8=ς (T.f (gdD J0 (plain cs ss))):=⟨_,rfl⟩;have lenS:∀{f:De->ζ Dt}{δ:De}{l:η Nat},f δ=ς (.e (l.map dI))->toD (ag be (aa f ae)) δ=ς (dI l.length):=fun h=>cY h (by rw[qa1])
 have ne:∀{f g:De->ζ Dt}{δ:De}{a:Nat},f δ=ς (dI a)->g δ=ς (dI a)->tB2 (gEq θ) f g δ=ς ξ:=fun {f g δ a} h1 h2=>bE h1 h2 (by show ς (T.f (.bl (!decide ((a:Int)=(a:Int)))))=_;rw[decide_eq_true rfl];rfl)
 rw[pR (yM (a:=false) (b:=false) (ne (a:=J0.length) ((lenS (l:=L) rfl).trans (by rw[F.l])) (aO (a:=J0.length-1) (b:=1) rfl rfl Θ)) (by unfold lx dZ;rw[c2D (x:=.e (L.map dI)) (y:=gdD J0 (plain cs ss)) rfl rfl (vv F l0 Θ)];rfl))]
 have pw:=c.pw
 rw[pR (yM (a:=false) (b:=false) (bE (x:=.e (rs.map dI)) (y:=.e []) rfl rfl (by
  cases rs with
  |nil=>cases c2
  |cons a rs=>exact(k5 (cQ (a::rs)) rfl).trans rfl)) (yM (a:=false) (b:=false) (ne (a:=J0.length-1) (oD (x:=.e (rs.map dI)) (y:=.int (-1)) rfl rfl (Bj c2)) rfl) (yM (a:=false) (b:=false) (ne (a:=rs.length) (lenS (l:=rs) rfl) (oD (x:=.e (L.map dI)) (y:=dI (J0.length-1)) rfl rfl ((cu (by rw[F.l];lia)).trans (by rw[c3]))))
  (bE (x:=.e (rs.map dI)) (y:=.e (rs.map dI)) rfl (c1L (x:=.e (rs.map dI)) rfl (vw pw Θ)) (yb (neg:=true) (cQ rs))))))]
 rw[<- hx7,<- hx8];refine(ap (δ':=lw x0 (pgD cs ss J0) J0.length J3 rs L x7 x8 ψ ψ ψ ψ) ?_).trans ?_
 .obtain⟨δ5,h5⟩:∃ δ5,δ5=(lw x0 (pgD cs ss J0) J0.length J3 rs L x7 x8 ψ ψ ψ ψ).set 5 (ς (.f (.e (rs.map dI)))):=⟨_,rfl⟩
  have fi:bQ wN (aa (toD (d2 aI (toD (aU (aa (kD (.int 0)) ae))) (vB 5))) (aa (vL 5) ae)) δ5=ς (iY ((0::rs).map dI) (rs.map dI)):=by unfold bQ;rw[af (d:=.e ((0::rs).map dI)) (fI (l:=[dI 0]) (m:=rs.map dI) (dv (af rfl aN) Ξ) (by rw[h5];rfl) (by simp;lia)) (af (d:=.e (rs.map dI)) (by rw[h5];rfl) aN),qa6];rfl
  have z:=yR (cs:=cs) (ss:=ss) (J0:=J0) (δ:=δ5) (fun x9 x10=>by rw[h5,hx8];rfl) (by rw[h5,List.length_set];exact(show 10<15 by decide)) rs 0 ψ ψ l0 rlt c;have ez:(δ5.set 9 ψ).set 10 ψ=δ5:=by rw[h5];rfl
  rw[ez]at z;show(ς (Dt.e (rs.map dI))).bind (fun d=>(bQ wN _ ((lw x0 (pgD cs ss J0) J0.length J3 rs L x7 x8 ψ ψ ψ ψ).set 5 (ς (.f d)))).bind fun ds=>if pI _ _ ds ((lw x0 (pgD cs ss J0) J0.length J3 rs L x7 x8 ψ ψ ψ ψ).set 5 (ς (.f d)))&&okZ 5 [9,10] (lw x0 (pgD cs ss J0) J0.length J3 rs L x7 x8 ψ ψ ψ ψ)then ς (Out.nx (clr [9,10] (lw x0 (pgD cs ss J0) J0.length J3 rs L x7 x8 ψ ψ ψ ψ)))else ψ)=_;rw[qa6,<- h5,fi,qa6,z,show okZ 5 [9,10] (lw x0 (pgD cs ss J0) J0.length J3 rs L x7 x8 ψ ψ ψ ψ)=θ by rw[hx0,hx7,hx8];kernel_rfl];rfl
 have hK:=rlt
 obtain⟨b,eb,hb⟩:=p7 I hK (by exact List.mem_of_getLast? c2) Θ
 have hbt:b=θ:=hb.mpr (few_holds I F h1 rlt);subst hbt;have ec:=lp I.F.len l0 hK Θ;rw[ap (rG (i:=5) (t:=.e (rs.map dI)) rfl rfl (bE (x:=.bl θ) (y:=.bl θ) (c2D (x:=pgD cs ss J0) rfl (c2D (x:=dF J3) (y:=.e (rs.map dI)) rfl rfl ec) eb) rfl rfl))];have c3':q5 [.e (ns.map .int),.int 3]=ς (.f (.int (ns.getD 3 0))):=n4 ns 3;generalize ns.getD 3 0=n3 at c3';refine lI (d:=.int (n3*48271%1000000007)) (oD (x:=.int (n3*48271)) (y:=.int 1000000007) (oD (x:=.int n3) (y:=.int 48271) (c2D (x:=.e (ns.map .int)) (y:=.int 3) (by rw[hx0];rfl) rfl c3') rfl (i9 Ω Ω)) rfl (cF Ω)) ?_;obtain⟨y11,y12,y13,y14,et⟩:=p8 (x0:=x0) (x7:=x7) (x8:=x8) I F h1 (qb7 4) (n3*48271%1000000007) ψ ψ ψ;show ai _ _ (lw x0 (pgD cs ss J0) J0.length J3 rs L x7 x8 (ς (.f (.int (n3*48271%1000000007)))) ψ ψ ψ)=_;rw[bX,jb,show bQ eh (aa (kD (.int 4)) ae) (lw x0 (pgD cs ss J0) J0.length J3 rs L x7 x8 (ς (.f (.int (n3*48271%1000000007)))) ψ ψ ψ)=ς ((qb7 4).map dI)from rfl,qa6,et,ck];rw[ap (cy (l:=rs.map dI) (d:=dI 0) rfl rfl (by rw[qa1];lia))]
 have ef2:∀ δ:De,vL 1 δ=ς (pgD cs ss J0)->toZ (ag z35 (aa (vL 1) ae)) δ=ς (.t [.e (rs.map dI),.e (L.map dI)]):=fun δ h=>by unfold toZ;rw[fw δ h];rfl
 refine c9 ((gu (ef2 _ rfl) (cG (af (d:=.e (rs.map dI)) (aM (t:=.e (rs.map dI)) ?_) (af (d:=.e (L.map dI)) rfl aN)) Ξ)).trans (ET rs L));have:=yP (l:=rs) (a:=0);rw[qd3]at this;exact this
def oo(K:xA9):Sp:=fun vs H Q _=>∃(a:J9)(ns:η Int),vs=[.ref a]/\SqL K H a (ns.map V.int)/\ns.length<=63/\sB H/\∀H',Q (.bl θ) H'
variable{K:xA9}
theorem EV{vs:η V}{H:Hp}{Q:VK}{E:XK}(h:oo K vs H Q E):spD K 1 sQ vs H Q E:=by
 obtain⟨a,ns,rfl,W,U,Y,q⟩:=h;refine⟨H,[.e (ns.map .int)],.f (.bl θ),Same.refl H,rfl,?_,main ns U,fun v H' F' S st o _=>?_⟩
 .simp only[Reps,Rep];exact⟨_,[],rfl,⟨a,_,rfl,W,Reps.map (fun _=>fq) ns⟩,rfl⟩
 .have o:Rep K F' (.bl θ) v:=o;simp only[Rep]at o;subst o;exact q H'
theorem all_mk{l:xT9}{w:Ja}{h:Heap}{mg:Str->ζ Value}{fa:J9}(X:K.In h)(G:h.Ns qc1 mg)(hfa:mg "law"=ς (.ref fa))
 (a0:AtF K "_law_cell_at" z47)
 (a1:AtF K "_law_cutting" y36)
 (a2:AtF K "_law_digits" q38)
 (a3:AtF K "_law_digit_row" z25)
 (a4:AtF K "_law_names" y35)
 (a5:AtF K "_law_digit_program" z15)
 (a6:AtF K "_law_good_to" q31)
 (a7:AtF K "_law_labels_right" q16)
 (a8:AtF K "_law_atom" q63)
 (a9:AtF K "_law_row" y54)
 (a10:AtF K "_law_program" q24)
 (a11:AtF K "_law_straight" z34)
 (a12:AtF K "mark_behind" q39)
 (a13:AtF K "plain_names" q52)
 (a14:AtF K "reach" y49)
 (a15:AtF K "fewest" q47)
 (a16:AtF K "kept_rows" z63)
 (a17:AtF K "end_fault" y37)
 (a18:AtF K "gives" z88)
 (a19:AtF K "atoms" y64)
 (a20:AtF K "reads" q56)
 (a21:AtF K "needed_ahead" y24)
 (a22:AtF K "ways_of" z74)
 (a23:AtF K "ways" i8)
 (a24:AtF K "needed" y47)
 (a25:AtF K "lost_fault" y44)
 (a26:AtF K "endless_rows" q20)
 (a27:AtF K "ring_fault" z30)
 (a28:AtF K "inner_ways" y34)
 (a29:AtF K "traced" y48)
 (a30:AtF K "route" y55)
 {cc31 Pt31:J9} (a31:AtC K "spoilt" z20 cc31 Pt31) (hd31:xK9 K cc31 Pt31=θ) (to31:p9 K "spoilt"=ς (Pt31,ou "spoilt" (aF z20)))
 (a32:AtF K "spoil_fault" z39)
 (a33:AtF K "fault" q75)
 (a34:AtF K "holds" q86)
 (a35:AtF K "law" dj)
 (z_any:xB9 K qc1 "any"=ς ψ)
 (z_bool:xB9 K qc1 "bool"=ς ψ)
 (z_dict:xB9 K qc1 "dict"=ς ψ)
 (z_enumerate:xB9 K qc1 "enumerate"=ς ψ)
 (z_isinstance:xB9 K qc1 "isinstance"=ς ψ)
 (z_len:xB9 K qc1 "len"=ς ψ)
 (z_list:xB9 K qc1 "list"=ς ψ)
 (z_min:xB9 K qc1 "min"=ς ψ)
 (z_range:xB9 K qc1 "range"=ς ψ)
 (z_reversed:xB9 K qc1 "reversed"=ς ψ)
 (z_set:xB9 K qc1 "set"=ς ψ)
 (z_sorted:xB9 K qc1 "sorted"=ς ψ)
 (z_str:xB9 K qc1 "str"=ς ψ)
 (z_tuple:xB9 K qc1 "tuple"=ς ψ)
 (z_zip:xB9 K qc1 "zip"=ς ψ)
 {d_A:J9} {o_A:Obj} {m_A:Nat} {t0_A:Tok} {t1_A:Tok} {t2_A:Tok} {t3_A:Tok} {t4_A:Tok} {t5_A:Tok} {t6_A:Tok} {t7_A:Tok} {U:J9} {Y:J9} {a2_A:J9} {Z:J9} {a4_A:J9} {a5_A:J9} {a6_A:J9} {a7_A:J9} (b_A:xB9 K qc1 "ATOM_PLACES"=ς (ς (.ref d_A))) (l_A:K.lookup d_A=ς o_A) (e_A:o_A.ExactDict) (f_A:o_A.data=.dict #[⟨qm5 w.params "copy",.str "copy" t0_A,.ref U⟩,⟨qm5 w.params "op",.str "op" t1_A,.ref Y⟩,⟨qm5 w.params "store",.str "store" t2_A,.ref a2_A⟩,⟨qm5 w.params "take",.str "take" t3_A,.ref Z⟩,⟨qm5 w.params "lay",.str "lay" t4_A,.ref a4_A⟩,⟨qm5 w.params "say",.str "say" t5_A,.ref a5_A⟩,⟨qm5 w.params "if",.str "if" t6_A,.ref a6_A⟩,⟨qm5 w.params "end",.str "end" t7_A,.ref a7_A⟩] m_A) (z_A:(d_A==qk8)=ξ)
 {o0_A:Obj} {i0_A:Array Value} {m0_A:Nat} (l0_A:K.lookup U=ς o0_A) (e0_A:o0_A.cls=.type "tuple") (f0_A:o0_A.data=.seq i0_A m0_A) (r0_A:Vals [V.int 2,V.int 3] i0_A.toList)
 {o1_A:Obj} {i1_A:Array Value} {m1_A:Nat} (l1_A:K.lookup Y=ς o1_A) (e1_A:o1_A.cls=.type "tuple") (f1_A:o1_A.data=.seq i1_A m1_A) (r1_A:Vals [V.int 3,V.int 5] i1_A.toList)
 {o2_A:Obj} {i2_A:Array Value} {m2_A:Nat} (l2_A:K.lookup a2_A=ς o2_A) (e2_A:o2_A.cls=.type "tuple") (f2_A:o2_A.data=.seq i2_A m2_A) (r2_A:Vals [V.int 2,V.int 3] i2_A.toList)
 {o3_A:Obj} {i3_A:Array Value} {m3_A:Nat} (l3_A:K.lookup Z=ς o3_A) (e3_A:o3_A.cls=.type "tuple") (f3_A:o3_A.data=.seq i3_A m3_A) (r3_A:Vals [V.int 3,V.int 4] i3_A.toList)
 {o4_A:Obj} {i4_A:Array Value} {m4_A:Nat} (l4_A:K.lookup a4_A=ς o4_A) (e4_A:o4_A.cls=.type "tuple") (f4_A:o4_A.data=.seq i4_A m4_A) (r4_A:Vals [V.int 2,V.int 4] i4_A.toList)
 {o5_A:Obj} {i5_A:Array Value} {m5_A:Nat} (l5_A:K.lookup a5_A=ς o5_A) (e5_A:o5_A.cls=.type "tuple") (f5_A:o5_A.data=.seq i5_A m5_A) (r5_A:Vals [V.int 1,V.int 2] i5_A.toList)
 {o6_A:Obj} {i6_A:Array Value} {m6_A:Nat} (l6_A:K.lookup a6_A=ς o6_A) (e6_A:o6_A.cls=.type "tuple") (f6_A:o6_A.data=.seq i6_A m6_A) (r6_A:Vals [V.int 1,V.int 2] i6_A.toList)
 {o7_A:Obj} {i7_A:Array Value} {m7_A:Nat} (l7_A:K.lookup a7_A=ς o7_A) (e7_A:o7_A.cls=.type "tuple") (f7_A:o7_A.data=.seq i7_A m7_A) (r7_A:Vals [V.int 1,V.int 2] i7_A.toList)
 {u_D:Value} (b_D:xB9 K qc1 "FRESH"=ς (ς u_D)) (r_D:RelV (.str "fresh") u_D)
 {u_E:Value} (b_E:xB9 K qc1 "SAFE"=ς (ς u_E)) (r_E:RelV (.str "safe") u_E)
 {u_F:Value} (b_F:xB9 K qc1 "SEEN"=ς (ς u_F)) (r_F:RelV (.str "seen") u_F)
 {d_B:J9} {o_B:Obj} {i_B:Array Value} {m_B:Nat} (b_B:xB9 K qc1 "SETTING"=ς (ς (.ref d_B))) (l_B:K.lookup d_B=ς o_B) (e_B:o_B.cls=.type "tuple") (f_B:o_B.data=.seq i_B m_B) (r_B:Vals [V.str "copy",V.str "op",V.str "load",V.str "take",V.str "hear"] i_B.toList)
 {u_C:Value} (b_C:xB9 K qc1 "SPOILT"=ς (ς u_C)) (r_C:RelV (.str "spoilt") u_C)
 (zIS:qR K=θ)
 (kd_str:fA K "str")
 (kd_tuple:fA K "tuple")
 (kd_list:fA K "list")
 (kd_bool:fA K "bool")
 : ∃fd:qr5,(∀(s:qa3)(v:Value),zc8 s fd ⟨[v],[]⟩ [("_law_script",v)])/\∀base:Heap,K.In base->base.Ns qc1 mg->qD mg base->FnOk l.prog w K mg base CX0 9 fa fd ["_law_script"] (oo K):=by
 obtain⟨f35,oc35,od35,an35,sl35,kV35,dc35,pm35,cd35,ct35,a35,l35,c35,k35⟩:=a35;have e:=hfa.symm.trans (xI9 X G a35);cases e;have T:Txt l.prog w K mg:={n_any:=xE9 X G z_any,n_bool:=xE9 X G z_bool,n_dict:=xE9 X G z_dict,n_enumerate:=xE9 X G z_enumerate,n_isinstance:=xE9 X G z_isinstance,n_len:=xE9 X G z_len,n_list:=xE9 X G z_list,n_min:=xE9 X G z_min,n_range:=xE9 X G z_range,n_reversed:=xE9 X G z_reversed,n_set:=xE9 X G z_set,n_sorted:=xE9 X G z_sorted,n_str:=xE9 X G z_str,n_tuple:=xE9 X G z_tuple,n_zip:=xE9 X G z_zip,g_A:=Ac [("copy",t0_A,.ref U,.ref U),("op",t1_A,.ref Y,.ref Y),("store",t2_A,.ref a2_A,.ref a2_A),("take",t3_A,.ref Z,.ref Z),("lay",t4_A,.ref a4_A,.ref a4_A),("say",t5_A,.ref a5_A,.ref a5_A),("if",t6_A,.ref a6_A,.ref a6_A),("end",t7_A,.ref a7_A,.ref a7_A)] (xI9 X G b_A) l_A e_A f_A z_A (show(["copy","op","store","take","lay","say","if","end"]:η Str).Nodup by decide +kernel) (by simp[RelV]) (fun F=>Ad (.cons (cK l0_A e0_A f0_A r0_A Ω (by simp[Reps,Rep])) (.cons (cK l1_A e1_A f1_A r1_A Ω (by simp[Reps,Rep])) (.cons (cK l2_A e2_A f2_A r2_A Ω (by simp[Reps,Rep])) (.cons (cK l3_A e3_A f3_A r3_A Ω (by simp[Reps,Rep])) (.cons (cK l4_A e4_A f4_A r4_A Ω (by simp[Reps,Rep])) (.cons (cK l5_A e5_A f5_A r5_A Ω (by simp[Reps,Rep])) (.cons (cK l6_A e6_A f6_A r6_A Ω (by simp[Reps,Rep])) (.cons (cK l7_A e7_A f7_A r7_A Ω (by simp[Reps,Rep])) .nil))))))))),g_D:=iy ⟨_,xI9 X G b_D,r_D⟩,g_E:=iy ⟨_,xI9 X G b_E,r_E⟩,g_F:=iy ⟨_,xI9 X G b_F,r_F⟩,g_B:=wP (xI9 X G b_B) l_B e_B f_B r_B Ω (fun F=>by simp[Reps,Rep]),g_C:=iy ⟨_,xI9 X G b_C,r_C⟩,is:=zIS,k_str:=kd_str,k_tuple:=kd_tuple,k_list:=kd_list,k_bool:=kd_bool};refine⟨xC9 "law" "law" (bJ dj) (aF dj) (ab dj) .none kV35 dc35 pm35 an35 cd35 ct35,fun s v=>.of_eq rfl,fun base kb _ bm=>?_⟩;have q25:=z81 (base:=base) T (a0.df X G fun _ _ _ _ _ _=>el2 fun _ _=>rfl);have z66:=y84 (base:=base) T (a1.df X G fun _ _ _ _ _ _=>el2 fun _ _=>rfl);have q14:=q88 (base:=base) T (a2.df X G fun _ _ _ _ _ _=>el2 fun _ _=>rfl);have z56:=y76 T (a3.df X G fun _ _ _ _ _ _=>el5 fun _ _ _ _ _=>rfl) q14;have q44:=q91 T (a4.df X G fun _ _ _ _ _ _=>el2 fun _ _=>rfl) q14;have q43:=y66 T (a5.df X G fun _ _ _ _ _ _=>el2 fun _ _=>rfl) q25 z56 q14 q44;have q66:=y82 (base:=base) T (a6.df X G fun _ _ _ _ _ _=>el3 fun _ _ _=>rfl);have z46:=z69 (base:=base) T (a7.df X G fun _ _ _ _ _ _=>el2 fun _ _=>rfl);have y50:=z94 (base:=base) T (a8.df X G fun _ _ _ _ _ _=>el3 fun _ _ _=>rfl);have y69:=q97 T (a9.df X G fun _ _ _ _ _ _=>el5 fun _ _ _ _ _=>rfl) y50 q14;have y65:=q84 T (a10.df X G fun _ _ _ _ _ _=>el3 fun _ _ _=>rfl) y50 q25 q14 q44 y69;have y61:=q78 (base:=base) T (a11.df X G fun _ _ _ _ _ _=>el1 fun _=>rfl);have z38:=z85 (base:=base) T (a12.df X G fun _ _ _ _ _ _=>el3 fun _ _ _=>rfl);have z26:=z86 (base:=base) T (a13.df X G fun _ _ _ _ _ _=>el1 fun _=>rfl);have y98:=y105 T (a14.df X G fun _ _ _ _ _ _=>el2 fun _ _=>rfl) z38 z26;have z96:=y103 T (a15.df X G fun _ _ _ _ _ _=>el1 fun _=>rfl) y98
 have q23:=z93 (base:=base) T (a16.df X G fun _ _ _ _ _ _=>el1 fun _=>rfl);have y77:=q94 T (a17.df X G fun _ _ _ _ _ _=>el2 fun _ _=>rfl) q23;have q100:=z106 (base:=base) T (a18.df X G fun _ _ _ _ _ _=>el1 fun _=>rfl);have y99:=q106 (base:=base) T (a19.df X G fun _ _ _ _ _ _=>el1 fun _=>rfl);have q98:=q108 T (a20.df X G fun _ _ _ _ _ _=>el1 fun _=>rfl) y99;have q48:=y83 T (a21.df X G fun _ _ _ _ _ _=>el2 fun _ _=>rfl) q100 q98;have y89:=y100 (base:=base) T (a22.df X G fun _ _ _ _ _ _=>el2 fun _ _=>rfl);have h_ways:=q109 T (a23.df X G fun _ _ _ _ _ _=>el1 fun _=>rfl) y89;have y68:=q105 T (a24.df X G fun _ _ _ _ _ _=>el1 fun _=>rfl) q48 h_ways;have y73:=y91 T (a25.df X G fun _ _ _ _ _ _=>el2 fun _ _=>rfl) y68;have z50:=q81 (base:=base) T (a26.df X G fun _ _ _ _ _ _=>el2 fun _ _=>rfl);have q73:=y92 T (a27.df X G fun _ _ _ _ _ _=>el2 fun _ _=>rfl) z50 q23 h_ways;have z72:=q92 T (a28.df X G fun _ _ _ _ _ _=>el2 fun _ _=>rfl) q23 h_ways;have y78:=y102 (base:=base) T (a29.df X G fun _ _ _ _ _ _=>el2 fun _ _=>rfl);have q89:=z107 T (a30.df X G fun _ _ _ _ _ _=>el3 fun _ _ _=>rfl) y78;have y95:=q104 T (a31.df X G fun _ _ _ _ _ _=>el3 fun _ _ _=>rfl) (TabB.mk' kb hd31 bm) (Ap rfl to31) z72 q23 z38 z26 q89;have y70:=y87 T (a32.df X G fun _ _ _ _ _ _=>el2 fun _ _=>rfl) z26 y95;have z100:=q107 T (a33.df X G fun _ _ _ _ _ _=>el2 fun _ _=>rfl) y77 y73 q73 y70;have z98:=y106 T (a34.df X G fun _ _ _ _ _ _=>el2 fun _ _=>rfl) z100;exact(Eb T (mY (st:=dj) l35 c35 k35) q25 z66 q43 q66 z46 y65 y61 z96 z98 y68).imp fun vs H Q E z=>EV z
abbrev z59:Jb:=top 28
theorem GL{h:Heap}{ts:η J9}(X:K.In h)(Y:∀P∈ts,h.get? P=ς (xJ9 #[])){cc0 Z:J9}(a0:AtC K "spoilt" z20 cc0 Z)(hd0:xK9 K cc0 Z=θ)(n0:K.lookup Z=ψ)(m0:Z∈ts){cc1 U:J9}(a1:AtC K "way_to_reading" z59 cc1 U)(hd1:xK9 K cc1 U=θ)(n1:K.lookup U=ψ)(m1:U∈ts)(e:cS K=[(U,ou "way_to_reading" (aF z59)),(Z,ou "spoilt" (aF z20))])(ne:U≠Z):TabsIn K h:=TabsIn.two X e ne n1 n0 hd1 hd0 (Y _ m1) (Y _ m0)
theorem walk {l:xT9} {q:qc5} {loose:η Str} {XP:(Str->ζ Value)->Heap->Prop} {YP:Ja->Heap->Prop} {d:DefRec} {K:Params->xA9} (hn:l.most=ς 63) (U:d.params.defaults=[])
  (Y:∀(w:Ja)(h:Heap),YP w h->(K w.params).In h) (hT:∀(w:Ja)(h:Heap),YP w h->TabsIn (K w.params) h)
  (F:∀(w:Ja)(mg:Str->ζ Value)(fa:J9)(h:Heap),(K w.params).In h->h.Ns qc1 mg->mg d.name=ς (.ref fa)→
   ∃fd:qr5,(∀(s:qa3)(u:Value),zc8 s fd ⟨[u],[]⟩ [("_law_script",u)])/\∀base:Heap,(K w.params).In base->base.Ns qc1 mg->qD mg base->FnOk l.prog w (K w.params) mg base CX0 9 fa fd ["_law_script"] (oo (K w.params))) :
  PySem.W.WalkO q loose XP YP l.row.toRowW d [] (fun f vs=>PySem.call f vs):=
 L2.FT (n:=63) (k:=9) (x:="_law_script") (CX:=fun _=>CX0) (sp:=fun w=>oo (K w.params)) hn Ω U ⟨rfl,Ω,Ω⟩ Y hT F (fun _ _ a ns Z hO hS=>⟨a,ns,rfl,hS,Z,hO,fun _=>rfl⟩) fun _ _ _ _ _ z=>z
end P55
open PySem PySem.W PyProof.Rows
local macro_rules | `(tactic| walk_at "f") => `(tactic| (refine' L2.AtF.mk ?za ?zl ?zc ?zk; (case za => k_is); (case zl => k_is); (case zc => k_is); (case zk => k_is)))
local macro_rules | `(tactic| walk_at "c") => `(tactic| (refine' L2.AtC.mk ?za ?zl ?zc ?zk ?zx ?zp; (case za => k_is); (case zl => k_is); (case zc => k_is); (case zk => k_is); (case zx => k_is); (case zp => exact rfl)))
set_option maxRecDepth 100000 in
set_option maxHeartbeats 0 in
theorem PySem.Challenge.cw_dimhouse_k55_whole_fewest_holds : PySem.Challenge.rw_dimhouse_k55_whole_fewest.Holds := by
 w_on;o_law
 refine holds_open (q:=P55.seen) (loose:=[PySem.Str.ofString "ATOM_PLACES"]) (Xt:=fun s=>xlAt P55.seen [] s&&recOk (zl5 (zi5 PySem.Challenge.rw_dimhouse_k55_whole_fewest.row)) s) (XP:=XL P55.seen []) (Yf:=Hook.obs P55.hook) (Ya:=Hook.val P55.hook) (YP:=Hook.says P55.hook) (N:=2854) ?hl (Hook.of P55.hook) (Hook.keeps P55.hook) (fun s e=>xl_of s (qx4.mp e).1) XL.keeps (by rfl) (by rfl) (by rfl) (fun s e=>recFacts_of (qx4.mp e).2) (by rfl) (by first | assumption | decide +kernel) (by decide +kernel) ⟨rfl,rfl,rfl,rfl,rfl,by decide +kernel⟩ ?hw ?hc
 case hl=>exact LeftO.of_split "special-get-raises" fun w=>P55.map_two (P55.run_false w) (P55.run_true w)
 case hw=>w_witness2
 delta P55.hook
 k_fill
 refine P55.walk (l:=PySem.Challenge.rw_dimhouse_k55_whole_fewest) rfl rfl (fun w h Y=>PySem.W.km_in_of Y) ?T ?F
 case T =>
  intro w h Y;refine' P55.GL (PySem.W.km_in_of Y) (PySem.W.km_tabs_of Y) ?a0 ?hd0 ?n0 ?m0 ?a1 ?hd1 ?n1 ?m1 ?e ?ne
  (case a0=>walk_at "c")
  (case hd0=>kernel_rfl)
  (case n0=>kernel_rfl)
  (case m0=>simp)
  (case a1=>walk_at "c")
  (case hd1=>kernel_rfl)
  (case n1=>kernel_rfl)
  (case m1=>simp)
  (case e=>kernel_rfl)
  (case ne=>decide)
 case F =>
  intro w mg fa h KX G Z;refine' P55.all_mk KX G Z ?a0 ?a1 ?a2 ?a3 ?a4 ?a5 ?a6 ?a7 ?a8 ?a9 ?a10 ?a11 ?a12 ?a13 ?a14 ?a15 ?a16 ?a17 ?a18 ?a19 ?a20 ?a21 ?a22 ?a23 ?a24 ?a25 ?a26 ?a27 ?a28 ?a29 ?a30 ?a31 ?hd31 ?to31 ?a32 ?a33 ?a34 ?a35 ?z_any ?z_bool ?z_dict ?z_enumerate ?z_isinstance ?z_len ?z_list ?z_min ?z_range ?z_reversed ?z_set ?z_sorted ?z_str ?z_tuple ?z_zip ?b_A ?l_A ?e_A ?f_A ?z_A ?l0_A ?e0_A ?f0_A ?r0_A ?l1_A ?e1_A ?f1_A ?r1_A ?l2_A ?e2_A ?f2_A ?r2_A ?l3_A ?e3_A ?f3_A ?r3_A ?l4_A ?e4_A ?f4_A ?r4_A ?l5_A ?e5_A ?f5_A ?r5_A ?l6_A ?e6_A ?f6_A ?r6_A ?l7_A ?e7_A ?f7_A ?r7_A ?b_D ?r_D ?b_E ?r_E ?b_F ?r_F ?b_B ?l_B ?e_B ?f_B ?r_B ?b_C ?r_C ?zIS ?kd_str ?kd_tuple ?kd_list ?kd_bool
  (case a0=>walk_at "f")
  (case a1=>walk_at "f")
  (case a2=>walk_at "f")
  (case a3=>walk_at "f")
  (case a4=>walk_at "f")
  (case a5=>walk_at "f")
  (case a6=>walk_at "f")
  (case a7=>walk_at "f")
  (case a8=>walk_at "f")
  (case a9=>walk_at "f")
  (case a10=>walk_at "f")
  (case a11=>walk_at "f")
  (case a12=>walk_at "f")
  (case a13=>walk_at "f")
  (case a14=>walk_at "f")
  (case a15=>walk_at "f")
  (case a16=>walk_at "f")
  (case a17=>walk_at "f")
  (case a18=>walk_at "f")
  (case a19=>walk_at "f")
  (case a20=>walk_at "f")
  (case a21=>walk_at "f")
  (case a22=>walk_at "f")
  (case a23=>walk_at "f")
  (case a24=>walk_at "f")
  (case a25=>walk_at "f")
  (case a26=>walk_at "f")
  (case a27=>walk_at "f")
  (case a28=>walk_at "f")
  (case a29=>walk_at "f")
  (case a30=>walk_at "f")
  (case a31=>walk_at "c")
  (case hd31=>kernel_rfl)
  (case to31=>kernel_rfl)
  (case a32=>walk_at "f")
  (case a33=>walk_at "f")
  (case a34=>walk_at "f")
  (case a35=>walk_at "f")
  (case z_any | z_bool | z_dict | z_enumerate | z_isinstance | z_len | z_list | z_min | z_range | z_reversed | z_set | z_sorted | z_str | z_tuple | z_zip | b_A | l_A=>k_is)
  (case e_A=>exact ⟨rfl,rfl,rfl⟩)
  (case f_A=>rfl)
  (case z_A=>rfl)
  (case l0_A=>k_is)
  (case e0_A=>rfl)
  (case f0_A=>rfl)
  (case r0_A=>exact (.cons ⟨_,rfl⟩ (.cons ⟨_,rfl⟩ .nil)))
  (case l1_A=>k_is)
  (case e1_A=>rfl)
  (case f1_A=>rfl)
  (case r1_A=>exact (.cons ⟨_,rfl⟩ (.cons ⟨_,rfl⟩ .nil)))
  (case l2_A=>k_is)
  (case e2_A=>rfl)
  (case f2_A=>rfl)
  (case r2_A=>exact (.cons ⟨_,rfl⟩ (.cons ⟨_,rfl⟩ .nil)))
  (case l3_A=>k_is)
  (case e3_A=>rfl)
  (case f3_A=>rfl)
  (case r3_A=>exact (.cons ⟨_,rfl⟩ (.cons ⟨_,rfl⟩ .nil)))
  (case l4_A=>k_is)
  (case e4_A=>rfl)
  (case f4_A=>rfl)
  (case r4_A=>exact (.cons ⟨_,rfl⟩ (.cons ⟨_,rfl⟩ .nil)))
  (case l5_A=>k_is)
  (case e5_A=>rfl)
  (case f5_A=>rfl)
  (case r5_A=>exact (.cons ⟨_,rfl⟩ (.cons ⟨_,rfl⟩ .nil)))
  (case l6_A=>k_is)
  (case e6_A=>rfl)
  (case f6_A=>rfl)
  (case r6_A=>exact (.cons ⟨_,rfl⟩ (.cons ⟨_,rfl⟩ .nil)))
  (case l7_A=>k_is)
  (case e7_A=>rfl)
  (case f7_A=>rfl)
  (case r7_A=>exact (.cons ⟨_,rfl⟩ (.cons ⟨_,rfl⟩ .nil)))
  (case b_D=>k_is)
  (case r_D=>exact ⟨_,rfl⟩)
  (case b_E=>k_is)
  (case r_E=>exact ⟨_,rfl⟩)
  (case b_F=>k_is)
  (case r_F=>exact ⟨_,rfl⟩)
  (case b_B | l_B=>k_is)
  (case e_B=>rfl)
  (case f_B=>rfl)
  (case r_B=>exact (.cons ⟨_,rfl⟩ (.cons ⟨_,rfl⟩ (.cons ⟨_,rfl⟩ (.cons ⟨_,rfl⟩ (.cons ⟨_,rfl⟩ .nil))))))
  (case b_C=>k_is)
  (case r_C=>exact ⟨_,rfl⟩)
  (case zIS=>kernel_rfl)
  (case kd_str=>exact fun d U=>by cases d<;>first | (cases U;done) | k_is | rfl)
  (case kd_tuple=>exact fun d U=>by cases d<;>first | (cases U;done) | k_is | rfl)
  (case kd_list=>exact fun d U=>by cases d<;>first | (cases U;done) | k_is | rfl)
  (case kd_bool=>exact fun d U=>by cases d<;>first | (cases U;done) | k_is | rfl)
