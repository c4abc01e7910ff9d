import PyProof.Rows.All
import KE.KNest
import Wide.All
import OpenK.AllK
import Wide.FinOn
import Lean
import PyProof.EqAt
import PyProof.EqKinds
import PyProof.TupleCall
import PySem.Challenge.RW_dimhouse_k44_all_places_hold
open Array renaming length_toList→qe3,getElem?_eq_getElem→qg4,getElem?_eq_none→qo7,getElem?_toList→qp5,toList_append→qx0,toList_push→za0
open Bool renaming and_eq_true→qb3,false_ne_true→qb8,false_eq_true→qe6,eq_iff_iff→qi2,or_eq_true→qi4,not_eq_true'→qj2,true_and→qk3,or_false→qs3,and_true→qs6,and_false→qu3,and_eq_false_imp→qu6,and_eq_true_iff→qv8,or_eq_false_iff→qv9,false_or→za4,and_self→za5,true_or→zd5,false_and→zf2,not_false→zf5,not_true→zh2,or_true→zi5
open Classical renaming byContradiction→qy5
open False renaming elim→qg2
open ForInStep renaming yield→qp4
open Int renaming toNat_natCast→qe5,emod_lt_of_pos→qi6,emod_nonneg→ql4,reduceLT→zi3,reduceEq→zi4
open Lean renaming maxHeartbeats→qp8,maxRecDepth→qr3
open List renaming length_map→qa1,map_cons→qa5,getD_eq_getElem?_getD→qa6,mem_cons→qb0,getElem?_map→qb1,range→qb2,mem_range→qb5,mem_singleton→qb6,size_toArray→qb7,map_map→qc3,length_append→qc4,mem_map→qc5,getElem?_append_left→qc6,mem_append_right→qc7,length_filter_le→qd0,mem_cons_of_mem→qd2,mem_of_getElem?→qd3,mem_filter→qd4,getElem?_append_right→qd6,mem_cons_self→qd8,map_append→qf0,getElem?_set_self→qf2,length_cons→qf4,lookup_cons→qg0,replicate→qg3,mem_append_left→qh0,pairwise_cons→qh1,nodup_cons→qh3,getElem?_eq_none_iff→qh4,getElem?_cons_succ→qi5,nodup_iff_pairwise_ne→qi9,mem_append→qj4,foldl_cons→qj5,getElem?_eq_getElem→qj6,all_eq_true→qj7,getElem?_replicate→qk0,all_cons→qk1,any_cons→qk2,append_assoc→qk9,nodup_append→ql0,not_mem_nil→ql8,length_replicate→qm1,getElem?_of_mem→qm8,append_nil→qn2,length_range→qn5,pairwise_map→qn7,length→qo1,getElem?_cons_zero→qo2,filter_sublist→qo3,set_cons_succ→qp0,length_singleton→qp2,find?_cons→qp3,reverse_cons→qq4,getElem?_zip_eq_some→qq8,getElem_mem→qr2,filterMap_cons→qr4,getElem?_range→qr5,set_cons_zero→qs7,sum_cons→qt1,filter_cons_of_pos→qt2,filter_cons_of_neg→qt3,find?_cons_of_neg→qt5,ext_getElem?→qu2,map_nil→qu5,length_take→qv0,cons_append→qv2,ext_getElem→qv3,eq_nil_of_length_eq_zero→qv4,nodup_range→qv6,isEmpty_nil→qv7,of_mem_zip→qw7,nil_append→qx3,length_eraseIdx_of_lt→qx6,mem_filterMap→qx9,nodup_nil→qy4,mem_of_find?_eq_some→qy6,pairwise_iff_getElem→qy7,mapIdx_eq_zipIdx_map→qy9,getElem?_take_of_lt→qz1,take_sublist→qz2,length_eq_zero_iff→zb2,length_drop→zb4,any_eq_true→zb5,range_succ_eq_map→zc0,pairwise_lt_range→zc1,find?_cons_of_pos→zc3,length_nil→zd6,getElem?_toArray→zd7,range_succ→ze3,getElem?_eq_none→ze6,all_nil→zi2,Perm→zj2
open List.Pairwise renaming nil→qq0,imp→qq3
open List.Perm renaming refl→qy8
open Nat renaming le_trans→qb9,ne_of_lt→qc1,lt_of_lt_of_le→qc2,lt_succ_of_lt→qh9,zero_le→qi3,le_of_lt→qi8,lt_irrefl→ql9,ne_of_gt→qm0,lt_succ_self→qo4,le_refl→qt7,mod_lt→qw4,lt_trans→qy1,not_lt→qz4,le_succ→za8,not_lt_zero→ze2
open Ne renaming symm→qp1
open Option renaming bind_some→qa2,isSome_map→qk8,map_some→ql1,join_some→qr0,isSome_iff_exists→qr9,bind_eq_some_iff→qs2,map_eq_some_iff→qt4
open Option.some renaming inj→qd9,injEq→qt6
open PyProof.Rows renaming callWith_type1→qf6,slot_tuple_getitem→qn3,envOfC→qz0,subscriptTail_builtinR→zb8,AllBare→zc5,subscriptTail→zg7
open PyProof.Rows.F renaming plain_set_update_loop→qs9,entry_set_update_loop→zb1
open PySem renaming wpAny_pure→qa3,Shared→qa4,starEach→qa9,sizeLine→qb4,mainGlobals→qc0,Program→qc9,wpAny_newObj_type→qd5,bootBuiltins→qd7,Around→qe0,wpAny_setState_of→qe8,wpAny_callSpecial?_slot→qe9,wpAny_call_entry→qf3,rawInt→qf5,SetTable→qf9,compareOp→qg5,cellsFrom→qg6,wpAny_bind→qg8,behindInMarks→qh5,sysModules→qh6,foldedSetIterable→qh7,wpAny_holding→qi1,assignEach→qi7,Arguments→qj0,Builtin→qj1,wpAny_setField→qj3,wpAny_typeNameOfWhole_keyiter→qj8,backTo→qj9,wpAny_mono→qk6,wpAny_truthy_bool→qk7,wpAny_ite_split→ql3,builtinLookup_eq_fast→qm2,firstArgMember→qm5,binaryOp→qm7,swapsWith→qn0,wpAny_passesOwn→qn1,wpAny_typeNameOf_keyiter→qn6,scanBound→qn8,wpAny_askSetting→qo5,wpAny_Call_Name_kw→qo8,NameKind→qo9,codeAny_builtin→qp6,FuncData→qp9,codeAny→qq5,codeAmong→qq6,wpAny_fieldsOf→qq9,wpAny_isInstance→qr1,codeAny_mono→qr8,attributeBase→qs4,tupleKind_room_in1→qs5,wpAny_attempt→qs8,typeLookup_type→qt0,wpAny_pyIter_list→qt8,wpAny_field→qt9,sliceBounds→qu0,fits_of_scanBound→qu1,wpAny_seqItems→qu4,Keyword→qu9,noFill_tuple_add→qv1,plainId_quiet→qw2,builtinsNs→qw3,wpAny_execs_nil→qw5,letOwnedTupleGo→qw6,keywordEach→qw8,wpAny_specialOf→qw9,pyNext→qx7,wpAny_pyIter_tuple→qx8,concat_meets→qy0,wpAny_comprehension_free→qz3,wpAny_pyIter_slot→qz7,wpAny_dictEntries→qz8,wpAny_standAt→za1,BindsTo→za2,seq_tuple_add→za3,wpAny_of_eq→za6,wpAny_handled→za7,setField→za9,relayAll→zb0,setNext→zb3,wpAny_pyNext_range_end→zb6,wpAny_pyIter_rangeiter→zb7,codeAny_compStart_list→zb9,TriplesOk→zc4,storeName→zc6,wpAny_storeName_local→zc7,wpAny_isTrue_Compare1→zc8,assign→zc9,holding→zd0,InCallC→zd1,codeAny_call_function→zd2,wpAny_typeOf→zd3,wpAny_dictEpoch→ze0,wpAny_isOneOf_keyiter→ze1,pickOrder→ze4,wpAny_updateSeq→ze5,typeLookup→ze7,closureFor→ze8,compPost→ze9,setEntries→zf0,isSubtype_stop→zf3,isSubtype_type→zf4,IsRangeIter→zf6,getItem→zf7,subscripted→zf8,valueAt→zf9,wpAny_throw→zg1,tupleKind→zg3,swapsWithSole→zg4,swappedStores→zg5,bindArgs→zg6,backToKw→zg8,newExc→zg9,raiseNew→zh0,wpAny_call→zh3,callerA→zh4,wpAny_rule→zh5,setsByText→zh6,pyIter→zh8,name_of_addr→zh9,IsPart→zi0,newTuple→zi6,treeTable→zi7,PassesOwn→zj0,DictEntry→zj1
open PySem.Around renaming under_plainId→qm9
open PySem.AutoSeq1 renaming wpAny_loadPart'→qs1
open PySem.Builtin.Dict renaming showsAll→zd9
open PySem.Builtin.Dict_items renaming ownsTuple→qw1
open PySem.Builtin.List renaming listExtendWith→qg7,listLengthHint→ql2,listSameRef→qn9,listTooLong→qs0,listItems→zc2
open PySem.Builtin.Range renaming rangeSize→qd1,rangeFitsLong→qx2
open PySem.Builtin.Slice renaming slicePlaces→qm3,sliceAdjust→qq7,sliceApplied→qx5
open PySem.Builtin.SmallTypes renaming nextOf→qm4
open PySem.Builtin.Str renaming occurrences→qg9
open PySem.Builtin.Tuple renaming tupleExact→qn4
open PySem.Calls renaming Name_function_global→qx4
open PySem.F renaming slot_dict_keyiterator_next→qi0,slot_tuple_iterator_next→ql7,called_set→qp7,args_dict_keyiterator_next_1→qu7,entry_dict_keyiterator_next→qv5,args_tuple_iterator_next_1→qw0,entry_tuple_iterator_next→qx1
open PySem.Heap renaming lt_size→qa7,get?_push_size→qa8,get?_update_self→qe4,size_push→qf7,get?_push_of_some→ql5,get?_update_other→ql6,SameBut→qo0,ExtBut→zg0
open PySem.Heap.SameBut renaming update→qe7
open PySem.NameKind renaming free→qe1
open PySem.Obj renaming data_mapFields→qe2,isFreed_of_fields→qh8,mapSeq→qo6,cls_mapFields→qq1,mapFields→qq2
open PySem.PassesOwn renaming never→qc8
open PySem.PyData renaming keyHash→qk4
open PySem.SeqAt renaming EqAt→qg1,RcAt→qz5,RcNeAt→zd8
open PySem.SeqAt.EqAt renaming of_refs→qy2,same→zd4
open PySem.SeqAt.RcAt renaming lists_lengths→qz6
open PySem.SetTable renaming below→qf8,grown→qm6,insertAt→qz9
open PySem.Shared renaming TypeIs→zh1
open PySem.Str renaming ofString→qa0
open PySem.Value renaming ref→qf1,none→qh2,type→qk5,bool→qr6,isStrOf→zg2,int→zi8,str→zi9
open PySem.W.OpenRow renaming toRowW→zf1
open PySem.W.RowW renaming records→zh7
open PySem.pickOrder renaming go→zi1
open Sum renaming inr→qu8,inl→qy3
open True renaming intro→qr7
set_option Elab.async false
set_option linter.all false
namespace P44
open PySem PySem.W PyProof.Rows
section
local macro_rules | `(tactic| o_head $_) => `(tactic| exact (by assumption : ∀ p : Prop, p) _)
set_option maxRecDepth 100000 in
set_option maxHeartbeats 0 in
theorem pre(q:∀p:Prop,p):PySem.Challenge.rw_dimhouse_k44_all_places_hold.row.Holds:=by k_head
end
def seen:qc9:={PySem.Challenge.pw_dimhouse_k44_all_places_hold with main:={PySem.Challenge.pw_dimhouse_k44_all_places_hold.main with body:=[1,2,3,4,6,7,8,9,10,11,12,14,15,16,17,18,19,20,21,22,24,25,26,27,28,29,30,31,33,34,35,36,37,38,39,40,41,42,43,44,45,46,47,48,49,50,51].filterMap fun i=>PySem.Challenge.pw_dimhouse_k44_all_places_hold.main.body[i]?}}
noncomputable abbrev hook:Hook:=kmHook P44.pre.heap_1 [2,3,15,17,18,20,21,22,25,26,27,29,30,32,33,34,36,37,39,40,41,42,43,44,45,46,47,48,49,50,51,53,54,56,57,58,60,61,63,64,65,67,68,70,71,72,75,76,77,80,81,82,85,86,87,90,91,92,95,96,97,99,100,102,103,104,107,108,109,111,112,114,115,116,119,120,121,124,125,126,128,129,131,132,133,135,136,138,139,140,143,144,145,147,148,150,151,152,154,155,157,158,159,161,162,164,165,166,168,169,171,172,173,175,176,178,179,180,182,183,185,186,187,190,191,192,194,195,197,198,199,201,202,204,205,206,209,210,211,213,214,216,217,218,221,222,223,225,226,228,229,230,232,233,235,236,249,252,253,254,257,258,259,262,263,264,267,268,269,272,273] (fun _=>by kernel_rfl) [134,105]
theorem map_two {α β γ:Type} {x:Option α} {f:α→β} {g:α→γ} {a:β} {b:γ} (h:x.map f=some a) (h':x.map g=some b):x.map (fun s=>(f s,g s))=some (a,b):=by
  cases x with
  |none=>cases h
  |some s=>simp only[ql1,qt6]at h h' ⊢;rw[h,h']
set_option maxRecDepth 100000 in
set_option maxHeartbeats 0 in
theorem run_false(w:World):(fencedOpening zi7 PySem.Challenge.rw_dimhouse_k44_all_places_hold.row.prog w 3042).map (fun s₀=>(topFrom zi7 PySem.Challenge.rw_dimhouse_k44_all_places_hold.row.prog (w.withFollow "special-get-raises" false) 3042 s₀).map (fun s=>(openSeen seen [PySem.Str.ofString "ATOM_PLACES"] (importedModules PySem.Challenge.rw_dimhouse_k44_all_places_hold.row.prog.main.body) (fun s=>xlAt seen [] s&&recOk (zh7 (zf1 PySem.Challenge.rw_dimhouse_k44_all_places_hold.row)) s) true s,Hook.obs hook s)))=some (some (openGood seen [PySem.Str.ofString "ATOM_PLACES"],Hook.val hook (w.withFollow "special-get-raises" false))):=by kernel_rfl
set_option maxRecDepth 100000 in
set_option maxHeartbeats 0 in
theorem run_true(w:World):(fencedOpening zi7 PySem.Challenge.rw_dimhouse_k44_all_places_hold.row.prog w 3042).map (fun s₀=>(topFrom zi7 PySem.Challenge.rw_dimhouse_k44_all_places_hold.row.prog (w.withFollow "special-get-raises" true) 3042 s₀).map (fun s=>(openSeen seen [PySem.Str.ofString "ATOM_PLACES"] (importedModules PySem.Challenge.rw_dimhouse_k44_all_places_hold.row.prog.main.body) (fun s=>xlAt seen [] s&&recOk (zh7 (zf1 PySem.Challenge.rw_dimhouse_k44_all_places_hold.row)) s) true s,Hook.obs hook s)))=some (some (openGood seen [PySem.Str.ofString "ATOM_PLACES"],Hook.val hook (w.withFollow "special-get-raises" true))):=by kernel_rfl
end P44
set_option maxRecDepth 100000
set_option maxHeartbeats 4000000
set_option compiler.extract_closed false
open PySem.W renaming Frag→xA9,nsIn→xB9,fnOf→xC9,mg_none_of→xD9,kia_one→xE9,keepIn→xF9,fnX→xG9,codeIn→xH9,mg_of→xI9,codeHdIn→xJ9,tabObj→xK9,kitOne→xL9,kitx_dict→xM9,CodeHd→xN9,instObj→xO9,methodObj→xP9,kitx_list→xQ9,cellsFrom_some→xR9,codeHd_of_K→xS9,OpenLaw→xT9
open PySem renaming Addr→J9,World→Ja,Stmt→Jb,Expr→Jc,Scope→Jd
noncomputable section
theorem bS{α β:Type _}{o:Option α}{f:α->Option β}{b:β}(h:o.bind f=some b):∃a,o=some a/\f a=some b:=qs2.mp h
theorem mS{α β:Type _}{o:Option α}{f:α->β}{b:β}(h:o.map f=some b):∃a,o=some a/\f a=b:=qt4.mp h
theorem gX{α:Type _}{l:List α}{i:Nat}{a:α}(h:l[i]?=some a):∃z:i<l.length,l[i]=a:=List.getElem?_eq_some_iff.mp h
open PySem PySem.Spec PyProof.Rows in abbrev gN := @List.getElem?_set_ne
open PySem PySem.Spec PyProof.Rows in abbrev gP := @Heap.get?_push_of_some
open PySem PySem.Spec PyProof.Rows in abbrev wB := @wpAny_bind
open PySem PySem.Spec PyProof.Rows in abbrev gR := @List.getElem?_append_right
open PySem PySem.Spec PyProof.Rows in abbrev gQ := @List.getElem?_eq_getElem
open PySem PySem.Spec PyProof.Rows in abbrev nL := @Nat.le_refl
set_option maxRecDepth 100000
namespace L2
open PySem PySem.Spec PyProof.Rows
abbrev Key:=Sum Int Str
def ki:Key->Value->Bool
 |.inl k,v=>Value.isInt k v
 |.inr x,v=>zg2 x v
def keyH(w:Ja):Key->Int
 |.inl k=>hashInt k
 |.inr x=>hashStr w x
theorem ce:∀{k:Key}{v:Value},ki k v=true->(∃i t,k=qy3 i/\v=zi8 i t)∨(∃x t,k=qu8 x/\v=zi9 x t)
 |.inl i,v,h=>by obtain⟨t,e⟩:=Value.isInt_shape (k:=i) (v:=v) h;exact .inl ⟨i,t,rfl,e⟩
 |.inr x,v,h=>by obtain⟨t,e⟩:=Value.isStrOf_shape (x:=x) (v:=v) h;exact .inr ⟨x,t,rfl,e⟩
theorem sy(i:Int)(t:Tok):ki (.inl i) (.int i t)=true:=by simp[ki,Value.isInt]
theorem sA(x:Str)(t:Tok):ki (.inr x) (.str x t)=true:=by simp[ki,zg2]
theorem AV(a b:Int):decide ((qy3 a:Key)=qy3 b)=(a==b):=by
 by_cases e:a=b
 .subst e;simp
 .have h:¬ (qy3 a:Key)=qy3 b:=fun q=>e (qy3.inj q)
  rw[decide_eq_false h];exact(beq_eq_false_iff_ne.mpr e).symm
theorem AW(a b:Str):decide ((qu8 a:Key)=qu8 b)=decide (a=b):=by
 by_cases e:a=b
 .subst e;simp
 .have h:¬ (qu8 a:Key)=qu8 b:=fun q=>e (qu8.inj q)
  rw[decide_eq_false h,decide_eq_false e]
theorem AX(a:Int)(b:Str):decide ((qy3 a:Key)=qu8 b)=false:=decide_eq_false (fun q=>nomatch q)
theorem AY(a:Str)(b:Int):decide ((qu8 a:Key)=qy3 b)=false:=decide_eq_false (fun q=>nomatch q)
noncomputable def bY(prog:qc9)(w:Ja):PySem.KeyKind prog w Key where
 is:=ki
 hash:=keyH w
 inj:=fun v a b ha Y=>by
  rcases ce ha with ⟨i,t,rfl,rfl⟩|⟨x,t,rfl,rfl⟩
  .rcases ce Y with ⟨j,u,rfl,e⟩|⟨y,u,rfl,e⟩
   .injection e with q _;rw[q]
   .exact nomatch e
  .rcases ce Y with ⟨j,u,rfl,e⟩|⟨y,u,rfl,e⟩
   .exact nomatch e
   .injection e with q _;rw[q]
 byValue:=fun k v h=>by rcases ce h with ⟨i,t,rfl,rfl⟩|⟨x,t,rfl,rfl⟩<;>rfl
 pyHash:=fun O h=>by
  rcases ce O with ⟨i,t,rfl,rfl⟩|⟨x,t,rfl,rfl⟩
  .exact wpAny_pyHash_int h
  .exact wpAny_pyHash_str h
 eqBool:=fun Z O h=>by
  rcases ce Z with ⟨i,t,rfl,rfl⟩|⟨x,t,rfl,rfl⟩
  .rcases ce O with ⟨j,u,rfl,rfl⟩|⟨y,u,rfl,rfl⟩
   .rw[AV]at h;exact wpAny_eqBool_int h
   .rw[AX]at h;exact qg1.int_str i t y u _ _ _ _ h
  .rcases ce O with ⟨j,u,rfl,rfl⟩|⟨y,u,rfl,rfl⟩
   .rw[AY]at h;exact qg1.str_int x t j u _ _ _ _ h
   .rw[AW]at h;exact wpAny_eqBool_str h
 «strs»:=fun k x t v h=>by
  rcases ce h with ⟨i,u,rfl,e⟩|⟨y,u,rfl,e⟩
  .exact nomatch e
  .injection e with q _;subst q;cases v<;>rfl
theorem n8(prog:qc9)(w:Ja)(i:Int)(t:Tok):(bY prog w).is (.inl i) (.int i t)=true:=sy i t
theorem gl(prog:qc9)(w:Ja)(x:Str)(t:Tok):(bY prog w).is (.inr x) (.str x t)=true:=sA x t
inductive V where
 |non|bl (b:Bool)|int (i:Int)|str (x:Str)|byt (b:Array UInt8)|flt (b:UInt64)|ref (a:J9)|ty (n:String)
 deriving DecidableEq
noncomputable def RelV:V->Value->Prop
 |.non,u=>u=qh2
 |.bl b,u=>u=qr6 b
 |.int i,u=>∃t,u=zi8 i t
 |.str x,u=>∃t,u=zi9 x t
 |.byt b,u=>∃t,u=Value.bytes b t
 |.flt b,u=>∃t,u=Value.float b t
 |.ref a,u=>u=qf1 a
 |.ty n,u=>u=qk5 n
abbrev Vals:List V->List Value->Prop:=Paired RelV
variable{xs:List V}{us:List Value}
theorem Vals.length(r:Vals xs us):xs.length=us.length:=Paired.length r
theorem Vals.get:∀{xs:List V}{us:List Value}{i:Nat}{x:V},Vals xs us->xs[i]?=some x->∃u,us[i]?=some u/\RelV x u
 |_,_,_,_,.nil,e=>by simp at e
 |_,_,0,_,.cons r _,e=>by simp at e;subst e;exact⟨_,rfl,r⟩
 |_,_,i+1,x,.cons _ t,e=>by obtain⟨u,h1,h2⟩:=Vals.get (i:=i) (x:=x) t (by simpa using e);exact⟨u,by simpa using h1,h2⟩
variable{u:Value}
theorem Vals.set{x:V}(r:RelV x u):∀{xs:List V}{us:List Value}(i:Nat),Vals xs us->Vals (xs.set i x) (us.set i u)
 |_,_,_,.nil=>.nil
 |_,_,0,.cons _ t=>.cons r t
 |_,_,i+1,.cons q t=>.cons q (Vals.set r i t)
theorem Vals.append:∀{xs ys:List V}{us q:List Value},Vals xs us->Vals ys q->Vals (xs++ys) (us++q)
 |_,_,_,_,.nil,s=>s
 |_,_,_,_,.cons r t,s=>.cons r (Vals.append t s)
theorem Vals.take:∀{xs:List V}{us:List Value}(n:Nat),Vals xs us->Vals (xs.take n) (us.take n)
 |_,_,0,_=>.nil
 |_,_,_+1,.nil=>.nil
 |_,_,n+1,.cons r t=>.cons r (Vals.take n t)
theorem Vals.drop:∀{xs:List V}{us:List Value}(n:Nat),Vals xs us->Vals (xs.drop n) (us.drop n)
 |_,_,0,r=>r
 |_,_,_+1,.nil=>.nil
 |_,_,n+1,.cons _ t=>Vals.drop n t
def RelO:Option V->Option Value->Prop
 |some v,some u=>RelV v u
 |none,none=>True
 |_,_=>False
def KV{κ:Type}:List (κ×V)->List (κ×Value)->Prop:=Paired fun(p:κ×V)(q:κ×Value)=>p.1=q.1/\RelV p.2 q.2
def kV:Key->V
 |.inl i=>.int i
 |.inr x=>.str x
inductive HO where
 |lst (xs:List V)
 |tup (xs:List V)
 |dK (J6:List (Key×V))|dT (J6:List (List Key×V))
 |set (S:Int->Bool) (n:Nat)
 |ins (C dx:J9) (fs:List (Str×V))
 |own (x:J9)
 |xd (fs:List (Str×V))
 |met (f x:J9)
 |rng (lo hi:Int)
 |frz (o:Obj) (u:HO)
 |tbl (ps:Array Value)
 |code (q:Str)
 |ctab (qs:List ((Nat×Nat)×Str))
 |ext (φ:Heap->Prop)
abbrev Hp:=J9->Option HO
def upd(H:Hp)(a:J9)(o:HO):Hp:=fun b=>if b=a then some o else H b
variable{H:Hp}{a:J9}{o:HO}
theorem bn:upd H a o a=some o:=by unfold upd;rw[if_pos rfl]
variable{b:J9}
theorem aP(h:b≠a):upd H a o b=H b:=by unfold upd;rw[if_neg h]
theorem Dz{u:HO}(h:H a=some o)(h':H b=some u)(d:o≠u):a≠b:=by intro e;subst e;rw[h]at h';exact d (qd9 h')
theorem ck(h:H a=some o)(h':H b=none):a≠b:=by intro e;subst e;rw[h]at h';cases h'
section
variable(P:qc9)(w:Ja)
noncomputable def ObjOk(H:Hp)(h:Heap)(a:J9):HO->Prop
 |.lst xs=>xs.length<=qb4/\∃(J8:List Value)(n:Nat),Vals xs J8/\h.get? a=some {cls:=.type "list",data:=.seq J8.toArray n}
 |.tup xs=>xs.length<=qb4/\∃J8:List Value,Vals xs J8/\IsTup h a J8.toArray
 |.dK J6=>J6.length<=qb4/\(a==qh6)=false/\∃vs,KV J6 vs/\h.DictOf (bY P w) a vs
 | .dT J6=>J6.length<=qb4/\(a==qh6)=false/\∃xs:List (List Key×J9×Value),
     Paired (fun(p:List Key×V)(q:List Key×J9×Value)=>p.1=q.1/\H q.2.1=some (.tup (p.1.map kV))/\RelV p.2 q.2.2) J6 xs∧
     ∃o es ep,h.get? a=some o/\o.ExactDict/\o.data=.dict es ep/\es.toList=xs.map (entryOfKey (zg3 (bY P w)))/\(xs.map (·.1)).Nodup
 |.set S n=>h.SetOf (intKind P w) a S n
 |.ins C dx fs=>H dx=some (.own a)/\fs.length<=1000/\dx≠a/\h.get? a=some (xO9 C dx)∧∃mA,h.Ns1 dx mA/\(∀f,RelO (fs.lookup f) (mA f))/\PySem.Within mA (fs.map (·.1))
 |.own _=>∃o,h.get? a=some o
 |.xd fs=>∃mA,h.Ns1 a mA/\∀f,RelO (fs.lookup f) (mA f)
 |.rng lo hi=>∃t u v,h.get? a=some {cls:=.type "range",data:=.fields #[.int lo t,.int hi u,.int 1 v]}
 |.frz o u=>h.get? a=some o/\ObjOk H h a u
 |.tbl ps=>h.get? a=some {cls:=.none,data:=.fields ps}
 |.code q=>h.CodeRec (.ref a) q
 |.ctab qs=>∃ps:Array Value,h.get? a=some {cls:=.none,data:=.fields ps}/\zc4 ps.toList/\∀(pos:Pos)(q:Str)(v:Value),((pos.line,pos.col),q)∈qs->qq6 pos ps.toList=some v->∃c o,v=.ref c/\H c=some (.frz o (.code q))
 |.met f x=>h.get? a=some (xP9 (.ref f) (.ref x))
 |.ext φ=>φ h/\(∃o,h.get? a=some o)/\∀h1 h2:Heap,φ h1->(∀o,h1.get? a=some o->h2.get? a=some o)->φ h2
def HOk(H:Hp)(h:Heap):Prop:=∀a o,H a=some o->ObjOk P w H h a o
end
section
variable{P:qc9}{w:Ja}{H H':Hp}{h h':Heap}{a:J9}{o:HO}
theorem ObjOk.lt(x:ObjOk P w H h a o):a<h.objs.size:=by
 cases o with
 |lst xs=>obtain⟨_,_,_,_,e⟩:=x;exact qa7 e
 |tup xs=>obtain⟨_,_,_,p⟩:=x;exact p.lt
 |dK J6=>obtain⟨_,_,_,_,o,_,_,e,_⟩:=x;exact qa7 e
 |dT J6=>obtain⟨_,_,_,_,o,_,_,e,_⟩:=x;exact qa7 e
 |set S n=>obtain⟨o,_,_,_,e,_⟩:=x;exact qa7 e
 |ins C dx fs=>obtain⟨_,_,_,e,_⟩:=x;exact qa7 e
 |own y=>obtain⟨_,e⟩:=x;exact qa7 e
 |xd fs=>obtain⟨_,⟨_,_,_,e,_⟩,_⟩:=x;exact qa7 e
 |rng lo hi=>obtain⟨_,_,_,e⟩:=x;exact qa7 e
 |frz ob u=>obtain⟨e,_⟩:=x;exact qa7 e
 |tbl ps=>exact qa7 (show h.get? a=some _ from x)
 |code q=>obtain⟨c,o,vs,t,e,g,_⟩:=x;cases e;exact qa7 g
 |ctab qs=>obtain⟨ps,g,_⟩:=x;exact qa7 g
 |met f y=>exact qa7 (show h.get? a=some _ from x)
 |ext φ=>obtain⟨_,⟨_,e⟩,_⟩:=x;exact qa7 e
theorem Paired.mapP{α β:Type}{F G:α->β->Prop}:∀{O:List α}{q:List β},Paired F O q->(∀a b,F a b->G a b)->Paired G O q
 |_,_,.nil,_=>.nil
 |_,_,.cons r t,f=>.cons (f _ _ r) (Paired.mapP t f)
theorem ObjOk.stay (x:ObjOk P w H h a o) (k:∀ b u,(b=a∨H b=some (.own a))->h.get? b=some u->h'.get? b=some u)
  (ho:∀b,H b=some (.own a)->H' b=some (.own a)) (Y:∀b xs,H b=some (.tup xs)->H' b=some (.tup xs)) (O:∀b ob q,H b=some (.frz ob (.code q))->H' b=some (.frz ob (.code q))):ObjOk P w H' h' a o:=by
 induction o with
 |lst xs=>obtain⟨z,J8,n,r,e⟩:=x;exact⟨z,J8,n,r,k _ _ (.inl rfl) e⟩
 |tup xs=>obtain⟨z,J8,r,ob,e,c⟩:=x;exact⟨z,J8,r,ob,k _ _ (.inl rfl) e,c⟩
 |dK J6=>obtain⟨z,y,vs,r,ob,es,ep,e,c⟩:=x;exact⟨z,y,vs,r,ob,es,ep,k _ _ (.inl rfl) e,c⟩
 |dT J6=>obtain⟨z,y,xs,r,ob,es,ep,e,c⟩:=x;exact⟨z,y,xs,Paired.mapP r fun p q z=>⟨z.1,Y _ _ z.2.1,z.2.2⟩,ob,es,ep,k _ _ (.inl rfl) e,c⟩
 |set S n=>obtain⟨ob,es,ep,t,e,c⟩:=x;exact⟨ob,es,ep,t,k _ _ (.inl rfl) e,c⟩
 |ins C dx fs=>obtain⟨d,z,Z,e,mA,⟨od,es,ep,e2,c⟩,r⟩:=x;exact⟨ho _ d,z,Z,k _ _ (.inl rfl) e,mA,⟨od,es,ep,k _ _ (.inr d) e2,c⟩,r⟩
 |own y=>obtain⟨ob,e⟩:=x;exact⟨ob,k _ _ (.inl rfl) e⟩
 |xd fs=>obtain⟨mA,⟨od,es,ep,e,c⟩,r⟩:=x;exact⟨mA,⟨od,es,ep,k _ _ (.inl rfl) e,c⟩,r⟩
 |rng lo hi=>obtain⟨t,u,v,e⟩:=x;exact⟨t,u,v,k _ _ (.inl rfl) e⟩
 |frz ob u ih=>obtain⟨e,q⟩:=x;exact⟨k _ _ (.inl rfl) e,ih q⟩
 |tbl ps=>have e:h.get? a=some {cls:=.none,data:=.fields ps}:=x;show h'.get? a=some {cls:=.none,data:=.fields ps};exact k a _ (.inl rfl) e
 |code q=>obtain⟨c,o,vs,t,e,g,r⟩:=x;cases e;exact⟨a,o,vs,t,rfl,k a _ (.inl rfl) g,r⟩
 |ctab qs=>obtain⟨ps,g,r1,r2⟩:=x;exact⟨ps,k a _ (.inl rfl) g,r1,fun pos q v h1 h2=>let ⟨c,ob,e,g⟩:=r2 pos q v h1 h2;⟨c,ob,e,O c ob q g⟩⟩
 |met f y=>have e:h.get? a=some (xP9 (.ref f) (.ref y)):=x;show h'.get? a=some (xP9 (.ref f) (.ref y));exact k a _ (.inl rfl) e
 |ext φ=>obtain⟨p,⟨o,e⟩,st⟩:=x;exact⟨st _ _ p fun o q=>k _ _ (.inl rfl) q,⟨o,k _ _ (.inl rfl) e⟩,st⟩
theorem HOk.lt(x:HOk P w H h)(e:H a=some o):a<h.objs.size:=(x a o e).lt
theorem HOk.fresh(x:HOk P w H h)(e:h.objs.size<=a):H a=none:=by
 cases q:H a with
 |none=>rfl
 |some u=>exact absurd (qc2 (x.lt q) e) (ql9 _)
theorem HOk.kept(x:HOk P w H h)(k:∀b u,h.get? b=some u->h'.get? b=some u):HOk P w H h':=fun a o e=>(x a o e).stay (fun b u _ q=>k b u q) (fun _ q=>q) (fun _ _ q=>q) fun _ _ _ q=>q
theorem HOk.laid(x:HOk P w H h)(k:∀b u,h.get? b=some u->h'.get? b=some u)(hp:h.objs.size<=a)(new:ObjOk P w (upd H a o) h' a o):HOk P w (upd H a o) h':=fun b u e=>by
 have O:=x.fresh hp;by_cases Y:b=a
 .subst Y;rw[bn]at e;cases e;exact new
 .rw[aP Y]at e;exact(x b u e).stay (fun c v _ q=>k c v q) (fun c q=>by rw[aP (ck q O)];exact q) (fun c xs q=>by rw[aP (ck q O)];exact q) fun c ob xs q=>by rw[aP (ck q O)];exact q
end
def Rd(H:Hp)(a:J9)(u:HO):Prop:=H a=some u∨∃o,H a=some (.frz o u)
theorem Rd.of{u:HO}(h:H a=some u):Rd H a u:=.inl h
variable{P:qc9}{w:Ja}{h:Heap}
theorem Rd.ok{u:HO}(r:Rd H a u)(x:HOk P w H h):ObjOk P w H h a u:=by
 rcases r with r|⟨o,r⟩
 .exact x a u r
 .obtain⟨_,q⟩:=x a _ r;exact q
def Mut:Option HO->Prop
 |some (.lst _)=>True
 |some (.dK _)=>True
 |some (.dT _)=>True
 |some (.set _ _)=>True
 |some (.ins _ _ _)=>True
 |some (.ext _)=>True
 |_=>False
section
variable{P:qc9}{w:Ja}{H:Hp}{h h':Heap}{x e:J9}{o':HO}
theorem HOk.write (ok:HOk P w H h) (Z:Mut (H x)) (he:e=x∨H e=some (.own x)) (k:∀ b u,b≠e->h.get? b=some u->h'.get? b=some u) (heo:∃ u,h'.get? e=some u)
  (new:ObjOk P w (upd H x o') h' x o'):HOk P w (upd H x o') h':=fun b u q=>by
 have Y:∀c y,H c=some (.own y)->c≠x:=fun c y r z=>by subst z;rw[r]at Z;exact Z
 have ntup:∀c xs,H c=some (.tup xs)->c≠x:=fun c xs r z=>by subst z;rw[r]at Z;exact Z
 have ncod:∀c ob xs,H c=some (.frz ob (.code xs))->c≠x:=fun c ob xs r z=>by subst z;rw[r]at Z;exact Z
 by_cases hb:b=x
 .subst hb;rw[bn]at q;cases q;exact new
 .rw[aP hb]at q;by_cases O:b=e
  .have q':H b=some (.own x):=by
    rcases he with z|z
    .exact absurd (O.trans z) hb
    .rw[O];exact z
   rw[q]at q';cases q'
   obtain⟨v,hv⟩:=heo;exact⟨v,by rw[O];exact hv⟩
  .refine(ok b u q).stay (fun c v hc r=>k c v ?_ r) (fun c r=>by rw[aP (Y c b r)];exact r) (fun c xs r=>by rw[aP (ntup c xs r)];exact r) fun c ob xs r=>by rw[aP (ncod c ob xs r)];exact r
   rcases hc with rfl|hc
   .exact O
   .rintro rfl;rcases he with z|z
    .exact Y c b hc z
    .rw[hc]at z;cases z;exact hb rfl
end
structure Un(fs ex:List J9)(H H':Hp)(h h':Heap):Prop where
 keep:∀b o,h.get? b=some o->H b=none->b∉fs->b∉ex->h'.get? b=some o
 slot:∀b o,h.get? b=some o->H b=none->b∈fs->b∉ex->∃sl,h'.get? b=some {o with slots:=sl}
 free:∀b o,h.get? b=some o->H b=none->b∉ex->H' b=none
 there:∀b o,h.get? b=some o->b∉ex->∃o',h'.get? b=some o'
 tups:∀b xs,H b=some (.tup xs)->H' b=some (.tup xs)
 frzs:∀b o u,H b=some (.frz o u)->H' b=some (.frz o u)
 tbls:∀b ps,H b=some (.tbl ps)->∃more,H' b=some (.tbl (ps++more))
 cts:∀b qs,H b=some (.ctab qs)->H' b=some (.ctab qs)
section
variable{fs fs' ex ex':List J9}{H H1 H2:Hp}{h h1 h2 h':Heap}{a x e:J9}{o:HO}
theorem Un.any(u:Un fs ex H H1 h h1){ob:Obj}(q:h.get? b=some ob)(n:H b=none)(O:b∉ex):∃sl,h1.get? b=some {ob with slots:=sl}:=by
 by_cases Y:b∈fs
 .exact u.slot b ob q n Y O
 .exact⟨ob.slots,u.keep b ob q n Y O⟩
theorem Un.kept(k:∀b u,h.get? b=some u->h'.get? b=some u):Un fs ex H H h h':=⟨fun b ob q _ _ _=>k b ob q,fun b ob q _ _ _=>⟨ob.slots,k b ob q⟩,fun _ _ _ n _=>n,fun b ob q _=>⟨ob,k b ob q⟩,fun _ _ q=>q,fun _ _ _ q=>q,fun _ ps q=>⟨#[],by rw[q];simp⟩,fun _ _ q=>q⟩
theorem Un.refl:Un fs ex H H h h:=Un.kept fun _ _ q=>q
theorem Un.laid(k:∀b u,h.get? b=some u->h'.get? b=some u)(hp:h.objs.size<=a)(O:H a=none):Un fs ex H (upd H a o) h h' where
 keep:=fun b u q _ _ _=>k b u q
 slot:=fun b u q _ _ _=>⟨u.slots,k b u q⟩
 free:=fun b u q n _=>by rw[aP (qc1 (qc2 (qa7 q) hp))];exact n
 there:=fun b u q _=>⟨u,k b u q⟩
 tups:=fun b xs q=>by rw[aP (ck q O)];exact q
 frzs:=fun b u xs q=>by rw[aP (ck q O)];exact q
 tbls:=fun b ps q=>⟨#[],by rw[aP (ck q O),q];simp⟩
 cts:=fun b qs q=>by rw[aP (ck q O)];exact q
theorem Un.write(Z:Mut (H x))(he:e=x∨H e=some (.own x))(k:∀b u,b≠e->h.get? b=some u->h'.get? b=some u)(heo:∃u,h'.get? e=some u):Un fs ex H (upd H x o) h h':=by
 have hx:∀b,H b=none->b≠x:=fun b n z=>by subst z;rw[n]at Z;exact Z
 have hb:∀b,H b=none->b≠e:=fun b n z=>by
  subst z;rcases he with r|r
  .exact hx b n r
  .rw[n]at r;cases r
 have Y:∀b u,H b=some u->¬ Mut (some u)->b≠x:=fun b u q nm z=>by subst z;rw[q]at Z;exact nm Z
 refine⟨fun b u q n _ _=>k b u (hb b n) q,fun b u q n _ _=>⟨u.slots,k b u (hb b n) q⟩,fun b u q n _=>by rw[aP (hx b n)];exact n,fun b u q _=>?_,fun b xs q=>by rw[aP (Y b _ q fun z=>z)];exact q,fun b u xs q=>by rw[aP (Y b _ q fun z=>z)];exact q,fun b ps q=>⟨#[],by rw[aP (Y b _ q fun z=>z),q];simp⟩,fun b xs q=>by rw[aP (Y b _ q fun z=>z)];exact q⟩
 by_cases O:b=e
 .subst O;exact heo
 .exact⟨u,k b u O q⟩
end
def trk(h:Heap)(H:Hp):List J9:=(qb2 h.objs.size).filter fun a=>(H a).isSome
def lB(h:Heap)(H:Hp):Heap:=PySem.W.hideAll h (trk h H)
theorem sB(h:Heap)(H:Hp):(lB h H).objs.size=h.objs.size:=PySem.W.hideAll_size _ _
theorem uz{o:Obj}(e:h.get? b=some o)(n:H b=none):(lB h H).get? b=some o:=PySem.W.hideAll_get _ e fun O=>by have q:(H b).isSome=true:=(qd4.mp O).2;rw[n]at q;simp at q
theorem xC{o:Obj}(e:(lB h H).get? b=some o):h.get? b=some o/\H b=none:=by
 have O:h.get? b=some o:=PySem.W.of_hideAll (trk h H) e;refine⟨O,?_⟩;cases q:H b with
 |none=>rfl
 |some x=>have Y:b∈trk h H:=qd4.mpr ⟨qb5.mpr (qa7 O),by simp[q]⟩;have z:(lB h H).get? b=none:=PySem.W.hideAll_none (trk h H) Y;rw[z]at e;cases e
def xE(g h:Heap)(L:J9):List (J9×Obj):=(qb2 h.objs.size).filterMap fun a=>if a=L∨(g.get? a).isSome=true then none else(h.get? a).map fun o=>(a,o)
def rest(g h:Heap)(L d:J9):List (J9×Obj):=(xE g h L).filter fun p=>decide (p.1≠d)
def nestNames:List Str:=["way_to_reading","spoilt"]
def kj(x:Str)(ss:List Jb):List ((Nat×Nat)×Str):=ss.filterMap fun st=>match st with
 |.FunctionDef name _ _ _ _ _ _ _ _ pos=>some ((pos.line,pos.col),x++".<locals>."++name)
 |_=>none
noncomputable def mN(K:xA9)(x:Str):Option (J9×List ((Nat×Nat)×Str)):=match PySem.W.tabIn K x with
 |some (_,P)=>(match xB9 K qc0 x with
  |some (some (.ref f))=>(match K.lookup f with
   |some o=>(match o.data with
    |.func fd=>(match fd.body with
     |.stmts b=>some (P,kj x b)
     |_=>none)
    |_=>none)
   |none=>none)
  |_=>none)
 |none=>none
def dA(K:xA9):List (J9×List ((Nat×Nat)×Str)):=nestNames.filterMap (mN K)
structure Mod(K:xA9)(mg:Str->Option Value)(base:Heap):Prop where
 kin:K.In base
 glob:base.Ns qc0 mg
 blt:∃mb,base.Ns qw3 mb/\∀x:Str,x≠"__name__"->mb x=qd7 x
 nolimit:base.NoLimit
structure Cx where
 prog:qc9
 w:Ja
 K:xA9
 mg:Str->Option Value
 base:Heap
 A:qe0
 N:List Str
 s₀:qa4
 H₀:Hp
 env:Env
 outer:List Env
 stack:List Env
 ex:List J9
 fn:Str->Bool
 calm:Bool
 pn:List (J9×Obj)
 xe:Value->qa4->Prop
def frs(l:List Env):List J9:=l.filterMap (·.frame)
abbrev Cx.fs(X:Cx):List J9:=frs X.outer
def Vis(sc:Jd)(x:Str):Prop:=sc.names.lookup x=some .local∨sc.names.lookup x=some .cell∨sc.names.lookup x=some .free
def Loc(sc:Jd)(x:Str):Prop:=sc.names.lookup x=some .local∨sc.names.lookup x=some .cell
noncomputable def Look(env:Env)(h:Heap)(m:Str->Option Value)(x:Str)(u:Value):Prop:=(env.kindOf x=some .local/\m x=some u)∨((env.kindOf x=some .cell∨env.kindOf x=some .free)/\∃c,env.cells.lookup x=some c/\h.IsCell c (some u))
structure Cx.Ok(X:Cx):Prop where
 mod:Mod X.K X.mg X.base
 kind:X.env.scope.kind=.function
 glob:X.env.globals=qc0
 blt:X.env.builtins=qw3
 above:X.s₀.heap.objs.size<=X.env.locals
 inj:∀x y c,X.env.cells.lookup x=some c->X.env.cells.lookup y=some c->x=y
 has:∀x,(X.env.kindOf x=some .cell∨X.env.kindOf x=some .free)->∃c,X.env.cells.lookup x=some c
 cab:∀x c,X.fn x=true->X.env.cells.lookup x=some c->X.s₀.heap.objs.size<=c
 hd:X.calm=true->X.A.handled=none
 frames:X.A.frames=some X.stack
 stk:X.stack=X.outer∨(X.stack=X.env::X.outer/\X.env.frame=some X.env.locals)
 exf:∀b∈X.ex,b≠X.env.locals/\∀x c,X.env.cells.lookup x=some c->c≠b
 bs:∀b o,X.base.get? b=some o->X.s₀.heap.get? b=some o/\X.H₀ b=none
 bsz:X.base.objs.size<=X.s₀.heap.objs.size
 noex:∀b o,X.base.get? b=some o->b∉X.ex
 exfs:∀b∈X.ex,b∉X.fs
 funs:X.s₀.heap.FunFrames X.base X.outer
 frf:∀b∈X.fs,X.H₀ b=none
 tb:∀p∈dA X.K,X.H₀ p.1=some (.ctab p.2)
structure Inv(X:Cx)(J1:List (J9×Obj))(σ:List (Option V))(H:Hp)(s:qa4):Prop where
 ok:X.Ok
 os:s.os=X.s₀.os
 bare:zc5 s.gens
 base:Un X.fs X.ex X.H₀ H X.s₀.heap s.heap
 loc:∃m,s.heap.Ns X.env.locals m/\∀(i:Nat)(x:Str)(v:V),X.N[i]?=some x->σ[i]?=some (some v)->Vis X.env.scope x->∃u,RelV v u/\Look X.env s.heap m x u
 cell:∀x c,X.env.cells.lookup x=some c->∃v,s.heap.IsCell c v
 free:H X.env.locals=none
 freeC:∀x c,X.env.cells.lookup x=some c->H c=none
 pin:∀p∈X.pn++J1,s.heap.get? p.1=some p.2/\H p.1=none/\p.1≠X.env.locals/\p.1∉X.fs/\∀v,p.2.data≠.cell v
 hok:HOk X.prog X.w H s.heap
 len:σ.length=X.N.length
variable{g':Array GenState}{t' i j:Nat}{d':Drawn}{ch:List J9}{it:J9}{N:List Str}{x:Str}{M:Model}{A:qe0}{E:Value->qa4->Prop}{v:V}{Q:Unit->qa4->Prop}{s':qa4}
section
variable{X:Cx}{J1:List (J9×Obj)}{σ:List (Option V)}{H H':Hp}{s:qa4}{h':Heap}
theorem Cx.Ok.nofr(ok:X.Ok){o:Obj}(e:X.base.get? b=some o):b∉X.fs:=fun q=>by have:=(ok.funs.mem q).1;rw[e]at this;cases this
theorem Inv.bs(I:Inv X J1 σ H s):∀b o,X.base.get? b=some o->s.heap.get? b=some o/\H b=none:=fun b o e=>⟨I.base.keep b o (I.ok.bs b o e).1 (I.ok.bs b o e).2 (I.ok.nofr e) (I.ok.noex b o e),I.base.free b o (I.ok.bs b o e).1 (I.ok.bs b o e).2 (I.ok.noex b o e)⟩
theorem Inv.bk(I:Inv X J1 σ H s):∀b o,X.base.get? b=some o->s.heap.get? b=some o:=fun b o e=>(I.bs b o e).1
theorem Inv.mod(I:Inv X J1 σ H s):Mod X.K X.mg X.base:=I.ok.mod
theorem Inv.kIn(I:Inv X J1 σ H s):X.K.In s.heap:=I.ok.mod.kin.keeps I.bk
theorem Inv.fr(I:Inv X J1 σ H s):∃m,Fr X.base X.env.locals s.heap m:=
 let ⟨m,hn,_⟩:=I.loc
 ⟨m,hn,I.bk,qb9 I.ok.bsz I.ok.above⟩
theorem Inv.lt(I:Inv X J1 σ H s):X.env.locals<s.heap.objs.size:=let ⟨_,hn,_⟩:=I.loc;hn.lt
theorem Inv.sz(I:Inv X J1 σ H s):X.s₀.heap.objs.size<=s.heap.objs.size:=qb9 I.ok.above (qi8 I.lt)
theorem Inv.nofs(I:Inv X J1 σ H s)(h:s.heap.objs.size<=a):a∉X.fs:=fun q=>by obtain⟨_,o,O,_⟩:=I.ok.funs.mem q;exact absurd (qc2 (qa7 O) (qb9 I.sz h)) (ql9 _)
theorem Inv.cne(I:Inv X J1 σ H s):∀x c,X.env.cells.lookup x=some c->c≠X.env.locals:=fun x c e z=>by obtain⟨v,o,Z,Y⟩:=I.cell x c e;obtain⟨m,⟨o',es,ep,q,O,_⟩,_⟩:=I.loc;rw[z,q]at Z;cases Z;rw[O]at Y;cases Y
theorem Inv.funs(I:Inv X J1 σ H s):s.heap.FunFrames X.base X.outer:=by
 have all:∀(l:List Env),(∀b∈frs l,b∈X.fs)->X.s₀.heap.FunFrames X.base l->s.heap.FunFrames X.base l:=by
  intro l;induction l with
  |nil=>intro _ _;trivial
  |cons env r ih=>
   intro Z hl;obtain⟨hk,⟨L,o,Y,hn,ho,hd⟩,hr⟩:=hl;have O:L∈X.fs:=Z L (by unfold frs;rw[qr4,Y];exact qd8);obtain⟨sl,e⟩:=I.base.slot L o ho (I.ok.frf L O) O fun z=>I.ok.exfs L z O
   exact⟨hk,⟨L,_,Y,hn,e,hd⟩,ih (fun b q=>Z b (by unfold frs;rw[qr4,Y];exact qd2 _ q)) hr⟩
 exact all X.outer (fun _ q=>q) I.ok.funs
theorem Inv.stack(I:Inv X J1 σ H s):s.heap.FunFrames X.base X.stack:=by
 rcases I.ok.stk with e|⟨e,q⟩
 .rw[e];exact I.funs
 .rw[e];obtain⟨m,O,_⟩:=I.loc;refine .cons (by rw[I.ok.kind];decide) q O ?_ I.funs;exact Heap.get?_none_of_le (qb9 I.ok.bsz I.ok.above)
theorem Inv.stkSub(I:Inv X J1 σ H s):∀b∈frs X.stack,b∈X.env.locals::X.fs:=fun b q=>by
 rcases I.ok.stk with e|⟨e,O⟩
 .rw[e]at q;exact qd2 _ q
 .rw[e]at q;unfold frs at q;rw[qr4,O]at q;exact q
theorem Inv.stkFree(I:Inv X J1 σ H s):∀b∈frs X.stack,H b=none:=fun b q=>by
 rcases qb0.mp (I.stkSub b q)with e|q
 .rw[e];exact I.free
 .obtain⟨_,o,O,_⟩:=I.ok.funs.mem q;exact I.base.free b o O (I.ok.frf b q) fun z=>I.ok.exfs b z q
theorem Inv.step(I:Inv X J1 σ H s)
 (hch:∀b∈ch,(b∈X.ex∨X.s₀.heap.objs.size<=b)/\b≠X.env.locals/\(∀x c,X.env.cells.lookup x=some c->c≠b)/\∀p∈X.pn++J1,p.1≠b)
 (keep:∀b o,b≠X.env.locals->b∉X.fs->b∉ch->s.heap.get? b=some o->H b=none->h'.get? b=some o)
 (slot:∀b o,b≠X.env.locals->b∈X.fs->b∉ch->s.heap.get? b=some o->H b=none->∃sl,h'.get? b=some {o with slots:=sl}) (free:∀b o,b∉ch->s.heap.get? b=some o->H b=none->H' b=none)
 (there:∀b o,b∉ch->s.heap.get? b=some o->∃o',h'.get? b=some o')
 (tups:∀b xs,H b=some (.tup xs)->H' b=some (.tup xs)) (frzs:∀b o u,H b=some (.frz o u)->H' b=some (.frz o u)) (tbls:∀b ps,H b=some (.tbl ps)->∃more,H' b=some (.tbl (ps++more))) (cts:∀b qs,H b=some (.ctab qs)->H' b=some (.ctab qs))
 (ns:∀m,s.heap.Ns X.env.locals m->h'.Ns X.env.locals m) (hok:HOk X.prog X.w H' h') (hg:zc5 g') :
  Inv X J1 σ H' {s with heap:=h',gens:=g',drawn:=d',toks:=t'}:=by
 have neL:∀b o,X.s₀.heap.get? b=some o->b≠X.env.locals:=fun b o e=>qc1 (qc2 (qa7 e) I.ok.above)
 have neC:∀b o,X.s₀.heap.get? b=some o->b∉X.ex->b∉ch:=fun b o e O hb=>by
  rcases(hch b hb).1 with z|z
  .exact O z
  .exact absurd (qc2 (qa7 e) z) (ql9 _)
 have Y:∀x c,X.env.cells.lookup x=some c->∀v,s.heap.IsCell c v->h'.IsCell c v:=fun x c e v ⟨o,ho,hd⟩=>by
  have Z:c∉ch:=fun z=>(hch c z).2.2.1 x c e rfl
  by_cases hc:c∈X.fs
  .obtain⟨sl,q⟩:=slot c o (I.cne x c e) hc Z ho (I.freeC x c e);exact⟨_,q,hd⟩
  .exact⟨o,keep c o (I.cne x c e) hc Z ho (I.freeC x c e),hd⟩
 refine⟨I.ok,I.os,hg,⟨fun b o e n hb O=>?_,fun b o e n hb O=>?_,fun b o e n O=>?_,fun b o e O=>?_,fun b xs e=>tups b xs (I.base.tups b xs e),fun b o xs e=>frzs b o xs (I.base.frzs b o xs e),fun b ps e=>?_,fun b qs e=>cts b qs (I.base.cts b qs e)⟩,?_,fun x c e=>?_,?_,fun x c e=>?_,fun p hp=>?_,hok,I.len⟩
 .exact keep b o (neL b o e) hb (neC b o e O) (I.base.keep b o e n hb O) (I.base.free b o e n O)
 .obtain⟨sl,e1⟩:=I.base.slot b o e n hb O;obtain⟨sl',e2⟩:=slot b _ (neL b o e) hb (neC b o e O) e1 (I.base.free b o e n O);exact⟨sl',e2⟩
 .obtain⟨o',e1⟩:=I.base.there b o e O;exact free b o' (neC b o e O) e1 (I.base.free b o e n O)
 .obtain⟨o',e1⟩:=I.base.there b o e O;exact there b o' (neC b o e O) e1
 .obtain⟨m1,e1⟩:=I.base.tbls b ps e;obtain⟨m2,e2⟩:=tbls b _ e1;exact⟨m1++m2,by rw[e2,Array.append_assoc]⟩
 .obtain⟨m,hn,hl⟩:=I.loc;refine⟨m,ns m hn,fun i x v e1 e2 e3=>?_⟩;obtain⟨u,r,l⟩:=hl i x v e1 e2 e3;refine⟨u,r,?_⟩;rcases l with l|⟨k,c,e,z⟩
  .exact .inl l
  .exact .inr ⟨k,c,e,Y x c e _ z⟩
 .obtain⟨v,z⟩:=I.cell x c e;exact⟨v,Y x c e v z⟩
 .obtain⟨m,⟨o,_,_,ho,_⟩,_⟩:=I.loc;exact free _ o (fun z=>(hch _ z).2.1 rfl) ho I.free
 .obtain⟨v,o,ho,hd⟩:=I.cell x c e;exact free c o (fun z=>(hch c z).2.2.1 x c e rfl) ho (I.freeC x c e)
 .obtain⟨e,n,ne,nf,d⟩:=I.pin p hp;have Z:p.1∉ch:=fun z=>(hch p.1 z).2.2.2 p hp rfl
  exact⟨keep p.1 p.2 ne nf Z e n,free p.1 p.2 Z e n,ne,nf,d⟩
theorem Inv.un(I:Inv X J1 σ H s)(u:Un X.fs [] H H' s.heap h')(hok:HOk X.prog X.w H' h'):Inv X J1 σ H' {s with heap:=h',toks:=t'}:=by
 obtain⟨m,⟨o,es,ep,ho,r⟩,_⟩:=id I.loc;obtain⟨sl,hL⟩:=u.any ho I.free (by simp)
 exact I.step (g':=s.gens) (d':=s.drawn) (ch:=[]) (fun _ z=>nomatch z) (fun b o _ Y _ e n=>u.keep b o e n Y (by simp)) (fun b o _ Y _ e n=>u.slot b o e n Y (by simp)) (fun b o _ e n=>u.free b o e n (by simp)) (fun b o _ e=>u.there b o e (by simp)) u.tups u.frzs u.tbls u.cts (fun m' hm=>by
  obtain⟨o',Z,O,q,r'⟩:=hm;rw[ho]at q;cases q
  exact⟨_,Z,O,hL,r'⟩) hok I.bare
theorem Inv.call{ch:List J9}(I:Inv X J1 σ H s)(u:Un (frs X.stack) ch H H' s.heap h')(hok:HOk X.prog X.w H' h')(hg:zc5 g')
 (Y:∀b∈ch,(b∈X.ex∨X.s₀.heap.objs.size<=b)/\b≠X.env.locals/\(∀x c,X.env.cells.lookup x=some c->c≠b)/\∀p∈X.pn++J1,p.1≠b) :
  Inv X J1 σ H' {s with heap:=h',gens:=g',drawn:=d',toks:=t'}:=by
 obtain⟨m,⟨o,es,ep,ho,r⟩,_⟩:=id I.loc;obtain⟨sl,hL⟩:=u.any ho I.free fun z=>(Y _ z).2.1 rfl
 exact I.step (ch:=ch) Y (fun b o hL hb q e n=>u.keep b o e n (fun z=>(qb0.mp (I.stkSub b z)).elim hL hb) q) (fun b o _ _ q e n=>u.any e n q) (fun b o q e n=>u.free b o e n q) (fun b o q e=>u.there b o e q) u.tups u.frzs u.tbls u.cts (fun m' hm=>by
  obtain⟨o',es',Z,O,r'⟩:=hm;rw[ho]at O;cases O
  exact⟨_,es',Z,hL,r'⟩) hok hg
theorem Inv.turned(I:Inv X J1 σ H s)(k:∀b o,b≠it->s.heap.get? b=some o->h'.get? b=some o)(hn:H it=none)(Z:it≠X.env.locals)
 (h1:it∈X.ex∨X.s₀.heap.objs.size<=it) (h2:∀x c,X.env.cells.lookup x=some c->c≠it) (h3:∀p∈X.pn++J1,p.1≠it):Inv X J1 σ H {s with heap:=h',toks:=t'}:=by
 have Y:∀b u,H b=some u->b≠it:=fun b u e z=>by rw[z,hn]at e;cases e
 refine I.step (g':=s.gens) (d':=s.drawn) (ch:=[it]) (fun b hb=>?_) (fun b o _ _ O e _=>k b o (fun z=>O (by simp[z])) e) (fun b o _ _ O e _=>⟨o.slots,k b o (fun z=>O (by simp[z])) e⟩) (fun _ _ _ _ n=>n)
  (fun b o O e=>⟨o,k b o (fun z=>O (by simp[z])) e⟩) (fun _ _ e=>e) (fun _ _ _ e=>e) (fun b ps e=>⟨#[],by rw[e];simp⟩) (fun _ _ e=>e) (fun m hm=>?_) (fun b u e=>?_) I.bare
 .have e:b=it:=by simpa using hb
  subst e;exact⟨h1,Z,h2,h3⟩
 .obtain⟨o,es,ep,ho,r⟩:=hm;exact⟨o,es,ep,k _ o (qp1 Z) ho,r⟩
 .refine(I.hok b u e).stay (fun c v O q=>k c v ?_ q) (fun _ q=>q) (fun _ _ q=>q) fun _ _ _ q=>q
  rcases O with z|z
  .rw[z];exact Y b u e
  .exact Y c _ z
theorem Inv.tok(I:Inv X J1 σ H s)(t:Nat):Inv X J1 σ H {s with toks:=t}:=I.un (h':=s.heap) (t':=t) Un.refl I.hok
theorem Inv.kept(I:Inv X J1 σ H s)(k:∀b u,s.heap.get? b=some u->h'.get? b=some u):Inv X J1 σ H {s with heap:=h',toks:=t'}:=I.un (Un.kept k) (I.hok.kept k)
theorem Inv.laid (I:Inv X J1 σ H s) (k:∀ b u,s.heap.get? b=some u->h'.get? b=some u) (hp:s.heap.objs.size<=a) (new:ObjOk X.prog X.w (upd H a o) h' a o) :
  Inv X J1 σ (upd H a o) {s with heap:=h',toks:=t'}:=I.un (Un.laid k hp (I.hok.fresh hp)) (I.hok.laid k hp new)
theorem Inv.write{x e:J9}(I:Inv X J1 σ H s)(Y:Mut (H x))(O:e=x∨H e=some (.own x))(k:∀b u,b≠e->s.heap.get? b=some u->h'.get? b=some u)(q:∃u,h'.get? e=some u)(new:ObjOk X.prog X.w (upd H x o) h' x o):Inv X J1 σ (upd H x o) {s with heap:=h',toks:=t'}:=I.un (Un.write Y O k q) (I.hok.write Y O k q new)
theorem Inv.weak{q:List (Option V)}(I:Inv X J1 σ H s)(hl:q.length=σ.length)(w:∀(i:Nat) v,q[i]?=some (some v)->σ[i]?=some (some v)):Inv X J1 q H s:=⟨I.ok,I.os,I.bare,I.base,let ⟨m,hn,hl'⟩:=I.loc;⟨m,hn,fun i x v Z O Y=>hl' i x v Z (w i v O) Y⟩,I.cell,I.free,I.freeC,I.pin,I.hok,hl.trans I.len⟩
theorem Inv.pins_of{q:List (J9×Obj)}(I:Inv X J1 σ H s)(h:∀p∈q,s.heap.get? p.1=some p.2/\H p.1=none/\p.1≠X.env.locals/\p.1∉X.fs/\∀v,p.2.data≠.cell v):Inv X q σ H s:=⟨I.ok,I.os,I.bare,I.base,I.loc,I.cell,I.free,I.freeC,fun p hp=>(qj4.mp hp).elim (fun z=>I.pin p (qh0 _ z)) (h p),I.hok,I.len⟩
theorem n9(Y:N.Nodup)(a:N[i]?=some x)(b:N[j]?=some x):i=j:=by obtain⟨h1,O⟩:=gX a;obtain⟨h2,q⟩:=gX b;exact(List.getElem_inj Y).mp (O.trans q.symm)
theorem lN(I:Inv X J1 σ H s)(hN:X.N.Nodup)(hi:X.N[i]?=some x)(hx:Loc X.env.scope x)(r:RelV v u)
 (h:∀s',Inv X J1 (σ.set i (some v)) H s'->(∃a,qo0 a s.heap s'.heap/\(a=X.env.locals∨X.env.cells.lookup x=some a))->Q () s') (hf:X.fn x=true∨X.env.scope.names.lookup x=some .local:=by first|exact .inl rfl|exact .inr rfl|assumption):wpAny M A (zc6 X.env x u) Q E s:=by
 obtain⟨m,hn,hl⟩:=id I.loc;have hcls:(X.env.scope.kind==.class||(X.env.scope.kind==.module&&X.env.locals != X.env.globals))=false:=by rw[I.ok.kind];rfl
 have hiσ:i<σ.length:=by rw[I.len];exact(gX hi).1
 have cne:=I.cne
 have Y:∀{a:J9}{h':Heap},(∃o,s.heap.get? a=some o/\H a=none)->qo0 a s.heap h'->HOk X.prog X.w H h':=fun {a h'} ha O b ob e=>by
  obtain⟨_,_,hfree⟩:=ha;refine(I.hok b ob e).stay (fun c w' hc q=>(O.2 c ?_).trans q) (fun _ q=>q) (fun _ _ q=>q) fun _ _ _ q=>q
  rintro rfl;rcases hc with rfl|hc
  .rw[hfree]at e;cases e
  .rw[hfree]at hc;cases hc
 rcases hx with hk|hk
 .refine zc7 hk hn (fun h' hn' O=>?_) hcls;obtain⟨oL,_,_,hoL,_⟩:=id hn;refine h _ ⟨I.ok,I.os,I.bare,⟨fun b o e n hb hx=>?_,fun b o e n hb hx=>?_,I.base.free,fun b o e hx=>?_,I.base.tups,I.base.frzs,I.base.tbls,I.base.cts⟩,⟨_,hn',fun j y v' Z e2 e3=>?_⟩,fun y c e=>?_,I.free,I.freeC,fun p hp=>?_,Y ⟨oL,hoL,I.free⟩ O,by simpa using I.len⟩ ⟨_,O,.inl rfl⟩
  .exact(O.2 b (qc1 (qc2 (qa7 e) I.ok.above))).trans (I.base.keep b o e n hb hx)
  .obtain⟨sl,Z⟩:=I.base.slot b o e n hb hx;exact⟨sl,(O.2 b (qc1 (qc2 (qa7 e) I.ok.above))).trans Z⟩
  .obtain⟨o',Z⟩:=I.base.there b o e hx;exact⟨o',(O.2 b (qc1 (qc2 (qa7 e) I.ok.above))).trans Z⟩
  .by_cases hj:j=i
   .subst hj;rw[hi]at Z;cases Z
    rw[qf2 hiσ]at e2;cases e2;exact⟨u,r,.inl ⟨hk,by simp⟩⟩
   .rw[gN (qp1 hj)]at e2;obtain⟨u',r',q⟩:=hl j y v' Z e2 e3;refine⟨u',r',?_⟩;rcases q with ⟨k,e⟩|⟨k,c,e,z⟩
    .refine .inl ⟨k,?_⟩;have:y≠x:=fun e=>hj (n9 hN Z (e▸hi))
     simp[this,e]
    .exact .inr ⟨k,c,e,z.sameBut O (cne y c e)⟩
  .obtain⟨w',z⟩:=I.cell y c e;exact⟨w',z.sameBut O (cne y c e)⟩
  .obtain⟨e,n,ne,nf,d⟩:=I.pin p hp;exact⟨(O.2 p.1 ne).trans e,n,ne,nf,d⟩
 .have hfn:X.fn x=true:=by
   rcases hf with z|z
   .exact z
   .rw[z]at hk;cases hk
  obtain⟨c,hc⟩:=I.ok.has x (.inl hk);obtain⟨w',z⟩:=I.cell x c hc;refine wpAny_storeName_cell I.ok.kind hk hc z (fun h' hc' O=>?_);obtain⟨oc,hoc,hocd⟩:=id z;refine h {s with heap:=h'} ⟨I.ok,I.os,I.bare,⟨fun b o e n hb hx=>?_,fun b o e n hb hx=>?_,I.base.free,fun b o e hx=>?_,I.base.tups,I.base.frzs,I.base.tbls,I.base.cts⟩,⟨m,hn.sameBut O (qp1 (cne x c hc)),fun j y v' Z e2 e3=>?_⟩,fun y c' e=>?_,I.free,I.freeC,fun p hp=>?_,Y ⟨oc,hoc,I.freeC x c hc⟩ O,by simpa using I.len⟩ ⟨c,O,.inr hc⟩
  .exact(O.2 b (qc1 (qc2 (qa7 e) (I.ok.cab x c hfn hc)))).trans (I.base.keep b o e n hb hx)
  .obtain⟨sl,Z⟩:=I.base.slot b o e n hb hx;exact⟨sl,(O.2 b (qc1 (qc2 (qa7 e) (I.ok.cab x c hfn hc)))).trans Z⟩
  .obtain⟨o',Z⟩:=I.base.there b o e hx;exact⟨o',(O.2 b (qc1 (qc2 (qa7 e) (I.ok.cab x c hfn hc)))).trans Z⟩
  .by_cases hj:j=i
   .subst hj;rw[hi]at Z;cases Z
    rw[qf2 hiσ]at e2;cases e2;exact⟨u,r,.inr ⟨.inl hk,c,hc,hc'⟩⟩
   .rw[gN (qp1 hj)]at e2;obtain⟨u',r',q⟩:=hl j y v' Z e2 e3;refine⟨u',r',?_⟩;rcases q with q|⟨k,c',e,z'⟩
    .exact .inl q
    .refine .inr ⟨k,c',e,z'.sameBut O ?_⟩;rintro rfl;exact hj (n9 hN Z (I.ok.inj _ _ _ e hc▸hi))
  .by_cases hcc:c'=c
   .subst hcc;exact⟨_,hc'⟩
   .obtain⟨w2,z2⟩:=I.cell y c' e;exact⟨w2,z2.sameBut O hcc⟩
  .obtain⟨e,n,ne,nf,d⟩:=I.pin p hp;refine⟨(O.2 p.1 ?_).trans e,n,ne,nf,d⟩;intro q;rw[q,hoc]at e;have q':oc=p.2:=qd9 e;exact d w' (by rw[<- q'];exact hocd)
theorem iB(I:Inv X J1 σ H s)(Z:X.N.Nodup)(hi:X.N[i]?=some x)(q:Loc X.env.scope x)(r:RelV v u)
 (h:∀s',Inv X J1 (σ.set i (some v)) H s'->Q () s') (O:X.fn x=true∨X.env.scope.names.lookup x=some .local:=by first|exact .inl rfl|exact .inr rfl|assumption):wpAny M A (zc6 X.env x u) Q E s:=
 lN I Z hi q r (fun s' Y _=>h s' Y) O
theorem Inv.call'(I:Inv X J1 σ H s)(Z:s'.os=s.os)(u:Un (frs X.stack) ch H H' s.heap s'.heap)(q:HOk X.prog X.w H' s'.heap)(Y:zc5 s'.gens)
 (O:∀b∈ch,(b∈X.ex∨X.s₀.heap.objs.size<=b)/\b≠X.env.locals/\(∀x c,X.env.cells.lookup x=some c->c≠b)/\∀p∈X.pn++J1,p.1≠b):Inv X J1 σ H' s':=by
 obtain⟨h',g',d',t',o'⟩:=s';have e:o'=s.os:=Z;subst e;exact I.call (g':=g') (t':=t') (d':=d') u q Y O
end
abbrev XK:=Value->Option J9->Hp->Prop
abbrev St:=List (Option V)
abbrev VK:=V->Hp->Prop
abbrev TE:=St->Hp->VK->Prop
abbrev TT:=St->Hp->(Bool->Hp->Prop)->Prop
abbrev TA:=St->Hp->(List V->Hp->Prop)->Prop
structure Ends where
 nx:St->Hp->Prop
 rt:VK
 bk:St->Hp->Prop:=fun _ _=>False
 ct:St->Hp->Prop:=fun _ _=>False
abbrev TS:=Ends->St->Hp->Prop
def EP(X:Cx)(J1:List (J9×Obj))(σ:St)(Q:VK)(u:Value)(s':qa4):Prop:=∃v H',Inv X J1 σ H' s'/\RelV v u/\Q v H'
def TP(X:Cx)(J1:List (J9×Obj))(σ:St)(Q:Bool->Hp->Prop)(b:Bool)(s':qa4):Prop:=∃H',Inv X J1 σ H' s'/\Q b H'
def AP(X:Cx)(J1:List (J9×Obj))(σ:St)(Q:List V->Hp->Prop)(us:List Value)(s':qa4):Prop:=∃vs H',Inv X J1 σ H' s'/\Vals vs us/\Q vs H'
noncomputable def SP(X:Cx)(J1:List (J9×Obj))(D:Ends)(f:Flow)(s':qa4):Prop:=
 match f with
 |.next=>∃q H',Inv X J1 q H' s'/\D.nx q H'
 |.brk=>∃q H',Inv X J1 q H' s'/\D.bk q H'
 |.cont=>∃q H',Inv X J1 q H' s'/\D.ct q H'
 |.ret u=>∃v q H',Inv X J1 q H' s'/\RelV v u/\D.rt v H'
def PE(X:Cx)(e:Jc)(t:TE):Prop:=∀(J1:List (J9×Obj))(s:qa4)(σ:St)(H:Hp)(Q:VK),Inv X J1 σ H s->t σ H Q->wpAny (model X.prog X.w) X.A (eval e X.env) (EP X J1 σ Q) X.xe s
noncomputable def PT(X:Cx)(e:Jc)(t:TT):Prop:=∀(J1:List (J9×Obj))(s:qa4)(σ:St)(H:Hp)(Q:Bool->Hp->Prop),Inv X J1 σ H s->t σ H Q->wpAny (model X.prog X.w) X.A (isTrue e X.env (eval e X.env)) (TP X J1 σ Q) X.xe s
noncomputable def PW(X:Cx)(e:Jc)(t:TT):Prop:=∀(q:Sem Value)(J1:List (J9×Obj))(s:qa4)(σ:St)(H:Hp)(Q:Bool->Hp->Prop),Inv X J1 σ H s->t σ H Q->wpAny (model X.prog X.w) X.A (isTrue e X.env q) (TP X J1 σ Q) X.xe s
variable{X:Cx}{e:Jc}
theorem PW.pt{t:TT}(h:PW X e t):PT X e t:=h _
noncomputable def PA(X:Cx)(es:List Jc)(t:TA):Prop:=∀(pos:Pos)(J1:List (J9×Obj))(s:qa4)(σ:St)(H:Hp)(Q:List V->Hp->Prop),Inv X J1 σ H s->t σ H Q->wpAny (model X.prog X.w) X.A (spliced (qj9 pos (qa9 es X.env))) (AP X J1 σ Q) X.xe s
def PS(X:Cx)(st:Jb)(t:TS):Prop:=∀(J1:List (J9×Obj))(s:qa4)(σ:St)(H:Hp)(D:Ends),Inv X J1 σ H s->t D σ H->wpAny (model X.prog X.w) X.A (exec st X.env) (SP X J1 D) X.xe s
def PSs(X:Cx)(st:List Jb)(t:TS):Prop:=∀(J1:List (J9×Obj))(s:qa4)(σ:St)(H:Hp)(D:Ends),Inv X J1 σ H s->t D σ H->wpAny (model X.prog X.w) X.A (execs st X.env) (SP X J1 D) X.xe s
variable{s:qa4}
theorem thn{α:Type}{t:Sem α}{Q q:α->qa4->Prop}(h:wpAny M A t Q E s)(O:∀a s,Q a s->q a s):wpAny M A t q E s:=qk6 h O fun _ _ x=>x
variable{J1:List (J9×Obj)}{σ:St}{R:V->V->Hp->Prop}{pos:Pos}{c:Jc}
section
variable{X:Cx}
theorem bin{a b:Jc}{ta tb:TE}(ha:PE X a ta)(Z:PE X b tb)(I:Inv X J1 σ H s)(h:ta σ H fun x H1=>tb σ H1 fun y H2=>R x y H2)
 {α:Type} {Q:α->qa4->Prop} {f:Value->Value->Sem α}
 (hf:∀v u Y x y H2,Inv X J1 σ H2 Y->RelV x v->RelV y u->R x y H2->wpAny (model X.prog X.w) X.A (f v u) Q X.xe Y) :
  wpAny (model X.prog X.w) X.A (eval a X.env) (fun v q=>wpAny (model X.prog X.w) X.A (eval b X.env) (fun u O=>wpAny (model X.prog X.w) X.A (f v u) Q X.xe O) X.xe q) X.xe s:=by
 refine thn (ha J1 s σ H _ I h) fun v s1 ⟨x,H1,I1,r1,q1⟩=>?_
 refine thn (Z J1 s1 σ H1 _ I1 q1) fun u Y ⟨y,H2,I2,r2,q2⟩=>?_
 exact hf v u Y x y H2 I2 r1 r2 q2
def iC(i:Nat):TE:=fun σ H Q=>∃v,σ[i]?=some (some v)/\Q v H
def tC(v:V):TE:=fun _ H Q=>Q v H
theorem AZ(hN:X.N[i]?=some x)(hv:Vis X.env.scope x)(Z:(x==("__debug__":Str))=false:=by decide)(Y:(x==("__classdict__":Str))=false:=by decide):PE X (.Name x pos) (iC i):=by
 intro J1 s σ H Q I h;obtain⟨v,e,h⟩:=h;obtain⟨m,hn,hl⟩:=I.loc;obtain⟨u,r,l⟩:=hl i x v hN e hv;have O:EP X J1 σ Q u s:=⟨v,H,I,r,h⟩;rcases l with ⟨hk,hm⟩|⟨hk,c,hc,q⟩
 .exact wpAny_Name (wpAny_loadName_local I.ok.kind hk hn hm O) Z
 .rcases hk with hk|hk
  .exact wpAny_Name (wpAny_loadName_cell I.ok.kind hk hc q O) Z
  .exact wpAny_Name (wpAny_loadName_free I.ok.kind hk hc q O Y) Z
theorem A0{i j pos}:PE X (.Constant (.int i) j pos) (tC (.int i)):=fun _ _ _ H _ I h=>wpAny_Constant_int ⟨.int i,H,I.tok _,⟨_,rfl⟩,h⟩
theorem DC{b j pos}:PE X (.Constant (.bool b) j pos) (tC (.bl b)):=fun _ _ _ H _ I h=>Constant_bool ⟨.bl b,H,I,rfl,h⟩
theorem A1{j pos}:PE X (.Constant .none j pos) (tC .non):=fun _ _ _ H _ I h=>Constant_none ⟨.non,H,I,rfl,h⟩
theorem A2{x j pos}:PE X (.Constant (.str x) j pos) (tC (.str x)):=fun _ _ _ H _ I h=>Calls.Constant_str ⟨.str x,H,I.tok _,⟨_,rfl⟩,h⟩
def Gl(X:Cx)(x:Str):Prop:=X.env.kindOf x=some .globalImplicit
theorem mO{Q:Value->qa4->Prop}(I:Inv X J1 σ H s)(q:Gl X x)(O:X.mg x=some u)(h:Q u s)
 (Y:(x==("__debug__":Str))=false:=by decide):wpAny (model X.prog X.w) X.A (eval (.Name x pos) X.env) Q E s:=
 qx4 I.ok.kind q (Calls.loadGlobal_global (by rw[I.ok.glob];exact I.mod.glob.keeps I.bk) O h) Y
theorem fT{Q:Value->qa4->Prop}(I:Inv X J1 σ H s)(q:Gl X x)(O:X.mg x=none)(hv:qd7 x=some u)(h:Q u s)
 (Y:x≠"__name__":=by decide) (Z:(x==("__debug__":Str))=false:=by decide):wpAny (model X.prog X.w) X.A (eval (.Name x pos) X.env) Q E s:=by
 obtain⟨mb,h1,h2⟩:=I.mod.blt;exact qx4 I.ok.kind q (Calls.loadGlobal_builtin (by rw[I.ok.glob];exact I.mod.glob.keeps I.bk) O (by rw[I.ok.blt];exact h1.keeps I.bk) ((h2 x Y).trans hv) h) Z
theorem xF(q:Gl X x)(O:X.mg x=some u)(r:RelV v u)(Y:(x==("__debug__":Str))=false:=by decide):PE X (.Name x pos) (tC v):=fun _ _ _ H _ I h=>mO I q O ⟨v,H,I,r,h⟩ Y
theorem xG(q:Gl X x)(O:X.mg x=none)(hv:qd7 x=some u)(r:RelV v u)(Y:x≠"__name__":=by decide)(Z:(x==("__debug__":Str))=false:=by decide):PE X (.Name x pos) (tC v):=fun _ _ _ H _ I h=>fT I q O hv ⟨v,H,I,r,h⟩ Y Z
variable{a b:Jc}{ta tb:TE}{pos:Pos}
noncomputable def PC(X:Cx)(Y:CmpOp)(a b:Jc)(t:TE):Prop:=
 ∀(J1:List (J9×Obj))(s:qa4)(σ:St)(H:Hp)(Q:VK),Inv X J1 σ H s->t σ H Q→
  wpAny (model X.prog X.w) X.A (eval a X.env) (fun v O=>wpAny (model X.prog X.w) X.A (eval b X.env) (fun u q=>wpAny (model X.prog X.w) X.A (qg5 Y v u) (EP X J1 σ Q) X.xe q) X.xe O) X.xe s
def tB(t:TE):TT:=fun σ H Q=>t σ H fun x H1=>∃c,x=.bl c/\Q c H1
theorem A3{q:CmpOp}{t:TE}(h:PC X q a b t)(h1:qh5 q b=false:=by first|exact nobehind _ (by decide) (by decide)|rfl):PE X (.Compare a [q] [b] pos) t:=fun J1 s σ H Q I O=>wpAny_Compare1 (h J1 s σ H Q I O) h1
theorem mP{O:CmpOp}{t:TE}(h:PC X O a b t)(h1:qh5 O b=false:=by first|exact nobehind _ (by decide) (by decide)|rfl):PT X (.Compare a [O] [b] pos) (tB t):=by intro J1 s σ H Q I Z;refine zc8 (thn (h J1 s σ H _ I Z) fun v s1 h1=>thn h1 fun u s2 h2=>thn h2 fun c s3 ⟨x,H1,Y,r1,q1⟩=>?_) h1;obtain⟨d,rfl,q⟩:=q1;cases r1;exact qk7 ⟨H1,Y,q⟩
variable{tA tB':TT}{rest:List Jc}
def tAnd(t u:TT):TT:=fun σ H Q=>t σ H fun c H1=>if c=true then u σ H1 Q else Q false H1
def tOr(t u:TT):TT:=fun σ H Q=>t σ H fun c H1=>if c=true then Q true H1 else u σ H1 Q
def tNot(t:TT):TT:=fun σ H Q=>t σ H fun c H1=>Q (!c) H1
theorem xH(q:PT X a tA):PW X (.BoolOp .And [a] pos) tA:=by
 intro O J1 s σ H Q I h;refine isTrue_and (thn (q J1 s σ H Q I h) fun c s1 e=>?_);cases c with
 |true=>exact isTrue_and_nil e
 |false=>exact e
theorem A4(q:PT X a tA):PW X (.BoolOp .Or [a] pos) tA:=by
 intro O J1 s σ H Q I h;refine isTrue_or (thn (q J1 s σ H Q I h) fun c s1 e=>?_);cases c with
 |false=>exact isTrue_or_nil e
 |true=>exact e
theorem A5(Z:PT X a tA)(O:PW X (.BoolOp .And (b::rest) pos) tB'):PW X (.BoolOp .And (a::b::rest) pos) (tAnd tA tB'):=by
 intro Y J1 s σ H Q I h;refine isTrue_and (thn (Z J1 s σ H _ I h) fun c s1 ⟨H1,q,q1⟩=>?_);cases c with
 |true=>exact O Y J1 s1 σ H1 Q q q1
 |false=>exact⟨H1,q,q1⟩
theorem DD(Z:PT X a tA)(O:PW X (.BoolOp .Or (b::rest) pos) tB'):PW X (.BoolOp .Or (a::b::rest) pos) (tOr tA tB'):=by
 intro Y J1 s σ H Q I h;refine isTrue_or (thn (Z J1 s σ H _ I h) fun c s1 ⟨H1,q,q1⟩=>?_);cases c with
 |true=>exact⟨H1,q,q1⟩
 |false=>exact O Y J1 s1 σ H1 Q q q1
theorem A6(q:PT X a tA):PT X (.UnaryOp .Not a pos) (tNot tA):=by intro J1 s σ H Q I h;exact isTrue_not (q J1 s σ H (fun c H1=>Q (!c) H1) I h)
def DE(ta tb:TE):TE:=fun σ H Q=>ta σ H fun x H1=>∃c,x=.bl c/\if c=true then tb σ H1 Q else Q (.bl false) H1
def DF(ta:TE):TE:=fun σ H Q=>ta σ H fun x H1=>∃c,x=.bl c/\Q (.bl (!c)) H1
theorem A7{op}{t:TE}(h:PE X a t):PE X (.BoolOp op [a] pos) t:=fun J1 s σ H Q I q=>BoolOp_one (h J1 s σ H Q I q)
theorem A8(Z:PE X a ta)(O:PE X (.BoolOp .And (b::rest) pos) tb):PE X (.BoolOp .And (a::b::rest) pos) (DE ta tb):=by
 intro J1 s σ H Q I h;refine BoolOp_and (thn (Z J1 s σ H _ I h) fun v s1 ⟨x,H1,q,Y,q1⟩=>?_);obtain⟨c,rfl,q1⟩:=q1;cases Y;refine qk7 ?_;cases c with
 |true=>exact O J1 s1 σ H1 Q q q1
 |false=>exact⟨.bl false,H1,q,rfl,q1⟩
theorem A9(Y:PE X a ta):PE X (.UnaryOp .Not a pos) (DF ta):=by intro J1 s σ H Q I h;refine UnaryOp_ (thn (Y J1 s σ H _ I h) fun v s1 ⟨x,H1,q,O,q1⟩=>?_);obtain⟨c,rfl,q1⟩:=q1;cases O;exact not_of (qk7 ⟨.bl (!c),H1,q,rfl,q1⟩)
def tIf(t:TT)(ta tb:TE):TE:=fun σ H Q=>t σ H fun c H1=>if c=true then ta σ H1 Q else tb σ H1 Q
theorem uA(Y:PT X c tA)(Z:PE X a ta)(O:PE X b tb):PE X (.IfExp c a b pos) (tIf tA ta tb):=by
 intro J1 s σ H Q I h;refine wpAny_IfExp (thn (Y J1 s σ H _ I h) fun d s1 ⟨H1,q,q1⟩=>?_);cases d with
 |true=>exact Z J1 s1 σ H1 Q q q1
 |false=>exact O J1 s1 σ H1 Q q q1
end
noncomputable def SqL(K:xA9)(H:Hp)(a:J9)(xs:List V):Prop:=Rd H a (.lst xs)∨∃(o:Obj)(J8:Array Value)(n:Nat),K.lookup a=some o/\o.cls=.type "list"/\o.dict=none/\o.data=.seq J8 n/\J8.size<=qb4/\Vals xs J8.toList
noncomputable def SqT(K:xA9)(H:Hp)(a:J9)(xs:List V):Prop:=H a=some (.tup xs)∨∃(o:Obj)(J8:Array Value)(n:Nat),K.lookup a=some o/\o.cls=.type "tuple"/\o.data=.seq J8 n/\J8.size<=qb4/\Vals xs J8.toList
noncomputable def absV:Value->Option V
 |.none=>some .non
 |.bool b=>some (.bl b)
 |.int i _=>some (.int i)
 |.str x _=>some (.str x)
 |.bytes b _=>some (.byt b)
 |.float b _=>some (.flt b)
 |.ref a=>some (.ref a)
 |.type n=>some (.ty n)
 |_=>none
theorem RelV.abs{x:V}(r:RelV x u):absV u=some x:=by
 cases x with
 |non=>cases r;rfl
 |bl _=>cases r;rfl
 |int _=>obtain⟨t,rfl⟩:=r;rfl
 |str _=>obtain⟨t,rfl⟩:=r;rfl
 |byt _=>obtain⟨t,rfl⟩:=r;rfl
 |flt _=>obtain⟨t,rfl⟩:=r;rfl
 |ref _=>cases r;rfl
 |ty _=>cases r;rfl
variable{y:V}
theorem RelV.inj{x:V}(r:RelV x u)(q:RelV y u):x=y:=qd9 (r.abs.symm.trans q.abs)
theorem Vals.inj:∀{xs ys:List V}{us:List Value},Vals xs us->Vals ys us->xs=ys
 |_,_,_,.nil,.nil=>rfl
 |_,_,_,.cons r t,.cons q t'=>by rw[r.inj q,Vals.inj t t']
variable{K:xA9}
section
variable{X:Cx}{J1:List (J9×Obj)}{σ:St}{H:Hp}{s:qa4}{a:J9}{xs ys:List V}
theorem SqL.of(h:H a=some (.lst xs)):SqL K H a xs:=.inl (.inl h)
theorem SqT.of(h:H a=some (.tup xs)):SqT K H a xs:=.inl h
theorem Inv.list(I:Inv X J1 σ H s)(h:SqL X.K H a xs):∃J8:List Value,Vals xs J8/\PlainL s.heap a J8.toArray/\xs.length<=qb4:=by
 rcases h with h|⟨o,J8,n,hk,O,q,Y,Z,r⟩
 .obtain⟨z,J8,n,r,e⟩:=h.ok I.hok;exact⟨J8,r,⟨_,n,e,rfl,rfl,rfl⟩,z⟩
 .refine⟨J8.toList,r,⟨o,n,I.kIn a o hk,O,q,by simpa using Y⟩,?_⟩;have e:=r.length;simp only[qe3]at e;lia
theorem Inv.tuple(I:Inv X J1 σ H s)(h:SqT X.K H a xs):∃J8:List Value,Vals xs J8/\IsTup s.heap a J8.toArray/\xs.length<=qb4:=by
 rcases h with h|⟨o,J8,n,hk,q,O,Y,r⟩
 .obtain⟨z,J8,r,p⟩:=(Rd.of h).ok I.hok;exact⟨J8,r,p,z⟩
 .refine⟨J8.toList,r,⟨o,I.kIn a o hk,q,n,by simpa using O⟩,?_⟩;have e:=r.length;simp only[qe3]at e;lia
theorem Inv.list_inj(I:Inv X J1 σ H s)(h:SqL X.K H a xs)(h':SqL X.K H a ys):xs=ys:=by
 obtain⟨J8,r,⟨o,n,e,_,_,d⟩,_⟩:=I.list h;obtain⟨its',O,⟨o',Z,q,_,_,d'⟩,_⟩:=I.list h';rw[e]at q;cases q
 rw[d]at d';injection d' with Y _;have:J8=its':=by simpa using congrArg Array.toList Y
 subst this;exact r.inj O
theorem Inv.tuple_inj(I:Inv X J1 σ H s)(h:SqT X.K H a xs)(h':SqT X.K H a ys):xs=ys:=by
 obtain⟨J8,r,⟨o,e,_,n,d⟩,_⟩:=I.tuple h;obtain⟨its',O,⟨o',q,_,Z,d'⟩,_⟩:=I.tuple h';rw[e]at q;cases q
 rw[d]at d';injection d' with Y _;have:J8=its':=by simpa using congrArg Array.toList Y
 subst this;exact r.inj O
end
abbrev Cx.wish(X:Cx)(E:Value->qa4->Prop):Cx:={X with xe:=E}
abbrev Cx.nox(X:Cx):Cx:=X.wish fun _ _=>False
theorem Cx.Ok.wish(ok:X.Ok)(E:Value->qa4->Prop):(X.wish E).Ok:=⟨ok.mod,ok.kind,ok.glob,ok.blt,ok.above,ok.inj,ok.has,ok.cab,ok.hd,ok.frames,ok.stk,ok.exf,ok.bs,ok.bsz,ok.noex,ok.exfs,ok.funs,ok.frf,ok.tb⟩
theorem Cx.Ok.unwish(ok:(X.wish E).Ok):X.Ok:=⟨ok.mod,ok.kind,ok.glob,ok.blt,ok.above,ok.inj,ok.has,ok.cab,ok.hd,ok.frames,ok.stk,ok.exf,ok.bs,ok.bsz,ok.noex,ok.exfs,ok.funs,ok.frf,ok.tb⟩
section
variable{X:Cx}{J1:List (J9×Obj)}{σ:St}{H:Hp}{s:qa4}{E:Value->qa4->Prop}
theorem Inv.wish(I:Inv X J1 σ H s)(E:Value->qa4->Prop):Inv (X.wish E) J1 σ H s:=⟨I.ok.wish E,I.os,I.bare,I.base,I.loc,I.cell,I.free,I.freeC,I.pin,I.hok,I.len⟩
theorem Inv.unwish(I:Inv (X.wish E) J1 σ H s):Inv X J1 σ H s:=⟨I.ok.unwish,I.os,I.bare,I.base,I.loc,I.cell,I.free,I.freeC,I.pin,I.hok,I.len⟩
theorem SP.unwish{D:Ends}{f:Flow}(h:SP (X.wish E) J1 D f s'):SP X J1 D f s':=by
 cases f with
 |next=>obtain⟨O,H',I,q⟩:=h;exact⟨O,H',I.unwish,q⟩
 |brk=>obtain⟨O,H',I,q⟩:=h;exact⟨O,H',I.unwish,q⟩
 |cont=>obtain⟨O,H',I,q⟩:=h;exact⟨O,H',I.unwish,q⟩
 |ret u=>obtain⟨v,O,H',I,r,q⟩:=h;exact⟨v,O,H',I.unwish,r,q⟩
theorem PSs.nox{st:List Jb}{t:TS}(h:PSs X.nox st t):PSs X st t:=fun J1 s σ H D I O=>qk6 (h J1 s σ H D (I.wish _) O) (fun _ _ q=>q.unwish) fun _ _ z=>qg2 z
end
variable{tc:TT}
section
variable{X:Cx}{st:Jb}{rest:List Jb}{t u:TS}{e:Jc}{te:TE}{pos:Pos}
def DH:TS:=fun D σ H=>D.nx σ H
def tSeq(t u:TS):TS:=fun D σ H=>t {D with nx:=u D} σ H
theorem xI:PSs X [] DH:=fun _ _ σ H _ I h=>qw5 ⟨σ,H,I,h⟩
theorem iD(h1:PS X st t)(h2:PSs X rest u):PSs X (st::rest) (tSeq t u):=by
 intro J1 s σ H D I h;refine wpAny_execs_cons (thn (h1 J1 s σ H {D with nx:=u D} I h) fun f s1 q=>?_);cases f with
 |next=>obtain⟨O,H',Y,q⟩:=q;exact h2 J1 s1 O H' D Y q
 |ret v=>exact q
 |brk=>exact q
 |cont=>exact q
theorem qS(h1:PS X st t):PSs X [st] t:=by
 intro J1 s σ H D I h;refine wpAny_execs_cons (thn (h1 J1 s σ H D I h) fun f s1 q=>?_);cases f with
 |next=>exact qw5 q
 |ret v=>exact q
 |brk=>exact q
 |cont=>exact q
theorem Inv.quiet(I:Inv X J1 σ H s):interactive X.env=false:=by simp[interactive,I.ok.kind]
def DI(te:TE):TS:=fun D σ H=>te σ H fun _ H1=>D.nx σ H1
theorem qT(Y:PE X e te)(O:qn0 e none pos.line X.env=pure false:=by rfl):PS X (.Expr e pos) (DI te):=by intro J1 s σ H D I h;exact wpAny_Expr_any (thn (Y J1 s σ H _ I h) fun v s1 ⟨x,H1,q,Z,q1⟩=>⟨σ,H1,q,q1⟩) I.quiet O
def tRet(te:TE):TS:=fun D σ H=>te σ H D.rt
theorem pO(q:PE X e te):PS X (.Return (some e) pos) (tRet te):=by intro J1 s σ H D I h;exact wpAny_Return_some (thn (q J1 s σ H _ I h) fun v s1 ⟨x,H1,O,Y,q1⟩=>⟨x,σ,H1,O,Y,q1⟩)
def tIfS(c:TT)(t u:TS):TS:=fun D σ H=>c σ H fun b H1=>if b=true then t D σ H1 else u D σ H1
theorem DJ{a b:List Jb}(Y:PT X c tc)(Z:PSs X a t)(O:PSs X b u):PS X (.If c a b pos) (tIfS tc t u):=by
 intro J1 s σ H D I h;refine wpAny_If (thn (Y J1 s σ H _ I h) fun d s1 ⟨H1,q,q1⟩=>?_);cases d with
 |true=>exact Z J1 s1 σ H1 D q q1
 |false=>exact O J1 s1 σ H1 D q q1
end
abbrev TG:=V->St->Hp->(St->Hp->Prop)->Prop
abbrev TGs:=List V->St->Hp->(St->Hp->Prop)->Prop
noncomputable def PG(X:Cx)(q:Jc)(t:TG):Prop:=
 ∀(J1:List (J9×Obj))(s:qa4)(σ:St)(H:Hp)(v:V)(u:Value)(Q:St->Hp->Prop),Inv X J1 σ H s->RelV v u->t v σ H Q→
  wpAny (model X.prog X.w) X.A (zc9 q X.env u) (fun _ s'=>∃O H',Inv X J1 O H' s'/\Q O H') X.xe s
noncomputable def PGs(X:Cx)(ts:List Jc)(t:TGs):Prop:=
 ∀(J1:List (J9×Obj))(s:qa4)(σ:St)(H:Hp)(vs:List V)(us:List Value)(Q:St->Hp->Prop),Inv X J1 σ H s->Vals vs us->t vs σ H Q→
  wpAny (model X.prog X.w) X.A (assignInOrder ((qi7 ts X.env).map (·.2)) us) (fun _ s'=>∃q H',Inv X J1 q H' s'/\Q q H') X.xe s
abbrev Ba:=V->V->V->Hp->(Hp->Prop)->Prop
noncomputable def PSet(X:Cx)(t:Ba):Prop:=
 ∀(J1:List (J9×Obj))(s:qa4)(σ:St)(H:Hp)(o i v:V)(q O u:Value)(Q:Hp->Prop),Inv X J1 σ H s->RelV o q->RelV i O->RelV v u->t o i v H Q→
  wpAny (model X.prog X.w) X.A (setItem q O u) (fun _ s'=>∃H',Inv X J1 σ H' s'/\Q H') X.xe s
abbrev TIp:=V->V->Hp->VK->Prop
noncomputable def PIp(X:Cx)(q:Operator)(t:TIp):Prop:=
 ∀(J1:List (J9×Obj))(s:qa4)(σ:St)(H:Hp)(x y:V)(v u:Value)(Q:VK),Inv X J1 σ H s->RelV x v->RelV y u->t x y H Q→
  wpAny (model X.prog X.w) X.A (inplaceOp q v u) (EP X J1 σ Q) X.xe s
variable{es:List Jc}{n:Nat}{tg:Jc}{te:TE}{g:TG}{pos':Pos}
section
variable{X:Cx}{pos:Pos}
def kl(i:Nat):TG:=fun v σ H Q=>Q (σ.set i (some v)) H
theorem qU(Z:X.N.Nodup)(hi:X.N[i]?=some x)(q:Loc X.env.scope x)(O:X.fn x=true∨X.env.scope.names.lookup x=some .local:=by first|exact .inl rfl|exact .inr rfl|assumption):PG X (.Name x pos) (kl i):=by intro J1 s σ H v u Q I r h;exact wpAny_assign_Name (iB I Z hi q r (fun s' Y=>⟨_,H,Y,h⟩) O)
def gNil:TGs:=fun vs σ H Q=>vs=[]/\Q σ H
def DK(t:TG)(u:TGs):TGs:=fun vs σ H Q=>∃v r,vs=v::r/\t v σ H fun q H'=>u r q H' Q
theorem xJ:PGs X [] gNil:=by intro J1 s σ H vs us Q I r h;obtain⟨e,h⟩:=h;subst e;cases r;exact assignInOrder_nil ⟨σ,H,I,h⟩
theorem uB{t:TG}{u:TGs}(h1:PG X e t)(h2:PGs X es u)
 (Y:(qi7 (e::es) X.env).map (·.2)=zc9 e X.env::(qi7 es X.env).map (·.2):=by rfl):PGs X (e::es) (DK t u):=by
 intro J1 s σ H vs us Q I r h;obtain⟨v,vr,e1,h⟩:=h;subst e1;cases r with
 |cons r Z=>rw[Y];refine assignInOrder_cons (thn (h1 J1 s σ H _ _ _ I r h) fun _ s1 ⟨q,H1,O,q1⟩=>?_);exact h2 J1 s1 q H1 _ _ Q O Z q1
def gTup(K:xA9)(n:Nat)(t:TGs):TG:=fun v σ H Q=>∃a xs,v=.ref a/\SqT K H a xs/\xs.length=n/\t xs σ H Q
theorem Bb{k:Nat}{t:TGs}(hc:X.calm=true)(h:PGs X es t)
 (hn:(qi7 es X.env).length=n:=by rfl) (O:(qi7 es X.env).findIdx? (·.1)=none:=by rfl):PG X (.Tuple es k pos) (gTup X.K n t):=by
 intro J1 s σ H v u Q I r q;obtain⟨a,xs,e1,hq,hl,q⟩:=q;subst e1;cases r;obtain⟨J8,Y,Z,hz⟩:=I.tuple hq;refine assign_Tuple_tuple (I.ok.hd hc) Z (by simp[hn,<- hl,Y.length]) O fun h' hx=>?_
 have I1:Inv X J1 σ H {s with heap:=h'}:=I.kept (t':=s.toks) fun b o e=>hx b o (qc1 (qa7 e)) e
 exact h J1 _ σ H xs _ Q I1 (by simpa using Y) q
def gSub(to ti:TE)(t:Ba):TG:=fun v σ H Q=>to σ H fun o H1=>ti σ H1 fun i H2=>t o i v H2 fun q=>Q σ q
theorem Bc {o i:Jc} {to ti:TE} {t:Ba} (ho:PE X o to) (hi:PE X i ti) (hs:PSet X t)
  (ha:∀v,zc9 (.Subscript o i pos) X.env v=(do
   let q <- zd0 [v] (eval o X.env);let O <- zd0 [v,q] (eval i X.env)
   standAt pos
   zd0 [v,q,O] (setItem q O v)
   release [v,q,O] []):=by intro _;rfl):PG X (.Subscript o i pos) (gSub to ti t):=by
 intro J1 s σ H v u Q I r h;rw[ha];refine wB (qi1 (thn (ho J1 s σ H _ I h) fun q s1 ⟨x,H1,Z,r1,q1⟩=>?_));refine wB (qi1 (thn (hi J1 s1 σ H1 _ Z q1) fun O s2 ⟨y,H2,I2,r2,q2⟩=>?_));refine wB (za1 (wB (qi1 (thn (hs J1 s2 σ H2 x y v q O u _ I2 r1 r2 r q2) fun _ s3 ⟨Y,I3,q3⟩=>?_))));exact wpAny_release ⟨σ,Y,I3,q3⟩
def xK(te:TE)(g:TG):TS:=fun D σ H=>te σ H fun x H1=>g x σ H1 D.nx
theorem uC(he:PE X e te)(hg:PG X tg g)(Z:zg4 [tg] e pos.line X.env=pure false:=by rfl)(Y:zg5 [tg] e X.env=pure none:=by rfl)
 (h1:(qi7 [tg] X.env).map (·.2)=[zc9 tg X.env]:=by rfl):PS X (.Assign [tg] e pos) (xK te g):=by
 intro J1 s σ H D I h;refine wpAny_Assign_stores (thn (he J1 s σ H _ I h) fun v s1 ⟨x,H1,O,r1,q1⟩=>?_) Z Y;rw[h1];exact thn (hg J1 s1 σ H1 x v _ O r1 q1) fun _ s2 q=>q
theorem Bd (hN:X.N.Nodup) (hi:X.N[i]?=some x) (q:Loc X.env.scope x) (he:PE X e te) (Z:qn0 e (some (.Name x pos')) pos.line X.env=pure false:=by rfl) (hf:X.fn x=true∨X.env.scope.names.lookup x=some .local:=by first | exact .inl rfl | exact .inr rfl | assumption) :
  PS X (.Assign [.Name x pos'] e pos) (xK te (kl i)):=by
 intro J1 s σ H D I h;refine wpAny_Assign_Name (thn (he J1 s σ H _ I h) fun v s1 ⟨y,H1,O,r1,q1⟩=>?_) Z;exact iB O hN hi q r1 (fun s2 Y=>⟨_,H1,Y,q1⟩) hf
def tAug(i:Nat)(te:TE)(ti:TIp):TS:=fun D σ H=>∃x,σ[i]?=some (some x)/\te σ H fun y H1=>ti x y H1 fun z H2=>D.nx (σ.set i (some z)) H2
theorem Be {op:Operator} {ti:TIp} (hN:X.N.Nodup) (hi:X.N[i]?=some x) (Y:Loc X.env.scope x) (he:PE X e te) (ho:PIp X op ti) (hf:X.fn x=true∨X.env.scope.names.lookup x=some .local:=by first | exact .inl rfl | exact .inr rfl | assumption) :
  PS X (.AugAssign (.Name x pos') op e pos) (tAug i te ti):=by
 intro J1 s σ H D I h;obtain⟨v,e1,h⟩:=h;obtain⟨m,hn,hl⟩:=I.loc;have Z:Vis X.env.scope x:=by rcases Y with k|k;exact .inl k;exact .inr (.inl k)
 obtain⟨u,r,l⟩:=hl i x v hi e1 Z;refine wpAny_AugAssign_Name ?_
 have go:wpAny (model X.prog X.w) X.A (eval e X.env) (fun w O=>wpAny (model X.prog X.w) X.A (inplaceOp op u w) (fun r s₃=>wpAny (model X.prog X.w) X.A (zc6 X.env x r) (fun _=>SP X J1 D .next) X.xe s₃) X.xe O) X.xe s:=by
  refine thn (he J1 s σ H _ I h) fun w s1 ⟨y,H1,I1,r1,q1⟩=>?_
  refine thn (ho J1 s1 σ H1 v y u w _ I1 r r1 q1) fun z s2 ⟨zv,H2,I2,r2,q2⟩=>?_
  exact iB I2 hN hi Y r2 (fun s3 I3=>⟨_,H2,I3,q2⟩) hf
 rcases l with ⟨hk,hm⟩|⟨hk,c,hc,q⟩
 .exact wpAny_loadName_local I.ok.kind hk hn hm go
 .rcases hk with hk|hk
  .exact wpAny_loadName_cell I.ok.kind hk hc q go
  .rcases Y with k|k
   .have:X.env.scope.names.lookup x=some .free:=hk;rw[k]at this;cases this
   .have:X.env.scope.names.lookup x=some .free:=hk;rw[k]at this;cases this
def ipI(f:Int->Int->Int):TIp:=fun x y H Q=>∃i j,x=.int i/\y=.int j/\Q (.int (f i j)) H
theorem Bf:PIp X .Add (ipI fun i j=>i+j):=by intro J1 s σ H x y v u Q I Z O h;obtain⟨i,j,e1,Y,q⟩:=h;subst e1;subst Y;obtain⟨t,rfl⟩:=Z;obtain⟨t',rfl⟩:=O;exact iadd_int ⟨.int _,H,I.tok _,⟨_,rfl⟩,q⟩
end
variable{body:List Jb}{tb:TS}
section
variable{X:Cx}{pos:Pos}
noncomputable def Bg(c:TT)(tb:TS):TS:=fun D σ H=>∃W:Nat->St->Hp->Prop,(∃m,W m σ H)/\∀m σ H,W m σ H→
 c σ H fun b H1=>if b=true then ∃N:St->Hp->Prop,(∀q H',N q H'->∃O,O<m/\W O q H')/\tb {D with nx:=N,ct:=N,bk:=D.nx} σ H1 else D.nx σ H1
theorem uD(hp:zj0 (model X.prog X.w) X.A X.env X.xe)(hc:PT X c tc)(hb:PSs X body tb):PS X (.While c body [] pos) (Bg tc tb):=by
 intro J1 s σ H D I h;obtain⟨W,⟨m0,w0⟩,turn⟩:=h;refine wpAny_While (codeAny_whileLoop (fun n s'=>∃Z H',Inv X J1 Z H' s'/\W n Z H') ?_ m0 ⟨σ,H,I,w0⟩);rintro n s1 ⟨O,H1,I1,w1⟩;refine qn1 hp (thn (hc J1 s1 O H1 _ I1 (turn n O H1 w1)) fun b s2 ⟨H2,I2,q2⟩=>?_);cases b with
 |true=>
  obtain⟨N,hN,q2⟩:=q2;rw[if_pos rfl];refine qn1 hp (thn (hb J1 s2 O H2 _ I2 q2) fun f s3 q3=>?_);cases f with
  |next=>obtain⟨q,Y,I3,n3⟩:=q3;obtain⟨m',hm,w3⟩:=hN q Y n3;exact⟨m',hm,q,Y,I3,w3⟩
  |cont=>obtain⟨q,Y,I3,n3⟩:=q3;obtain⟨m',hm,w3⟩:=hN q Y n3;exact⟨m',hm,q,Y,I3,w3⟩
  |brk=>exact q3
  |ret v=>exact q3
 |false=>rw[if_neg qb8];exact qw5 ⟨O,H2,I2,q2⟩
end
structure It where
 go:Nat->Hp->Prop
 yld:Nat->Hp->V->Hp->Prop
 stop:Nat->Hp->Prop
def hV(X:Cx)(J1:List (J9×Obj))(H:Hp)(b:J9):Prop:=H b=none/\b≠X.env.locals/\b∉X.fs/\(b∈X.ex∨X.s₀.heap.objs.size<=b)/\(∀x c,X.env.cells.lookup x=some c->c≠b)/\∀p∈X.pn++J1,p.1≠b
theorem Inv.fpOk{H':Hp}(I:Inv X J1 σ H s)(O:s.heap.objs.size<=b)(Y:H' b=none):hV X J1 H' b:=by
 refine⟨Y,qm0 (qc2 I.lt O),I.nofs O,.inr (qb9 I.sz O),fun x c e z=>?_,fun p hp z=>?_⟩
 .obtain⟨v,q⟩:=I.cell x c e;exact absurd (qc2 q.lt (by rw[z];exact O)) (ql9 _)
 .exact absurd (qc2 (qa7 (I.pin p hp).1) (by rw[z];exact O)) (ql9 _)
structure Turn(P:qc9)(w:Ja)(K:xA9)(tg:Jc)(J:It)(fp:List J9)(it:J9)(tn:Nat->Heap->Prop):Prop where
 mem:it∈fp
 obj:∀i h,tn i h->∀b∈fp,∃o,h.get? b=some o/\∀v,o.data≠.cell v
 keep:∀i h h',tn i h->(∀b∈fp,∀o,h.get? b=some o->h'.get? b=some o)->tn i h'
 item:∀(X:Cx),X.prog=P->X.w=w->X.K=K->X.calm=true->∀(i:Nat)(J1:List (J9×Obj))(s:qa4)(σ:St)(H:Hp)(E:Value->qa4->Prop),Inv X J1 σ H s->(∀b∈fp,hV X J1 H b)->tn i s.heap->J.go i H→
  wpAny (model P w) X.A (qx7 (.ref it)) (fun r s1=>∃u,r=some u∧wpAny (model P w) X.A (qw6 tg (.ref it) u) (fun _ s2=>∃x H',Inv X J1 σ H' s2/\RelV x u/\J.yld i H x H'/\tn (i+1) s2.heap/\∀b∈fp,H' b=none) E s1) E s
 done:∀(X:Cx),X.prog=P->X.w=w->X.K=K->X.calm=true->∀(i:Nat)(J1:List (J9×Obj))(s:qa4)(σ:St)(H:Hp)(E:Value->qa4->Prop),Inv X J1 σ H s->(∀b∈fp,hV X J1 H b)->tn i s.heap->J.stop i H→
  wpAny (model P w) X.A (qx7 (.ref it)) (fun r s1=>r=none/\Inv X J1 σ H s1) E s
 self:∀(A:qe0)(i:Nat)(s:qa4)(Q E:Value->qa4->Prop),tn i s.heap->Q (.ref it) s->wpAny (model P w) A (zh8 (.ref it)) Q E s
abbrev TI:=St->Hp->(It->Hp->Prop)->Prop
noncomputable def PIE(X:Cx)(J1:List (J9×Obj))(σ:St)(tg:Jc)(R:It->Hp->Prop)(q:Value)(Y:qa4):Prop:=∃(it:J9)(fp:List J9)(O:Nat->Heap->Prop)(J:It)(H':Hp),q=.ref it/\Inv X J1 σ H' Y/\Turn X.prog X.w X.K tg J fp it O/\O 0 Y.heap/\(∀b∈fp,hV X J1 H' b)/\R J H'
noncomputable def PI(X:Cx)(tg iter:Jc)(wi:TI):Prop:=
 ∀(J1:List (J9×Obj))(s:qa4)(σ:St)(H:Hp)(R:It->Hp->Prop),Inv X J1 σ H s->wi σ H R→
  wpAny (model X.prog X.w) X.A (eval iter X.env) (fun v s1=>wpAny (model X.prog X.w) X.A (zh8 v) (PIE X J1 σ tg R) X.xe s1) X.xe s
theorem lO{o:Obj}{n:String}{vs:Array Value}(Z:s.heap.get? it=some o)(hc:o.cls=.type n)(Y:o.data=.fields vs)
 (O:["enumerate","zip","dict_itemiterator","dict_reverseitemiterator","odict_iterator","itertools.zip_longest","itertools.pairwise"].contains n=false) (q:Q () s):wpAny M A (qw6 tg (.ref it) u) Q E s:=by
 unfold qw6
 cases tg<;>first
  |exact qa3 q
  | (cases u<;>first
      |exact qa3 q
      | (refine wB (wpAny_load Z ?_)
         rw[hc,Y];show wpAny M A (if(["enumerate","zip","dict_itemiterator","dict_reverseitemiterator","odict_iterator","itertools.zip_longest","itertools.pairwise"].contains n&&vs[0]?==some (qf5 _))=true then _ else _) Q E s;rw[if_neg (by intro h;rw[O,zf2]at h;cases h)];exact qa3 q))
def Itl(K:xA9)(a:J9):It:=⟨fun i H=>∃xs x,SqL K H a xs/\xs[i]?=some x,fun i H x H'=>H'=H/\∀xs,SqL K H a xs->xs[i]?=some x,fun i H=>∃xs,SqL K H a xs/\xs.length<=i⟩
def Itt(K:xA9)(a:J9):It:=⟨fun i H=>∃xs x,SqT K H a xs/\xs[i]?=some x,fun i H x H'=>H'=H/\∀xs,SqT K H a xs->xs[i]?=some x,fun i H=>∃xs,SqT K H a xs/\xs.length<=i⟩
def Itr(lo:Int)(n:Nat):It:=⟨fun i _=>i<n,fun i H x H'=>H'=H/\x=.int (lo+i),fun i _=>n<=i⟩
theorem sC(a it:J9):Turn P w K tg (Itl K a) [it] it (fun i h=>h.IsListIter it a i) where
 mem:=by simp
 obj:=fun i h st b q=>by
  have e:b=it:=by simpa using q
  subst e;obtain⟨o,e,c,d⟩:=st;exact⟨o,e,fun v z=>by rw[d]at z;cases z⟩
 keep:=fun i h h' st k=>st.at fun o e=>k it (by simp) o e
 item:=by
  intro X hP hw hK hc i J1 s σ H E I Y st hg;subst hP hw hK;obtain⟨xs,x,Z,hx⟩:=hg;obtain⟨J8,rv,p,hz⟩:=I.list Z;obtain⟨u,hu,ru⟩:=rv.get hx;obtain⟨f0,f1,f2,f3,f4,f5⟩:=Y it (by simp);refine wpAny_pyNext_list_item st p.isList (x:=u) (by simpa using hu) fun h' O sb=>?_
  have I1:Inv X J1 σ H {s with heap:=h'}:=I.turned (t':=s.toks) (fun b o q e=>(sb.2 b q).trans e) f0 f1 f3 f4 f5;obtain⟨o,e,c,d⟩:=id O;exact⟨u,rfl,lO (s:={s with heap:=h'}) e c d (by decide) ⟨x,H,I1,ru,⟨rfl,fun ys hy=>by rw[I.list_inj hy Z];exact hx⟩,O,fun b q=>(Y b q).1⟩⟩
 done:=by intro X hP hw hK hc i J1 s σ H E I Y st hg;subst hP hw hK;obtain⟨xs,Z,hx⟩:=hg;obtain⟨J8,rv,p,hz⟩:=I.list Z;obtain⟨f0,f1,f2,f3,f4,f5⟩:=Y it (by simp);have hl:=rv.length;exact wpAny_pyNext_list_end (I.ok.hd hc) st p.isList (by simp;lia) fun h' eb=>⟨rfl,I.turned (t':=s.toks) (fun b o q e=>eb b o q e) f0 f1 f3 f4 f5⟩
 self:=fun _ _ _ _ _ st h=>wpAny_pyIter_listiter st h
theorem pP(a it:J9):Turn P w K tg (Itt K a) [it] it (fun i h=>h.IsTupleIter it a i) where
 mem:=by simp
 obj:=fun i h st b q=>by
  have e:b=it:=by simpa using q
  subst e;obtain⟨o,e,c,d⟩:=st;exact⟨o,e,fun v z=>by rw[d]at z;cases z⟩
 keep:=fun i h h' st k=>st.at fun o e=>k it (by simp) o e
 item:=by
  intro X hP hw hK hc i J1 s σ H E I Y st hg;subst hP hw hK;obtain⟨xs,x,Z,hx⟩:=hg;obtain⟨J8,rv,p,hz⟩:=I.tuple Z;obtain⟨u,hu,ru⟩:=rv.get hx;obtain⟨f0,f1,f2,f3,f4,f5⟩:=Y it (by simp);refine wpAny_pyNext_tuple_item st (show s.heap.IsTuple a J8.toArray from p) (x:=u) (by simpa using hu) fun h' O sb=>?_
  have I1:Inv X J1 σ H {s with heap:=h'}:=I.turned (t':=s.toks) (fun b o q e=>(sb.2 b q).trans e) f0 f1 f3 f4 f5;obtain⟨o,e,c,d⟩:=id O;exact⟨u,rfl,lO (s:={s with heap:=h'}) e c d (by decide) ⟨x,H,I1,ru,⟨rfl,fun ys hy=>by rw[I.tuple_inj hy Z];exact hx⟩,O,fun b q=>(Y b q).1⟩⟩
 done:=by intro X hP hw hK hc i J1 s σ H E I Y st hg;subst hP hw hK;obtain⟨xs,Z,hx⟩:=hg;obtain⟨J8,rv,p,hz⟩:=I.tuple Z;obtain⟨f0,f1,f2,f3,f4,f5⟩:=Y it (by simp);have hl:=rv.length;exact wpAny_pyNext_tuple_end (I.ok.hd hc) st (show s.heap.IsTuple a J8.toArray from p) (by simp;lia) fun h' eb=>⟨rfl,I.turned (t':=s.toks) (fun b o q e=>eb b o q e) f0 f1 f3 f4 f5⟩
 self:=fun _ _ _ _ _ st h=>wpAny_pyIter_tupleiter st h
theorem pQ{w:Ja}(it:J9)(lo:Int)(n:Nat):Turn P w K tg (Itr lo n) [it] it (fun i h=>zf6 h it (lo+(i:Nat)*1) ((n:Int)-(i:Nat)) 1) where
 mem:=by simp
 obj:=fun i h st b q=>by
  have e:b=it:=by simpa using q
  subst e
  exact⟨_,st,fun v z=>by have z':Data.fields _=Data.cell v:=z;cases z'⟩
 keep:=fun i h h' st k=>k it (by simp) _ st
 item:=by
  intro X Z hw hK hc i J1 s σ H E I Y st hg;subst Z hw hK;obtain⟨f0,f1,f2,f3,f4,f5⟩:=Y it (by simp);have W:=Walks.range (prog:=X.prog) (w:=X.w) (I.ok.hd hc) it lo 1 n;refine W.item i s _ _ hg st fun v h' tk hv O kk=>?_
  obtain⟨t,rfl⟩:=hv;have I1:Inv X J1 σ H {s with heap:=h',toks:=tk}:=I.turned (fun b o q e=>kk b o (by simpa using q) e) f0 f1 f3 f4 f5;refine⟨_,rfl,lO (s:={s with heap:=h',toks:=tk}) (n:="range_iterator") O rfl rfl (by decide) ⟨.int (lo+i),H,I1,⟨t,?_⟩,⟨rfl,rfl⟩,O,fun b q=>(Y b q).1⟩⟩;rw[Int.mul_one]
 done:=by intro X Z hw hK hc i J1 s σ H E I Y st hg;subst Z hw hK;obtain⟨f0,f1,f2,f3,f4,f5⟩:=Y it (by simp);exact zb6 (I.ok.hd hc) st (by have:n<=i:=hg;lia) fun h' eb=>⟨rfl,I.turned (t':=s.toks) (fun b o q e=>eb b o q e) f0 f1 f3 f4 f5⟩
 self:=fun _ _ _ _ _ st h=>zb7 st h
variable{l:Jc}{tl:TE}{ta:TA}{p:Pos}{fp:List J9}
section
variable{X:Cx}{tg:Jc}
def DM(K:xA9)(tl:TE):TI:=fun σ H R=>tl σ H fun x H1=>∃a,x=.ref a/\(∃xs,SqL K H1 a xs)/\R (Itl K a) H1
def iTup(K:xA9)(tl:TE):TI:=fun σ H R=>tl σ H fun x H1=>∃a,x=.ref a/\(∃xs,SqT K H1 a xs)/\R (Itt K a) H1
theorem qV(hl:PE X l tl):PI X tg l (DM X.K tl):=by
 intro J1 s σ H R I h;refine thn (hl J1 s σ H _ I h) fun v s1 ⟨x,H1,O,r1,q1⟩=>?_
 obtain⟨a,e,⟨xs,Z⟩,q⟩:=q1;subst e;cases r1;obtain⟨J8,rv,p,hz⟩:=O.list Z;refine qt8 p.isList ?_;refine⟨s1.heap.objs.size,[s1.heap.objs.size],_,_,H1,rfl,O.kept (t':=s1.toks) fun b o e=>gP _ e,sC a _,⟨_,qa8 _ rfl,rfl,rfl⟩,fun b Y=>?_,q⟩;have e:b=s1.heap.objs.size:=by simpa using Y
 subst e;exact O.fpOk (nL _) (O.hok.fresh (nL _))
theorem uE(hl:PE X l tl):PI X tg l (iTup X.K tl):=by
 intro J1 s σ H R I h;refine thn (hl J1 s σ H _ I h) fun v s1 ⟨x,H1,O,r1,q1⟩=>?_
 obtain⟨a,e,⟨xs,Z⟩,q⟩:=q1;subst e;cases r1;obtain⟨J8,rv,p,hz⟩:=O.tuple Z;refine qx8 (show s1.heap.IsTuple a J8.toArray from p) ?_;refine⟨s1.heap.objs.size,[s1.heap.objs.size],_,_,H1,rfl,O.kept (t':=s1.toks) fun b o e=>gP _ e,pP a _,⟨_,qa8 _ rfl,rfl,rfl⟩,fun b Y=>?_,q⟩;have e:b=s1.heap.objs.size:=by simpa using Y
 subst e;exact O.fpOk (nL _) (O.hok.fresh (nL _))
theorem oe{R:It->Hp->Prop}{lo hi:Int}{t u v:Tok}{tk:Nat}(I:Inv X J1 σ H s)(h1:-(2^62)<=lo)(h2:lo<2^62)(h3:-(2^62)<=hi)(h4:hi<2^62)
 (q:R (Itr lo (hi-lo).toNat) H):wpAny (model X.prog X.w) X.A (zh8 (.ref s.heap.objs.size)) (PIE X J1 σ tg R) E {s with heap:=s.heap.push {cls:=.type "range",data:=.fields #[.int lo t,.int hi u,.int 1 v]},toks:=tk}:=by
 refine wpAny_pyIter_range (IsRange.new ..) (small_one h1 h2 h3 h4) ?_;have O:Inv X J1 σ H {s with heap:=s.heap.push {cls:=.type "range",data:=.fields #[.int lo t,.int hi u,.int 1 v]},toks:=tk}:=I.kept fun b o e=>gP _ e
 refine⟨(s.heap.push {cls:=.type "range",data:=.fields #[.int lo t,.int hi u,.int 1 v]}).objs.size,[(s.heap.push {cls:=.type "range",data:=.fields #[.int lo t,.int hi u,.int 1 v]}).objs.size],_,_,H,rfl,O.kept (t':=tk) fun b o e=>gP _ e,pQ _ lo (hi-lo).toNat,?_,fun b Y=>?_,q⟩
 .have e1:lo+((0:Nat):Int)*1=lo:=by simp
  have Z:(((hi-lo).toNat:Nat):Int)-((0:Nat):Int)=qd1 lo hi 1:=by rw[rangeSize_one];split<;>lia
  show zf6 _ _ (lo+((0:Nat):Int)*1) ((((hi-lo).toNat:Nat):Int)-((0:Nat):Int)) 1;rw[e1,Z];exact qa8 _ rfl
 .have e:b=(s.heap.push {cls:=.type "range",data:=.fields #[.int lo t,.int hi u,.int 1 v]}).objs.size:=by simpa using Y
  subst e;exact O.fpOk (nL _) (O.hok.fresh (nL _))
def zL(ta:TA):TI:=fun σ H R=>ta σ H fun vs H1=>∃j:Int,vs=[.int j]/\-(2^62)<=j/\j<2^62/\R (Itr 0 j.toNat) H1
def zM(ta:TA):TI:=fun σ H R=>ta σ H fun vs H1=>∃i j:Int,vs=[.int i,.int j]/\(-(2^62)<=i/\i<2^62/\-(2^62)<=j/\j<2^62)/\R (Itr i (j-i).toNat) H1
theorem sE{a:Jc}(hg:Gl X "range")(O:X.mg "range"=none)(ha:PA X [a] ta)(Z:qa9 [a] X.env=[(false,eval a X.env)]:=by rfl):PI X tg (.Call (.Name "range" p) [a] [] pos) (zL ta):=by
 intro J1 s σ H R I h;refine Call_ (fT I hg O boot_range (qf6 (thn (ha pos J1 s σ H _ I h) fun us s1 ⟨vs,H1,Y,r1,q1⟩=>?_) Z rfl));obtain⟨j,e,q1,q2,q⟩:=q1;subst e;cases r1 with
 |cons r rr=>cases rr;obtain⟨t,rfl⟩:=r;exact call_range_1 (oe Y (by lia) (by lia) q1 q2 (by simpa using q))
theorem sF {a b:Jc} (hg:Gl X "range") (Z:X.mg "range"=none) (ha:PA X [a,b] ta) (hs:qa9 [a,b] X.env=[(false,eval a X.env),(false,eval b X.env)]:=by rfl) (O:qa9 [b] X.env=[(false,eval b X.env)]:=by rfl) :
  PI X tg (.Call (.Name "range" p) [a,b] [] pos) (zM ta):=by
 intro J1 s σ H R I h;refine Call_ (fT I hg Z boot_range (qf6 (thn (ha pos J1 s σ H _ I h) fun us s1 ⟨vs,H1,I1,r1,q1⟩=>?_) (by rw[hs,O]) (by rw[O];rfl)));obtain⟨i,j,e,⟨q1,q2,q3,q4⟩,q⟩:=q1;subst e;cases r1 with
 |cons r Y=>
  cases Y with
  |cons r' Y=>cases Y;obtain⟨t,rfl⟩:=r;obtain⟨t',rfl⟩:=r';exact call_range_2 (oe I1 q1 q2 q3 q4 q)
noncomputable def tFor(wi:TI)(g:TG)(tb:TS):TS:=fun D σ H=>wi σ H fun J H1=>∃W:Nat->Nat->St->Hp->Prop,(∃m,W 0 m σ H1)/\∀i m σ H,W i m σ H→ (J.stop i H/\D.nx σ H)∨(J.go i H/\∃N:St->Hp->Prop,(∀q H',N q H'->∃Y,Y<m/\W (i+1) Y q H')/\∀x H',J.yld i H x H'->g x σ H' fun O H2=>tb {D with nx:=N,ct:=N,bk:=D.nx} O H2)
def jc(fp:List J9)(h:Heap):List (J9×Obj):=fp.filterMap fun b=>(h.get? b).map fun o=>(b,o)
theorem dM{o:Obj}(q:b∈fp)(e:h.get? b=some o):(b,o)∈jc fp h:=qx9.mpr ⟨b,q,by rw[e];rfl⟩
theorem sG{p:J9×Obj}(hp:p∈jc fp h):p.1∈fp/\h.get? p.1=some p.2:=by
 obtain⟨b,O,e⟩:=qx9.mp hp;cases q:h.get? b with
 |none=>rw[q]at e;cases e
 |some o=>rw[q]at e;have Y:(b,o)=p:=qd9 e;subst Y;exact⟨O,q⟩
theorem Inv.pinned(I:Inv X J1 σ H s)(Y:∀b∈fp,hV X J1 H b)(Z:∀b∈fp,∃o,s.heap.get? b=some o/\∀v,o.data≠.cell v):Inv X (J1++jc fp s.heap) σ H s:=
 I.pins_of fun p hp=>(qj4.mp hp).elim (fun z=>I.pin p (qc7 _ z)) fun z=>by
  obtain⟨q,e⟩:=sG z;obtain⟨f0,f1,f2,_⟩:=Y p.1 q;obtain⟨o,O,d⟩:=Z p.1 q;rw[e]at O;cases O
  exact⟨e,f0,f1,f2,d⟩
theorem Inv.unpinned{q:List (J9×Obj)}(I:Inv X (J1++q) σ H s):Inv X J1 σ H s:=I.pins_of fun p hp=>I.pin p (qc7 _ (qh0 _ hp))
theorem Bh{iter:Jc}{wi:TI}(hp:zj0 (model X.prog X.w) X.A X.env X.xe)(hc:X.calm=true)(hi:PI X tg iter wi)(hg:PG X tg g)(O:PSs X body tb)
 (hs:∀x,qh7 iter X.env x=pure x:=by intro _;rfl):PS X (.For tg iter body [] pos) (tFor wi g tb):=by
 intro J1 s σ H D I h;refine wpAny_For (thn (hi J1 s σ H _ I h) fun v s1 h1=>thn h1 fun itv s2 h2=>?_) hs;obtain⟨it,fp,tn,J,H2,e,I2,T,st2,f2,W,⟨m0,w0⟩,turn⟩:=h2;subst e
 -- what stays true of the iterator's objects through the loop
 have stat:∀{H':Hp},(∀b∈fp,H' b=none)->∀b∈fp,hV X J1 H' b:=fun hn b O=>⟨hn b O,(f2 b O).2⟩
 refine codeAny_forLoop_any (fun n s'=>∃i σ' H',Inv X J1 σ' H' s'/\tn i s'.heap/\(∀b∈fp,H' b=none)/\W i n σ' H') ?_ m0 ⟨0,σ,H2,I2,st2,fun b O=>(f2 b O).1,w0⟩;rintro n s3 ⟨i,Y,H3,I3,st3,fr3,w3⟩;rcases turn i n Y H3 w3 with ⟨stop,qn⟩|⟨go,N,hN,step⟩
 .refine qn1 hp (thn (T.done X rfl rfl rfl hc i J1 s3 Y H3 X.xe I3 (stat fr3) st3 stop) fun r s4 ⟨hr,I4⟩=>?_);subst hr;exact qw5 ⟨Y,H3,I4,qn⟩
 .refine qn1 hp (thn (T.item X rfl rfl rfl hc i J1 s3 Y H3 X.xe I3 (stat fr3) st3 go) fun r s4 ⟨u,hr,h4⟩=>?_);subst hr;refine qn1 hp (thn h4 fun _ s5 ⟨x,H5,I5,r5,y5,st5,fr5⟩=>?_);have I5':=I5.pinned (stat fr5) (T.obj _ _ st5);refine qn1 hp (thn (hg _ s5 Y H5 x u _ I5' r5 (step x H5 y5)) fun _ s6 ⟨σ6,H6,I6,q6⟩=>?_);refine qn1 hp (thn (O _ s6 σ6 H6 _ I6 q6) fun f s7 q7=>?_)
  have again:∀{q:St}{Z:Hp},Inv X (J1++jc fp s5.heap) q Z s7->N q Z->∃m,m<n/\∃i σ' H',Inv X J1 σ' H' s7/\tn i s7.heap/\(∀b∈fp,H' b=none)/\W i m σ' H':=fun {q Z} I7 n7=>by obtain⟨m',hm,w7⟩:=hN q Z n7;refine⟨m',hm,i+1,q,Z,I7.unpinned,T.keep _ _ _ st5 fun b O o e=>(I7.pin (b,o) (qc7 _ (qc7 _ (dM O e)))).1,fun b O=>?_,w7⟩;obtain⟨o,e,d⟩:=T.obj _ _ st5 b O;exact(I7.pin (b,o) (qc7 _ (qc7 _ (dM O e)))).2.1
  cases f with
  |next=>obtain⟨q,Z,I7,n7⟩:=q7;exact again I7 n7
  |cont=>obtain⟨q,Z,I7,n7⟩:=q7;exact again I7 n7
  |brk=>obtain⟨q,Z,I7,q7⟩:=q7;exact⟨q,Z,I7.unpinned,q7⟩
  |ret v=>obtain⟨x7,q,Z,I7,r7,q7⟩:=q7;exact⟨x7,q,Z,I7.unpinned,r7,q7⟩
end
abbrev R2:=V->V->Hp->VK->Prop
noncomputable def OpR(X:Cx)(f:Value->Value->Sem Value)(r:R2):Prop:=
 ∀(J1:List (J9×Obj))(s:qa4)(σ:St)(H:Hp)(x y:V)(v u:Value)(Q:VK),Inv X J1 σ H s->RelV x v->RelV y u->r x y H Q→
  wpAny (model X.prog X.w) X.A (f v u) (EP X J1 σ Q) X.xe s
noncomputable def UnR(X:Cx)(f:Value->Sem Value)(r:V->Hp->VK->Prop):Prop:=
 ∀(J1:List (J9×Obj))(s:qa4)(σ:St)(H:Hp)(x:V)(v:Value)(Q:VK),Inv X J1 σ H s->RelV x v->r x H Q→
  wpAny (model X.prog X.w) X.A (f v) (EP X J1 σ Q) X.xe s
noncomputable def dh(X:Cx)(f:Value)(r:List V->Hp->VK->Prop):Prop:=
 ∀(J1:List (J9×Obj))(s:qa4)(σ:St)(H:Hp)(xs:List V)(us:List Value)(Q:VK),Inv X J1 σ H s->Vals xs us->r xs H Q→
  wpAny (model X.prog X.w) X.A (call f us) (EP X J1 σ Q) X.xe s
noncomputable def TruR(X:Cx)(r:V->Hp->(Bool->Hp->Prop)->Prop):Prop:=
 ∀(J1:List (J9×Obj))(s:qa4)(σ:St)(H:Hp)(x:V)(v:Value)(Q:Bool->Hp->Prop),Inv X J1 σ H s->RelV x v->r x H Q→
  wpAny (model X.prog X.w) X.A (truthy v) (TP X J1 σ Q) X.xe s
def tOp(r:R2)(ta tb:TE):TE:=fun σ H Q=>ta σ H fun x H1=>tb σ H1 fun y H2=>r x y H2 Q
def tUn(r:V->Hp->VK->Prop)(ta:TE):TE:=fun σ H Q=>ta σ H fun x H1=>r x H1 Q
def rI(C:Int->Int->Prop)(g:Int->Int->V):R2:=fun x y H Q=>∃i j,x=.int i/\y=.int j/\C i j/\Q (g i j) H
def rI0(g:Int->Int->V):R2:=fun x y H Q=>∃i j,x=.int i/\y=.int j/\Q (g i j) H
def rU(g:Int->V):V->Hp->VK->Prop:=fun x H Q=>∃i,x=.int i/\Q (g i) H
variable{f:Value->Value->Sem Value}{r:R2}
section
variable{X:Cx}{a b c:Jc}{ta tb tc:TE}{pos:Pos}
theorem Bi(ha:PE X a ta)(Z:PE X b tb)(I:Inv X J1 σ H s)
 (h:ta σ H fun x H1=>tb σ H1 fun y H2=>R x y H2) {Q:Value->qa4->Prop} 
 (hf:∀v u Y x y H2,Inv X J1 σ H2 Y->RelV x v->RelV y u->R x y H2->wpAny (model X.prog X.w) X.A (f v u) Q X.xe Y) :
  wpAny (model X.prog X.w) X.A (eval a X.env) (fun v q=>wpAny (model X.prog X.w) X.A (eval b X.env) (fun u O=>wpAny (model X.prog X.w) X.A (f v u) Q X.xe O) X.xe q) X.xe s:=by
 refine thn (ha J1 s σ H _ I h) fun v s1 ⟨x,H1,I1,r1,q1⟩=>?_
 refine thn (Z J1 s1 σ H1 _ I1 q1) fun u Y ⟨y,H2,I2,r2,q2⟩=>?_
 exact hf v u Y x y H2 I2 r1 r2 q2
theorem DN{O:Operator}(ho:OpR X (qm7 O) r)(ha:PE X a ta)(Y:PE X b tb):PE X (.BinOp a O b pos) (tOp r ta tb):=by intro J1 s σ H Q I h;exact wpAny_BinOp (Bi ha Y I h fun v u Z x y H2 I2 rx ry q=>ho J1 Z σ H2 x y v u Q I2 rx ry q)
theorem DQ{q:UnaryOp}{r:V->Hp->VK->Prop}(ho:UnR X (unaryOp q) r)(Z:PE X a ta):PE X (.UnaryOp q a pos) (tUn r ta):=by intro J1 s σ H Q I h;exact UnaryOp_ (thn (Z J1 s σ H _ I h) fun v s1 ⟨x,H1,O,Y,q1⟩=>ho J1 s1 σ H1 x v Q O Y q1)
theorem opI{C:Int->Int->Prop}{g:Int->Int->Int}
 (O:∀(i j:Int)(t u:Tok)(s:qa4)(Q E:Value->qa4->Prop),C i j->Q (.int (g i j) s.toks) {s with toks:=s.toks+1}->wpAny (model X.prog X.w) X.A (f (.int i t) (.int j u)) Q E s) :
  OpR X f (rI C fun i j=>.int (g i j)):=by
 intro J1 s σ H x y v u Q I Z ry h;obtain⟨i,j,rfl,rfl,Y,q⟩:=h;obtain⟨t,rfl⟩:=Z;obtain⟨t',rfl⟩:=ry;exact O i j t t' s _ _ Y ⟨.int (g i j),H,I.tok _,⟨_,rfl⟩,q⟩
theorem opI0{g:Int->Int->Int}
 (O:∀(i j:Int)(t u:Tok)(s:qa4)(Q E:Value->qa4->Prop),Q (.int (g i j) s.toks) {s with toks:=s.toks+1}->wpAny (model X.prog X.w) X.A (f (.int i t) (.int j u)) Q E s) :
  OpR X f (rI0 fun i j=>.int (g i j)):=by
 intro J1 s σ H x y v u Q I Y Z h;obtain⟨i,j,rfl,rfl,q⟩:=h;obtain⟨t,rfl⟩:=Y;obtain⟨t',rfl⟩:=Z;exact O i j t t' s _ _ ⟨.int (g i j),H,I.tok _,⟨_,rfl⟩,q⟩
theorem opB0{g:Int->Int->Bool}
 (O:∀(i j:Int)(t u:Tok)(s:qa4)(Q E:Value->qa4->Prop),Q (.bool (g i j)) s->wpAny (model X.prog X.w) X.A (f (.int i t) (.int j u)) Q E s) :
  OpR X f (rI0 fun i j=>.bl (g i j)):=by
 intro J1 s σ H x y v u Q I Y Z h;obtain⟨i,j,rfl,rfl,q⟩:=h;obtain⟨t,rfl⟩:=Y;obtain⟨t',rfl⟩:=Z;exact O i j t t' s _ _ ⟨.bl (g i j),H,I,rfl,q⟩
def Bj(i j:Int):Prop:=0<=j/\j<=1000000/\i.natAbs<2^64
def CMul(i j:Int):Prop:=(-(2^64)<i/\i<2^64)∨(-(2^64)<j/\j<2^64)
theorem CMul.ok{i j:Int}(h:CMul i j):IntMulOk i j:=by
 rcases h with ⟨h1,h2⟩|⟨h1,h2⟩
 .exact .of_left (intBits_le_64 h1 h2)
 .exact .of_right (intBits_le_64 h1 h2)
theorem Bk:OpR X (qm7 .Add) (rI0 fun i j=>.int (i+j)):=opI0 fun _ _ _ _ _ _ _ q=>add_int q
theorem gm:OpR X (qm7 .Sub) (rI0 fun i j=>.int (i-j)):=opI0 fun _ _ _ _ _ _ _ q=>sub_int q
theorem gn:OpR X (qm7 .Mult) (rI CMul fun i j=>.int (i*j)):=opI fun _ _ _ _ _ _ _ O q=>mul_int q O.ok
theorem de:OpR X (qm7 .Mod) (rI (fun _ j=>0<j) fun i j=>.int (i%j)):=opI fun i j _ _ _ _ _ O q=>by have h1:(0:Int)<j:=O;exact mod_int' (by lia) (by rw[Int.fmod_eq_emod_of_nonneg i (by lia)];exact q)
theorem il:OpR X (qm7 .Pow) (rI Bj fun i j=>.int (i^j.toNat)):=opI fun _ _ _ _ _ _ _ O q=>pow_int_small O.1 O.2.1 O.2.2 q
theorem unI {f:Value->Sem Value} {g:Int->Int}
  (O:∀(i:Int)(t:Tok)(s:qa4)(Q E:Value->qa4->Prop),Q (.int (g i) s.toks) {s with toks:=s.toks+1}->wpAny (model X.prog X.w) X.A (f (.int i t)) Q E s) :
  UnR X f (rU fun i=>.int (g i)):=by
 intro J1 s σ H x v Q I Y h;obtain⟨i,rfl,q⟩:=h;obtain⟨t,rfl⟩:=Y;exact O i t s _ _ ⟨.int (g i),H,I.tok _,⟨_,rfl⟩,q⟩
theorem Bl:UnR X (unaryOp .USub) (rU fun i=>.int (-i)):=unI fun _ _ _ _ _ q=>neg_int q
end
noncomputable def Bm:V->V->Bool
 |.non,.non=>true|.non,.int _=>true|.int _,.non=>true|.non,.bl _=>true|.bl _,.non=>true|.non,.str _=>true|.str _,.non=>true
 |.int _,.int _=>true|.bl _,.bl _=>true|.str _,.str _=>true|.byt _,.byt _=>true
 |.int _,.str _=>true|.str _,.int _=>true|.bl _,.str _=>true|.str _,.bl _=>true
 |_,_=>false
def rEq:R2:=fun x y H Q=>Bm x y=true/\Q (.bl (decide (x=y))) H
def rNe:R2:=fun x y H Q=>Bm x y=true/\Q (.bl (!decide (x=y))) H
theorem qW{i j:Int}:decide (V.int i=V.int j)=(i==j):=by rw[qi2];simp
theorem uF{i j:Bool}:decide (V.bl i=V.bl j)=(i==j):=by rw[qi2];simp
theorem qX{i j:Str}:decide (V.str i=V.str j)=(i==j):=by rw[qi2];simp
theorem qY{i j:Array UInt8}:decide (V.byt i=V.byt j)=(i.toList==j.toList):=by rw[qi2];cases i;cases j;simp
section
variable{X:Cx}{a b c:Jc}{ta tb tc:TE}{pos:Pos}
theorem bt{Q:VK}{k k':Bool}(I:Inv X J1 σ H s)(q:Q (.bl k) H)(e:k=k'):EP X J1 σ Q (.bool k') s:=by subst e;exact⟨.bl k,H,I,rfl,q⟩
theorem DR:OpR X (qg5 .Eq) rEq:=by
 intro J1 s σ H x y v u Q I Z O h;obtain⟨Y,q⟩:=h;cases x with
 |non=>
  cases Z;cases y with
  |non=>cases O;exact PySem.EqNone.eq_none_none (bt I q (by simp))
  |bl j=>cases O;exact PySem.EqNone.eq_none_bool (bt I q (by simp))
  |int j=>obtain⟨t',rfl⟩:=O;exact PySem.EqNone.eq_none_int (bt I q (by simp))
  |str j=>obtain⟨t',rfl⟩:=O;exact PySem.EqNone.eq_none_str (bt I q (by simp))
  |_=>exact absurd (show false=true from Y) qb8
 |bl i=>
  cases Z;cases y with
  |non=>cases O;exact PySem.EqNone.eq_bool_none (bt I q (by simp))
  |bl j=>cases O;exact eq_bool (bt I q uF)
  |str j=>obtain⟨t',rfl⟩:=O;exact PySem.EqMixed.eq_bool_str (bt I q (by simp))
  |_=>exact absurd (show false=true from Y) qb8
 |int i=>
  obtain⟨t,rfl⟩:=Z;cases y with
  |non=>cases O;exact PySem.EqNone.eq_int_none (bt I q (by simp))
  |int j=>obtain⟨t',rfl⟩:=O;exact eq_int (bt I q qW)
  |str j=>obtain⟨t',rfl⟩:=O;exact PySem.EqMixed.eq_int_str (bt I q (by simp))
  |_=>exact absurd (show false=true from Y) qb8
 |str i=>
  obtain⟨t,rfl⟩:=Z;cases y with
  |non=>cases O;exact PySem.EqNone.eq_str_none (bt I q (by simp))
  |bl j=>cases O;exact PySem.EqMixed.eq_str_bool (bt I q (by simp))
  |int j=>obtain⟨t',rfl⟩:=O;exact PySem.EqMixed.eq_str_int (bt I q (by simp))
  |str j=>obtain⟨t',rfl⟩:=O;exact eq_str (bt I q qX)
  |_=>exact absurd (show false=true from Y) qb8
 |byt i=>
  obtain⟨t,rfl⟩:=Z;cases y with
  |byt j=>obtain⟨t',rfl⟩:=O;exact PySem.W.eq_bytes (bt I q qY)
  |_=>exact absurd (show false=true from Y) qb8
 |_=>cases y<;>exact absurd (show false=true from Y) qb8
theorem DU:OpR X (qg5 .NotEq) rNe:=by
 intro J1 s σ H x y v u Q I Z O h;obtain⟨Y,q⟩:=h;cases x with
 |non=>
  cases Z;cases y with
  |non=>cases O;exact PySem.EqNone.ne_none_none (bt I q (by simp))
  |bl j=>cases O;exact PySem.EqNone.ne_none_bool (bt I q (by simp))
  |int j=>obtain⟨t',rfl⟩:=O;exact PySem.EqNone.ne_none_int (bt I q (by simp))
  |str j=>obtain⟨t',rfl⟩:=O;exact PySem.EqNone.ne_none_str (bt I q (by simp))
  |_=>exact absurd (show false=true from Y) qb8
 |bl i=>
  cases Z;cases y with
  |non=>cases O;exact PySem.EqNone.ne_bool_none (bt I q (by simp))
  |bl j=>cases O;exact ne_bool (bt I q (congrArg not uF))
  |str j=>obtain⟨t',rfl⟩:=O;exact PySem.EqMixed.ne_bool_str (bt I q (by simp))
  |_=>exact absurd (show false=true from Y) qb8
 |int i=>
  obtain⟨t,rfl⟩:=Z;cases y with
  |non=>cases O;exact PySem.EqNone.ne_int_none (bt I q (by simp))
  |int j=>obtain⟨t',rfl⟩:=O;exact ne_int (bt I q (congrArg not qW))
  |str j=>obtain⟨t',rfl⟩:=O;exact PySem.EqMixed.ne_int_str (bt I q (by simp))
  |_=>exact absurd (show false=true from Y) qb8
 |str i=>
  obtain⟨t,rfl⟩:=Z;cases y with
  |non=>cases O;exact PySem.EqNone.ne_str_none (bt I q (by simp))
  |bl j=>cases O;exact PySem.EqMixed.ne_str_bool (bt I q (by simp))
  |int j=>obtain⟨t',rfl⟩:=O;exact PySem.EqMixed.ne_str_int (bt I q (by simp))
  |str j=>obtain⟨t',rfl⟩:=O;exact ne_str (bt I q (congrArg not qX))
  |_=>exact absurd (show false=true from Y) qb8
 |byt i=>
  obtain⟨t,rfl⟩:=Z;cases y with
  |byt j=>obtain⟨t',rfl⟩:=O;exact PySem.W.ne_bytes (bt I q (congrArg not qY))
  |_=>exact absurd (show false=true from Y) qb8
 |_=>cases y<;>exact absurd (show false=true from Y) qb8
theorem og:OpR X (qg5 .Lt) (rI0 fun i j=>.bl (decide (i<j))):=opB0 fun _ _ _ _ _ _ _ q=>lt_int q
theorem zN:OpR X (qg5 .Gt) (rI0 fun i j=>.bl (decide (j<i))):=opB0 fun _ _ _ _ _ _ _ q=>gt_int q
theorem sH:OpR X (qg5 .In) (fun x y H Q=>∃i j,x=.str i/\y=.str j/\Q (.bl (!(qg9 j i 0 j.length 1).isEmpty)) H):=by intro J1 s σ H x y v u Q I O Y h;obtain⟨i,j,rfl,rfl,q⟩:=h;obtain⟨t,rfl⟩:=O;obtain⟨t',rfl⟩:=Y;exact in_str (bt I q rfl)
theorem km:OpR X (qg5 .Is) (fun x y H Q=>y=.non/\Q (.bl (decide (x=.non))) H):=by
 intro J1 s σ H x y v u Q I O Y h;obtain⟨rfl,q⟩:=h;cases Y;refine is_none_gen (bt I q ?_)
 cases x<;>first
  |(cases O;rfl)
  |(obtain⟨t,rfl⟩:=O;rfl)
theorem mQ:OpR X (qg5 .IsNot) (fun x y H Q=>y=.non/\Q (.bl (!decide (x=.non))) H):=by
 intro J1 s σ H x y v u Q I O Y h;obtain⟨rfl,q⟩:=h;cases Y;refine isnot_none_gen (bt I q ?_)
 cases x<;>first
  |(cases O;rfl)
  |(obtain⟨t,rfl⟩:=O;rfl)
theorem OpR.or{O:R2}(h:OpR X f r)(h':OpR X f O):OpR X f (fun x y H Q=>r x y H Q∨O x y H Q):=by
 intro J1 s σ H x y v u Q I Y Z q;rcases q with q|q
 .exact h J1 s σ H x y v u Q I Y Z q
 .exact h' J1 s σ H x y v u Q I Y Z q
theorem aH(b:Jc){q:CmpOp}(h:q≠.In:=by decide)(h2:q≠.NotIn:=by decide):qh5 q b=false:=by
 have Y:(q==CmpOp.In)=false:=by cases q<;>first|rfl|exact absurd rfl h
 have O:(q==CmpOp.NotIn)=false:=by cases q<;>first|rfl|exact absurd rfl h2
 cases b<;>simp[qh5,Y,O]
theorem qZ{O:CmpOp}(ho:OpR X (qg5 O) r)(ha:PE X a ta)(Z:PE X b tb)(Y:qh5 O b=false):PE X (.Compare a [O] [b] pos) (tOp r ta tb):=by intro J1 s σ H Q I h;exact wpAny_Compare1 (Bi ha Z I h fun v u s2 x y H2 I2 rx ry q=>ho J1 s2 σ H2 x y v u Q I2 rx ry q) Y
def DV(t:TE):TT:=fun σ H Q=>t σ H fun x H'=>∃k,x=.bl k/\Q k H'
theorem mR{q:CmpOp}(ho:OpR X (qg5 q) r)(ha:PE X a ta)(Z:PE X b tb)(Y:qh5 q b=false):PT X (.Compare a [q] [b] pos) (DV (tOp r ta tb)):=by
 intro J1 s σ H Q I h
 refine zc8 (thn (ha J1 s σ H _ I h) fun v s1 ⟨x,H1,I1,r1,q1⟩=>thn (Z J1 s1 σ H1 _ I1 q1) fun u s2 ⟨y,H2,I2,r2,q2⟩=>thn (ho J1 s2 σ H2 x y v u _ I2 r1 r2 q2) fun c s3 ⟨z,O,I3,r3,k,e,q3⟩=>?_) Y
 subst e;cases r3;exact qk7 ⟨O,I3,q3⟩
noncomputable def Bn(K:xA9)(x:V)(H:Hp)(k:Bool):Prop:=
 match x with
 |.non=>k=false
 |.bl b=>k=b
 |.int i=>k=(i != 0)
 |.str y=>y.length<=qb4/\k=((y.length:Int) != 0)
 |.byt y=>y.size<=qb4/\k=((y.size:Int) != 0)
 |.ref p=>(∃xs,SqL K H p xs/\k=!xs.isEmpty)∨(∃xs,SqT K H p xs/\k=!xs.isEmpty)∨∃J6,H p=some (.dK J6)/\k=!J6.isEmpty
 |_=>False
theorem pR{κ:Type}{J6:List (κ×V)}{vs:List (κ×Value)}(r:KV J6 vs):(!vs.isEmpty)=!J6.isEmpty:=by cases r<;>rfl
theorem kn{J8:List Value}(r:Vals xs J8):(!J8.toArray.isEmpty)=!xs.isEmpty:=by cases r<;>simp
theorem jd:(qb4:Nat)<2^63:=by rw[sizeLine_eq];decide
theorem Bo:TruR X (fun x H Q=>∃k,Bn X.K x H k/\Q k H):=by
 intro J1 s σ H x v Q I rx h;obtain⟨k,e,q⟩:=h;have hl:=jd;have hs:qb4=16777216:=sizeLine_eq;cases x with
 |non=>cases rx;have e':k=false:=e;subst e';exact truthy_none ⟨H,I,q⟩
 |bl b=>cases rx;have e':k=b:=e;subst e';exact qk7 ⟨H,I,q⟩
 |int i=>obtain⟨t,rfl⟩:=rx;have e':k=(i != 0):=e;subst e';exact PySem.P.truthy_int ⟨H,I,q⟩
 |str y=>obtain⟨t,rfl⟩:=rx;obtain⟨hy,e'⟩:y.length<=qb4/\k=((y.length:Int) != 0):=e;subst e';exact PySem.P.truthy_str (by lia) ⟨H,I.tok _,q⟩
 |byt y=>obtain⟨t,rfl⟩:=rx;obtain⟨hy,e'⟩:y.size<=qb4/\k=((y.size:Int) != 0):=e;subst e';exact PySem.W.truthy_bytes (by lia) ⟨H,I.tok _,q⟩
 |ref p=>
  cases rx;have e':(∃xs,SqL X.K H p xs/\k=!xs.isEmpty)∨(∃xs,SqT X.K H p xs/\k=!xs.isEmpty)∨∃J6,H p=some (.dK J6)/\k=!J6.isEmpty:=e;rcases e' with ⟨xs,hx,e'⟩|⟨xs,hx,e'⟩|⟨J6,hx,e'⟩
  .subst e';obtain⟨J8,r,pl,hz⟩:=I.list hx;have hlen:=r.length;exact wpAny_truthy_list pl.isList (by simp only[qb7];lia) ⟨H,I.tok _,by rw[kn r];exact q⟩
  .subst e';obtain⟨J8,r,pl,hz⟩:=I.tuple hx;have hlen:=r.length;exact truthy_tuple pl (by simp only[qb7];lia) ⟨H,I.tok _,by rw[kn r];exact q⟩
  .subst e';obtain⟨hz,hS,vs,r,m⟩:J6.length<=qb4/\(p==qh6)=false/\∃vs,KV J6 vs/\s.heap.DictOf (bY X.prog X.w) p vs:=I.hok p _ hx;have hlen:J6.length=vs.length:=Paired.length r;exact wpAny_truthy_dict hS m (by lia) ⟨H,I.tok _,by rw[pR r];exact q⟩
 |_=>exact(show False from e).elim
theorem uG (ha:PE X a ta) (Y:∀ q,isTrue a X.env q=(do let v <- q;standAt a.pos;zd0 [v] (truthy v))) :
  PT X a (fun σ H Q=>ta σ H fun x H'=>∃k,Bn X.K x H' k/\Q k H'):=by
 intro J1 s σ H Q I h;exact isTrue_plain (thn (ha J1 s σ H _ I h) fun v s1 ⟨x,H1,O,Z,q1⟩=>Bo J1 s1 σ H1 x v Q O Z q1) (Y _)
theorem pS:OpR X (qm7 .Add) (fun x y H Q=>∃i j,x=.str i/\y=.str j/\i.length+j.length<=qb4/\Q (.str (i++j)) H):=by intro J1 s σ H x y v u Q I O Z h;obtain⟨i,j,rfl,rfl,Y,q⟩:=h;obtain⟨t,rfl⟩:=O;obtain⟨t',rfl⟩:=Z;exact add_str (fun t' tk=>⟨.str (i++j),H,I.tok _,⟨_,rfl⟩,q⟩) Y
theorem gp{x:V}(r:Vals [x] us):∃u,us=[u]/\RelV x u:=by
 cases r with
 |cons O q=>cases q;exact⟨_,rfl,O⟩
theorem uH{x:V}(r:Vals [x,y] us):∃u w',us=[u,w']/\RelV x u/\RelV y w':=by
 cases r with
 |cons O q=>
  cases q with
  |cons Y Z=>cases Z;exact⟨_,_,rfl,O,Y⟩
theorem sI(Y:X.calm=true):dh X (.builtin "max") (fun xs H Q=>∃i j,xs=[.int i,.int j]/\Q (.int (if j > i then j else i)) H):=by
 intro J1 s σ H xs us Q I r h;obtain⟨i,j,rfl,q⟩:=h;obtain⟨u,Z,rfl,⟨t,rfl⟩,⟨t',rfl⟩⟩:=uH r;refine max_two_ints (I.ok.hd Y) fun h' tk k=>⟨_,H,I.kept k,?_,q⟩
 by_cases O:j > i
 .rw[if_pos O,if_pos O];exact⟨_,rfl⟩
 .rw[if_neg O,if_neg O];exact⟨_,rfl⟩
theorem sJ(Y:X.calm=true):dh X (.builtin "min") (fun xs H Q=>∃i j,xs=[.int i,.int j]/\Q (.int (if j<i then j else i)) H):=by
 intro J1 s σ H xs us Q I r h;obtain⟨i,j,rfl,q⟩:=h;obtain⟨u,Z,rfl,⟨t,rfl⟩,⟨t',rfl⟩⟩:=uH r;refine min_two_ints (I.ok.hd Y) fun h' tk k=>⟨_,H,I.kept k,?_,q⟩
 by_cases O:j<i
 .rw[if_pos O,if_pos O];exact⟨_,rfl⟩
 .rw[if_neg O,if_neg O];exact⟨_,rfl⟩
noncomputable def LenV(K:xA9)(x:V)(H:Hp)(n:Nat):Prop:=
 match x with
 |.str y=>y.length<=qb4/\n=y.length
 |.byt y=>y.size<=qb4/\n=y.size
 |.ref p=>(∃xs,SqL K H p xs/\n=xs.length)∨∃xs,SqT K H p xs/\n=xs.length
 |_=>False
theorem bp:dh X (.builtin "len") (fun xs H Q=>∃x n,xs=[x]/\LenV X.K x H n/\Q (.int n) H):=by
 intro J1 s σ H xs us Q I r h;obtain⟨x,n,rfl,e,q⟩:=h;obtain⟨u,rfl,rx⟩:=gp r;have hl:=jd;have hs:qb4=16777216:=sizeLine_eq;cases x with
 |str y=>obtain⟨t,rfl⟩:=rx;obtain⟨hy,e'⟩:y.length<=qb4/\n=y.length:=e;subst e';exact len_str (by lia) ⟨.int _,H,I.tok _,⟨_,rfl⟩,q⟩
 |byt y=>obtain⟨t,rfl⟩:=rx;obtain⟨hy,e'⟩:y.size<=qb4/\n=y.size:=e;subst e';exact PySem.W.len_bytes (by lia) ⟨.int _,H,I.tok _,⟨_,rfl⟩,q⟩
 |ref p=>
  cases rx;have e':(∃xs,SqL X.K H p xs/\n=xs.length)∨∃xs,SqT X.K H p xs/\n=xs.length:=e;rcases e' with ⟨xs,hx,e'⟩|⟨xs,hx,e'⟩
  .subst e';obtain⟨J8,r',pl,hz⟩:=I.list hx;have hlen:=r'.length;exact Calls.call_len_list pl.isList (by simp only[qb7];lia) ⟨.int xs.length,H,I.tok _,⟨_,by simp only[qb7];rw[hlen]⟩,q⟩
  .subst e';obtain⟨J8,r',pl,hz⟩:=I.tuple hx;have hlen:=r'.length;exact len_tuple pl (by simp only[qb7];lia) ⟨.int xs.length,H,I.tok _,⟨_,by simp only[qb7];rw[hlen]⟩,q⟩
 |_=>exact(show False from e).elim
end
structure ObjM(h:Heap)(x dx C:J9)(mA:Str->Option Value):Prop where
 obj:h.get? x=some (xO9 C dx)
 ns:h.Ns1 dx mA
 ne:dx≠x
variable{dx:J9}{mA:Str->Option Value}
theorem sK(n:h.Ns1 dx mA):∃od,h.get? dx=some od/\∀name,PySem.W.lookIn name od=some (mA name):=by
 obtain⟨o,es,ep,ho,Z,hk,_,Y⟩:=n;refine⟨o,ho,fun name=>?_⟩;have e:=Y name;unfold nsFind findBy at e;rw[<- Array.find?_toList]at e;unfold PySem.W.lookIn;rw[Z];dsimp only;split
 .rename_i y q;rw[q]at e;exact congrArg some e
 .rename_i q;rw[q]at e
  have a:es.toList.any (·.refKey)=false:=by rw[List.any_eq_false];intro y hy;obtain⟨z,t,O⟩:=hk y (Array.mem_toList_iff.mp hy);simp[zj1.refKey,O]
  have a':¬ es.toList.any (·.refKey)=true:=by rw[a];exact qb8
  rw[if_neg a'];exact congrArg some e
variable{C:J9}
theorem ObjM.look{x:J9}(I:ObjM h x dx C mA):∃od,PySem.W.InstAt h x (xO9 C dx) C (some od)/\∀name,PySem.W.lookIn name od=some (mA name):=
 let ⟨od,ho,hl⟩:=sK I.ns
 ⟨od,⟨I.obj,rfl,rfl,ho⟩,hl⟩
section
variable{prog:qc9}{w:Ja}{A:qe0}{E:Value->qa4->Prop}{s:qa4}{K:xA9}{x dx C f:J9}{mA:Str->Option Value}{name:Str}{v:Value}
end
theorem RelO.some_of{o:Option Value}(r:RelO (some v) o):∃u,o=some u/\RelV v u:=by
 cases o with
 |none=>exact(show False from r).elim
 |some u=>exact⟨u,rfl,r⟩
section
variable{P:qc9}{w:Ja}{H H':Hp}{h h':Heap}{a C dx:J9}{fs fs':List (Str×V)}
theorem xL(O:HOk P w H h)(e:H a=some (.ins C dx fs)):∃mA,ObjM h a dx C mA/\(∀f,RelO (fs.lookup f) (mA f))/\PySem.Within mA (fs.map (·.1))/\fs.length<=1000/\H dx=some (.own a):=by obtain⟨d,z,Y,ob,mA,n,r,q⟩:=(show ObjOk P w H h a (.ins C dx fs)from O a _ e);exact⟨mA,⟨ob,n,Y⟩,r,q,z,d⟩
end
structure Cls(K:xA9)(C:J9):Prop where
 pg:PySem.W.plainGet K C Str.empty=true
 hd:PySem.W.hasDictIn K C=true
 po:PySem.W.plainOver K C=true
 sa:PySem.W.findIn K (.ref C) "__setattr__"=some (some (.builtin "object.__setattr__"))
theorem Cls.get(c:Cls K C)(f:Str):PySem.W.plainGet K C f=true:=c.pg
section
variable{X:Cx}{J1:List (J9×Obj)}{σ:St}{H:Hp}{s:qa4}{a C dx:J9}{fs:List (Str×V)}{f:Str}{v:V}{A:qe0}{E:Value->qa4->Prop}
end
section
variable{X:Cx}{o e value:Jc}{f:Str}{pos pos' tpos:Pos}{ta tv:TE}
end
section
variable{X:Cx}{J1:List (J9×Obj)}{σ:St}{H:Hp}{s:qa4}{A:qe0}{E Q:Value->qa4->Prop}{c:Value}{b:Bool}
inductive TyOf(K:xA9)(H:Hp):V->Value->Prop where
 |non:TyOf K H .non (.type "NoneType")
 |bl (x:Bool):TyOf K H (.bl x) (.type "bool")
 |int (i:Int):TyOf K H (.int i) (.type "int")
 |str (x:Str):TyOf K H (.str x) (.type "str")
 |flt (x:UInt64):TyOf K H (.flt x) (.type "float")
 |lst {a:J9} {xs:List V} (e:H a=some (.lst xs)):TyOf K H (.ref a) (.type "list")
 |frz {a:J9} {o:Obj} {xs:List V} (e:H a=some (.frz o (.lst xs))):TyOf K H (.ref a) (.type "list")
 |tup {a:J9} {xs:List V} (e:H a=some (.tup xs)):TyOf K H (.ref a) (.type "tuple")
 |dK {a:J9} {J6:List (Key×V)} (e:H a=some (.dK J6)):TyOf K H (.ref a) (.type "dict")
 |dT {a:J9} {J6:List (List Key×V)} (e:H a=some (.dT J6)):TyOf K H (.ref a) (.type "dict")
 | ins {a C dx:J9} {fs:List (Str×V)} (e:H a=some (.ins C dx fs)) (cl:Cls K C) (ha:PySem.W.findIn K (.ref C) "__class__"=some (some (.builtin "object.__class__")))
     (hn:PySem.W.specialIn K (.builtin "object.__class__") "__get__"=some (some (.builtin "getset_descriptor.__get__"))) (htk:PySem.W.takesIn K (.builtin "object.__class__")=some true)
     (hm:PySem.W.mroIn K C (.type "object")=some true):TyOf K H (.ref a) (.ref C)
theorem gT {x:V} {t:Value} (I:Inv X J1 σ H s) (Z:RelV x u) (ty:TyOf X.K H x t) (e:xL9 X.K t c=some b) (h:∀ tk,Q (.bool b) {s with toks:=tk}) :
  wpAny (model X.prog X.w) A (call (.builtin "isinstance") [u,c]) Q E s:=by
 cases ty with
 |non=>cases (show u=qh2 from Z);exact xE9 PySem.W.kitx_none I.kIn qr7 e (fun z=>nomatch z) h
 |bl y=>cases (show u=qr6 y from Z);exact xE9 PySem.W.kitx_bool I.kIn qr7 e (fun z=>nomatch z) h
 |int i=>obtain⟨t,q⟩:=(show ∃t,u=zi8 i t from Z);cases q;exact xE9 PySem.W.kitx_int I.kIn qr7 e (fun z=>nomatch z) h
 |str y=>obtain⟨t,q⟩:=(show ∃t,u=zi9 y t from Z);cases q;exact xE9 PySem.W.kitx_str I.kIn qr7 e (fun z=>nomatch z) h
 |flt y=>obtain⟨t,q⟩:=(show ∃t,u=Value.float y t from Z);cases q;exact xE9 PySem.W.kitx_float I.kIn qr7 e (fun z=>nomatch z) h
 |@lst a xs Y=>cases (show u=qf1 a from Z);obtain⟨_,_,n,_,h1⟩:=(show ObjOk X.prog X.w H s.heap a (.lst xs)from I.hok a _ Y);exact xE9 xQ9 I.kIn ⟨_,h1,rfl⟩ e (fun z=>nomatch z) h
 |@frz a ob xs Y=>cases (show u=qf1 a from Z);obtain⟨_,_,_,n,_,h1⟩:=(show ObjOk X.prog X.w H s.heap a (.frz ob (.lst xs))from I.hok a _ Y);exact xE9 xQ9 I.kIn ⟨_,h1,rfl⟩ e (fun z=>nomatch z) h
 |@tup a xs Y=>cases (show u=qf1 a from Z);obtain⟨_,_,_,p⟩:=(show ObjOk X.prog X.w H s.heap a (.tup xs)from I.hok a _ Y);obtain⟨o,h1,h2,_⟩:=p;exact xE9 PySem.W.kitx_tuple I.kIn ⟨o,h1,h2⟩ e (fun z=>nomatch z) h
 |@dK a J6 Y=>cases (show u=qf1 a from Z);obtain⟨_,_,vs,_,p⟩:=(show ObjOk X.prog X.w H s.heap a (.dK J6)from I.hok a _ Y);obtain⟨o,es,ep,h1,h2,_⟩:=p;exact xE9 xM9 I.kIn ⟨o,h1,h2.1⟩ e (fun z=>nomatch z) h
 |@dT a J6 Y=>cases (show u=qf1 a from Z);obtain⟨_,_,xs,_,o,es,ep,h1,h2,_⟩:=(show ObjOk X.prog X.w H s.heap a (.dT J6)from I.hok a _ Y);exact xE9 xM9 I.kIn ⟨o,h1,h2.1⟩ e (fun z=>nomatch z) h
 |@ins a C dx fs Y cl ha hn htk hm=>cases (show u=qf1 a from Z);obtain⟨mA,O,_⟩:=xL I.hok Y;obtain⟨od,J,_⟩:=O.look;exact xE9 (PySem.W.kitx_own (cl.get _) cl.hd ha hn htk hm) I.kIn J e (fun z=>nomatch z) h
end
structure Room(k:Nat)(A:qe0):Prop where
 hd:A.handled=none
 dp:A.depth+3*k+5<recursionLimit
 un:A.units+16*k+200<cLine
theorem Room.mono{k:Nat}(r:Room k A)(h:j<=k):Room j A:=⟨r.hd,by have:=r.dp;lia,by have:=r.un;lia⟩
theorem Room.deeper{k:Nat}(r:Room (k+1) A)(env:Env):Room k (A.deeper env):=⟨r.hd,by have:=r.dp;show A.depth+1+3*k+5<_;lia,by have:=r.un;show A.units+3+16*k+200<_;lia⟩
theorem Room.depth{k:Nat}(r:Room k A):A.depth<recursionLimit:=by have:=r.dp;lia
theorem Room.units{k:Nat}(r:Room k A):A.units+64<cLine:=by have:=r.un;lia
def tNil:TA:=fun _ H Q=>Q [] H
def DX(ta:TE)(q:TA):TA:=fun σ H Q=>ta σ H fun x H1=>q σ H1 fun xs H2=>Q (x::xs) H2
section
variable{X:Cx}{e:Jc}{es:List Jc}{te:TE}{t:TA}{pos:Pos}
theorem gq:PA X [] tNil:=fun _ _ _ _ H Q I h=>Calls.spliced_nil ⟨[],H,I,.nil,h⟩
theorem dB(ha:PE X e te)(q:PA X es t)(Z:qa9 (e::es) X.env=(false,eval e X.env)::qa9 es X.env:=by rfl):PA X (e::es) (DX te t):=by intro pos J1 s σ H Q I h;rw[Z];show wpAny _ _ (spliced ((false,eval e X.env)::qj9 pos (qa9 es X.env))) _ _ s;refine Calls.spliced_cons (thn (ha J1 s σ H _ I h) fun u s1 ⟨x,H1,O,r1,q1⟩=>?_);exact thn (q pos J1 s1 σ H1 _ O q1) fun us s2 ⟨xs,H2,Y,r2,q2⟩=>⟨x::xs,H2,Y,.cons r1 r2,q2⟩
def tTup(t:TA):TE:=fun σ H Q=>t σ H fun xs H1=>xs.length<=qb4/\∀p,H1 p=none->Q (.ref p) (upd H1 p (.tup xs))
def tLst(t:TA):TE:=fun σ H Q=>t σ H fun xs H1=>xs.length<=qb4/\∀p,H1 p=none->Q (.ref p) (upd H1 p (.lst xs))
theorem Bp{x1}(h:PA X es t):PE X (.Tuple es x1 pos) (tTup t):=by intro J1 s σ H Q I Y;refine wpAny_Tuple_spliced (thn (h pos J1 s σ H _ I Y) fun us s1 ⟨xs,H1,O,r,z,q⟩=>⟨by rw[<- r.length];exact z,?_⟩);have Z:H1 s1.heap.objs.size=none:=O.hok.fresh (nL _);refine⟨.ref s1.heap.objs.size,upd H1 s1.heap.objs.size (.tup xs),O.laid (t':=s1.toks) (fun b u e=>gP _ e) (nL _) ?_,rfl,q _ Z⟩;exact⟨z,us,r,⟨_,qa8 _ rfl,rfl,_,rfl⟩⟩
theorem Bq(h:PA X es t):PE X (.List es pos) (tLst t):=by intro J1 s σ H Q I Y;refine wpAny_List_spliced (thn (h pos J1 s σ H _ I Y) fun us s1 ⟨xs,H1,O,r,z,q⟩=>⟨by rw[<- r.length];exact z,?_⟩);have Z:H1 s1.heap.objs.size=none:=O.hok.fresh (nL _);refine⟨.ref s1.heap.objs.size,upd H1 s1.heap.objs.size (.lst xs),O.laid (t':=s1.toks) (fun b u e=>gP _ e) (nL _) ?_,rfl,q _ Z⟩;exact⟨z,us,0,r,qa8 _ rfl⟩
end
abbrev Sp:=List V->Hp->VK->XK->Prop
abbrev CXT:=List Env->Hp->qa4->XK->Value->qa4->Prop
structure Env0(P:qc9)(w:Ja)(K:xA9)(mg:Str->Option Value)(base:Heap)(A:qe0)(outer:List Env)(s:qa4)(H:Hp):Prop where
 frames:A.frames=some outer
 mod:Mod K mg base
 bs:∀b o,base.get? b=some o->s.heap.get? b=some o/\H b=none
 bsz:base.objs.size<=s.heap.objs.size
 funs:s.heap.FunFrames base outer
 frf:∀b∈frs outer,H b=none
 hok:HOk P w H s.heap
 bare:zc5 s.gens
 tb:∀p∈dA K,H p.1=some (.ctab p.2)
def CE(outer:List Env)(P:qc9)(w:Ja)(H:Hp)(s:qa4)(Q:VK)(u:Value)(s':qa4):Prop:=∃v H',s'.os=s.os/\zc5 s'.gens/\Un (frs outer) [] H H' s.heap s'.heap/\HOk P w H' s'.heap/\RelV v u/\Q v H'
def CR(CX:CXT)(outer:List Env)(P:qc9)(w:Ja)(H:Hp)(s:qa4)(Q:VK)(E:XK)(r:Result)(s':qa4):Prop:=
 match r with
 |.ok (.ret u)=>CE outer P w H s Q u s'
 |.ok _=>False
 |.error e=>CX outer H s E e s'
structure FnOk(P:qc9)(w:Ja)(K:xA9)(mg:Str->Option Value)(base:Heap)(CX:CXT)(k:Nat)(f:J9)(fd:qp9)(ps:List Str)(sp:Sp):Prop where
 len:∀vs H Q E,sp vs H Q E->vs.length=ps.length
 run:∀(A:qe0)(outer:List Env)(s:qa4)(H:Hp)(args:Args)(us:List Value)(vs:List V)(Q:VK)(E:XK),Room k A->Env0 P w K mg base A outer s H->za2 s fd args (ps.zip us)->Vals vs us->sp vs H Q E→
  qq5 (model P w) A (.call (.ref f) args) (CR CX outer P w H s Q E) s
variable{mg:Str->Option Value}{base:Heap}{CX:CXT}{fd:qp9}{ps:List Str}{sp:Sp}
theorem FnOk.imp{k:Nat}{f:J9}{O:Sp}(F:FnOk P w K mg base CX k f fd ps sp)
 (h:∀vs H Q E,O vs H Q E->sp vs H Q E):FnOk P w K mg base CX k f fd ps O:=
 ⟨fun vs H Q E q=>F.len vs H Q E (h _ _ _ _ q),fun A outer s H Y us vs Q E Z he hb hv hs=>F.run A outer s H Y us vs Q E Z he hb hv (h _ _ _ _ hs)⟩
section
variable{X:Cx}{J1:List (J9×Obj)}{σ:St}{H:Hp}{s s':qa4}
theorem Inv.env0(I:Inv X J1 σ H s):Env0 X.prog X.w X.K X.mg X.base X.A X.stack s H:=⟨I.ok.frames,I.ok.mod,I.bs,qb9 I.ok.bsz I.sz,I.stack,I.stkFree,I.hok,I.bare,fun p hp=>I.base.cts _ _ (I.ok.tb p hp)⟩
theorem Inv.after{Q:VK}(I:Inv X J1 σ H s)(h:CE X.stack X.prog X.w H s Q u s'):EP X J1 σ Q u s':=by obtain⟨v,H',os,O,un,Z,r,q⟩:=h;obtain⟨hh,g,d,t,Y⟩:=s';obtain rfl:Y=s.os:=os;exact⟨v,H',I.call (h':=hh) (g':=g) (d':=d) (t':=t) (ch:=[]) un Z O (fun b z=>absurd z (by simp)),r,q⟩
end
def uI(sp:Sp)(dvs:List V)(E:XK)(t:TA):TE:=fun σ H Q=>t σ H fun vs H1=>sp (vs++dvs) H1 Q E
def Binds(K:xA9)(fd:qp9)(ps:List Str)(ds:List Value):Prop:=∀(s:qa4)(us:List Value),K.In s.heap->(us++ds).length=ps.length->za2 s fd ⟨us,[]⟩ (ps.zip (us++ds))
theorem Binds.all(h:∀us:List Value,us.length=ps.length->zg6 fd ⟨us,[]⟩=pure (ps.zip us)):Binds K fd ps []:=fun s us _ q=>by rw[qn2]at q ⊢;exact .of_eq (h us q)
def pT(CX:CXT)(X:Cx)(E:XK):Prop:=∀(J1:List (J9×Obj))(σ:St)(H:Hp)(s:qa4)(e:Value)(s':qa4),Inv X J1 σ H s->CX X.stack H s E e s'->X.xe e s'
variable{vs:List V}
section
variable{X:Cx}{CX:CXT}{k:Nat}{f C:J9}{fd:qp9}{ps:List Str}{sp:Sp}{dvs:List V}{ds:List Value}{E:XK}{x m:Str}{p pos apos:Pos}{e o:Jc}{es:List Jc}{ta:TE}{t:TA}
theorem Br{Q:VK}(F:FnOk X.prog X.w X.K X.mg X.base CX k f fd ps sp)(Y:Room k X.A)(hb:Binds X.K fd ps ds)(hd:Vals dvs ds)(hx:pT CX X E)
 (I:Inv X J1 σ H s) (r:Vals vs us) (h:sp (vs++dvs) H Q E):wpAny (model X.prog X.w) X.A (call (.ref f) us) (EP X J1 σ Q) X.xe s:=by
 have O:Vals (vs++dvs) (us++ds):=r.append hd;have hl:(us++ds).length=ps.length:=by rw[<- O.length];exact F.len _ _ _ _ h
 refine zh3 (qr8 (F.run X.A X.stack s H ⟨us,[]⟩ (us++ds) (vs++dvs) Q E Y I.env0 (hb s us I.kIn hl) O h) fun r s' q=>?_);cases r with
 |error e=>exact hx J1 σ H s e s' I q
 |ok Z=>
  cases Z with
  |ret u=>exact I.after q
  |next=>exact qg2 q
  |brk=>exact qg2 q
  |cont=>exact qg2 q
theorem xM (F:FnOk X.prog X.w X.K X.mg X.base CX k f fd ps sp) (hr:Room k X.A) (hg:Gl X x) (hm:X.mg x=some (.ref f)) (hk:xF9 X.K (.ref f)=true) (hb:Binds X.K fd ps ds) (hd:Vals dvs ds) (hx:pT CX X E)
  (ha:PA X (e::es) t) (O:(x==("__debug__":Str))=false:=by decide) (he:qa9 (e::es) X.env=(false,eval e X.env)::qa9 es X.env:=by rfl) (Y:(qj9 pos (qa9 es X.env)).any (·.1)=false:=by rfl) :
  PE X (.Call (.Name x p) (e::es) [] pos) (uI sp dvs E t):=by
 intro J1 s σ H Q I h;refine qo8 (mO I hg hm ?_ O);refine PySem.W.callWith_K (h₀:=X.base) I.ok.mod.kin hk (thn (ha pos J1 s σ H _ I h) fun us s1 ⟨vs,H1,Z,r,q⟩=>⟨Z.kIn,?_⟩) he Y;exact Br F hr hb hd hx Z r q
end
section
variable{X:Cx}{CX:CXT}{k:Nat}{f C:J9}{fd:qp9}{ps ks:List Str}{sp:Sp}{E:XK}{x m:Str}{p pos apos kpos:Pos}{e o:Jc}{es:List Jc}{kws:List qu9}{te ta:TE}{t tk:TA}{nm:Option Str}
variable{g:List Value->List Value->List Value}{gV:List V->List V->List V}
end
structure FnScope(N P:List Str)(sc:Jd):Prop where
 kind:sc.kind=.function
 co:sc.isCoroutine=false
 gen:sc.isGenerator=false
 nd:N.Nodup
 pre:N.take P.length=P
 par:∀x∈P,sc.names.lookup x=some .local∨sc.names.lookup x=some .cell
 nofree:∀y∈sc.names,y.2≠.free
variable{kindOf:Str->Option qo9}
theorem lP:∀{binds:List (Str×Value)}{m:Str->Option Value},(∀v,(x,v)∉binds)->bindL kindOf binds m x=m x
 |[],_,_=>rfl
 |(n,v)::r,m,h=>by
  unfold bindL;rw[lP fun w hw=>h w (qd2 _ hw)];split
  .have:x≠n:=by rintro rfl;exact h v qd8
   simp[this]
  .rfl
theorem lQ:∀{binds:List (Str×Value)}{m:Str->Option Value},(∀v,(x,v)∉binds)->bindC kindOf binds m x=m x
 |[],_,_=>rfl
 |(n,v)::r,m,h=>by
  unfold bindC;rw[lQ fun w hw=>h w (qd2 _ hw)];split
  .rfl
  .have:x≠n:=by rintro rfl;exact h v qd8
   simp[this]
theorem je {v:Value}:∀ {P:List Str} {vs:List Value} {i:Nat} {m:Str->Option Value},P.Nodup->P[i]?=some x->vs[i]?=some v->kindOf x=some .local→
  bindL kindOf (P.zip vs) m x=some v
 |[],_,_,_,_,h,_,_=>by simp at h
 |_::_,[],_,_,_,_,h,_=>by simp at h
 |p::P,w::vs,0,m,nd,h1,h2,hk=>by
  simp at h1 h2;subst h1;subst h2
  show bindL kindOf ((p,w)::P.zip vs) m p=_;unfold bindL;rw[lP fun v hv=>(qh3.mp nd).1 (qw7 hv).1,if_pos hk];simp
 |p::P,w::vs,i+1,m,nd,h1,h2,hk=>by show bindL kindOf ((p,w)::P.zip vs) m x=_;unfold bindL;exact je (i:=i) (qh3.mp nd).2 (by simpa using h1) (by simpa using h2) hk
theorem jf {v:Value}:∀ {P:List Str} {vs:List Value} {i:Nat} {m:Str->Option Value},P.Nodup->P[i]?=some x->vs[i]?=some v->kindOf x≠some .local→
  bindC kindOf (P.zip vs) m x=some v
 |[],_,_,_,_,h,_,_=>by simp at h
 |_::_,[],_,_,_,_,h,_=>by simp at h
 |p::P,w::vs,0,m,nd,h1,h2,hk=>by
  simp at h1 h2;subst h1;subst h2
  show bindC kindOf ((p,w)::P.zip vs) m p=_;unfold bindC;rw[lQ fun v hv=>(qh3.mp nd).1 (qw7 hv).1,if_neg hk];simp
 |p::P,w::vs,i+1,m,nd,h1,h2,hk=>by show bindC kindOf ((p,w)::P.zip vs) m x=_;unfold bindC;exact jf (i:=i) (qh3.mp nd).2 (by simpa using h1) (by simpa using h2) hk
def start(N:List Str)(vs:List V):St:=vs.map some++qg3 (N.length-vs.length) none
noncomputable def ko(CX:CXT)(P:qc9)(w:Ja)(K:xA9)(mg:Str->Option Value)(base:Heap)(N:List Str)(qual:Str)(scope:Jd)(f:J9)(O:Value)(A:qe0)(outer:List Env)(s:qa4)(H:Hp)(E:XK):Cx where
 prog:=P
 w:=w
 K:=K
 mg:=mg
 base:=base
 A:=A.deeper (qz0 qual scope s.heap.objs.size f O)
 N:=N
 s₀:=s
 H₀:=H
 env:=qz0 qual scope s.heap.objs.size f O
 outer:=outer
 stack:=qz0 qual scope s.heap.objs.size f O::outer
 ex:=[]
 calm:=true
 fn:=fun _=>true
 pn:=[]
 xe:=fun e s'=>wpAny (model P w) (A.deeper (qz0 qual scope s.heap.objs.size f O)) (leaving (qz0 qual scope s.heap.objs.size f O) e) (fun _ q=>CX outer H s E e q) (fun Y q=>CX outer H s E Y q) s'
theorem iE{sc:Jd}(h:sc.names.lookup x=some .cell):∃c,(qg6 n sc.names []).lookup x=some c:=by have q:=xR9 sc.names n [] (.inl h);exact qr9.mp q
variable{qual:Str}{scope:Jd}
theorem sL{f:J9}{cd:Value}{outer:List Env}{s1:qa4}{E:XK} 
 (S:FnScope N ps scope) (hd:A.handled=none) (e0:Env0 P w K mg base A outer s H) (hl:vs.length=ps.length) (r:Vals vs us)
 (x:zd1 s s.heap.objs.size (bindL (qz0 qual scope s.heap.objs.size f cd).kindOf (ps.zip us) fun _=>none) (qg6 (s.heap.objs.size+1) scope.names []) (bindC (qz0 qual scope s.heap.objs.size f cd).kindOf (ps.zip us) fun _=>none) s1) :
  Inv (ko CX P w K mg base N qual scope f cd A outer s H E) [] (start N vs) H s1:=by
 have hpl:ps.length<=N.length:=by have:=congrArg qo1 S.pre;rw[qv0]at this;lia
 obtain⟨h1,tk,rfl,hk⟩:=x.done;have O:∀b:J9,b∉(ko CX P w K mg base N qual scope f cd A outer s H E).ex:=fun b z=>absurd (show b∈([]:List J9)from z) (by simp)
 refine⟨⟨e0.mod,S.kind,rfl,rfl,nL _,fun y z c h1 h2=>?_,fun y Y=>?_,fun y c _ h=>?_,fun _=>hd,qe0.frames_deeper e0.frames,.inr ⟨rfl,rfl⟩,fun b z=>absurd z (O b),e0.bs,e0.bsz,fun b _ _=>O b,fun b z=>absurd z (O b),e0.funs,e0.frf,e0.tb⟩,rfl,e0.bare,Un.kept hk,⟨_,x.toInCall.ns,fun i y v h1 h2 h3=>?_⟩,fun y c h=>⟨_,x.cell y c h⟩,e0.hok.fresh (qt7 _),fun y c h=>?_,fun p hp=>absurd (show p∈([]:List (J9×Obj))from hp) (by simp),e0.hok.kept hk,?_⟩
 .exact zh9 x.apart (PySem.mem_of_lookup h1) (PySem.mem_of_lookup h2)
 .have Y:scope.names.lookup y=some .cell∨scope.names.lookup y=some .free:=Y;rcases Y with Y|Y
  .exact iE Y
  .exact absurd rfl (S.nofree _ (PySem.mem_of_lookup Y))
 .exact qi8 (x.above y c (PySem.mem_of_lookup h))
 .have hi:i<vs.length:=by
   unfold start at h2;by_cases hi:i<vs.length
   .exact hi
   .rw[qd6 (by simpa using hi)]at h2;rw[qk0]at h2;split at h2<;>cases h2
  have ha:vs[i]?=some v:=by
   unfold start at h2;rw[qc6 (by simpa using hi),qb1]at h2;cases e:vs[i]? with
   |none=>rw[e]at h2;cases h2
   |some a=>rw[e]at h2;cases h2;rfl
  obtain⟨u,hu,rv⟩:=r.get ha
  have hp:ps[i]?=some y:=by rw[<- S.pre,qz1 (by lia)];exact h1
  have Z:ps.Nodup:=by rw[<- S.pre];exact S.nd.sublist (qz2 _ _)
  refine⟨u,rv,?_⟩;rcases S.par y (qd3 hp)with k|k
  .exact .inl ⟨k,je Z hp hu k⟩
  .obtain⟨c,e⟩:=iE (n:=s.heap.objs.size+1) k;refine .inr ⟨.inl k,c,e,?_⟩;have q:=x.cell y c e;rw[jf Z hp hu (by show scope.names.lookup y≠_;rw[k];decide)]at q;exact q
 .exact e0.hok.fresh (qi8 (x.above y c (PySem.mem_of_lookup h)))
 .unfold start;show _=N.length;rw[qc4,qa1,qm1];lia
theorem zO{k:Nat}{f:J9}{name:Str}{params:qj0}{dV kV doc pm cdv ct oc:Value}{an od:Option J9}
 {osl:Array (Option Value)} (lk:K.lookup f=some ⟨oc,od,.func (xC9 name qual params body scope dV kV doc pm an cdv ct),osl⟩) (hcd:xH9 K cdv qual=true) (S:FnScope N ps scope)
 (len:∀vs H Q E,sp vs H Q E->vs.length=ps.length)
 (Z:∀(A:qe0)(outer:List Env)(s:qa4)(H:Hp)(vs:List V)(Q:VK)(E:XK),Room k (A.deeper (qz0 qual scope s.heap.objs.size f cdv))->sp vs H Q E→
 ∃t,PSs (ko CX P w K mg base N qual scope f cdv A outer s H E) body t/\t {nx:=fun _ H'=>Q .non H',rt:=Q} (start N vs) H) :
  FnOk P w K mg base CX (k+1) f (xC9 name qual params body scope dV kV doc pm an cdv ct) ps sp:=by
 refine⟨len,fun A outer s H args us vs Q E hr e0 hb r hsp=>?_⟩;have hl:=len _ _ _ _ hsp;have KX:K.In s.heap:=e0.mod.kin.keeps fun b o e=>(e0.bs b o e).1
 have lim:s.heap.NoLimit:=e0.mod.nolimit.keeps fun b o e=>(e0.bs b o e).1
 have Y:∀y∈ps.zip us,scope.names.lookup y.1=some .local∨(scope.names.lookup y.1=some .cell/\((qg6 (s.heap.objs.size+1) scope.names []).lookup y.1).isSome=true):=fun⟨n,v⟩ hy=>by
  rcases S.par n (qw7 hy).1 with q|q
  .exact .inl q
  .exact .inr ⟨q,xR9 _ _ _ (.inl q)⟩
 refine zd2 hr.depth (KX _ _ lk) rfl S.co S.gen rfl (PySem.W.codeRec_of KX hcd) (hb _ _ _ _ ?_);refine wpAny_newFunctionEnv_cells S.kind Y fun env he s1 x=>?_
 subst he;refine⟨lim.keeps x.toInCall.keep,codeAny_func ?_⟩;obtain⟨t,ht,hq⟩:=Z A outer s H vs Q E (hr.deeper _) hsp;have I:Inv (ko CX P w K mg base N qual scope f cdv A outer s H E) [] (start N vs) H s1:=sL S hr.hd e0 hl r x;refine qk6 (ht [] s1 (start N vs) H _ I hq) (fun fl s' hs=>?_) fun e s' hs=>hs
 have fin:∀{O:St}{H':Hp}{v:V}{u:Value},Inv (ko CX P w K mg base N qual scope f cdv A outer s H E) [] O H' s'->RelV v u->Q v H'->CE outer P w H s Q u s':=fun {O H' v u} J rv q=>⟨v,H',J.os,J.bare,J.base,J.hok,rv,q⟩
 cases fl with
 |ret u=>obtain⟨v,O,H',J,rv,q⟩:=hs;exact fin J rv q
 |next=>obtain⟨O,H',J,q⟩:=hs;exact fin (v:=V.non) (u:=qh2) J rfl q
 |brk=>obtain⟨_,_,_,q⟩:=hs;exact qg2 q
 |cont=>obtain⟨_,_,_,q⟩:=hs;exact qg2 q
section
variable{X:Cx}{x:Str}{p pos:Pos}{e:Jc}{es:List Jc}{t:TA}{id T:String}{r:List V->Hp->VK->Prop}
def tCB(r:List V->Hp->VK->Prop)(t:TA):TE:=fun σ H Q=>t σ H fun vs H1=>r vs H1 Q
theorem uJ (hc:dh X (.builtin id) r) (hg:Gl X x) (Y:X.mg x=none) (hv:qd7 x=some (.builtin id)) (ha:PA X (e::es) t) (hn:x≠"__name__":=by decide) (q:(x==("__debug__":Str))=false:=by decide)
  (he:qa9 (e::es) X.env=(false,eval e X.env)::qa9 es X.env:=by rfl) (O:(qj9 pos (qa9 es X.env)).any (·.1)=false:=by rfl):PE X (.Call (.Name x p) (e::es) [] pos) (tCB r t):=by
 intro J1 s σ H Q I h;refine qo8 (fT I hg Y hv ?_ hn q);exact PyProof.Rows.callWith_builtin1 (thn (ha pos J1 s σ H _ I h) fun us s1 ⟨vs,H1,Z,r1,q1⟩=>hc J1 s1 σ H1 vs us Q Z r1 q1) he O
theorem sN (hc:dh X (.type T) r) (hg:Gl X x) (Y:X.mg x=none) (hv:qd7 x=some (.type T)) (ha:PA X (e::es) t) (hn:x≠"__name__":=by decide) (q:(x==("__debug__":Str))=false:=by decide)
  (he:qa9 (e::es) X.env=(false,eval e X.env)::qa9 es X.env:=by rfl) (O:(qj9 pos (qa9 es X.env)).any (·.1)=false:=by rfl):PE X (.Call (.Name x p) (e::es) [] pos) (tCB r t):=by
 intro J1 s σ H Q I h;refine qo8 (fT I hg Y hv ?_ hn q);exact qf6 (thn (ha pos J1 s σ H _ I h) fun us s1 ⟨vs,H1,Z,r1,q1⟩=>hc J1 s1 σ H1 vs us Q Z r1 q1) he O
end
end L2
namespace HT
open PySem PyProof.Rows
section
open PySem.SeqAt
open PySem.AutoSeq1 (wpAny_loadPart')
open PySem.MeetsSeq PySem.MeetsSeq2 PySem.MeetsSeq3
end
variable{Q:Value->qa4->Prop}{vu:Value}{lo hi:Option Int}
section
variable{prog:qc9}{w:Ja}{A:qe0}{E:Value->qa4->Prop}{s:qa4}
theorem ES{t b:J9}{vs q:List Value}(ht:IsTup s.heap t vs.toArray)(hb:IsTup s.heap b q.toArray)(hv:vs≠[])
 (h1:q=[]->Q (.ref t) s) (h2:q≠[]->Q (.ref s.heap.objs.size) {s with heap:=s.heap.push {cls:=.type "tuple",data:=.seq (vs++q).toArray}})
 (hsz:vs.length+q.length<=qb4):wpAny (model prog w) A (qm7 .Add (.ref t) (.ref b)) Q E s:=by
 obtain⟨⟨cls,dd,data,sl⟩,ho,hc,n,hd⟩:=id ht;obtain⟨⟨cls2,dd2,data2,Y⟩,O,Z,n2,hd2⟩:=id hb;simp only at hc hd Z hd2;subst hc hd Z hd2;have e:vs.toArray++q.toArray=(vs++q).toArray:=by simp
 by_cases hw:q=[]
 .exact qy0 ⟨_,ho,rfl⟩ ⟨_,O,rfl⟩ qv1 za3 PySem.F.slot_tuple_add PySem.F.entry_tuple_add (PySem.F.args_tuple_add_2 _ _)
   (tuple_addW1 t b vs.toArray q.toArray n n2 dd dd2 sl Y (by simpa using hv) (by simp[hw])) ⟨ho,O,h1 hw⟩
 .refine qy0 ⟨_,ho,rfl⟩ ⟨_,O,rfl⟩ qv1 za3 PySem.F.slot_tuple_add PySem.F.entry_tuple_add (PySem.F.args_tuple_add_2 _ _)
   (tuple_addW2 t b vs.toArray q.toArray n n2 dd dd2 sl Y (by simpa using hv) (by simpa using hw) (by rw[qb7,qb7];exact hsz)) ⟨ho,O,?_⟩
  rw[e];exact h2 hw
def sIx(n d:Nat):Option Int->Nat
 |none=>d
 |some v=>if v<0 then(v+(n:Int)).toNat else min v.toNat n
theorem Bs(n d:Nat)(O:d<=n)(o:Option Int):sIx n d o<=n:=by
 cases o with
 |none=>exact O
 |some v=>
  show(if v<0 then(v+(n:Int)).toNat else min v.toNat n)<=n;by_cases q:v<0
  .rw[if_pos q];lia
  .rw[if_neg q];exact Nat.min_le_right _ _
theorem ra(v:Int)(n d:Nat):(if v<0 then max (v+(n:Int)) 0 else min v (n:Int))=((sIx n d (some v):Nat):Int):=by
 show(if v<0 then max (v+(n:Int)) 0 else min v (n:Int))=(((if v<0 then(v+(n:Int)).toNat else min v.toNat n):Nat):Int);by_cases q:v<0
 .simp only[if_pos q];lia
 .simp only[if_neg q];lia
theorem pU(lo hi:Option Int)(n:Nat):qq7 lo hi 1 (n:Int)=(((sIx n 0 lo:Nat):Int),((sIx n n hi:Nat):Int)):=by
 have h1:¬ ((1:Int)<0):=by lia
 unfold qq7;simp only[h1,if_false];refine Prod.ext ?_ ?_
 .cases lo with
  |none=>rfl
  |some v=>exact ra v n 0
 .cases hi with
  |none=>rfl
  |some v=>exact ra v n n
theorem pV(i j:Nat):qm3 (i:Int) (j:Int) 1=j-i:=by
 unfold qm3;have h1:(1:Int) > 0:=by lia
 simp only[h1,if_true,Int.ediv_one];split<;>lia
theorem kr{v:Value}{o:Option Int}{Q:Option Int->qa4->Prop}(p:zi0 v o)(h:Q o s):wpAny (model prog w) A (qj1.Slice.slicePartIndex v) Q E s:=by
 cases p with
 |none=>exact slicePart_none h
 |int i t=>exact slicePart_int h
theorem jg{sl:J9}{vl:Value}{n:Nat}{Q:Int×Int×Nat->qa4->Prop}(Z:s.heap.IsSliceOf sl vl vu .none)(pl:zi0 vl lo)(pu:zi0 vu hi)
 (h:Q (((sIx n 0 lo:Nat):Int),1,sIx n n hi-sIx n 0 lo) s):wpAny (model prog w) A (qx5 (.ref sl) (pure (n:Int))) Q E s:=by
 obtain⟨os,q,Y,O⟩:=id Z;unfold qx5 qj1.Slice.sliceFields;refine wB (wB (qt9 q O (x:=vl) rfl (wB (qt9 q O (x:=vu) rfl (wB (qt9 q O (x:=.none) rfl (qa3 ?_)))))));refine wB (slicePart_none ?_);show wpAny _ _ (if((1:Int)==0)=true then _ else _) _ _ s;rw[if_neg (by decide)];refine wB (kr pl (wB (kr pu (wB (qa3 ?_)))));show wpAny _ _ (match qq7 lo hi 1 (n:Int)with|(lo,hi)=>pure (lo,(1:Int),qm3 lo hi 1)) _ _ s;rw[pU lo hi n];show wpAny _ _ (pure (((sIx n 0 lo:Nat):Int),(1:Int),qm3 ((sIx n 0 lo:Nat):Int) ((sIx n n hi:Nat):Int) 1)) _ _ s;rw[pV];exact qa3 h
theorem uK(xs:Array Value)(i k:Nat):((qb2 k).filterMap fun(m:Nat)=>xs[((i:Int)+(m:Int)*1).toNat]?).toArray=((xs.toList.drop i).take k).toArray:=by
 have e:(fun(m:Nat)=>xs[((i:Int)+(m:Int)*1).toNat]?)=fun m=>xs[i+m]?:=by
  funext m;have:((i:Int)+(m:Int)*1).toNat=i+m:=by lia
  rw[this]
 rw[e];have:=pick_run xs i k;rw[List.filterMap_map]at this;have q:((fun x=>xs[x]?) ∘ fun x=>i+x)=fun m=>xs[i+m]?:=rfl
 rw[q]at this;rw[this]
theorem rb{t sl:J9}{O:Array Value}{vl:Value}(Z:IsTup s.heap t O)(hs:s.heap.IsSliceOf sl vl vu .none)(pl:zi0 vl lo)(pu:zi0 vu hi)
 (hw:¬ (sIx O.size 0 lo=0/\sIx O.size O.size hi=O.size))
 (h:Q (.ref s.heap.objs.size) {s with heap:=s.heap.push {cls:=.type "tuple",data:=.seq ((O.toList.drop (sIx O.size 0 lo)).take (sIx O.size O.size hi-sIx O.size 0 lo)).toArray}})
 (hsz:O.size<=qb4):wpAny (model prog w) A (zf7 (.ref t) (.ref sl)) Q E s:=by
 have Y:sizeOk (.seq ((O.toList.drop (sIx O.size 0 lo)).take (sIx O.size O.size hi-sIx O.size 0 lo)).toArray):=by show((O.toList.drop (sIx O.size 0 lo)).take (sIx O.size O.size hi-sIx O.size 0 lo)).toArray.size<=qb4;rw[qb7,qv0,zb4,qe3];lia
 have hj:sIx O.size O.size hi<=O.size:=Bs _ _ (nL _) hi;obtain⟨os,hos,hcs,hds⟩:=id hs;have hTs:s.TypeIs (.ref sl) "slice":=⟨os,hos,hcs⟩;unfold zf7
 try with_reducible refine qi1 ?_
 first|refine wB (qa3 ?_)|skip
 refine wB (wpAny_sequenceKey Z.typeIs (by decide) ?_)
 refine wB (qe9 (name:=qa0 "__getitem__") Z.typeIs qn3
  (qf3 qn3 Z.typeIs entry_tuple_getitem ?_ (args_tuple_getitem _ _)))
 show wpAny _ _ (qj1.Tuple.tupleItemsOf (.ref t) >>= _) _ _ s;refine wB (tupleItemsOf_ Z ?_);refine wB (zd3 hTs ?_);rw[if_pos (by decide)];refine wB (jg hs pl pu ?_)
 have hno:¬ ((((sIx O.size 0 lo:Nat):Int)==0&&(1:Int)==1&&(sIx O.size O.size hi-sIx O.size 0 lo)==O.size)=true):=by intro q;rw[qb3,qb3]at q;have q1:((sIx O.size 0 lo:Nat):Int)=0:=eq_of_beq q.1.1;have q2:sIx O.size O.size hi-sIx O.size 0 lo=O.size:=eq_of_beq q.2;exact hw ⟨by lia,by lia⟩
 show wpAny _ _ (if(((sIx O.size 0 lo:Nat):Int)==0&&(1:Int)==1&&(sIx O.size O.size hi-sIx O.size 0 lo)==O.size)=true then _ else _) _ _ s;rw[if_neg hno,uK]
 first
  |exact wB (m:=qn4 _) (qd5 (qa3 ⟨_,rfl,qa3 h⟩) Y)
  |exact wB (m:=qn4 _) (qd5 (wB (qa3 (qa3 ⟨_,rfl,qa3 h⟩))) Y)
  |exact wB (wB (m:=qn4 _) (qd5 (qa3 (qa3 ⟨_,rfl,qa3 h⟩)) Y))
  |exact wB (wB (m:=qn4 _) (qd5 (qa3 ⟨_,rfl,qa3 h⟩) Y))
end
end HT
namespace L2
open PySem PySem.Spec PyProof.Rows
abbrev TO:=St->Hp->(Option Int->Hp->Prop)->Prop
noncomputable def PO(X:Cx)(e:Option Jc)(t:TO):Prop:=
 ∀(J1:List (J9×Obj))(s:qa4)(σ:St)(H:Hp)(Q:Option Int->Hp->Prop),Inv X J1 σ H s->t σ H Q→
  wpAny (model X.prog X.w) X.A (evalPart e X.env) (fun u s'=>∃o H',Inv X J1 σ H' s'/\zi0 u o/\Q o H') X.xe s
def xN:TO:=fun _ H Q=>Q none H
def DY(t:TE):TO:=fun σ H Q=>t σ H fun x H1=>∃i,x=.int i/\Q (some i) H1
variable{r:V->Option Int->Option Int->Hp->VK->Prop}
section
variable{X:Cx}{e:Jc}{te:TE}{lo hi:Option Jc}{tl th:TO}{pos p2:Pos}
theorem xO:PO X none xN:=by intro J1 s σ H Q I h;rw[evalPart_none];exact qa3 ⟨none,H,I,.none,h⟩
theorem xP(h:PE X e te):PO X (some e) (DY te):=by
 intro J1 s σ H Q I Y;rw[evalPart_some];refine thn (h J1 s σ H _ I Y) fun u s1 ⟨x,H1,O,Z,q1⟩=>?_
 obtain⟨i,rfl,q⟩:=q1;obtain⟨t,rfl⟩:=Z;exact⟨some i,H1,O,.int i t,q⟩
noncomputable def SlR(X:Cx)(r:V->Option Int->Option Int->Hp->VK->Prop):Prop:=
 ∀(J1:List (J9×Obj))(s:qa4)(σ:St)(H:Hp)(x:V)(v vl vu:Value)(lo hi:Option Int)(sl:J9)(Q:VK),Inv X J1 σ H s->RelV x v->s.heap.IsSliceOf sl vl vu .none->zi0 vl lo->zi0 vu hi->r x lo hi H Q→
  ∃T id,ze7 (.type T) "__getitem__"=pure (some (.builtin id))/\s.TypeIs v T/\wpAny (model X.prog X.w) X.A (zf7 v (.ref sl)) (EP X J1 σ Q) X.xe s
theorem SlR.or{O:V->Option Int->Option Int->Hp->VK->Prop}(h:SlR X r)(h':SlR X O):SlR X (fun x lo hi H Q=>r x lo hi H Q∨O x lo hi H Q):=by
 intro J1 s σ H x v vl vu lo hi sl Q I rx Y Z pu q;rcases q with q|q
 .exact h J1 s σ H x v vl vu lo hi sl Q I rx Y Z pu q
 .exact h' J1 s σ H x v vl vu lo hi sl Q I rx Y Z pu q
def tSl(r:V->Option Int->Option Int->Hp->VK->Prop)(te:TE)(tl th:TO):TE:=fun σ H Q=>te σ H fun x H1=>tl σ H1 fun l H2=>th σ H2 fun u q=>r x l u q Q
theorem uL(Z:SlR X r)(he:PE X e te)(hl:PO X lo tl)(hu:PO X hi th):PE X (.Subscript e (.Slice lo hi none p2) pos) (tSl r te tl th):=by
 intro J1 s σ H Q I h;refine Subscript_ (thn (he J1 s σ H _ I h) fun v s1 ⟨x,H1,I1,r1,q1⟩=>?_);refine wpAny_Slice (thn (hl J1 s1 σ H1 _ I1 q1) fun vl s2 ⟨l,H2,I2,pl,q2⟩=>thn (hu J1 s2 σ H2 _ I2 q2) fun vu O ⟨u,Y,I3,pu,q3⟩=>?_);rw[evalPart_none];refine qa3 ?_;have I4:Inv X J1 σ Y {O with heap:=O.heap.push {cls:=.type "slice",data:=.fields #[vl,vu,.none]}}:=I3.kept (t':=O.toks) fun b ob q=>gP _ q
 obtain⟨T,id,hT,ht,hg⟩:=Z J1 {O with heap:=O.heap.push {cls:=.type "slice",data:=.fields #[vl,vu,.none]}} σ Y x v vl vu l u O.heap.objs.size Q I4 r1 (Heap.IsSliceOf.new ..) pl pu q3;show wpAny (model X.prog X.w) X.A (zg7 e (.Slice lo hi none p2) v (.ref O.heap.objs.size)) (EP X J1 σ Q) X.xe {O with heap:=O.heap.push {cls:=.type "slice",data:=.fields #[vl,vu,.none]}};exact tail_any (ops:=[.ref O.heap.objs.size,v]) ht hT hg (by with_unfolding_all rfl)
def oh(xs:List V)(lo hi:Option Int):List V:=(xs.drop (HT.sIx xs.length 0 lo)).take (HT.sIx xs.length xs.length hi-HT.sIx xs.length 0 lo)
theorem jF(xs:List V)(lo hi:Option Int):(oh xs lo hi).length<=xs.length:=by unfold oh;rw[qv0,zb4];lia
noncomputable def rSlT(K:xA9):V->Option Int->Option Int->Hp->VK->Prop:=fun x lo hi H Q=>∃a xs,x=.ref a/\SqT K H a xs∧¬ (HT.sIx xs.length 0 lo=0/\HT.sIx xs.length xs.length hi=xs.length)/\∀p,H p=none->Q (.ref p) (upd H p (.tup (oh xs lo hi)))
theorem Bt:SlR X (rSlT X.K):=by
 intro J1 s σ H x v vl vu lo hi sl Q I rx hs pl pu h;obtain⟨a,xs,rfl,hx,hw,q⟩:=h;cases rx;obtain⟨J8,r,Y,Z⟩:=I.tuple hx;have O:J8.toArray.size=xs.length:=by rw[qb7];exact r.length.symm
 refine⟨"tuple",_,qn3.lookup,Y.typeIs,?_⟩;refine HT.rb Y hs pl pu (by rw[O];exact hw) ?_ (by rw[O];exact Z);rw[O];refine⟨.ref s.heap.objs.size,_,I.laid (t':=s.toks) (o:=.tup (oh xs lo hi)) (fun b ob q=>gP _ q) (nL _) ?_,rfl,q _ (I.hok.fresh (nL _))⟩;exact⟨qb9 (jF xs lo hi) Z,_,(r.drop (HT.sIx xs.length 0 lo)).take (HT.sIx xs.length xs.length hi-HT.sIx xs.length 0 lo),IsTup.new _ _⟩
noncomputable def zP(K:xA9):R2:=fun x y H Q=>∃a b xs ys,x=.ref a/\y=.ref b/\SqT K H a xs/\SqT K H b ys/\xs≠[]/\xs.length+ys.length<=qb4∧(ys=[]->Q (.ref a) H)/\(ys≠[]->∀p,H p=none->Q (.ref p) (upd H p (.tup (xs++ys))))
theorem Vals.nil_iff{xs:List V}{us:List Value}(r:Vals xs us):us=[]↔xs=[]:=by
 cases r with
 |nil=>simp
 |cons _ _=>simp
theorem xQ:OpR X (qm7 .Add) (zP X.K):=by intro J1 s σ H x y v u Q I rx ry h;obtain⟨a,b,xs,ys,rfl,rfl,ha,hb,hx,Z,q1,q2⟩:=h;cases rx;cases ry;obtain⟨J8,Y,p1,_⟩:=I.tuple ha;obtain⟨its2,O,p2,_⟩:=I.tuple hb;refine HT.ES p1 p2 (fun z=>hx (Y.nil_iff.mp z)) (fun z=>⟨.ref a,H,I,rfl,q1 (O.nil_iff.mp z)⟩) (fun z=>?_) (by rw[<- Y.length,<- O.length];exact Z);refine⟨.ref s.heap.objs.size,_,I.laid (t':=s.toks) (o:=.tup (xs++ys)) (fun b ob q=>gP _ q) (nL _) ?_,rfl,q2 (fun w=>z (O.nil_iff.mpr w)) _ (I.hok.fresh (nL _))⟩;exact⟨by rw[qc4];exact Z,_,Y.append O,IsTup.new _ _⟩
end
def ixN(n:Nat)(i:Int):Option Nat:=if 0<=i then(if i<n then some i.toNat else none)else if -(n:Int)<=i then some (i+n).toNat else none
def atI{α:Type}(xs:List α)(i:Int):Option α:=(ixN xs.length i).bind fun j=>xs[j]?
variable{n j:Nat}{i:Int}
theorem re(h:ixN n i=some j):seqIndex? i n=some j/\j<n/\-(n:Int)<=i/\i<n:=by
 unfold ixN at h;by_cases q:0<=i
 .rw[if_pos q]at h;by_cases h1:i<n
  .rw[if_pos h1]at h;have e:i.toNat=j:=qd9 h;exact⟨by rw[seqIndex_of q h1,e],by lia,by lia,h1⟩
  .rw[if_neg h1]at h;cases h
 .rw[if_neg q]at h;by_cases h1:-(n:Int)<=i
  .rw[if_pos h1]at h;have e:(i+n).toNat=j:=qd9 h;exact⟨by rw[seqIndex_neg (by lia) h1,e],by lia,h1,by lia⟩
  .rw[if_neg h1]at h;cases h
theorem mT{α:Type}{xs:List α}{v:α}(h:atI xs i=some v):∃j,seqIndex? i xs.length=some j/\xs[j]?=some v/\j<xs.length/\-(xs.length:Int)<=i/\i<xs.length:=by
 unfold atI at h;cases e:ixN xs.length i with
 |none=>rw[e]at h;cases h
 |some j=>rw[e]at h;obtain⟨h1,h2,h3,q⟩:=re e;exact⟨j,h1,h,h2,h3,q⟩
theorem xR{α:Type}{xs:List α}{v:α}(h:xs[j]?=some v):atI xs (j:Int)=some v:=by
 have q:j<xs.length:=(gX h).1
 have e:ixN xs.length (j:Int)=some j:=by unfold ixN;rw[if_pos (by lia),if_pos (by lia)];simp
 unfold atI;rw[e];exact h
def rf(b:Jc):Prop:=∀o i,zf8 b false o i=operate [o,i] (zf7 o i)
noncomputable def IxR(X:Cx)(r:R2):Prop:=
 ∀(value q:Jc)(J1:List (J9×Obj))(s:qa4)(σ:St)(H:Hp)(x y:V)(v u:Value)(Q:VK),Inv X J1 σ H s->RelV x v->RelV y u->r x y H Q→
  zf8 q false v u=operate [v,u] (zf7 v u)->wpAny (model X.prog X.w) X.A (zg7 value q v u) (EP X J1 σ Q) X.xe s
noncomputable def MtR(X:Cx)(id:String)(r:V->List V->Hp->VK->Prop):Prop:=
 ∀(J1:List (J9×Obj))(s:qa4)(σ:St)(H:Hp)(x:V)(xs:List V)(v:Value)(us:List Value)(Q:VK),Inv X J1 σ H s->RelV x v->Vals xs us->r x xs H Q→
  wpAny (model X.prog X.w) X.A (call (.builtin id) (v::us)) (EP X J1 σ Q) X.xe s
variable{J1:List (J9×Obj)}{σ:St}{H:Hp}{s:qa4}{p:J9}{J8 its':List Value}{A:qe0}{y x:V}{u v:Value}
section
variable{X:Cx}{a b:Jc}{ta tb:TE}{pos:Pos}
theorem IxR.or{r Y:R2}(h:IxR X r)(h':IxR X Y):IxR X (fun x y H Q=>r x y H Q∨Y x y H Q):=by
 intro value O J1 s σ H x y v u Q I rx ry q Z;rcases q with q|q
 .exact h value O J1 s σ H x y v u Q I rx ry q Z
 .exact h' value O J1 s σ H x y v u Q I rx ry q Z
theorem DZ{r:R2}(O:IxR X r)(ha:PE X a ta)(Y:PE X b tb)(hs:rf b):PE X (.Subscript a b pos) (tOp r ta tb):=by intro J1 s σ H Q I h;exact Subscript_ (Bi ha Y I h fun v u s2 x y H2 Z rx ry q=>O a b J1 s2 σ H2 x y v u Q Z rx ry q (hs _ _))
def rIxL(K:xA9):R2:=fun x y H Q=>∃p xs i v,x=.ref p/\y=.int i/\SqL K H p xs/\atI xs i=some v/\Q v H
def rIxT(K:xA9):R2:=fun x y H Q=>∃p xs i v,x=.ref p/\y=.int i/\SqT K H p xs/\atI xs i=some v/\Q v H
def rIxS:R2:=fun x y H Q=>∃z i c,x=.str z/\y=.int i/\z.length<=qb4/\atI z.cps.toList i=some c/\Q (.str ⟨#[c]⟩) H
theorem ix_list:IxR X (rIxL X.K):=by
 intro value slice J1 s σ H x y v u Q I rx ry h hs;obtain⟨p,xs,i,z,rfl,rfl,hq,he,q⟩:=h;cases rx;obtain⟨t,rfl⟩:=ry;obtain⟨J8,r,pl,hz⟩:=I.list hq;obtain⟨j,h1,h2,h3,h4,h5⟩:=mT he;obtain⟨w,ew,rw'⟩:=r.get h2;have hl:=r.length;have hn:=jd;have fin:EP X J1 σ Q w s:=⟨z,H,I,rw',q⟩;by_cases h0:0<=i
 .have hj:i.toNat=j:=by rw[seqIndex_of h0 h5]at h1;exact qd9 h1
  exact item_listR pl.isList h0 (by lia) (by rw[hj];simpa using ew) fin hs
 .have hj:(i+(J8.toArray.size:Int)).toNat=j:=by rw[seqIndex_neg (by lia) h4]at h1;rw[qb7,<- hl];exact qd9 h1
  exact zb8 (x:=w) pl.isList.typeIs slot_list_getitem.lookup
   (wpAny_getItem_list_neg (Q:=fun r s'=>r=w/\EP X J1 σ Q r s') pl.isList (by lia) (by rw[qb7]<;>lia) (by lia) (by rw[hj];simpa using ew) ⟨rfl,fin⟩) hs
theorem ix_tup:IxR X (rIxT X.K):=by
 intro value slice J1 s σ H x y v u Q I rx ry h hs;obtain⟨p,xs,i,z,rfl,rfl,hq,he,q⟩:=h;cases rx;obtain⟨t,rfl⟩:=ry;obtain⟨J8,r,pl,hz⟩:=I.tuple hq;obtain⟨j,h1,h2,h3,h4,h5⟩:=mT he;obtain⟨w,ew,rw'⟩:=r.get h2;have hl:=r.length;have hn:=jd;have fin:EP X J1 σ Q w s:=⟨z,H,I,rw',q⟩
 exact zb8 (x:=w) pl.typeIs slot_tuple_getitem.lookup
  (getItem_tuple (j:=j) (Q:=fun r s'=>r=w/\EP X J1 σ Q r s') pl (by lia) (by lia) (by rw[qb7,<- hl];exact h1) (by simpa using ew) ⟨rfl,fin⟩) hs
theorem Bu:IxR X rIxS:=by
 intro value slice J1 s σ H x y v u Q I rx ry h hs;obtain⟨z,i,c,rfl,rfl,hz,he,q⟩:=h;obtain⟨t,rfl⟩:=rx;obtain⟨t',rfl⟩:=ry;obtain⟨j,h1,h2,h3,h4,h5⟩:=mT he;have hl:z.cps.toList.length=z.length:=by simp[Str.length]
 rw[hl]at h1 h4 h5;have hn:=jd
 exact tail_any (typeIs_str s z t) slot_str_getitem.lookup (getItem_str (c:=c) (by have e1:decide (i < -(2^63:Int))=false:=decide_eq_false (by lia);have e2:decide (i ≥ 2^63)=false:=decide_eq_false (by lia);rw[e1,e2,qs3]) (by rw[h1];simpa using h2) ⟨.str ⟨#[c]⟩,H,I.tok _,⟨_,rfl⟩,q⟩) hs
def rIx(K:xA9):R2:=fun x y H Q=>rIxL K x y H Q∨rIxT K x y H Q∨rIxS x y H Q
theorem Bv:IxR X (rIx X.K):=ix_list.or (ix_tup.or Bu)
theorem pW(J8:List Value)(n j:Nat)(u:Value):qo6 (·.setIfInBounds j u) {cls:=.type "list",data:=.seq J8.toArray n}={cls:=.type "list",data:=.seq (J8.set j u).toArray n}:=by simp[qo6]
theorem Inv.lst {xs:List V} (I:Inv X J1 σ H s) (h:H p=some (.lst xs)) :
  ∃(J8:List Value)(n:Nat),Vals xs J8/\s.heap.get? p=some {cls:=.type "list",data:=.seq J8.toArray n}/\xs.length<=qb4:=by
 obtain⟨z,J8,n,r,e⟩:=I.hok p _ h;exact⟨J8,n,r,e,z⟩
theorem Inv.lstUpd{xs ys:List V}{O:Nat}{f:Obj->Obj}(I:Inv X J1 σ H s)(h:H p=some (.lst xs))
 (ho:s.heap.get? p=some {cls:=.type "list",data:=.seq J8.toArray n}) (Y:f {cls:=.type "list",data:=.seq J8.toArray n}={cls:=.type "list",data:=.seq its'.toArray O}) (r:Vals ys its') (hz:ys.length<=qb4) (t:Nat) :
  Inv X J1 σ (upd H p (.lst ys)) {s with heap:=s.heap.update p f,toks:=t}:=by
 have e:(s.heap.update p f).get? p=some {cls:=.type "list",data:=.seq its'.toArray O}:=by rw[qe4 f ho (by rw[Y]<;>rfl),Y]
 refine I.write (x:=p) (e:=p) (by rw[h];trivial) (.inl rfl) (fun b u Z q=>(ql6 _ _ (qp1 Z)).trans q) ⟨_,e⟩ ?_;exact⟨hz,its',O,r,e⟩
def D0:V->V->V->Hp->(Hp->Prop)->Prop:=fun o i v H Q=>∃p xs k j,o=.ref p/\i=.int k/\H p=some (.lst xs)/\ixN xs.length k=some j/\Q (upd H p (.lst (xs.set j v)))
theorem uM:PSet X D0:=by
 intro J1 s σ H o i v ov iv u Q I ro ri rv h;obtain⟨p,xs,k,j,rfl,rfl,hp,hj,q⟩:=h;cases ro;obtain⟨t,rfl⟩:=ri;obtain⟨J8,n,r,ho,hz⟩:=I.lst hp;obtain⟨h1,h2,h3,h4⟩:=re hj;have hl:=r.length;have hn:=jd
 have I':Inv X J1 σ (upd H p (.lst (xs.set j v))) {s with heap:=s.heap.update p (qo6 (·.setIfInBounds j u))}:=I.lstUpd hp ho (pW J8 n j u) (r.set rv j) (by rw[List.length_set];exact hz) s.toks
 by_cases h0:0<=k
 .have hk:k.toNat=j:=by rw[seqIndex_of h0 h4]at h1;exact qd9 h1
  exact PySem.W.ki_setAt ho h0 (by lia) (by rw[qb7,<- hl];exact h4) (by rw[hk];exact⟨_,I',q⟩)
 .have hk:(k+(J8.toArray.size:Int)).toNat=j:=by rw[seqIndex_neg (by lia) h3]at h1;rw[qb7,<- hl];exact qd9 h1
  exact PySem.W.ki_setBack ho (by lia) (by rw[qb7,<- hl];exact h3) (by lia) (by rw[hk];exact⟨_,I',q⟩)
theorem mU(lo hi:Option Int)(n:Nat):(qu0 lo hi none n).1=((HT.sIx n 0 lo:Nat):Int)/\(qu0 lo hi none n).2.1=((HT.sIx n n hi:Nat):Int)/\(qu0 lo hi none n).2.2=1:=by
 refine⟨?_,?_,rfl⟩
 .cases lo with
  |none=>simp[qu0,HT.sIx]
  |some i=>
   simp only[qu0,HT.sIx,Option.getD_none,show(1:Int) > 0 by decide,if_true];by_cases h:i<0
   .simp only[h,if_true]<;>lia
   .simp only[h,if_false]<;>lia
 .cases hi with
  |none=>simp[qu0,HT.sIx]
  |some i=>
   simp only[qu0,HT.sIx,Option.getD_none,show(1:Int) > 0 by decide,if_true];by_cases h:i<0
   .simp only[h,if_true]<;>lia
   .simp only[h,if_false]<;>lia
theorem lC(J8:List Value)(lo hi:Option Int):slicePick J8.toArray lo hi none=((J8.drop (HT.sIx J8.length 0 lo)).take (HT.sIx J8.length J8.length hi-HT.sIx J8.length 0 lo)).toArray:=by obtain⟨h1,h2,h3⟩:=mU lo hi J8.toArray.size;unfold slicePick;rw[h1,h2,h3];simp only[sliceRange_one,pick_run,qb7]<;>rfl
def rSlL(K:xA9):V->Option Int->Option Int->Hp->VK->Prop:=fun x lo hi H Q=>∃a xs,x=.ref a/\SqL K H a xs/\∀p,H p=none->Q (.ref p) (upd H p (.lst (oh xs lo hi)))
theorem xS:SlR X (rSlL X.K):=by intro J1 s σ H x v vl vu lo hi sl Q I rx hs pl pu h;obtain⟨a,xs,rfl,Z,q⟩:=h;cases rx;obtain⟨J8,r,Y,hz⟩:=I.list Z;have O:=r.length;refine⟨"list",_,slot_list_getitem.lookup,Y.isList.typeIs,?_⟩;refine wpAny_getItem_list_slice Y.isList hs pl pu .none (by simp) ?_ (by rw[qb7]<;>lia);rw[lC,<- O];refine⟨.ref s.heap.objs.size,_,I.laid (t':=s.toks) (o:=.lst (oh xs lo hi)) (fun b ob q=>gP _ q) (nL _) ?_,rfl,q _ (I.hok.fresh (nL _))⟩;exact⟨qb9 (jF xs lo hi) hz,_,0,(r.drop (HT.sIx xs.length 0 lo)).take (HT.sIx xs.length xs.length hi-HT.sIx xs.length 0 lo),qa8 _ rfl⟩
def ic:V->Bool
 |.non=>true
 |.bl _=>true
 |.int _=>true
 |.str _=>true
 |_=>false
def eqV:V->V->Bool
 |.non,.non=>true
 |.bl a,.bl b=>a==b
 |.bl a,.int b=>(if a then 1 else 0)==b
 |.int a,.bl b=>a==(if b then 1 else 0)
 |.int a,.int b=>a==b
 |.str a,.str b=>a==b
 |_,_=>false
theorem jh(Y:RelV y u)(q:RelV x v)(Z:ic y=true)(O:ic x=true):qg1 A s u v (eqV y x):=by
 cases y with
 |non=>
  cases Y;cases x with
  |non=>cases q;exact zd4 _
  |bl b=>cases q;exact qg1.none_bool b
  |int b=>obtain⟨t,rfl⟩:=q;exact qg1.none_int b t
  |str b=>obtain⟨t,rfl⟩:=q;exact qg1.none_str b t
  |_=>exact absurd (show false=true from O) qb8
 |bl a=>
  cases Y;cases x with
  |non=>cases q;exact qg1.bool_none a
  |bl b=>cases q;exact qg1.bool_bool a b
  |int b=>obtain⟨t,rfl⟩:=q;exact qg1.bool_int a b t
  |str b=>obtain⟨t,rfl⟩:=q;exact qg1.bool_str a b t
  |_=>exact absurd (show false=true from O) qb8
 |int a=>
  obtain⟨t',rfl⟩:=Y;cases x with
  |non=>cases q;exact qg1.int_none a t'
  |bl b=>cases q;exact qg1.int_bool a t' b
  |int b=>obtain⟨t,rfl⟩:=q;exact qg1.int_int a t' b t
  |str b=>obtain⟨t,rfl⟩:=q;exact qg1.int_str a t' b t
  |_=>exact absurd (show false=true from O) qb8
 |str a=>
  obtain⟨t',rfl⟩:=Y;cases x with
  |non=>cases q;exact qg1.str_none a t'
  |bl b=>cases q;exact qg1.str_bool a t' b
  |int b=>obtain⟨t,rfl⟩:=q;exact qg1.str_int a t' b t
  |str b=>obtain⟨t,rfl⟩:=q;exact qg1.str_str a t' b t
  |_=>exact absurd (show false=true from O) qb8
 |_=>exact absurd (show false=true from Z) qb8
def eqU(x:V)(u:Value):Bool:=match u with
 |.none=>eqV .non x
 |.bool b=>eqV (.bl b) x
 |.int i _=>eqV (.int i) x
 |.str z _=>eqV (.str z) x
 |_=>false
theorem uN(r:RelV y u)(f:ic y=true):eqU x u=eqV y x:=by
 cases y with
 |non=>cases r;rfl
 |bl b=>cases r;rfl
 |int i=>obtain⟨t,rfl⟩:=r;rfl
 |str z=>obtain⟨t,rfl⟩:=r;rfl
 |_=>exact absurd (show false=true from f) qb8
theorem iF:∀{xs:List V}{us:List Value},Vals xs us->xs.all ic=true->us.any (eqU x)=xs.any fun y=>eqV y x
 |_,_,.nil,_=>rfl
 |y::xs,u::us,.cons r t,f=>by rw[qk1,qb3]at f;rw[qk2,qk2,uN r f.1,iF t f.2]
theorem gr(O:RelV x v)(Y:ic x=true):∀{xs:List V}{us:List Value},Vals xs us->xs.all ic=true->∀u∈us,qg1 A s u v (eqU x u)
 |_,_,.nil,_=>fun u q=>by cases q
 |y::xs,u::us,.cons r t,f=>fun Z q=>by
  rw[qk1,qb3]at f;rcases qb0.mp q with rfl|q
  .rw[uN r f.1];exact jh r O f.1 Y
  .exact gr O Y t f.2 Z q
def inV(x:V)(xs:List V):Bool:=xs.any fun y=>eqV y x
def rIn(K:xA9)(neg:Bool):R2:=fun x y H Q=>∃p xs,y=.ref p/\(SqL K H p xs∨SqT K H p xs)/\ic x=true/\xs.all ic=true/\Q (.bl (if neg then !inV x xs else inV x xs)) H
theorem sO:OpR X (qg5 .In) (rIn X.K false):=by
 intro J1 s σ H x y v u Q I rx ry h;obtain⟨p,xs,rfl,O,fx,fs,q⟩:=h;cases ry;rcases O with O|O
 .obtain⟨J8,r,Z,hz⟩:=I.list O;refine SeqAt.in_listAt (eqU x) Z.isList (fun w Y=>gr rx fx r fs w (by simpa using Y)) ⟨.bl _,H,I,rfl,?_⟩;rw[show J8.toArray.any (eqU x)=J8.any (eqU x)by simp,iF r fs];exact q
 .obtain⟨J8,r,Z,hz⟩:=I.tuple O;refine SeqAt.in_tupleAt (eqU x) Z (fun w Y=>gr rx fx r fs w (by simpa using Y)) ⟨.bl _,H,I,rfl,?_⟩;rw[show J8.toArray.any (eqU x)=J8.any (eqU x)by simp,iF r fs];exact q
theorem mV:OpR X (qg5 .NotIn) (rIn X.K true):=by
 intro J1 s σ H x y v u Q I rx ry h;obtain⟨p,xs,rfl,O,fx,fs,q⟩:=h;cases ry;rcases O with O|O
 .obtain⟨J8,r,Z,hz⟩:=I.list O;refine SeqAt.notIn_listAt (eqU x) Z.isList (fun w Y=>gr rx fx r fs w (by simpa using Y)) ⟨.bl _,H,I,rfl,?_⟩;rw[show J8.toArray.any (eqU x)=J8.any (eqU x)by simp,iF r fs];exact q
 .obtain⟨J8,r,Z,hz⟩:=I.tuple O;refine SeqAt.notIn_tupleAt (eqU x) Z (fun w Y=>gr rx fx r fs w (by simpa using Y)) ⟨.bl _,H,I,rfl,?_⟩;rw[show J8.toArray.any (eqU x)=J8.any (eqU x)by simp,iF r fs];exact q
theorem mW:OpR X (qg5 .NotIn) (fun x y H Q=>∃i j,x=.str i/\y=.str j/\Q (.bl (!(!(qg9 j i 0 j.length 1).isEmpty))) H):=by intro J1 s σ H x y v u Q I O Y h;obtain⟨i,j,rfl,rfl,q⟩:=h;obtain⟨t,rfl⟩:=O;obtain⟨t',rfl⟩:=Y;exact notIn_str ⟨.bl _,H,I,rfl,q⟩
theorem iG:dh X (.type "list") (fun xs H Q=>∃p ys,xs=[.ref p]/\(SqL X.K H p ys∨SqT X.K H p ys)/\∀l,H l=none->Q (.ref l) (upd H l (.lst ys))):=by
 intro J1 s σ H xs us Q I r h;obtain⟨p,ys,rfl,hq,q⟩:=h;obtain⟨u,rfl,rx⟩:=gp r;cases rx
 have Y:∀ (J8:List Value),Vals ys J8->ys.length<=qb4->∀ (h':Heap) (c':Nat),(∀ b o',s.heap.get? b=some o'->h'.get? b=some o')→
     h'.get? s.heap.objs.size=some {cls:=.type "list",dict:=none,data:=.seq J8.toArray c',slots:=#[]}->EP X J1 σ Q (.ref s.heap.objs.size) {s with heap:=h'}:=fun J8 O Z h' c' kp e=>
  ⟨.ref s.heap.objs.size,_,I.laid (t':=s.toks) kp (nL _) (show ObjOk X.prog X.w _ h' _ (.lst ys)from⟨Z,J8,c',O,e⟩),rfl,q _ (I.hok.fresh (nL _))⟩
 rcases hq with hq|hq
 .obtain⟨J8,O,pl,Z⟩:=I.list hq;have hlen:=O.length;obtain⟨o,ho,hc,n,hd⟩:=pl.isList;exact call_list_seq p (.inl rfl) ho hc hd (fun h' c' kp e=>Y J8 O Z h' c' kp e) (by simp only[qb7]<;>lia)
 .obtain⟨J8,O,pl,Z⟩:=I.tuple hq;have hlen:=O.length;obtain⟨o,ho,hc,n,hd⟩:=pl;exact call_list_seq p (.inr rfl) ho hc hd (fun h' c' kp e=>Y J8 O Z h' c' kp e) (by simp only[qb7]<;>lia)
theorem cV:dh X (.type "tuple") (fun xs H Q=>∃p ys,xs=[.ref p]/\((SqL X.K H p ys/\∀l,H l=none->Q (.ref l) (upd H l (.tup ys)))∨(SqT X.K H p ys/\Q (.ref p) H))):=by
 intro J1 s σ H xs us Q I r h;obtain⟨p,ys,rfl,h⟩:=h;obtain⟨u,rfl,rx⟩:=gp r;cases rx;rcases h with ⟨Z,q⟩|⟨Z,q⟩
 .obtain⟨J8,O,Y,hz⟩:=I.list Z;have hlen:=O.length;refine call_tuple_list Y.isList (fun h' kp=>?_) (by simp only[qb7]<;>lia);have I1:Inv X J1 σ H {s with heap:=h'}:=I.kept (t':=s.toks) kp
  have I2:Inv X J1 σ (upd H h'.objs.size (.tup ys)) {s with heap:=h'.push {cls:=.type "tuple",data:=.seq J8.toArray}}:=I1.laid (t':=s.toks) (fun b o e=>gP _ e) (nL _) (show ObjOk X.prog X.w _ _ _ (.tup ys)from⟨hz,J8,O,IsTup.new _ _⟩)
  exact⟨.ref h'.objs.size,_,I2,rfl,q _ (I1.hok.fresh (nL _))⟩
 .obtain⟨J8,O,Y,hz⟩:=I.tuple Z;exact call_tuple_same Y ⟨.ref p,H,I,rfl,q⟩
noncomputable def tyV(K:xA9)(T:String)(x:V)(H:Hp):Prop:=match x with
 |.str _=>T="str"
 |.int _=>T="int"
 |.ref p=>(T="list"/\∃xs,SqL K H p xs)∨(T="tuple"/\∃o,K.lookup p=some o/\o.cls=.type "tuple"/\o.dict=none)∨(T="dict"/\((∃J6,H p=some (.dK J6))∨∃J6,H p=some (.dT J6)))∨(T="set"/\∃S n,H p=some (.set S n))
 |_=>False
theorem Bw {T:String} (I:Inv X J1 σ H s) (r:RelV x v) (ty:tyV X.K T x H) :
  s.TypeIs v T/\∀a,v=.ref a->∃ob,s.heap.get? a=some ob/\ob.dict=none:=by
 cases x with
 |str z=>obtain⟨t,rfl⟩:=r;cases (show T="str" from ty);exact⟨typeIs_str s z t,fun _ e=>nomatch e⟩
 |int i=>obtain⟨t,rfl⟩:=r;cases (show T="int" from ty);exact⟨typeIs_int s i t,fun _ e=>nomatch e⟩
 |ref p=>
  cases r;rcases ty with ⟨rfl,xs,hq⟩|⟨rfl,o,hk,Z,q⟩|⟨rfl,hk⟩|⟨rfl,S,n,hk⟩
  .obtain⟨J8,_,Y,_⟩:=I.list hq;refine⟨Y.isList.typeIs,fun a e=>?_⟩;cases e;obtain⟨o,n,e,c,q,_⟩:=Y;exact⟨o,e,q⟩
  .refine⟨⟨o,I.kIn p o hk,Z⟩,fun a e=>?_⟩;cases e;exact⟨o,I.kIn _ o hk,q⟩
  .have z:∃o,s.heap.get? p=some o/\o.ExactDict:=by
    rcases hk with ⟨J6,hk⟩|⟨J6,hk⟩
    .obtain⟨_,_,_,_,o,_,_,e,ex,_⟩:=I.hok p _ hk;exact⟨o,e,ex⟩
    .obtain⟨_,_,_,_,o,_,_,e,ex,_⟩:=I.hok p _ hk;exact⟨o,e,ex⟩
   obtain⟨o,e,ex⟩:=z;refine⟨⟨o,e,ex.1⟩,fun a O=>?_⟩;cases O;exact⟨o,e,ex.2.1⟩
  .obtain⟨o,_,_,_,e,ex,_⟩:=I.hok p _ hk;refine⟨⟨o,e,ex.1⟩,fun a O=>?_⟩;cases O;exact⟨o,e,ex.2.1⟩
 |_=>exact qg2 ty
def tBM(K:xA9)(T:String)(r:V->List V->Hp->VK->Prop)(to:TE)(t:TA):TE:=fun σ H Q=>to σ H fun x H1=>tyV K T x H1/\t σ H1 fun xs H2=>r x xs H2 Q
variable{o e:Jc}{es:List Jc}{to:TE}{t:TA}{name:Str}{apos cpos:Pos}{T id:String}{r:V->List V->Hp->VK->Prop}
theorem uO (pa:PlainAttrs T) (slot:Slot T name id) (hty:typeOf (.builtin id)=pure (.type "method_descriptor")) (hm:MtR X id r) (ho:PE X o to) (ha:PA X (e::es) t)
  (Y:qs4 o name X.env (eval o X.env)=eval o X.env:=by rfl)
  (Z:((qj9 cpos (qa9 (e::es) X.env)).all (fun x=>!x.1)&&(zg8 cpos (qw8 [] X.env)).all (fun x=>x.1.isSome)
   && decide ((e::es).length+([]:List qu9).length+(if([]:List qu9).isEmpty then 0 else 1)<30))=true:=by rfl)
  (O:(apos.endLine==cpos.line)=true:=by rfl) (hs:qa9 (e::es) X.env=(false,eval e X.env)::qa9 es X.env:=by rfl) (q:(qj9 cpos (qa9 es X.env)).any (·.1)=false:=by rfl) :
  PE X (.Call (.Attribute o name apos) (e::es) [] cpos) (tBM X.K T r to t):=by
 intro J1 s σ H Q I h;refine wpAny_Call_method_late Y Z O rfl (thn (ho J1 s σ H _ I h) fun v s1 ⟨x,H1,I1,r1,ty,q1⟩=>?_);obtain⟨h1,h2⟩:=Bw I1 r1 ty;refine⟨T,id,pa,slot,hty,h1,h2,?_⟩;have hA:=ha cpos J1 s1 σ H1 _ I1 q1;rw[hs]at hA ⊢;refine Calls.callWith_builtin (by show(false||(qj9 cpos (qa9 es X.env)).any (·.1))=false;rw[q]<;>rfl) (Calls.evalArgs_plain ?_);exact thn hA fun us s2 ⟨vs,H2,I2,r2,q2⟩=>hm J1 s2 σ H2 x vs v us Q I2 r1 r2 q2
/- xs.append(e),list.index on a module's tuple .. are MtR facts of 06m -/
end
noncomputable def MtM(X:Cx)(id:String)(r:V->List V->Hp->VK->Prop):Prop:=
 ∀(J1:List (J9×Obj))(s:qa4)(σ:St)(H:Hp)(x:V)(xs:List V)(v:Value)(us:List Value)(Q:VK),Inv X J1 σ H s->RelV x v->Vals xs us->r x xs H Q→
  wpAny (model X.prog X.w) X.A (call (.builtin id) (v::us)) (EP X J1 σ Q) X.xe s
theorem Vals.one:∀{x:V}{us:List Value},Vals [x] us->∃u,us=[u]/\RelV x u
 |_,_,.cons r .nil=>⟨_,rfl,r⟩
variable{t':Nat}
section
variable{X:Cx}{J1:List (J9×Obj)}{σ:St}{H:Hp}{s:qa4}{l b:J9}{xs ys zs:List V}
theorem Inv.lset{f:Array Value->Array Value}(I:Inv X J1 σ H s)(Z:H l=some (.lst xs))
 (e:s.heap.get? l=some {cls:=.type "list",data:=.seq J8.toArray n}) (hf:f J8.toArray=its'.toArray) (hv:Vals ys its') (hz:ys.length<=qb4) :
  Inv X J1 σ (upd H l (.lst ys)) {s with heap:=s.heap.update l (qo6 f),toks:=t'}:=by
 have q:=PySem.IsL.update e f;rw[hf]at q;refine I.write (x:=l) (e:=l) (by rw[Z];exact trivial) (.inl rfl) (fun b' u Y O=>(ql6 s.heap (qo6 f) (qp1 Y)).trans O) ⟨_,q⟩ ?_;exact⟨hz,its',_,hv,q⟩
theorem Inv.lnew (I:Inv X J1 σ H s) (O:Vals ys J8) (Y:ys.length<=qb4) :
  Inv X J1 σ (upd H s.heap.objs.size (.lst ys)) {s with heap:=s.heap.push {cls:=.type "list",data:=.seq J8.toArray},toks:=t'}:=
 I.laid (fun _ _ q=>gP _ q) (nL _) ⟨Y,J8,0,O,qa8 _ rfl⟩
theorem Inv.fresh(I:Inv X J1 σ H s):H s.heap.objs.size=none:=I.hok.fresh (nL _)
theorem Inv.lstM(I:Inv X J1 σ H s)(q:H l=some (.lst xs)):xs.length<=qb4/\∃(J8:List Value)(n:Nat),Vals xs J8/\xs.length=J8.length/\s.heap.get? l=some {cls:=.type "list",data:=.seq J8.toArray n}:=by obtain⟨z,J8,n,r,e⟩:=I.hok l _ q;exact⟨z,J8,n,r,r.length,e⟩
theorem uP(h:n<=qb4):qs0 n=false:=by unfold qs0;exact decide_eq_false (by lia)
end
section
variable{X:Cx}
def xT:V->List V->Hp->VK->Prop:=fun x vs H Q=>∃l xs y,x=.ref l/\vs=[y]/\H l=some (.lst xs)/\xs.length<qb4/\Q .non (upd H l (.lst (xs++[y])))
theorem ji:MtM X "list.append" xT:=by intro J1 s σ H x vs v us Q I rx Y h;obtain⟨l,xs,y,rfl,rfl,O,hz,q⟩:=h;cases rx;obtain⟨u,rfl,Z⟩:=Y.one;obtain⟨z,J8,n,r,hl,e⟩:=I.lstM O;refine call_meets F.slot_list_append ⟨_,e,rfl⟩ F.entry_list_append (F.args_list_append_2 _ _) (PySem.list_append l J8.toArray n u (by rw[qb7];lia)) ⟨e,?_⟩;refine⟨.non,_,I.lset (its':=J8++[u]) O e (by simp) (r.append (.cons Z .nil)) ?_,rfl,q⟩;rw[qc4,qp2];lia
def xU:V->List V->Hp->VK->Prop:=fun x vs H Q=>∃l b xs zs,x=.ref l/\vs=[.ref b]/\H l=some (.lst xs)/\H b=some (.lst zs)/\xs.length+zs.length<=qb4/\Q .non (upd H l (.lst (xs++zs)))
theorem sP:MtM X "list.extend" xU:=by
 intro J1 s σ H x vs v us Q I rx rv h;obtain⟨l,b,xs,zs,rfl,rfl,hH,hB,hz,q⟩:=h;cases rx;obtain⟨u,rfl,ru⟩:=rv.one;cases ru;obtain⟨z,J8,n,r,hl,e⟩:=I.lstM hH;obtain⟨z2,O,n2,r2,hl2,e2⟩:=I.lstM hB;have Z:J8.toArray.size+O.toArray.size<=qb4:=by rw[qb7,qb7];lia
 have Y:¬ (!J8.toArray.isEmpty&&qs0 (J8.toArray.size+O.toArray.size))=true:=by rw[uP Z,qu3];exact qb8
 refine call_meets F.slot_list_extend ⟨_,e,rfl⟩ F.entry_list_extend (F.args_list_extend_2 _ _)
  (AutoSeq1.list_extend_list_list_0 l J8.toArray n b O.toArray n2 Y (by rw[qb7];lia) (by lia)) ⟨e,e2,?_⟩
 refine⟨.non,_,I.lset (its':=J8++O) hH e (by simp) (r.append r2) ?_,rfl,q⟩;rw[qc4];lia
end
section
variable{prog:qc9}{w:Ja}{A:qe0}{E:Value->qa4->Prop}{s:qa4}
end
section
variable{X:Cx}
end
variable{o:Option V}
section
variable{κ:Type}[DecidableEq κ]
def fG(J6:List (κ×V))(k:κ):Option V:=(J6.find? fun kv=>decide (kv.1=k)).map (·.2)
def fU(J6:List (κ×V))(k:κ)(v:V):List (κ×V):=if(J6.any fun kv=>decide (kv.1=k))=true then J6.map (fun kv=>if kv.1=k then(kv.1,v)else kv)else J6++[(k,v)]
theorem iH{p:κ×V}{r:List (κ×V)}{k:κ}(e:p.1=k):fG (p::r) k=some p.2:=by simp[fG,qp3,e]
theorem gt{p:κ×V}{r:List (κ×V)}{k:κ}(e:¬ p.1=k):fG (p::r) k=fG r k:=by simp[fG,qp3,e]
theorem oj(k:κ):∀J6:List (κ×V),(J6.any fun kv=>decide (kv.1=k))=(fG J6 k).isSome
 |[]=>rfl
 |p::r=>by
  rw[qk2];by_cases e:p.1=k
  .simp only[iH e,decide_eq_true e,zd5,Option.isSome_some]
  .rw[gt e,decide_eq_false e,za4];exact oj k r
theorem jG(J6:List (κ×V))(k:κ)(v:V):(fU J6 k v).length<=J6.length+1:=by
 unfold fU;split
 .rw[qa1];lia
 .rw[qc4,qf4,zd6];lia
theorem RelO.isSome_eq{u:Option Value}(r:RelO o u):o.isSome=u.isSome:=by
 cases o with
 |none=>cases u with
  |none=>rfl
  |some _=>exact(show False from r).elim
 |some _=>cases u with
  |none=>exact(show False from r).elim
  |some _=>rfl
theorem RelO.getD{u:Option Value}{d:V}{d':Value}(r:RelO o u)(rd:RelV d d'):RelV (o.getD d) (u.getD d'):=by
 cases o with
 |none=>cases u with
  |none=>exact rd
  |some _=>exact(show False from r).elim
 |some _=>cases u with
  |none=>exact(show False from r).elim
  |some _=>exact r
theorem KV.val{J6:List (κ×V)}{vs:List (κ×Value)}(r:KV J6 vs)(k:κ):RelO (fG J6 k) (zf9 vs k):=by
 unfold KV at r;induction r with
 |nil=>exact qr7
 |@cons p q ps qs h t Y=>
  obtain⟨h1,h2⟩:=h;by_cases e:p.1=k
  .have O:q.1=k:=h1.symm.trans e;have b:zf9 (q::qs) k=some q.2:=by simp[zf9,qp3,O]
   rw[iH e,b];exact h2
  .have O:¬ q.1=k:=fun z=>e (h1.trans z)
   have b:zf9 (q::qs) k=zf9 qs k:=by simp[zf9,qp3,O]
   rw[gt e,b];exact Y
theorem KV.any{J6:List (κ×V)}{vs:List (κ×Value)}(r:KV J6 vs)(k:κ):(J6.any fun kv=>decide (kv.1=k))=vs.any fun kv=>decide (kv.1=k):=by
 unfold KV at r;induction r with
 |nil=>rfl
 |cons h t q=>rw[qk2,qk2,q,h.1]
theorem KV.repl {J6:List (κ×V)} {vs:List (κ×Value)} (r:KV J6 vs) (k:κ) (Y:RelV y u) :
  KV (J6.map fun kv=>if kv.1=k then(kv.1,y)else kv) (vs.map fun kv=>if kv.1=k then(kv.1,u)else kv):=by
 unfold KV at r ⊢;induction r with
 |nil=>exact .nil
 |@cons p q ps qs h t O=>
  rw[qa5,qa5];refine .cons ?_ O;obtain⟨h1,h2⟩:=h;by_cases e:p.1=k
  .rw[if_pos e,if_pos (h1.symm.trans e)];exact⟨h1,Y⟩
  .rw[if_neg e,if_neg (fun z=>e (h1.trans z))];exact⟨h1,h2⟩
theorem KV.put{J6:List (κ×V)}{vs:List (κ×Value)}(r:KV J6 vs)(k:κ)(q:RelV y u):KV (fU J6 k y) (stored vs k u):=by
 unfold fU stored;rw[r.any k];by_cases e:(vs.any fun kv=>decide (kv.1=k))=true
 .rw[if_pos e,if_pos e];exact r.repl k q
 .rw[if_neg e,if_neg e];exact Paired.snoc r ⟨rfl,q⟩
theorem KV.length{J6:List (κ×V)}{vs:List (κ×Value)}(r:KV J6 vs):J6.length=vs.length:=Paired.length r
end
variable{P:qc9}{w:Ja}
theorem kt{k:Key}(r:RelV (kV k) u):(bY P w).is k u=true:=by
 cases k with
 |inl i=>obtain⟨t,e⟩:=(show ∃t,u=zi8 i t from r);subst e;exact n8 P w i t
 |inr x=>obtain⟨t,e⟩:=(show ∃t,u=zi9 x t from r);subst e;exact gl P w x t
theorem lR:∀{ks:List Key}{us:List Value},Vals (ks.map kV) us->ItemsAre (bY P w) ks us
 |[],_,r=>by rw[qu5]at r;cases r;exact .nil
 |k::ks,_,r=>by
  rw[qa5]at r;cases r with
  |cons h t=>exact .cons (kt h) (lR t)
abbrev KT(H:Hp):List (List Key×V)->List (List Key×J9×Value)->Prop:=Paired fun p q=>p.1=q.1/\H q.2.1=some (.tup (p.1.map kV))/\RelV p.2 q.2.2
variable{J6:List (List Key×V)}{xs:List (List Key×J9×Value)}
theorem KT.val(r:KT H J6 xs)(k:List Key):RelO (fG J6 k) ((atKey xs k).map (·.2)):=by
 induction r with
 |nil=>exact qr7
 |@cons p q ps qs h t Y=>
  obtain⟨h1,_,h2⟩:=h;by_cases e:p.1=k
  .have O:q.1=k:=h1.symm.trans e;have b:atKey (q::qs) k=some q.2:=by simp[atKey,qp3,O]
   rw[iH e,b];exact h2
  .have O:¬ q.1=k:=fun z=>e (h1.trans z)
   have b:atKey (q::qs) k=atKey qs k:=by simp[atKey,qp3,O]
   rw[gt e,b];exact Y
theorem KT.repl (r:KT H J6 xs) (k:List Key) (Y:RelV y u) :
  KT H (J6.map fun kv=>if kv.1=k then(kv.1,y)else kv) (xs.map (putAt k u)):=by
 induction r with
 |nil=>exact .nil
 |@cons p q ps qs h t O=>
  rw[qa5,qa5];refine .cons ?_ O;obtain⟨h1,h2,h3⟩:=h;unfold putAt;by_cases e:p.1=k
  .rw[if_pos e,if_pos (h1.symm.trans e)];exact⟨h1,h2,Y⟩
  .rw[if_neg e,if_neg (fun z=>e (h1.trans z))];exact⟨h1,h2,h3⟩
variable{b:J9}
theorem KT.put (r:KT H J6 xs) (k:List Key) (Y:H b=some (.tup (k.map kV))) (O:RelV y u) :
  KT H (fU J6 k y) (storedH xs k b u):=by
 have e:(J6.any fun kv=>decide (kv.1=k))=(atKey xs k).isSome:=by rw[oj,(r.val k).isSome_eq,qk8]
 unfold fU storedH;rw[e];by_cases q:(atKey xs k).isSome=true
 .rw[if_pos q,if_pos q];exact r.repl k O
 .rw[if_neg q,if_neg q];exact Paired.snoc r ⟨rfl,Y,O⟩
variable{H':Hp}
theorem KT.keeps(r:KT H J6 xs)(q:∀b ys,H b=some (.tup ys)->H' b=some (.tup ys)):KT H' J6 xs:=Paired.mapP r fun _ _ z=>⟨z.1,q _ _ z.2.1,z.2.2⟩
section
variable{P:qc9}{w:Ja}{H:Hp}{h:Heap}{a:J9}
theorem zQ{u:HO}(ok:HOk P w H h)(e:Rd H a u):ObjOk P w H h a u:=e.ok ok
theorem lS{J6:List (Key×V)}(ok:HOk P w H h)(e:Rd H a (.dK J6)):J6.length<=qb4/\(a==qh6)=false/\∃vs,KV J6 vs/\h.DictOf (bY P w) a vs:=show ObjOk P w H h a (.dK J6)from zQ ok e
theorem D3{J6:List (Key×V)}(ok:HOk P w H h)(e:H a=some (.dK J6)):J6.length<=qb4/\(a==qh6)=false/\∃vs,KV J6 vs/\h.DictOf (bY P w) a vs:=lS ok (.inl e)
theorem ku{ks:List Key}(ok:HOk P w H h)(e:H a=some (.tup (ks.map kV))):(zg3 (bY P w)).is h ks a:=by obtain⟨_,J8,r,o,h1,h2,n,h3⟩:=(show ObjOk P w H h a (.tup (ks.map kV))from ok a _ e);exact⟨o,J8.toArray,n,h1,h2,h3,by simpa using lR r⟩
theorem om (ok:HOk P w H h) (e:Rd H a (.dT J6)):J6.length<=qb4/\(a==qh6)=false∧
  ∃xs,KT H J6 xs/\h.DictOfH (zg3 (bY P w)) a xs:=by
 obtain⟨z,y,xs,r,o,es,ep,h1,h2,h3,h4,h5⟩:=(show ObjOk P w H h a (.dT J6)from zQ ok e);refine⟨z,y,xs,r,o,es,ep,h1,h2,h3,h4,fun x O=>?_,h5⟩
 have all:∀{l:List (List Key×V)}{m:List (List Key×J9×Value)},KT H l m->∀x∈m,(zg3 (bY P w)).is h x.1 x.2.1:=by
  intro l m q;induction q with
  |nil=>intro x O;exact nomatch O
  |@cons p q ps qs Y t Z=>
   intro x O;rcases qb0.mp O with e|O
   .subst e;exact ku ok (by rw[<- Y.1];exact Y.2.1)
   .exact Z x O
 exact all r x O
theorem D4(ok:HOk P w H h)(e:H a=some (.dT J6)):J6.length<=qb4/\(a==qh6)=false∧∃xs,KT H J6 xs/\h.DictOfH (zg3 (bY P w)) a xs:=om ok (.inl e)
end
def DGet(H:Hp)(a:J9)(y:V)(r:Option V):Prop:=(∃J6 k,Rd H a (.dK J6)/\y=kV k/\r=fG J6 k)∨∃J6 k b,Rd H a (.dT J6)/\y=.ref b/\H b=some (.tup (k.map kV))/\r=fG J6 k
noncomputable def DPut(H:Hp)(a:J9)(y v:V)(H':Hp):Prop:=
 (∃J6 k,H a=some (.dK J6)/\y=kV k/\J6.length<qb4/\H'=upd H a (.dK (fU J6 k v)))∨
 ∃J6 k b,H a=some (.dT J6)/\y=.ref b/\H b=some (.tup (k.map kV))/\J6.length<qb4/\H'=upd H a (.dT (fU J6 k v))
variable{a:J9}
theorem DGet.k{J6:List (Key×V)}{k:Key}(e:H a=some (.dK J6)):DGet H a (kV k) (fG J6 k):=.inl ⟨J6,k,.inl e,rfl,rfl⟩
theorem DGet.t{k:List Key}(e:H a=some (.dT J6))(q:H b=some (.tup (k.map kV))):DGet H a (.ref b) (fG J6 k):=.inr ⟨J6,k,b,.inl e,rfl,q,rfl⟩
theorem DPut.k{J6:List (Key×V)}{k:Key}{v:V}(e:H a=some (.dK J6))(q:J6.length<qb4):DPut H a (kV k) v (upd H a (.dK (fU J6 k v))):=.inl ⟨J6,k,e,rfl,q,rfl⟩
theorem DPut.t {k:List Key} {v:V} (e:H a=some (.dT J6)) (O:H b=some (.tup (k.map kV))) (q:J6.length<qb4) :
  DPut H a (.ref b) v (upd H a (.dT (fU J6 k v))):=.inr ⟨J6,k,b,e,rfl,O,q,rfl⟩
variable{Q:Value->qa4->Prop}{h':Heap}
section
variable{X:Cx}{J1:List (J9×Obj)}{σ:St}{H:Hp}{s:qa4}{a:J9}{y v:V}{u r:Value}{o:Option V}{A:qe0}{E:Value->qa4->Prop}
theorem Inv.big(I:Inv X J1 σ H s):qh6<s.heap.objs.size:=by have h:qc0<s.heap.objs.size:=(I.mod.glob.keeps I.bk).lt;exact qy1 (by decide) h
theorem sQ (hu:A.units+1<cLine) (I:Inv X J1 σ H s) (g:DGet H a y (some v)) (ry:RelV y u) (h:∀ Y s',Inv X J1 σ H s'->RelV v Y->Q Y s') :
  wpAny (model X.prog X.w) A (zf7 (.ref a) u) Q E s:=by
 rcases g with ⟨J6,k,e,Z,l⟩|⟨J6,k,b,e,Z,eb,l⟩
 .subst Z;obtain⟨z,hd,vs,q,dd⟩:=lS I.hok e;obtain⟨Y,hw,O⟩:=RelO.some_of (v:=v) (o:=zf9 vs k) (by rw[l];exact q.val k);exact wpAny_getItem_of (kt ry) dd.mapOf hw (h Y _ (I.tok _) O)
 .subst Z;cases (show u=qf1 b from ry);obtain⟨z,hd,xs,q,dd⟩:=om I.hok e;obtain⟨Y,hw,O⟩:=RelO.some_of (v:=v) (o:=(atKey xs k).map (·.2)) (by rw[l];exact q.val k);obtain⟨p,hp,hp2⟩:=mS hw;refine wpAny_getItem_heap (qs5 hu) (ku I.hok eb) dd hp ?_;rw[hp2];exact h Y _ (I.tok _) O
theorem d_in (hu:A.units+1<cLine) (I:Inv X J1 σ H s) (g:DGet H a y o) (ry:RelV y u) (h:∀ s',Inv X J1 σ H s'->Q (.bool o.isSome) s') :
  wpAny (model X.prog X.w) A (qg5 .In u (.ref a)) Q E s:=by
 rcases g with ⟨J6,k,e,Y,l⟩|⟨J6,k,b,e,Y,eb,l⟩
 .subst Y;obtain⟨z,Z,vs,O,dd⟩:=lS I.hok e;refine wpAny_in_of (kt ry) Z dd.mapOf ?_;rw[<- (O.val k).isSome_eq,<- l];exact h _ (I.tok _)
 .subst Y;cases (show u=qf1 b from ry);obtain⟨z,Z,xs,O,dd⟩:=om I.hok e;refine wpAny_in_heap (qs5 hu) (ku I.hok eb) Z dd ?_;have q:=(O.val k).isSome_eq;rw[qk8]at q;rw[<- q,<- l];exact h _ (I.tok _)
theorem xV (hu:A.units+1<cLine) (I:Inv X J1 σ H s) (g:DGet H a y o) (ry:RelV y u) (h:∀ s',Inv X J1 σ H s'->Q (.bool (!o.isSome)) s') :
  wpAny (model X.prog X.w) A (qg5 .NotIn u (.ref a)) Q E s:=by
 rcases g with ⟨J6,k,e,Y,l⟩|⟨J6,k,b,e,Y,eb,l⟩
 .subst Y;obtain⟨z,Z,vs,O,dd⟩:=lS I.hok e;refine wpAny_notIn_of (kt ry) Z dd.mapOf ?_;rw[<- (O.val k).isSome_eq,<- l];exact h _ (I.tok _)
 .subst Y;cases (show u=qf1 b from ry);obtain⟨z,Z,xs,O,dd⟩:=om I.hok e;refine wpAny_notIn_heap (qs5 hu) (ku I.hok eb) Z dd ?_;have q:=(O.val k).isSome_eq;rw[qk8]at q;rw[<- q,<- l];exact h _ (I.tok _)
theorem rg {ob:HO} (I:Inv X J1 σ H s) (Z:Mut (H a)) (hs:qo0 a s.heap h') (O:∃ q,h'.get? a=some q) (new:ObjOk X.prog X.w (upd H a ob) h' a ob) :
  Inv X J1 σ (upd H a ob) {s with heap:=h',toks:=t'}:=
 I.write (x:=a) (e:=a) Z (.inl rfl) (fun b q Y z=>(hs.2 b Y).trans z) O new
theorem Bx {J6:List (Key×V)} {vs:List (Key×Value)} (z:J6.length<=qb4) (Y:(a==qh6)=false) (q:KV J6 vs) (O:h'.DictOf (bY P w) a vs) :
  ObjOk P w H' h' a (.dK J6):=⟨z,Y,vs,q,O⟩
theorem sU {Q:Unit->qa4->Prop} (hu:A.units+1<cLine) (I:Inv X J1 σ H s) (g:DPut H a y v H') (ry:RelV y u) (rv:RelV v r) (h:∀ s',Inv X J1 σ H' s'->Q () s') :
  wpAny (model X.prog X.w) A (setItem (.ref a) u r) Q E s:=by
 rcases g with ⟨J6,k,e,ey,l,eH⟩|⟨J6,k,b,e,ey,eb,l,eH⟩
 .subst ey eH;obtain⟨z,hd,vs,O,dd⟩:=D3 I.hok e;have hz:vs.length<=qb4:=by rw[<- O.length];exact z
  have hl:(fU J6 k v).length<=qb4:=by have:=jG J6 k v;lia
  refine wpAny_setItem_pairs (hsz:=hz) (kt ry) dd fun h' Y hs=>h _ ?_
  have he:∃q,h'.get? a=some q:=let ⟨q,_,_,Z,_⟩:=Y;⟨q,Z⟩;exact rg I (by rw[e];exact qr7) hs he (Bx hl hd (O.put k rv) Y)
 .subst ey eH;cases (show u=qf1 b from ry);obtain⟨z,hd,xs,O,dd⟩:=D4 I.hok e;have hz:xs.length<=qb4:=by rw[<- Paired.length O];exact z
  have hl:(fU J6 k v).length<=qb4:=by have:=jG J6 k v;lia
  refine wpAny_setItem_heap (hsz:=hz) (qs5 hu) (ku I.hok eb) dd fun h' Y hs=>h _ ?_
  obtain⟨q,es,ep,Z,h2,h3,h4,_,h5⟩:=Y;refine rg I (by rw[e];exact qr7) hs ⟨q,Z⟩ ⟨hl,hd,_,(O.put k eb rv).keeps fun c ys ec=>?_,q,es,ep,Z,h2,h3,h4,h5⟩;rw[aP (Dz ec e (fun z=>nomatch z))];exact ec
end
section
variable{X:Cx}{J1:List (J9×Obj)}{σ:St}{H:Hp}{s:qa4}{a:J9}{J6:List (Key×V)}{k:Key}{u:Value}{A:qe0}{E:Value->qa4->Prop}
end
def uQ(i:Jc):Prop:=∀q O,zf8 i false q O=operate [q,O] (zf7 q O)
theorem rh{prog:qc9}{E:Value->qa4->Prop}{env:Env}{value q:Jc}{pos:Pos}{T id:String} 
 (hl:ze7 (.type T) "__getitem__"=pure (some (.builtin id))) (hs:uQ q)
 (h:wpAny (model prog w) A (eval value env) (fun o Y=>wpAny (model prog w) A (eval q env) (fun i s₂=>s₂.TypeIs o T/\wpAny (model prog w) A (zf7 o i) Q E s₂) E Y) E s) :
  wpAny (model prog w) A (eval (.Subscript value q pos) env) Q E s:=by
 refine Subscript_ (qk6 h (fun o Y h₁=>qk6 h₁ (fun i s₂ O=>?_) fun _ _ x=>x) fun _ _ x=>x);obtain⟨hT,O⟩:=O;unfold zg7;refine wB ?_;rw[getitemInPython_of_ne hT.not_modules];refine wB (qw9 hT hl ?_)
 have Z:wpAny (model prog w) A (zf8 q false o i) (fun r s₃=>wpAny (model prog w) A (letTemporaryGo value o r >>= fun _=>pure r) Q E s₃) E s₂:=by rw[hs o i];exact wpAny_operating (qk6 O (fun r s₃ h₃=>wB (wpAny_letTemporaryGo (qa3 h₃))) fun _ _ x=>x)
 first
  |exact qa3 (wB Z)
  |exact wB (qa3 (wB Z))
  |exact wB Z
theorem oo{X:Cx}(I:Inv X J1 σ H s)(g:DGet H a y o):s.TypeIs (.ref a) "dict":=by
 rcases g with ⟨J6,k,e,_,_⟩|⟨J6,k,b,e,_,_,_⟩
 .obtain⟨_,_,vs,_,q⟩:=lS I.hok e;exact q.typeIs
 .obtain⟨_,_,xs,_,q⟩:=om I.hok e;exact q.typeIs
def D5(td ty:TE):TE:=fun σ H Q=>td σ H fun x H1=>ty σ H1 fun y H2=>∃a v,x=.ref a/\DGet H2 a y (some v)/\Q v H2
def tDIn(ty td:TE):TE:=fun σ H Q=>ty σ H fun y H1=>td σ H1 fun x H2=>∃a o,x=.ref a/\DGet H2 a y o/\Q (.bl o.isSome) H2
def rj(ty td:TE):TE:=fun σ H Q=>ty σ H fun y H1=>td σ H1 fun x H2=>∃a o,x=.ref a/\DGet H2 a y o/\Q (.bl (!o.isSome)) H2
def D6(td ty tv:TE):TS:=fun D σ H=>tv σ H fun v H1=>td σ H1 fun x H2=>ty σ H2 fun y O=>∃a q,x=.ref a/\DPut O a y v q/\D.nx σ q
section
variable{X:Cx}{o i e value:Jc}{pos pos' tpos:Pos}{td ty tv:TE}
theorem xW(Y:X.A.units+1<cLine)(ho:PE X o td)(hi:PE X i ty)(hs:uQ i):PE X (.Subscript o i pos) (D5 td ty):=by intro J1 s σ H Q I h;refine rh PySem.F.slot_dict_getitem.lookup hs (thn (ho J1 s σ H _ I h) fun u s1 ⟨x,H1,Z,rx,q1⟩=>thn (hi J1 s1 σ H1 _ Z q1) fun iv s2 ⟨y,H2,O,ry,a,v,ex,g,q2⟩=>?_);subst ex;obtain rfl:u=qf1 a:=rx;exact⟨oo O g,sQ Y O g ry fun w' s3 I3 q=>⟨v,H2,I3,q,q2⟩⟩
theorem uR(q:X.A.units+1<cLine)(hi:PE X i ty)(ho:PE X o td):PC X .In i o (tDIn ty td):=by
 intro J1 s σ H Q I h;refine thn (hi J1 s σ H _ I h) fun iv s1 ⟨y,H1,Y,O,q1⟩=>thn (ho J1 s1 σ H1 _ Y q1) fun u s2 ⟨x,H2,I2,rx,a,Z,ex,g,q2⟩=>?_
 subst ex;obtain rfl:u=qf1 a:=rx;exact d_in q I2 g O fun s3 I3=>⟨.bl Z.isSome,H2,I3,rfl,q2⟩
theorem lT(q:X.A.units+1<cLine)(hi:PE X i ty)(ho:PE X o td):PC X .NotIn i o (rj ty td):=by
 intro J1 s σ H Q I h;refine thn (hi J1 s σ H _ I h) fun iv s1 ⟨y,H1,Y,O,q1⟩=>thn (ho J1 s1 σ H1 _ Y q1) fun u s2 ⟨x,H2,I2,rx,a,Z,ex,g,q2⟩=>?_
 subst ex;obtain rfl:u=qf1 a:=rx;exact xV q I2 g O fun s3 I3=>⟨.bl (!Z.isSome),H2,I3,rfl,q2⟩
theorem rk (q:X.A.units+1<cLine) (ho:PE X o td) (hi:PE X i ty) (hv:PE X value tv) (hs:qn0 value (some (.Subscript o i pos')) pos.line X.env=pure false) :
  PS X (.Assign [.Subscript o i pos'] value pos) (D6 td ty tv):=by
 intro J1 s σ H D I h;refine wpAny_Assign_Subscript (thn (hv J1 s σ H _ I h) fun r s1 ⟨v,H1,O,Y,q1⟩=>thn (ho J1 s1 σ H1 _ O q1) fun u s2 ⟨x,H2,I2,rx,q2⟩=>thn (hi J1 s2 σ H2 _ I2 q2) fun iv s3 ⟨y,H3,I3,ry,a,H4,ex,g,Z⟩=>?_) hs;subst ex;obtain rfl:u=qf1 a:=rx;exact sU q I3 g ry Y fun s4 I4=>⟨σ,H4,I4,Z⟩
end
theorem uS(h:Heap)(q:qh6<h.objs.size):ObjOk P w H (h.push {cls:=.type "dict",data:=.dict #[]}) h.objs.size (.dK []):=⟨qi3 _,beq_eq_false_iff_ne.mpr (qp1 (qc1 q)),[],.nil,Heap.DictOf.new h⟩
theorem uT(h:Heap)(q:qh6<h.objs.size):ObjOk P w H (h.push {cls:=.type "dict",data:=.dict #[]}) h.objs.size (.dT []):=⟨qi3 _,beq_eq_false_iff_ne.mpr (qp1 (qc1 q)),[],.nil,_,#[],0,qa8 _ rfl,⟨rfl,rfl,rfl⟩,rfl,rfl,qy4⟩
def By:TE:=fun _ H Q=>∀p,H p=none->Q (.ref p) (upd H p (.dK []))
def Bz:TE:=fun _ H Q=>∀p,H p=none->Q (.ref p) (upd H p (.dT []))
section
variable{X:Cx}{pos:Pos}
theorem uU:PE X (.Dict [] [] pos) By:=fun J1 s σ H Q I h=>wpAny_Dict_empty ⟨.ref s.heap.objs.size,_,I.laid (a:=s.heap.objs.size) (o:=.dK []) (t':=s.toks) (fun _ _ q=>gP _ q) (nL _) (uS s.heap I.big),rfl,h _ (I.hok.fresh (nL _))⟩
theorem uV:PE X (.Dict [] [] pos) Bz:=fun J1 s σ H Q I h=>wpAny_Dict_empty ⟨.ref s.heap.objs.size,_,I.laid (a:=s.heap.objs.size) (o:=.dT []) (t':=s.toks) (fun _ _ q=>gP _ q) (nL _) (uT s.heap I.big),rfl,h _ (I.hok.fresh (nL _))⟩
end
section
variable{X:Cx}{J1:List (J9×Obj)}{σ:St}{H:Hp}{s:qa4}{a:J9}{y d:V}{u r:Value}{o:Option V}{A:qe0}{E:Value->qa4->Prop}
end
section
variable{X:Cx}{o e f:Jc}{apos cpos:Pos}{td ty tx:TE}
end
section
variable{X:Cx}{J1:List (J9×Obj)}{σ:St}{H:Hp}{s:qa4}{a:J9}{J6:List (Key×V)}{A:qe0}{E:Value->qa4->Prop}
end
section
variable{X:Cx}{J1:List (J9×Obj)}{σ:St}{H:Hp}{s:qa4}{a:J9}{y:V}{u:Value}{A:qe0}{E:Value->qa4->Prop}
end
end L2
namespace Att
open PySem PySem.W PySem.Calls PyProof.Rows
variable{P:Params}{h:Heap}
theorem jU:∀(ns:List Int)(vs:List Value),WellAll P h vs (ns.map WData.int)->IntsAre vs ns:=by
 intro ns;induction ns with
 |nil=>intro vs w;rw[qu5]at w;cases w;exact .nil
 |cons n ns q=>
  intro vs w;rw[qa5]at w;cases w with
  |cons a b=>cases a;exact .cons _ _ (q _ b)
variable{l:OpenLaw}{n:Nat}
theorem sV(hn:l.most=some n){args:List WData}{Y:List Value}
 (O:l.row.toRowW.claim.pre args=true) (hwl:WellAll P h Y args) :
  ∃a vs ns,Y=[qf1 a]/\args=[WData.list (ns.map WData.int)]/\h.get? a=some {cls:=.type "list",data:=.seq vs.toArray}/\IntsAre vs ns/\ns.length<=n:=by
 have hsh:WShape.hasAll [] args [.list .int]=true:=(pre_splitW O).1;have hc:l.pre.holds [] {args:=args}=true:=(pre_splitW O).2;obtain⟨d,r,rfl,h1,h2⟩:=hasAllW_cons hsh;obtain rfl:=hasAllW_nil h2;obtain⟨xs,rfl,h3⟩:=hasW_list h1;obtain⟨ns,rfl⟩:=items_int h3
 have Z:ns.length<=n:=by
  unfold OpenLaw.pre at hc
  have h4:(WTm.not (.lt (.lit (.int (n:Int))) (.len (.arg 0)))).holds [] {args:=[.list (ns.map .int)]}=true:=by have h4:=(holds_andW hc).1;rw[hn]at h4;exact h4
  have h5:=condW_of h4 (w_not (w_lt w_lit (w_len_list (w_arg rfl))));rw[qa1]at h5;refine Nat.le_of_not_lt fun q=>?_
  have q':(n:Int)<((ns.length:Nat):Int):=by lia
  first
   |(rw[decide_eq_true q']at h5;exact absurd h5 (by decide))
   |(simp at h5;lia)
 cases hwl with
 |cons w1 w2=>
  cases w2;cases w1 with
  |list ho hall=>exact⟨_,_,ns,rfl,rfl,ho,jU ns _ hall,Z⟩
theorem sW(l:OpenLaw)(args:List WData):l.row.toRowW.claim.post args (.bool true) args=true:=
 postW_of (r:=l.row.toRowW) (X:=(true==true))
  (show WShape.has [] (.bool true) .bool=true by first|rfl|decide|simp[WShape.has,WShape.arms,WShape.armsAll])
  (show(WTm.eq .res (.lit (.bool true))).value [] {args:=args,res:=some (.bool true),after:=args}=some (.bool (true==true))from w_eq_bool (w_res rfl) w_lit) rfl
theorem zR{q:qc9}{loose:List Str}{XP:(Str->Option Value)->Heap->Prop}{YP:Ja->Heap->Prop}{d:DefRec}
 (hn:l.most=some n) (hdf:d.params.defaults=[])
 (call:∀(w:Ja)(s₀ O:qa4)(mg mb:Str->Option Value)(fa:J9)(o:Obj)(pm cd doc:Value)(a:J9)(vs:List Value)(ns:List Int),
 Ground q loose [] XP w s₀ mg mb O.heap->YP w O.heap→
 O.heap.get? fa=some o->o.data=.func (docDef d.name d.params d.body d.scope pm cd doc)->O.heap.CodeRec cd d.name->mg d.name=some (.ref fa)→
 O.heap.get? a=some {cls:=.type "list",data:=.seq vs.toArray}->IntsAre vs ns->ns.length<=n->O.gens=#[]→
 qq5 (model l.prog w) zh4 (.call (.ref fa) ⟨[.ref a],[]⟩) (fun r s'=>r=.ok (.ret (.bool true))/\OldK O.heap s'.heap/\s'.os=O.os/\zc5 s'.gens) O) :
  WalkO q loose XP YP l.row.toRowW d [] (fun f vs=>PySem.call f vs):=by
 intro w s₀ O mg mb G Y fa o pm cd doc dV kV ho hd hcd hD hmg hg args vals as hpre hlay hrd hwl hlo;obtain rfl:dV=.none:=Dflts.none hD hdf;obtain rfl:kV=.none:=Dflts.noKw hD;obtain⟨a,vs,ns,rfl,rfl,hobj,Z,hlen⟩:=sV hn hpre hwl;refine enter_call (qr8 (call w s₀ O mg mb fa o pm cd doc a vs ns G Y ho (fd_plain hd) hcd hmg hobj Z hlen hg) fun r s' hq=>?_);obtain⟨rfl,h2,h3,h4⟩:=hq;exact⟨.inl ⟨.bool true,.bool true,[],rfl,fun _=>rfl,.bool true,sW l _,fun _=>⟨qq0,fun _ hm=>(nomatch hm)⟩⟩,h2,h3,h4⟩
section
variable{prog:qc9}{w:Ja}{A:qe0}{E:Value->qa4->Prop}{s:qa4}{K:Frag}
end
end Att
namespace L2
open PySem PySem.Spec PyProof.Rows
theorem lU:∀{vs:List Value}{ns:List Int},IntsAre vs ns->Vals (ns.map V.int) vs
 |_,_,.nil=>.nil
 |_,_,.cons n t h=>.cons ⟨t,rfl⟩ (lU h)
end L2
/- THE LAST THEOREM (shape;LID,My.* are yours):
   My.Adr: a structure of the addresses that your layer names (classes,functions);My.Txt K t: a structure (Prop) of the equations over K;
   My.txt_mk:{K} {implicit addresses ..} (e1:nsIn K qc0 "law"=some (some (.ref f))) (e2:K.lookup f=some ⟨oc,od,.func (fnOf "law" "law" params body scope dV kV doc pm an cdv ct),sl⟩) (e3:codeIn K cdv "law"=true) ..:∃t,My.Txt K t
(the tactic k_is has no namespace: write k_is) -/
namespace L2
open PySem PySem.Spec PyProof.Rows
def cB(s:Jb):qj0:=match s with
 |.FunctionDef _ a _ _ _ _ _ _ _ _=>a
 |_=>{posonlyargs:=[],args:=[],vararg:=none,kwonlyargs:=[],kw_defaults:=[],kwarg:=none,defaults:=[]}
def bh(s:Jb):List Jb:=match s with
 |.FunctionDef _ _ b _ _ _ _ _ _ _=>b
 |_=>[]
def aa(s:Jb):Jd:=match s with
 |.FunctionDef _ _ _ _ _ _ sc _ _ _=>sc
 |_=>{kind:=.function,names:=[],isGenerator:=false,isCoroutine:=false}
abbrev CX0:CXT:=fun _ _ _ _ _ _=>False
abbrev E0:XK:=fun _ _ _=>False
variable{X:Cx}
theorem D7:pT CX0 X E0:=fun _ _ _ _ _ _ _ h=>h.elim
structure Fun(K:xA9)(x qual:Str)(st:Jb)(f:J9)(fd:qp9):Prop where
 ex:∃(oc:Value)(od:Option J9)(kV doc pm:Value)(an:Option J9)(cdv ct:Value)(osl:Array (Option Value)),fd=xC9 x qual (cB st) (bh st) (aa st) .none kV doc pm an cdv ct/\K.lookup f=some ⟨oc,od,.func fd,osl⟩/\xH9 K cdv qual=true
 kp:xF9 K (.ref f)=true
variable{x qual:Str}{st:Jb}{f:J9}{fd:qp9}{N ps:List Str}{sp:Sp}{oc doc pm cdv:Value}{od an:Option J9}{osl:Array (Option Value)}
section
variable{P:qc9}{w:Ja}{K:xA9}{mg:Str->Option Value}{base:Heap}
theorem Fun.ok{k:Nat}(F:Fun K x qual st f fd)(S:FnScope N ps (aa st))(len:∀vs H Q E,sp vs H Q E->vs.length=ps.length)
 (O:∀(cdv:Value)(A:qe0)(outer:List Env)(s:qa4)(H:Hp)(vs:List V)(Q:VK)(E:XK),Room k (A.deeper (qz0 qual (aa st) s.heap.objs.size f cdv))->sp vs H Q E→
 ∃t,PSs (ko CX0 P w K mg base N qual (aa st) f cdv A outer s H E).nox (bh st) t/\t {nx:=fun _ H'=>Q .non H',rt:=Q} (start N vs) H):FnOk P w K mg base CX0 (k+1) f fd ps sp:=by
 obtain⟨oc,od,kV,doc,pm,an,cdv,ct,osl,rfl,lk,Y⟩:=F.ex;refine zO lk Y S len fun A outer s H vs Q E hr Z=>?_
 obtain⟨t,h,q⟩:=O cdv A outer s H vs Q E hr Z;exact⟨t,h.nox,q⟩
theorem Fun.binds(F:Fun K x qual st f fd)
 (h:∀(kV doc pm:Value)(an:Option J9)(cdv ct:Value)(us:List Value),us.length=ps.length->zg6 (xC9 x qual (cB st) (bh st) (aa st) .none kV doc pm an cdv ct) ⟨us,[]⟩=pure (ps.zip us)):Binds K fd ps []:=by
 obtain⟨oc,od,kV,doc,pm,an,cdv,ct,osl,rfl,O,q⟩:=F.ex;exact .all (h kV doc pm an cdv ct)
theorem mX{kV ct:Value}(l:K.lookup f=some ⟨oc,od,.func (xC9 x qual (cB st) (bh st) (aa st) .none kV doc pm an cdv ct),osl⟩)(c:xH9 K cdv qual=true)(k:xF9 K (.ref f)=true):Fun K x qual st f (xC9 x qual (cB st) (bh st) (aa st) .none kV doc pm an cdv ct):=⟨⟨oc,od,kV,doc,pm,an,cdv,ct,osl,rfl,l,c⟩,k⟩
end
variable{A:qe0}
theorem kw{k:Nat}(q:Room k A):A.units+1<cLine:=Nat.lt_of_le_of_lt (Nat.add_le_add_left (by decide:1<=64) _) q.units
section
variable{X:Cx}
end
def Same(H H':Hp):Prop:=∀b o,H b=some o->H' b=some o
theorem Same.refl(H:Hp):Same H H:=fun _ _ h=>h
variable{H:Hp}
theorem Same.trans{H1 H2:Hp}(a:Same H H1)(b:Same H1 H2):Same H H2:=fun c o h=>b c o (a c o h)
variable{H':Hp}
theorem Same.free(e:Same H H'){l:J9}(h:H' l=Option.none):H l=Option.none:=by
 cases q:H l with
 |none=>rfl
 |some o=>rw[e l o q]at h;cases h
variable{K:xA9}{a:J9}{xs:List V}
theorem Same.seq(e:Same H H')(h:SqL K H a xs):SqL K H' a xs:=by
 rcases h with (h|⟨o,h⟩)|h
 .exact .inl (.inl (e _ _ h))
 .exact .inl (.inr ⟨o,e _ _ h⟩)
 .exact .inr h
section
variable{κ:Type}[DecidableEq κ]
end
set_option maxRecDepth 100000
set_option maxHeartbeats 4000000
theorem dP:∀(names:List (Str×qo9))(n:Nat)(J5:List (Str×J9)),qg6 n names J5=qg6 n names []++J5
 |[],_,_=>rfl
 |(x,k)::r,n,J5=>by
  unfold qg6;split
  .rw[dP r (n+1) ((x,n)::J5),dP r (n+1) [(x,n)],qk9];rfl
  .exact dP r n J5
theorem dN{α:Type}:∀{l m:List (Str×α)},(l++m).lookup x=(l.lookup x).or (m.lookup x)
 |[],m=>by simp
 |(k,v)::l,m=>by
  rw[qv2,qg0,qg0];cases x==k with
  |true=>rfl
  |false=>exact dN
variable{n:Str}{Q:Unit->qa4->Prop}{c:J9}
section
variable{M:Model}{A:qe0}{E:Value->qa4->Prop}{s₀ s:qa4}{m cm:Str->Option Value}{env:Env}{cs:List (Str×J9)}
theorem stLX{v:Value}(x:zd1 s₀ env.locals m cs cm s)(hk:env.scope.kind=.function)(hl:env.kindOf n=some .local)
 (h:∀s',zd1 s₀ env.locals (fun y=>if y=n then some v else m y) cs cm s'->Q () s'):wpAny M A (zc6 env n v) Q E s:=by
 refine zc7 hl x.toInCall.ns (fun h' O q=>h _ ⟨⟨?_,O,fun b o e=>?_,x.toInCall.fresh⟩,fun k c Z=>?_,x.apart,x.above⟩) (by rw[hk];rfl)
 .obtain⟨Y,tk,rfl⟩:=x.toInCall.same;exact⟨h',_,rfl⟩
 .exact q.extBut b o (qc1 (qc2 (qa7 e) x.toInCall.fresh)) (x.toInCall.keep b o e)
 .exact(x.cell k c Z).sameBut q (qm0 (x.above k c (PySem.mem_of_lookup Z)))
theorem stCX{v:Value}(x:zd1 s₀ env.locals m cs cm s)(hk:env.scope.kind=.function)(hl:env.kindOf n=some .cell)
 (hc:cs.lookup n=some c) (hce:env.cells.lookup n=some c)
 (h:∀s',zd1 s₀ env.locals m cs (fun y=>if y=n then some v else cm y) s'->Q () s'):wpAny M A (zc6 env n v) Q E s:=by
 have Z:=x.above n c (PySem.mem_of_lookup hc);refine wpAny_storeName_cell hk hl hce (x.cell n c hc) fun h' hc' O=>h _ ⟨⟨?_,x.toInCall.ns.sameBut O (qc1 Z),fun b o e=>?_,x.toInCall.fresh⟩,fun k c' q=>?_,x.apart,x.above⟩
 .obtain⟨h₁,tk,rfl⟩:=x.toInCall.same;exact⟨h',_,rfl⟩
 .exact O.extBut b o (qc1 (qy1 (qc2 (qa7 e) x.toInCall.fresh) Z)) (x.toInCall.keep b o e)
 .by_cases Y:k=n
  .subst Y;rw[hc]at q;cases q
   simpa using hc'
  .rw[if_neg Y];exact(x.cell k c' q).sameBut O fun e=>Y (zh9 x.apart (PySem.mem_of_lookup q) (e▸PySem.mem_of_lookup hc))
theorem gu (f:Str×Value->PUnit->Sem (ForInStep PUnit)) (hf:∀ n v u,f (n,v) u=(do zc6 env n v;pure (.yield ⟨⟩))) (hk:env.scope.kind=.function) (Z:∀ n c,cs.lookup n=some c->env.cells.lookup n=some c) :
  ∀(binds:List (Str×Value))(m cm:Str->Option Value)(s:qa4)(Q:PUnit->qa4->Prop),zd1 s₀ env.locals m cs cm s→
   (∀x∈binds,env.kindOf x.1=some .local∨(env.kindOf x.1=some .cell/\(cs.lookup x.1).isSome=true))→
   (∀s',zd1 s₀ env.locals (bindL env.kindOf binds m) cs (bindC env.kindOf binds cm) s'->Q ⟨⟩ s')->wpAny M A (forIn binds ⟨⟩ f) Q E s
 |[],m,cm,s,Q,x,_,h=>by rw[List.forIn_nil];exact qa3 (h s x)
 |(n,v)::r,m,cm,s,Q,x,q,h=>by
  rw[List.forIn_cons,hf];have hr:∀y∈r,env.kindOf y.1=some .local∨(env.kindOf y.1=some .cell/\(cs.lookup y.1).isSome=true):=fun y hy=>q y (qd2 _ hy)
  rcases q (n,v) qd8 with hl|⟨hl,hc⟩
  .refine wB (wB (stLX x hk hl fun s' x'=>qa3 (gu f hf hk Z r _ _ s' Q x' hr fun Y O=>h Y ?_)));unfold bindL bindC;rw[if_pos hl,if_pos hl];exact O
  .obtain⟨c,hc⟩:=qr9.mp hc;have hnl:¬ env.kindOf n=some .local:=by rw[hl];decide
   refine wB (wB (stCX x hk hl hc (Z n c hc) fun s' x'=>qa3 (gu f hf hk Z r _ _ s' Q x' hr fun Y O=>h Y ?_)));unfold bindL bindC;rw[if_neg hnl,if_neg hnl];exact O
end
variable{E:Value->qa4->Prop}{s:qa4}{scope:Jd}
theorem xX{M:Model}{O:J9}{cl:List (Str×J9)}{binds:List (Str×Value)}{Y:Option J9}{code:Value}{q:J9}{Q:Env->qa4->Prop}
 (hk:scope.kind=.function)
 (Z:∀x∈binds,scope.names.lookup x.1=some .local∨(scope.names.lookup x.1=some .cell/\((qg6 (s.heap.objs.size+1) scope.names []).lookup x.1).isSome=true))
 (hQ:∀env,env=newEnv scope s.heap.objs.size O (qg6 (s.heap.objs.size+1) scope.names []++cl) qual Y code none q→
 ∀s',zd1 s env.locals (bindL env.kindOf binds fun _=>none) (qg6 (s.heap.objs.size+1) scope.names []) (bindC env.kindOf binds fun _=>none) s'->Q env s') :
  wpAny M A (newFunctionEnv scope O cl binds qual Y code none q) Q E s:=by
 simp only[newFunctionEnv,Option.isSome_none,qe6,if_false];refine wB (wpAny_alloc ?_);refine qg8 (wpAny_layCells _ (fun name kind cells=>by cases hkc:kind==qo9.cell<;>simp[hkc]) _ _ _ _ ?_);have ok:=cellsFrom_ok scope.names (s.heap.push {cls:=.type "frame",data:=.dict #[]}) (s.heap.objs.size+1) [] ⟨fun _ _ hm=>(nomatch hm),qq0⟩ (by rw[qf7];exact nL _);rw[qf7]at ok;rw[show({s with heap:=s.heap.push {cls:=.type "frame",data:=.dict #[]}}:qa4).heap.objs.size=s.heap.objs.size+1 from qf7 ..,dP]
 refine wB (gu (s₀:=s) (cs:=qg6 (s.heap.objs.size+1) scope.names []) (env:=newEnv scope s.heap.objs.size O (qg6 (s.heap.objs.size+1) scope.names []++cl) qual Y code none q)
  _ (fun _ _ _=>rfl) hk (fun n c h=>by show(qg6 (s.heap.objs.size+1) scope.names []++cl).lookup n=some c;rw[dN,h];rfl) binds (fun _=>none) (fun _=>none) _ _
  ⟨⟨⟨_,_,rfl⟩,(Heap.Ns.new s.heap (.type "frame")).keeps (pushCells_keeps _ _),fun b o e=>pushCells_keeps _ _ b o (gP _ e),nL _⟩,fun n c hc=>(ok.empty n c (PySem.mem_of_lookup hc)).1,ok.apart,fun n c hm=>(ok.empty n c hm).2⟩
  Z fun s' x=>qa3 (hQ _ rfl s' x))
def fV(names:List (Str×qo9))(cells:List (Str×J9)):List (Str×J9):=names.foldl (fun cs q=>if q.2==qe1 then(q.1,(cells.lookup q.1).getD 0)::cs else cs) []
variable{cells:List (Str×J9)}{env:Env}
theorem rl (Z:env.cells=cells):∀ (names:List (Str×qo9)) (J5:List (Str×J9)),(∀ x∈names,x.2=.free->∃ c,cells.lookup x.1=some c)→
  (forIn names J5 (fun(x:Str×qo9)(r:List (Str×J9))=>if(x.2==qe1)=true then(do let c <- cellOf env x.1;pure (qp4 ((x.1,c)::r)))else(pure (qp4 r):Sem _)))
   = (pure (names.foldl (fun cs Y=>if Y.2==qe1 then(Y.1,(cells.lookup Y.1).getD 0)::cs else cs) J5):Sem (List (Str×J9)))
 |[],J5,_=>rfl
 |x::r,J5,h=>by
  have ih:=fun J5=>rl Z r J5 fun y hy=>h y (qd2 _ hy)
  simp only[List.forIn_cons,qj5];cases e:(x.2==qe1)with
  |false=>simp only[qe6,if_false];exact ih J5
  |true=>
   obtain⟨c,O⟩:=h x qd8 (by simpa using e);have q:cellOf env x.1=pure c:=by unfold cellOf;rw[Z,O]
   simp only[if_true,q,O,Option.getD_some];exact ih _
theorem im{env:Env}(h:∀x∈scope.names,x.2=.free->∃c,env.cells.lookup x.1=some c):ze8 scope env=pure (fV scope.names env.cells):=by have:=rl (env:=env) rfl scope.names [] h;unfold ze8 fV;rw[<- this];simp only[bind_pure]
theorem lV:∀ {names:List (Str×qo9)} {J5:List (Str×J9)} {x:Str} {c:J9},(∀ y∈names,y.2=.free->∃ c,cells.lookup y.1=some c)→
  (names.foldl (fun cs O=>if O.2==qe1 then(O.1,(cells.lookup O.1).getD 0)::cs else cs) J5).lookup x=some c->(∀c,J5.lookup x=some c->cells.lookup x=some c)->cells.lookup x=some c
 |[],J5,x,c,_,h,q=>q c h
 |y::r,J5,x,c,Z,h,q=>by
  simp only[qj5]at h;refine lV (fun z hz=>Z z (qd2 _ hz)) h ?_;intro c' h';split at h'
  .rename_i hf;obtain⟨c0,e0⟩:=Z y qd8 (by simpa using hf);rw[qg0]at h';split at h'
   .rename_i hx;have Y:x=y.1:=by simpa using hx
    rw[e0]at h';subst Y;rw[e0];simpa using h'
   .exact q c' h'
  .exact q c' h'
variable{names:List (Str×qo9)}
theorem gv(q:∀y∈names,y.2=.free->∃c,cells.lookup y.1=some c)(h:(fV names cells).lookup x=some c):cells.lookup x=some c:=lV q h fun c h=>by simp at h
theorem lW:∀ {names:List (Str×qo9)} {J5:List (Str×J9)} {x:Str},((x,qe1)∈names∨(J5.lookup x).isSome)→
  ((names.foldl (fun cs q=>if q.2==qe1 then(q.1,(cells.lookup q.1).getD 0)::cs else cs) J5).lookup x).isSome
 |[],J5,x,h=>by simpa using h
 |y::r,J5,x,h=>by
  simp only[qj5];refine lW ?_;rcases h with h|h
  .rcases qb0.mp h with e|h
   .subst e;right;simp[qg0]
   .exact .inl h
  .right;split
   .rw[qg0];split
    .rfl
    .exact h
   .exact h
theorem oq(h:(x,qe1)∈names):∃c,(fV names cells).lookup x=some c:=qr9.mp (lW (.inl h))
structure CmpScope(N:List Str)(outer scope:Jd)(M:List Str)(src:List (Option Nat)):Prop where
 kind:scope.kind=.function
 nocell:∀y∈scope.names,y.2≠.cell
 free:∀y∈scope.names,y.2=.free->outer.names.lookup y.1=some .cell∨outer.names.lookup y.1=some .free
 names:∀y∈scope.names,y.2=.local->scope.names.lookup y.1=some .local
 lf:∀y∈scope.names,y.2=.free->scope.names.lookup y.1=some .free
 len:M.length=src.length
 nd:M.Nodup
 src:∀p∈M.zip src,∀j∈p.2,N[j]?=some p.1/\(p.1,qe1)∈scope.names
def stC(src:List (Option Nat))(σ:St):St:=src.map fun o=>o.bind fun j=>(σ[j]?).join
noncomputable def cxC(X:Cx)(M:List Str)(scope:Jd)(C:J9)(s:qa4)(H:Hp)(ex:List J9):Cx:={X with N:=M,s₀:=s,H₀:=H,env:=compEnvC scope (fV scope.names X.env.cells) C X.env,outer:=X.stack,ex:=ex,fn:=fun _=>false,pn:=[],xe:=fun _ _=>False}
noncomputable def PTs(X:Cx)(ifs:List Jc)(t:TT):Prop:=
 ∀(J1:List (J9×Obj))(s:qa4)(σ:St)(H:Hp)(Q:Bool->Hp->Prop),Inv X J1 σ H s->t σ H Q→
  wpAny (model X.prog X.w) X.A (forIn ifs true fun c r=>if r=true then do let ok <- isTrue c X.env (eval c X.env);pure (qp4 ok)else pure (qp4 r)) (TP X J1 σ Q) X.xe s
def tYes:TT:=fun _ H Q=>Q true H
theorem xY:PTs X [] tYes:=fun J1 s σ H Q I h=>wpAny_tests_nil ⟨H,I,h⟩
theorem xZ{c:Jc}{t:TT}(h:PT X c t):PTs X [c] t:=fun J1 s σ H Q I q=>wpAny_tests_one (h J1 s σ H Q I q)
def Wk(a b:St):Prop:=a.length=b.length/\∀(i:Nat) v,a[i]?=some (some v)->b[i]?=some (some v)
noncomputable def ou(src:List (Option Nat))(wi:TI)(g:TG)(tt:TT)(te:TE):TE:=fun σ H Q=>wi σ H fun J H1=>∀D,H1 D=none->∃W:Nat->Nat->Hp->Prop,(∃m,W 0 m (upd H1 D (.lst [])))/\∀i m H,W i m H→
 (J.stop i H/\Q (.ref D) H)∨(J.go i H/\∃N:Hp->Prop,(∀H',N H'->∃Y,Y<m/\W (i+1) Y H')/\∀x H',J.yld i H x H'→
  g x (stC src σ) H' fun q H2=>Wk (stC src σ) q/\tt q H2 fun b O=>if b=true then te q O fun v Z=>∃ys,Z D=some (.lst ys)/\ys.length<qb4/\N (upd Z D (.lst (ys++[v])))else N O)
variable{w:Ja}{pos:Pos}
theorem iI{prog:qc9}{R:Result->qa4->Prop}{elt q iter:Jc}{ifs:List Jc}{it J5:Value}(I:Nat->qa4->Prop)
 (turn:∀n s,I n s->wpAny (model prog w) A (qx7 it) (fun r Y=>match r with
 |none=>R (.ok .next) Y
 |some v=>wpAny (model prog w) A (qw6 q it v) (fun _ O=>wpAny (model prog w) A (zc9 q env v) (fun _ Z=>
 wpAny (model prog w) A (forIn ifs true fun c r=>if r=true then do let ok <- isTrue c env (eval c env);pure (qp4 ok)else pure (qp4 r)) (fun ok s₃ =>
 if ok=true then wpAny (model prog w) A (eval elt env) (fun x s₄ =>
 wpAny (model prog w) A (call (.builtin "list.append") [J5,x]) (fun _ s₅=>∃m,m<n/\I m s₅) (fun _ _=>False) s₄) (fun _ _=>False) s₃
 else ∃m,m<n/\I m s₃) (fun _ _=>False) Z) (fun _ _=>False) O) (fun _ _=>False) Y) (fun _ _=>False) s)
 (n:Nat) (h:I n s) :
  qq5 (model prog w) A (.compLoop (.ListComp elt [⟨q,iter,ifs,0⟩] scope pos) 0 it J5 env) R s:=by
 refine codeAny_loop rfl I (fun n s hI=>?_) n h;show wpAny _ A ((compTurn (.ListComp elt [⟨q,iter,ifs,0⟩] scope pos) 0 it J5 env).onRaise (fun x=>do noteFrame x env;theTreesLotGoes x)) _ _ s;refine wpAny_noted ?_;rw[compTurn_list];refine wB (za1 (wB (qk6 (turn n s hI) (fun r Y h₁=>?_) fun _ _ h'=>h'.elim)));cases r with
 |none=>exact qa3 h₁
 |some v=>
  refine wB (qk6 h₁ (fun _ O h₁'=>?_) fun _ _ h'=>h'.elim);refine wB (qk6 h₁' (fun _ Z h₂=>wB (qk6 h₂ (fun ok s₃ h₃=>?_) fun _ _ h'=>h'.elim)) fun _ _ h'=>h'.elim);cases ok with
  |false=>exact qa3 ⟨rfl,h₃⟩
  |true=>exact wB (wB (qk6 h₃ (fun x s₄ h₄=>wB (qk6 h₄ (fun _ s₅ h₅=>qa3 (qa3 ⟨rfl,h₅⟩)) fun _ _ h'=>h'.elim)) fun _ _ h'=>h'.elim))
variable{σ:St}
section
variable{X:Cx}{elt tg iter:Jc}{ifs:List Jc}{scope:Jd}{pos:Pos}{M:List Str}{src:List (Option Nat)}{wi:TI}{g:TG}{tt:TT}{te:TE}
theorem mY(hn:∀y∈scope.names,y.2≠.cell)(h:(relabel scope env).names.lookup x=some .cell∨(relabel scope env).names.lookup x=some .free):(x,qe1)∈scope.names:=by
 have q:∀k,(relabel scope env).names.lookup x=some k->(k=.cell∨k=.free)->(x,qe1)∈scope.names:=by
  intro k hk Y;have Z:=PySem.mem_of_lookup hk;unfold relabel at Z;obtain⟨⟨n,k0⟩,O,e⟩:=qc5.mp Z;dsimp only at e;split at e
  .rename_i hc;simp only[qb3]at hc;have:k0=.free:=by simpa using hc.1.1
   subst this;cases e;exact O
  .cases e;rcases Y with z|z
   .subst z;exact absurd rfl (hn _ O)
   .subst z;exact O
 rcases h with h|h
 .exact q _ h (.inl rfl)
 .exact q _ h (.inr rfl)
theorem oy{J1:List (J9×Obj)}{s1:qa4}{fp:List J9}{m1:Str->Option Value}(S:CmpScope X.N X.env.scope scope M src)(I:Inv X J1 σ H s)(hf:∀b∈fp,hV X J1 H b)
 (hfl:∀b∈fp,b<s.heap.objs.size) (hn:s1.heap.Ns s.heap.objs.size m1) (hk:∀b o,s.heap.get? b=some o->s1.heap.get? b=some o) (hos:s1.os=s.os) (hg:s1.gens=s.gens) :
  Inv (cxC X M scope s.heap.objs.size s H fp) [] (stC src σ) H s1:=by
 have hcells:∀x∈scope.names,x.2=.free->∃c,X.env.cells.lookup x.1=some c:=fun x hx Y=>I.ok.has x.1 (S.free x hx Y)
 have O:∀x c,(fV scope.names X.env.cells).lookup x=some c->X.env.cells.lookup x=some c:=fun x c h=>gv hcells h
 have Z:∀c v,s.heap.IsCell c v->s1.heap.IsCell c v:=fun c v ⟨o,ho,hd⟩=>⟨o,hk c o ho,hd⟩
 refine⟨⟨I.ok.mod,S.kind,I.ok.glob,I.ok.blt,nL _,fun y z c h1 h2=>I.ok.inj y z c (O _ _ h1) (O _ _ h2),fun x hx=>oq (mY S.nocell hx),fun x c h=>(nomatch h),I.ok.hd,I.ok.frames,.inl rfl,
  fun b hb=>⟨qc1 (hfl b hb),fun x c h=>(hf b hb).2.2.2.2.1 x c (O _ _ h)⟩,I.bs,qb9 I.ok.bsz I.sz,fun b o e hb=>?_,fun b hb z=>?_,I.stack,I.stkFree,fun p hp=>I.base.cts _ _ (I.ok.tb p hp)⟩,
  hos,(by rw[hg];exact I.bare),Un.kept hk,⟨m1,hn,fun i x v h1 h2 h3=>?_⟩,fun x c h=>?_,I.hok.fresh (qt7 _),fun x c h=>I.freeC x c (O _ _ h),fun p hp=>absurd hp (by simp[cxC]),I.hok.kept hk,?_⟩
 .rcases(hf b hb).2.2.2.1 with z|z
  .exact I.ok.noex b o e z
  .exact absurd (qc2 (qa7 e) (qb9 I.ok.bsz z)) (ql9 _)
 .rcases qb0.mp (I.stkSub b z)with q|q
  .exact(hf b hb).2.1 q
  .exact(hf b hb).2.2.1 q
 . -- a name taken over
   have h1:M[i]?=some x:=h1;unfold stC at h2;rw[qb1]at h2;cases hs:src[i]? with
   |none=>rw[hs]at h2;cases h2
   |some o=>
    rw[hs]at h2;simp only[ql1,qt6]at h2;cases o with
    |none=>cases h2
    |some j=>
     simp only[qa2]at h2
     have hmem:(x,some j)∈M.zip src:=by
      have:(M.zip src)[i]?=some (x,some j):=by rw[qq8];exact⟨h1,hs⟩
      exact qd3 this
     obtain⟨hN,Y⟩:=S.src _ hmem j rfl
     have hσ:σ[j]?=some (some v):=by
      cases e:σ[j]? with
      |none=>rw[e]at h2;cases h2
      |some o=>rw[e]at h2;simp only[qr0]at h2;rw[h2]
     have hkind:=S.free _ Y rfl;obtain⟨m,hm,hl⟩:=I.loc;obtain⟨u,r,l⟩:=hl j x v hN hσ (.inr hkind);refine⟨u,r,?_⟩
     have hloc:X.env.kindOf x≠some .local:=by show X.env.scope.names.lookup x≠_;rcases hkind with q|q<;>rw[q]<;>decide
     rcases l with l|⟨_,c,e,z⟩
     .exact absurd l.1 hloc
     .obtain⟨c',e'⟩:=oq (cells:=X.env.cells) Y;have:=O _ _ e';rw[e]at this;cases this;refine .inr ⟨?_,c,e',Z _ _ z⟩;rcases h3 with q|q
      .exact absurd q (by
        -- a name that is free in the block is not local there
        exact(by
         intro q
         have:scope.names.lookup x=some .local:=by
          have hb:∀(names:List (Str×qo9)),(names.map fun(n,k)=>if(k==qe1&&X.env.scope.kind==.function&&X.env.kindOf n==some .cell)then(n,qo9.cell)else(n,k)).lookup x=some .local->names.lookup x=some .local:=by
           intro names;induction names with
           |nil=>intro h;simp at h
           |cons y r ih=>
            obtain⟨n,k⟩:=y;intro h;simp only[qa5]at h;by_cases hx:x=n
            .subst hx;split at h
             .simp[qg0]at h
             .simpa[qg0] using h
            .have hx':(x==n)=false:=by simpa using hx
             split at h
             .simp only[qg0,hx']at h ⊢;exact ih h
             .simp only[qg0,hx']at h ⊢;exact ih h
          exact hb _ q
         rw[S.lf _ Y rfl]at this;cases this))
      .exact q
 .obtain⟨v,z⟩:=I.cell x c (O _ _ h);exact⟨v,Z _ _ z⟩
 .show(stC src σ).length=M.length;unfold stC;rw[qa1,S.len]
theorem uW (S:CmpScope X.N X.env.scope scope M src) (hc:X.calm=true) (hi:PI X tg iter wi) (hg:M.Nodup->∀ C s H ex,PG (cxC X M scope C s H ex) tg g) (ht:∀ C s H ex,PTs (cxC X M scope C s H ex) ifs tt)
  (he:∀C s H ex,PE (cxC X M scope C s H ex) elt te) (hs:∀x,qh7 iter X.env x=pure x:=by intro _;rfl) :
  PE X (.ListComp elt [⟨tg,iter,ifs,0⟩] scope pos) (ou src wi g tt te):=by
 intro J1 s σ H Q I h;rw[eval_ListComp];have hcells:∀x∈scope.names,x.2=.free->∃c,X.env.cells.lookup x.1=some c:=fun x hx hfr=>I.ok.has x.1 (S.free x hx hfr)
 refine qz3 (use:=none) rfl hs (im hcells) S.kind S.names (thn (hi J1 s σ H _ I h) fun v s1 h1=>thn h1 fun itv s2 h2=>?_);obtain⟨it,fp,tn,J,H2,rfl,I2,T,st2,f2,hq⟩:=h2;refine qd5 ?_;have I3:Inv X J1 σ (upd H2 s2.heap.objs.size (.lst [])) {s2 with heap:=s2.heap.push {cls:=.type "list",dict:=none,data:=.seq ([]:List Value).toArray},toks:=s2.toks}:=I2.lnew (J8:=[]) (ys:=[]) (t':=s2.toks) .nil (by simp);have hD:H2 s2.heap.objs.size=none:=I2.fresh;obtain⟨W,⟨m0,w0⟩,turn⟩:=hq _ hD;generalize hDn:s2.heap.objs.size=D at*
 generalize hs3:({s2 with heap:=s2.heap.push {cls:=.type "list",dict:=none,data:=.seq ([]:List Value).toArray},toks:=s2.toks}:qa4)=Z at*
 have f3:∀b∈fp,hV X J1 (upd H2 D (.lst [])) b:=fun b O=>⟨by obtain⟨o,e,_⟩:=T.obj _ _ st2 b O;rw[aP (by rw[<- hDn];exact qc1 (qa7 e))];exact(f2 b O).1,(f2 b O).2⟩
 have k23:∀b o,s2.heap.get? b=some o->Z.heap.get? b=some o:=fun b o e=>by rw[<- hs3];exact gP _ e
 have st3:tn 0 Z.heap:=T.keep _ _ _ st2 fun b _ o e=>k23 b o e
 have fl3:∀b∈fp,b<Z.heap.objs.size:=fun b O=>by obtain⟨o,e,_⟩:=T.obj _ _ st3 b O;exact qa7 e
 refine wpAny_newFunctionEnv S.nocell (by intro y hy;simp at hy) (fun h₁ hns₁ hsb₁=>?_) S.kind;have k34:∀b o,Z.heap.get? b=some o->h₁.get? b=some o:=fun b o e=>hsb₁.extBut b o (qc1 (qa7 e)) (gP _ e)
 generalize hs4:({Z with heap:=h₁,toks:=Z.toks+([]:List (Str×Value)).length}:qa4)=s4
 have I4:Inv (cxC X M scope Z.heap.objs.size Z (upd H2 D (.lst [])) fp) [] (stC src σ) (upd H2 D (.lst [])) s4:=by rw[<- hs4];exact oy S I3 f3 fl3 hns₁ k34 rfl rfl
 have st4:tn 0 s4.heap:=T.keep _ _ _ st3 fun b _ o e=>by rw[<- hs4];exact k34 b o e
 generalize Y:cxC X M scope Z.heap.objs.size Z (upd H2 D (.lst [])) fp=X' at*
 have hg':PG X' tg g:=by rw[<- Y];exact hg S.nd _ _ _ _
 have ht':PTs X' ifs tt:=by rw[<- Y];exact ht _ _ _ _
 have he':PE X' elt te:=by rw[<- Y];exact he _ _ _ _
 have eP:X'.prog=X.prog:=by rw[<- Y];rfl
 have eW:X'.w=X.w:=by rw[<- Y];rfl
 have eK:X'.K=X.K:=by rw[<- Y];rfl
 have eA:X'.A=X.A:=by rw[<- Y];rfl
 have ex':X'.xe=fun _ _=>False:=by rw[<- Y];rfl
 have ec:X'.calm=true:=by rw[<- Y];exact hc
 have eE:X'.env=compEnvC scope (fV scope.names X.env.cells) Z.heap.objs.size X.env:=by rw[<- Y];rfl
 have stat:∀{H':Hp},(∀b∈fp,H' b=none)->∀b∈fp,hV X' [] H' b:=fun hn b O=>by
  rw[<- Y];refine⟨hn b O,qc1 (fl3 b O),fun z=>?_,.inl O,fun x c h=>(f3 b O).2.2.2.2.1 x c (gv hcells h),fun p hp=>absurd hp (by simp[cxC])⟩;rcases qb0.mp (I3.stkSub b z)with q|q
  .exact(f3 b O).2.1 q
  .exact(f3 b O).2.2.1 q
 -- behind the block
 have fin:∀(H':Hp)(s':qa4),Inv X' [] (stC src σ) H' s'->Q (.ref D) H'->ze9 (model X.prog X.w) X.A X.xe none (EP X J1 σ Q) (.ref D) Z.heap.objs.size (.ok .next) s':=by
  intro H' s' J' q;rw[<- Y]at J';obtain⟨m,hn,_⟩:=id J'.loc;refine⟨m,hn,fun h' sb=>⟨.ref D,H',?_,rfl,q⟩⟩;have hC:H' Z.heap.objs.size=none:=J'.free;have un:Un (frs X.stack) fp (upd H2 D (.lst [])) H' Z.heap s'.heap:=J'.base;have kC:∀b o,b≠Z.heap.objs.size->s'.heap.get? b=some o->h'.get? b=some o:=fun b o O e=>sb.extBut b o O e
  have un':Un (frs X.stack) fp (upd H2 D (.lst [])) H' Z.heap h':=
   ⟨fun b o e n O hx=>kC b o (qc1 (qa7 e)) (un.keep b o e n O hx),
    fun b o e n O hx=>by obtain⟨sl,e'⟩:=un.slot b o e n O hx;exact⟨sl,kC b _ (qc1 (qa7 e)) e'⟩,
    un.free,
    fun b o e hx=>by obtain⟨o',e'⟩:=un.there b o e hx;exact⟨o',kC b _ (qc1 (qa7 e)) e'⟩,un.tups,un.frzs,un.tbls,un.cts⟩
  have hok':HOk X.prog X.w H' h':=fun b u e=>by
   have nb:b≠Z.heap.objs.size:=fun z=>by rw[z,hC]at e;cases e
   refine(J'.hok b u e).stay (fun c v hc' q=>kC c v ?_ q) (fun _ q=>q) (fun _ _ q=>q) fun _ _ _ q=>q
   rcases hc' with z|z
   .rw[z];exact nb
   .intro w;rw[w,hC]at z;cases z
  exact I3.call' (s':={s' with heap:=h'}) (show s'.os=Z.os from J'.os) un' hok' J'.bare fun b O=>⟨(f3 b O).2.2.2.1,(f3 b O).2.1,(f3 b O).2.2.2.2.1,(f3 b O).2.2.2.2.2⟩
 have loop:∀s4':qa4,s4'=s4->qq5 (model X.prog X.w) X.A (.compLoop (.ListComp elt [⟨tg,iter,ifs,0⟩] scope pos) 0 (.ref it) (.ref D) X'.env) (ze9 (model X.prog X.w) X.A X.xe none (EP X J1 σ Q) (.ref D) Z.heap.objs.size) s4':=by
  rintro _ rfl;refine iI (fun n s'=>∃i H',Inv X' [] (stC src σ) H' s'/\tn i s'.heap/\(∀b∈fp,H' b=none)/\W i n H') ?_ m0 ⟨0,_,I4,st4,fun b O=>(f3 b O).1,w0⟩;rintro n s5 ⟨i,H5,I5,st5,fr5,w5⟩;rcases turn i n H5 w5 with ⟨stop,qn⟩|⟨go,N,hN,step⟩
  .have:=T.done X' eP eW eK ec i [] s5 (stC src σ) H5 (fun _ _=>False) I5 (stat fr5) st5 stop;rw[eA]at this;refine thn this fun r s6 ⟨hr,I6⟩=>?_
   subst hr;exact fin H5 s6 I6 qn
  .have:=T.item X' eP eW eK ec i [] s5 (stC src σ) H5 (fun _ _=>False) I5 (stat fr5) st5 go;rw[eA]at this;refine thn this fun r s6 ⟨u,hr,h6⟩=>?_
   subst hr;refine thn h6 fun _ s7 ⟨x,H7,I7,r7,y7,st7,fr7⟩=>?_
   have I7':=I7.pinned (stat fr7) (T.obj _ _ st7);have a1:=hg' _ s7 (stC src σ) H7 x u _ I7' r7 (step x H7 y7);rw[ex',eP,eW,eA]at a1;refine thn a1 fun _ s8 ⟨σ8,H8,I8,wk8,q8⟩=>?_
   have a2:=ht' _ s8 σ8 H8 _ I8 q8;rw[ex',eP,eW,eA]at a2;refine thn a2 fun ok s9 ⟨H9,I9,q9⟩=>?_
   have again:∀{H7':Hp}{s':qa4},Inv X' ([]++jc fp s7.heap) σ8 H7' s'->N H7'->∃m,m<n/\∃i H',Inv X' [] (stC src σ) H' s'/\tn i s'.heap/\(∀b∈fp,H' b=none)/\W i m H':=fun {H7' s'} J7 n7=>by obtain⟨m',hm,w7⟩:=hN H7' n7;refine⟨m',hm,i+1,H7',J7.unpinned.weak wk8.1 wk8.2,T.keep _ _ _ st7 fun b O o e=>(J7.pin (b,o) (qc7 _ (qc7 _ (dM O e)))).1,fun b O=>?_,w7⟩;obtain⟨o,e,d⟩:=T.obj _ _ st7 b O;exact(J7.pin (b,o) (qc7 _ (qc7 _ (dM O e)))).2.1
   cases ok with
   |false=>exact again I9 q9
   |true=>
    have a3:=he' _ s9 σ8 H9 _ I9 q9;rw[ex',eP,eW,eA]at a3;refine thn a3 fun v s10 ⟨y,H10,I10,r10,ys,hl,hz,q10⟩=>?_
    have a4:=ji (X:=X') _ s10 σ8 H10 (.ref D) [y] (.ref D) [v] (fun _ H'=>N H') I10 rfl (.cons r10 .nil) ⟨D,ys,y,rfl,rfl,hl,hz,q10⟩;rw[ex',eP,eW,eA]at a4;refine thn a4 fun _ s11 ⟨_,H11,I11,_,q11⟩=>?_
    exact again I11 q11
 have e4:∀c:Env,c=X'.env->qq5 (model X.prog X.w) X.A (.compStart (.ListComp elt [⟨tg,iter,ifs,0⟩] scope pos) 0 (.ref it) (.ref D) c) (ze9 (model X.prog X.w) X.A X.xe none (EP X J1 σ Q) (.ref D) Z.heap.objs.size) s4:=by rintro _ rfl;exact zb9 (loop _ rfl) (T.self _ _ _ _ _ st4 (loop _ rfl))
 exact e4 _ (by rw[eE];rfl)
end
def Its(x:Str):It:=⟨fun i _=>i<x.cps.size,fun i H v H'=>H'=H/\∃c,x.cps[i]?=some c/\v=.str ⟨#[c]⟩,fun i _=>i=x.cps.size⟩
variable{P:qc9}{tg:Jc}
theorem sX(x:Str)(t:Tok)(it:J9):Turn P w K tg (Its x) [it] it (fun i h=>h.IsStrIter it "str_ascii_iterator" x t i) where
 mem:=by simp
 obj:=fun i h st b O=>by
  have e:b=it:=by simpa using O
  subst e;obtain⟨o,e,c,d⟩:=st;exact⟨o,e,fun v z=>by rw[d]at z;cases z⟩
 keep:=fun i h h' st k=>let ⟨o,ho,r⟩:=st;⟨o,k it (by simp) o ho,r⟩
 item:=by
  intro X hP hw hK hc i J1 s σ H E I Z st q;subst hP hw hK;obtain⟨f0,f1,f2,f3,f4,f5⟩:=Z it (by simp);have q:i<x.cps.size:=q;refine wpAny_pyNext_ascii_item st (c:=x.cps[i]) (by simp[q]) fun h' Y sb=>?_
  have I1:Inv X J1 σ H {s with heap:=h',toks:=s.toks+1}:=I.turned (t':=s.toks+1) (fun b o O e=>(sb.2 b O).trans e) f0 f1 f3 f4 f5;obtain⟨o,e,c,d⟩:=id Y;exact⟨_,rfl,lO (s:={s with heap:=h',toks:=s.toks+1}) e c d (by decide) ⟨.str ⟨#[x.cps[i]]⟩,H,I1,⟨_,rfl⟩,⟨rfl,x.cps[i],by simp[q],rfl⟩,Y,fun b O=>(Z b O).1⟩⟩
 done:=by intro X hP hw hK hc i J1 s σ H E I Z st q;subst hP hw hK;have q:i=x.cps.size:=q;obtain⟨f0,f1,f2,f3,f4,f5⟩:=Z it (by simp);exact wpAny_pyNext_ascii_end (I.ok.hd hc) st (by simp[q]) fun h' eb=>⟨rfl,I.turned (t':=s.toks) (fun b o O e=>eb b o O e) f0 f1 f3 f4 f5⟩
 self:=fun _ _ _ _ _ st h=>wpAny_pyIter_striter_ascii st h
theorem sY(x:Str)(t:Tok)(it:J9):Turn P w K tg (Its x) [it] it (fun i h=>h.IsStrIter it "str_iterator" x t i) where
 mem:=by simp
 obj:=fun i h st b O=>by
  have e:b=it:=by simpa using O
  subst e;obtain⟨o,e,c,d⟩:=st;exact⟨o,e,fun v z=>by rw[d]at z;cases z⟩
 keep:=fun i h h' st k=>let ⟨o,ho,r⟩:=st;⟨o,k it (by simp) o ho,r⟩
 item:=by
  intro X hP hw hK hc i J1 s σ H E I Z st q;subst hP hw hK;obtain⟨f0,f1,f2,f3,f4,f5⟩:=Z it (by simp);have q:i<x.cps.size:=q;refine wpAny_pyNext_wide_item st (c:=x.cps[i]) (by simp[q]) fun h' Y sb=>?_
  have I1:Inv X J1 σ H {s with heap:=h',toks:=s.toks+1}:=I.turned (t':=s.toks+1) (fun b o O e=>(sb.2 b O).trans e) f0 f1 f3 f4 f5;obtain⟨o,e,c,d⟩:=id Y;exact⟨_,rfl,lO (s:={s with heap:=h',toks:=s.toks+1}) e c d (by decide) ⟨.str ⟨#[x.cps[i]]⟩,H,I1,⟨_,rfl⟩,⟨rfl,x.cps[i],by simp[q],rfl⟩,Y,fun b O=>(Z b O).1⟩⟩
 done:=by intro X hP hw hK hc i J1 s σ H E I Z st q;subst hP hw hK;have q:i=x.cps.size:=q;obtain⟨f0,f1,f2,f3,f4,f5⟩:=Z it (by simp);exact wpAny_pyNext_wide_end (I.ok.hd hc) st (by simp[q]) fun h' eb=>⟨rfl,I.turned (t':=s.toks) (fun b o O e=>eb b o O e) f0 f1 f3 f4 f5⟩
 self:=fun _ _ _ _ _ st h=>wpAny_pyIter_striter_wide st h
section
variable{X:Cx}{tg:Jc}
def iStr(tl:TE):TI:=fun σ H R=>tl σ H fun v H1=>∃x,v=.str x/\R (Its x) H1
theorem uX{l:Jc}{tl:TE}(hl:PE X l tl):PI X tg l (iStr tl):=by
 intro J1 s σ H R I h;refine thn (hl J1 s σ H _ I h) fun v s1 ⟨y,H1,Y,r1,q1⟩=>?_
 obtain⟨x,e,q⟩:=q1;subst e;obtain⟨t,rfl⟩:=r1
 have O:∀b∈[s1.heap.objs.size],hV X J1 H1 b:=fun b hb=>by
  have e:b=s1.heap.objs.size:=by simpa using hb
  subst e;exact Y.fpOk (nL _) (Y.hok.fresh (nL _))
 cases Z:x.cps.all (· < 128)
 .refine wpAny_pyIter_wide Z ?_;exact⟨s1.heap.objs.size,[s1.heap.objs.size],_,_,H1,rfl,Y.kept (t':=s1.toks) fun b o e=>gP _ e,sY x t _,⟨_,qa8 _ rfl,rfl,rfl⟩,O,q⟩
 .refine wpAny_pyIter_ascii Z ?_;exact⟨s1.heap.objs.size,[s1.heap.objs.size],_,_,H1,rfl,Y.kept (t':=s1.toks) fun b o e=>gP _ e,sX x t _,⟨_,qa8 _ rfl,rfl,rfl⟩,O,q⟩
theorem io:∀{bs:List Bool}{us:List Value},Vals (bs.map V.bl) us->us=bs.map qr6
 |[],_,.nil=>rfl
 |b::r,_,.cons h t=>by have h:_=qr6 b:=h;rw[h,io t];rfl
theorem lX{bs:List Bool}:(qb2 bs.length).map (fun i=>bs.getD i false)=bs:=by
 apply qv3
 .simp
 .intro i h1 h2;simp at h1;simp[h1]
theorem uY(hc:X.calm=true):dh X (.builtin "all") (fun xs H Q=>∃(a:J9)(bs:List Bool),xs=[.ref a]/\SqL X.K H a (bs.map V.bl)/\Q (.bl (bs.all id)) H):=by
 intro J1 s σ H xs us Q I r h;obtain⟨a,bs,rfl,hq,q⟩:=h;obtain⟨u,rfl,ru⟩:=gp r;cases ru;obtain⟨J8,rv,p,hz⟩:=I.list hq;have eu:=io rv;subst eu
 have Y:a≠s.heap.objs.size:=by obtain⟨o,n,e,_⟩:=p;exact qc1 (qa7 e)
 refine call_all_walk (qt8 p.isList ⟨s.heap.objs.size,_,_,_,_,_,fun i=>bs.getD i false,rfl,Walks.list (A:=X.A.in1) (I.ok.hd hc) _ a Y (bs.map qr6).toArray,⟨⟨_,qa8 _ rfl,rfl,rfl⟩,?_⟩,?_,?_⟩)
 .obtain⟨o,ho,hr⟩:=p.isList;exact⟨o,gP _ ho,hr⟩
 .intro i v s' Q' E' O Z;rw[zd7,qb1]at O;cases e:bs[i]? with
  |none=>rw[e]at O;cases O
  |some b=>rw[e]at O;cases O;refine qk7 ?_;dsimp only at Z;rw[qa6,e]at Z;exact Z
 .intro h' tk hk;refine⟨.bl _,H,I.kept (h':=h') (t':=tk) fun b o e=>hk b o (fun z=>?_) (gP _ e),rfl,?_⟩
  .have z:b=s.heap.objs.size:=by simpa using z
   subst z;exact absurd (qa7 e) (ql9 _)
  .have e:(qb2 (bs.map qr6).toArray.size).all (fun i=>bs.getD i false)=bs.all id:=by
    conv=>rhs;rw[<- lX (bs:=bs)]
    rw[List.all_map];simp
   rw[e];exact q
theorem uZ(hc:X.calm=true):dh X (.builtin "any") (fun xs H Q=>∃(a:J9)(bs:List Bool),xs=[.ref a]/\SqL X.K H a (bs.map V.bl)/\Q (.bl (bs.any id)) H):=by
 intro J1 s σ H xs us Q I r h;obtain⟨a,bs,rfl,hq,q⟩:=h;obtain⟨u,rfl,ru⟩:=gp r;cases ru;obtain⟨J8,rv,p,hz⟩:=I.list hq;have eu:=io rv;subst eu
 have Y:a≠s.heap.objs.size:=by obtain⟨o,n,e,_⟩:=p;exact qc1 (qa7 e)
 refine call_any_walk (qt8 p.isList ⟨s.heap.objs.size,_,_,_,_,_,fun i=>bs.getD i false,rfl,Walks.list (A:=X.A.in1) (I.ok.hd hc) _ a Y (bs.map qr6).toArray,⟨⟨_,qa8 _ rfl,rfl,rfl⟩,?_⟩,?_,?_⟩)
 .obtain⟨o,ho,hr⟩:=p.isList;exact⟨o,gP _ ho,hr⟩
 .intro i v s' Q' E' O Z;rw[zd7,qb1]at O;cases e:bs[i]? with
  |none=>rw[e]at O;cases O
  |some b=>rw[e]at O;cases O;refine qk7 ?_;dsimp only at Z;rw[qa6,e]at Z;exact Z
 .intro h' tk hk;refine⟨.bl _,H,I.kept (h':=h') (t':=tk) fun b o e=>hk b o (fun z=>?_) (gP _ e),rfl,?_⟩
  .have z:b=s.heap.objs.size:=by simpa using z
   subst z;exact absurd (qa7 e) (ql9 _)
  .have e:(qb2 (bs.map qr6).toArray.size).any (fun i=>bs.getD i false)=bs.any id:=by
    conv=>rhs;rw[<- lX (bs:=bs)]
    rw[List.any_map];simp
   rw[e];exact q
theorem lY:∀{ts:List Str}{us:List Value},Vals (ts.map V.str) us->∃l,us=strValues l/\l.map (·.1)=ts
 |[],_,.nil=>⟨[],rfl,rfl⟩
 |x::r,_,.cons h t=>by obtain⟨tk,rfl⟩:=h;obtain⟨l,O,q⟩:=lY t;exact⟨(x,tk)::l,by rw[O];rfl,by rw[<- q];rfl⟩
theorem x9:MtR X "str.join" (fun x vs H Q=>∃(a:Str)(l:J9)(ts:List Str),x=.str a/\vs=[.ref l]/\SqL X.K H l (ts.map V.str)/\JoinOk a ts=true/\Q (.str (Txt.join a ts)) H):=by intro J1 s σ H x vs v us Q I rx O h;obtain⟨a,l,ts,rfl,rfl,hq,hj,q⟩:=h;obtain⟨t,rfl⟩:=rx;obtain⟨u,rfl,Y⟩:=O.one;cases Y;obtain⟨J8,r,p,hz⟩:=I.list hq;obtain⟨ls,rfl,Z⟩:=lY r;exact SC.join p.isList Z hj fun t' k=>⟨.str _,H,I.tok _,⟨_,rfl⟩,q⟩
theorem rm{v:Value}{o:Option Int}(h:zi0 v o):∃p:Option (Int×Tok),v=partValue p/\o=p.map (·.1):=by
 cases o with
 |none=>exact⟨none,by cases h<;>rfl,rfl⟩
 |some i=>cases h;exact⟨some (i,_),rfl,rfl⟩
def rSlS:V->Option Int->Option Int->Hp->VK->Prop:=fun x lo hi H Q=>∃z,x=.str z/\z.length<=qb4/\Q (.str (Txt.slice z lo hi)) H
theorem BA:SlR X rSlS:=by intro J1 s σ H x v vl vu lo hi sl Q I rx O Y Z h;obtain⟨z,rfl,hz,q⟩:=h;obtain⟨t,rfl⟩:=rx;obtain⟨l,rfl,rfl⟩:=rm Y;obtain⟨u,rfl,rfl⟩:=rm Z;refine⟨"str",_,F.slot_str_getitem.lookup,typeIs_str _ _ _,?_⟩;exact wpAny_getItem_str_slice (l:=l) (u:=u) (st:=none) O rfl (post_val_or_str ⟨qb9 (Txt.slice_le z _ _) hz,fun t' k=>⟨.str _,H,I.tok _,⟨_,rfl⟩,q⟩⟩)
end
theorem bR:qd7 "len"=some (.builtin "len"):=by first|exact PySem.boot_len|exact PyProof.Rows.boot_len|decide +kernel
theorem BB:qd7 "all"=some (.builtin "all"):=by first|exact PySem.boot_all|exact PyProof.Rows.boot_all|decide +kernel
theorem BC:qd7 "any"=some (.builtin "any"):=by first|exact PySem.boot_any|exact PyProof.Rows.boot_any|decide +kernel
theorem lF:qd7 "isinstance"=some (.builtin "isinstance"):=by first|exact PySem.boot_isinstance|exact PyProof.Rows.boot_isinstance|decide +kernel
theorem pX:qd7 "max"=some (.builtin "max"):=by first|exact PySem.boot_max|exact PyProof.Rows.boot_max|decide +kernel
theorem BD:qd7 "min"=some (.builtin "min"):=by first|exact PySem.boot_min|exact PyProof.Rows.boot_min|decide +kernel
theorem BE:qd7 "int"=some (.type "int"):=by first|exact PySem.boot_int|exact PyProof.Rows.boot_int|decide +kernel
theorem pY:qd7 "str"=some (.type "str"):=by first|exact PySem.boot_str|exact PyProof.Rows.boot_str|decide +kernel
theorem rn:qd7 "bool"=some (.type "bool"):=by first|exact PySem.boot_bool|exact PyProof.Rows.boot_bool|decide +kernel
theorem eT:qd7 "tuple"=some (.type "tuple"):=by first|exact PySem.boot_tuple|exact PyProof.Rows.boot_tuple|decide +kernel
theorem gU:qd7 "list"=some (.type "list"):=by first|exact PySem.boot_list|exact PyProof.Rows.boot_list|decide +kernel
theorem mZ:qd7 "enumerate"=some (.type "enumerate"):=by first|exact PySem.boot_enumerate|exact PyProof.Rows.boot_enumerate|decide +kernel
structure OkF(P:qc9)(w:Ja)(K:xA9)(mg:Str->Option Value)(base:Heap)(x:Str)(k:Nat)(ps:List Str)(sp:Sp):Prop where
 ex:∃f fd,mg x=some (.ref f)/\xF9 K (.ref f)=true/\Binds K fd ps []/\FnOk P w K mg base CX0 k f fd ps sp
structure DefF(K:xA9)(mg:Str->Option Value)(x:Str)(st:Jb)(ps:List Str):Prop where
 ex:∃f fd,mg x=some (.ref f)/\xF9 K (.ref f)=true/\Binds K fd ps []/\Fun K x x st f fd
section
variable{P:qc9}{w:Ja}{K:xA9}{mg:Str->Option Value}{base:Heap}
theorem DefF.ok{k:Nat}(F:DefF K mg x st ps)(S:FnScope N ps (aa st))(len:∀vs H Q E,sp vs H Q E->vs.length=ps.length)
 (q:∀(f:J9)(cdv:Value)(A:qe0)(outer:List Env)(s:qa4)(H:Hp)(vs:List V)(Q:VK)(E:XK),Room k (A.deeper (qz0 x (aa st) s.heap.objs.size f cdv))->sp vs H Q E→
 ∃t,PSs (ko CX0 P w K mg base N x (aa st) f cdv A outer s H E).nox (bh st) t/\t {nx:=fun _ H'=>Q .non H',rt:=Q} (start N vs) H):OkF P w K mg base x (k+1) ps sp:=by
 obtain⟨f,fd,h1,h2,h3,O⟩:=F.ex;exact⟨f,fd,h1,h2,h3,O.ok S len (q f)⟩
theorem DefF.mk'{kV ct:Value}{h:Heap}(X:K.In h)(G:h.Ns qc0 mg)
 (a:xB9 K qc0 x=some (some (.ref f)))
 (l:K.lookup f=some ⟨oc,od,.func (xC9 x x (cB st) (bh st) (aa st) .none kV doc pm an cdv ct),osl⟩) (c:xH9 K cdv x=true) (k:xF9 K (.ref f)=true)
 (q:∀(kV doc pm:Value)(an:Option J9)(cdv ct:Value)(us:List Value),us.length=ps.length->zg6 (xC9 x x (cB st) (bh st) (aa st) .none kV doc pm an cdv ct) ⟨us,[]⟩=pure (ps.zip us)):DefF K mg x st ps:=
 ⟨f,_,xI9 X G a,k,(mX l c k).binds q,mX l c k⟩
end
section
variable{X:Cx}{k:Nat}{ps:List Str}{sp:Sp}{x:Str}{p pos:Pos}{e:Jc}{es:List Jc}{t:TA}
theorem u0 (F:OkF X.prog X.w X.K X.mg X.base x k ps sp) (Z:Room k X.A) (Y:Gl X x) (ha:PA X (e::es) t) (q:(x==("__debug__":Str))=false:=by decide)
  (he:qa9 (e::es) X.env=(false,eval e X.env)::qa9 es X.env:=by rfl) (O:(qj9 pos (qa9 es X.env)).any (·.1)=false:=by rfl):PE X (.Call (.Name x p) (e::es) [] pos) (uI sp [] E0 t):=by
 obtain⟨f,fd,h1,h2,h3,h4⟩:=F.ex;exact xM h4 Z Y h1 h2 h3 .nil D7 ha q he O
end
noncomputable def u1(N:List Str)(outer scope:Jd)(M:List Str)(src:List (Option Nat)):Bool:=
 (match scope.kind with|.function=>true|_=>false)&&
 scope.names.all (fun y=>decide (y.2≠.cell))&&
 scope.names.all (fun y=>!decide (y.2=.free)||(decide (outer.names.lookup y.1=some .cell)||decide (outer.names.lookup y.1=some .free)))&&
 scope.names.all (fun y=>!decide (y.2=.local)||decide (scope.names.lookup y.1=some .local))&&
 scope.names.all (fun y=>!decide (y.2=.free)||decide (scope.names.lookup y.1=some .free))&&
 decide (M.length=src.length)&&decide M.Nodup&&
 (M.zip src).all (fun p=>match p.2 with|none=>true|some j=>decide (N[j]?=some p.1)&&decide ((p.1,qe1)∈scope.names))
variable{src:List (Option Nat)}
theorem CmpScope.of{outer:Jd}{M:List Str}(h:u1 N outer scope M src=true):CmpScope N outer scope M src:=by
 unfold u1 at h;simp only[qb3,qj7,qi4,qj2,decide_eq_true_eq,decide_eq_false_iff_not]at h;obtain⟨⟨⟨⟨⟨⟨⟨h1,h2⟩,h3⟩,h4⟩,h5⟩,h6⟩,Y⟩,Z⟩:=h;refine⟨?_,h2,fun y q e=>(h3 y q).resolve_left fun z=>z e,fun y q e=>(h4 y q).resolve_left fun z=>z e,fun y q e=>(h5 y q).resolve_left fun z=>z e,h6,Y,fun p hp j O=>?_⟩
 .revert h1;cases scope.kind<;>simp
 .have:=Z p hp;cases e:p.2 with
  |none=>rw[e]at O;cases O
  |some j'=>rw[e]at O this;cases O;simpa using this
def Plain(J:It)(xs:List V)(ok:Hp->Prop):Prop:=∀i H,ok H->(i<xs.length->J.go i H)/\(i=xs.length->J.stop i H)/\∀x H',i<xs.length->J.yld i H x H'->H'=H/\xs[i]?=some x
theorem plain_list:Plain (Itl K a) xs (fun H=>SqL K H a xs):=fun i H h=>⟨fun hi=>⟨xs,xs[i],h,by simp[hi]⟩,fun e=>⟨xs,h,by lia⟩,fun x H' _ y=>⟨y.1,y.2 xs h⟩⟩
theorem plain_tup:Plain (Itt K a) xs (fun H=>SqT K H a xs):=fun i H h=>⟨fun hi=>⟨xs,xs[i],h,by simp[hi]⟩,fun e=>⟨xs,h,by lia⟩,fun x H' _ y=>⟨y.1,y.2 xs h⟩⟩
def kx(lo:Int)(n:Nat):List V:=(qb2 n).map fun(i:Nat)=>V.int (lo+i)
theorem plain_range{lo:Int}{n:Nat}:Plain (Itr lo n) (kx lo n) (fun _=>True):=fun i H h=>by
 refine⟨fun hi=>?_,fun e=>?_,fun x H' hi y=>?_⟩
 .show i<n;simpa[kx] using hi
 .show n<=i;simp[kx]at e;lia
 .obtain⟨e,rfl⟩:=y;refine⟨e,?_⟩;unfold kx at hi ⊢;rw[qa1,qn5]at hi;rw[qb1,qr5 hi];rfl
def rp(x:Str):List V:=x.cps.toList.map fun c=>V.str ⟨#[c]⟩
theorem plain_str:Plain (Its x) (rp x) (fun _=>True):=fun i H h=>by
 refine⟨fun hi=>?_,fun e=>?_,fun v H' hi y=>?_⟩
 .show i<x.cps.size;simpa[rp] using hi
 .show i=x.cps.size;simpa[rp] using e
 .obtain⟨e,c,q,rfl⟩:=y;refine⟨e,?_⟩;unfold rp;rw[qb1,qp5,q];rfl
noncomputable def zS(src:List (Option Nat))(g:TG)(tt:TT)(te:TE)(σ:St)(J:It)(H1:Hp)(Q:VK)(D:J9):Prop:=∃W:Nat->Nat->Hp->Prop,(∃m,W 0 m (upd H1 D (.lst [])))/\∀i m H,W i m H→
 (J.stop i H/\Q (.ref D) H)∨(J.go i H/\∃N:Hp->Prop,(∀H',N H'->∃Y,Y<m/\W (i+1) Y H')/\∀x H',J.yld i H x H'→
  g x (stC src σ) H' fun q H2=>Wk (stC src σ) q/\tt q H2 fun b O=>if b=true then te q O fun v Z=>∃ys,Z D=some (.lst ys)/\ys.length<qb4/\N (upd Z D (.lst (ys++[v])))else N O)
variable{wi:TI}{g:TG}{te:TE}
theorem u2{tt:TT}{Q:VK}:ou src wi g tt te σ H Q=wi σ H fun J H1=>∀D,H1 D=none->zS src g tt te σ J H1 Q D:=rfl
noncomputable def ForW(g:TG)(tb:TS)(D:Ends)(J:It)(σ:St)(H1:Hp):Prop:=∃W:Nat->Nat->St->Hp->Prop,(∃m,W 0 m σ H1)/\∀i m σ H,W i m σ H→ (J.stop i H/\D.nx σ H)∨(J.go i H/\∃N:St->Hp->Prop,(∀q H',N q H'->∃Y,Y<m/\W (i+1) Y q H')/\∀x H',J.yld i H x H'->g x σ H' fun O H2=>tb {D with nx:=N,ct:=N,bk:=D.nx} O H2)
theorem ya{tb:TS}{D:Ends}:tFor wi g tb D σ H=wi σ H fun J H1=>ForW g tb D J σ H1:=rfl
variable{v:V}
theorem u3(q:Gl X x)(O:∃u,X.mg x=some u/\RelV v u)(Y:(x==("__debug__":Str))=false:=by decide):PE X (.Name x pos) (tC v):=by obtain⟨u,h1,h2⟩:=O;exact xF q h1 h2 Y
abbrev iJ(qual:Str)(scope:Jd)(L f:J9)(cd:Value)(cl:List (Str×J9)):Env:=PySem.W.envX qual scope L f cd (qg6 (L+1) scope.names []++cl)
noncomputable def oz(CX:CXT)(P:qc9)(w:Ja)(K:xA9)(mg:Str->Option Value)(base:Heap)(N:List Str)(qual:Str)(scope:Jd)(f:J9)(q:Value)(cl:List (Str×J9))(A:qe0)(outer:List Env)(s:qa4)(H:Hp)(E:XK)(xe:Value->qa4->Prop):Cx where
 prog:=P
 w:=w
 K:=K
 mg:=mg
 base:=base
 A:=A.deeper (iJ qual scope s.heap.objs.size f q cl)
 N:=N
 s₀:=s
 H₀:=H
 env:=iJ qual scope s.heap.objs.size f q cl
 outer:=outer
 stack:=iJ qual scope s.heap.objs.size f q cl::outer
 ex:=[]
 calm:=true
 fn:=fun x=>(scope.names.lookup x != some .free)
 pn:=[]
 xe:=xe
structure ClScope(N ps fr:List Str)(sc:Jd):Prop where
 kind:sc.kind=.function
 co:sc.isCoroutine=false
 gen:sc.isGenerator=false
 nd:N.Nodup
 pre:N.take ps.length=ps
 post:N.drop (N.length-fr.length)=fr
 room:ps.length+fr.length<=N.length
 par:∀x∈ps,sc.names.lookup x=some .local∨sc.names.lookup x=some .cell
 frk:∀x∈fr,sc.names.lookup x=some .free
 all:∀x,sc.names.lookup x=some .free->x∈fr
def eU(N:List Str)(vs fs:List V):St:=vs.map some++(qg3 (N.length-vs.length-fs.length) none++fs.map some)
def gd(c:J9)(o:Obj):HO:=.frz o (.ext fun h=>h.get? c=some o)
def da(H:Hp)(cl:List (Str×J9)):Hp:=fun b=>if b∈cl.map (·.2)then none else H b
def fH(H:Hp)(cl:List (Str×J9))(H':Hp):Hp:=fun b=>if b∈cl.map (·.2)then H b else H' b
theorem jj{n:Nat}{sc:Jd}(h:sc.names.lookup x≠some .cell)(nd:∀y∈sc.names,y.1=x->sc.names.lookup x=some y.2):(qg6 n sc.names []).lookup x=none:=by
 have O:∀(names:List (Str×qo9))(n:Nat)(J5:List (Str×J9)),(∀y∈names,y.1=x->y.2≠.cell)->J5.lookup x=none->(qg6 n names J5).lookup x=none:=fun names=>by
  induction names with
  |nil=>intro n J5 _ h;exact h
  |cons y r Z=>
   intro n J5 q ha;obtain⟨a,k⟩:=y;unfold qg6;split
   .rename_i hk;refine Z _ _ (fun z Y=>q z (.tail _ Y)) ?_;rw[qg0];cases hb:x==a with
    |false=>exact ha
    |true=>exact absurd (by simpa using hk) (q (a,k) (.head _) (beq_iff_eq.mp hb).symm)
   .exact Z _ _ (fun z Y=>q z (.tail _ Y)) ha
 exact O sc.names n [] (fun y q e hk=>h (by rw[nd y q e,hk])) rfl
structure ClAt(H:Hp)(f:J9)(name qual:Str)(params:qj0)(body:List Jb)(scope:Jd)(cl:List (Str×J9))(fr:List Str)(fs:List V)(c':J9)(doc pm ctv:Value)(fo:Obj)(uf:HO):Prop where
 fn:H f=some (.frz fo uf)
 dat:fo.data=.func (xG9 name qual params body scope cl .none .none doc pm none (.ref c') ctv)
 cod:∃oc,H c'=some (.frz oc (.code qual))
 cel:∀x c,(x,c)∈cl->∃o u,H c=some (gd c o)/\o.data=.cell (some u)
 inj:∀x y c,cl.lookup x=some c->cl.lookup y=some c->x=y
 len:fs.length=fr.length
 val:∀(i:Nat)(x:Str)(v:V),fr[i]?=some x->fs[i]?=some v->∃c o u,cl.lookup x=some c/\H c=some (gd c o)/\o.data=.cell (some u)/\RelV v u
 nms:∀x c,cl.lookup x=some c->scope.names.lookup x=some .free
variable{b:J9}
section
variable{P:qc9}{w:Ja}{H:Hp}{h:Heap}{cl:List (Str×J9)}
theorem iK(q:b∈cl.map (·.2)):da H cl b=none:=if_pos q
theorem bI(q:b∉cl.map (·.2)):da H cl b=H b:=if_neg q
theorem lZ{o:HO}(h:da H cl b=some o):b∉cl.map (·.2)/\H b=some o:=by
 by_cases q:b∈cl.map (·.2)
 .rw[iK q]at h;cases h
 .rw[bI q]at h;exact⟨q,h⟩
theorem iL(O:b∈cl.map (·.2)):∃x,(x,b)∈cl:=by obtain⟨⟨x,c⟩,q,rfl⟩:=qc5.mp O;exact⟨x,q⟩
theorem HOk.hide(ok:HOk P w H h)(Y:∀x c,(x,c)∈cl->∃o u,H c=some (gd c o)/\o.data=.cell (some u)):HOk P w (da H cl) h:=fun b u e=>by
 obtain⟨hb,e⟩:=lZ e
 have O:∀c o,H c=some o->(∀ob φ,o≠.frz ob (.ext φ))->da H cl c=some o:=fun c o q Z=>by
  rw[bI fun z=>?_]
  .exact q
  .obtain⟨x,hx⟩:=iL z;obtain⟨ob,u,g,_⟩:=Y x c hx;rw[q]at g;exact Z _ _ (qd9 g)
 exact(ok b u e).stay (fun _ _ _ q=>q) (fun c q=>O c _ q fun _ _ z=>nomatch z) (fun c xs q=>O c _ q fun _ _ z=>nomatch z) fun c ob xs q=>O c _ q fun _ _ z=>nomatch z
end
section
variable{CX:CXT}{P:qc9}{w:Ja}{K:xA9}{mg:Str->Option Value}{base:Heap}{N ps fr:List Str}{name qual:Str}{params:qj0}{body:List Jb}{scope:Jd}{f c':J9}{cl:List (Str×J9)}{A:qe0}{outer:List Env}{s s1:qa4}{H:Hp}{E:XK}{us:List Value}{vs fs:List V}{doc pm ctv:Value}{fo:Obj}{uf:HO}{xe:Value->qa4->Prop}
theorem pZ (S:ClScope N ps fr scope) (C:ClAt H f name qual params body scope cl fr fs c' doc pm ctv fo uf) (Z:∀ x,∀ y∈scope.names,y.1=x->scope.names.lookup x=some y.2) (hd:A.handled=none) (e0:Env0 P w K mg base A outer s H) (hl:vs.length=ps.length) (r:Vals vs us)
  (x:zd1 s s.heap.objs.size (bindL (iJ qual scope s.heap.objs.size f (.ref c') cl).kindOf (ps.zip us) fun _=>none) (qg6 (s.heap.objs.size+1) scope.names []) (bindC (iJ qual scope s.heap.objs.size f (.ref c') cl).kindOf (ps.zip us) fun _=>none) s1) :
  Inv (oz CX P w K mg base N qual scope f (.ref c') cl A outer s (da H cl) E xe) [] (eU N vs fs) (da H cl) s1:=by
 obtain⟨h1,tk,rfl,hk⟩:=x.done;have hplen:ps.length<=N.length:=qb9 (Nat.le_add_right _ _) S.room
 have own:∀y c,(qg6 (s.heap.objs.size+1) scope.names []).lookup y=some c->scope.names.lookup y=some .cell:=fun y c h=>by apply qy5;intro hn;rw[jj hn (Z y)]at h;cases h
 have Y:∀y c,cl.lookup y=some c->∃o u,s.heap.get? c=some o/\o.data=.cell (some u)/\c<s.heap.objs.size:=fun y c h=>by obtain⟨o,u,g,d⟩:=C.cel y c (PySem.mem_of_lookup h);have q:=(e0.hok c _ g).1;exact⟨o,u,q,d,qa7 q⟩
 have split:∀y c,(qg6 (s.heap.objs.size+1) scope.names []++cl).lookup y=some c->((qg6 (s.heap.objs.size+1) scope.names []).lookup y=some c/\s.heap.objs.size<c)∨(cl.lookup y=some c/\c<s.heap.objs.size):=fun y c h=>by
  rw[dN]at h;cases q:(qg6 (s.heap.objs.size+1) scope.names []).lookup y with
  |some d=>rw[q]at h;cases h;exact .inl ⟨rfl,x.above y _ (PySem.mem_of_lookup q)⟩
  |none=>rw[q]at h;have h:cl.lookup y=some c:=h;exact .inr ⟨h,let ⟨_,_,_,_,z⟩:=Y y c h;z⟩
 have noA:∀b:J9,b∉(oz CX P w K mg base N qual scope f (.ref c') cl A outer s (da H cl) E xe).ex:=fun b z=>absurd (show b∈([]:List J9)from z) (by simp)
 have hn:∀b,H b=none->da H cl b=none:=fun b h=>by
  by_cases hb:b∈cl.map (·.2)
  .exact iK hb
  .rw[bI hb];exact h
 have htb:∀p∈dA K,da H cl p.1=some (.ctab p.2):=fun p hp=>by
  rw[bI fun z=>?_]
  .exact e0.tb p hp
  .obtain⟨x,hx⟩:=iL z;obtain⟨o,u,g,_⟩:=C.cel x _ hx;rw[e0.tb p hp]at g;cases g
 refine⟨⟨e0.mod,S.kind,rfl,rfl,nL _,fun y z c h1 h2=>?_,fun y O=>?_,fun y c hf h=>?_,fun _=>hd,qe0.frames_deeper e0.frames,.inr ⟨rfl,rfl⟩,fun b z=>absurd z (noA b),fun b o e=>⟨(e0.bs b o e).1,hn b (e0.bs b o e).2⟩,e0.bsz,fun b _ _=>noA b,fun b z=>absurd z (noA b),e0.funs,fun b hb=>hn b (e0.frf b hb),htb⟩,rfl,e0.bare,Un.kept hk,⟨_,x.toInCall.ns,fun i y v h1 h2 h3=>?_⟩,fun y c h=>?_,hn _ (e0.hok.fresh (qt7 _)),fun y c h=>?_,fun p hp=>absurd (show p∈([]:List (J9×Obj))from hp) (by simp),(e0.hok.hide C.cel).kept hk,?_⟩
 .rcases split y c h1 with ⟨g1,l1⟩|⟨g1,l1⟩<;>rcases split z c h2 with ⟨g2,l2⟩|⟨g2,l2⟩
  .exact zh9 x.apart (PySem.mem_of_lookup g1) (PySem.mem_of_lookup g2)
  .exact absurd l2 (Nat.lt_asymm l1)
  .exact absurd l1 (Nat.lt_asymm l2)
  .exact C.inj y z c g1 g2
 .have O:scope.names.lookup y=some .cell∨scope.names.lookup y=some .free:=O;show ∃c,(qg6 (s.heap.objs.size+1) scope.names []++cl).lookup y=some c;rw[dN];rcases O with O|O
  .obtain⟨c,e⟩:=iE (n:=s.heap.objs.size+1) O;exact⟨c,by rw[e];rfl⟩
  .rw[jj (by rw[O];decide) (Z y)];obtain⟨i,hi⟩:=qm8 (S.all y O);have hlt:i<fs.length:=by rw[C.len];exact(gX hi).1
   obtain⟨c,_,_,e,_⟩:=C.val i y fs[i] hi (by simp[hlt]);exact⟨c,e⟩
 .have hf:(scope.names.lookup y != some .free)=true:=hf;rcases split y c h with ⟨_,l1⟩|⟨g1,_⟩
  .exact qi8 l1
  .rw[C.nms y c g1]at hf;simp at hf
 .by_cases hi:i<vs.length
  .have ha:vs[i]?=some v:=by
    unfold eU at h2;rw[qc6 (by simpa using hi),qb1]at h2;cases e:vs[i]? with
    |none=>rw[e]at h2;cases h2
    |some a=>rw[e]at h2;cases h2;rfl
   obtain⟨u,hu,rv⟩:=r.get ha
   have hp:ps[i]?=some y:=by rw[<- S.pre,qz1 (by lia)];exact h1
   have ndP:ps.Nodup:=by rw[<- S.pre];exact S.nd.sublist (qz2 _ _)
   refine⟨u,rv,?_⟩;rcases S.par y (qd3 hp)with k|k
   .exact .inl ⟨k,je ndP hp hu k⟩
   .obtain⟨c,e⟩:=iE (n:=s.heap.objs.size+1) k;refine .inr ⟨.inl k,c,?_,?_⟩
    .show(qg6 (s.heap.objs.size+1) scope.names []++cl).lookup y=some c;rw[dN,e];rfl
    .have q:=x.cell y c e;rw[jf ndP hp hu (by show scope.names.lookup y≠_;rw[k];decide)]at q;exact q
  .unfold eU at h2;rw[qd6 (by simpa using hi)]at h2;rw[qa1]at h2;by_cases hj:i-vs.length<N.length-vs.length-fs.length
   .rw[qc6 (by simpa using hj),qk0]at h2;split at h2<;>cases h2
   .rw[qd6 (by simpa using hj),qm1,qb1]at h2;obtain⟨v',hv,e⟩:=mS h2;cases e;have hroom:=S.room;have hfl:=C.len
    have hfr:fr[i-vs.length-(N.length-vs.length-fs.length)]?=some y:=by rw[<- S.post,List.getElem?_drop];rw[show N.length-fr.length+(i-vs.length-(N.length-vs.length-fs.length))=i by lia];exact h1
    obtain⟨c,o,u,e1,e2,e3,e4⟩:=C.val _ y v hfr hv;refine⟨u,e4,.inr ⟨.inr (C.nms y c e1),c,?_,?_⟩⟩
    .show(qg6 (s.heap.objs.size+1) scope.names []++cl).lookup y=some c;rw[dN,jj (by rw[C.nms y c e1];decide) (Z y),e1];rfl
    .exact⟨o,hk c o (e0.hok c _ e2).1,e3⟩
 .rcases split y c h with ⟨g1,_⟩|⟨g1,_⟩
  .exact⟨_,x.cell y c g1⟩
  .obtain⟨o,u,q,d,_⟩:=Y y c g1;exact⟨_,o,hk c o q,d⟩
 .rcases split y c h with ⟨_,l1⟩|⟨g1,_⟩
  .exact hn _ (e0.hok.fresh (qi8 l1))
  .exact iK (qc5.mpr ⟨(y,c),PySem.mem_of_lookup g1,rfl⟩)
 .unfold eU;show _=N.length;rw[qc4,qc4,qa1,qm1,qa1];have:=S.room;have:=C.len;lia
theorem u4 {k:Nat} {args:Args} {Q:VK} (S:ClScope N ps fr scope) (C:ClAt H f name qual params body scope cl fr fs c' doc pm ctv fo uf) (ndn:∀ x,∀ y∈scope.names,y.1=x->scope.names.lookup x=some y.2) (hr:Room (k+1) A) (e0:Env0 P w K mg base A outer s H)
  (Z:za2 s (xG9 name qual params body scope cl .none .none doc pm none (.ref c') ctv) args (ps.zip us)) (hl:vs.length=ps.length) (r:Vals vs us)
  (hbody:Room k (A.deeper (iJ qual scope s.heap.objs.size f (.ref c') cl))->∃t,PSs (oz CX P w K mg base N qual scope f (.ref c') cl A outer s (da H cl) E fun _ _=>False) body t/\t {nx:=fun _ H'=>(∀b∈cl.map (·.2),H' b=none)->Q .non (fH H cl H'),rt:=fun v H'=>(∀b∈cl.map (·.2),H' b=none)->Q v (fH H cl H')} (eU N vs fs) (da H cl)) :
  qq5 (model P w) A (.call (.ref f) args) (CR CX outer P w H s Q E) s:=by
 have KX:K.In s.heap:=e0.mod.kin.keeps fun b o e=>(e0.bs b o e).1
 have lim:s.heap.NoLimit:=e0.mod.nolimit.keeps fun b o e=>(e0.bs b o e).1
 have hkind:∀y∈ps.zip us,scope.names.lookup y.1=some .local∨(scope.names.lookup y.1=some .cell/\((qg6 (s.heap.objs.size+1) scope.names []).lookup y.1).isSome=true):=fun⟨n,v⟩ hy=>by
  rcases S.par n (qw7 hy).1 with q|q
  .exact .inl q
  .exact .inr ⟨q,xR9 _ _ _ (.inl q)⟩
 refine zd2 hr.depth (e0.hok f _ C.fn).1 C.dat S.co S.gen rfl (let ⟨_,z⟩:=C.cod;(e0.hok c' _ z).2) (Z _ _ _ _ ?_);refine xX S.kind hkind fun env he s1 x=>?_
 subst he;refine⟨lim.keeps x.toInCall.keep,codeAny_func ?_⟩;obtain⟨t,ht,hq⟩:=hbody (hr.deeper _);have I:Inv (oz CX P w K mg base N qual scope f (.ref c') cl A outer s (da H cl) E fun _ _=>False) [] (eU N vs fs) (da H cl) s1:=pZ S C ndn hr.hd e0 hl r x;refine qk6 (ht [] s1 (eU N vs fs) (da H cl) _ I hq) (fun fl s' hs=>?_) fun e s' hs=>hs.elim
 have fin:∀{σ':St}{H':Hp}{v:V}{u:Value},Inv (oz CX P w K mg base N qual scope f (.ref c') cl A outer s (da H cl) E fun _ _=>False) [] σ' H' s'->RelV v u->((∀b∈cl.map (·.2),H' b=none)->Q v (fH H cl H'))->CE outer P w H s Q u s':=fun {σ' H' v u} J rv q=>by
  have cn:∀b,b∈cl.map (·.2)->∃o u,H b=some (gd b o)/\o.data=.cell (some u):=fun b Z=>by obtain⟨x,hx⟩:=iL Z;exact C.cel x b hx
  have kc:∀b o,b∈cl.map (·.2)->s.heap.get? b=some o->s'.heap.get? b=some o/\H' b=none:=fun b o Z q=>by
   obtain⟨o',u,g,d⟩:=cn b Z;have hfs:b∉frs outer:=fun z=>by have:=e0.frf b z;rw[g]at this;cases this
   exact⟨J.base.keep b o q (iK Z) hfs (fun z=>absurd (show b∈([]:List J9)from z) (by simp)),J.base.free b o q (iK Z) (fun z=>absurd (show b∈([]:List J9)from z) (by simp))⟩
  have sin:∀{b:J9},b∈cl.map (·.2)->fH H cl H' b=H b:=fun Z=>if_pos Z
  have Y:∀{b:J9},b∉cl.map (·.2)->fH H cl H' b=H' b:=fun Z=>if_neg Z
  have hnot:∀(b:J9)(o:HO),H b=some o->(∀ob φ,o≠.frz ob (.ext φ))->b∉cl.map (·.2):=fun b o q hno z=>by obtain⟨ob,u,g,_⟩:=cn b z;rw[q]at g;exact hno _ _ (qd9 g)
  have q:=q fun b Z=>by obtain⟨o',u',g,d⟩:=cn b Z;exact(kc b o' Z (e0.hok b _ g).1).2
  refine⟨v,fH H cl H',J.os,J.bare,⟨fun b o q n Z hx=>?_,fun b o q n Z hx=>?_,fun b o q n hx=>?_,fun b o q hx=>?_,fun b xs q=>?_,fun b o u q=>?_,fun b ps q=>?_,fun b qs q=>?_⟩,fun b o q=>?_,rv,q⟩
  .have O:b∉cl.map (·.2):=fun z=>by obtain⟨_,_,g,_⟩:=cn b z;rw[n]at g;cases g
   exact J.base.keep b o q ((bI O).trans n) Z (fun z=>absurd (show b∈([]:List J9)from z) (by simp))
  .have O:b∉cl.map (·.2):=fun z=>by obtain⟨_,_,g,_⟩:=cn b z;rw[n]at g;cases g
   exact J.base.slot b o q ((bI O).trans n) Z (fun z=>absurd (show b∈([]:List J9)from z) (by simp))
  .have O:b∉cl.map (·.2):=fun z=>by obtain⟨_,_,g,_⟩:=cn b z;rw[n]at g;cases g
   rw[Y O];exact J.base.free b o q ((bI O).trans n) (fun z=>absurd (show b∈([]:List J9)from z) (by simp))
  .exact J.base.there b o q (fun z=>absurd (show b∈([]:List J9)from z) (by simp))
  .have O:=hnot b _ q fun _ _ z=>nomatch z
   rw[Y O];exact J.base.tups b xs ((bI O).trans q)
  .by_cases O:b∈cl.map (·.2)
   .rw[sin O];exact q
   .rw[Y O];exact J.base.frzs b o u ((bI O).trans q)
  .have O:=hnot b _ q fun _ _ z=>nomatch z
   rw[Y O];exact J.base.tbls b ps ((bI O).trans q)
  .have O:=hnot b _ q fun _ _ z=>nomatch z
   rw[Y O];exact J.base.cts b qs ((bI O).trans q)
  .by_cases O:b∈cl.map (·.2)
   .rw[sin O]at q;obtain⟨ob,u,g,d⟩:=cn b O;rw[q]at g;cases g;have e1:=(e0.hok b _ q).1;have e2:=(kc b ob O e1).1;exact⟨e2,e2,⟨ob,e2⟩,fun h1 h2 z1 z2=>z2 ob z1⟩
   .rw[Y O]at q
    have up:∀c o,H' c=some o->fH H cl H' c=some o:=fun c o z=>by
     by_cases hcc:c∈cl.map (·.2)
     .obtain⟨ob,u,g,d⟩:=cn c hcc;have e1:=(e0.hok c _ g).1;rw[(kc c ob hcc e1).2]at z;cases z
     .rw[Y hcc];exact z
    exact(J.hok b o q).stay (fun _ _ _ z=>z) (fun c z=>up c _ z) (fun c xs z=>up c _ z) fun c ob xs z=>up c _ z
 cases fl with
 |ret u=>obtain⟨v,σ',H',J,rv,q⟩:=hs;exact fin J rv q
 |next=>obtain⟨σ',H',J,q⟩:=hs;exact fin (v:=V.non) (u:=qh2) J rfl q
 |brk=>obtain⟨_,_,_,q⟩:=hs;exact qg2 q
 |cont=>obtain⟨_,_,_,q⟩:=hs;exact qg2 q
end
structure TabB(mg:Str->Option Value)(base:Heap)(c P:J9):Prop where
 code:xN9 base c P
 bm:∃bm ob,mg "__builtins__"=some (.ref bm)/\bm≠qw3/\base.get? bm=some ob/\ob.cls=.type "module"/\ob.dict=some qw3/\ob.data=.plain
theorem jH:∀{l m:List Value},zc4 l->zc4 m->zc4 (l++m)
 |[],m,_,h=>h
 |.int _ _::.int _ _::_::r,m,h,h'=>jH (l:=r) h h'
theorem l3:∀{l m:List Value},zc4 l->qq6 pos (l++m)=(qq6 pos l).or (qq6 pos m)
 |[],m,_=>by simp[qq6]
 |.int a t::.int b u::c::r,m,h=>by
  have h:zc4 r:=h;show(if _ then _ else qq6 pos (r++m))=Option.or (if _ then _ else qq6 pos r) _;split
  .rfl
  .exact l3 h
structure Made(H H':Hp)(lo:Nat)(f c':J9)(qual:Str)(fo:Obj):Prop where
 fn:H' f=some (.frz fo (.ext fun h=>h.get? f=some fo))
 cod:∃oc,H' c'=some (.frz oc (.code qual))
 old:∀b o,H b=some o->H' b=some o
 new:∀b o,H' b=some o->H b=some o∨(lo<=b/\H b=none)
 lof:lo<=f
section
variable{X:Cx}{J1:List (J9×Obj)}{σ:St}{H:Hp}{s:qa4}{c P:J9}{qs:List ((Nat×Nat)×Str)}{name:Str}{params:qj0}{body:List Jb}{scope:Jd}{clos:List (Str×J9)}{pos:Pos}
theorem yb{Q:Value->qa4->Prop}(I:Inv X J1 σ H s)(B:TabB X.mg X.base c P)(hcode:X.env.code=.ref c)(hP:H P=some (.ctab qs))(hq:((pos.line,pos.col),qual)∈qs)(hun:∀q,((pos.line,pos.col),q)∈qs->q=qual)(hcl:ze8 scope X.env=pure clos)
 (q:∀(f c':J9)(doc pm ctv:Value)(H':Hp)(s':qa4),Made H H' s.heap.objs.size f c' qual {cls:=.type "function",data:=.func (xG9 name qual params body scope clos .none .none doc pm none (.ref c') ctv)}->Inv X J1 σ H' s'->Q (.ref f) s') :
  wpAny (model X.prog X.w) A (makeFunction name qual params (.stmts body) scope X.env [] [] [] pos pos.line) Q E s:=by
 obtain⟨ps,hp,ht,hent⟩:=I.hok P _ hP
 have inB:∀{b:J9}{o:Obj},X.base.get? b=some o->b≠P:=fun {b o} e z=>by have:=(I.bs b o e).2;rw[z,hP]at this;cases this
 have hg:s.heap.Ns qc0 X.mg:=I.mod.glob.keeps I.bk;obtain⟨bm,ob,b1,b2,b3,b4,b5,b6⟩:=B.bm
 have hgP:qc0≠P:=by obtain⟨o,es,ep,e,_⟩:=I.mod.glob;exact inB e
 have hbG:bm≠qc0:=fun z=>by obtain⟨o,es,ep,e,hd,_⟩:=I.mod.glob;rw[z,e]at b3;cases b3;rw[hd]at b6;cases b6
 have hB:s.heap.BuiltinsAt X.mg P:=⟨bm,ob,b1,b2,hbG,inB b3,I.bk _ _ b3,b4,b5,b6⟩;have C:xN9 s.heap c P:=B.code.keeps I.bk;have lt:∀{b:J9}{o:HO},H b=some o->b<s.heap.objs.size:=fun h=>I.hok.lt h
 cases hf:qq6 pos ps.toList with
 |some cv=>
  obtain⟨c',oc,rfl,hc'⟩:=hent pos qual cv hq hf;refine PySem.W.makeFunction_hit hcl I.ok.glob hg hcode C hp ht hf hB fun ctv doc h' tk hk Y=>?_
  have hfr:H h'.objs.size=none:=I.hok.fresh Y
  have I2:=I.laid (a:=h'.objs.size) (o:=.frz {cls:=.type "function",data:=.func (xG9 name qual params body scope clos .none .none doc ((X.mg "__name__").getD .none) none (.ref c') ctv)} (.ext fun h=>h.get? h'.objs.size=some {cls:=.type "function",data:=.func (xG9 name qual params body scope clos .none .none doc ((X.mg "__name__").getD .none) none (.ref c') ctv)})) (t':=tk) (h':=h'.push {cls:=.type "function",data:=.func (xG9 name qual params body scope clos .none .none doc ((X.mg "__name__").getD .none) none (.ref c') ctv)}) (fun b o e=>gP _ (hk b o e)) Y
   ⟨qa8 _ rfl,qa8 _ rfl,⟨_,qa8 _ rfl⟩,fun h1 h2 z1 z2=>z2 _ z1⟩
  refine q _ c' doc _ ctv _ _ ⟨bn,?_,fun b o e=>?_,fun b o e=>?_,Y⟩ I2
  .refine⟨oc,?_⟩;rw[aP (qc1 (qc2 (lt hc') Y))];exact hc'
  .rw[aP (qc1 (qc2 (lt e) Y))];exact e
  .by_cases hb:b=h'.objs.size
   .exact .inr ⟨by rw[hb];exact Y,by rw[hb];exact hfr⟩
   .rw[aP hb]at e;exact .inl e
 |none=>
  refine PySem.W.makeFunction_K hcl I.ok.glob hg hcode C hp ht hf hgP hB fun c' ctv doc h' tk hx Z hlt hrec htb=>?_
  obtain⟨c2,oc,vs,t,e2,hoc,hrec2⟩:=hrec;cases e2;have hfr:H h'.objs.size=none:=I.hok.fresh (qb9 Z (qi8 hlt));have hcr:H c'=none:=I.hok.fresh Z;have hne:c'≠h'.objs.size:=qc1 hlt;generalize hfo:({cls:=.type "function",data:=.func (xG9 name qual params body scope clos .none .none doc ((X.mg "__name__").getD .none) none (.ref c') ctv)}:Obj)=fo;have hfo':(PySem.W.fnMade name qual params body scope clos doc ((X.mg "__name__").getD .none) c' ctv)=fo:=hfo;rw[hfo'];have hfree:fo.isFreed=false:=by rw[<- hfo];rfl
  have gf:(h'.push fo).get? h'.objs.size=some fo:=qa8 _ hfree;let H':Hp:=upd (upd H c' (.frz oc (.code qual))) h'.objs.size (.frz fo (.ext fun h=>h.get? h'.objs.size=some fo))
  have O:∀b o,H b=some o->H' b=some o:=fun b o e=>by show upd (upd H c' (.frz oc (.code qual))) h'.objs.size _ b=some o;rw[aP (fun z=>by rw[z,hfr]at e;cases e),aP (fun z=>by rw[z,hcr]at e;cases e)];exact e
  have hnew:∀b o,H' b=some o->H b=some o∨(s.heap.objs.size<=b/\H b=none):=fun b o e=>by
   by_cases h1:b=h'.objs.size
   .exact .inr ⟨by rw[h1];exact qb9 Z (qi8 hlt),by rw[h1];exact hfr⟩
   .by_cases h2:b=c'
    .exact .inr ⟨by rw[h2];exact Z,by rw[h2];exact hcr⟩
    .have e:upd (upd H c' (.frz oc (.code qual))) h'.objs.size _ b=some o:=e;rw[aP h1,aP h2]at e;exact .inl e
  have kp:∀b o,b≠P->s.heap.get? b=some o->(h'.push fo).get? b=some o:=fun b o hb e=>gP _ (hx b o hb e)
  have hcod:H' c'=some (.frz oc (.code qual)):=by show upd (upd H c' (.frz oc (.code qual))) h'.objs.size _ c'=_;rw[aP hne,bn]
  have un:Un X.fs [] H H' s.heap (h'.push fo):=by
   have nP:∀{b:J9},H b=none->b≠P:=fun {b} n z=>by rw[z,hP]at n;cases n
   refine⟨fun b o e n _ _=>kp b o (nP n) e,fun b o e n _ _=>⟨o.slots,by rw[kp b o (nP n) e]⟩,fun b o e n _=>?_,fun b o e _=>?_,fun b xs e=>O b _ e,fun b o u e=>O b _ e,fun b ps e=>⟨#[],by rw[O b _ e];simp⟩,fun b qs e=>O b _ e⟩
   .cases z:H' b with
    |none=>rfl
    |some w=>
     rcases hnew b w z with y|⟨y,_⟩
     .rw[n]at y;cases y
     .exact absurd (qa7 e) (qz4.mpr y)
   .by_cases hb:b=P
    .rw[hb];exact⟨_,gP _ htb⟩
    .exact⟨o,kp b o hb e⟩
  have hok:HOk X.prog X.w H' (h'.push fo):=fun b o e=>by
   by_cases h1:b=h'.objs.size
   .subst h1;have e:upd (upd H c' (.frz oc (.code qual))) h'.objs.size _ h'.objs.size=some o:=e;rw[bn]at e;cases e;exact⟨gf,gf,⟨_,gf⟩,fun h1 h2 z1 z2=>z2 _ z1⟩
   .by_cases h2:b=c'
    .subst h2;rw[hcod]at e;cases e;exact⟨gP _ hoc,b,oc,vs,t,rfl,gP _ hoc,hrec2⟩
    .have eH:H b=some o:=by have e:upd (upd H c' (.frz oc (.code qual))) h'.objs.size _ b=some o:=e;rw[aP h1,aP h2]at e;exact e
     by_cases h3:b=P
     .subst h3;rw[hP]at eH;cases eH;refine⟨_,gP _ htb,?_,fun pos' q' v h4 h5=>?_⟩
      .rw[qx0];exact jH ht trivial
      .rw[qx0,l3 ht]at h5;cases h6:qq6 pos' ps.toList with
       |some v'=>rw[h6]at h5;cases h5;obtain⟨c2,o2,e1,e2⟩:=hent pos' q' _ h4 h6;exact⟨c2,o2,e1,O _ _ e2⟩
       |none=>
        rw[h6]at h5;have h5:qq6 pos' [qf5 pos.line,qf5 pos.col,.ref c']=some v:=h5;simp only[qf5,qq6]at h5;split at h5
        .rename_i hh;cases h5;refine⟨c',oc,rfl,?_⟩
         have e1:pos'.line=pos.line/\pos'.col=pos.col:=by simp only[qb3,beq_iff_eq]at hh;lia
         rw[e1.1,e1.2]at h4;rw[hun q' h4];exact hcod
        .cases h5
     .refine(I.hok b o eH).stay (fun d u hd z=>kp d u ?_ z) (fun d z=>O d _ z) (fun d xs z=>O d _ z) fun d ob xs z=>O d _ z
      rcases hd with rfl|hd
      .exact h3
      .intro z;rw[z,hP]at hd;cases hd
  exact q _ c' doc _ ctv H' _ ⟨by show upd _ _ _ _=_;rw[bn,<- hfo],⟨oc,hcod⟩,O,hnew,qb9 Z (qi8 hlt)⟩ (I.un (t':=tk) un hok)
end
section
variable{X:Cx}{K:xA9}{tg:Jc}
end
def kz(scope outer:Jd):Jd:={scope with names:=scope.names.map fun(n,k)=>if(k==.free&&outer.kind==.function&&outer.names.lookup n==some .cell)then(n,.cell)else(n,k)}
noncomputable def cS(sc:Jd)(N:List Str)(i:Nat)(x:Str):Bool:=decide (N[i]?=some x)&&(decide (sc.names.lookup x=some .local)||(decide (sc.names.lookup x=some .cell)||decide (sc.names.lookup x=some .free)))&&!(x==("__debug__":Str))&&!(x==("__classdict__":Str))
def iM(sc:Jd)(x:Str):Bool:=decide (sc.names.lookup x=some .local)||decide (sc.names.lookup x=some .cell)
def aC(sc:Jd)(x:Str):Bool:=decide (sc.names.lookup x=some .globalImplicit)&&!(x==("__debug__":Str))&&!decide (x=("__name__":Str))
section
variable{sc:Jd}{N:List Str}{i:Nat}{x:Str}
theorem gx(h:cS sc N i x=true):N[i]?=some x:=by unfold cS at h;simp only[qb3,decide_eq_true_eq]at h;exact h.1.1.1
theorem BF(h:cS sc N i x=true):Vis sc x:=by unfold cS at h;simp only[qb3,qi4,decide_eq_true_eq]at h;exact h.1.1.2
theorem BG(h:cS sc N i x=true):(x==("__debug__":Str))=false:=by unfold cS at h;simp only[qb3,qj2]at h;exact h.1.2
theorem D8(h:cS sc N i x=true):(x==("__classdict__":Str))=false:=by unfold cS at h;simp only[qb3,qj2]at h;exact h.2
theorem jk(h:iM sc x=true):Loc sc x:=by unfold iM at h;simp only[qi4,decide_eq_true_eq]at h;exact h
theorem z141(h:aC sc x=true):sc.names.lookup x=some .globalImplicit:=by unfold aC at h;simp only[qb3,decide_eq_true_eq]at h;exact h.1.1
theorem kA(h:aC sc x=true):(x==("__debug__":Str))=false:=by unfold aC at h;simp only[qb3,qj2]at h;exact h.1.2
theorem BH(h:aC sc x=true):x≠("__name__":Str):=by unfold aC at h;simp only[qb3,qj2,decide_eq_false_iff_not]at h;exact h.2
end
def cH(X:Cx)(sc:Jd):Prop:=X.env.scope=sc
variable{i:Nat}
section
variable{X:Cx}{sc:Jd}{N:List Str}{x:Str}{pos p:Pos}
theorem pvD(i:Nat)(h:cS sc N i x=true)(e1:cH X sc:=by rfl)(q:X.N=N:=by rfl):PE X (.Name x pos) (iC i):=by have e1:X.env.scope=sc:=e1;subst e1 q;exact AZ (gx h) (BF h) (BG h) (D8 h)
theorem glD(h:aC sc x=true)(e1:cH X sc:=by rfl):Gl X x:=by have e1:X.env.scope=sc:=e1;subst e1;exact z141 h
theorem rq{e:Jc}{pos':Pos}(h:cS sc N i x=true)(hl:iM sc x=true)(Y:N.Nodup)(O:PE X e te)(e1:cH X sc:=by rfl)(q:X.N=N:=by rfl)(Z:X.fn x=true∨X.env.scope.names.lookup x=some .local:=by exact .inl rfl)
 (hs:qn0 e (some (.Name x pos')) pos.line X.env=pure false:=by rfl):PS X (.Assign [.Name x pos'] e pos) (xK te (kl i)):=by
 have e1:X.env.scope=sc:=e1;subst e1 q;exact Bd Y (gx h) (jk hl) O hs Z
theorem aK(h:cS sc N i x=true)(Y:iM sc x=true)(Z:N.Nodup)(e1:cH X sc:=by rfl)(O:X.N=N:=by rfl)(q:X.fn x=true∨X.env.scope.names.lookup x=some .local:=by exact .inl rfl):PG X (.Name x pos) (kl i):=by have e1:X.env.scope=sc:=e1;subst e1 O;exact qU Z (gx h) (jk Y) q
def loOk(sc:Jd)(x:Str):Bool:=decide (sc.names.lookup x=some .local)
theorem cC(h:cS sc N i x=true)(q:loOk sc x=true)(Y:X.N.Nodup)(e1:cH X sc)(O:X.N=N:=by rfl):PG X (.Name x pos) (kl i):=by have e1:X.env.scope=sc:=e1;subst e1 O;have q:X.env.scope.names.lookup x=some .local:=of_decide_eq_true q;exact qU Y (gx h) (.inl q) (.inr q)
theorem kE(h:aC sc x=true)(q:∃u,X.mg x=some u/\RelV v u)(e1:cH X sc:=by rfl):PE X (.Name x pos) (tC v):=u3 (glD h e1) q (kA h)
theorem u5{u:Value}(h:aC sc x=true)(q:X.mg x=none)(O:qd7 x=some u)(r:RelV v u)(e1:cH X sc:=by rfl):PE X (.Name x pos) (tC v):=xG (glD h e1) q O r (BH h) (kA h)
variable{e:Jc}{es:List Jc}{t:TA}{id T:String}{r:List V->Hp->VK->Prop}{k:Nat}{ps:List Str}{sp:Sp}
theorem jm (h:aC sc x=true) (hc:dh X (.builtin id) r) (O:X.mg x=none) (hv:qd7 x=some (.builtin id)) (Z:PA X (e::es) t) (e1:cH X sc:=by rfl)
  (Y:qa9 (e::es) X.env=(false,eval e X.env)::qa9 es X.env:=by rfl) (q:(qj9 pos (qa9 es X.env)).any (·.1)=false:=by rfl):PE X (.Call (.Name x p) (e::es) [] pos) (tCB r t):=
 uJ hc (glD h e1) O hv Z (BH h) (kA h) Y q
theorem kF (h:aC sc x=true) (hc:dh X (.type T) r) (O:X.mg x=none) (hv:qd7 x=some (.type T)) (Z:PA X (e::es) t) (e1:cH X sc:=by rfl)
  (Y:qa9 (e::es) X.env=(false,eval e X.env)::qa9 es X.env:=by rfl) (q:(qj9 pos (qa9 es X.env)).any (·.1)=false:=by rfl):PE X (.Call (.Name x p) (e::es) [] pos) (tCB r t):=
 sN hc (glD h e1) O hv Z (BH h) (kA h) Y q
theorem sZ (h:aC sc x=true) (F:OkF X.prog X.w X.K X.mg X.base x k ps sp) (O:Room k X.A) (Y:PA X (e::es) t) (e1:cH X sc:=by rfl)
  (Z:qa9 (e::es) X.env=(false,eval e X.env)::qa9 es X.env:=by rfl) (q:(qj9 pos (qa9 es X.env)).any (·.1)=false:=by rfl):PE X (.Call (.Name x p) (e::es) [] pos) (uI sp [] E0 t):=
 u0 F O (glD h e1) Y (kA h) Z q
variable{tg a b:Jc}{ta:TA}
theorem p5(h:aC sc "range"=true)(O:X.mg "range"=none)(q:PA X [a] ta)(e1:cH X sc:=by rfl)(Y:qa9 [a] X.env=[(false,eval a X.env)]:=by rfl):PI X tg (.Call (.Name "range" p) [a] [] pos) (zL ta):=sE (glD h e1) O q Y
theorem p6 (h:aC sc "range"=true) (Y:X.mg "range"=none) (O:PA X [a,b] ta) (e1:cH X sc:=by rfl) (Z:qa9 [a,b] X.env=[(false,eval a X.env),(false,eval b X.env)]:=by rfl) (q:qa9 [b] X.env=[(false,eval b X.env)]:=by rfl) :
  PI X tg (.Call (.Name "range" p) [a,b] [] pos) (zM ta):=sF (glD h e1) Y O Z q
end
section
variable{X:Cx}{M:List Str}{scope outer:Jd}{C:J9}{s:qa4}{H:Hp}{ex:List J9}{x:Str}{pos p:Pos}
theorem scC(q:cH X outer):cH (cxC X M scope C s H ex) (kz scope outer):=by have q:X.env.scope=outer:=q;subst q;rfl
end
inductive Dt where
 |non|bl (b:Bool)|int (i:Int)|str (x:Str)|tup (l:List Dt)|lst (l:List Dt)|dct (ks:List Key) (l:List Dt)|dcT (ks:List (List Key)) (l:List Dt)
mutual
noncomputable def peq:Dt->Dt->Bool
 |.non,.non=>true
 |.bl a,.bl b=>a==b
 |.bl a,.int j=>(if a then(1:Int)else 0)==j
 |.int i,.bl b=>i==(if b then(1:Int)else 0)
 |.int i,.int j=>i==j
 |.str x,.str y=>x==y
 |.tup l,.tup m=>peqs l m
 |.lst l,.lst m=>peqs l m
 |.dct ks l,.dct js m=>decide (ks=js)&&peqs l m
 |.dcT ks l,.dcT js m=>decide (ks=js)&&peqs l m
 |_,_=>false
noncomputable def peqs:List Dt->List Dt->Bool
 |[],[]=>true
 |d::l,e::m=>peq d e&&peqs l m
 |_,_=>false
end
mutual
theorem iN:∀d:Dt,peq d d=true
 |.non=>by simp[peq]
 |.bl b=>by simp[peq]
 |.int i=>by simp[peq]
 |.str x=>by simp[peq]
 |.tup l=>by simp only[peq];exact peqs_self l
 |.lst l=>by simp only[peq];exact peqs_self l
 |.dct ks l=>by simp only[peq,decide_true,qk3];exact peqs_self l
 |.dcT ks l=>by simp only[peq,decide_true,qk3];exact peqs_self l
theorem peqs_self:∀l:List Dt,peqs l l=true
 |[]=>by simp[peqs]
 |d::l=>by simp only[peqs,iN d,peqs_self l,za5]
end
mutual
noncomputable def hX:Dt->Nat
 |.tup l=>deeps l+1
 |.lst l=>deeps l+1
 |_=>0
noncomputable def deeps:List Dt->Nat
 |[]=>0
 |d::l=>max (hX d) (deeps l)
end
mutual
noncomputable def Rep(K:xA9)(H:Hp):Dt->V->Prop
 |.non,v=>v=.non
 |.bl b,v=>v=.bl b
 |.int i,v=>v=.int i
 |.str x,v=>v=.str x
 |.tup l,v=>∃a vs,v=.ref a/\SqT K H a vs/\Reps K H l vs
 |.lst l,v=>∃a vs,v=.ref a/\SqL K H a vs/\Reps K H l vs
 |.dct ks l,v=>∃a J6,v=.ref a/\Rd H a (.dK J6)/\J6.map (·.1)=ks/\Reps K H l (J6.map (·.2))
 |.dcT ks l,v=>∃a J6,v=.ref a/\Rd H a (.dT J6)/\J6.map (·.1)=ks/\Reps K H l (J6.map (·.2))
noncomputable def Reps(K:xA9)(H:Hp):List Dt->List V->Prop
 |[],vs=>vs=[]
 |d::l,vs=>∃v ws,vs=v::ws/\Rep K H d v/\Reps K H l ws
end
theorem Same.tup(e:Same H H')(h:SqT K H a xs):SqT K H' a xs:=by
 rcases h with h|h
 .exact .inl (e _ _ h)
 .exact .inr h
theorem Same.rd{u:HO}(e:Same H H')(h:Rd H a u):Rd H' a u:=by
 rcases h with h|⟨o,h⟩
 .exact .inl (e _ _ h)
 .exact .inr ⟨o,e _ _ h⟩
mutual
theorem Rep.same{K:xA9}{H H':Hp}(e:Same H H'):∀{d:Dt}{v:V},Rep K H d v->Rep K H' d v
 |.non,v,h=>h
 |.bl _,v,h=>h
 |.int _,v,h=>h
 |.str _,v,h=>h
 |.tup l,v,h=>by unfold Rep at h ⊢;obtain⟨a,vs,h1,h2,h3⟩:=h;exact⟨a,vs,h1,e.tup h2,Reps.same e h3⟩
 |.lst l,v,h=>by unfold Rep at h ⊢;obtain⟨a,vs,h1,h2,h3⟩:=h;exact⟨a,vs,h1,e.seq h2,Reps.same e h3⟩
 |.dct ks l,v,h=>by unfold Rep at h ⊢;obtain⟨a,vs,h1,h2,h3,h4⟩:=h;exact⟨a,vs,h1,e.rd h2,h3,Reps.same e h4⟩
 |.dcT ks l,v,h=>by unfold Rep at h ⊢;obtain⟨a,vs,h1,h2,h3,h4⟩:=h;exact⟨a,vs,h1,e.rd h2,h3,Reps.same e h4⟩
theorem Reps.same{K:xA9}{H H':Hp}(e:Same H H'):∀{l:List Dt}{vs:List V},Reps K H l vs->Reps K H' l vs
 |[],vs,h=>h
 |d::l,vs,h=>by unfold Reps at h ⊢;obtain⟨v,ws,h1,h2,h3⟩:=h;exact⟨v,ws,h1,Rep.same e h2,Reps.same e h3⟩
end
theorem Reps.length:∀{l:List Dt}{vs:List V},Reps K H l vs->vs.length=l.length
 |[],vs,h=>by unfold Reps at h;rw[h];rfl
 |d::l,vs,h=>by unfold Reps at h;obtain⟨v,q,rfl,_,h3⟩:=h;simp[Reps.length h3]
theorem Reps.get:∀{l:List Dt}{vs:List V}{i:Nat}{d:Dt},Reps K H l vs->l[i]?=some d->∃v,vs[i]?=some v/\Rep K H d v
 |[],vs,i,d,h,e=>by simp at e
 |d0::l,vs,0,d,h,e=>by unfold Reps at h;obtain⟨v,q,rfl,h2,_⟩:=h;simp at e;subst e;exact⟨v,rfl,h2⟩
 |d0::l,vs,i+1,d,h,e=>by unfold Reps at h;obtain⟨v,q,rfl,_,h3⟩:=h;obtain⟨u,Y,O⟩:=Reps.get (i:=i) h3 (by simpa using e);exact⟨u,by simpa using Y,O⟩
theorem Reps.append:∀{l m:List Dt}{vs q:List V},Reps K H l vs->Reps K H m q->Reps K H (l++m) (vs++q)
 |[],m,vs,q,h,h'=>by unfold Reps at h;rw[h];exact h'
 |d::l,m,vs,q,h,h'=>by unfold Reps at h;obtain⟨v,us,rfl,h2,h3⟩:=h;show Reps K H (d::(l++m)) (v::(us++q));unfold Reps;exact⟨v,_,rfl,h2,Reps.append h3 h'⟩
theorem Reps.one{d:Dt}(h:Rep K H d v):Reps K H [d] [v]:=by unfold Reps;exact⟨v,[],rfl,h,by unfold Reps;rfl⟩
theorem Reps.take:∀{l:List Dt}{vs:List V}(n:Nat),Reps K H l vs->Reps K H (l.take n) (vs.take n)
 |_,_,0,_=>by simp[Reps]
 |[],vs,n+1,h=>by unfold Reps at h;rw[h];simp[Reps]
 |d::l,vs,n+1,h=>by unfold Reps at h;obtain⟨v,us,rfl,h2,h3⟩:=h;show Reps K H (d::l.take n) (v::us.take n);unfold Reps;exact⟨v,_,rfl,h2,Reps.take n h3⟩
theorem Reps.drop:∀{l:List Dt}{vs:List V}(n:Nat),Reps K H l vs->Reps K H (l.drop n) (vs.drop n)
 |_,_,0,h=>h
 |[],vs,n+1,h=>by unfold Reps at h;rw[h];simp[Reps]
 |d::l,vs,n+1,h=>by unfold Reps at h;obtain⟨v,us,rfl,h2,h3⟩:=h;exact Reps.drop n h3
variable{u:List (Key×V)}
section
variable{X:Cx}{J1:List (J9×Obj)}{σ:St}{H:Hp}{s:qa4}{K:xA9}
theorem Inv.notBoth{ys:List V}(I:Inv X J1 σ H s)(h:SqL X.K H a xs)(h':SqT X.K H a ys):False:=by obtain⟨J8,r,Y,_⟩:=I.list h;obtain⟨its',r',pt,_⟩:=I.tuple h';obtain⟨o,n,e,Z,_⟩:=Y;obtain⟨o',O,q,_⟩:=pt;rw[e]at O;cases O;rw[Z]at q;injection q with z;exact absurd z (by decide)
theorem D9{w:List (Key×V)}(h:Rd H a (.dK u))(h':Rd H a (.dK w)):u=w:=by rcases h with h|⟨o,h⟩<;>rcases h' with h'|⟨o',h'⟩<;>rw[h]at h'<;>cases h'<;>rfl
theorem Ea{u w:List (List Key×V)}(h:Rd H a (.dT u))(h':Rd H a (.dT w)):u=w:=by rcases h with h|⟨o,h⟩<;>rcases h' with h'|⟨o',h'⟩<;>rw[h]at h'<;>cases h'<;>rfl
theorem j0{u:HO}(h:Rd H a u):∃o,H a=some o:=by
 rcases h with h|⟨o,h⟩
 .exact⟨_,h⟩
 .exact⟨_,h⟩
theorem Inv.kNone(I:Inv X J1 σ H s){o:Obj}(h:X.K.lookup a=some o):H a=none:=(I.bs a o (I.ok.mod.kin a o h)).2
theorem Inv.sqT_dK(I:Inv X J1 σ H s)(h:SqT X.K H a xs)(h':Rd H a (.dK u)):False:=by
 rcases h with h|⟨o,_,_,h,_⟩
 .rcases h' with h'|⟨o',h'⟩<;>rw[h]at h'<;>cases h'
 .obtain⟨o',e⟩:=j0 h';rw[I.kNone h]at e;cases e
theorem Inv.sqT_dT(I:Inv X J1 σ H s){u:List (List Key×V)}(h:SqT X.K H a xs)(h':Rd H a (.dT u)):False:=by
 rcases h with h|⟨o,_,_,h,_⟩
 .rcases h' with h'|⟨o',h'⟩<;>rw[h]at h'<;>cases h'
 .obtain⟨o',e⟩:=j0 h';rw[I.kNone h]at e;cases e
theorem Inv.sqL_dK(I:Inv X J1 σ H s)(h:SqL X.K H a xs)(h':Rd H a (.dK u)):False:=by
 rcases h with h|⟨o,_,_,h,_⟩
 .rcases h with h|⟨o,h⟩<;>rcases h' with h'|⟨o',h'⟩<;>rw[h]at h'<;>cases h'
 .obtain⟨o',e⟩:=j0 h';rw[I.kNone h]at e;cases e
theorem Inv.sqL_dT(I:Inv X J1 σ H s){u:List (List Key×V)}(h:SqL X.K H a xs)(h':Rd H a (.dT u)):False:=by
 rcases h with h|⟨o,_,_,h,_⟩
 .rcases h with h|⟨o,h⟩<;>rcases h' with h'|⟨o',h'⟩<;>rw[h]at h'<;>cases h'
 .obtain⟨o',e⟩:=j0 h';rw[I.kNone h]at e;cases e
theorem u6{w:List (List Key×V)}(h:Rd H a (.dK u))(h':Rd H a (.dT w)):False:=by rcases h with h|⟨o,h⟩<;>rcases h' with h'|⟨o',h'⟩<;>rw[h]at h'<;>cases h'
def di:Dt->Nat
 |.non=>0
 |.bl _=>1
 |.int _=>2
 |.str _=>3
 |.tup _=>4
 |.lst _=>5
 |.dct _ _=>6
 |.dcT _ _=>7
theorem dX(I:Inv X J1 σ H s){d e:Dt}(h:Rep X.K H d v)(h':Rep X.K H e v):di d=di e:=by
 cases d<;>cases e<;>first
  |rfl
  |(simp only[Rep]at h h';subst h;cases h';done)
  |(simp only[Rep]at h h';obtain⟨_,_,e,_⟩:=h';rw[h]at e;cases e;done)
  |(simp only[Rep]at h h';obtain⟨_,_,e,_⟩:=h;rw[h']at e;cases e;done)
  | (simp only[Rep]at h h';obtain⟨_,_,rfl,h2,_⟩:=h;obtain⟨_,_,e,q,_⟩:=h';cases e
     first
      |exact(I.sqT_dK h2 q).elim
      |exact(I.sqT_dK q h2).elim
      |exact(I.sqT_dT h2 q).elim
      |exact(I.sqT_dT q h2).elim
      |exact(I.notBoth h2 q).elim
      |exact(I.notBoth q h2).elim
      |exact(I.sqL_dK h2 q).elim
      |exact(I.sqL_dK q h2).elim
      |exact(I.sqL_dT h2 q).elim
      |exact(I.sqL_dT q h2).elim
      |exact(u6 h2 q).elim
      |exact(u6 q h2).elim)
mutual
theorem m6(I:Inv X J1 σ H s):∀(d e:Dt)(v:V),Rep X.K H d v->Rep X.K H e v->peq d e=true:=fun d=>by
 match d with
 |.tup l=>
  intro e v h h';have hk:=dX I h h';cases e<;>first|(simp[di]at hk;done)|skip
  simp only[Rep]at h h';obtain⟨a,vs,rfl,h2,h3⟩:=h;obtain⟨b,ws,e,h2',h3'⟩:=h';cases e;have:=I.tuple_inj h2 h2';subst this;simp only[peq];exact reps_inj I l _ _ h3 h3'
 |.lst l=>
  intro e v h h';have hk:=dX I h h';cases e<;>first|(simp[di]at hk;done)|skip
  simp only[Rep]at h h';obtain⟨a,vs,rfl,h2,h3⟩:=h;obtain⟨b,ws,e,h2',h3'⟩:=h';cases e;have:=I.list_inj h2 h2';subst this;simp only[peq];exact reps_inj I l _ _ h3 h3'
 |.dct ks l=>
  intro e v h h';have hk:=dX I h h';cases e<;>first|(simp[di]at hk;done)|skip
  simp only[Rep]at h h';obtain⟨a,vs,rfl,h2,h3,h4⟩:=h;obtain⟨b,ws,e,h2',h3',h4'⟩:=h';cases e;have:=D9 h2 h2';subst this;subst h3 h3';simp only[peq,decide_true,qk3];exact reps_inj I l _ _ h4 h4'
 |.dcT ks l=>
  intro e v h h';have hk:=dX I h h';cases e<;>first|(simp[di]at hk;done)|skip
  simp only[Rep]at h h';obtain⟨a,vs,rfl,h2,h3,h4⟩:=h;obtain⟨b,ws,e,h2',h3',h4'⟩:=h';cases e;have:=Ea h2 h2';subst this;subst h3 h3';simp only[peq,decide_true,qk3];exact reps_inj I l _ _ h4 h4'
 |.non=>intro e v h h';have hk:=dX I h h';cases e<;>first|(simp[di]at hk;done)|simp only[peq]
 |.bl b=>intro e v h h';have hk:=dX I h h';cases e<;>first|(simp[di]at hk;done)|(simp only[Rep]at h h';rw[h]at h';cases h';exact iN _)
 |.int b=>intro e v h h';have hk:=dX I h h';cases e<;>first|(simp[di]at hk;done)|(simp only[Rep]at h h';rw[h]at h';cases h';exact iN _)
 |.str b=>intro e v h h';have hk:=dX I h h';cases e<;>first|(simp[di]at hk;done)|(simp only[Rep]at h h';rw[h]at h';cases h';exact iN _)
theorem reps_inj(I:Inv X J1 σ H s):∀(l m:List Dt)(vs:List V),Reps X.K H l vs->Reps X.K H m vs->peqs l m=true:=fun l=>by
 match l with
 |[]=>
  intro m vs h h';cases m with
  |nil=>simp only[peqs]
  |cons e m=>unfold Reps at h h';obtain⟨v,ws,e,_⟩:=h';rw[h]at e;cases e
 |d::l=>
  intro m vs h h';cases m with
  |nil=>unfold Reps at h h';obtain⟨v,ws,e,_⟩:=h;rw[h']at e;cases e
  |cons e m=>unfold Reps at h h';obtain⟨v,ws,rfl,h2,h3⟩:=h;obtain⟨v',ws',e',h2',h3'⟩:=h';cases e';simp only[peqs,m6 I d _ _ h2 h2',reps_inj I l _ _ h3 h3',za5]
end
end
end L2
namespace L2
open PySem PySem.Spec PyProof.Rows
mutual
noncomputable def fA:Dt->Dt->Bool
 |.tup l,.tup m=>cmpbs l m
 |.lst l,.lst m=>cmpbs l m
 |d,e=>decide (di d<4)&&decide (di e<4)
noncomputable def cmpbs:List Dt->List Dt->Bool
 |d::l,e::m=>fA d e&&cmpbs l m
 |_,_=>true
end
theorem fI:∀{l m:List Dt}{j:Nat}{d e:Dt},cmpbs l m=true->l[j]?=some d->m[j]?=some e->fA d e=true
 |[],_,j,d,e,_,h,_=>by simp at h
 |_::_,[],j,d,e,_,_,h=>by simp at h
 |d0::l,e0::m,0,d,e,h,h1,h2=>by simp only[cmpbs,qb3]at h;simp at h1 h2;subst h1 h2;exact h.1
 |d0::l,e0::m,j+1,d,e,h,h1,h2=>by simp only[cmpbs,qb3]at h;exact fI (j:=j) h.2 (by simpa using h1) (by simpa using h2)
theorem gy:∀{l:List Dt}{j:Nat}{d:Dt},l[j]?=some d->hX d<=deeps l
 |[],j,d,h=>by simp at h
 |d0::l,0,d,h=>by simp at h;subst h;simp only[deeps];exact Nat.le_max_left ..
 |d0::l,j+1,d,h=>by simp only[deeps];exact qb9 (gy (j:=j) (by simpa using h)) (Nat.le_max_right ..)
def dj(l m:List Dt)(j:Nat):Bool:=peq (l.getD j .non) (m.getD j .non)
theorem eV:∀(l m:List Dt),peqs l m=((qb2 (min l.length m.length)).all (dj l m)&&l.length==m.length)
 |[],[]=>by simp[peqs]
 |[],_::_=>by simp[peqs]
 |_::_,[]=>by simp[peqs]
 |d::l,e::m=>by
  have Z:=eV l m;simp only[peqs,Z,qf4];rw[show min (l.length+1) (m.length+1)=min l.length m.length+1 by lia,zc0,qk1,List.all_map];have Y:dj (d::l) (e::m) 0=peq d e:=rfl
  have q:(dj (d::l) (e::m) ∘ Nat.succ)=dj l m:=by funext j;rfl
  have O:(l.length+1==m.length+1)=(l.length==m.length):=by rw[qi2];simp
  rw[Y,q,O,Bool.and_assoc]
variable{K:xA9}
section
variable{X:Cx}{J1:List (J9×Obj)}{σ:St}{H:Hp}{s:qa4}
theorem dw{l:List Dt}{vs:List V}{J8:List Value}(h:Reps X.K H l vs)(r:Vals vs J8){j:Nat}(q:j<J8.length):∃d v,l[j]?=some d/\Rep X.K H d v/\RelV v J8[j]:=by
 have Y:j<l.length:=by rw[<- h.length,r.length];exact q
 obtain⟨v,e1,Z⟩:=h.get (i:=j) (d:=l[j]) (by simp[Y]);obtain⟨u,O,e4⟩:=r.get e1
 have:J8[j]=u:=by have:=gQ q;rw[this]at O;exact qd9 O
 exact⟨l[j],v,by simp[Y],Z,by rw[this];exact e4⟩
theorem zT(I:Inv X J1 σ H s):∀(n:Nat){A:qe0}{d e:Dt}{v w:V}{u u':Value},hX d<=n->A.units+n<cLine->fA d e=true->Rep X.K H d v->Rep X.K H e w->RelV v u->RelV w u'->qg1 A s u u' (peq d e):=by
 intro n;induction n with
 |zero=>
  intro A d e v w u u' hd hu Y h h' r r'
  cases d<;>cases e<;>first
   |(simp only[Rep]at h h';subst h h';exact jh r r' rfl rfl)
   |(simp only[hX]at hd;lia)
   |(simp[fA,di]at Y)
 |succ n ih=>
  intro A d e v w u u' hd hu Y h h' r r';cases d with
  |tup l=>
   cases e with
   |tup m=>
    have h0:=h;have h0':=h';simp only[Rep]at h h';obtain⟨a,vs,rfl,h2,h3⟩:=h;obtain⟨b,ws,rfl,q,h3'⟩:=h';cases r;cases r';by_cases Z:a=b
    .subst Z;have:=m6 I _ _ _ h0 h0';rw[this];exact zd4 _
    obtain⟨J8,rv,pt,_⟩:=I.tuple h2;obtain⟨its',rv',pt',_⟩:=I.tuple q;have n1:J8.length=l.length:=by rw[<- h3.length,rv.length]
    have n2:its'.length=m.length:=by rw[<- h3'.length,rv'.length]
    simp only[peq];rw[eV,<- n1,<- n2];simp only[hX]at hd;simp only[fA]at Y
    have key:=qz5.tuples (A:=A) (e:=dj l m) pt pt' (by lia) (fun j h1 h2=>by
     have h1':j<J8.length:=by simpa using h1
     have q:j<its'.length:=by simpa using h2
     obtain⟨d,v,g1,g2,g3⟩:=dw h3 rv h1';obtain⟨e,w,g1',g2',g3'⟩:=dw h3' rv' q;have:dj l m j=peq d e:=by unfold dj;rw[qa6,qa6,g1,g1'];rfl
     rw[this];have:=ih (A:=A.in1) (qb9 (gy g1) (by lia)) (show A.units+1+n<cLine by lia) (fI Y g1 g1') g2 g2' g3 g3';simpa using this)
    have key':qz5 A s (.ref a) (.ref b) ((qb2 (min J8.length its'.length)).all (dj l m)&&J8.length==its'.length):=by simpa using key
    exact qy2 Z key'
   |_=>exact absurd Y (by simp[fA,di])
  |lst l=>
   cases e with
   |lst m=>
    have h0:=h;have h0':=h';simp only[Rep]at h h';obtain⟨a,vs,rfl,h2,h3⟩:=h;obtain⟨b,ws,rfl,q,h3'⟩:=h';cases r;cases r';by_cases Z:a=b
    .subst Z;have:=m6 I _ _ _ h0 h0';rw[this];exact zd4 _
    obtain⟨J8,rv,pt,_⟩:=I.list h2;obtain⟨its',rv',pt',_⟩:=I.list q;have n1:J8.length=l.length:=by rw[<- h3.length,rv.length]
    have n2:its'.length=m.length:=by rw[<- h3'.length,rv'.length]
    simp only[peq];rw[eV,<- n1,<- n2];simp only[hX]at hd;simp only[fA]at Y;by_cases O:J8.length=its'.length
    .have key:=qz5.lists (A:=A) (e:=dj l m) pt.isList pt'.isList (by simpa using O) (by lia) (fun j h1 h2=>by
      have h1':j<J8.length:=by simpa using h1
      have q:j<its'.length:=by simpa using h2
      obtain⟨d,v,g1,g2,g3⟩:=dw h3 rv h1';obtain⟨e,w,g1',g2',g3'⟩:=dw h3' rv' q;have:dj l m j=peq d e:=by unfold dj;rw[qa6,qa6,g1,g1'];rfl
      rw[this];have:=ih (A:=A.in1) (qb9 (gy g1) (by lia)) (show A.units+1+n<cLine by lia) (fI Y g1 g1') g2 g2' g3 g3';simpa using this)
     have e1:(J8.length==its'.length)=true:=by simpa using O
     rw[e1,qs6,show min J8.length its'.length=J8.length by lia];exact qy2 Z (by simpa using key)
    .have e1:(J8.length==its'.length)=false:=by simpa using O
     rw[e1,qu3];exact qy2 Z (qz6 pt.isList pt'.isList (by simpa using O) (by lia))
   |_=>exact absurd Y (by simp[fA,di])
  |non=>cases e<;>first|(simp only[Rep]at h h';subst h h';exact jh r r' rfl rfl)|(simp[fA,di]at Y)
  |bl b=>cases e<;>first|(simp only[Rep]at h h';subst h h';exact jh r r' rfl rfl)|(simp[fA,di]at Y)
  |int b=>cases e<;>first|(simp only[Rep]at h h';subst h h';exact jh r r' rfl rfl)|(simp[fA,di]at Y)
  |str b=>cases e<;>first|(simp only[Rep]at h h';subst h h';exact jh r r' rfl rfl)|(simp[fA,di]at Y)
  |dct ks l=>cases e<;>(simp[fA,di]at Y)
  |dcT ks l=>cases e<;>(simp[fA,di]at Y)
theorem zU (I:Inv X J1 σ H s) {A:qe0} {d e:Dt} {v w:V} {u u':Value} (hq:(∃ l m,d=.tup l/\e=.tup m)∨∃ l m,d=.lst l/\e=.lst m) (hu:A.units+hX d<cLine) (hc:fA d e=true) (h:Rep X.K H d v) (h':Rep X.K H e w) (r:RelV v u) (r':RelV w u') :
  qz5 A s u u' (peq d e)/\zd8 A s u u' (!peq d e):=by
 rcases hq with ⟨l,m,rfl,rfl⟩|⟨l,m,rfl,rfl⟩
 .simp only[Rep]at h h';obtain⟨a,vs,rfl,h2,h3⟩:=h;obtain⟨b,ws,rfl,O,h3'⟩:=h';cases r;cases r';obtain⟨J8,rv,pt,_⟩:=I.tuple h2;obtain⟨its',rv',Y,_⟩:=I.tuple O;have n1:J8.length=l.length:=by rw[<- h3.length,rv.length]
  have n2:its'.length=m.length:=by rw[<- h3'.length,rv'.length]
  simp only[peq];rw[eV,<- n1,<- n2];simp only[hX]at hu;simp only[fA]at hc
  have he:∀j (h1:j<J8.toArray.size)(h2:j<its'.toArray.size),qg1 A.in1 s J8.toArray[j] its'.toArray[j] (dj l m j):=fun j h1 h2=>by
   have h1':j<J8.length:=by simpa using h1
   have O:j<its'.length:=by simpa using h2
   obtain⟨d,v,g1,g2,g3⟩:=dw h3 rv h1';obtain⟨e,w,Z,g2',g3'⟩:=dw h3' rv' O;have:dj l m j=peq d e:=by unfold dj;rw[qa6,qa6,g1,Z];rfl
   rw[this];have:=zT I (deeps l) (A:=A.in1) (gy g1) (show A.units+1+deeps l<cLine by lia) (fI hc g1 Z) g2 g2' g3 g3';simpa using this
  exact⟨by simpa using qz5.tuples (A:=A) (e:=dj l m) pt Y (by lia) he,by simpa using zd8.tuples (A:=A) (e:=dj l m) pt Y (by lia) he⟩
 .simp only[Rep]at h h';obtain⟨a,vs,rfl,h2,h3⟩:=h;obtain⟨b,ws,rfl,O,h3'⟩:=h';cases r;cases r';obtain⟨J8,rv,pt,_⟩:=I.list h2;obtain⟨its',rv',Y,_⟩:=I.list O;have n1:J8.length=l.length:=by rw[<- h3.length,rv.length]
  have n2:its'.length=m.length:=by rw[<- h3'.length,rv'.length]
  simp only[peq];rw[eV,<- n1,<- n2];simp only[hX]at hu;simp only[fA]at hc;by_cases q:J8.length=its'.length
  .have he:∀j (h1:j<J8.toArray.size)(h2:j<its'.toArray.size),qg1 A.in1 s J8.toArray[j] its'.toArray[j] (dj l m j):=fun j h1 h2=>by
    have h1':j<J8.length:=by simpa using h1
    have O:j<its'.length:=by simpa using h2
    obtain⟨d,v,g1,g2,g3⟩:=dw h3 rv h1';obtain⟨e,w,Z,g2',g3'⟩:=dw h3' rv' O;have:dj l m j=peq d e:=by unfold dj;rw[qa6,qa6,g1,Z];rfl
    rw[this];have:=zT I (deeps l) (A:=A.in1) (gy g1) (show A.units+1+deeps l<cLine by lia) (fI hc g1 Z) g2 g2' g3 g3';simpa using this
   have e1:(J8.length==its'.length)=true:=by simpa using q
   rw[e1,qs6,show min J8.length its'.length=J8.length by lia];exact⟨by simpa using qz5.lists (A:=A) (e:=dj l m) pt.isList Y.isList (by simpa using q) (by lia) he,by simpa using zd8.lists (A:=A) (e:=dj l m) pt.isList Y.isList (by simpa using q) (by lia) he⟩
  .have e1:(J8.length==its'.length)=false:=by simpa using q
   rw[e1,qu3];exact⟨qz6 pt.isList Y.isList (by simpa using q) (by lia),zd8.lists_lengths pt.isList Y.isList (by simpa using q) (by lia)⟩
noncomputable def yc(K:xA9)(neg:Bool):R2:=fun x y H Q=>∃d e,((∃l m,d=.tup l/\e=.tup m)∨∃l m,d=.lst l/\e=.lst m)/\Rep K H d x/\Rep K H e y/\fA d e=true/\hX d<=60/\Q (.bl (if neg then !peq d e else peq d e)) H
theorem BJ{k:Nat}(O:Room k X.A)(Z:X.K=K):OpR X (qg5 .Eq) (yc K false):=by subst Z;intro J1 s σ H x y v u Q I rx ry h;obtain⟨d,e,hq,Y,he,hc,hdp,q⟩:=h;have hu:=O.units;exact(zU I hq (by lia) hc Y he rx ry).1 _ _ _ _ ⟨.bl (peq d e),H,I,rfl,q⟩
theorem BK{k:Nat}(O:Room k X.A)(Z:X.K=K):OpR X (qg5 .NotEq) (yc K true):=by subst Z;intro J1 s σ H x y v u Q I rx ry h;obtain⟨d,e,hq,Y,he,hc,hdp,q⟩:=h;have hu:=O.units;exact(zU I hq (by lia) hc Y he rx ry).2 _ _ _ _ ⟨.bl (!peq d e),H,I,rfl,q⟩
end
end L2
namespace L2
open PySem PySem.Spec PyProof.Rows
abbrev NT(o:HO):Prop:=∀vs,o≠.tup vs
structure Step(F H F' H':Hp):Prop where
 hh:Same H H'
 ff:Same F F'
 fh:Same F' H'
 nw:∀b o,F' b=some o->F b=some o∨H b=none∨∃vs,H b=some (.tup vs)
variable{u:HO}
section
variable{F H F' H' F1 H1:Hp}{p:J9}{o:HO}
theorem Step.refl(h:Same F H):Step F H F H:=⟨Same.refl _,Same.refl _,h,fun _ _ e=>.inl e⟩
theorem Step.trans(a:Step F H F1 H1)(b:Step F1 H1 F' H'):Step F H F' H':=
 ⟨a.hh.trans b.hh,a.ff.trans b.ff,b.fh,fun c o e=>by
  rcases b.nw c o e with z|z|⟨vs,z⟩
  .exact a.nw c o z
  .exact .inr (.inl (a.hh.free z))
  .cases q:H c with
   |none=>exact .inr (.inl rfl)
   |some u=>have:=a.hh c u q;rw[z]at this;cases this;exact .inr (.inr ⟨vs,rfl⟩)⟩
theorem Same.upd(hp:H p=none):Same H (upd H p o):=fun b u e=>by rw[aP (ck e hp)];exact e
theorem Step.new(h:Same F H)(hp:H p=none):Step F H (upd F p o) (upd H p o) where
 hh:=Same.upd hp
 ff:=Same.upd (h.free hp)
 fh:=fun b u e=>by
  by_cases q:b=p
  .subst q;rw[bn]at e ⊢;exact e
  .rw[aP q]at e ⊢;exact h _ _ e
 nw:=fun b u e=>by
  by_cases q:b=p
  .subst q;exact .inr (.inl hp)
  .rw[aP q]at e;exact .inl e
theorem Step.keepN{b:J9}(st:Step F H F' H')(Z:F b=none)(O:H b=some u)(Y:NT u:=by intro _ z;cases z):F' b=none:=by
 cases q:F' b with
 |none=>rfl
 |some o'=>
  rcases st.nw b o' q with z|z|⟨vs,z⟩
  .rw[Z]at z;cases z
  .rw[O]at z;cases z
  .rw[O]at z;cases z;exact absurd rfl (Y vs)
theorem Step.made(h:Same F H)(hp:H p=none):Step F H F (upd H p o) where
 hh:=Same.upd hp
 ff:=Same.refl _
 fh:=h.trans (Same.upd hp)
 nw:=fun b u e=>.inl e
end
inductive T where
 |leaf (d:Dt)|lst (l:List Dt)|dct (l:List (Key×Dt))|dcT (l:List (List Key×Dt))|fn (a:J9) (F0:Hp)
def T.d:T->Option Dt
 |.leaf d=>some d
 |.lst l=>some (.lst l)
 |.dct l=>some (.dct (l.map (·.1)) (l.map (·.2)))
 |.dcT l=>some (.dcT (l.map (·.1)) (l.map (·.2)))
 |.fn _ _=>none
def T.own:T->Bool
 |.leaf _|.fn _ _=>false
 |_=>true
noncomputable def Own(K:xA9)(F H:Hp):T->V->(J9->Prop)->Prop
 |.leaf d,v,_=>Rep K F d v
 |.lst l,v,S=>∃a vs,v=.ref a/\S a/\H a=some (.lst vs)/\Reps K F l vs
 |.dct l,v,S=>∃a J6,v=.ref a/\S a/\H a=some (.dK J6)/\J6.map (·.1)=l.map (·.1)/\Reps K F (l.map (·.2)) (J6.map (·.2))
 |.dcT l,v,S=>∃a J6,v=.ref a/\S a/\H a=some (.dT J6)/\J6.map (·.1)=l.map (·.1)/\Reps K F (l.map (·.2)) (J6.map (·.2))
 |.fn a F0,v,_=>v=.ref a/\Same F0 F
noncomputable def RepB(K:xA9)(F H:Hp):Dt->V->Prop
 |.lst l,v=>∃a vs,v=.ref a/\SqL K H a vs/\Reps K F l vs
 |.dct ks l,v=>∃a J6,v=.ref a/\Rd H a (.dK J6)/\J6.map (·.1)=ks/\Reps K F l (J6.map (·.2))
 |.dcT ks l,v=>∃a J6,v=.ref a/\Rd H a (.dT J6)/\J6.map (·.1)=ks/\Reps K F l (J6.map (·.2))
 |.non,v=>v=.non
 |.bl b,v=>v=.bl b
 |.int i,v=>v=.int i
 |.str x,v=>v=.str x
 |.tup l,v=>∃a vs,v=.ref a/\SqT K F a vs/\Reps K F l vs
variable{S':J9->Prop}
section
variable{K:xA9}{F H F' H':Hp}{t:T}{v:V}{d:Dt}{S:J9->Prop}
theorem Own.step(O:Same F F')(Y:∀b o,S b->H b=some o->H' b=some o)(h:Own K F H t v S):Own K F' H' t v S:=by
 induction t with
 |leaf d=>exact Rep.same O h
 |lst l=>obtain⟨a,vs,e,q,h1,h2⟩:=h;exact⟨a,vs,e,q,Y _ _ q h1,h2.same O⟩
 |dct l=>obtain⟨a,vs,e,q,h1,h2,h3⟩:=h;exact⟨a,vs,e,q,Y _ _ q h1,h2,h3.same O⟩
 |dcT l=>obtain⟨a,vs,e,q,h1,h2,h3⟩:=h;exact⟨a,vs,e,q,Y _ _ q h1,h2,h3.same O⟩
 |fn a F0=>exact⟨h.1,h.2.trans O⟩
theorem Own.grow(O:∀b,S b->S' b)(h:Own K F H t v S):Own K F H t v S':=by
 induction t with
 |leaf d=>exact h
 |lst l=>obtain⟨a,vs,e,q,h1⟩:=h;exact⟨a,vs,e,O _ q,h1⟩
 |dct l=>obtain⟨a,vs,e,q,h1⟩:=h;exact⟨a,vs,e,O _ q,h1⟩
 |dcT l=>obtain⟨a,vs,e,q,h1⟩:=h;exact⟨a,vs,e,O _ q,h1⟩
 |fn a F0=>exact h
theorem RepB.of(q:Same F H)(h:Rep K F d v):RepB K F H d v:=by
 cases d with
 |lst l=>simp only[Rep]at h;obtain⟨a,vs,e,h1,h2⟩:=h;exact⟨a,vs,e,q.seq h1,h2⟩
 |dct ks l=>simp only[Rep]at h;obtain⟨a,vs,e,h1,h2⟩:=h;exact⟨a,vs,e,q.rd h1,h2⟩
 |dcT ks l=>simp only[Rep]at h;obtain⟨a,vs,e,h1,h2⟩:=h;exact⟨a,vs,e,q.rd h1,h2⟩
 |tup l=>simp only[Rep]at h;exact h
 |_=>simp only[Rep]at h;exact h
theorem RepB.rep(q:Same F H)(h:RepB K F H d v):Rep K H d v:=by
 cases d with
 |lst l=>obtain⟨a,vs,e,h1,h2⟩:=h;simp only[Rep];exact⟨a,vs,e,h1,h2.same q⟩
 |dct ks l=>obtain⟨a,vs,e,h1,h2,h3⟩:=h;simp only[Rep];exact⟨a,vs,e,h1,h2,h3.same q⟩
 |dcT ks l=>obtain⟨a,vs,e,h1,h2,h3⟩:=h;simp only[Rep];exact⟨a,vs,e,h1,h2,h3.same q⟩
 |tup l=>obtain⟨a,vs,e,h1,h2⟩:=h;simp only[Rep];exact⟨a,vs,e,q.tup h1,h2.same q⟩
 |_=>simp only[Rep];exact h
theorem RepB.step(q:Same F F')(O:Same H H')(h:RepB K F H d v):RepB K F' H' d v:=by
 cases d with
 |lst l=>obtain⟨a,vs,e,h1,h2⟩:=h;exact⟨a,vs,e,O.seq h1,h2.same q⟩
 |dct ks l=>obtain⟨a,vs,e,h1,h2,h3⟩:=h;exact⟨a,vs,e,O.rd h1,h2,h3.same q⟩
 |dcT ks l=>obtain⟨a,vs,e,h1,h2,h3⟩:=h;exact⟨a,vs,e,O.rd h1,h2,h3.same q⟩
 |tup l=>obtain⟨a,vs,e,h1,h2⟩:=h;exact⟨a,vs,e,q.tup h1,h2.same q⟩
 |_=>exact h
theorem Own.repB(O:Same F H)(h:Own K F H t v S)(q:t.d=some d):RepB K F H d v:=by
 cases t with
 |leaf d=>cases q;exact RepB.of O h
 |lst l=>cases q;obtain⟨a,vs,e,_,h1,h2⟩:=h;exact⟨a,vs,e,SqL.of h1,h2⟩
 |dct l=>cases q;obtain⟨a,vs,e,_,h1,h2⟩:=h;exact⟨a,vs,e,.inl h1,h2⟩
 |dcT l=>cases q;obtain⟨a,vs,e,_,h1,h2⟩:=h;exact⟨a,vs,e,.inl h1,h2⟩
 |fn a F0=>cases q
open Classical in
def p7(F H:Hp)(S:J9->Prop):Hp:=fun b=>if S b then H b else F b
theorem j1{b:J9}(h:S b):p7 F H S b=H b:=if_pos h
theorem gz{b:J9}(h:¬ S b):p7 F H S b=F b:=if_neg h
theorem m7(q:∀b,S b->F b=none):Same F (p7 F H S):=fun b o e=>by
 have:¬ S b:=fun z=>by rw[q b z]at e;cases e
 rw[gz this];exact e
theorem rz(q:Same F H):Same (p7 F H S) H:=fun b o e=>by
 by_cases h:S b
 .rw[j1 h]at e;exact e
 .rw[gz h]at e;exact q _ _ e
theorem Own.freeze(Z:∀b,S b->F b=none)(h:Own K F H t v S)(O:t.d=some d):Rep K (p7 F H S) d v:=by
 have Y:=m7 (H:=H) Z;cases t with
 |leaf d=>cases O;exact Rep.same Y h
 |lst l=>cases O;obtain⟨a,vs,e,q,h1,h2⟩:=h;simp only[Rep];exact⟨a,vs,e,SqL.of (by rw[j1 q];exact h1),h2.same Y⟩
 |dct l=>cases O;obtain⟨a,vs,e,q,h1,h2,h3⟩:=h;simp only[Rep];exact⟨a,vs,e,.inl (by rw[j1 q];exact h1),h2,h3.same Y⟩
 |dcT l=>cases O;obtain⟨a,vs,e,q,h1,h2,h3⟩:=h;simp only[Rep];exact⟨a,vs,e,.inl (by rw[j1 q];exact h1),h2,h3.same Y⟩
 |fn a F0=>cases O
end
abbrev Ix:=Nat
abbrev De:=List (Option T)
structure Sep(K:xA9)(F H:Hp)(B:J9->Prop)(L:Ix->Option (T×V))(S:Ix->J9->Prop):Prop where
 own:∀i t v,L i=some (t,v)->Own K F H t v (S i)
 out:∀i b,S i b->F b=none/\(∃o,H b=some o/\NT o)/\B b
 dis:∀i j b,S i b->S j b->i=j
def oA(δ:De)(σ:St)(i:Nat):Option (T×V):=match δ[i]?,σ[i]? with
 |some (some t),some (some v)=>some (t,v)
 |_,_=>none
structure Fm where
 K:xA9
 F0:Hp
 H0:Hp
 S0:J9->Prop
def Fm.B(Φ:Fm)(b:J9):Prop:=Φ.H0 b=none∨Φ.S0 b
structure En(Φ:Fm)(δ:De)(σ:St)(F H:Hp):Prop where
 fh:Same F H
 prot:∀b o,Φ.H0 b=some o->¬ Φ.S0 b->H b=some o
 old:Same Φ.F0 F
 nw:∀b o,F b=some o->Φ.F0 b=some o∨Φ.B b∨∃vs,Φ.H0 b=some (.tup vs)
 len:δ.length=σ.length
 has:∀(i:Nat)(t:T),δ[i]?=some (some t)->∃v,σ[i]?=some (some v)
 sep:∃S,Sep Φ.K F H Φ.B (oA δ σ) S
variable{i j:Nat}{v:V}{p a:J9}{K:xA9}
section
variable{Φ:Fm}{δ:De}{σ:St}{F H F' H':Hp}
theorem cD{t:T}(h1:δ[i]?=some (some t))(h2:σ[i]?=some (some v)):oA δ σ i=some (t,v):=by unfold oA;rw[h1,h2]
theorem dY{t:T}(h:oA δ σ i=some (t,v)):δ[i]?=some (some t)/\σ[i]?=some (some v):=by
 unfold oA at h;split at h
 .rename_i q O;cases h;exact⟨q,O⟩
 .cases h
theorem En.fresh(e:En Φ δ σ F H)(hp:H p=none):Φ.B p:=by
 by_cases h:Φ.S0 p
 .exact .inr h
 .left;cases q:Φ.H0 p with
  |none=>rfl
  |some o=>rw[e.prot p o q h]at hp;cases hp
theorem Sep.step{B:J9->Prop}{L:Ix->Option (T×V)}{S:Ix->J9->Prop}(s:Sep K F H B L S)(st:Step F H F' H'):Sep K F' H' B L S where
 own:=fun i t v h=>(s.own i t v h).step st.ff fun b o _ e=>st.hh b o e
 out:=fun i b h=>by obtain⟨h1,⟨o,h2,q⟩,h3⟩:=s.out i b h;exact⟨st.keepN h1 h2 q,⟨o,st.hh _ _ h2,q⟩,h3⟩
 dis:=s.dis
theorem En.step(e:En Φ δ σ F H)(st:Step F H F' H'):En Φ δ σ F' H' where
 fh:=st.fh
 prot:=fun b o h1 h2=>st.hh _ _ (e.prot b o h1 h2)
 old:=e.old.trans st.ff
 nw:=fun b o h=>by
  rcases st.nw b o h with z|z|⟨vs,z⟩
  .exact e.nw b o z
  .exact .inr (.inl (e.fresh z))
  .cases q:Φ.H0 b with
   |none=>exact .inr (.inl (.inl q))
   |some u=>
    by_cases O:Φ.S0 b
    .exact .inr (.inl (.inr O))
    .rw[e.prot b u q O]at z;cases z;exact .inr (.inr ⟨vs,rfl⟩)
 len:=e.len
 has:=e.has
 sep:=let ⟨S,s⟩:=e.sep;⟨S,s.step st⟩
theorem En.slot(e:En Φ δ σ F H){t:T}{d:Dt}(h:δ[i]?=some (some t))(O:t.d=some d):∃v,σ[i]?=some (some v)/\RepB Φ.K F H d v:=by obtain⟨v,q⟩:=e.has i t h;obtain⟨S,s⟩:=e.sep;exact⟨v,q,(s.own i t v (cD h q)).repB e.fh O⟩
theorem En.leaf(e:En Φ δ σ F H){d:Dt}(h:δ[i]?=some (some (.leaf d))):∃v,σ[i]?=some (some v)/\Rep Φ.K F d v:=by obtain⟨v,q⟩:=e.has i _ h;obtain⟨S,s⟩:=e.sep;exact⟨v,q,s.own i _ v (cD h q)⟩
theorem dQ{α:Type}{l:List (Option α)}{x y:Option α}(h:(l.set i x)[j]?=some y):(i=j/\y=x)∨(i≠j/\l[j]?=some y):=by
 by_cases q:i=j
 .subst q;left;rw[List.getElem?_set]at h;simp only[if_true]at h;split at h
  .cases h;exact⟨rfl,rfl⟩
  .cases h
 .right;rw[gN q]at h;exact⟨q,h⟩
theorem En.put(e:En Φ δ σ F H){t:T}(st:Step F H F' H')(ho:Own Φ.K F' H' t v S')(hs:∀b,S' b->F' b=none/\H b=none/\∃o,H' b=some o/\NT o)(i:Nat):En Φ (δ.set i (some t)) (σ.set i (some v)) F' H':=by
 have e':=e.step st;obtain⟨S,s⟩:=e.sep;have s':=s.step st;refine⟨e'.fh,e'.prot,e'.old,e'.nw,by simp[e.len],fun j u h=>?_,fun j b=>if j=i then S' b else S j b,?_,?_,?_⟩
 .rcases dQ h with ⟨rfl,z⟩|⟨Z,z⟩
  .have hi:i<σ.length:=by rw[<- e.len];have:=(gX h).1;simpa using this
   exact⟨v,by simp[hi]⟩
  .obtain⟨w,hw⟩:=e.has j u z;exact⟨w,by rw[gN Z];exact hw⟩
 .intro j u w h;obtain⟨h1,h2⟩:=dY h;rcases dQ h1 with ⟨rfl,z⟩|⟨Z,z⟩
  .rcases dQ h2 with ⟨_,O⟩|⟨hn2,_⟩
   .cases z;cases O;show Own _ _ _ _ _ (fun b=>if i=i then S' b else S i b);simp only[if_true];exact ho
   .exact absurd rfl hn2
  .rcases dQ h2 with ⟨O,_⟩|⟨_,O⟩
   .exact absurd O Z
   .have:¬ j=i:=fun q=>Z q.symm
    show Own _ _ _ _ _ (fun b=>if j=i then S' b else S j b);simp only[if_neg this];exact s'.own j u w (cD z O)
 .intro j b h;split at h
  .obtain⟨h1,h2,h3⟩:=hs b h;exact⟨h1,h3,e.fresh h2⟩
  .exact s'.out _ b h
 .have Y:∀j b,S j b->¬ S' b:=fun j b h z=>by obtain⟨_,⟨o,h2,_⟩,_⟩:=s.out j b h;rw[(hs b z).2.1]at h2;cases h2
  intro j k b hj hk;split at hj<;>split at hk
  .rename_i q1 q2;rw[q1,q2]
  .exact absurd hj (Y _ b hk)
  .exact absurd hk (Y _ b hj)
  .exact s.dis _ _ b hj hk
theorem tj{t:T}{S:J9->Prop}(O:t.own=true)(h:Own K F H t (.ref a) S):S a:=by
 cases t with
 |leaf d=>cases O
 |lst l=>obtain⟨b,_,e,q,_⟩:=h;cases e;exact q
 |dct l=>obtain⟨b,_,e,q,_⟩:=h;cases e;exact q
 |dcT l=>obtain⟨b,_,e,q,_⟩:=h;cases e;exact q
 |fn b F0=>cases O
theorem En.poke (e:En Φ δ σ F H) {t t':T} {o:HO} (h:δ[i]?=some (some t)) (Y:σ[i]?=some (some (.ref a))) (ht:t.own=true) (ho:∀ S:J9->Prop,S a->Own Φ.K F (upd H a o) t' (.ref a) S) (nt:NT o:=by intro _ z;cases z) :
  En Φ (δ.set i (some t')) σ F (upd H a o):=by
 obtain⟨S,s⟩:=e.sep;have O:S i a:=tj ht (s.own i t _ (cD h Y));obtain⟨fa,⟨oa,ha,_⟩,ba⟩:=s.out _ a O;have hi:i<δ.length:=(gX h).1;refine⟨fun b u z=>?_,fun b u h1 h2=>?_,e.old,e.nw,by simp[e.len],fun j u z=>?_,S,fun j u w z=>?_,fun j b z=>?_,s.dis⟩
 .have:b≠a:=fun q=>by rw[q,fa]at z;cases z
  rw[aP this];exact e.fh _ _ z
 .have:b≠a:=fun q=>by
   subst q;rcases ba with z|z
   .rw[z]at h1;cases h1
   .exact h2 z
  rw[aP this];exact e.prot b u h1 h2
 .rcases dQ z with ⟨rfl,_⟩|⟨hn,z⟩
  .exact⟨_,Y⟩
  .exact e.has j u z
 .obtain⟨h1,h2⟩:=dY z;rcases dQ h1 with ⟨rfl,Z⟩|⟨hn,Z⟩
  .cases Z;rw[Y]at h2;cases h2;exact ho _ O
  .refine(s.own j u w (cD Z h2)).step (Same.refl _) fun b q hb hq=>?_
   have:b≠a:=fun y=>by subst y;exact hn (s.dis _ _ _ hb O).symm
   rw[aP this];exact hq
 .obtain⟨h1,⟨q,h2,n2⟩,h3⟩:=s.out j b z;refine⟨h1,?_,h3⟩;by_cases y:b=a
  .subst y;exact⟨o,bn,nt⟩
  .exact⟨q,by rw[aP y];exact h2,n2⟩
theorem En.freeze(e:En Φ δ σ F H){t:T}{d:Dt}(h:δ[i]?=some (some t))(hd:t.d=some d):∃F',En Φ (δ.set i (some (.leaf d))) σ F' H:=by
 obtain⟨S,s⟩:=e.sep;obtain⟨v,O⟩:=e.has i t h;have so:=s.own i t v (cD h O);have Z:∀b,S i b->F b=none:=fun b z=>(s.out _ b z).1
 have ff:=m7 (H:=H) Z;refine⟨p7 F H (S i),rz e.fh,e.prot,e.old.trans ff,fun b o z=>?_,by simp[e.len],fun j u z=>?_,fun j b=>S j b/\j≠i,fun j u w z=>?_,fun j b z=>?_,fun j k b h1 h2=>s.dis _ _ b h1.1 h2.1⟩
 .by_cases hb:S i b
  .exact .inr (.inl (s.out _ b hb).2.2)
  .rw[gz hb]at z;exact e.nw b o z
 .rcases dQ z with ⟨rfl,_⟩|⟨hn,z⟩
  .exact⟨_,O⟩
  .exact e.has j u z
 .obtain⟨h1,h2⟩:=dY z;rcases dQ h1 with ⟨rfl,Y⟩|⟨hn,Y⟩
  .cases Y;rw[O]at h2;cases h2;exact so.freeze Z hd
  .refine((s.own j u w (cD Y h2)).step ff fun _ _ _ q=>q).grow fun b q=>⟨q,fun y=>hn y.symm⟩
 .obtain⟨h1,h2,h3⟩:=s.out j b z.1;refine⟨?_,h2,h3⟩;rw[gz fun y=>z.2 (s.dis _ _ b z.1 y)];exact h1
end
def KO(K:xA9)(F H:Hp)(t:T)(Q:VK):Prop:=∀v H' F' S,Step F H F' H'->Own K F' H' t v S->(∀b,S b->F' b=none/\H b=none/\∃o,H' b=some o/\NT o)->Q v H'
def KL(K:xA9)(F H:Hp)(d:Dt)(Q:VK):Prop:=∀v H' F',Step F H F' H'->Rep K F' d v->Q v H'
def KB(K:xA9)(F H:Hp)(d:Dt)(Q:VK):Prop:=∀v H' F',Step F H F' H'->RepB K F' H' d v->Q v H'
section
variable{K:xA9}{F H F1 H1:Hp}{t:T}{d:Dt}{Q:VK}
theorem KO.step(k:KO K F H t Q)(st:Step F H F1 H1):KO K F1 H1 t Q:=fun v H' F' S s o q=>k v H' F' S (st.trans s) o fun b z=>⟨(q b z).1,st.hh.free (q b z).2.1,(q b z).2.2⟩
theorem KO.leaf(k:KO K F H (.leaf d) Q):KL K F H d Q:=fun v H' F' st r=>k v H' F' (fun _=>False) st r fun _ z=>z.elim
theorem KL.here(k:KL K F H d Q)(q:Same F H)(r:Rep K F d v):Q v H:=k v H F (Step.refl q) r
theorem KB.to(k:KB K F H d Q):KL K F H d Q:=fun v H' F' st r=>k v H' F' st (RepB.of st.fh r)
theorem KL.to(Y:t.d=some d)(k:KL K F H d Q):KO K F H t Q:=fun v H' F' S st o q=>by
 refine k v H' (p7 F' H' S) ⟨st.hh,st.ff.trans (m7 fun b z=>(q b z).1),rz st.fh,fun b u z=>?_⟩ (o.freeze (fun b z=>(q b z).1) Y);by_cases O:S b
 .exact .inr (.inl (q b O).2.1)
 .rw[gz O]at z;exact st.nw b u z
theorem KB.toO(q:t.d=some d)(k:KB K F H d Q):KO K F H t Q:=fun v H' F' S st o O=>k v H' F' st (o.repB st.fh q)
end
def tO(K:xA9)(f:De->Option T):TE:=fun σ H Q=>∃ Φ δ F t,Fm.K Φ=K/\En Φ δ σ F H/\f δ=some t/\KO K F H t Q
def tL(K:xA9)(f:De->Option Dt):TE:=fun σ H Q=>∃ Φ δ F d,Fm.K Φ=K/\En Φ δ σ F H/\f δ=some d/\KL K F H d Q
def tBd(K:xA9)(f:De->Option Dt):TE:=fun σ H Q=>∃ Φ δ F d,Fm.K Φ=K/\En Φ δ σ F H/\f δ=some d/\KB K F H d Q
def tTr(K:xA9)(f:De->Option Bool):TT:=fun σ H Q=>∃ Φ δ F b,Fm.K Φ=K/\En Φ δ σ F H/\f δ=some b/\∀H' F',Step F H F' H'->Q b H'
def DO(X:Cx)(e:Jc)(f:De->Option T):Prop:=PE X e (tO X.K f)
def DL(X:Cx)(e:Jc)(f:De->Option Dt):Prop:=PE X e (tL X.K f)
def DB(X:Cx)(e:Jc)(f:De->Option Dt):Prop:=PE X e (tBd X.K f)
def DT(X:Cx)(e:Jc)(f:De->Option Bool):Prop:=PT X e (tTr X.K f)
def DW(X:Cx)(e:Jc)(f:De->Option Bool):Prop:=PW X e (tTr X.K f)
variable{X:Cx}{e:Jc}{t':TE}
theorem PE.mono{t:TE}(h:PE X e t)(m:∀ σ H Q,t' σ H Q->t σ H Q):PE X e t':=fun J1 s σ H Q I q=>h J1 s σ H Q I (m _ _ _ q)
theorem PT.mono{t t':TT}(h:PT X e t)(m:∀ σ H Q,t' σ H Q->t σ H Q):PT X e t':=fun J1 s σ H Q I q=>h J1 s σ H Q I (m _ _ _ q)
theorem PW.mono{t t':TT}(h:PW X e t)(m:∀ σ H Q,t' σ H Q->t σ H Q):PW X e t':=fun O J1 s σ H Q I q=>h O J1 s σ H Q I (m _ _ _ q)
theorem PA.mono{e:List Jc}{t t':TA}(h:PA X e t)(m:∀ σ H Q,t' σ H Q->t σ H Q):PA X e t':=fun pos J1 s σ H Q I q=>h pos J1 s σ H Q I (m _ _ _ q)
variable{tg:Jc}
theorem PI.mono{t t':TI}(h:PI X tg e t)(m:∀ σ H Q,t' σ H Q->t σ H Q):PI X tg e t':=fun J1 s σ H Q I q=>h J1 s σ H Q I (m _ _ _ q)
theorem PG.mono{t t':TG}(h:PG X e t)(m:∀v σ H Q,t' v σ H Q->t v σ H Q):PG X e t':=fun J1 s σ H v u Q I r q=>h J1 s σ H v u Q I r (m _ _ _ _ q)
theorem PS.mono{e:Jb}{t t':TS}(h:PS X e t)(m:∀D σ H,t' D σ H->t D σ H):PS X e t':=fun J1 s σ H Q I q=>h J1 s σ H Q I (m _ _ _ q)
theorem PSs.mono{e:List Jb}{t t':TS}(h:PSs X e t)(m:∀D σ H,t' D σ H->t D σ H):PSs X e t':=fun J1 s σ H Q I q=>h J1 s σ H Q I (m _ _ _ q)
theorem PE.or{t:TE}(h:PE X e t)(h':PE X e t'):PE X e (fun σ H Q=>t σ H Q∨t' σ H Q):=fun J1 s σ H Q I q=>q.elim (h J1 s σ H Q I) (h' J1 s σ H Q I)
theorem PI.or{t t':TI}(h:PI X tg e t)(h':PI X tg e t'):PI X tg e (fun σ H Q=>t σ H Q∨t' σ H Q):=fun J1 s σ H Q I q=>q.elim (h J1 s σ H Q I) (h' J1 s σ H Q I)
variable{x:Str}{r:R2}{σ:St}{H:Hp}{Q:VK}{vs:List V}{n:Nat}{ds:List Dt}{ps:List Str}
section
variable{X:Cx}{e a b c:Jc}{f:De->Option T}{g fa fb fc:De->Option Dt}{pos:Pos}
def toD(f:De->Option T):De->Option Dt:=fun δ=>(f δ).bind T.d
def toT(f:De->Option Dt):De->Option T:=fun δ=>(f δ).map T.leaf
theorem DO.toL(h:DO X e f):DL X e (toD f):=PE.mono h fun σ H Q ⟨Φ,δ,F,d,hK,O,Z,k⟩=>by obtain⟨t,q,Y⟩:=bS Z;exact⟨Φ,δ,F,t,hK,O,q,KL.to Y k⟩
theorem DO.toB(h:DO X e f):DB X e (toD f):=PE.mono h fun σ H Q ⟨Φ,δ,F,d,hK,O,Z,k⟩=>by obtain⟨t,q,Y⟩:=bS Z;exact⟨Φ,δ,F,t,hK,O,q,KB.toO Y k⟩
theorem DL.toB(h:DL X e g):DB X e g:=PE.mono h fun σ H Q ⟨Φ,δ,F,d,Y,q,O,k⟩=>⟨Φ,δ,F,d,Y,q,O,k.to⟩
theorem DL.toO(h:DL X e g):DO X e (toT g):=PE.mono h fun σ H Q ⟨Φ,δ,F,t,Z,Y,q,k⟩=>by
 unfold toT at q;cases O:g δ with
 |none=>rw[O]at q;cases q
 |some d=>rw[O]at q;cases q;exact⟨Φ,δ,F,d,Z,Y,O,k.leaf⟩
def vL(i:Nat):De->Option Dt:=fun δ=>match δ[i]? with
 |some (some (.leaf d))=>some d
 |_=>none
def vB(i:Nat):De->Option Dt:=fun δ=>match δ[i]? with
 |some (some t)=>t.d
 |_=>none
theorem ak(h:PE X e (iC i)):DL X e (vL i):=PE.mono h fun σ H Q ⟨Φ,δ,F,d,Z,Y,O,k⟩=>by
 unfold vL at O;split at O
 .rename_i q;cases O;obtain⟨v,h1,h2⟩:=Y.leaf q;exact⟨v,h1,k.here Y.fh (Z▸h2)⟩
 .cases O
theorem ac(h:PE X e (iC i)):DB X e (vB i):=PE.mono h fun σ H Q ⟨Φ,δ,F,d,Z,Y,O,k⟩=>by
 unfold vB at O;split at O
 .rename_i q;obtain⟨v,h1,h2⟩:=Y.slot q O;exact⟨v,h1,k v H F (Step.refl Y.fh) (Z▸h2)⟩
 .cases O
def kD(d:Dt):De->Option Dt:=fun _=>some d
theorem u7{d:Dt}(h:PE X e (tC v))(r:∀F,Rep X.K F d v):DL X e (kD d):=PE.mono h fun σ H Q ⟨Φ,δ,F,d',Y,q,O,k⟩=>by cases O;exact k.here q.fh (r F)
theorem af{i:Int}{j}:DL X (.Constant (.int i) j pos) (kD (.int i)):=u7 A0 fun F=>by simp only[Rep]
theorem gh{i:Bool}{j}:DL X (.Constant (.bool i) j pos) (kD (.bl i)):=u7 DC fun F=>by simp only[Rep]
theorem cO{j}:DL X (.Constant .none j pos) (kD .non):=u7 A1 fun F=>by simp only[Rep]
theorem aS{j}:DL X (.Constant (.str x) j pos) (kD (.str x)):=u7 A2 fun F=>by simp only[Rep]
def R2D(K:xA9)(r:R2)(g:Dt->Dt->Option T):Prop:=∀F H x y vx vy (Q:VK) t,Same F H->RepB K F H x vx->RepB K F H y vy->g x y=some t->KO K F H t Q->r vx vy H Q
def d2(g:Dt->Dt->Option T)(fa fb:De->Option Dt):De->Option T:=fun δ=>(fa δ).bind fun x=>(fb δ).bind fun y=>g x y
theorem l4{g:Dt->Dt->Option T}(hr:R2D K r g)(h:tO K (d2 g fa fb) σ H Q):tOp r (tBd K fa) (tBd K fb) σ H Q:=by obtain⟨Φ,δ,F,t,hK,Z,O,k⟩:=h;unfold d2 at O;obtain⟨x,hx,O⟩:=bS O;obtain⟨y,hy,O⟩:=bS O;exact⟨Φ,δ,F,x,hK,Z,hx,fun v H1 F1 st rv=>⟨Φ,δ,F1,y,hK,Z.step st,hy,fun v2 H2 F2 q Y=>hr F2 H2 x y v v2 Q t q.fh (rv.step q.ff q.hh) Y O (k.step (st.trans q))⟩⟩
theorem az{q:Operator}{g:Dt->Dt->Option T}(ho:OpR X (qm7 q) r)(O:R2D X.K r g)(Z:DB X a fa)(Y:DB X b fb):DO X (.BinOp a q b pos) (d2 g fa fb):=PE.mono (DN ho Z Y) fun σ H Q h=>l4 O h
theorem gA{q:CmpOp}{g:Dt->Dt->Option T}(ho:OpR X (qg5 q) r)(O:R2D X.K r g)(ha:DB X a fa)(Z:DB X b fb)(Y:qh5 q b=false):DO X (.Compare a [q] [b] pos) (d2 g fa fb):=PE.mono (qZ ho ha Z Y) fun σ H Q h=>l4 O h
def asB:T->Option Bool
 |.leaf (.bl b)=>some b
 |_=>none
def tB2(g:Dt->Dt->Option T)(fa fb:De->Option Dt):De->Option Bool:=fun δ=>(d2 g fa fb δ).bind asB
theorem rA{F:Hp}{t:T}{S:J9->Prop}{b:Bool}(h:asB t=some b)(o:Own K F H t v S):v=.bl b:=by
 unfold asB at h;split at h
 .cases h;have o:Rep K F (.bl b) v:=o;simp only[Rep]at o;exact o
 .cases h
theorem aM{O:CmpOp}{g:Dt->Dt->Option T}(ho:OpR X (qg5 O) r)(Y:R2D X.K r g)(ha:DB X a fa)(hb:DB X b fb)(Z:qh5 O b=false):DT X (.Compare a [O] [b] pos) (tB2 g fa fb):=PT.mono (mR ho ha hb Z) fun σ H Q ⟨Φ,δ,F,t,hK,en,q,k⟩=>by unfold tB2 at q;obtain⟨z,hz,q⟩:=bS q;refine l4 Y ⟨Φ,δ,F,z,hK,en,hz,fun v H' F' S st o hs=>?_⟩;exact⟨t,rA q o,k H' F' st⟩
def tm:Dt->Option Bool
 |.non=>some false
 |.bl b=>some b
 |.int i=>some (i != 0)
 |.str x=>if x.length<=qb4 then some ((x.length:Int) != 0)else none
 |.tup l=>some (!l.isEmpty)
 |.lst l=>some (!l.isEmpty)
 |_=>none
def dL(f:De->Option Dt):De->Option Bool:=fun δ=>(f δ).bind tm
theorem iO{F:Hp}{l:List Dt}(h:Reps K F l vs):l.isEmpty=vs.isEmpty:=by
 cases l with
 |nil=>unfold Reps at h;rw[h];rfl
 |cons d l=>unfold Reps at h;obtain⟨v,q,rfl,_⟩:=h;rfl
theorem yd{F:Hp}{d:Dt}{b:Bool}(O:Same F H)(h:RepB K F H d v)(q:tm d=some b):Bn K v H b:=by
 cases d with
 |non=>cases h;cases q;rfl
 |bl x=>cases h;cases q;rfl
 |int x=>cases h;cases q;rfl
 |str x=>
  cases h;simp only[tm]at q;split at q
  .cases q;exact⟨by assumption,rfl⟩
  .cases q
 |tup l=>obtain⟨a,vs,rfl,h1,h2⟩:=h;cases q;exact .inr (.inl ⟨vs,O.tup h1,by rw[iO h2]⟩)
 |lst l=>obtain⟨a,vs,rfl,h1,h2⟩:=h;cases q;exact .inl ⟨vs,h1,by rw[iO h2]⟩
 |dct ks l=>cases q
 |dcT ks l=>cases q
theorem b8(ha:DB X a fa)(he:∀q,isTrue a X.env q=(do let v <- q;standAt a.pos;zd0 [v] (truthy v))):DT X a (dL fa):=PT.mono (uG ha he) fun σ H Q ⟨Φ,δ,F,b,hK,Y,O,k⟩=>by unfold dL at O;obtain⟨d,Z,O⟩:=bS O;exact⟨Φ,δ,F,d,hK,Y,Z,fun v H' F' st r=>⟨b,yd st.fh r O,k H' F' st⟩⟩
def hZ(f:De->Option Bool):De->Option Bool:=fun δ=>(f δ).map (!·)
def d4(f g:De->Option Bool):De->Option Bool:=fun δ=>(f δ).bind fun b=>if b then g δ else some false
def fOr(f g:De->Option Bool):De->Option Bool:=fun δ=>(f δ).bind fun b=>if b then some true else g δ
variable{ta tb tc:De->Option Bool}{rest:List Jc}
theorem gB(h:DT X a ta):DT X (.UnaryOp .Not a pos) (hZ ta):=PT.mono (A6 h) fun σ H Q ⟨Φ,δ,F,b,Z,Y,O,k⟩=>by
 unfold hZ at O;cases q:ta δ with
 |none=>rw[q]at O;cases O
 |some c=>rw[q]at O;cases O;exact⟨Φ,δ,F,c,Z,Y,q,fun H' F' st=>k H' F' st⟩
theorem eG(h:DT X a ta):DW X (.BoolOp .And [a] pos) ta:=xH h
theorem gC(h:DT X a ta):DW X (.BoolOp .Or [a] pos) ta:=A4 h
theorem d5(h:DT X a ta)(h':DW X (.BoolOp .And (b::rest) pos) tb):DW X (.BoolOp .And (a::b::rest) pos) (d4 ta tb):=PW.mono (A5 h h') fun σ H Q ⟨Φ,δ,F,t,Z,Y,O,k⟩=>by
 unfold d4 at O;obtain⟨c,hc,O⟩:=bS O;refine⟨Φ,δ,F,c,Z,Y,hc,fun H' F' st=>?_⟩;split at O
 .rename_i q;rw[if_pos q];exact⟨Φ,δ,F',t,Z,Y.step st,O,fun H2 F2 s2=>k H2 F2 (st.trans s2)⟩
 .rename_i q;rw[if_neg q];cases O;exact k H' F' st
theorem fq(h:DT X a ta)(h':DW X (.BoolOp .Or (b::rest) pos) tb):DW X (.BoolOp .Or (a::b::rest) pos) (fOr ta tb):=PW.mono (DD h h') fun σ H Q ⟨Φ,δ,F,t,Z,Y,O,k⟩=>by
 unfold fOr at O;obtain⟨c,hc,O⟩:=bS O;refine⟨Φ,δ,F,c,Z,Y,hc,fun H' F' st=>?_⟩;split at O
 .rename_i q;rw[if_pos q];cases O;exact k H' F' st
 .rename_i q;rw[if_neg q];exact⟨Φ,δ,F',t,Z,Y.step st,O,fun H2 F2 s2=>k H2 F2 (st.trans s2)⟩
theorem DW.t(h:DW X a ta):DT X a ta:=h.pt
def u8:Dt->Option Bool
 |.bl b=>some b
 |_=>none
def BL(f:De->Option Dt):De->Option T:=fun δ=>(f δ).bind fun x=>(u8 x).map fun b=>.leaf (.bl (!b))
def tp(f:De->Option Dt)(g:De->Option T):De->Option T:=fun δ=>(f δ).bind fun x=>(u8 x).bind fun b=>if b then g δ else some (.leaf (.bl false))
def vIf(c:De->Option Bool)(f g:De->Option T):De->Option T:=fun δ=>(c δ).bind fun b=>if b then f δ else g δ
theorem rB{F:Hp}{x:Dt}{b:Bool}(h:u8 x=some b)(r:RepB K F H x v):v=.bl b:=by
 unfold u8 at h;split at h
 .cases h;exact r
 .cases h
theorem p8{F:Hp}{b:Bool}:Rep K F (.bl b) (.bl b):=by simp only[Rep]
theorem fW{F:Hp}{b:Int}:Rep K F (.int b) (.int b):=by simp only[Rep]
theorem iP{F:Hp}{b:Str}:Rep K F (.str b) (.str b):=by simp only[Rep]
theorem iQ{F:Hp}:Rep K F .non .non:=by simp only[Rep]
variable{oa ob:De->Option T}
theorem BM(h:DB X a fa):DO X (.UnaryOp .Not a pos) (BL fa):=PE.mono (A9 h) fun σ H Q ⟨Φ,δ,F,t,hK,Z,O,k⟩=>by
 unfold BL at O;obtain⟨x,Y,O⟩:=bS O;cases q:u8 x with
 |none=>rw[q]at O;cases O
 |some b=>rw[q]at O;cases O;exact⟨Φ,δ,F,x,hK,Z,Y,fun v H' F' st r=>⟨b,rB q r,(k.step st).leaf.here st.fh p8⟩⟩
theorem u9{op}(h:DO X a oa):DO X (.BoolOp op [a] pos) oa:=A7 h
theorem vc(h:DB X a fa)(h':DO X (.BoolOp .And (b::rest) pos) ob):DO X (.BoolOp .And (a::b::rest) pos) (tp fa ob):=PE.mono (A8 h h') fun σ H Q ⟨Φ,δ,F,t,Z,Y,O,k⟩=>by
 unfold tp at O;obtain⟨x,hx,O⟩:=bS O;obtain⟨b,hb,O⟩:=bS O;refine⟨Φ,δ,F,x,Z,Y,hx,fun v H' F' st r=>⟨b,rB hb r,?_⟩⟩;split at O
 .rename_i q;rw[if_pos q];exact⟨Φ,δ,F',t,Z,Y.step st,O,k.step st⟩
 .rename_i q;rw[if_neg q];cases O;exact(k.step st).leaf.here st.fh p8
theorem rC(hc:DT X c tc)(h:DO X a oa)(h':DO X b ob):DO X (.IfExp c a b pos) (vIf tc oa ob):=PE.mono (uA hc h h') fun σ H Q ⟨Φ,δ,F,t,Z,Y,O,k⟩=>by
 unfold vIf at O;obtain⟨x,hx,O⟩:=bS O;refine⟨Φ,δ,F,x,Z,Y,hx,fun H' F' st=>?_⟩;split at O
 .rename_i q;rw[if_pos q];exact⟨Φ,δ,F',t,Z,Y.step st,O,k.step st⟩
 .rename_i q;rw[if_neg q];exact⟨Φ,δ,F',t,Z,Y.step st,O,k.step st⟩
def l5(K:xA9)(F H:Hp):List Dt->List V->Prop
 |[],vs=>vs=[]
 |d::l,vs=>∃v q,vs=v::q/\RepB K F H d v/\l5 K F H l q
def tAL(K:xA9)(f:De->Option (List Dt)):TA:=fun σ H Q=>∃ Φ δ F ds,Fm.K Φ=K/\En Φ δ σ F H/\f δ=some ds/\∀vs H' F',Step F H F' H'->Reps K F' ds vs->Q vs H'
def tAB(K:xA9)(f:De->Option (List Dt)):TA:=fun σ H Q=>∃ Φ δ F ds,Fm.K Φ=K/\En Φ δ σ F H/\f δ=some ds/\∀vs H' F',Step F H F' H'->l5 K F' H' ds vs->Q vs H'
structure DA(X:Cx)(es:List Jc)(f:De->Option (List Dt)):Prop where
 len:∀ δ ds,f δ=some ds->ds.length=es.length
 pa:PA X es (tAL X.K f)
structure DAB(X:Cx)(es:List Jc)(f:De->Option (List Dt)):Prop where
 len:∀ δ ds,f δ=some ds->ds.length=es.length
 pa:PA X es (tAB X.K f)
def al:De->Option (List Dt):=fun _=>some []
def ae(f:De->Option Dt)(g:De->Option (List Dt)):De->Option (List Dt):=fun δ=>(f δ).bind fun d=>(g δ).bind fun ds=>some (d::ds)
variable{es:List Jc}{fs:De->Option (List Dt)}
theorem l6{f:De->Option Dt}(h:∀ δ ds,fs δ=some ds->ds.length=n):∀ δ ds,ae f fs δ=some ds->ds.length=n+1:=fun δ ds q=>by unfold ae at q;obtain⟨x,Y,q⟩:=bS q;obtain⟨y,O,q⟩:=bS q;cases q;simp[h δ y O]
theorem ai:DA X [] al:=⟨fun _ _ h=>by cases h;rfl,PA.mono gq fun σ H Q ⟨Φ,δ,F,ds,Y,q,O,k⟩=>by cases O;exact k [] H F (Step.refl q.fh) (by simp only[Reps])⟩
theorem aL:DAB X [] al:=⟨fun _ _ h=>by cases h;rfl,PA.mono gq fun σ H Q ⟨Φ,δ,F,ds,Y,q,O,k⟩=>by cases O;exact k [] H F (Step.refl q.fh) rfl⟩
theorem ab(h:DL X e g)(h':DA X es fs)(hs:qa9 (e::es) X.env=(false,eval e X.env)::qa9 es X.env:=by rfl):DA X (e::es) (ae g fs):=⟨l6 h'.len,PA.mono (dB h h'.pa hs) fun σ H Q ⟨Φ,δ,F,ds,Y,O,q,k⟩=>by unfold ae at q;obtain⟨x,hx,q⟩:=bS q;obtain⟨y,hy,q⟩:=bS q;cases q;exact⟨Φ,δ,F,x,Y,O,hx,fun v H1 F1 st r=>⟨Φ,δ,F1,y,Y,O.step st,hy,fun vs H2 F2 Z r2=>k (v::vs) H2 F2 (st.trans Z) (by simp only[Reps];exact⟨v,vs,rfl,r.same Z.ff,r2⟩)⟩⟩⟩
theorem aB(h:DB X e g)(h':DAB X es fs)(hs:qa9 (e::es) X.env=(false,eval e X.env)::qa9 es X.env:=by rfl):DAB X (e::es) (ae g fs):=⟨l6 h'.len,PA.mono (dB h h'.pa hs) fun σ H Q ⟨Φ,δ,F,ds,Z,Y,q,k⟩=>by unfold ae at q;obtain⟨x,hx,q⟩:=bS q;obtain⟨y,hy,q⟩:=bS q;cases q;exact⟨Φ,δ,F,x,Z,Y,hx,fun v H1 F1 st r=>⟨Φ,δ,F1,y,Z,Y.step st,hy,fun vs H2 F2 O r2=>k (v::vs) H2 F2 (st.trans O) ⟨v,vs,rfl,r.step O.ff O.hh,r2⟩⟩⟩⟩
def bW(f:De->Option (List Dt)):De->Option T:=fun δ=>(f δ).bind fun ds=>if ds.length<=qb4 then some (.leaf (.tup ds))else none
def bX(f:De->Option (List Dt)):De->Option T:=fun δ=>(f δ).bind fun ds=>if ds.length<=qb4 then some (.lst ds)else none
theorem bq{x1}(h:DA X es fs):DO X (.Tuple es x1 pos) (bW fs):=PE.mono (Bp h.pa) fun σ H Q ⟨Φ,δ,F,t,Z,O,q,k⟩=>by
 unfold bW at q;obtain⟨ds,Y,q⟩:=bS q;split at q
 .rename_i hl;cases q;refine⟨Φ,δ,F,ds,Z,O,Y,fun vs H1 F1 st r=>⟨by rw[r.length];exact hl,fun p hp=>?_⟩⟩;refine(k.step st).leaf _ _ _ (Step.new st.fh hp) ?_;simp only[Rep];exact⟨p,vs,rfl,SqT.of bn,r.same (Same.upd (st.fh.free hp))⟩
 .cases q
theorem eI{F:Hp}(k:KO K F H (.lst ds) Q)(q:Same F H)(r:Reps K F ds vs)(hp:H p=none):Q (.ref p) (upd H p (.lst vs)):=by
 refine k _ _ F (fun b=>b=p) (Step.made q hp) ⟨p,vs,rfl,rfl,bn,r⟩ fun b z=>?_
 subst z;exact⟨q.free hp,hp,_,bn,nofun⟩
theorem bc(h:DA X es fs):DO X (.List es pos) (bX fs):=PE.mono (Bq h.pa) fun σ H Q ⟨Φ,δ,F,t,Z,O,q,k⟩=>by
 unfold bX at q;obtain⟨ds,Y,q⟩:=bS q;split at q
 .rename_i hl;cases q;exact⟨Φ,δ,F,ds,Z,O,Y,fun vs H1 F1 st r=>⟨by rw[r.length];exact hl,fun p hp=>eI (k.step st) st.fh r hp⟩⟩
 .cases q
def CRD(K:xA9)(r:List V->Hp->VK->Prop)(g:List Dt->Option T):Prop:=∀F H ds vs (Q:VK) t,Same F H->l5 K F H ds vs->g ds=some t->KO K F H t Q->r vs H Q
def ao(g:List Dt->Option T)(f:De->Option (List Dt)):De->Option T:=fun δ=>(f δ).bind g
theorem vd{r:List V->Hp->VK->Prop}{g:List Dt->Option T}(O:CRD K r g)(h:tO K (ao g fs) σ H Q):tCB r (tAB K fs) σ H Q:=by obtain⟨Φ,δ,F,t,hK,Y,q,k⟩:=h;unfold ao at q;obtain⟨ds,Z,q⟩:=bS q;exact⟨Φ,δ,F,ds,hK,Y,Z,fun vs H1 F1 st r=>O F1 H1 ds vs Q t st.fh r q (k.step st)⟩
variable{x:Str}{p:Pos}{id Ty:String}{sc:Jd}{r:List V->Hp->VK->Prop}{gg:List Dt->Option T}
theorem aR (h:aC sc x=true) (hc:dh X (.builtin id) r) (Y:CRD X.K r gg) (Z:X.mg x=none) (hv:qd7 x=some (.builtin id)) (ha:DAB X (e::es) fs) (e1:cH X sc:=by rfl)
  (he:qa9 (e::es) X.env=(false,eval e X.env)::qa9 es X.env:=by rfl) (O:(qj9 pos (qa9 es X.env)).any (·.1)=false:=by rfl):DO X (.Call (.Name x p) (e::es) [] pos) (ao gg fs):=
 PE.mono (jm h hc Z hv ha.pa e1 he O) fun σ H Q q=>vd Y q
theorem dk (h:aC sc x=true) (hc:dh X (.type Ty) r) (Y:CRD X.K r gg) (Z:X.mg x=none) (hv:qd7 x=some (.type Ty)) (ha:DAB X (e::es) fs) (e1:cH X sc:=by rfl)
  (he:qa9 (e::es) X.env=(false,eval e X.env)::qa9 es X.env:=by rfl) (O:(qj9 pos (qa9 es X.env)).any (·.1)=false:=by rfl):DO X (.Call (.Name x p) (e::es) [] pos) (ao gg fs):=
 PE.mono (kF h hc Z hv ha.pa e1 he O) fun σ H Q q=>vd Y q
def spD(K:xA9)(n:Nat)(f:List Dt->Option T):Sp:=fun vs H Q _=>∃F ds t,Same F H/\ds.length=n/\Reps K F ds vs/\f ds=some t/\KO K F H t Q
theorem av{k:Nat}{O:List Dt->Option T}(h:aC sc x=true)(F:OkF X.prog X.w X.K X.mg X.base x k ps (spD X.K n O))(hr:Room k X.A)(ha:DA X (e::es) fs)(hn:(e::es).length=n:=by rfl)(e1:cH X sc:=by rfl)
 (he:qa9 (e::es) X.env=(false,eval e X.env)::qa9 es X.env:=by rfl) (Y:(qj9 pos (qa9 es X.env)).any (·.1)=false:=by rfl):DO X (.Call (.Name x p) (e::es) [] pos) (ao O fs):=
 PE.mono (sZ h F hr ha.pa e1 he Y) fun σ H Q ⟨Φ,δ,Fz,t,hK,en,q,k⟩=>by unfold ao at q;obtain⟨ds,Z,q⟩:=bS q;refine⟨Φ,δ,Fz,ds,hK,en,Z,fun vs H1 F1 st r=>?_⟩;show spD X.K n O (vs++[]) H1 Q E0;rw[qn2];exact⟨F1,ds,t,st.fh,(ha.len δ ds Z).trans hn,r,q,k.step st⟩
end
inductive Out where
 |nx (δ:De)|rt (t:T)|bk (δ:De)|ct (δ:De)
structure Rt(Φ:Fm)(t:T)(v:V)(F H:Hp):Prop where
 fh:Same F H
 prot:∀b o,Φ.H0 b=some o->¬ Φ.S0 b->H b=some o
 old:Same Φ.F0 F
 nw:∀b o,F b=some o->Φ.F0 b=some o∨Φ.B b∨∃vs,Φ.H0 b=some (.tup vs)
 own:∃S,Own Φ.K F H t v S/\∀b,S b->F b=none/\(∃o,H b=some o/\NT o)/\Φ.B b
def Post(Φ:Fm)(D:Ends):Out->Prop
 |.nx δ=>∀ σ F H,En Φ δ σ F H->D.nx σ H
 |.rt t=>∀v F H,Rt Φ t v F H->D.rt v H
 |.bk δ=>∀ σ F H,En Φ δ σ F H->D.bk σ H
 |.ct δ=>∀ σ F H,En Φ δ σ F H->D.ct σ H
def tS(K:xA9)(g:De->Option Out):TS:=fun D σ H=>∃ Φ δ F o,Fm.K Φ=K/\En Φ δ σ F H/\g δ=some o/\Post Φ D o
def DS1(X:Cx)(st:Jb)(g:De->Option Out):Prop:=PS X st (tS X.K g)
def DS(X:Cx)(ss:List Jb)(g:De->Option Out):Prop:=PSs X ss (tS X.K g)
variable{Φ:Fm}{δ:De}{F' H':Hp}{N:List Str}{D:Ends}{es:List Jc}{ts:List Nat}{bb:Dt->De->Option De}{J:It}{xs:List V}
section
variable{X:Cx}{st:Jb}{rest a b body:List Jb}{g g1 g2:De->Option Out}{e c tg iter:Jc}{pos:Pos}{f:De->Option T}{fd:De->Option Dt}{tc:De->Option Bool}{i:Nat}
def bJ:De->Option Out:=fun δ=>some (.nx δ)
def aw(g1 g2:De->Option Out):De->Option Out:=fun δ=>(g1 δ).bind fun o=>match o with
 |.nx q=>g2 q
 |o=>some o
theorem aT:DS X [] bJ:=PSs.mono xI fun D σ H ⟨Φ,δ,F,o,Y,O,q,k⟩=>by cases q;exact k σ F H O
theorem ar(h:DS1 X st g):DS X [st] g:=qS h
theorem ah(h1:DS1 X st g1)(h2:DS X rest g2):DS X (st::rest) (aw g1 g2):=PSs.mono (iD h1 h2) fun D σ H ⟨Φ,δ,F,o,Z,en,O,k⟩=>by
 unfold aw at O;obtain⟨o1,h1,O⟩:=bS O;refine⟨Φ,δ,F,o1,Z,en,h1,?_⟩;cases o1 with
 |nx q=>exact fun σ' F' H' Y=>⟨Φ,q,F',o,Z,Y,O,k⟩
 |rt t=>cases O;exact k
 |bk q=>cases O;exact k
 |ct q=>cases O;exact k
def bB(f:De->Option T):De->Option Out:=fun δ=>(f δ).map .rt
theorem En.rt{F:Hp}{t:T}{S:J9->Prop}(Y:En Φ δ σ F H)(st:Step F H F' H')(o:Own Φ.K F' H' t v S)(O:∀b,S b->F' b=none/\H b=none/\∃o,H' b=some o/\NT o):Rt Φ t v F' H':=by have q:=Y.step st;exact⟨q.fh,q.prot,q.old,q.nw,S,o,fun b z=>⟨(O b z).1,(O b z).2.2,Y.fresh (O b z).2.1⟩⟩
theorem aO(h:DO X e f):DS1 X (.Return (some e) pos) (bB f):=PS.mono (pO h) fun D σ H ⟨Φ,δ,F,o,Y,O,q,k⟩=>by unfold bB at q;obtain⟨t,Z,q⟩:=mS q;cases q;exact⟨Φ,δ,F,t,Y,O,Z,fun v H' F' S st o hs=>k v F' H' (O.rt st (Y▸o) hs)⟩
def gE(i:Nat):De->Option Out:=fun δ=>match δ[i]? with
 |some (some t)=>some (.rt t)
 |_=>none
theorem eJ(h:PE X e (iC i)):DS1 X (.Return (some e) pos) (gE i):=PS.mono (pO h) fun D σ H ⟨Φ,δ,F,o,hK,O,Y,k⟩=>by
 unfold gE at Y;split at Y
 .rename_i t q;cases Y;obtain⟨v,Z⟩:=O.has i t q;obtain⟨S,s⟩:=O.sep;exact⟨v,Z,k v F H ⟨O.fh,O.prot,O.old,O.nw,S i,s.own i t v (cD q Z),fun b z=>s.out i b z⟩⟩
 .cases Y
def sIf(c:De->Option Bool)(g1 g2:De->Option Out):De->Option Out:=fun δ=>(c δ).bind fun b=>if b then g1 δ else g2 δ
theorem bu(hc:DT X c tc)(h1:DS X a g1)(h2:DS X b g2):DS1 X (.If c a b pos) (sIf tc g1 g2):=PS.mono (DJ hc h1 h2) fun D σ H ⟨Φ,δ,F,o,Z,Y,O,k⟩=>by
 unfold sIf at O;obtain⟨x,hx,O⟩:=bS O;refine⟨Φ,δ,F,x,Z,Y,hx,fun H' F' st=>?_⟩;split at O
 .rename_i q;rw[if_pos q];exact⟨Φ,δ,F',o,Z,Y.step st,O,k⟩
 .rename_i q;rw[if_neg q];exact⟨Φ,δ,F',o,Z,Y.step st,O,k⟩
def aF(i:Nat)(f:De->Option T):De->Option Out:=fun δ=>(f δ).map fun t=>.nx (δ.set i (some t))
theorem ve{sc:Jd}{pos':Pos}(h:cS sc N i x=true)(hl:iM sc x=true)(nd:N.Nodup)(he:DO X e f)(e1:cH X sc:=by rfl)(e2:X.N=N:=by rfl)(hf:X.fn x=true∨X.env.scope.names.lookup x=some .local:=by exact .inl rfl)
 (O:qn0 e (some (.Name x pos')) pos.line X.env=pure false:=by rfl):DS1 X (.Assign [.Name x pos'] e pos) (aF i f):=PS.mono (rq h hl nd he e1 e2 hf O) fun D σ H ⟨Φ,δ,F,o,Z,Y,q,k⟩=>by
 unfold aF at q;obtain⟨t,ht,q⟩:=mS q;cases q;exact⟨Φ,δ,F,t,Z,Y,ht,fun v H' F' S st o O=>k _ F' H' (Y.put st (Z▸o) O i)⟩
def p9(i:Nat)(g:De->Option Out):De->Option Out:=fun δ=>match δ[i]? with
 |some (some t)=>t.d.bind fun d=>g (δ.set i (some (.leaf d)))
 |_=>none
theorem BN(h:tS K (p9 i g) D σ H):tS K g D σ H:=by
 obtain⟨Φ,δ,F,o,hK,Z,O,k⟩:=h;unfold p9 at O;split at O
 .rename_i t q;obtain⟨d,hd,O⟩:=bS O;obtain⟨F',Y⟩:=Z.freeze q hd;exact⟨Φ,_,F',o,hK,Y,O,k⟩
 .cases O
theorem rD(h:DS1 X st g):DS1 X st (p9 i g):=PS.mono h fun D σ H q=>BN q
noncomputable def gD(K:xA9)(ts:List Nat)(st:Dt->De->Option De):TG:=fun v σ H Q=>∃ Φ δ F d O,Fm.K Φ=K/\En Φ δ σ F H/\Rep K F d v/\st d δ=some O/\∀q,q.length=σ.length->(∀j,j∉ts->q[j]?=σ[j]?)->En Φ O q F H->Q q H
noncomputable def gsD(K:xA9)(ts:List Nat)(st:List Dt->De->Option De):TGs:=fun vs σ H Q=>∃ Φ δ F ds O,Fm.K Φ=K/\En Φ δ σ F H/\Reps K F ds vs/\st ds δ=some O/\∀q,q.length=σ.length->(∀j,j∉ts->q[j]?=σ[j]?)->En Φ O q F H->Q q H
def DG(X:Cx)(tg:Jc)(ts:List Nat)(bb:Dt->De->Option De):Prop:=PG X tg (gD X.K ts bb)
def DGs(X:Cx)(tg:List Jc)(ts:List Nat)(bb:List Dt->De->Option De):Prop:=PGs X tg (gsD X.K ts bb)
def ap(i:Nat):Dt->De->Option De:=fun d δ=>some (δ.set i (some (.leaf d)))
theorem En.name{F:Hp}(q:En Φ δ σ F H){d:Dt}(r:Rep Φ.K F d v)(i:Nat):En Φ (δ.set i (some (.leaf d))) (σ.set i (some v)) F H:=q.put (Step.refl q.fh) (S':=fun _=>False) (t:=.leaf d) r (fun _ z=>z.elim) i
theorem aD(h:PG X tg (kl i)):DG X tg [i] (ap i):=PG.mono h fun v σ H Q ⟨Φ,δ,F,d,q,Z,O,r,Y,k⟩=>by cases Y;refine k _ (by simp) (fun j hj=>?_) (O.name (Z▸r) i);rw[List.getElem?_set_ne fun z=>hj (by simp[z])]
def eL:List Dt->De->Option De:=fun ds δ=>if ds.isEmpty then some δ else none
def aX(b:Dt->De->Option De)(bs:List Dt->De->Option De):List Dt->De->Option De:=fun ds δ=>match ds with
 |d::r=>(b d δ).bind fun δ1=>bs r δ1
 |[]=>none
def fX(n:Nat)(bs:List Dt->De->Option De):Dt->De->Option De:=fun d δ=>match d with
 |.tup ds=>if ds.length=n then bs ds δ else none
 |_=>none
theorem eN:DGs X [] [] eL:=fun J1 s σ H vs us Q I r q=>xJ J1 s σ H vs us Q I r (by
 obtain⟨Φ,δ,F,ds,Z,hK,en,Y,O,k⟩:=q;unfold eL at O;cases ds with
 |nil=>cases O;simp only[Reps]at Y;exact⟨Y,k σ rfl (fun _ _=>rfl) en⟩
 |cons d l=>cases O)
theorem be{Y:List Nat}{bs:List Dt->De->Option De}(h1:DG X e ts bb)(h2:DGs X es Y bs)
 (hs:(qi7 (e::es) X.env).map (·.2)=zc9 e X.env::(qi7 es X.env).map (·.2):=by rfl):DGs X (e::es) (ts++Y) (aX bb bs):=fun J1 s σ H vs us Q I r q=>uB h1 h2 hs J1 s σ H vs us Q I r (by
 obtain⟨Φ,δ,F,ds,δ',hK,en,rs,O,k⟩:=q;unfold aX at O;cases ds with
 |nil=>cases O
 |cons d l=>simp only[Reps]at rs;obtain⟨v,ws,e,r1,r2⟩:=rs;dsimp only at O;obtain⟨δ1,hb,O⟩:=bS O;refine⟨v,ws,e,Φ,δ,F,d,δ1,hK,en,r1,hb,fun σ1 l1 k1 en1=>⟨Φ,δ1,F,l,δ',hK,en1,r2,O,fun σ2 l2 k2 Z=>k σ2 (l2.trans l1) (fun j hj=>?_) Z⟩⟩;rw[k2 j fun z=>hj (qc7 _ z),k1 j fun z=>hj (qh0 _ z)])
theorem jn{k:Nat}{bs:List Dt->De->Option De}(hc:X.calm=true)(h:DGs X es ts bs)
 (hn:(qi7 es X.env).length=n:=by rfl) (Z:(qi7 es X.env).findIdx? (·.1)=none:=by rfl):DG X (.Tuple es k pos) ts (fX n bs):=PG.mono (Bb hc h hn Z) fun v σ H Q ⟨Φ,δ,F,d,Y,hK,en,r,O,q⟩=>by
 unfold fX at O;split at O
 .rename_i ds;split at O
  .rename_i hl;simp only[Rep]at r;obtain⟨a,vs,e,h1,h2⟩:=r;exact⟨a,vs,e,en.fh.tup h1,by rw[h2.length];exact hl,Φ,δ,F,ds,Y,hK,en,h2,O,q⟩
  .cases O
 .cases O
def oB(fd:De->Option Dt)(bb:Dt->De->Option De):De->Option Out:=fun δ=>(fd δ).bind fun d=>(bb d δ).map .nx
theorem kG(he:DL X e fd)(q:DG X tg ts bb)(hs:zg4 [tg] e pos.line X.env=pure false:=by rfl)(hw:zg5 [tg] e X.env=pure none:=by rfl)
 (h1:(qi7 [tg] X.env).map (·.2)=[zc9 tg X.env]:=by rfl):DS1 X (.Assign [tg] e pos) (oB fd bb):=PS.mono (uC he q hs hw h1) fun D σ H ⟨Φ,δ,F,o,hK,en,q,k⟩=>by
 unfold oB at q;obtain⟨d,hd,q⟩:=bS q;obtain⟨O,hb,q⟩:=mS q;cases q;exact⟨Φ,δ,F,d,hK,en,hd,fun v H' F' st r=>⟨Φ,δ,F',d,O,hK,en.step st,r,hb,fun Y _ _ Z=>k Y F' H' Z⟩⟩
noncomputable def rE(K:xA9)(F':Hp)(J:It)(ds:List Dt)(ok:Hp->Prop):Prop:=∀(i:Nat)(H F:Hp),ok H->Same F H->Same F' F->(i<ds.length->J.go i H)/\(i=ds.length->J.stop i H)/\∀x H',i<ds.length->J.yld i H x H'->∃d q,ds[i]?=some d/\Step F H q H'/\Rep K q d x
theorem Plain.walk{ok:Hp->Prop}(pl:Plain J xs ok)(r:Reps K F' ds xs):rE K F' J ds ok:=fun i H F q fh Y=>by
 obtain⟨p1,p2,p3⟩:=pl i H q;have hl:=r.length;refine⟨fun h=>p1 (by lia),fun h=>p2 (by lia),fun x H' hi hy=>?_⟩;obtain⟨rfl,Z⟩:=p3 x H' (by lia) hy;have O:ds[i]?=some ds[i]:=by simp[hi]
 obtain⟨v,e,rv⟩:=r.get O;rw[Z]at e;cases e;exact⟨_,F,O,Step.refl fh,rv.same Y⟩
def tIF(K:xA9)(f:De->Option (List Dt)):TI:=fun σ H R=>∃ Φ δ F ds,Fm.K Φ=K/\En Φ δ σ F H/\f δ=some ds/\∀J ok H' F',Step F H F' H'->rE K F' J ds ok->(∀H2,Same F' H2->ok H2)->R J H'
def tIB(K:xA9)(f:De->Option (List Dt)):TI:=fun σ H R=>∃ Φ δ F ds,Fm.K Φ=K/\En Φ δ σ F H/\f δ=some ds/\∀J ok H' F',Step F H F' H'->rE K F' J ds ok->(∀H2,Same H' H2->ok H2)->R J H'
def DIF(X:Cx)(tg iter:Jc)(f:De->Option (List Dt)):Prop:=PI X tg iter (tIF X.K f)
def DIB(X:Cx)(tg iter:Jc)(f:De->Option (List Dt)):Prop:=PI X tg iter (tIB X.K f)
theorem DIF.toB{fi:De->Option (List Dt)}(h:DIF X tg iter fi):DIB X tg iter fi:=PI.mono h fun σ H R ⟨Φ,δ,F,ds,O,q,Y,k⟩=>⟨Φ,δ,F,ds,O,q,Y,fun J ok H' F' st wd Z=>k J ok H' F' st wd fun H2 s=>Z H2 (st.fh.trans s)⟩
end
variable{F1 H1:Hp}
section
variable{X:Cx}{st:Jb}{rest a b body:List Jb}{g g1 g2:De->Option Out}{e c tg iter l:Jc}{pos:Pos}{f:De->Option T}{fd:De->Option Dt}{tc:De->Option Bool}{i:Nat}{fi:De->Option (List Dt)}
noncomputable def cu(bb:Dt->De->Option De)(g:De->Option Out):List Dt->De->Option Out
 |[],δ=>some (.nx δ)
 |d::r,δ=>(bb d δ).bind fun δ1=>(g δ1).bind fun o=>match o with
  |.nx q=>cu bb g r q
  |.ct q=>cu bb g r q
  |.bk q=>some (.nx q)
  |.rt t=>some (.rt t)
def dD(fi:De->Option (List Dt))(bb:Dt->De->Option De)(g:De->Option Out):De->Option Out:=fun δ=>(fi δ).bind fun ds=>cu bb g ds δ
theorem Reps.same_get{F:Hp}(r:Reps K F ds xs){x:V}(h:xs[i]?=some x):∃d,ds[i]?=some d/\Rep K F d x:=by
 have Y:=r.length;have hi:i<xs.length:=(gX h).1;have q:ds[i]?=some ds[i]:=by simp[show i<ds.length by lia]
 obtain⟨v,e,O⟩:=r.get q;rw[h]at e;cases e;exact⟨_,q,O⟩
theorem rF{α:Type}{l:List α}{d:α}(h:l[i]?=some d):l.drop i=d::l.drop (i+1):=by have hi:i<l.length:=(gX h).1;rw[List.drop_eq_getElem_cons hi];congr 1;have:=(gX h).2;exact this
def Fm.at(Φ:Fm)(F1:Hp):Fm:={Φ with F0:=F1}
theorem En.back{δ':De}{q:St}{F:Hp}(O:En Φ δ σ F1 H1)(e:En (Φ.at F1) δ' q F H):En Φ δ' q F H:=⟨e.fh,e.prot,O.old.trans e.old,fun b o h=>(e.nw b o h).elim (fun z=>O.nw b o z) .inr,e.len,e.has,e.sep⟩
theorem Rt.back{F:Hp}{t:T}(q:En Φ δ σ F1 H1)(e:Rt (Φ.at F1) t v F H):Rt Φ t v F H:=⟨e.fh,e.prot,q.old.trans e.old,fun b o h=>(e.nw b o h).elim (fun z=>q.nw b o z) .inr,e.own⟩
theorem En.at(q:En Φ δ σ F1 H1):En (Φ.at F1) δ σ F1 H1:=⟨q.fh,q.prot,Same.refl _,fun b o h=>.inl h,q.len,q.has,q.sep⟩
theorem Post.at{o:Out}(Y:En Φ δ σ F1 H1)(k:Post Φ D o):Post (Φ.at F1) D o:=by
 cases o with
 |nx O=>exact fun q F H e=>k q F H (Y.back e)
 |bk O=>exact fun q F H e=>k q F H (Y.back e)
 |ct O=>exact fun q F H e=>k q F H (Y.back e)
 |rt t=>exact fun v F H e=>k v F H (Rt.back Y e)
theorem vf{g:TG}{tb:TS}(Pv:Nat->St->Hp->Prop)(h0:Pv 0 σ H1)(Y:∀i σ H,Pv i σ H->(i<n->J.go i H)/\(i=n->J.stop i H))
 (hs:∀i x σ H H',i<n->Pv i σ H->J.yld i H x H'->g x σ H' fun O H2=>tb {D with nx:=Pv (i+1),ct:=Pv (i+1),bk:=D.nx} O H2) (hd:∀ σ H,Pv n σ H->D.nx σ H):ForW g tb D J σ H1:=by
 refine⟨fun i m σ H=>m=n-i/\i<=n/\Pv i σ H,⟨n,by simp,qi3 _,h0⟩,?_⟩;rintro i m σ H ⟨rfl,hi,p⟩;obtain⟨p1,p2⟩:=Y i σ H p;by_cases q:i<n
 .exact .inr ⟨p1 q,Pv (i+1),fun Z H' p'=>⟨n-(i+1),by lia,rfl,q,p'⟩,fun x H' y=>hs i x σ H H' q p y⟩
 .have e:i=n:=by lia
  subst e;exact .inl ⟨p2 rfl,hd σ H p⟩
theorem cY(hp:zj0 (model X.prog X.w) X.A X.env X.xe)(hc:X.calm=true)(hi:DIF X tg iter fi)(hg:DG X tg ts bb)(hb:DS X body g)
 (hs:∀x,qh7 iter X.env x=pure x:=by intro _;rfl):DS1 X (.For tg iter body [] pos) (dD fi bb g):=PS.mono (Bh hp hc hi hg hb hs) fun D σ H ⟨Φ,δ,F,o,hK,en,hg,k⟩=>by
 unfold dD at hg;obtain⟨ds,hd,hg⟩:=bS hg;rw[ya];refine⟨Φ,δ,F,ds,hK,en,hd,fun J ok H1 F1 st1 wd ho=>?_⟩;have en1:=en.step st1;have k1:=Post.at en1 k;refine vf (n:=ds.length) (fun i σ' H'=>∃Z F',En (Φ.at F1) Z σ' F' H'/\cu bb g (ds.drop i) Z=some o) ⟨δ,F1,en1.at,by simpa using hg⟩ (fun i σ' H' ⟨Z,F',Y,_⟩=>?_) ?_ ?_
 .obtain⟨p1,p2,_⟩:=wd i H' F' (ho H' (Y.old.trans Y.fh)) Y.fh Y.old;exact⟨p1,p2⟩
 .rintro i x σ' H' H'' hi ⟨Z,F',Y,O⟩ hy;obtain⟨_,_,p3⟩:=wd i H' F' (ho H' (Y.old.trans Y.fh)) Y.fh Y.old;obtain⟨d,F2,hd',st2,rd⟩:=p3 x H'' hi hy;rw[rF hd']at O;unfold cu at O;obtain⟨δ1,h1,O⟩:=bS O;obtain⟨o1,h2,O⟩:=bS O;refine⟨Φ.at F1,Z,F2,d,δ1,hK,Y.step st2,rd,h1,fun σ1 _ _ en1=>⟨Φ.at F1,δ1,F2,o1,hK,en1,h2,?_⟩⟩;cases o1 with
  |nx δ2=>exact fun σ2 F2 H2 en2=>⟨δ2,F2,en2,O⟩
  |ct δ2=>exact fun σ2 F2 H2 en2=>⟨δ2,F2,en2,O⟩
  |bk δ2=>cases O;exact fun σ2 F2 H2 en2=>k1 σ2 F2 H2 en2
  |rt t=>cases O;exact fun v F2 H2 q=>k1 v F2 H2 q
 .rintro σ' H' ⟨Z,F',Y,O⟩;rw[List.drop_length]at O;cases O;exact k1 σ' F' H' Y
noncomputable def bz(c:De->Option Bool)(g:De->Option Out):Nat->De->Option Out
 |0,_=>none
 |n+1,δ=>(c δ).bind fun b=>if b then(g δ).bind fun o=>match o with
  |.nx q=>bz c g n q
  |.ct q=>bz c g n q
  |.bk q=>some (.nx q)
  |.rt t=>some (.rt t)
 else some (.nx δ)
theorem eX(n:Nat)(hp:zj0 (model X.prog X.w) X.A X.env X.xe)(hc:DT X c tc)(hb:DS X body g):DS1 X (.While c body [] pos) (bz tc g n):=PS.mono (uD hp hc hb) fun D σ H ⟨Φ,δ,F,o,hK,en,hg,k⟩=>by
 refine⟨fun m σ' H'=>∃ δ' F',En Φ δ' σ' F' H'/\bz tc g m δ'=some o,⟨n,δ,F,en,hg⟩,?_⟩;rintro m σ' H' ⟨δ',F',en',O⟩;cases m with
 |zero=>cases O
 |succ m=>
  unfold bz at O;obtain⟨x,hx,O⟩:=bS O;refine⟨Φ,δ',F',x,hK,en',hx,fun H1 F1 st=>?_⟩;split at O
  .rename_i q;rw[if_pos q];obtain⟨o1,h2,O⟩:=bS O;refine⟨fun Z H2=>∃Y F2,En Φ Y Z F2 H2/\bz tc g m Y=some o,fun Z H2 z=>⟨m,qo4 m,z⟩,Φ,δ',F1,o1,hK,en'.step st,h2,?_⟩;cases o1 with
   |nx Y=>exact fun Z F2 H2 en2=>⟨Y,F2,en2,O⟩
   |ct Y=>exact fun Z F2 H2 en2=>⟨Y,F2,en2,O⟩
   |bk Y=>cases O;exact fun Z F2 H2 en2=>k Z F2 H2 en2
   |rt t=>cases O;exact fun v F2 H2 q=>k v F2 H2 q
  .rename_i q;rw[if_neg q];cases O;exact k σ' F1 H1 (en'.step st)
def Eb(x:Str):List Dt:=x.cps.toList.map fun c=>.str ⟨#[c]⟩
def eY(lo:Int)(n:Nat):List Dt:=(qb2 n).map fun(i:Nat)=>.int (lo+i)
theorem Reps.map{F:Hp}{α:Type}{f:α->Dt}{g:α->V}(h:∀x,Rep K F (f x) (g x)):∀l:List α,Reps K F (l.map f) (l.map g)
 |[]=>by simp[Reps]
 |x::l=>by simp only[qa5,Reps];exact⟨_,_,rfl,h x,Reps.map h l⟩
def itD:Dt->Option (List Dt)
 |.lst l=>some l
 |.tup l=>some l
 |.str x=>some (Eb x)
 |_=>none
def fIt(f:De->Option Dt):De->Option (List Dt):=fun δ=>(f δ).bind itD
theorem eZ(h:DL X l fd):DIF X tg l (fIt fd):=PI.mono (PI.or (qV h) (PI.or (uE h) (uX h))) fun σ H R ⟨Φ,δ,F,ds,Z,O,q,k⟩=>by
 unfold fIt at q;obtain⟨d,Y,q⟩:=bS q;cases d with
 |lst l=>cases q;refine .inl ⟨Φ,δ,F,_,Z,O,Y,fun v H' F' st r=>?_⟩;simp only[Rep]at r;obtain⟨a,vs,rfl,h1,h2⟩:=r;exact⟨a,rfl,⟨vs,st.fh.seq h1⟩,k _ _ H' F' st (plain_list.walk h2) fun H2 s=>s.seq h1⟩
 |tup l=>cases q;refine .inr (.inl ⟨Φ,δ,F,_,Z,O,Y,fun v H' F' st r=>?_⟩);simp only[Rep]at r;obtain⟨a,vs,rfl,h1,h2⟩:=r;exact⟨a,rfl,⟨vs,st.fh.tup h1⟩,k _ _ H' F' st (plain_tup.walk h2) fun H2 s=>s.tup h1⟩
 |str x=>cases q;refine .inr (.inr ⟨Φ,δ,F,_,Z,O,Y,fun v H' F' st r=>?_⟩);simp only[Rep]at r;exact⟨x,r,k _ _ H' F' st (plain_str.walk (Reps.map (fun c=>iP) _)) fun _ _=>trivial⟩
 |_=>cases q
theorem cb(h:DB X l fd):DIB X tg l (fIt fd):=PI.mono (PI.or (qV h) (PI.or (uE h) (uX h))) fun σ H R ⟨Φ,δ,F,ds,Z,O,q,k⟩=>by
 unfold fIt at q;obtain⟨d,Y,q⟩:=bS q;cases d with
 |lst l=>cases q;refine .inl ⟨Φ,δ,F,_,Z,O,Y,fun v H' F' st r=>?_⟩;obtain⟨a,vs,rfl,h1,h2⟩:=r;exact⟨a,rfl,⟨vs,h1⟩,k _ _ H' F' st (plain_list.walk h2) fun H2 s=>s.seq h1⟩
 |tup l=>cases q;refine .inr (.inl ⟨Φ,δ,F,_,Z,O,Y,fun v H' F' st r=>?_⟩);obtain⟨a,vs,rfl,h1,h2⟩:=r;exact⟨a,rfl,⟨vs,st.fh.tup h1⟩,k _ _ H' F' st (plain_tup.walk h2) fun H2 s=>s.tup (st.fh.tup h1)⟩
 |str x=>cases q;refine .inr (.inr ⟨Φ,δ,F,_,Z,O,Y,fun v H' F' st r=>?_⟩);exact⟨x,r,k _ _ H' F' st (plain_str.walk (Reps.map (fun c=>iP) _)) fun _ _=>trivial⟩
 |_=>cases q
def gi(j:Int):Bool:=decide (-(2^62)<=j)&&decide (j<2^62)
def fB:List Dt->Option (List Dt)
 |[.int j]=>if gi j then some (eY 0 j.toNat)else none
 |_=>none
def qa:List Dt->Option (List Dt)
 |[.int i,.int j]=>if gi i&&gi j then some (eY i (j-i).toNat)else none
 |_=>none
def dq(r:List Dt->Option (List Dt))(f:De->Option (List Dt)):De->Option (List Dt):=fun δ=>(f δ).bind r
variable{p:Pos}{sc:Jd}{x y:Jc}{fs:De->Option (List Dt)}
theorem eS{j:Int}(h:gi j=true):-(2^62)<=j/\j<2^62:=by unfold gi at h;simpa using h
theorem kH{F:Hp}(lo:Int)(n:Nat):Reps K F (eY lo n) (kx lo n):=Reps.map (fun _=>fW) _
theorem cy(h:aC sc "range"=true)(Y:X.mg "range"=none)(ha:DA X [x] fs)(e1:cH X sc:=by rfl)(hs:qa9 [x] X.env=[(false,eval x X.env)]:=by rfl):DIF X tg (.Call (.Name "range" p) [x] [] pos) (dq fB fs):=
 PI.mono (p5 h Y ha.pa e1 hs) fun σ H R ⟨Φ,δ,F,ds,hK,Z,q,k⟩=>by
  unfold dq at q;obtain⟨as,hd,q⟩:=bS q;refine⟨Φ,δ,F,as,hK,Z,hd,fun vs H' F' st r=>?_⟩;unfold fB at q;split at q
  .rename_i j;split at q
   .rename_i O;cases q;simp only[Reps,Rep]at r;obtain⟨v,ws,rfl,rfl,rfl⟩:=r;exact⟨j,rfl,(eS O).1,(eS O).2,k _ _ H' F' st (plain_range.walk (kH _ _)) fun _ _=>trivial⟩
   .cases q
  .cases q
theorem tq (h:aC sc "range"=true) (Z:X.mg "range"=none) (ha:DA X [x,y] fs) (e1:cH X sc:=by rfl) (hs:qa9 [x,y] X.env=[(false,eval x X.env),(false,eval y X.env)]:=by rfl) (Y:qa9 [y] X.env=[(false,eval y X.env)]:=by rfl) :
  DIF X tg (.Call (.Name "range" p) [x,y] [] pos) (dq qa fs):=
 PI.mono (p6 h Z ha.pa e1 hs Y) fun σ H R ⟨Φ,δ,F,ds,hK,en,q,k⟩=>by
  unfold dq at q;obtain⟨as,hd,q⟩:=bS q;refine⟨Φ,δ,F,as,hK,en,hd,fun vs H' F' st r=>?_⟩;unfold qa at q;split at q
  .rename_i i j;split at q
   .rename_i O;rw[qb3]at O;cases q;simp only[Reps,Rep]at r;obtain⟨v,ws,rfl,rfl,w,us,rfl,rfl,rfl⟩:=r;exact⟨i,j,rfl,⟨(eS O.1).1,(eS O.1).2,(eS O.2).1,(eS O.2).2⟩,k _ _ H' F' st (plain_range.walk (kH _ _)) fun _ _=>trivial⟩
   .cases q
  .cases q
end
def dC(src:List (Option Nat))(δ:De):De:=src.map fun o=>o.bind fun j=>(δ[j]?).join
noncomputable def bK(bb:Dt->De->Option De)(ft:De->Option Bool)(fe:De->Option Dt)(δ:De):List Dt->Option (List Dt)
 |[]=>some []
 |d::r=>(bb d δ).bind fun δ1=>(ft δ1).bind fun b=>if b then(fe δ1).bind fun y=>(bK bb ft fe δ r).bind fun ys=>some (y::ys)else bK bb ft fe δ r
noncomputable def br(src:List (Option Nat))(fi:De->Option (List Dt))(bb:Dt->De->Option De)(ft:De->Option Bool)(fe:De->Option Dt):De->Option T:=fun δ =>(fi δ).bind fun ds=>(bK bb ft fe (dC src δ) ds).bind fun ys=>if ys.length<=qb4 then some (.lst ys)else none
def cg:De->Option Bool:=fun _=>some true
def DTs(X:Cx)(ifs:List Jc)(f:De->Option Bool):Prop:=PTs X ifs (tTr X.K f)
theorem cP:DTs X [] cg:=fun J1 s σ H Q I h=>xY J1 s σ H Q I (by obtain⟨Φ,δ,F,b,Y,q,O,k⟩:=h;cases O;exact k H F (Step.refl q.fh))
theorem c8{c:Jc}{f:De->Option Bool}(h:DT X c f):DTs X [c] f:=xZ h
section
variable{X:Cx}{elt tg iter:Jc}{ifs:List Jc}{scope:Jd}{pos:Pos}{M:List Str}{src:List (Option Nat)}{fi:De->Option (List Dt)}{ft:De->Option Bool}{fe:De->Option Dt}
theorem ye(S:CmpScope X.N X.env.scope scope M src){k l:Nat}(hk:src[k]?=some (some j))(Z:src[l]?=some (some j)):k=l:=by
 have nm:∀k,src[k]?=some (some j)->∃x,M[k]?=some x/\X.N[j]?=some x:=fun k h=>by
  have q:k<M.length:=by rw[S.len];exact(gX h).1
  have O:M[k]?=some M[k]:=by simp[q]
  have hz:(M.zip src)[k]?=some (M[k],some j):=by rw[qq8];exact⟨O,h⟩
  exact⟨_,O,(S.src _ (qd3 hz) j rfl).1⟩
 obtain⟨x,h1,h2⟩:=nm k hk;obtain⟨y,h3,Y⟩:=nm l Z;rw[h2]at Y;cases Y;exact(List.getElem?_inj (gX h1).1 S.nd).mp (h1.trans h3.symm)
theorem vg{k:Nat}{t:T}(h:(dC src δ)[k]?=some (some t)):∃j,src[k]?=some (some j)/\δ[j]?=some (some t):=by
 unfold dC at h;rw[qb1]at h;cases e:src[k]? with
 |none=>rw[e]at h;cases h
 |some o=>
  rw[e]at h;cases o with
  |none=>cases h
  |some j=>
   simp only[ql1,qa2,qt6]at h;refine⟨j,rfl,?_⟩;cases q:δ[j]? with
   |none=>rw[q]at h;cases h
   |some u=>rw[q]at h;simp only[qr0]at h;rw[h]
theorem yf{k:Nat}(h1:src[k]?=some (some j))(h2:σ[j]?=some (some v)):(stC src σ)[k]?=some (some v):=by unfold stC;rw[qb1,h1];simp[h2]
theorem vh{k:Nat}(h:(stC src σ)[k]?=some (some v)):∃j,src[k]?=some (some j)/\σ[j]?=some (some v):=by
 unfold stC at h;rw[qb1]at h;cases e:src[k]? with
 |none=>rw[e]at h;cases h
 |some o=>
  rw[e]at h;cases o with
  |none=>cases h
  |some j=>
   simp only[ql1,qa2,qt6]at h;refine⟨j,rfl,?_⟩;cases q:σ[j]? with
   |none=>rw[q]at h;cases h
   |some u=>rw[q]at h;simp only[qr0]at h;rw[h]
theorem En.comp{F:Hp}(S:CmpScope X.N X.env.scope scope M src)(q:En Φ δ σ F H):En Φ (dC src δ) (stC src σ) F H:=by
 refine⟨q.fh,q.prot,q.old,q.nw,by simp[dC,stC],fun k t h=>?_,?_⟩
 .obtain⟨j,h1,h2⟩:=vg h;obtain⟨v,hv⟩:=q.has j t h2;exact⟨v,yf h1 hv⟩
 .obtain⟨Z,s⟩:=q.sep;refine⟨fun k b=>∃j,src[k]?=some (some j)/\Z j b,fun k t v h=>?_,fun k b ⟨j,_,z⟩=>s.out j b z,fun k l b ⟨j,h1,z⟩⟨j',h2,z'⟩=>?_⟩
  .obtain⟨h1,h2⟩:=dY h;obtain⟨j,Y,e2⟩:=vg h1;obtain⟨j',O,e4⟩:=vh h2;rw[Y]at O;cases O;exact(s.own j t v (cD e2 e4)).grow fun b z=>⟨j,Y,z⟩
  .have:=s.dis _ _ b z z';subst this;exact ye S h1 h2
theorem tu{g:TG}{tt:TT}{te:TE}{D:J9}(Pv:Nat->Hp->Prop)(h0:Pv 0 (upd H1 D (.lst [])))(Y:∀i H,Pv i H->(i<n->J.go i H)/\(i=n->J.stop i H))
 (hs:∀i x H H',i<n->Pv i H->J.yld i H x H'->g x (stC src σ) H' fun q H2=>Wk (stC src σ) q/\tt q H2 fun b Z=>if b=true then te q Z fun v H4=>∃ys,H4 D=some (.lst ys)/\ys.length<qb4/\Pv (i+1) (upd H4 D (.lst (ys++[v])))else Pv (i+1) Z)
 (hd:∀H,Pv n H->Q (.ref D) H):zS src g tt te σ J H1 Q D:=by
 refine⟨fun i m H=>m=n-i/\i<=n/\Pv i H,⟨n,by simp,qi3 _,h0⟩,?_⟩;rintro i m H ⟨rfl,hi,p⟩;obtain⟨p1,p2⟩:=Y i H p;by_cases O:i<n
 .exact .inr ⟨p1 O,Pv (i+1),fun H' p'=>⟨n-(i+1),by lia,rfl,O,p'⟩,fun x H' y=>hs i x H H' O p y⟩
 .have e:i=n:=by lia
  subst e;exact .inl ⟨p2 rfl,hd H p⟩
theorem m8(S:CmpScope X.N X.env.scope scope M src)(hts:(ts.all fun k=>decide (src[k]?=some none))=true):∀(σ:St)(H:Hp)(Q:VK),tO X.K (br src fi bb ft fe) σ H Q->ou src (tIB X.K fi) (gD X.K ts bb) (tTr X.K ft) (tL X.K fe) σ H Q:=fun σ H Q ⟨Φ,δ,F,t,hK,en,hf,k⟩=>by
 unfold br at hf;obtain⟨ds,hd,hf⟩:=bS hf;obtain⟨all,ha,hf⟩:=bS hf;split at hf
 case isFalse=>cases hf
 rename_i hz;cases hf;rw[u2];refine⟨Φ,δ,F,ds,hK,en,hd,fun J ok H1 F1 st1 wd ho D hD=>?_⟩;have en1:=en.step st1;have k1:=k.step st1
 have wk:∀{σ2:St},σ2.length=(stC src σ).length->(∀j,j∉ts->σ2[j]?=(stC src σ)[j]?)->Wk (stC src σ) σ2:=fun {σ2} h1 h2=>by
  refine⟨h1.symm,fun j v hj=>?_⟩;by_cases hm:j∈ts
  .have:=qj7.mp hts j hm;have hn:src[j]?=some none:=of_decide_eq_true this;obtain⟨i,e,_⟩:=vh hj;rw[hn]at e;cases e
  .rw[h2 j hm];exact hj
 have ok':∀{F H:Hp},Step F1 H1 F H->ok H:=fun st=>ho _ st.hh
 refine tu (n:=ds.length) (fun i H=>∃F ys done Y,Step F1 H1 F H/\H D=some (.lst ys)/\F D=none/\Reps X.K F done ys/\bK bb ft fe (dC src δ) (ds.drop i)=some Y/\done++Y=all) ?_ ?_ ?_ ?_
 .exact⟨F1,[],[],all,Step.made st1.fh hD,bn,st1.fh.free hD,by simp[Reps],by simpa using ha,rfl⟩
 .rintro i H' ⟨F',ys,done,Y,st,_⟩;obtain⟨p1,p2,_⟩:=wd i H' F' (ok' st) st.fh st.ff;exact⟨p1,p2⟩
 .rintro i x H0' H' hi ⟨F0',ys,done,Y,st0,hD0,hFD0,rys0,O,Z⟩ hy0;obtain⟨_,_,p3⟩:=wd i H0' F0' (ok' st0) st0.fh st0.ff;obtain⟨d,F',hd',stw,rd⟩:=p3 x H' hi hy0;have st:=st0.trans stw;have hD':H' D=some (.lst ys):=stw.hh _ _ hD0;have hFD:F' D=none:=stw.keepN hFD0 hD0;have rys:=rys0.same stw.ff;rw[rF hd']at O;unfold bK at O;obtain⟨δ1,h1,O⟩:=bS O;obtain⟨b,h2,O⟩:=bS O;refine⟨Φ,dC src δ,F',d,δ1,hK,(en1.step st).comp S,rd,h1,fun σ2 l2 k2 en2=>⟨wk l2 k2,Φ,δ1,F',b,hK,en2,h2,fun H3 F3 st3=>?_⟩⟩;have hD3:H3 D=some (.lst ys):=st3.hh _ _ hD';have hF3:F3 D=none:=st3.keepN hFD hD';dsimp only;split at O
  .rename_i q;rw[if_pos q];obtain⟨y,hy,O⟩:=bS O;obtain⟨zs,hzs,O⟩:=bS O;cases O;refine⟨Φ,δ1,F3,y,hK,en2.step st3,hy,fun v H4 F4 st4 rv=>?_⟩;have hD4:H4 D=some (.lst ys):=st4.hh _ _ hD3;have hF4:F4 D=none:=st4.keepN hF3 hD3;have s14:=(st.trans st3).trans st4;refine⟨ys,hD4,?_,F4,ys++[v],done++[y],zs,?_,bn,hF4,(rys.same (st3.ff.trans st4.ff)).append (Reps.one rv),hzs,by rw[<- Z];simp⟩
   .have e1:=rys.length;have e2:all.length=done.length+(zs.length+1):=by rw[<- Z];simp
    lia
   .refine⟨fun c o e=>?_,s14.ff,fun c o e=>?_,s14.nw⟩
    .rw[aP (ck e hD)];exact s14.hh _ _ e
    .rw[aP (ck e hF4)];exact s14.fh _ _ e
  .rename_i q;rw[if_neg q];exact⟨F3,ys,done,Y,st.trans st3,hD3,hF3,rys.same st3.ff,O,Z⟩
 .rintro H' ⟨F',ys,done,Y,st,hD',hFD,rys,O,Z⟩;rw[List.drop_length]at O;cases O;rw[qn2]at Z;subst Z
  exact k1 (.ref D) H' F' (fun b=>b=D) st ⟨D,ys,rfl,rfl,hD',rys⟩ fun b z=>by subst z;exact⟨hFD,hD,_,hD',nofun⟩
theorem j3(S:CmpScope X.N X.env.scope scope M src)(hc:X.calm=true)(hi:DIB X tg iter fi)(hg:M.Nodup->∀C s H ex,DG (cxC X M scope C s H ex) tg ts bb)
 (O:∀C s H ex,DTs (cxC X M scope C s H ex) ifs ft) (he:∀C s H ex,DL (cxC X M scope C s H ex) elt fe) (q:(ts.all fun k=>decide (src[k]?=some none))=true) (Z:∀x,qh7 iter X.env x=pure x:=by intro _;rfl) :
  DO X (.ListComp elt [⟨tg,iter,ifs,0⟩] scope pos) (br src fi bb ft fe):=PE.mono (uW (g:=gD X.K ts bb) (tt:=tTr X.K ft) (te:=tL X.K fe) S hc hi (fun Y C s H ex=>hg Y C s H ex) (fun C s H ex=>O C s H ex) (fun C s H ex=>he C s H ex) Z) (m8 S q)
end
def cj(m:Nat)(g:De->Option Out):List Dt->Option T:=fun ds=>match g (ds.map (fun d=>some (T.leaf d))++qg3 (m-ds.length) none)with
 |some (.rt t)=>some t
 |some (.nx _)=>some (.leaf .non)
 |_=>none
theorem fJ {F:Hp} (fh:Same F H) (r:Reps K F ds vs) :
  En ⟨K,F,H,fun _=>False⟩ (ds.map (fun d=>some (T.leaf d))++qg3 (N.length-ds.length) none) (start N vs) F H:=by
 have hl:=r.length
 have q:∀(i:Nat)(t:T),(ds.map (fun d=>some (T.leaf d))++qg3 (N.length-ds.length) none)[i]?=some (some t)->∃d v,t=T.leaf d/\vs[i]?=some v/\Rep K F d v/\(start N vs)[i]?=some (some v):=fun i t h=>by
  by_cases hi:i<ds.length
  .rw[qc6 (by simpa using hi),qb1]at h;have Y:ds[i]?=some ds[i]:=by simp[hi]
   rw[Y]at h;cases h;obtain⟨v,Z,O⟩:=r.get Y;refine⟨_,v,rfl,Z,O,?_⟩;unfold start;rw[qc6 (by simp;lia),qb1,Z];rfl
  .rw[qd6 (by simpa using hi)]at h;rw[qk0]at h;split at h<;>cases h
 refine⟨fh,fun b o h _=>h,Same.refl _,fun b o h=>.inl h,by simp[start,hl],fun i t h=>?_,fun _ _=>False,fun i t v h=>?_,fun _ _ z=>z.elim,fun _ _ _ z=>z.elim⟩
 .obtain⟨d,v,_,_,_,e⟩:=q i t h;exact⟨v,e⟩
 .obtain⟨h1,h2⟩:=dY h;obtain⟨d,w,rfl,_,O,e⟩:=q i t h1;rw[h2]at e;cases e;exact O
variable{st:Jb}
section
variable{P:qc9}{w:Ja}{K:xA9}{mg:Str->Option Value}{base:Heap}
theorem Rt.step{F:Hp}{t:T}(h:Rt ⟨K,F,H,fun _=>False⟩ t v F' H')(k:KO K F H t Q):Q v H':=by
 obtain⟨Z,q,O,nw,S,o,Y⟩:=h;refine k v H' F' S ⟨fun b u e=>q b u e id,O,Z,fun b u e=>(nw b u e).elim .inl fun z=>.inr (z.imp (fun y=>y.elim id qg2) id)⟩ o fun b z=>?_
 obtain⟨h1,h2,h3⟩:=Y b z;exact⟨h1,h3.elim id qg2,h2⟩
theorem bT{k:Nat}{g:De->Option Out}(D:DefF K mg x st ps)(S:FnScope N ps (aa st))(hn:ps.length=n)
 (O:∀(f:J9)(cdv:Value)(A:qe0)(outer:List Env)(s:qa4)(H:Hp)(E:XK),Room k (A.deeper (qz0 x (aa st) s.heap.objs.size f cdv))->DS (ko CX0 P w K mg base N x (aa st) f cdv A outer s H E).nox (bh st) g) :
  OkF P w K mg base x (k+1) ps (spD K n (cj N.length g)):=by
 refine D.ok S (fun vs H Q E h=>?_) (fun f cdv A outer s H vs Q E hr h=>?_)
 .obtain⟨F,ds,t,_,Z,r,_⟩:=h;rw[r.length,Z,hn]
 .obtain⟨F,ds,t,fh,Z,r,Y,kq⟩:=h;refine⟨_,O f cdv A outer s H E hr,?_⟩;unfold cj at Y;split at Y
  .rename_i t' q;cases Y;exact⟨⟨K,F,H,fun _=>False⟩,_,F,_,rfl,fJ fh r,q,fun v F' H' z=>z.step kq⟩
  .rename_i δ' q;cases Y;exact⟨⟨K,F,H,fun _=>False⟩,_,F,_,rfl,fJ fh r,q,fun σ' F' H' z=>(z.rt (Step.refl z.fh) (t:=.leaf .non) (S:=fun _=>False) (iQ (K:=K) (F:=F')) fun _ y=>y.elim).step kq⟩
  .cases Y
theorem Ec{k:Nat}{g:De->Option Out}{f:J9}{fd:qp9}(D:Fun K x x st f fd)(S:FnScope N ps (aa st))(hn:ps.length=n)
 (O:∀(cdv:Value)(A:qe0)(outer:List Env)(s:qa4)(H:Hp)(E:XK),Room k (A.deeper (qz0 x (aa st) s.heap.objs.size f cdv))->DS (ko CX0 P w K mg base N x (aa st) f cdv A outer s H E).nox (bh st) g) :
  FnOk P w K mg base CX0 (k+1) f fd ps (spD K n (cj N.length g)):=by
 refine D.ok S (fun vs H Q E h=>?_) (fun cdv A outer s H vs Q E hr h=>?_)
 .obtain⟨F,ds,t,_,Z,r,_⟩:=h;rw[r.length,Z,hn]
 .obtain⟨F,ds,t,fh,Z,r,Y,kq⟩:=h;refine⟨_,O cdv A outer s H E hr,?_⟩;unfold cj at Y;split at Y
  .rename_i t' q;cases Y;exact⟨⟨K,F,H,fun _=>False⟩,_,F,_,rfl,fJ fh r,q,fun v F' H' z=>z.step kq⟩
  .rename_i δ' q;cases Y;exact⟨⟨K,F,H,fun _=>False⟩,_,F,_,rfl,fJ fh r,q,fun σ' F' H' z=>(z.rt (Step.refl z.fh) (t:=.leaf .non) (S:=fun _=>False) (iQ (K:=K) (F:=F')) fun _ y=>y.elim).step kq⟩
  .cases Y
end
def SameX(F F':Hp):Prop:=∀b o,F b=some o->(∀ob φ,o≠.frz ob (.ext φ))->F' b=some o
section
variable{K:xA9}{F F':Hp}
theorem SameX.rd(e:SameX F F')(h:Rd F a u)(h1:∀ob φ,u≠.frz ob (.ext φ))(h2:∀ φ,u≠.ext φ):Rd F' a u:=by
 rcases h with h|⟨o,h⟩
 .exact .inl (e _ _ h h1)
 .exact .inr ⟨o,e _ _ h fun ob φ z=>h2 φ (by cases z;rfl)⟩
mutual
theorem Rep.sameX(e:SameX F F'):∀{d:Dt}{v:V},Rep K F d v->Rep K F' d v
 |.non,v,h=>h
 |.bl _,v,h=>h
 |.int _,v,h=>h
 |.str _,v,h=>h
 |.tup l,v,h=>by unfold Rep at h ⊢;obtain⟨a,vs,h1,h2,h3⟩:=h;exact⟨a,vs,h1,h2.imp (fun z=>e _ _ z fun _ _ z=>nomatch z) id,Reps.sameX e h3⟩
 |.lst l,v,h=>by unfold Rep at h ⊢;obtain⟨a,vs,h1,h2,h3⟩:=h;exact⟨a,vs,h1,h2.imp (fun z=>e.rd z (fun _ _ z=>nomatch z) fun _ z=>nomatch z) id,Reps.sameX e h3⟩
 |.dct ks l,v,h=>by unfold Rep at h ⊢;obtain⟨a,vs,h1,h2,h3,h4⟩:=h;exact⟨a,vs,h1,(e.rd h2 (fun _ _ z=>nomatch z) (fun _ z=>nomatch z)),h3,Reps.sameX e h4⟩
 |.dcT ks l,v,h=>by unfold Rep at h ⊢;obtain⟨a,vs,h1,h2,h3,h4⟩:=h;exact⟨a,vs,h1,(e.rd h2 (fun _ _ z=>nomatch z) (fun _ z=>nomatch z)),h3,Reps.sameX e h4⟩
theorem Reps.sameX(e:SameX F F'):∀{l:List Dt}{vs:List V},Reps K F l vs->Reps K F' l vs
 |[],vs,h=>h
 |d::l,vs,h=>by unfold Reps at h ⊢;obtain⟨v,ws,h1,h2,h3⟩:=h;exact⟨v,ws,h1,Rep.sameX e h2,Reps.sameX e h3⟩
end
end
def deC(m:Nat)(ds caps:List Dt):De:=ds.map (fun d=>some (T.leaf d))++(qg3 (m-ds.length-caps.length) none++caps.map (fun d=>some (T.leaf d)))
def ia(m:Nat)(g:De->Option Out)(caps:List Dt):List Dt->Option T:=fun ds=>match g (deC m ds caps)with
 |some (.rt t)=>some t
 |some (.nx _)=>some (.leaf .non)
 |_=>none
theorem tw{F:Hp}{caps:List Dt}{fs:List V}(fh:Same F H)(r:Reps K F ds vs)(rc:Reps K F caps fs):En ⟨K,F,H,fun _=>False⟩ (deC N.length ds caps) (eU N vs fs) F H:=by
 have hl:=r.length;have hc:=rc.length
 have O:∀(i:Nat)(t:T),(deC N.length ds caps)[i]?=some (some t)->∃d v,t=T.leaf d/\Rep K F d v/\(eU N vs fs)[i]?=some (some v):=fun i t h=>by
  unfold deC at h;unfold eU;rw[hl,hc];by_cases hi:i<ds.length
  .rw[qc6 (by simpa using hi),qb1]at h;have Y:ds[i]?=some ds[i]:=by simp[hi]
   rw[Y]at h;cases h;obtain⟨v,Z,q⟩:=r.get Y;refine⟨_,v,rfl,q,?_⟩;rw[qc6 (by simp;lia),qb1,Z];rfl
  .rw[qd6 (by simpa using hi),qa1]at h;rw[qd6 (by simp;lia),qa1,hl];by_cases hj:i-ds.length<N.length-ds.length-caps.length
   .rw[qc6 (by simpa using hj),qk0]at h;split at h<;>cases h
   .rw[qd6 (by simpa using hj),qm1,qb1]at h;obtain⟨d,Y,e⟩:=mS h;cases e;obtain⟨v,Z,q⟩:=rc.get Y;refine⟨d,v,rfl,q,?_⟩;rw[qd6 (by simpa using hj),qm1,qb1,Z];rfl
 refine⟨fh,fun b o h _=>h,Same.refl _,fun b o h=>.inl h,?_,fun i t h=>?_,fun _ _=>False,fun i t v h=>?_,fun i b z=>z.elim,fun i j b z _=>z.elim⟩
 .unfold deC eU;simp[hl,hc]
 .obtain⟨d,v,_,_,e⟩:=O i t h;exact⟨v,e⟩
 .obtain⟨h1,h2⟩:=dY h;obtain⟨d,v',rfl,q,e⟩:=O i t h1;rw[h2]at e;cases e;exact q
section
variable{P:qc9}{w:Ja}{K:xA9}{mg:Str->Option Value}{base:Heap}{N ps fr:List Str}{name qual:Str}{params:qj0}{body:List Jb}{scope:Jd}{f c':J9}{cl:List (Str×J9)}{H:Hp}{fs:List V}{doc pm ctv:Value}{fo:Obj}{uf:HO}{k:Nat}{g:De->Option Out}{caps ds:List Dt}{F0:Hp}{t:T}
theorem ClAt.up(C:ClAt H f name qual params body scope cl fr fs c' doc pm ctv fo uf)(h:∀b o u,H b=some (.frz o u)->H' b=some (.frz o u)):ClAt H' f name qual params body scope cl fr fs c' doc pm ctv fo uf:=⟨h _ _ _ C.fn,C.dat,let ⟨oc,z⟩:=C.cod;⟨oc,h _ _ _ z⟩,fun x c q=>let ⟨o,u,g,d⟩:=C.cel x c q;⟨o,u,h _ _ _ g,d⟩,C.inj,C.len,fun i x v h1 h2=>let ⟨c,o,u,e1,e2,e3⟩:=C.val i x v h1 h2;⟨c,o,u,e1,h _ _ _ e2,e3⟩,C.nms⟩
theorem rG (S:ClScope N ps fr scope) (ndn:∀ x,∀ y∈scope.names,y.1=x->scope.names.lookup x=some y.2) (C:ClAt H f name qual params body scope cl fr fs c' doc pm ctv fo uf) (rc:Reps K F0 caps fs)
  (hbd:∀(s:qa4)(us:List Value),us.length=ps.length->za2 s (xG9 name qual params body scope cl .none .none doc pm none (.ref c') ctv) ⟨us,[]⟩ (ps.zip us))
  (hbody:∀(A:qe0)(outer:List Env)(s:qa4)(H:Hp),Room k (A.deeper (iJ qual scope s.heap.objs.size f (.ref c') cl))->DS (oz CX0 P w K mg base N qual scope f (.ref c') cl A outer s H E0 fun _ _=>False) body g)
  (hl:ds.length=ps.length) (ht:ia N.length g caps ds=some t) (A:qe0) (outer:List Env) (s:qa4) (H' F:Hp) (us:List Value) (vs:List V) (Q:VK) (hr:Room (k+1) A) (hp:∀b o u,H b=some (.frz o u)->H' b=some (.frz o u)) (e0:Env0 P w K mg base A outer s H') (h0:Same F0 F) (fh:Same F H') (r:Vals vs us) (rd:Reps K F ds vs) (kq:KO K F H' t Q) :
  qq5 (model P w) A (.call (.ref f) ⟨us,[]⟩) (CR CX0 outer P w H' s Q E0) s:=by
 have C':=C.up hp;have hvl:vs.length=ps.length:=by rw[rd.length,hl]
 have cn:∀b,b∈cl.map (·.2)->∃o u,H' b=some (gd b o)/\o.data=.cell (some u):=fun b O=>by obtain⟨x,hx⟩:=iL O;exact C'.cel x b hx
 have hsx:SameX F (da F cl):=fun b o e hn=>by
  rw[bI fun z=>?_]
  .exact e
  .obtain⟨ob,u,g,_⟩:=cn b z;have:=fh b o e;rw[g]at this;exact hn _ _ (qd9 this).symm
 have fh':Same (da F cl) (da H' cl):=fun b o e=>by obtain⟨O,e⟩:=lZ e;rw[bI O];exact fh b o e
 have fin:∀v F2 H2,Rt ⟨K,da F cl,da H' cl,fun _=>False⟩ t v F2 H2->(∀b∈cl.map (·.2),H2 b=none)->Q v (fH H' cl H2):=fun v F2 H2 R hn=>by
  obtain⟨fh2,prot,old,nw,So,o,hs⟩:=R;have sin:∀{b:J9},b∈cl.map (·.2)->fH H' cl H2 b=H' b:=fun O=>if_pos O
  have Z:∀{b:J9},b∉cl.map (·.2)->fH H' cl H2 b=H2 b:=fun O=>if_neg O
  let F3:Hp:=fH F cl F2;have tin:∀{b:J9},b∈cl.map (·.2)->F3 b=F b:=fun O=>if_pos O
  have Y:∀{b:J9},b∉cl.map (·.2)->F3 b=F2 b:=fun O=>if_neg O
  have nF2:∀b,b∈cl.map (·.2)->F2 b=none:=fun b O=>by
   cases z:F2 b with
   |none=>rfl
   |some u=>have:=fh2 b u z;rw[hn b O]at this;cases this
  have h23:Same F2 F3:=fun b u e=>by
   by_cases O:b∈cl.map (·.2)
   .rw[nF2 b O]at e;cases e
   .rw[Y O];exact e
  have hh23:Same H2 (fH H' cl H2):=fun b u e=>by
   by_cases O:b∈cl.map (·.2)
   .rw[hn b O]at e;cases e
   .rw[Z O];exact e
  refine kq v (fH H' cl H2) F3 So ⟨fun b u e=>?_,fun b u e=>?_,fun b u e=>?_,fun b u e=>?_⟩ (Own.step h23 (fun b u _ e=>hh23 b u e) o) fun b z=>?_
  .by_cases O:b∈cl.map (·.2)
   .rw[sin O];exact e
   .rw[Z O];exact prot b u ((bI O).trans e) id
  .by_cases O:b∈cl.map (·.2)
   .rw[tin O];exact e
   .rw[Y O];exact old b u ((bI O).trans e)
  .by_cases O:b∈cl.map (·.2)
   .rw[tin O]at e;rw[sin O];exact fh b u e
   .rw[Y O]at e;rw[Z O];exact fh2 b u e
  .by_cases O:b∈cl.map (·.2)
   .rw[tin O]at e;exact .inl e
   .rw[Y O]at e;rcases nw b u e with y|y|⟨ws,y⟩
    .exact .inl ((bI O).symm.trans y)
    .exact .inr (.inl ((bI O).symm.trans (y.elim id qg2)))
    .exact .inr (.inr ⟨ws,(bI O).symm.trans y⟩)
  .obtain⟨h1,⟨u,h2,nt⟩,h3⟩:=hs b z;have O:b∉cl.map (·.2):=fun y=>by rw[hn b y]at h2;cases h2
   exact⟨by rw[Y O];exact h1,(bI O).symm.trans (h3.elim id qg2),u,by rw[Z O];exact h2,nt⟩
 have hul:us.length=ps.length:=by rw[<- r.length];exact hvl
 refine u4 (CX:=CX0) (E:=E0) S C' ndn hr e0 (hbd s us hul) hvl r fun hr2=>⟨_,hbody A outer s (da H' cl) hr2,?_⟩
 have en:=tw (N:=N) fh' (rd.sameX hsx) ((rc.same h0).sameX hsx);unfold ia at ht;split at ht
 .rename_i t' q;cases ht;exact⟨_,_,_,_,rfl,en,q,fun v F2 H2 R=>fin v F2 H2 R⟩
 .rename_i δ' q;cases ht;exact⟨_,_,_,_,rfl,en,q,fun σ' F2 H2 z=>fin .non F2 H2 (z.rt (Step.refl z.fh) (t:=.leaf .non) (S:=fun _=>False) (iQ (K:=K) (F:=F2)) fun _ y=>y.elim)⟩
 .cases ht
end
end L2
namespace L2
open PySem PySem.Spec PyProof.Rows
structure MadeH(H H':Hp)(f c':J9)(qual:Str)(fo:Obj):Prop where
 fn:H' f=some (.frz fo (.ext fun h=>h.get? f=some fo))
 cod:∃oc,H' c'=some (.frz oc (.code qual))
 old:Same H H'
 free:H f=none
noncomputable def tDef(P:J9)(qs:List ((Nat×Nat)×Str))(i:Nat)(name qual:Str)(params:qj0)(body:List Jb)(scope:Jd)(clos:List (Str×J9)):TS:=fun D σ H=>H P=some (.ctab qs)/\∀(f c':J9)(doc pm ctv:Value)(H':Hp),MadeH H H' f c' qual {cls:=.type "function",data:=.func (xG9 name qual params body scope clos .none .none doc pm none (.ref c') ctv)}->D.nx (σ.set i (some (.ref f))) H'
section
variable{X:Cx}{c P:J9}{qs:List ((Nat×Nat)×Str)}{name qual:Str}{params:qj0}{body:List Jb}{scope:Jd}{clos:List (Str×J9)}{pos:Pos}{i:Nat}
theorem BO (hN:X.N.Nodup) (hi:X.N[i]?=some name) (hx:Loc X.env.scope name) (hfn:X.fn name=true∨X.env.scope.names.lookup name=some .local) (B:TabB X.mg X.base c P) (O:X.env.code=.ref c) (Y:qualnameIn X.env name name=qual) (hq:((pos.line,pos.col),qual)∈qs) (Z:∀ q,((pos.line,pos.col),q)∈qs->q=qual) (hcl:ze8 scope X.env=pure clos)
  (hd0:params.defaults=[]) (hk0:params.kw_defaults=[]) (ha:annTrees params none X.env=[]):PS X (.FunctionDef name params body [] none [] scope none name pos) (tDef P qs i name qual params body scope clos):=by
 intro J1 s σ H D I h;obtain⟨hP,q⟩:=h;refine PySem.W.nestDef_K hd0 hk0 ha ?_;rw[Y];refine yb I B O hP hq Z hcl fun f c' doc pm ctv H' s' M I'=>?_
 exact iB I' hN hi hx (v:=.ref f) rfl (fun s2 I2=>⟨_,H',I2,q f c' doc pm ctv H' ⟨M.fn,M.cod,fun b o e=>M.old b o e,I.hok.fresh M.lof⟩⟩) hfn
end
def bZ(X:Cx)(b:J9):Prop:=∃x,X.env.cells.lookup x=some b
open Classical in
def jI(X:Cx)(H:Hp):Hp:=fun b=>if bZ X b then none else H b
structure PlusC(X:Cx)(σ:St)(H H':Hp):Prop where
 out:∀b,¬ bZ X b->H' b=H b
 fre:∀b,bZ X b->H b=none
 cel:∀x c,X.env.cells.lookup x=some c->∃o v,H' c=some (gd c o)/\o.data=.cell v/\∀(i:Nat)(val:V),X.N[i]?=some x->σ[i]?=some (some val)->(X.env.kindOf x=some .cell∨X.env.kindOf x=some .free)->∃u,v=some u/\RelV val u
variable{H':Hp}{u:Value}
section
variable{X:Cx}{J1:List (J9×Obj)}{σ:St}{H:Hp}{s:qa4}
theorem oC{b:J9}(h:bZ X b):jI X H b=none:=if_pos h
theorem cI{b:J9}(h:¬ bZ X b):jI X H b=H b:=if_neg h
open Classical in
theorem yg(I:Inv X J1 σ H s)(O:∀b,bZ X b->b∉frs X.stack/\∀o,X.base.get? b≠some o):∃H',PlusC X σ H H'/\Env0 X.prog X.w X.K X.mg X.base X.A X.stack s H':=by
 let H':Hp:=fun b=>if bZ X b then(s.heap.get? b).map (gd b)else H b
 have hin:∀{b:J9},bZ X b->H' b=(s.heap.get? b).map (gd b):=fun h=>if_pos h
 have q:∀{b:J9},¬ bZ X b->H' b=H b:=fun h=>if_neg h
 have e0:=I.env0;refine⟨H',⟨fun b h=>q h,fun b ⟨x,hx⟩=>I.freeC x b hx,fun x c e=>?_⟩,⟨e0.frames,e0.mod,fun b o e=>⟨(e0.bs b o e).1,?_⟩,e0.bsz,e0.funs,fun b Z=>?_,fun b u e=>?_,e0.bare,fun p hp=>by rw[q fun⟨x,hx⟩=>by have:=I.freeC x _ hx;rw[e0.tb p hp]at this;cases this];exact e0.tb p hp⟩⟩
 .obtain⟨v,o,Y,hd⟩:=I.cell x c e;refine⟨o,v,by rw[hin ⟨x,e⟩,Y];rfl,hd,fun i val h1 h2 h3=>?_⟩;obtain⟨m,_,hl⟩:=I.loc;have hv:Vis X.env.scope x:=h3.elim (fun z=>.inr (.inl z)) fun z=>.inr (.inr z)
  obtain⟨u,ru,lk⟩:=hl i x val h1 h2 hv;rcases lk with ⟨k1,_⟩|⟨_,c2,k2,o2,k3,k4⟩
  .rcases h3 with z|z<;>(rw[k1]at z;cases z)
  .rw[e]at k2;cases k2;rw[Y]at k3;cases k3;rw[hd]at k4;cases k4;exact⟨u,rfl,ru⟩
 .have:¬ bZ X b:=fun z=>(O b z).2 o e
  rw[q this];exact(e0.bs b o e).2
 .have:¬ bZ X b:=fun z=>(O b z).1 Z
  rw[q this];exact e0.frf b Z
 .have up:∀c u,H c=some u->H' c=some u:=fun c u z=>by
   rw[q]
   .exact z
   .rintro⟨x,hx⟩;rw[I.freeC x c hx]at z;cases z
  by_cases Z:bZ X b
  .rw[hin Z]at e;obtain⟨o,Y,rfl⟩:=mS e;exact⟨Y,Y,⟨o,Y⟩,fun h1 h2 z1 z2=>z2 o z1⟩
  .rw[q Z]at e;exact(I.hok b u e).stay (fun _ _ _ z=>z) (fun c z=>up c _ z) (fun c xs z=>up c _ z) fun c ob xs z=>up c _ z
theorem Inv.afterP{Q:VK}{s':qa4}(I:Inv X J1 σ H s)(pc:PlusC X σ H H')(ok':HOk X.prog X.w H' s.heap)(h:CE X.stack X.prog X.w H' s (fun v H2=>(∀c,bZ X c->H2 c=H' c)->Q v (jI X H2)) u s'):EP X J1 σ Q u s':=by
 obtain⟨v,H2,os,bare,un,hok,r,q⟩:=h;obtain⟨hh,g,d,t,os'⟩:=s';obtain rfl:os'=s.os:=os
 have Y:∀{b:J9},bZ X b->∃o,H' b=some (gd b o)/\s.heap.get? b=some o/\H2 b=some (gd b o)/\hh.get? b=some o:=fun {b} hb=>by obtain⟨x,Z⟩:=hb;obtain⟨o,v,e,_⟩:=pc.cel x b Z;have e2:=un.frzs b o _ e;exact⟨o,e,(ok' b _ e).1,e2,(hok b _ e2).1⟩
 have nc:∀{b:J9}{w:HO},H b=some w->¬ bZ X b:=fun {b w} z ⟨x,Z⟩=>by rw[I.freeC x b Z]at z;cases z
 refine⟨v,jI X H2,I.call (h':=hh) (g':=g) (d':=d) (t':=t) (ch:=[]) ⟨fun b o e n hb Z=>?_,fun b o e n hb Z=>?_,fun b o e n Z=>?_,un.there,fun b xs e=>?_,fun b o w e=>?_,fun b ps e=>?_,fun b qs e=>?_⟩ (fun b w e=>?_) bare (fun b z=>absurd z (by simp)),r,q fun c O=>?_⟩
 .by_cases O:bZ X b
  .obtain⟨o',_,h1,_,h2⟩:=Y O;rw[e]at h1;cases h1;exact h2
  .exact un.keep b o e (by rw[pc.out b O];exact n) hb Z
 .by_cases O:bZ X b
  .obtain⟨o',_,h1,_,h2⟩:=Y O;rw[e]at h1;cases h1;exact⟨o.slots,h2⟩
  .exact un.slot b o e (by rw[pc.out b O];exact n) hb Z
 .by_cases O:bZ X b
  .exact oC O
  .rw[cI O];exact un.free b o e (by rw[pc.out b O];exact n) Z
 .rw[cI (nc e)];exact un.tups b xs (by rw[pc.out b (nc e)];exact e)
 .rw[cI (nc e)];exact un.frzs b o w (by rw[pc.out b (nc e)];exact e)
 .rw[cI (nc e)];exact un.tbls b ps (by rw[pc.out b (nc e)];exact e)
 .rw[cI (nc e)];exact un.cts b qs (by rw[pc.out b (nc e)];exact e)
 .by_cases O:bZ X b
  .rw[oC O]at e;cases e
  .rw[cI O]at e
   have up:∀c u,H2 c=some u->(∀ob φ,u≠.frz ob (.ext φ))->jI X H2 c=some u:=fun c u z hn=>by
    rw[cI]
    .exact z
    .intro hcc;obtain⟨o',_,_,h1,_⟩:=Y hcc;rw[z]at h1;exact hn _ _ (qd9 h1)
   exact(hok b w e).stay (fun _ _ _ z=>z) (fun c z=>up c _ z fun _ _ y=>nomatch y) (fun c xs z=>up c _ z fun _ _ y=>nomatch y) fun c ob xs z=>up c _ z fun _ _ y=>nomatch y
 .obtain⟨o',h1,_,h2,_⟩:=Y O;rw[h1,h2]
end
variable{l:List Dt}{vs:List V}
section
variable{K:xA9}{F H:Hp}{Q:VK}
theorem KO.int{i:Int}(k:KO K F H (.leaf (.int i)) Q)(q:Same F H):Q (.int i) H:=k.leaf.here q fW
theorem KO.bl{i:Bool}(k:KO K F H (.leaf (.bl i)) Q)(q:Same F H):Q (.bl i) H:=k.leaf.here q p8
theorem KO.str{i:Str}(k:KO K F H (.leaf (.str i)) Q)(q:Same F H):Q (.str i) H:=k.leaf.here q iP
theorem KO.tup{p:J9}(k:KO K F H (.leaf (.tup l)) Q)(q:Same F H)(r:Reps K F l vs)(hp:H p=none):Q (.ref p) (upd H p (.tup vs)):=by refine k.leaf _ _ _ (Step.new q hp) ?_;simp only[Rep];exact⟨p,vs,rfl,SqT.of bn,r.same (Same.upd (q.free hp))⟩
end
def jJ(i j:Int):Bool:=(decide (-(2^64)<i)&&decide (i<2^64))||(decide (-(2^64)<j)&&decide (j<2^64))
theorem yh{i j:Int}(h:jJ i j=true):CMul i j:=by unfold jJ at h;simp only[qi4,qb3,decide_eq_true_eq]at h;exact h
theorem yi{i j:Int}(h1:-1000000000000000000<i)(h2:i<1000000000000000000):jJ i j=true:=by unfold jJ;simp only[qi4,qb3,decide_eq_true_eq];left;lia
theorem yj{i j:Int}(h1:-1000000000000000000<j)(h2:j<1000000000000000000):jJ i j=true:=by unfold jJ;simp only[qi4,qb3,decide_eq_true_eq];right;lia
def l7(i j:Int):Bool:=decide (0<=j)&&decide (j<=1000000)&&decide (i.natAbs<2^64)
theorem yk{i j:Int}(h:l7 i j=true):Bj i j:=by unfold l7 at h;simp only[qb3,decide_eq_true_eq]at h;exact⟨h.1.1,h.1.2,h.2⟩
noncomputable def cq:Dt->Dt->Option T
 |.int i,.int j=>some (.leaf (.int (i+j)))
 |.str a,.str b=>if a.length+b.length<=qb4 then some (.leaf (.str (a++b)))else none
 |.lst l,.lst m=>if l.length+m.length<=qb4 then some (.lst (l++m))else none
 |.tup l,.tup m=>if l.length+m.length<=qb4/\l≠[]/\m≠[]then some (.leaf (.tup (l++m)))else none
 |_,_=>none
def fu:Dt->Dt->Option T
 |.int i,.int j=>some (.leaf (.int (i-j)))
 |_,_=>none
def jo:Dt->Dt->Option T
 |.int i,.int j=>if jJ i j then some (.leaf (.int (i*j)))else none
 |_,_=>none
def fC:Dt->Dt->Option T
 |.int i,.int j=>if 0<j then some (.leaf (.int (i%j)))else none
 |_,_=>none
def jV:Dt->Dt->Option T
 |.int i,.int j=>if l7 i j then some (.leaf (.int (i^j.toNat)))else none
 |_,_=>none
def kJ(f:Int->Int->Bool):Dt->Dt->Option T
 |.int i,.int j=>some (.leaf (.bl (f i j)))
 |_,_=>none
variable{K:xA9}{H F':Hp}{b:Bool}{v:V}{e:Jc}{p2:Pos}
section
variable{X:Cx}
theorem yl:OpR X (qm7 .Add) (fun x y H Q=>∃l b xs zs,x=.ref l/\y=.ref b/\SqL X.K H l xs/\SqL X.K H b zs/\xs.length+zs.length<=qb4/\∀p,H p=none->Q (.ref p) (upd H p (.lst (xs++zs)))):=by
 intro J1 s σ H x y v u Q I rx ry h;obtain⟨l,b,xs,zs,rfl,rfl,hH,hB,hz,q⟩:=h;cases rx;cases ry;obtain⟨J8,r,pl,_⟩:=I.list hH;obtain⟨O,r2,pl2,_⟩:=I.list hB;obtain⟨⟨cls,dd,data,sl⟩,n,ho,hc,hd0,hd⟩:=pl;obtain⟨⟨cls2,dd2,data2,sl2⟩,n2,ho2,Y,hd02,Z⟩:=pl2;simp only at hc hd Y Z;subst hc hd Y Z;have e:J8.toArray++O.toArray=(J8++O).toArray:=by simp
 refine qy0 ⟨_,ho,rfl⟩ ⟨_,ho2,rfl⟩ noFill_list_add seq_list_add PySem.F.slot_list_add PySem.F.entry_list_add (PySem.F.args_list_add_2 _ _) (list_addW l b J8.toArray O.toArray n n2 dd dd2 sl sl2 (by rw[qb7,qb7,<- r.length,<- r2.length];exact hz)) ⟨ho,ho2,?_⟩;rw[e];exact⟨.ref _,_,I.lnew (t':=s.toks) (r.append r2) (by rw[qc4];exact hz),rfl,q _ I.fresh⟩
noncomputable abbrev l8(K:xA9):R2:=fun x y H Q=>(rI0 (fun i j=>.int (i+j)) x y H Q)∨(∃i j,x=.str i/\y=.str j/\i.length+j.length<=qb4/\Q (.str (i++j)) H)∨(∃l b xs zs,x=.ref l/\y=.ref b/\SqL K H l xs/\SqL K H b zs/\xs.length+zs.length<=qb4/\∀p,H p=none->Q (.ref p) (upd H p (.lst (xs++zs))))∨zP K x y H Q
theorem aV:OpR X (qm7 .Add) (l8 X.K):=OpR.or Bk (OpR.or pS (OpR.or yl xQ))
theorem bP:R2D K (l8 K) cq:=by
 intro F H x y vx vy Q t Y rx ry q k;unfold cq at q;split at q<;>first|(cases q;done)|skip
 .cases q;cases rx;cases ry;exact .inl ⟨_,_,rfl,rfl,k.int Y⟩
 .split at q
  .cases q;cases rx;cases ry;exact .inr (.inl ⟨_,_,rfl,rfl,by assumption,k.str Y⟩)
  .cases q
 .split at q
  .rename_i Z;cases q;obtain⟨a,vs,rfl,h1,h2⟩:=rx;obtain⟨b,ws,rfl,h3,O⟩:=ry;exact .inr (.inr (.inl ⟨a,b,vs,ws,rfl,rfl,h1,h3,by rw[h2.length,O.length];exact Z,fun p hp=>eI k Y (h2.append O) hp⟩))
  .cases q
 .split at q
  .rename_i Z;cases q;obtain⟨a,vs,rfl,h1,h2⟩:=rx;obtain⟨b,ws,rfl,h3,O⟩:=ry;obtain⟨Z,n1,n2⟩:=Z;refine .inr (.inr (.inr ⟨a,b,vs,ws,rfl,rfl,Y.tup h1,Y.tup h3,fun z=>?_,by rw[h2.length,O.length];exact Z,fun z=>?_,fun _ p hp=>k.tup Y (h2.append O) hp⟩))
   .subst z;have:=h2.length;exact n1 (qv4 this.symm)
   .subst z;have:=O.length;exact absurd (qv4 this.symm) n2
  .cases q
theorem jK:R2D K (rI0 fun i j=>.int (i-j)) fu:=by
 intro F H x y vx vy Q t Z O Y q k;unfold fu at q;split at q<;>first|(cases q;done)|skip
 cases q;cases O;cases Y;exact⟨_,_,rfl,rfl,k.int Z⟩
theorem jL:R2D K (rI CMul fun i j=>.int (i*j)) jo:=by
 intro F H x y vx vy Q t Z O Y q k;unfold jo at q;split at q<;>first|(cases q;done)|skip
 split at q
 .cases q;cases O;cases Y;exact⟨_,_,rfl,rfl,yh (by assumption),k.int Z⟩
 .cases q
theorem d9:R2D K (rI (fun _ j=>0<j) fun i j=>.int (i%j)) fC:=by
 intro F H x y vx vy Q t Z O Y q k;unfold fC at q;split at q<;>first|(cases q;done)|skip
 split at q
 .cases q;cases O;cases Y;exact⟨_,_,rfl,rfl,by assumption,k.int Z⟩
 .cases q
theorem kK:R2D K (rI Bj fun i j=>.int (i^j.toNat)) jV:=by
 intro F H x y vx vy Q t Z O Y q k;unfold jV at q;split at q<;>first|(cases q;done)|skip
 split at q
 .cases q;cases O;cases Y;exact⟨_,_,rfl,rfl,yk (by assumption),k.int Z⟩
 .cases q
theorem kL{f:Int->Int->Bool}:R2D K (rI0 fun i j=>.bl (f i j)) (kJ f):=by
 intro F H x y vx vy Q t Z O Y q k;unfold kJ at q;split at q<;>first|(cases q;done)|skip
 cases q;cases O;cases Y;exact⟨_,_,rfl,rfl,k.bl Z⟩
noncomputable def eqD:Dt->Dt->Option Bool
 |.non,.non=>some true
 |.non,.int _=>some false
 |.non,.bl _=>some false
 |.non,.str _=>some false
 |.int _,.non=>some false
 |.bl _,.non=>some false
 |.str _,.non=>some false
 |.int i,.int j=>some (decide (i=j))
 |.bl i,.bl j=>some (decide (i=j))
 |.str i,.str j=>some (decide (i=j))
 |.int _,.str _=>some false
 |.str _,.int _=>some false
 |.bl _,.str _=>some false
 |.str _,.bl _=>some false
 |.tup l,.tup m=>if cmpbs l m&&decide (deeps l<=59)then some (peqs l m)else none
 |.lst l,.lst m=>if cmpbs l m&&decide (deeps l<=59)then some (peqs l m)else none
 |_,_=>none
def gEq(neg:Bool)(x y:Dt):Option T:=(eqD x y).map fun b=>.leaf (.bl (if neg then !b else b))
abbrev rEqA(K:xA9):R2:=fun x y H Q=>rEq x y H Q∨yc K false x y H Q
abbrev rNeA(K:xA9):R2:=fun x y H Q=>rNe x y H Q∨yc K true x y H Q
theorem bA{k:Nat}(q:Room k X.A):OpR X (qg5 .Eq) (rEqA X.K):=OpR.or DR (BJ q rfl)
theorem d6{k:Nat}(q:Room k X.A):OpR X (qg5 .NotEq) (rNeA X.K):=OpR.or DU (BK q rfl)
theorem vi {F:Hp} {x y:Dt} {Y O:V} (fh:Same F H) (Z:RepB K F H x Y) (ry:RepB K F H y O) (h:eqD x y=some b) :
  (Bm Y O=true/\b=decide (Y=O))∨(((∃l m,x=.tup l/\y=.tup m)∨∃l m,x=.lst l/\y=.lst m)/\fA x y=true/\hX x<=60/\b=peq x y):=by
 unfold eqD at h
 split at h<;>first
  |(cases h;done)
  |(cases h;cases Z;cases ry;left;refine⟨rfl,?_⟩;simp;done)
  |skip
 .right;split at h
  .rename_i q;simp only[qb3,decide_eq_true_eq]at q;cases h;exact⟨.inl ⟨_,_,rfl,rfl⟩,by simp only[fA];exact q.1,by simp only[hX];lia,by simp only[peq]⟩
  .cases h
 .right;split at h
  .rename_i q;simp only[qb3,decide_eq_true_eq]at q;cases h;exact⟨.inr ⟨_,_,rfl,rfl⟩,by simp only[fA];exact q.1,by simp only[hX];lia,by simp only[peq]⟩
  .cases h
theorem c9:R2D K (rEqA K) (gEq false):=by
 intro F H x y vx vy Q t O Y Z q k;unfold gEq at q;obtain⟨b,hb,q⟩:=mS q;cases q;have kk:Q (.bl b) H:=k.bl O;rcases vi O Y Z hb with ⟨h1,rfl⟩|⟨h1,h2,h3,rfl⟩
 .exact .inl ⟨h1,kk⟩
 .exact .inr ⟨x,y,h1,Y.rep O,Z.rep O,h2,h3,kk⟩
theorem jW:R2D K (rNeA K) (gEq true):=by
 intro F H x y vx vy Q t O Y Z q k;unfold gEq at q;obtain⟨b,hb,q⟩:=mS q;cases q;have kk:Q (.bl (!b)) H:=k.bl O;rcases vi O Y Z hb with ⟨h1,rfl⟩|⟨h1,h2,h3,rfl⟩
 .exact .inl ⟨h1,kk⟩
 .exact .inr ⟨x,y,h1,Y.rep O,Z.rep O,h2,h3,kk⟩
def rH:Dt->Bool
 |.non=>true
 |_=>false
def gIs(neg:Bool)(x y:Dt):Option T:=match y with
 |.non=>some (.leaf (.bl (if neg then !rH x else rH x)))
 |_=>none
theorem oD{F:Hp}{x:Dt}(r:RepB K F H x v):rH x=decide (v=.non):=by
 cases x<;>first
  |(cases r;rfl)
  |(obtain⟨a,vs,rfl,_⟩:=r;rfl)
  |(simp only[RepB,Rep]at r;obtain⟨a,C,dx,fs,rfl,_⟩:=r;rfl)
theorem vj:R2D K (fun x y H Q=>y=.non/\Q (.bl (decide (x=.non))) H) (gIs false):=by
 intro F H x y vx vy Q t Z O Y q k;cases y<;>first|cases q;done|skip
 cases q;cases Y;refine⟨rfl,?_⟩;rw[<- oD O];exact k.bl Z
theorem m9:R2D K (fun x y H Q=>y=.non/\Q (.bl (!decide (x=.non))) H) (gIs true):=by
 intro F H x y vx vy Q t Z O Y q k;cases y<;>first|cases q;done|skip
 cases q;cases Y;refine⟨rfl,?_⟩;rw[<- oD O];exact k.bl Z
def cT:Dt->Bool
 |.non=>true
 |.bl _=>true
 |.int _=>true
 |.str _=>true
 |_=>false
def eqF:Dt->Dt->Bool
 |.non,.non=>true
 |.bl a,.bl b=>a==b
 |.bl a,.int b=>(if a then 1 else 0)==b
 |.int a,.bl b=>a==(if b then 1 else 0)
 |.int a,.int b=>a==b
 |.str a,.str b=>a==b
 |_,_=>false
def inS(j i:Str):Bool:=!(qg9 j i 0 j.length 1).isEmpty
def inD:Dt->Dt->Option Bool
 |.str i,.str j=>some (inS j i)
 |x,.lst l=>if cT x&&l.all cT then some (l.any fun y=>eqF y x)else none
 |x,.tup l=>if cT x&&l.all cT then some (l.any fun y=>eqF y x)else none
 |_,_=>none
def gIn(neg:Bool)(x y:Dt):Option T:=(inD x y).map fun b=>.leaf (.bl (if neg then !b else b))
theorem na{F:Hp}{d:Dt}(r:Rep K F d v)(h:cT d=true):ic v=true:=by
 cases d<;>simp only[Rep]at r<;>first
  |(subst r;rfl)
  |cases h
theorem BP{F:Hp}{d e:Dt}{w:V}(r:Rep K F d v)(q:Rep K F' e w)(h:cT d=true)(h':cT e=true):eqF d e=eqV v w:=by
 cases d<;>first|cases h;done|skip
 all_goals cases e<;>first|cases h';done|skip
 all_goals simp only[Rep]at r q;subst r q;rfl
theorem kM{F:Hp}:∀{l:List Dt}{vs:List V},Reps K F l vs->l.all cT=true->vs.all ic=true
 |[],vs,r,_=>by simp only[Reps]at r;subst r;rfl
 |d::l,vs,r,h=>by simp only[Reps]at r;obtain⟨v,q,rfl,h1,h2⟩:=r;rw[qk1,qb3]at h ⊢;exact⟨na h1 h.1,kM h2 h.2⟩
theorem qb{F:Hp}{x:Dt}{w:V}(O:Rep K F' x w)(q:cT x=true):∀{l:List Dt}{vs:List V},Reps K F l vs->l.all cT=true->(l.any fun y=>eqF y x)=inV w vs
 |[],vs,r,_=>by simp only[Reps]at r;subst r;rfl
 |d::l,vs,r,h=>by simp only[Reps]at r;obtain⟨v,Y,rfl,h1,h2⟩:=r;rw[qk1,qb3]at h;unfold inV;rw[qk2,qk2,BP h1 O h.1 q,qb O q h2 h.2];rfl
abbrev vk(K:xA9)(neg:Bool):R2:=fun x y H Q=>(∃i j,x=.str i/\y=.str j/\Q (.bl (if neg then !inS j i else inS j i)) H)∨rIn K neg x y H Q
theorem vm:OpR X (qg5 .In) (vk X.K false):=OpR.or sH sO
theorem tz:OpR X (qg5 .NotIn) (vk X.K true):=OpR.or mW mV
theorem r_in(neg:Bool):R2D K (vk K neg) (gIn neg):=by
 intro F H x y vx vy Q t fh rx ry Z k;unfold gIn at Z;obtain⟨b,Y,Z⟩:=mS Z;cases Z;have kk:=k.bl fh;unfold inD at Y;split at Y<;>first|(cases Y;done)|skip
 .cases Y;cases rx;cases ry;exact .inl ⟨_,_,rfl,rfl,kk⟩
 .split at Y
  .rename_i q;rw[qb3]at q;cases Y;obtain⟨a,vs,rfl,h1,h2⟩:=ry;have O:=rx.rep fh;rw[qb O q.1 h2 q.2]at kk;exact .inr ⟨a,vs,rfl,.inl h1,na O q.1,kM h2 q.2,kk⟩
  .cases Y
 .split at Y
  .rename_i q;rw[qb3]at q;cases Y;obtain⟨a,vs,rfl,h1,h2⟩:=ry;have O:=rx.rep fh;rw[qb O q.1 h2 q.2]at kk;exact .inr ⟨a,vs,rfl,.inr (fh.tup h1),na O q.1,kM h2 q.2,kk⟩
  .cases Y
theorem oE{F:Hp}{i:Int}{d:Dt}(r:Reps K F l vs)(h:atI l i=some d):∃v,atI vs i=some v/\Rep K F d v:=by unfold atI at h ⊢;rw[r.length];obtain⟨j,q,h⟩:=bS h;obtain⟨v,e,O⟩:=r.get h;exact⟨v,by rw[q];exact e,O⟩
def gIx:Dt->Dt->Option T
 |.lst l,.int i=>(atI l i).map .leaf
 |.tup l,.int i=>(atI l i).map .leaf
 |.str x,.int i=>if x.length<=qb4 then(atI x.cps.toList i).map fun c=>.leaf (.str ⟨#[c]⟩)else none
 |_,_=>none
theorem r_ix:R2D K (rIx K) gIx:=by
 intro F H x y vx vy Q t O rx ry q k;unfold gIx at q;split at q<;>first|(cases q;done)|skip
 .obtain⟨d,Y,q⟩:=mS q;cases q;cases ry;obtain⟨a,vs,rfl,h1,h2⟩:=rx;obtain⟨v,e,Z⟩:=oE h2 Y;exact .inl ⟨a,vs,_,v,rfl,rfl,h1,e,k.leaf.here O Z⟩
 .obtain⟨d,Y,q⟩:=mS q;cases q;cases ry;obtain⟨a,vs,rfl,h1,h2⟩:=rx;obtain⟨v,e,Z⟩:=oE h2 Y;exact .inr (.inl ⟨a,vs,_,v,rfl,rfl,O.tup h1,e,k.leaf.here O Z⟩)
 .split at q
  .rename_i hl;obtain⟨c,hc,q⟩:=mS q;cases q;cases rx;cases ry;exact .inr (.inr ⟨_,_,c,rfl,rfl,hl,hc,k.str O⟩)
  .cases q
variable{a b c:Jc}{fa fb fc:De->Option Dt}{pos:Pos}
def qc(l:List Dt)(lo hi:Option Int):List Dt:=(l.drop (HT.sIx l.length 0 lo)).take (HT.sIx l.length l.length hi-HT.sIx l.length 0 lo)
noncomputable def gSl:Dt->Option Int->Option Int->Option T
 |.str x,lo,hi=>if x.length<=qb4 then some (.leaf (.str (Txt.slice x lo hi)))else none
 |.lst l,lo,hi=>some (.lst (qc l lo hi))
 |.tup l,lo,hi=>if HT.sIx l.length 0 lo=0/\HT.sIx l.length l.length hi=l.length then none else some (.leaf (.tup (qc l lo hi)))
 |_,_,_=>none
abbrev rSlA(K:xA9):V->Option Int->Option Int->Hp->VK->Prop:=fun x lo hi H Q=>rSlS x lo hi H Q∨rSlL K x lo hi H Q∨rSlT K x lo hi H Q
theorem BQ:SlR X (rSlA X.K):=SlR.or BA (SlR.or xS Bt)
theorem oF{F:Hp}(r:Reps K F l vs)(lo hi:Option Int):Reps K F (qc l lo hi) (oh vs lo hi):=by unfold qc oh;rw[r.length];exact(r.drop _).take _
theorem r_sl{F:Hp}{x:Dt}{lo hi:Option Int}{Q:VK}{t:T}(O:Same F H)(Y:RepB K F H x v)(q:gSl x lo hi=some t)(k:KO K F H t Q):rSlA K v lo hi H Q:=by
 unfold gSl at q;split at q<;>first|(cases q;done)|skip
 .split at q
  .cases q;cases Y;exact .inl ⟨_,rfl,by assumption,k.str O⟩
  .cases q
 .obtain⟨a,vs,rfl,h1,h2⟩:=Y;cases q;exact .inr (.inl ⟨a,vs,rfl,h1,fun p hp=>eI k O (oF h2 _ _) hp⟩)
 .obtain⟨a,vs,rfl,h1,h2⟩:=Y;split at q
  .cases q
  .rename_i Z;cases q;rw[<- h2.length]at Z;exact .inr (.inr ⟨a,vs,rfl,O.tup h1,Z,fun p hp=>k.tup O (oF h2 _ _) hp⟩)
def tOD(K:xA9)(f:De->Option (Option Int)):TO:=fun σ H Q=>∃ Φ δ F d,Fm.K Φ=K/\En Φ δ σ F H/\f δ=some d/\∀H' F',Step F H F' H'->Q d H'
def l9:De->Option (Option Int):=fun _=>some none
def asI:Dt->Option Int
 |.int i=>some i
 |_=>none
def iR(f:De->Option Dt):De->Option (Option Int):=fun δ=>(f δ).bind fun d=>(asI d).map some
theorem iS{F:Hp}{x:Dt}{b:Int}(h:asI x=some b)(r:RepB K F H x v):v=.int b:=by
 cases x<;>first|cases h;done|skip
 cases h;exact r
def DP(X:Cx)(e:Option Jc)(f:De->Option (Option Int)):Prop:=PO X e (tOD X.K f)
theorem ng:DP X none l9:=fun J1 s σ H Q I h=>xO J1 s σ H Q I (by obtain⟨Φ,δ,F,d,Y,q,O,k⟩:=h;cases O;exact k H F (Step.refl q.fh))
theorem iT{f:De->Option Dt}(h:DB X e f):DP X (some e) (iR f):=fun J1 s σ H Q I q=>xP h J1 s σ H Q I (by obtain⟨Φ,δ,F,d,hK,Z,O,k⟩:=q;unfold iR at O;obtain⟨x,Y,O⟩:=bS O;obtain⟨i,hi,O⟩:=mS O;cases O;exact⟨Φ,δ,F,x,hK,Z,Y,fun v H' F' st r=>⟨i,iS hi r,k H' F' st⟩⟩)
def vSl(fa:De->Option Dt)(q O:De->Option (Option Int)):De->Option T:=fun δ=>(fa δ).bind fun x=>(q δ).bind fun l=>(O δ).bind fun h=>gSl x l h
theorem iU{lo hi:Option Jc}{f:De->Option Dt}{fl fh:De->Option (Option Int)}(he:DB X e f)(Z:DP X lo fl)(hh:DP X hi fh):DO X (.Subscript e (.Slice lo hi none p2) pos) (vSl f fl fh):=PE.mono (uL BQ he Z hh) fun σ H Q ⟨Φ,δ,F,t,hK,en,q,k⟩=>by unfold vSl at q;obtain⟨x,hx,q⟩:=bS q;obtain⟨l,Z,q⟩:=bS q;obtain⟨h,hh,q⟩:=bS q;exact⟨Φ,δ,F,x,hK,en,hx,fun v H1 F1 s1 r1=>⟨Φ,δ,F1,l,hK,en.step s1,Z,fun H2 F2 Y=>⟨Φ,δ,F2,h,hK,en.step (s1.trans Y),hh,fun H3 F3 O=>r_sl O.fh (r1.step (Y.ff.trans O.ff) (Y.hh.trans O.hh)) q (k.step ((s1.trans Y).trans O))⟩⟩⟩
def lG(f:De->Option Dt):De->Option T:=fun δ=>(f δ).bind fun d=>(asI d).map fun i=>.leaf (.int (-i))
theorem kN(h:DB X a fa):DO X (.UnaryOp .USub a pos) (lG fa):=PE.mono (DQ Bl h) fun σ H Q ⟨Φ,δ,F,t,Z,Y,q,k⟩=>by unfold lG at q;obtain⟨x,O,q⟩:=bS q;obtain⟨i,hi,q⟩:=mS q;cases q;exact⟨Φ,δ,F,x,Z,Y,O,fun v H' F' st r=>⟨i,iS hi r,(k.step st).int st.fh⟩⟩
def cL:List Dt->Option T
 |[.str x]=>if x.length<=qb4 then some (.leaf (.int x.length))else none
 |[.tup l]=>some (.leaf (.int l.length))
 |[.lst l]=>some (.leaf (.int l.length))
 |_=>none
theorem dO{F:Hp}{d:Dt}(r:l5 K F H [d] vs):∃v,vs=[v]/\RepB K F H d v:=by obtain⟨v,q,rfl,h1,h2⟩:=r;cases h2;exact⟨v,rfl,h1⟩
theorem cM:CRD K (fun xs H Q=>∃x n,xs=[x]/\LenV K x H n/\Q (.int n) H) cL:=by
 intro F H ds vs Q t Y r q k;unfold cL at q;split at q<;>first|(cases q;done)|skip
 .split at q
  .rename_i Z;cases q;obtain⟨v,rfl,O⟩:=dO r;cases O;exact⟨_,_,rfl,⟨Z,rfl⟩,k.int Y⟩
  .cases q
 .cases q;obtain⟨v,rfl,O⟩:=dO r;obtain⟨a,vs,rfl,h1,h2⟩:=O;rw[<- h2.length]at k;exact⟨_,_,rfl,.inr ⟨vs,Y.tup h1,rfl⟩,k.int Y⟩
 .cases q;obtain⟨v,rfl,O⟩:=dO r;obtain⟨a,vs,rfl,h1,h2⟩:=O;rw[<- h2.length]at k;exact⟨_,_,rfl,.inl ⟨vs,h1,rfl⟩,k.int Y⟩
def jM:List Dt->Option (List Bool)
 |[]=>some []
 |.bl b::r=>(jM r).map (b::·)
 |_=>none
theorem oG{F:Hp}:∀{l:List Dt}{vs:List V}{bs:List Bool},Reps K F l vs->jM l=some bs->vs=bs.map V.bl
 |[],vs,bs,r,h=>by cases h;simp only[Reps]at r;exact r
 |d::l,vs,bs,r,h=>by
  cases d<;>first|cases h;done|skip
  simp only[jM]at h;obtain⟨cs,q,h⟩:=mS h;cases h;simp only[Reps,Rep]at r;obtain⟨v,Y,rfl,rfl,O⟩:=r;rw[oG O q];rfl
def oH(f:List Bool->Bool):List Dt->Option T
 |[.lst l]=>(jM l).map fun bs=>.leaf (.bl (f bs))
 |_=>none
theorem zV{f:List Bool->Bool}:CRD K (fun xs H Q=>∃(a:J9)(bs:List Bool),xs=[.ref a]/\SqL K H a (bs.map V.bl)/\Q (.bl (f bs)) H) (oH f):=by
 intro F H ds vs Q t Z r q k;unfold oH at q;split at q<;>first|(cases q;done)|skip
 obtain⟨bs,O,q⟩:=mS q;cases q;obtain⟨v,rfl,Y⟩:=dO r;obtain⟨a,vs,rfl,h1,h2⟩:=Y;have:=oG h2 O;subst this;exact⟨a,bs,rfl,h1,k.bl Z⟩
def fY:List Dt->Option T
 |[.lst l]=>some (.leaf (.tup l))
 |[.tup l]=>some (.leaf (.tup l))
 |_=>none
theorem gW:CRD K (fun xs H Q=>∃p ys,xs=[.ref p]/\((SqL K H p ys/\∀l,H l=none->Q (.ref l) (upd H l (.tup ys)))∨(SqT K H p ys/\Q (.ref p) H))) fY:=by
 intro F H ds vs Q t Z r q k;unfold fY at q;split at q<;>first|(cases q;done)|skip
 .cases q;obtain⟨v,rfl,O⟩:=dO r;obtain⟨a,vs,rfl,h1,h2⟩:=O;exact⟨a,vs,rfl,.inl ⟨h1,fun p hp=>k.tup Z h2 hp⟩⟩
 .cases q;obtain⟨v,rfl,O⟩:=dO r;rename_i l;have Y:Rep K F (.tup l) v:=by simp only[Rep];exact O
  obtain⟨a,vs,rfl,h1,h2⟩:=O;exact⟨a,vs,rfl,.inr ⟨Z.tup h1,k.leaf.here Z Y⟩⟩
def oI:List Dt->Option T
 |[.lst l]=>some (.lst l)
 |[.tup l]=>some (.lst l)
 |_=>none
theorem vn:CRD K (fun xs H Q=>∃p ys,xs=[.ref p]/\(SqL K H p ys∨SqT K H p ys)/\∀l,H l=none->Q (.ref l) (upd H l (.lst ys))) oI:=by
 intro F H ds vs Q t Y r q k;unfold oI at q;split at q<;>first|(cases q;done)|skip
 .cases q;obtain⟨v,rfl,O⟩:=dO r;obtain⟨a,vs,rfl,h1,h2⟩:=O;exact⟨a,vs,rfl,.inl h1,fun p hp=>eI k Y h2 hp⟩
 .cases q;obtain⟨v,rfl,O⟩:=dO r;obtain⟨a,vs,rfl,h1,h2⟩:=O;exact⟨a,vs,rfl,.inr (Y.tup h1),fun p hp=>eI k Y h2 hp⟩
end
variable{mg:Str->Option Value}{J1:List (J9×Obj)}{σ:St}{s:qa4}{A:qe0}{E Q:Value->qa4->Prop}{p1 pos':Pos}{Φ:Fm}{δ:De}{N:List Str}
section
variable{X:Cx}{o a b e c:Jc}{es:List Jc}{fa fb fo fe:De->Option Dt}{fs:De->Option (List Dt)}{pos apos cpos p:Pos}{x:Str}{sc:Jd}{i:Nat}
def jN(K:xA9)(mg:Str->Option Value)(x:Str)(d:Dt):Prop:=∃v,(∃u,mg x=some u/\RelV v u)/\∀F,Rep K F d v
theorem dU{d:Dt}(h:aC sc x=true)(q:jN X.K X.mg x d)(e1:cH X sc:=by rfl):DL X (.Name x pos) (kD d):=by obtain⟨v,h1,h2⟩:=q;exact u7 (kE h h1 e1) h2
theorem iV{i:Str}(h:∃u,mg x=some u/\RelV (.str i) u):jN K mg x (.str i):=⟨_,h,fun _=>iP⟩
def oJ:Dt->Bool
 |_=>false
def tyD:Dt->String
 |.non=>"NoneType"
 |.bl _=>"bool"
 |.int _=>"int"
 |.str _=>"str"
 |.tup _=>"tuple"
 |.lst _=>"list"
 |.dct _ _=>"dict"
 |.dcT _ _=>"dict"
def zW(c:String):Dt->Bool
 |.non=>c=="NoneType"
 |.bl _=>c=="bool"||c=="int"
 |.int _=>c=="int"
 |.str _=>c=="str"
 |.tup _=>c=="tuple"
 |.lst _=>c=="list"
 |.dct _ _=>c=="dict"
 |.dcT _ _=>c=="dict"
theorem qd {c:Value} {b:Bool} {d:Dt} (I:Inv X J1 σ H s) (q:RelV v u) (r:Rep X.K H d v) (hi:oJ d=false) (e:xL9 X.K (.type (tyD d)) c=some b) (h:∀ tk,Q (.bool b) {s with toks:=tk}) :
  wpAny (model X.prog X.w) A (call (.builtin "isinstance") [u,c]) Q E s:=by
 cases d with
 |non=>simp only[Rep]at r;subst r;exact gT I q .non e h
 |bl y=>simp only[Rep]at r;subst r;exact gT I q (.bl y) e h
 |int y=>simp only[Rep]at r;subst r;exact gT I q (.int y) e h
 |str y=>simp only[Rep]at r;subst r;exact gT I q (.str y) e h
 |tup l=>simp only[Rep]at r;obtain⟨a,vs,rfl,h1,h2⟩:=r;cases q;obtain⟨J8,_,Z,_⟩:=I.tuple h1;obtain⟨o,Y,O,_⟩:=Z;exact xE9 PySem.W.kitx_tuple I.kIn ⟨o,Y,O⟩ e (fun z=>nomatch z) h
 |lst l=>simp only[Rep]at r;obtain⟨a,vs,rfl,h1,h2⟩:=r;cases q;obtain⟨J8,_,Z,_⟩:=I.list h1;obtain⟨o,n,Y,O,_⟩:=Z;exact xE9 xQ9 I.kIn ⟨o,Y,O⟩ e (fun z=>nomatch z) h
 |dct ks l=>simp only[Rep]at r;obtain⟨a,J6,rfl,h1,_⟩:=r;cases q;obtain⟨_,_,vs,_,p⟩:=lS I.hok h1;obtain⟨o,es,ep,Y,O,_⟩:=p;exact xE9 xM9 I.kIn ⟨o,Y,O.1⟩ e (fun z=>nomatch z) h
 |dcT ks l=>simp only[Rep]at r;obtain⟨a,J6,rfl,h1,_⟩:=r;cases q;obtain⟨_,_,xs,_,o,es,ep,Y,O,_⟩:=(show ObjOk X.prog X.w H s.heap a (.dT J6)from h1.ok I.hok);exact xE9 xM9 I.kIn ⟨o,Y,O.1⟩ e (fun z=>nomatch z) h
def e7(K:xA9)(c:String):Prop:=∀d:Dt,oJ d=false->xL9 K (.type (tyD d)) (.type c)=some (zW c d)
theorem qe:dh X (.builtin "isinstance") (fun xs H Q=>∃v c d b,xs=[v,.ty c]/\Rep X.K H d v/\oJ d=false/\xL9 X.K (.type (tyD d)) (.type c)=some b/\Q (.bl b) H):=by intro J1 s σ H xs us Q I r h;obtain⟨v,c,d,b,rfl,rd,hi,e,q⟩:=h;obtain⟨u,Z,rfl,Y,O⟩:=uH r;cases O;exact qd I Y rd hi e fun tk=>⟨.bl b,H,I.tok _,rfl,q⟩
def fK(c:String)(f:De->Option Dt):De->Option T:=fun δ=>(f δ).bind fun d=>if oJ d then none else some (.leaf (.bl (zW c d)))
theorem dy{q:Str}{cs:String}(h:aC sc "isinstance"=true)(Y:aC sc q=true)(hm:X.mg "isinstance"=none)(Z:X.mg q=none)(hv:qd7 q=some (.type cs))(hk:e7 X.K cs)(ha:DB X a fa)(e1:cH X sc:=by rfl)
 (he:qa9 [a,.Name q p2] X.env=(false,eval a X.env)::qa9 [.Name q p2] X.env:=by rfl) (he2:qa9 [.Name q p2] X.env=(false,eval (.Name q p2) X.env)::qa9 [] X.env:=by rfl) (hpl:(qj9 pos (qa9 [.Name q p2] X.env)).any (·.1)=false:=by rfl) :
  DO X (.Call (.Name "isinstance" p1) [a,.Name q p2] [] pos) (fK cs fa):=
 PE.mono (jm h qe hm lF (dB ha (dB (u5 (v:=.ty cs) Y Z hv rfl e1) gq he2) he) e1 he hpl) fun σ H Q ⟨Φ,δ,F,t,hK,en,O,k⟩=>by
  unfold fK at O;obtain⟨d,hd,O⟩:=bS O;cases hi:oJ d with
  |true=>rw[hi]at O;cases O
  |false=>rw[hi]at O;cases O;exact⟨Φ,δ,F,d,hK,en,hd,fun v H' F' st r=>⟨v,cs,d,_,rfl,r.rep st.fh,hi,hk d hi,(k.step st).bl st.fh⟩⟩
def MRD(K:xA9)(r:V->List V->Hp->VK->Prop)(g:Dt->List Dt->Option T):Prop:=∀F H d v ds vs (Q:VK) t,Same F H->RepB K F H d v->l5 K F H ds vs->g d ds=some t->KO K F H t Q->r v vs H Q
def ma(g:Dt->List Dt->Option T)(fo:De->Option Dt)(fs:De->Option (List Dt)):De->Option T:=fun δ=>(fo δ).bind fun d=>(fs δ).bind fun ds=>g d ds
theorem vo {name:Str} {id:String} {r:V->List V->Hp->VK->Prop} {g:Dt->List Dt->Option T} (slot:Slot "str" name id) (hty:typeOf (.builtin id)=pure (.type "method_descriptor")) (hm:MtR X id r) (hr:MRD X.K r g) (hg:∀ d ds t,g d ds=some t->∃ z,d=.str z)
  (ho:DB X o fo) (ha:DAB X (e::es) fs)
  (hbase:qs4 o name X.env (eval o X.env)=eval o X.env:=by rfl)
  (hfew:((qj9 cpos (qa9 (e::es) X.env)).all (fun x=>!x.1)&&(zg8 cpos (qw8 [] X.env)).all (fun x=>x.1.isSome)
   && decide ((e::es).length+([]:List qu9).length+(if([]:List qu9).isEmpty then 0 else 1)<30))=true:=by rfl)
  (Y:(apos.endLine==cpos.line)=true:=by rfl) (hs:qa9 (e::es) X.env=(false,eval e X.env)::qa9 es X.env:=by rfl) (O:(qj9 cpos (qa9 es X.env)).any (·.1)=false:=by rfl) :
  DO X (.Call (.Attribute o name apos) (e::es) [] cpos) (ma g fo fs):=PE.mono (uO PySem.F.plainAttrs_str slot hty hm ho ha.pa hbase hfew Y hs O) fun σ H Q ⟨Φ,δ,F,t,hK,en,Z,k⟩=>by
 unfold ma at Z;obtain⟨d,hd,Z⟩:=bS Z;obtain⟨ds,hds,Z⟩:=bS Z;refine⟨Φ,δ,F,d,hK,en,hd,fun v H1 F1 st rv=>⟨?_,Φ,δ,F1,ds,hK,en.step st,hds,fun vs H2 F2 q rvs=>hr F2 H2 d v ds vs Q t q.fh (rv.step q.ff q.hh) rvs Z (k.step (st.trans q))⟩⟩;obtain⟨z,rfl⟩:=hg d ds t Z;cases rv;rfl
def gF:List Dt->Option (List Str)
 |[]=>some []
 |.str b::r=>(gF r).map (b::·)
 |_=>none
theorem jp{F:Hp}:∀{l:List Dt}{vs:List V}{bs:List Str},Reps K F l vs->gF l=some bs->vs=bs.map V.str
 |[],vs,bs,r,h=>by cases h;simp only[Reps]at r;exact r
 |d::l,vs,bs,r,h=>by
  cases d<;>first|cases h;done|skip
  simp only[gF]at h;obtain⟨cs,q,h⟩:=mS h;cases h;simp only[Reps,Rep]at r;obtain⟨v,Y,rfl,rfl,O⟩:=r;rw[jp O q];rfl
def ip:Dt->List Dt->Option T
 |.str a,[.lst l]=>(gF l).bind fun ts=>if JoinOk a ts then some (.leaf (.str (Txt.join a ts)))else none
 |_,_=>none
theorem ym:MRD K (fun x vs H Q=>∃(a:Str)(l:J9)(ts:List Str),x=.str a/\vs=[.ref l]/\SqL K H l (ts.map V.str)/\JoinOk a ts=true/\Q (.str (Txt.join a ts)) H) ip:=by
 intro F H d v ds vs Q t fh rd Y q k;unfold ip at q;split at q<;>first|cases q;done|skip
 obtain⟨ts,O,q⟩:=bS q;split at q
 .rename_i hj;cases q;cases rd;obtain⟨v,rfl,Z⟩:=dO Y;obtain⟨a,vs,rfl,h1,h2⟩:=Z;have:=jp h2 O;subst this;exact⟨_,a,ts,rfl,rfl,h1,hj,k.str fh⟩
 .cases q
theorem qf:∀d ds t,ip d ds=some t->∃z,d=.str z:=fun d ds t h=>by
 unfold ip at h;split at h
 .exact⟨_,rfl⟩
 .cases h
theorem yn (ho:DB X o fo) (ha:DAB X (e::es) fs)
  (Y:qs4 o "join" X.env (eval o X.env)=eval o X.env:=by rfl)
  (Z:((qj9 cpos (qa9 (e::es) X.env)).all (fun x=>!x.1)&&(zg8 cpos (qw8 [] X.env)).all (fun x=>x.1.isSome)
   && decide ((e::es).length+([]:List qu9).length+(if([]:List qu9).isEmpty then 0 else 1)<30))=true:=by rfl)
  (O:(apos.endLine==cpos.line)=true:=by rfl) (hs:qa9 (e::es) X.env=(false,eval e X.env)::qa9 es X.env:=by rfl) (q:(qj9 cpos (qa9 es X.env)).any (·.1)=false:=by rfl) :
  DO X (.Call (.Attribute o "join" apos) (e::es) [] cpos) (ma ip fo fs):=vo PySem.F.slot_str_join PySem.F.type_str_join x9 ym qf ho ha Y Z O hs q
def q14(i:Nat)(f:De->Option Dt):De->Option Out:=fun δ=>match δ[i]? with
 |some (some (.lst l))=>(f δ).bind fun d=>if l.length<qb4 then some (.nx (δ.set i (some (.lst (l++[d])))))else none
 |_=>none
theorem En.ownL{F:Hp}(q:En Φ δ σ F H)(h:δ[i]?=some (some (.lst l))):∃a vs,σ[i]?=some (some (.ref a))/\H a=some (.lst vs)/\Reps Φ.K F l vs:=by obtain⟨v,O⟩:=q.has i _ h;obtain⟨S,s⟩:=q.sep;obtain⟨a,vs,rfl,_,h1,h2⟩:=s.own i _ v (cD h O);exact⟨a,vs,O,h1,h2⟩
theorem cW (hx:PE X o (iC i)) (he:DL X e fe)
  (Z:qs4 o "append" X.env (eval o X.env)=eval o X.env:=by rfl)
  (hfew:((qj9 cpos (qa9 [e] X.env)).all (fun x=>!x.1)&&(zg8 cpos (qw8 [] X.env)).all (fun x=>x.1.isSome)
   && decide ([e].length+([]:List qu9).length+(if([]:List qu9).isEmpty then 0 else 1)<30))=true:=by rfl)
  (Y:(apos.endLine==cpos.line)=true:=by rfl) (hs:qa9 [e] X.env=(false,eval e X.env)::qa9 [] X.env:=by rfl) (q:(qj9 cpos (qa9 [] X.env)).any (·.1)=false:=by rfl)
  (hsw:qn0 (.Call (.Attribute o "append" apos) [e] [] cpos) none pos.line X.env=pure false:=by rfl) :
  DS1 X (.Expr (.Call (.Attribute o "append" apos) [e] [] cpos) pos) (q14 i fe):=
 PS.mono (qT (uO PySem.F.plainAttrs_list PySem.F.slot_list_append PySem.F.type_list_append ji hx (dB he gq hs) Z hfew Y hs q) hsw) fun D σ H ⟨Φ,δ,F,ot,hK,en,O,k⟩=>by
  unfold q14 at O;split at O<;>first|cases O;done|skip
  rename_i l hl;obtain⟨d,hd,O⟩:=bS O;split at O<;>first|cases O;done|skip
  rename_i hz;cases O;obtain⟨a,vs,hv,h1,h2⟩:=en.ownL hl;refine⟨.ref a,hv,.inl ⟨rfl,vs,.inl (.inl h1)⟩,Φ,δ,F,d,hK,en,hd,fun v H1 F1 st rv=>?_⟩;have en1:=en.step st;have h1':=st.hh _ _ h1;refine⟨a,vs,v,rfl,rfl,h1',by rw[h2.length];exact hz,?_⟩;refine k σ F1 _ (en1.poke hl hv rfl fun S sa=>⟨a,vs++[v],rfl,sa,bn,(h2.same st.ff).append (Reps.one (hK▸rv))⟩)
noncomputable def sPutL(i:Nat)(fk fe:De->Option Dt):De->Option Out:=fun δ=>(fe δ).bind fun d=>(fk δ).bind fun k=>match δ[i]?,k with
 |some (some (.lst l)),.int n=>(ixN l.length n).map fun j=>.nx (δ.set i (some (.lst (l.set j d))))
 |_,_=>none
theorem Reps.set{F:Hp}{d:Dt}(h:Rep K F d v):∀{l:List Dt}{vs:List V}(j:Nat),Reps K F l vs->Reps K F (l.set j d) (vs.set j v)
 |[],vs,j,r=>by simp only[Reps]at r;subst r;simp[Reps]
 |e::l,vs,0,r=>by simp only[Reps]at r;obtain⟨w,O,rfl,_,q⟩:=r;simp only[qs7,Reps];exact⟨v,O,rfl,h,q⟩
 |e::l,vs,j+1,r=>by simp only[Reps]at r;obtain⟨w,O,rfl,Y,q⟩:=r;simp only[qp0,Reps];exact⟨w,_,rfl,Y,Reps.set h j q⟩
def oK(f:Int->Int->Int)(i:Nat)(fe:De->Option Dt):De->Option Out:=fun δ=>match δ[i]? with
 |some (some (.leaf (.int n)))=>(fe δ).bind fun d=>(asI d).map fun m=>.nx (δ.set i (some (.leaf (.int (f n m)))))
 |_=>none
theorem BR{f:Int->Int->Int}{D:Ends}(h:tS K (oK f i fe) D σ H):tAug i (tBd K fe) (ipI f) D σ H:=by
 obtain⟨Φ,δ,F,ot,hK,O,q,k⟩:=h;unfold oK at q;split at q<;>first|cases q;done|skip
 rename_i n hn;obtain⟨d,hd,q⟩:=bS q;obtain⟨m,Z,q⟩:=mS q;cases q;obtain⟨v,hv,Y⟩:=O.leaf hn;simp only[Rep]at Y;subst Y;exact⟨_,hv,Φ,δ,F,d,hK,O,hd,fun w H1 F1 st r=>⟨n,m,rfl,iS Z r,k _ F1 H1 ((O.step st).name fW i)⟩⟩
theorem kO (h:cS sc N i x=true) (hl:iM sc x=true) (Z:N.Nodup) (Y:DB X e fe) (e1:cH X sc:=by rfl) (O:X.N=N:=by rfl) (hf:X.fn x=true∨X.env.scope.names.lookup x=some .local:=by exact .inl rfl) :
  DS1 X (.AugAssign (.Name x pos') .Add e pos) (oK (fun i j=>i+j) i fe):=by
 have e1:X.env.scope=sc:=e1;subst e1 O;exact PS.mono (Be Z (gx h) (jk hl) Y Bf hf) fun D σ H q=>BR q
end
def db{κ:Type}[DecidableEq κ]:List κ->List Dt->κ->Option Dt
 |k'::ks,d::l,k=>if k'=k then some d else db ks l k
 |_,_,_=>none
theorem gY{κ:Type}[DecidableEq κ]{F:Hp}{k:κ}:∀{J6:List (κ×V)}{l:List Dt}{d:Dt},Reps K F l (J6.map (·.2))->db (J6.map (·.1)) l k=some d->∃v,fG J6 k=some v/\Rep K F d v
 |[],l,d,r,h=>by cases l<;>cases h
 |p::J6,[],d,r,h=>by cases h
 |p::J6,e::l,d,r,h=>by
  simp only[qa5,Reps]at r;obtain⟨v,Z,q,Y,O⟩:=r;cases q;simp only[qa5,db]at h;by_cases hk:p.1=k
  .rw[if_pos hk]at h;cases h;exact⟨p.2,iH hk,Y⟩
  .rw[if_neg hk]at h;rw[gt hk];exact gY O h
theorem md{κ:Type}[DecidableEq κ]{F:Hp}{k:κ}:∀{J6:List (κ×V)}{l:List Dt},Reps K F l (J6.map (·.2))->db (J6.map (·.1)) l k=none->fG J6 k=none
 |[],l,r,h=>rfl
 |p::J6,[],r,h=>by simp only[qa5,Reps]at r;cases r
 |p::J6,e::l,r,h=>by
  simp only[qa5,Reps]at r;obtain⟨v,Y,q,Z,O⟩:=r;cases q;simp only[qa5,db]at h;by_cases hk:p.1=k
  .rw[if_pos hk]at h;cases h
  .rw[if_neg hk]at h;rw[gt hk];exact md O h
def oM:Dt->Option Key
 |.int i=>some (.inl i)
 |.str x=>some (.inr x)
 |_=>none
theorem gZ{F:Hp}{d:Dt}{k:Key}(r:RepB K F H d v)(h:oM d=some k):v=kV k:=by
 unfold oM at h;split at h<;>first|(cases h;done)|skip
 .cases h;exact r
 .cases h;exact r
def aq:Dt->Dt->Option T
 |.dct ks l,k=>(oM k).bind fun k=>(db ks l k).map .leaf
 |x,y=>gIx x y
variable{st:Jb}
section
variable{X:Cx}{o a b e c:Jc}{es:List Jc}{fa fb fo fe fk:De->Option Dt}{fs:De->Option (List Dt)}{pos apos cpos p:Pos}{x:Str}{sc:Jd}{i:Nat}
theorem aj{k:Nat}(hr:Room k X.A)(ha:DB X a fa)(hb:DB X b fb)(hs:rf b:=by exact fun _ _=>rfl)(hn:uQ b:=by exact fun _ _=>rfl):DO X (.Subscript a b pos) (d2 aq fa fb):=
 PE.mono (PE.or (DZ Bv ha hb hs) (xW (kw hr) ha hb hn)) fun σ H Q ⟨Φ,δ,F,t,hK,en,q,k⟩=>by
  unfold d2 at q;obtain⟨x,hx,q⟩:=bS q;obtain⟨y,hy,q⟩:=bS q;unfold aq at q;split at q
  .rename_i ks l _;obtain⟨kk,hk,q⟩:=bS q;obtain⟨d,hd,q⟩:=mS q;cases q;refine .inr ⟨Φ,δ,F,_,hK,en,hx,fun v H1 F1 st rv=>⟨Φ,δ,F1,y,hK,en.step st,hy,fun v2 H2 F2 O Y=>?_⟩⟩;obtain⟨ad,J6,rfl,h1,h2,h3⟩:=rv;subst h2;obtain⟨w,hw,Z⟩:=gY h3 hd;have:=gZ Y hk;subst this;exact⟨ad,w,rfl,.inl ⟨J6,kk,O.hh.rd h1,rfl,hw.symm⟩,(k.step (st.trans O)).leaf.here O.fh (Z.same O.ff)⟩
  .exact .inl (l4 r_ix ⟨Φ,δ,F,t,hK,en,by unfold d2;rw[hx,hy];exact q,k⟩)
def bU(neg:Bool):Dt->Dt->Option T
 |k,.dct ks l=>(oM k).map fun k=>.leaf (.bl (if neg then !(db ks l k).isSome else(db ks l k).isSome))
 |x,y=>gIn neg x y
theorem j4{κ:Type}[DecidableEq κ]{F:Hp}{k:κ}{J6:List (κ×V)}(r:Reps K F l (J6.map (·.2))):(db (J6.map (·.1)) l k).isSome=(fG J6 k).isSome:=by
 cases h:db (J6.map (·.1)) l k with
 |none=>rw[md r h];rfl
 |some d=>obtain⟨v,e,_⟩:=gY r h;rw[e];rfl
theorem zX{Q:VK}(h:tO K (d2 (bU false) fa fb) σ H Q):tOp (vk K false) (tBd K fa) (tBd K fb) σ H Q∨tDIn (tBd K fa) (tBd K fb) σ H Q:=by
 obtain⟨Φ,δ,F,t,hK,Z,q,k⟩:=h;unfold d2 at q;obtain⟨x,hx,q⟩:=bS q;obtain⟨y,hy,q⟩:=bS q;unfold bU at q;split at q
 .rename_i ks l;obtain⟨kk,hk,q⟩:=mS q;cases q;refine .inr ⟨Φ,δ,F,x,hK,Z,hx,fun v H1 F1 st rv=>⟨Φ,δ,F1,_,hK,Z.step st,hy,fun v2 H2 F2 O Y=>?_⟩⟩;obtain⟨ad,J6,rfl,h1,h2,h3⟩:=Y;subst h2;have:=gZ rv hk;subst this;refine⟨ad,_,rfl,.inl ⟨J6,kk,h1,rfl,rfl⟩,?_⟩;rw[<- j4 h3];exact(k.step (st.trans O)).bl O.fh
 .exact .inl (l4 (r_in false) ⟨Φ,δ,F,t,hK,Z,by unfold d2;rw[hx,hy];exact q,k⟩)
theorem vp{Q:VK}(h:tO K (d2 (bU true) fa fb) σ H Q):tOp (vk K true) (tBd K fa) (tBd K fb) σ H Q∨rj (tBd K fa) (tBd K fb) σ H Q:=by
 obtain⟨Φ,δ,F,t,hK,Z,q,k⟩:=h;unfold d2 at q;obtain⟨x,hx,q⟩:=bS q;obtain⟨y,hy,q⟩:=bS q;unfold bU at q;split at q
 .rename_i ks l;obtain⟨kk,hk,q⟩:=mS q;cases q;refine .inr ⟨Φ,δ,F,x,hK,Z,hx,fun v H1 F1 st rv=>⟨Φ,δ,F1,_,hK,Z.step st,hy,fun v2 H2 F2 O Y=>?_⟩⟩;obtain⟨ad,J6,rfl,h1,h2,h3⟩:=Y;subst h2;have:=gZ rv hk;subst this;refine⟨ad,_,rfl,.inl ⟨J6,kk,h1,rfl,rfl⟩,?_⟩;rw[<- j4 h3];exact(k.step (st.trans O)).bl O.fh
 .exact .inl (l4 (r_in true) ⟨Φ,δ,F,t,hK,Z,by unfold d2;rw[hx,hy];exact q,k⟩)
theorem zY{k:Nat}(Z:Room k X.A)(Y:DB X a fa)(O:DB X b fb)(q:qh5 .In b=false:=by with_unfolding_all rfl):DO X (.Compare a [.In] [b] pos) (d2 (bU false) fa fb):=PE.mono (PE.or (qZ vm Y O q) (A3 (uR (kw Z) Y O) q)) fun σ H Q h=>zX h
theorem PT.or{t t':TT}(h:PT X e t)(h':PT X e t'):PT X e (fun σ H Q=>t σ H Q∨t' σ H Q):=fun J1 s σ H Q I q=>q.elim (h J1 s σ H Q I) (h' J1 s σ H Q I)
theorem zZ{g:Dt->Dt->Option T}{Q:Bool->Hp->Prop}(h:tTr K (tB2 g fa fb) σ H Q):tO K (d2 g fa fb) σ H (fun v H'=>∃c,v=.bl c/\Q c H'):=by obtain⟨Φ,δ,F,t,Y,O,q,k⟩:=h;unfold tB2 at q;obtain⟨z,Z,q⟩:=bS q;exact⟨Φ,δ,F,z,Y,O,Z,fun v H' F' S st o hs=>⟨t,rA q o,k H' F' st⟩⟩
theorem fL{k:Nat}(Z:Room k X.A)(Y:DB X a fa)(O:DB X b fb)(q:qh5 .In b=false:=by with_unfolding_all rfl):DT X (.Compare a [.In] [b] pos) (tB2 (bU false) fa fb):=PT.mono (PT.or (mR vm Y O q) (mP (uR (kw Z) Y O) q)) fun σ H Q h=>zX (zZ h)
theorem dE{k:Nat}(Z:Room k X.A)(Y:DB X a fa)(O:DB X b fb)(q:qh5 .NotIn b=false:=by with_unfolding_all rfl):DT X (.Compare a [.NotIn] [b] pos) (tB2 (bU true) fa fb):=PT.mono (PT.or (mR tz Y O q) (mP (lT (kw Z) Y O) q)) fun σ H Q h=>vp (zZ h)
def z0:De->Option T:=fun _=>some (.dct [])
theorem yo:DO X (.Dict [] [] pos) z0:=PE.mono uU fun σ H Q ⟨Φ,δ,F,t,Y,q,O,k⟩=>by
 cases O;intro p hp;refine k _ _ F (fun b=>b=p) (Step.made q.fh hp) ⟨p,[],rfl,rfl,bn,rfl,by simp[Reps]⟩ fun b z=>?_
 subst z;exact⟨q.fh.free hp,hp,_,bn,nofun⟩
def iq{κ:Type}[DecidableEq κ]:List (κ×Dt)->κ->Dt->List (κ×Dt)
 |[],k,d=>[(k,d)]
 |p::l,k,d=>if p.1=k then(p.1,d)::l else p::iq l k d
noncomputable def lH(i:Nat)(fk fe:De->Option Dt):De->Option Out:=fun δ=>(fe δ).bind fun d=>(fk δ).bind fun k=>match δ[i]? with
 |some (some (.lst l))=>(asI k).bind fun n=>(ixN l.length n).map fun j=>.nx (δ.set i (some (.lst (l.set j d))))
 |some (some (.dct l))=>(oM k).bind fun k=>if l.length<qb4/\(l.map (·.1)).Nodup then some (.nx (δ.set i (some (.dct (iq l k d)))))else none
 |_=>none
theorem rJ {κ:Type} [DecidableEq κ] (k:κ) (v:V):∀ (J6:List (κ×V)) (l:List (κ×Dt)) (d:Dt),(J6.map (·.1)).Nodup->J6.map (·.1)=l.map (·.1)->(fU J6 k v).map (·.1)=(iq l k d).map (·.1)∧
  ∀(K:xA9)(F:Hp),Rep K F d v->Reps K F (l.map (·.2)) (J6.map (·.2))->Reps K F ((iq l k d).map (·.2)) ((fU J6 k v).map (·.2)):=by
 have key:∀(J6:List (κ×V)),(J6.map (·.1)).Nodup->fU J6 k v=match J6 with|[]=>[(k,v)]|p::r=>if p.1=k then(p.1,v)::r else p::fU r k v:=fun J6 Y=>by
  cases J6 with
  |nil=>rfl
  |cons p r=>
   dsimp only;by_cases hp:p.1=k
   .rw[if_pos hp];unfold fU;rw[if_pos (by simp[hp])];simp only[qa5,if_pos hp];congr 1
    have hk:∀q∈r,¬ q.1=k:=fun q hq z=>by have:=(qh3.mp Y).1;exact this (show p.1∈r.map (·.1)by rw[hp,<- z];exact List.mem_map_of_mem hq)
    exact(List.map_congr_left fun q hq=>if_neg (hk q hq)).trans (List.map_id' r)
   .rw[if_neg hp];unfold fU;have e:(p::r).any (fun kv=>decide (kv.1=k))=r.any fun kv=>decide (kv.1=k):=by simp[hp]
    rw[e];split
    .simp only[qa5,if_neg hp]
    .rfl
 intro J6;induction J6 with
 |nil=>
  intro l d Y O;cases l with
  |nil=>exact⟨rfl,fun K F r _=>by simpa[iq,fU] using Reps.one r⟩
  |cons q l=>cases O
 |cons p r ih=>
  intro l d Y O;cases l with
  |nil=>cases O
  |cons q l=>
   simp only[qa5,List.cons.injEq]at O;have hn':=(qh3.mp Y).2;rw[key _ Y];simp only[iq];rw[<- O.1];by_cases hp:p.1=k
   .rw[if_pos hp,if_pos hp];refine⟨by simp[O.2],fun K F rd Z=>?_⟩;simp only[qa5,Reps]at Z ⊢;obtain⟨w,ws,hw,r1,r2⟩:=Z;cases hw;exact⟨_,_,rfl,rd,r2⟩
   .rw[if_neg hp,if_neg hp];obtain⟨i1,i2⟩:=ih l d hn' O.2;refine⟨by simp[O.1,i1],fun K F rd Z=>?_⟩;simp only[qa5,Reps]at Z ⊢;obtain⟨w,ws,hw,r1,r2⟩:=Z;cases hw;exact⟨_,_,rfl,r1,i2 K F rd r2⟩
theorem PS.or{e:Jb}{t t':TS}(h:PS X e t)(h':PS X e t'):PS X e (fun σ H Q=>t σ H Q∨t' σ H Q):=fun J1 s σ H Q I q=>q.elim (h J1 s σ H Q I) (h' J1 s σ H Q I)
theorem En.ownD{F:Hp}(q:En Φ δ σ F H){l:List (Key×Dt)}(h:δ[i]?=some (some (.dct l))):∃a J6,σ[i]?=some (some (.ref a))/\H a=some (.dK J6)/\J6.map (·.1)=l.map (·.1)/\Reps Φ.K F (l.map (·.2)) (J6.map (·.2)):=by obtain⟨v,O⟩:=q.has i _ h;obtain⟨S,s⟩:=q.sep;obtain⟨a,vs,rfl,_,h1,h2,h3⟩:=s.own i _ v (cD h O);exact⟨a,vs,O,h1,h2,h3⟩
theorem ni {k:Nat} {ox ik:Jc} (hr:Room k X.A) (hx:PE X ox (iC i)) (hk:DB X ik fk) (he:DL X e fe)
  (hs:qn0 e (some (.Subscript ox ik apos)) pos.line X.env=pure false:=by rfl)
  (hs1:zg4 [.Subscript ox ik apos] e pos.line X.env=pure false:=by rfl) (hw:zg5 [.Subscript ox ik apos] e X.env=pure none:=by rfl)
  (h1:(qi7 [.Subscript ox ik apos] X.env).map (·.2)=[zc9 (.Subscript ox ik apos) X.env]:=by rfl)
  (ha:∀v,zc9 (.Subscript ox ik apos) X.env v=(do
   let ov <- zd0 [v] (eval ox X.env);let iv <- zd0 [v,ov] (eval ik X.env)
   standAt apos
   zd0 [v,ov,iv] (setItem ov iv v)
   release [v,ov,iv] []):=by intro _;rfl):DS1 X (.Assign [.Subscript ox ik apos] e pos) (lH i fk fe):=
 PS.mono (PS.or (uC he (Bc hx hk uM ha) hs1 hw h1) (rk (kw hr) hx hk he hs)) fun D σ H ⟨Φ,δ,F,ot,hK,en,O,k⟩=>by
  unfold lH at O;obtain⟨d,hd,O⟩:=bS O;obtain⟨kd,hkd,O⟩:=bS O;split at O<;>first|(cases O;done)|skip
  .rename_i l hl;obtain⟨n,hn,O⟩:=bS O;obtain⟨j,hj,O⟩:=mS O;cases O;refine .inl ⟨Φ,δ,F,d,hK,en,hd,fun v H1 F1 st rv=>?_⟩;have Y:=en.step st;obtain⟨a,vs,hv,h1,h2⟩:=Y.ownL hl;refine⟨.ref a,hv,Φ,δ,F1,kd,hK,Y,hkd,fun w H2 F2 q rw'=>?_⟩;have Z:=Y.step q;refine⟨a,vs,n,j,rfl,iS hn rw',q.hh _ _ h1,by rw[h2.length];exact hj,?_⟩;exact k σ F2 _ (Z.poke hl hv rfl fun S sa=>⟨a,_,rfl,sa,bn,Reps.set (hK▸rv.same q.ff) j (h2.same q.ff)⟩)
  .rename_i l hl;obtain⟨kk,hkk,O⟩:=bS O;split at O<;>first|(cases O;done)|skip
   rename_i hc;cases O;refine .inr ⟨Φ,δ,F,d,hK,en,hd,fun v H1 F1 st rv=>?_⟩;have Y:=en.step st;obtain⟨a,J6,hv,h1,h2,h3⟩:=Y.ownD hl;refine⟨.ref a,hv,Φ,δ,F1,kd,hK,Y,hkd,fun w H2 F2 q rw'=>?_⟩;have Z:=Y.step q;have:=gZ rw' hkk;subst this;have hlen:J6.length=l.length:=by simpa using congrArg qo1 h2
   refine⟨a,_,rfl,.inl ⟨J6,kk,q.hh _ _ h1,rfl,by rw[hlen];exact hc.1,rfl⟩,?_⟩;obtain⟨p1,p2⟩:=rJ kk v J6 l d (by rw[h2];exact hc.2) h2;exact k σ F2 _ (Z.poke hl hv rfl fun S sa=>⟨a,_,rfl,sa,bn,p1,p2 _ _ (hK▸rv.same q.ff) (h3.same q.ff)⟩)
def cQ:De->Option Out:=fun _=>none
theorem b9:DS1 X st cQ:=fun J1 s σ H D I h=>by obtain⟨Φ,δ,F,o,Y,O,q,k⟩:=h;cases q
end
section
variable{prog:qc9}{w:Ja}{A:qe0}{E:Value->qa4->Prop}{s:qa4}{I t:J9}{j:Nat}{vs:Array Value}
theorem qg{y:Value}(hI:s.heap.IsTupleIter I t j)(hv:s.heap.IsTuple t vs)(hy:vs[j]?=some y)
 (q:∀h',h'.IsTupleIter I t (j+1)->qo0 I s.heap h'->Q y {s with heap:=h'}):wpAny (model prog w) A (qm4 (.ref I)) Q E s:=by
 obtain⟨oi,Y,hci,O⟩:=id hI;obtain⟨ot,hot,_,nt,Z⟩:=hv;unfold qm4;refine wB (qe9 (name:=qa0 "__next__") hI.typeIs ql7 (qf3 ql7 hI.typeIs qx1 ?_ (qw0 _)));show wpAny _ _ (field (.ref I) 0 >>= _) _ _ s;refine wB (qt9 Y O (x:=.ref t) rfl ?_);show wpAny _ _ (if(qf1 t==qh2)=true then _ else _) _ _ s;rw[if_neg (show ¬ (qf1 t==qh2)=true by exact qb8)];show wpAny _ _ (field (.ref I) 1 >>= _) _ _ s;refine wB (qt9 Y O (x:=.int j 0) rfl ?_);show wpAny _ _ (seqItems? (.ref t) >>= _) _ _ s;refine wB (qu4 hot Z ?_);simp only[qe5,hy];refine qg8 (qj3 Y O (by simp) (qa3 ⟨y,rfl,qa3 (q _ ?_ (qe7 ..))⟩));exact⟨_,qe4 _ Y (qh8 (qe2 O _)),(qq1 ..).trans hci,by rw[qe2 O];simp[qf5]⟩
theorem tD(hh:A.handled=none)(hI:s.heap.IsTupleIter I t j)(hv:s.heap.IsTuple t vs)(hy:vs[j]?=none)
 (q:∀h' e,zg0 I s.heap h'->(∃o,h'.get? e=some o/\o.cls=.type "StopIteration")->E (.ref e) {s with heap:=h'}):wpAny (model prog w) A (qm4 (.ref I)) Q E s:=by
 obtain⟨oi,O,hci,Y⟩:=id hI;obtain⟨ot,hot,_,nt,Z⟩:=hv;unfold qm4;refine wB (qe9 (name:=qa0 "__next__") hI.typeIs ql7 (qf3 ql7 hI.typeIs qx1 ?_ (qw0 _)));show wpAny _ _ (field (.ref I) 0 >>= _) _ _ s;refine wB (qt9 O Y (x:=.ref t) rfl ?_);show wpAny _ _ (if(qf1 t==qh2)=true then _ else _) _ _ s;rw[if_neg (show ¬ (qf1 t==qh2)=true by exact qb8)];show wpAny _ _ (field (.ref I) 1 >>= _) _ _ s;refine wB (qt9 O Y (x:=.int j 0) rfl ?_);show wpAny _ _ (seqItems? (.ref t) >>= _) _ _ s;refine wB (qu4 hot Z ?_);simp only[qe5,hy];refine qg8 (zh5 (qg8 (qj3 O Y (by simp) ?_)));show wpAny _ _ (zg9 (.type "StopIteration") [] >>= _) _ _ _;refine wB ?_;simp only[zg9,zi6];refine wB (qd5 ?_ (by first|size_fits|decide));refine qg8 (m:=qm5 _ _) (za6 (a:=qh2) (by first|rfl|(simp only[qm5]<;>rfl)) ?_);refine qd5 ?_ (by first|size_fits|decide);simp only[zh0];refine wB (za7 ?_)
 first|rw[hh]|rw[show A.in1.handled=none by exact hh]
 refine wB (qa3 (zg1 ?_));exact q _ _ (((qe7 ..).extBut.push _).push _) ⟨_,qa8 _ rfl,rfl⟩
end
variable{prog:qc9}{w:Ja}
theorem oN(O:A.handled=none)(I t:J9)(q:t≠I)(vs:Array Value):Draws prog w A I [I,t] vs.size (fun i v=>vs[i]?=some v) (fun i h=>h.IsTupleIter I t i/\h.IsTuple t vs) where
 live:=fun _ _ st=>let ⟨o,ho,_⟩:=st.1;⟨o,ho⟩
 frame:=fun _ _ _ st hk=>⟨let ⟨o,ho,r⟩:=st.1;⟨o,hk I (by simp) o ho,r⟩,let ⟨o,ho,r⟩:=st.2;⟨o,hk t (by simp) o ho,r⟩⟩
 item:=fun i s Q E hi st Z=>qg st.1 st.2 (y:=vs[i]) (by simp[hi]) fun h' a b=>Z _ h' s.toks (by simp[hi]) ⟨a,let ⟨o,ho,r⟩:=st.2;⟨o,b.extBut _ _ q ho,r⟩⟩ b
 done:=fun s Q E st Y=>tD O st.1 st.2 (by simp) Y
def SqB(b:Bool)(K:xA9)(H:Hp)(a:J9)(xs:List V):Prop:=match b with
 |true=>SqL K H a xs
 |false=>SqT K H a xs
def ItB(b:Bool)(h:Heap)(I a:J9)(i:Nat):Prop:=match b with
 |true=>h.IsListIter I a i
 |false=>h.IsTupleIter I a i
def CoB(b:Bool)(h:Heap)(a:J9)(vs:Array Value):Prop:=match b with
 |true=>h.IsList a vs
 |false=>h.IsTuple a vs
variable{h:Heap}{I a:J9}{i:Nat}
theorem ItB.obj(x:ItB b h I a i):∃o,h.get? I=some o/\(o.cls=.type "list_iterator"∨o.cls=.type "tuple_iterator")/\∀v,o.data≠.cell v:=by
 cases b with
 |true=>obtain⟨o,e,c,d⟩:=x;exact⟨o,e,.inl c,fun v z=>by rw[d]at z;cases z⟩
 |false=>obtain⟨o,e,c,d⟩:=x;exact⟨o,e,.inr c,fun v z=>by rw[d]at z;cases z⟩
variable{h':Heap}
theorem ItB.at(x:ItB b h I a i)(k:∀o,h.get? I=some o->h'.get? I=some o):ItB b h' I a i:=by
 cases b with
 |true=>obtain⟨o,e,r⟩:=x;exact⟨o,k o e,r⟩
 |false=>obtain⟨o,e,r⟩:=x;exact⟨o,k o e,r⟩
theorem CoB.obj{vs:Array Value}(x:CoB b h a vs):∃o,h.get? a=some o/\(o.cls=.type "list"∨o.cls=.type "tuple"):=by
 cases b with
 |true=>obtain⟨o,e,c,_⟩:=x;exact⟨o,e,.inl c⟩
 |false=>obtain⟨o,e,c,_⟩:=x;exact⟨o,e,.inr c⟩
theorem Aa{x y:String}(h:x≠y):qk5 x≠qk5 y:=fun z=>h (by cases z;rfl)
theorem vq{c:Bool}{l:J9}{vs:Array Value}(x:ItB b h I a i)(y:CoB c h l vs):l≠I:=by obtain⟨o,Z,O,_⟩:=x.obj;obtain⟨o',Y,q⟩:=y.obj;rintro rfl;rw[Z]at Y;cases Y;rcases O with O|O<;>rcases q with q|q<;>rw[O]at q<;>exact absurd q (Aa (by decide))
variable{t':Nat}{fp:List J9}
section
variable{X:Cx}{J1:List (J9×Obj)}{σ:St}{H:Hp}{s:qa4}{a I:J9}{xs:List V}{b:Bool}
theorem Inv.seqB(J:Inv X J1 σ H s)(h:SqB b X.K H a xs):∃J8:List Value,Vals xs J8/\CoB b s.heap a J8.toArray:=by
 cases b with
 |true=>obtain⟨J8,r,p,_⟩:=J.list h;exact⟨J8,r,p.isList⟩
 |false=>obtain⟨J8,r,p,_⟩:=J.tuple h;exact⟨J8,r,p⟩
theorem Inv.seqB_inj{ys:List V}(J:Inv X J1 σ H s)(h:SqB b X.K H a xs)(h':SqB b X.K H a ys):xs=ys:=by
 cases b with
 |true=>exact J.list_inj h h'
 |false=>exact J.tuple_inj h h'
theorem vv(O:A.handled=none)(q:a≠I)(vs:Array Value):Draws prog w A I [I,a] vs.size (fun i v=>vs[i]?=some v) (fun i h=>ItB b h I a i/\CoB b h a vs):=by
 cases b with
 |true=>exact Draws.list O I a q vs
 |false=>exact oN O I a q vs
theorem Inv.turnedL(J:Inv X J1 σ H s)(k:∀b o,b∉fp->s.heap.get? b=some o->h'.get? b=some o)(Y:∀b∈fp,hV X J1 H b):Inv X J1 σ H {s with heap:=h',toks:=t'}:=by
 have Z:∀b u,H b=some u->b∉fp:=fun b u e z=>by rw[(Y b z).1]at e;cases e
 refine J.step (g':=s.gens) (d':=s.drawn) (ch:=fp) (fun b hb=>?_) (fun b o _ _ O e _=>k b o O e) (fun b o _ _ O e _=>⟨o.slots,k b o O e⟩) (fun _ _ _ _ n=>n)
  (fun b o O e=>⟨o,k b o O e⟩) (fun _ _ e=>e) (fun _ _ _ e=>e) (fun b ps e=>⟨#[],by rw[e];simp⟩) (fun _ _ e=>e) (fun m hm=>?_) (fun b u e=>?_) J.bare
 .exact⟨(Y b hb).2.2.2.1,(Y b hb).2.1,(Y b hb).2.2.2.2.1,(Y b hb).2.2.2.2.2⟩
 .obtain⟨o,es,ep,ho,r⟩:=hm;exact⟨o,es,ep,k _ o (fun z=>(Y _ z).2.1 rfl) ho,r⟩
 .refine(J.hok b u e).stay (fun c v O q=>k c v ?_ q) (fun _ q=>q) (fun _ _ q=>q) fun _ _ _ q=>q
  rcases O with z|z
  .rw[z];exact Z b u e
  .exact Z c _ z
end
section
variable{X:Cx}{J1:List (J9×Obj)}{σ:St}{H:Hp}{s:qa4}
theorem Inv.turnedT {t:J9} {u:HO} (J:Inv X J1 σ H s) (k:∀ b o,b∉fp->s.heap.get? b=some o->h'.get? b=some o) (hf:∀ b∈fp,hV X J1 H b) (ht:s.heap.objs.size<=t) (new:ObjOk X.prog X.w (upd H t u) h' t u) :
  Inv X J1 σ (upd H t u) {s with heap:=h',toks:=t'}:=by
 have nit:∀b u,H b=some u->b∉fp:=fun b u e z=>by rw[(hf b z).1]at e;cases e
 have hn:H t=none:=J.hok.fresh ht;have O:∀b v,H b=some v->b≠t:=fun b v e=>ck e hn
 have nlt:∀b o,s.heap.get? b=some o->b≠t:=fun b o e z=>by subst z;exact absurd (qa7 e) (qz4.mpr ht)
 refine J.step (g':=s.gens) (d':=s.drawn) (ch:=fp) (fun b Y=>?_) (fun b o _ _ Z e _=>k b o Z e) (fun b o _ _ Z e _=>⟨o.slots,k b o Z e⟩) (fun b o _ e n=>by rw[aP (nlt b o e)];exact n)
  (fun b o Z e=>⟨o,k b o Z e⟩) (fun b xs e=>by rw[aP (O b _ e)];exact e) (fun b o v e=>by rw[aP (O b _ e)];exact e) (fun b ps e=>⟨#[],by rw[aP (O b _ e),e];simp⟩) (fun b xs e=>by rw[aP (O b _ e)];exact e) (fun m hm=>?_) (fun b v e=>?_) J.bare
 .exact⟨(hf b Y).2.2.2.1,(hf b Y).2.1,(hf b Y).2.2.2.2.1,(hf b Y).2.2.2.2.2⟩
 .obtain⟨o,es,ep,ho,r⟩:=hm;exact⟨o,es,ep,k _ o (fun z=>(hf _ z).2.1 rfl) ho,r⟩
 .by_cases Y:b=t
  .subst Y;rw[bn]at e;cases e;exact new
  .rw[aP Y]at e;refine(J.hok b v e).stay (fun c ob Z q=>k c ob ?_ q) (fun c q=>by rw[aP (O c _ q)];exact q) (fun c ys q=>by rw[aP (O c _ q)];exact q) fun c ob ys q=>by rw[aP (O c _ q)];exact q
   rcases Z with z|z
   .rw[z];exact nit b v e
   .exact nit c _ z
end
noncomputable def Ite(b:Bool)(K:xA9)(a:J9):It:=⟨fun i H=>∃xs x,SqB b K H a xs/\xs[i]?=some x,fun i H x H'=>∃t v,H t=none/\x=.ref t/\H'=upd H t (.tup [.int i,v])/\∀xs,SqB b K H a xs->xs[i]?=some v,fun i H=>∃xs,SqB b K H a xs/\xs.length=i⟩
variable{P:qc9}{n:Nat}{pos:Pos}
theorem tE {elts:List Jc} (b:Bool) (a e I:J9) (hne:e≠I) :
  Turn P w K (.Tuple elts n pos) (Ite b K a) [e,I] e (fun i h=>(∃old,IsEnum h e I i old)/\ItB b h I a i) where
 mem:=by simp
 obj:=fun i h st c hc=>by
  obtain⟨⟨old,Y⟩,Z⟩:=st;simp only[qb0,ql8,or_false]at hc;rcases hc with rfl|rfl
  .exact⟨_,Y,fun v z=>nomatch z⟩
  .obtain⟨o,q,_,d⟩:=Z.obj;exact⟨o,q,d⟩
 keep:=fun i h h' st k=>by obtain⟨⟨old,Y⟩,Z⟩:=st;exact⟨⟨old,k e (by simp) _ Y⟩,Z.at fun o q=>k I (by simp) o q⟩
 item:=by
  intro X hP hw hK hc i J1 s σ H E J hf st hg;subst hP hw hK;obtain⟨⟨old,Y⟩,Z⟩:=st;obtain⟨xs,x,hq,hx⟩:=hg;obtain⟨J8,rv,co⟩:=J.seqB hq;obtain⟨u,hu,ru⟩:=rv.get hx;have hi:i<J8.toArray.size:=by simpa using (gX hu).1
  have hae:e∉[I,a]:=by simp only[qb0,ql8,or_false,not_or];refine⟨hne,fun z=>?_⟩;obtain⟨o,q,c⟩:=co.obj;rw[<- z,Y]at q;cases q;rcases c with c|c<;>exact absurd c (Aa (by decide))
  refine wpAny_pyNext_enum_itemD (vv (A:=X.A.in1) (b:=b) (I:=I) (a:=a) (show X.A.in1.handled=none from J.ok.hd hc) (vq Z co) J8.toArray) Y ⟨Z,co⟩ hi hne hae fun y h1 tk hy ho hs1 hT hsz hk=>⟨_,rfl,?_⟩
  have ey:y=u:=by rw[show J8.toArray[i]?=J8[i]? by simp,hu]at hy;exact(qd9 hy).symm
  subst ey;refine wpAny_letOwnedTupleGo_enum ho fun h2 he2 sb2=>?_
  have kk:∀c o,c∉[e,I]->s.heap.get? c=some o->h2.get? c=some o:=fun c o O q=>by simp only[qb0,ql8,or_false,not_or]at O;exact(sb2.2 c O.1).trans (hk c o O.1 O.2 q)
  have lt:∀c∈[e,I],c<s.heap.objs.size:=fun c O=>by
   simp only[qb0,ql8,or_false]at O;rcases O with rfl|rfl
   .exact qa7 Y
   .obtain⟨o,q,_⟩:=Z.obj;exact qa7 q
  -- first the records,then the pair
  have hT2:h2.get? s.heap.objs.size=some {cls:=.type "tuple",data:=.seq #[.int i tk,y]}:=(sb2.2 _ (fun z=>ql9 _ (z▸lt e (by simp)))).trans hT
  have J2:Inv X J1 σ (upd H s.heap.objs.size (.tup [.int i,x])) {s with heap:=h2,toks:=tk+1}:=by refine J.turnedT kk hf (nL _) ⟨by show 2<=qb4;decide,[.int i tk,y],.cons ⟨_,rfl⟩ (.cons ru .nil),?_⟩;exact⟨_,hT2,rfl,_,rfl⟩
  refine⟨.ref s.heap.objs.size,_,J2,rfl,⟨_,x,J.hok.fresh (qt7 _),rfl,rfl,fun ys hy=>by rw[J.seqB_inj hy hq];exact hx⟩,⟨⟨_,by simpa using he2⟩,hs1.1.at fun o q=>(sb2.2 I (qp1 hne)).trans q⟩,fun c O=>?_⟩;rw[aP (qc1 (lt c O))];exact(hf c O).1
 done:=by
  intro X hP hw hK hc i J1 s σ H E J hf st hg;subst hP hw hK;obtain⟨⟨old,Y⟩,Z⟩:=st;obtain⟨xs,hq,hx⟩:=hg;obtain⟨J8,rv,co⟩:=J.seqB hq;have hi:i=J8.toArray.size:=by rw[<- hx];simpa using rv.length
  refine wpAny_pyNext_enum_endD (vv (A:=X.A.in1) (b:=b) (I:=I) (a:=a) (show X.A.in1.handled=none from J.ok.hd hc) (vq Z co) J8.toArray) Y (show ItB b s.heap I a J8.toArray.size/\CoB b s.heap a J8.toArray from⟨hi▸Z,co⟩) fun h' eb=>⟨rfl,?_⟩
  exact J.turnedL (t':=s.toks) (fun c o O q=>eb c o (fun z=>O (by simp[z])) q) hf
 self:=fun A i s Q E st h=>by obtain⟨⟨old,Y⟩,Z⟩:=st;exact wpAny_pyIter_enum Y h
theorem oO (t:J9) (vs:Array Value) (n:Nat) (dd:Option J9) (sl:Array (Option Value)) :
  Meets (qj1.«enumerate.__new__» ⟨[.type "enumerate",.ref t],[]⟩) (fun _ R s=>s.heap.get? t=some {cls:=.type "tuple",dict:=dd,data:=.seq vs n,slots:=sl}∧
   R (.ok (.ret (.ref (s.heap.push {cls:=.type "tuple_iterator",data:=.fields #[.ref t,.int 0 0]}).objs.size)))
    {s with heap:=(s.heap.push {cls:=.type "tuple_iterator",data:=.fields #[.ref t,.int 0 0]}).push {cls:=.type "enumerate",data:=.fields #[.none,.bool false,.ref s.heap.objs.size,qf5 0,.none,.none]}}):=
 .of_wp fun prog w A R s h=>by
  obtain⟨hp,g,d,tk,Z⟩:=s;obtain⟨q,h⟩:=h;have Y:=sub_enumerate;have O:Heap.IsTuple (qa4.heap ⟨hp,g,d,tk,Z⟩) t vs:=⟨_,q,rfl,n,rfl⟩;wp_walk using qs1 q;refine wpAny_stack_any fun st=>qa3 ?_
  split
  .rename_i c _ _ _ _ _;cases (c==qk5 "enumerate")<;>(wp_walk using qs1 q,qx8 O)<;>exact⟨_,rfl,h⟩
  . (wp_walk using qs1 q,qx8 O)<;>exact⟨_,rfl,h⟩
section
variable{prog:qc9}{w:Ja}{A:qe0}{E:Value->qa4->Prop}{s:qa4}
theorem qh{t:J9}{vs:Array Value}(hT:s.heap.IsTuple t vs)
 (h:∀h',IsEnum h' (s.heap.objs.size+1) s.heap.objs.size 0 .none->h'.IsTupleIter s.heap.objs.size t 0->h'.objs.size=s.heap.objs.size+2→
 (∀c u,s.heap.get? c=some u->h'.get? c=some u)->Q (.ref (s.heap.objs.size+1)) {s with heap:=h'}) :
  wpAny (model prog w) A (call (.type "enumerate") [.ref t]) Q E s:=by
 obtain⟨⟨c,dct,dt,sl⟩,hl,Z,n,O⟩:=hT;have Z:c=.type "tuple":=Z;have O:dt=.seq vs n:=O;subst Z O;refine callType_new F.called_enumerate (by decide) (F.typeCall_enumerate_1 _) (F.newCall_enumerate_1 _) (fun obj=>F.args_object_init_2 obj _) F.entry_enumerate_new (oO t vs n dct sl) ⟨hl,?_⟩;have hz:(s.heap.push {cls:=.type "tuple_iterator",data:=.fields #[.ref t,.int 0 0]}).objs.size=s.heap.objs.size+1:=qf7 ..;have Y:((s.heap.push {cls:=.type "tuple_iterator",data:=.fields #[.ref t,.int 0 0]}).push {cls:=.type "enumerate",data:=.fields #[.none,.bool false,.ref s.heap.objs.size,qf5 0,.none,.none]}).objs.size=s.heap.objs.size+2:=by rw[qf7,hz]
 rw[hz];have q:=qa8 (s.heap.push {cls:=.type "tuple_iterator",data:=.fields #[.ref t,.int 0 0]}) (o:={cls:=.type "enumerate",data:=.fields #[.none,.bool false,.ref s.heap.objs.size,qf5 0,.none,.none]}) rfl;rw[hz]at q;exact⟨⟨_,q,rfl⟩,h _ q ⟨_,gP _ (qa8 _ rfl),rfl,rfl⟩ Y fun c u z=>gP _ (gP _ z)⟩
theorem qi{t:J9}{vs:Array Value}(q:CoB b s.heap t vs)
 (h:∀h',IsEnum h' (s.heap.objs.size+1) s.heap.objs.size 0 .none->ItB b h' s.heap.objs.size t 0->h'.objs.size=s.heap.objs.size+2→
 (∀c u,s.heap.get? c=some u->h'.get? c=some u)->Q (.ref (s.heap.objs.size+1)) {s with heap:=h'}) :
  wpAny (model prog w) A (call (.type "enumerate") [.ref t]) Q E s:=by
 cases b with
 |true=>exact call_enumerate_list q h
 |false=>exact qh q h
end
variable{ta:TA}
section
variable{X:Cx}{x:Jc}{p pos tpos:Pos}{sc:Jd}{fs:De->Option (List Dt)}{elts:List Jc}{n:Nat}
def Ed(K:xA9)(ta:TA):TI:=fun σ H R=>ta σ H fun vs H1=>∃b a xs,vs=[.ref a]/\SqB b K H1 a xs/\R (Ite b K a) H1
theorem yp (h:aC sc "enumerate"=true) (hm:X.mg "enumerate"=none) (ha:PA X [x] ta) (e1:cH X sc:=by rfl) (hs:qa9 [x] X.env=[(false,eval x X.env)]:=by rfl) :
  PI X (.Tuple elts n tpos) (.Call (.Name "enumerate" p) [x] [] pos) (Ed X.K ta):=by
 intro J1 s σ H R I h';refine Call_ (fT I (glD h e1) hm mZ (qf6 (thn (ha pos J1 s σ H _ I h') fun us s1 ⟨vs,H1,Y,r1,q1⟩=>?_) hs rfl));obtain⟨b,a,xs,rfl,hq,q⟩:=q1;obtain⟨u,rfl,ru⟩:=gp r1;cases ru;obtain⟨J8,rv,co⟩:=Y.seqB hq;refine qi co fun h2 he hi hz hk=>wpAny_pyIter_enum he ?_
 have I2:Inv X J1 σ H1 {s1 with heap:=h2}:=Y.kept (t':=s1.toks) hk;refine⟨s1.heap.objs.size+1,[s1.heap.objs.size+1,s1.heap.objs.size],_,_,H1,rfl,I2,tE b a _ _ (qm0 (qo4 _)),⟨⟨_,he⟩,hi⟩,fun c Z=>?_,q⟩
 have O:s1.heap.objs.size<=c:=by
  simp only[qb0,ql8,or_false]at Z;rcases Z with rfl|rfl
  .exact za8 _
  .exact nL _
 exact Y.fpOk O (Y.hok.fresh O)
def e8(i:Nat):List Dt->List Dt
 |[]=>[]
 |d::r=>.tup [.int i,d]::e8 (i+1) r
theorem me:∀(l:List Dt)(i:Nat),(e8 i l).length=l.length
 |[],_=>rfl
 |_::r,i=>by simp[e8,me r]
theorem mf:∀(l:List Dt)(i k:Nat),(e8 i l)[k]?=l[k]?.map fun d=>.tup [.int ((i+k:Nat):Int),d]
 |[],i,k=>by simp[e8]
 |d::r,i,0=>by simp[e8]
 |d::r,i,k+1=>by simp[e8,mf r,Nat.add_assoc,Nat.add_comm 1]
def mh:List Dt->Option (List Dt)
 |[.lst l]=>some (e8 0 l)
 |[.tup l]=>some (e8 0 l)
 |_=>none
theorem vw{F:Hp}{d e:Dt}{w:V}{t:J9}(h:F t=some (.tup [v,w]))(r:Rep K F d v)(q:Rep K F e w):Rep K F (.tup [d,e]) (.ref t):=by simp only[Rep,Reps];exact⟨t,_,rfl,SqT.of h,v,[w],rfl,r,w,[],rfl,q,rfl⟩
theorem mi{F:Hp}{xs:List V}(r:Reps K F l xs):rE K F (Ite b K a) (e8 0 l) (fun H=>SqB b K H a xs):=fun i H F2 q Y Z=>by have hl:=r.length;rw[me];refine⟨fun h=>⟨xs,xs[i],q,by simp[show i<xs.length by lia]⟩,fun h=>⟨xs,q,by lia⟩,fun x H' hi hy=>?_⟩;obtain⟨t,v,O,rfl,rfl,hv⟩:=hy;have hx:=hv xs q;obtain⟨d,hd,rd⟩:=r.same_get hx;refine⟨_,upd F2 t (.tup [.int i,v]),?_,Step.new Y O,vw bn fW ((rd.same Z).same (Same.upd (Y.free O)))⟩;rw[mf,hd];simp
theorem iW (h:aC sc "enumerate"=true) (O:X.mg "enumerate"=none) (Z:DA X [x] fs) (e1:cH X sc:=by rfl) (hs:qa9 [x] X.env=[(false,eval x X.env)]:=by rfl) :
  DIF X (.Tuple elts n tpos) (.Call (.Name "enumerate" p) [x] [] pos) (dq mh fs):=PI.mono (yp h O Z.pa e1 hs) fun σ H R ⟨Φ,δ,F,ds,hK,en,q,k⟩=>by
 unfold dq at q;obtain⟨as,hd,q⟩:=bS q;refine⟨Φ,δ,F,as,hK,en,hd,fun vs H' F' st r=>?_⟩;unfold mh at q;split at q<;>first|(cases q;done)|skip
 .cases q;simp only[Reps,Rep]at r;obtain⟨v,Y,rfl,⟨a,xs,rfl,h1,h2⟩,rfl⟩:=r;exact⟨true,a,xs,rfl,st.fh.seq h1,k _ _ H' F' st (mi (b:=true) h2) fun H2 s=>s.seq h1⟩
 .cases q;simp only[Reps,Rep]at r;obtain⟨v,Y,rfl,⟨a,xs,rfl,h1,h2⟩,rfl⟩:=r;exact⟨false,a,xs,rfl,st.fh.tup h1,k _ _ H' F' st (mi (b:=false) h2) fun H2 s=>s.tup h1⟩
end
section
variable{prog:qc9}{w:Ja}{A:qe0}{E:Value->qa4->Prop}{s:qa4}{z ti tO i1 i2:J9}{fp1 fp2:List J9}{n1 n2 k:Nat}{P1 P2:Nat->Value->Prop}{S1 S2:Nat->Heap->Prop}{va vb:Value}
end
section
variable{prog:qc9}{w:Ja}{A:qe0}{E:Value->qa4->Prop}{s:qa4}
end
section
variable{X:Cx}{J1:List (J9×Obj)}{σ:St}{H:Hp}{s:qa4}{a:J9}{xs ys:List V}{b c:Bool}
end
section
variable{X:Cx}{x y:Jc}{p pos tpos:Pos}{sc:Jd}{fs:De->Option (List Dt)}{elts:List Jc}{n:Nat}
end
section
variable{X:Cx}{o a b e c:Jc}{es:List Jc}{fa fb fo fe:De->Option Dt}{fs:De->Option (List Dt)}{pos apos cpos p:Pos}{i:Nat}
end
section
variable{X:Cx}{e:Jc}{es:List Jc}{fs:De->Option (List Dt)}{pos p:Pos}{x:Str}{sc:Jd}
end
noncomputable def yq(P:qc9)(w:Ja)(K:xA9)(mg:Str->Option Value)(x:Str)(ks:List Key)(l:List Dt):Prop:=∃(a:J9)(J6:List (Key×V))(vs:List (Key×Value)),mg x=some (.ref a)/\(a==qh6)=false/\J6.map (·.1)=ks/\(∀F,Reps K F l (J6.map (·.2)))/\KV J6 vs/\∀h:Heap,K.In h->h.DictOf (bY P w) a vs
def gSg(ks:List Key)(l:List Dt):Dt->Option T:=fun k=>(oM k).bind fun k=>(db ks l k).map .leaf
def vSg(ks:List Key)(l:List Dt)(f:De->Option Dt):De->Option T:=fun δ=>(f δ).bind (gSg ks l)
def gSi(neg:Bool)(ks:List Key)(l:List Dt):Dt->Option Bool:=fun k=>(oM k).map fun k=>if neg then !(db ks l k).isSome else(db ks l k).isSome
def fSi(neg:Bool)(ks:List Key)(l:List Dt)(f:De->Option Dt):De->Option Bool:=fun δ=>(f δ).bind (gSi neg ks l)
variable{J6:List (Key×V)}
section
variable{X:Cx}{b:Jc}{fb:De->Option Dt}{pos p:Pos}{x:Str}{sc:Jd}{ks:List Key}{l:List Dt}
def tSg(J6:List (Key×V))(ty:TE):TE:=fun σ H Q=>ty σ H fun y H1=>∃k v,y=kV k/\fG J6 k=some v/\Q v H1
def tSi(neg:Bool)(J6:List (Key×V))(ty:TE):TE:=fun σ H Q=>ty σ H fun y H1=>∃k,y=kV k/\Q (.bl (if neg then !(fG J6 k).isSome else(fG J6 k).isSome)) H1
theorem Ee {vs:List (Key×Value)} {ty:TE} (h:aC sc x=true) (hg:X.mg x=some (.ref a)) (Y:KV J6 vs) (hD:∀ h:Heap,X.K.In h->h.DictOf (bY X.prog X.w) a vs) (hb:PE X b ty) (hn:uQ b) (e1:cH X sc:=by rfl) :
  PE X (.Subscript (.Name x p) b pos) (tSg J6 ty):=by
 intro J1 s σ H Q I q;have hx:PE X (.Name x p) (tC (.ref a)):=kE h ⟨_,hg,rfl⟩ e1;refine rh PySem.F.slot_dict_getitem.lookup hn (thn (hx J1 s σ H (fun y H1=>y=.ref a/\tSg J6 ty σ H1 Q) I ⟨rfl,q⟩) fun u s1 ⟨y0,H1,I1,rx,e0,q1⟩=>thn (hb J1 s1 σ H1 _ I1 q1) fun iv s2 ⟨y,H2,I2,ry,k,v,ey,hv,q2⟩=>?_);subst e0 ey;obtain rfl:u=qf1 a:=rx;have Z:=hD _ I2.kIn;obtain⟨w',hw,O⟩:=RelO.some_of (v:=v) (o:=zf9 vs k) (by rw[<- hv];exact Y.val k);exact⟨Z.typeIs,wpAny_getItem_of (kt ry) Z.mapOf hw ⟨v,H2,I2.tok _,O,q2⟩⟩
theorem BS {vs:List (Key×Value)} {ty:TE} (h:aC sc x=true) (hg:X.mg x=some (.ref a)) (hs:(a==qh6)=false) (O:KV J6 vs) (hD:∀ h:Heap,X.K.In h->h.DictOf (bY X.prog X.w) a vs) (Z:PE X b ty) (e1:cH X sc:=by rfl) :
  PC X .NotIn b (.Name x p) (tSi true J6 ty):=by
 intro J1 s σ H Q I q;have hx:PE X (.Name x p) (tC (.ref a)):=kE h ⟨_,hg,rfl⟩ e1;refine thn (Z J1 s σ H _ I q) fun iv s1 ⟨y,H1,I1,ry,k,ey,q1⟩=>thn (hx J1 s1 σ H1 (fun y H2=>y=.ref a/\Q (.bl (!(fG J6 k).isSome)) H2) I1 ⟨rfl,q1⟩) fun u s2 ⟨y0,H2,Y,rx,e0,q2⟩=>?_
 subst e0 ey;obtain rfl:u=qf1 a:=rx;have dd:=hD _ Y.kIn;refine wpAny_notIn_of (kt ry) hs dd.mapOf ?_;rw[<- (O.val k).isSome_eq];exact⟨.bl (!(fG J6 k).isSome),H2,Y.tok _,rfl,q2⟩
theorem Ef(h:aC sc x=true)(Z:yq X.prog X.w X.K X.mg x ks l)(hb:DB X b fb)(e1:cH X sc:=by rfl)(hn:uQ b:=by exact fun _ _=>rfl):DO X (.Subscript (.Name x p) b pos) (vSg ks l fb):=by
 obtain⟨a,J6,vs,hg,hs,rfl,hR,Y,hD⟩:=Z;refine PE.mono (Ee h hg Y hD hb hn e1) fun σ H Q ⟨Φ,δ,F,t,hK,en,q,k⟩=>?_
 unfold vSg at q;obtain⟨y,hy,q⟩:=bS q;obtain⟨kk,hk,q⟩:=bS q;obtain⟨d,hd,q⟩:=mS q;cases q;refine⟨Φ,δ,F,y,hK,en,hy,fun v H1 F1 st rv=>?_⟩;obtain⟨w,hw,O⟩:=gY (hR F1) hd;exact⟨kk,w,gZ rv hk,hw,(k.step st).leaf.here st.fh O⟩
theorem Eg{neg:Bool}(hR:∀F,Reps K F l (J6.map (·.2))){Q:Bool->Hp->Prop}(h:tTr K (fSi neg (J6.map (·.1)) l fb) σ H Q):tSi neg J6 (tBd K fb) σ H (fun v H'=>∃c,v=.bl c/\Q c H'):=by obtain⟨Φ,δ,F,t,Z,O,q,k⟩:=h;unfold fSi at q;obtain⟨y,hy,q⟩:=bS q;obtain⟨kk,hk,q⟩:=mS q;subst q;refine⟨Φ,δ,F,y,Z,O,hy,fun v H1 F1 st Y=>⟨kk,gZ Y hk,_,rfl,?_⟩⟩;rw[<- j4 (hR F1)];exact k H1 F1 st
theorem BT(h:aC sc x=true)(Y:yq X.prog X.w X.K X.mg x ks l)(Z:DB X b fb)(e1:cH X sc:=by rfl)(hk:qh5 .NotIn (.Name x p)=false:=by with_unfolding_all rfl):DT X (.Compare b [.NotIn] [.Name x p] pos) (fSi true ks l fb):=by obtain⟨a,J6,vs,hg,hs,rfl,hR,O,hD⟩:=Y;exact PT.mono (mP (BS h hg hs O hD Z e1) hk) fun σ H Q q=>Eg hR q
end
def sEnt(p:Params)(q:Str×Tok×V×Value):zj1:=⟨qk4 p q.1,.str q.1 q.2.1,q.2.2.2⟩
variable{x:Str}{o:Obj}{ep:Nat}
theorem yr(O:List (Str×Tok×V×Value))(hm:mg x=some (.ref a))(hl:K.lookup a=some o)(hc:o.ExactDict)(Z:o.data=.dict (O.map (sEnt w.params)).toArray ep)
 (hs:(a==qh6)=false) (Y:(O.map (·.1)).Nodup) (hv:∀r∈O,RelV r.2.2.1 r.2.2.2) (hR:∀F,Reps K F l (O.map (·.2.2.1))):yq P w K mg x (O.map fun r=>.inr r.1) l:=by
 refine⟨a,O.map fun r=>(.inr r.1,r.2.2.1),O.map fun r=>(.inr r.1,r.2.2.2),hm,hs,by rw[qc3];rfl,fun F=>by rw[qc3];exact hR F,?_,fun h X=>⟨o,_,ep,X a o hl,hc,Z,?_,?_,?_⟩⟩
 .clear Z Y hR;induction O with
  |nil=>exact .nil
  |cons r O ih=>exact .cons ⟨rfl,hv r qd8⟩ (ih fun r hr=>hv r (qd2 _ hr))
 .intro e he;obtain⟨r,_,rfl⟩:=qc5.mp (List.mem_toArray.mp he);exact⟨.inr r.1,gl P w r.1 r.2.1,rfl⟩
 .show Pairs (bY P w) (O.map (sEnt w.params)) _;clear Z Y hR hv;induction O with
  |nil=>exact .nil
  |cons r O ih=>exact .cons (gl P w r.1 r.2.1) rfl ih
 .rw[qc3];have:(O.map ((fun x:Key×Value=>x.1) ∘ fun r=>((qu8 r.1:Key),r.2.2.2)))=(O.map (·.1)).map qu8:=by rw[qc3];rfl
  rw[this];exact List.Pairwise.map _ (fun a b h q=>h (qu8.inj q)) Y
variable{J8:Array Value}{ds:List Dt}
theorem dG{xs:List V}(Z:K.lookup a=some o)(hc:o.cls=.type "tuple")(Y:o.data=.seq J8 n)(q:Vals xs J8.toList)(hz:xs.length<=qb4){F:Hp}(O:Reps K F ds xs):Rep K F (.tup ds) (.ref a):=by simp only[Rep];exact⟨a,xs,rfl,.inr ⟨o,J8,n,Z,hc,Y,by rw[<- qe3,<- q.length];exact hz,q⟩,O⟩
theorem vz{xs:List V}(O:mg x=some (.ref a))(hl:K.lookup a=some o)(hc:o.cls=.type "tuple")(Z:o.data=.seq J8 n)(q:Vals xs J8.toList)(hz:xs.length<=qb4)(Y:∀F,Reps K F ds xs):jN K mg x (.tup ds):=⟨.ref a,⟨_,O,rfl⟩,fun F=>dG hl hc Z q hz (Y F)⟩
inductive RepsI(K:xA9)(F:Hp):List Dt->List V->Prop
 |nil:RepsI K F [] []
 |cons {d:Dt} {v:V} {l:List Dt} {vs:List V}:Rep K F d v->RepsI K F l vs->RepsI K F (d::l) (v::vs)
theorem yt{F:Hp}(h:RepsI K F l vs):Reps K F l vs:=by
 induction h with
 |nil=>simp[Reps]
 |cons h _ q=>simp only[Reps];exact⟨_,_,rfl,h,q⟩
variable{y:Str}{py spos:Pos}
section
variable{X:Cx}{elt tg iter:Jc}{ifs:List Jc}{scope:Jd}{pos:Pos}{M:List Str}{src:List (Option Nat)}{wi:TI}{g:TG}{tt:TT}{te:TE}
theorem tF{Q:VK}{cpos:Pos}{use:Option (Value->Sem Unit)}{QQ:Value->qa4->Prop}(S:CmpScope X.N X.env.scope scope M src)(hc:X.calm=true)(hi:PI X tg iter wi)(hg:M.Nodup->∀C s H ex,PG (cxC X M scope C s H ex) tg g)(ht:∀C s H ex,PTs (cxC X M scope C s H ex) ifs tt)
 (he:∀C s H ex,PE (cxC X M scope C s H ex) elt te) (hs:∀x,qh7 iter X.env x=pure x) (I:Inv X J1 σ H s) (h:ou src wi g tt te σ H Q)
 (hfin:∀(D C:J9)(H':Hp)(s':qa4)(m:Str->Option Value),Inv X J1 σ H' s'->hV X J1 H' C->s'.heap.Ns C m->Q (.ref D) H'->ze9 (model X.prog X.w) X.A X.xe use QQ (.ref D) C (.ok .next) s') :
  wpAny (model X.prog X.w) X.A (comprehension (.ListComp elt [⟨tg,iter,ifs,0⟩] scope pos) scope X.env cpos (newList []) false (eval iter X.env) use) QQ X.xe s:=by
 have hcells:∀x∈scope.names,x.2=.free->∃c,X.env.cells.lookup x.1=some c:=fun x hx hfr=>I.ok.has x.1 (S.free x hx hfr)
 refine qz3 (use:=use) rfl hs (im hcells) S.kind S.names (thn (hi J1 s σ H _ I h) fun v s1 h1=>thn h1 fun itv s2 h2=>?_);obtain⟨it,fp,tn,J,H2,rfl,I2,T,st2,f2,hq⟩:=h2;refine qd5 ?_;have I3:Inv X J1 σ (upd H2 s2.heap.objs.size (.lst [])) {s2 with heap:=s2.heap.push {cls:=.type "list",dict:=none,data:=.seq ([]:List Value).toArray},toks:=s2.toks}:=I2.lnew (J8:=[]) (ys:=[]) (t':=s2.toks) .nil (by simp);have hD:H2 s2.heap.objs.size=none:=I2.fresh;obtain⟨W,⟨m0,w0⟩,turn⟩:=hq _ hD;generalize hDn:s2.heap.objs.size=D at*
 generalize hs3:({s2 with heap:=s2.heap.push {cls:=.type "list",dict:=none,data:=.seq ([]:List Value).toArray},toks:=s2.toks}:qa4)=s3 at*
 have f3:∀b∈fp,hV X J1 (upd H2 D (.lst [])) b:=fun b Y=>⟨by obtain⟨o,e,_⟩:=T.obj _ _ st2 b Y;rw[aP (by rw[<- hDn];exact qc1 (qa7 e))];exact(f2 b Y).1,(f2 b Y).2⟩
 have k23:∀b o,s2.heap.get? b=some o->s3.heap.get? b=some o:=fun b o e=>by rw[<- hs3];exact gP _ e
 have st3:tn 0 s3.heap:=T.keep _ _ _ st2 fun b _ o e=>k23 b o e
 have fl3:∀b∈fp,b<s3.heap.objs.size:=fun b Y=>by obtain⟨o,e,_⟩:=T.obj _ _ st3 b Y;exact qa7 e
 refine wpAny_newFunctionEnv S.nocell (by intro y hy;simp at hy) (fun h₁ hns₁ hsb₁=>?_) S.kind;have k34:∀b o,s3.heap.get? b=some o->h₁.get? b=some o:=fun b o e=>hsb₁.extBut b o (qc1 (qa7 e)) (gP _ e)
 generalize hs4:({s3 with heap:=h₁,toks:=s3.toks+([]:List (Str×Value)).length}:qa4)=s4
 have I4:Inv (cxC X M scope s3.heap.objs.size s3 (upd H2 D (.lst [])) fp) [] (stC src σ) (upd H2 D (.lst [])) s4:=by rw[<- hs4];exact oy S I3 f3 fl3 hns₁ k34 rfl rfl
 have st4:tn 0 s4.heap:=T.keep _ _ _ st3 fun b _ o e=>by rw[<- hs4];exact k34 b o e
 generalize O:cxC X M scope s3.heap.objs.size s3 (upd H2 D (.lst [])) fp=Z at*
 have hg':PG Z tg g:=by rw[<- O];exact hg S.nd _ _ _ _
 have ht':PTs Z ifs tt:=by rw[<- O];exact ht _ _ _ _
 have he':PE Z elt te:=by rw[<- O];exact he _ _ _ _
 have eP:Z.prog=X.prog:=by rw[<- O];rfl
 have eW:Z.w=X.w:=by rw[<- O];rfl
 have eK:Z.K=X.K:=by rw[<- O];rfl
 have eA:Z.A=X.A:=by rw[<- O];rfl
 have ex':Z.xe=fun _ _=>False:=by rw[<- O];rfl
 have ec:Z.calm=true:=by rw[<- O];exact hc
 have eE:Z.env=compEnvC scope (fV scope.names X.env.cells) s3.heap.objs.size X.env:=by rw[<- O];rfl
 have stat:∀{H':Hp},(∀b∈fp,H' b=none)->∀b∈fp,hV Z [] H' b:=fun hn b Y=>by
  rw[<- O];refine⟨hn b Y,qc1 (fl3 b Y),fun z=>?_,.inl Y,fun x c h=>(f3 b Y).2.2.2.2.1 x c (gv hcells h),fun p hp=>absurd hp (by simp[cxC])⟩;rcases qb0.mp (I3.stkSub b z)with q|q
  .exact(f3 b Y).2.1 q
  .exact(f3 b Y).2.2.1 q
 -- behind the block
 have fin:∀(H':Hp)(s':qa4),Inv Z [] (stC src σ) H' s'->Q (.ref D) H'->ze9 (model X.prog X.w) X.A X.xe use QQ (.ref D) s3.heap.objs.size (.ok .next) s':=by
  intro H' s' J' q;rw[<- O]at J';obtain⟨m,hn,_⟩:=id J'.loc;have hC:H' s3.heap.objs.size=none:=J'.free;have un:Un (frs X.stack) fp (upd H2 D (.lst [])) H' s3.heap s'.heap:=J'.base;have IA:Inv X J1 σ H' s':=I3.call' (s':=s') (show s'.os=s3.os from J'.os) un J'.hok J'.bare fun b Y=>⟨(f3 b Y).2.2.2.1,(f3 b Y).2.1,(f3 b Y).2.2.2.2.1,(f3 b Y).2.2.2.2.2⟩
  exact hfin D _ H' s' m IA (I3.fpOk (nL _) hC) hn q
 have loop:∀s4':qa4,s4'=s4->qq5 (model X.prog X.w) X.A (.compLoop (.ListComp elt [⟨tg,iter,ifs,0⟩] scope pos) 0 (.ref it) (.ref D) Z.env) (ze9 (model X.prog X.w) X.A X.xe use QQ (.ref D) s3.heap.objs.size) s4':=by
  rintro _ rfl;refine iI (fun n s'=>∃i H',Inv Z [] (stC src σ) H' s'/\tn i s'.heap/\(∀b∈fp,H' b=none)/\W i n H') ?_ m0 ⟨0,_,I4,st4,fun b Y=>(f3 b Y).1,w0⟩;rintro n s5 ⟨i,H5,I5,st5,fr5,w5⟩;rcases turn i n H5 w5 with ⟨stop,qn⟩|⟨go,N,hN,step⟩
  .have:=T.done Z eP eW eK ec i [] s5 (stC src σ) H5 (fun _ _=>False) I5 (stat fr5) st5 stop;rw[eA]at this;refine thn this fun r s6 ⟨hr,I6⟩=>?_
   subst hr;exact fin H5 s6 I6 qn
  .have:=T.item Z eP eW eK ec i [] s5 (stC src σ) H5 (fun _ _=>False) I5 (stat fr5) st5 go;rw[eA]at this;refine thn this fun r s6 ⟨u,hr,h6⟩=>?_
   subst hr;refine thn h6 fun _ s7 ⟨x,H7,I7,r7,y7,st7,fr7⟩=>?_
   have I7':=I7.pinned (stat fr7) (T.obj _ _ st7);have a1:=hg' _ s7 (stC src σ) H7 x u _ I7' r7 (step x H7 y7);rw[ex',eP,eW,eA]at a1;refine thn a1 fun _ s8 ⟨σ8,H8,I8,wk8,q8⟩=>?_
   have a2:=ht' _ s8 σ8 H8 _ I8 q8;rw[ex',eP,eW,eA]at a2;refine thn a2 fun ok s9 ⟨H9,I9,q9⟩=>?_
   have again:∀{H7':Hp}{s':qa4},Inv Z ([]++jc fp s7.heap) σ8 H7' s'->N H7'->∃m,m<n/\∃i H',Inv Z [] (stC src σ) H' s'/\tn i s'.heap/\(∀b∈fp,H' b=none)/\W i m H':=fun {H7' s'} J7 n7=>by obtain⟨m',hm,w7⟩:=hN H7' n7;refine⟨m',hm,i+1,H7',J7.unpinned.weak wk8.1 wk8.2,T.keep _ _ _ st7 fun b Y o e=>(J7.pin (b,o) (qc7 _ (qc7 _ (dM Y e)))).1,fun b Y=>?_,w7⟩;obtain⟨o,e,d⟩:=T.obj _ _ st7 b Y;exact(J7.pin (b,o) (qc7 _ (qc7 _ (dM Y e)))).2.1
   cases ok with
   |false=>exact again I9 q9
   |true=>
    have a3:=he' _ s9 σ8 H9 _ I9 q9;rw[ex',eP,eW,eA]at a3;refine thn a3 fun v s10 ⟨y,H10,I10,r10,ys,hl,hz,q10⟩=>?_
    have a4:=ji (X:=Z) _ s10 σ8 H10 (.ref D) [y] (.ref D) [v] (fun _ H'=>N H') I10 rfl (.cons r10 .nil) ⟨D,ys,y,rfl,rfl,hl,hz,q10⟩;rw[ex',eP,eW,eA]at a4;refine thn a4 fun _ s11 ⟨_,H11,I11,_,q11⟩=>?_
    exact again I11 q11
 have e4:∀c:Env,c=Z.env->qq5 (model X.prog X.w) X.A (.compStart (.ListComp elt [⟨tg,iter,ifs,0⟩] scope pos) 0 (.ref it) (.ref D) c) (ze9 (model X.prog X.w) X.A X.xe use QQ (.ref D) s3.heap.objs.size) s4:=by rintro _ rfl;exact zb9 (loop _ rfl) (T.self _ _ _ _ _ st4 (loop _ rfl))
 exact e4 _ (by rw[eE];rfl)
theorem rK(hN:X.N.Nodup)(hi':X.N[i]?=some y)(O:Loc X.env.scope y)(hf:X.fn y=true∨X.env.scope.names.lookup y=some .local)
 (S:CmpScope X.N X.env.scope scope M src) (hc:X.calm=true) (hi:PI X tg iter wi) (hg:M.Nodup->∀C s H ex,PG (cxC X M scope C s H ex) tg g) (ht:∀C s H ex,PTs (cxC X M scope C s H ex) ifs tt)
 (he:∀C s H ex,PE (cxC X M scope C s H ex) elt te) (hs:∀x,qh7 iter X.env x=pure x)
 (hsw:qn0 (.ListComp elt [⟨tg,iter,ifs,0⟩] scope pos) (some (.Name y py)) spos.line X.env=pure true) :
  PS X (.Assign [.Name y py] (.ListComp elt [⟨tg,iter,ifs,0⟩] scope pos) spos) (xK (ou src wi g tt te) (kl i)):=by
 intro J1 s σ H D I h;rw[exec_Assign_Name_used _ _ _ _ hsw];refine wB (za1 (wB ?_));show wpAny _ X.A (do let _ <- comprehension (.ListComp elt [⟨tg,iter,ifs,0⟩] scope pos) scope X.env _ (newList []) false (eval iter X.env) (some (zc9 (.Name y py) X.env))) _ _ s;refine wB (qk6 (tF (use:=some (zc9 (.Name y py) X.env)) (QQ:=fun _ s'=>∃ σ' H',Inv X J1 σ' H' s'/\D.nx σ' H') S hc hi hg ht he hs I h ?_) (fun _ s' hq=>qa3 (qa3 hq)) fun _ _ e=>e);intro Dd C H' s' m IA Y hn q;show wpAny _ X.A (zc9 (.Name y py) X.env (.ref Dd)) _ _ s';refine wpAny_assign_Name (lN IA hN hi' O (v:=.ref Dd) rfl (fun s2 I2 hsb=>?_) hf);obtain⟨a,sb,ha⟩:=hsb
 have ne:C≠a:=by
  rcases ha with rfl|ha
  .exact Y.2.1
  .exact qp1 (Y.2.2.2.2.1 y a ha)
 refine⟨m,hn.sameBut sb ne,fun h3 sb3=>⟨_,H',?_,q⟩⟩;have kC:∀b o,b≠C->s2.heap.get? b=some o->h3.get? b=some o:=fun b o Z e=>sb3.extBut b o Z e
 have nm:∀{b:J9},b∉[C]->b≠C:=fun Z z=>Z (by rw[z];exact qd8)
 refine I2.call' (s':={s2 with heap:=h3}) (ch:=[C]) rfl ⟨fun b o e n Z O=>kC b o (nm O) e,fun b o e n Z O=>⟨o.slots,kC b o (nm O) e⟩,fun b o e n O=>n,fun b o e O=>⟨o,kC b o (nm O) e⟩,fun b xs e=>e,fun b o u e=>e,fun b ps e=>⟨#[],by rw[Array.append_empty];exact e⟩,fun b qs e=>e⟩ ?_ I2.bare fun b Z=>?_
 .intro b u e;have nb:b≠C:=fun z=>by rw[z,Y.1]at e;cases e
  refine(I2.hok b u e).stay (fun c v hc' q=>kC c v ?_ q) (fun _ q=>q) (fun _ _ q=>q) fun _ _ _ q=>q
  rcases hc' with z|z
  .rw[z];exact nb
  .intro w;rw[w,Y.1]at z;cases z
 .cases qb6.mp Z;exact⟨Y.2.2.2.1,Y.2.1,Y.2.2.2.2.1,Y.2.2.2.2.2⟩
end
variable{sc:Jd}{ts:List Nat}{bb:Dt->De->Option De}
section
variable{X:Cx}{elt tg iter:Jc}{ifs:List Jc}{scope:Jd}{pos:Pos}{M:List Str}{src:List (Option Nat)}{fi:De->Option (List Dt)}{ft:De->Option Bool}{fe:De->Option Dt}{i:Nat}
theorem yu(h:cS sc N i y=true)(hl:iM sc y=true)(Z:N.Nodup)(S:CmpScope X.N X.env.scope scope M src)(hc:X.calm=true)(hi:DIB X tg iter fi)(hg:M.Nodup->∀C s H ex,DG (cxC X M scope C s H ex) tg ts bb)
 (ht:∀C s H ex,DTs (cxC X M scope C s H ex) ifs ft) (he:∀C s H ex,DL (cxC X M scope C s H ex) elt fe) (Y:(ts.all fun k=>decide (src[k]?=some none))=true) (hs:∀x,qh7 iter X.env x=pure x:=by intro _;rfl)
 (e1:cH X sc:=by rfl) (e2:X.N=N:=by rfl) (hf:X.fn y=true∨X.env.scope.names.lookup y=some .local:=by exact .inl rfl) (O:qn0 (.ListComp elt [⟨tg,iter,ifs,0⟩] scope pos) (some (.Name y py)) spos.line X.env=pure true:=by rfl) :
  DS1 X (.Assign [.Name y py] (.ListComp elt [⟨tg,iter,ifs,0⟩] scope pos) spos) (aF i (br src fi bb ft fe)):=by
 have e1:X.env.scope=sc:=e1;subst e1 e2;refine PS.mono (rK (g:=gD X.K ts bb) (tt:=tTr X.K ft) (te:=tL X.K fe) Z (gx h) (jk hl) hf S hc hi (fun Z C s H ex=>hg Z C s H ex) (fun C s H ex=>ht C s H ex) (fun C s H ex=>he C s H ex) hs O) fun D σ H ⟨Φ,δ,F,o,hK,en,q,k⟩=>?_
 unfold aF at q;obtain⟨t,ht',q⟩:=mS q;cases q;exact m8 S Y σ H _ ⟨Φ,δ,F,t,hK,en,ht',fun v H' F' S st o hs=>k _ F' H' (en.put st (hK▸o) hs i)⟩
theorem BU{f:De->Option T}{Q:VK}(h:tO K (toT (toD f)) σ H Q):tO K f σ H Q:=by obtain⟨Φ,δ,F,t,Z,Y,hf,k⟩:=h;obtain⟨d,q,rfl⟩:=mS hf;obtain⟨u,O,q⟩:=bS q;exact⟨Φ,δ,F,u,Z,Y,O,KL.to q k.leaf⟩
theorem fj(h:cS sc N i y=true)(hl:iM sc y=true)(Z:N.Nodup)(S:CmpScope X.N X.env.scope scope M src)(hc:X.calm=true)(hi:DIB X tg iter fi)(hg:M.Nodup->∀C s H ex,DG (cxC X M scope C s H ex) tg ts bb)
 (ht:∀C s H ex,DTs (cxC X M scope C s H ex) ifs ft) (he:∀C s H ex,DL (cxC X M scope C s H ex) elt fe) (Y:(ts.all fun k=>decide (src[k]?=some none))=true) (hs:∀x,qh7 iter X.env x=pure x:=by intro _;rfl)
 (e1:cH X sc:=by rfl) (e2:X.N=N:=by rfl) (hf:X.fn y=true∨X.env.scope.names.lookup y=some .local:=by exact .inl rfl) (O:qn0 (.ListComp elt [⟨tg,iter,ifs,0⟩] scope pos) (some (.Name y py)) spos.line X.env=pure true:=by rfl) :
  DS1 X (.Assign [.Name y py] (.ListComp elt [⟨tg,iter,ifs,0⟩] scope pos) spos) (aF i (toT (toD (br src fi bb ft fe)))):=by
 have e1:X.env.scope=sc:=e1;subst e1 e2;refine PS.mono (rK (g:=gD X.K ts bb) (tt:=tTr X.K ft) (te:=tL X.K fe) Z (gx h) (jk hl) hf S hc hi (fun Z C s H ex=>hg Z C s H ex) (fun C s H ex=>ht C s H ex) (fun C s H ex=>he C s H ex) hs O) fun D σ H ⟨Φ,δ,F,o,hK,en,q,k⟩=>?_
 unfold aF at q;obtain⟨t,ht',q⟩:=mS q;cases q;exact m8 S Y σ H _ (BU ⟨Φ,δ,F,t,hK,en,ht',fun v H' F' S st o hs=>k _ F' H' (en.put st (hK▸o) hs i)⟩)
end
def Ab:De->Option T:=fun _=>none
variable{X:Cx}
theorem yv:DO X e Ab:=fun J1 s σ H Q I h=>by obtain⟨Φ,δ,F,t,Y,O,q,k⟩:=h;cases q
def nj(neg:Bool):Dt->Dt->Option T
 |.bl a,.bl b=>some (.leaf (.bl (if neg then !decide (a=b)else decide (a=b))))
 |_,_=>none
section
variable{X:Cx}
theorem vA:OpR X (qg5 .Is) (fun x y H Q=>∃a b,x=.bl a/\y=.bl b/\Q (.bl (decide (a=b))) H):=by intro J1 s σ H x y v u Q I O Y h;obtain⟨a,b,rfl,rfl,q⟩:=h;cases O;cases Y;refine wpAny_is_plain rfl (bt I q ?_);cases a<;>cases b<;>rfl
theorem mj:OpR X (qg5 .IsNot) (fun x y H Q=>∃a b,x=.bl a/\y=.bl b/\Q (.bl (!decide (a=b))) H):=by intro J1 s σ H x y v u Q I O Y h;obtain⟨a,b,rfl,rfl,q⟩:=h;cases O;cases Y;refine wpAny_isNot_plain rfl (bt I q ?_);cases a<;>cases b<;>rfl
theorem Ac:R2D K (fun x y H Q=>∃a b,x=.bl a/\y=.bl b/\Q (.bl (decide (a=b))) H) (nj false):=by
 intro F H x y vx vy Q t Z O Y q k;unfold nj at q;split at q<;>first|(cases q;done)|skip
 cases q;cases O;cases Y;exact⟨_,_,rfl,rfl,k.bl Z⟩
theorem oP:R2D K (fun x y H Q=>∃a b,x=.bl a/\y=.bl b/\Q (.bl (!decide (a=b))) H) (nj true):=by
 intro F H x y vx vy Q t Z O Y q k;unfold nj at q;split at q<;>first|(cases q;done)|skip
 cases q;cases O;cases Y;exact⟨_,_,rfl,rfl,k.bl Z⟩
def oQ(K:xA9):R2:=fun x y H Q=>∃a b ys,x=.ref a/\y=.ref b/\SqT K H a []/\SqT K H b ys/\Q (.ref b) H
theorem yw:OpR X (qm7 .Add) (oQ X.K):=by
 intro J1 s σ H x y v u Q I rx ry h;obtain⟨a,b,ys,rfl,rfl,ha,hb,q⟩:=h;cases rx;cases ry;obtain⟨J8,r1,p1,_⟩:=I.tuple ha;obtain⟨its2,r2,p2,_⟩:=I.tuple hb;cases r1;obtain⟨⟨cls,dd,data,sl⟩,ho,hc,n,hd⟩:=id p1;obtain⟨⟨cls2,dd2,data2,sl2⟩,Z,O,n2,Y⟩:=id p2;simp only at hc hd O Y;subst hc hd O Y
 exact qy0 ⟨_,ho,rfl⟩ ⟨_,Z,rfl⟩ qv1 za3 PySem.F.slot_tuple_add PySem.F.entry_tuple_add (PySem.F.args_tuple_add_2 _ _)
  (tuple_addW0 a b #[] its2.toArray n n2 dd dd2 sl sl2 rfl) ⟨ho,Z,⟨.ref b,H,I,rfl,q⟩⟩
def vC:Dt->Dt->Option T
 |.tup [],.tup m=>some (.leaf (.tup m))
 |.tup (d::l),.tup (e::m)=>cq (.tup (d::l)) (.tup (e::m))
 |_,_=>none
theorem yx:OpR X (qm7 .Add) (fun x y H Q=>oQ X.K x y H Q∨l8 X.K x y H Q):=OpR.or yw aV
theorem BV:R2D K (fun x y H Q=>oQ K x y H Q∨l8 K x y H Q) vC:=by
 intro F H x y vx vy Q t O Z ry q k;unfold vC at q;split at q<;>first|(cases q;done)|skip
 .rename_i m;cases q;obtain⟨a,vs,rfl,h1,h2⟩:=Z;obtain⟨b,Y,rfl,h3,h4⟩:=ry;simp only[Reps]at h2;subst h2;refine .inl ⟨a,b,Y,rfl,rfl,O.tup h1,O.tup h3,k.leaf.here O ?_⟩;simp only[Rep];exact⟨b,Y,rfl,h3,h4⟩
 .exact .inr (bP F H _ _ vx vy Q t O Z ry q k)
end
section
variable{X:Cx}{pos:Pos}{k v:Jc}{ks:List (Option Jc)}{vs:List Jc}{fk fv:De->Option Dt}{g:De->Option (List (Key×Dt))}
end
theorem yy{k:Key}(h:(bY P w).is k u=true):RelV (kV k) u:=by
 rcases ce (show ki k u=true from h)with ⟨i,t,rfl,rfl⟩|⟨x,t,rfl,rfl⟩
 .exact⟨t,rfl⟩
 .exact⟨t,rfl⟩
variable{es:List Jc}
section
variable{X:Cx}
def Eh(K:xA9)(n:Nat)(t:TGs):TG:=fun v σ H Q=>∃a xs,v=.ref a/\SqL K H a xs/\xs.length=n/\t xs σ H Q
theorem BW{k:Nat}{t:TGs}(hc:X.calm=true)(h:PGs X es t)
 (hn:(qi7 es X.env).length=n:=by rfl) (O:(qi7 es X.env).findIdx? (·.1)=none:=by rfl):PG X (.Tuple es k pos) (Eh X.K n t):=by
 intro J1 s σ H v u Q I r q;obtain⟨a,xs,e1,hq,hl,q⟩:=q;subst e1;cases r;obtain⟨J8,Y,Z,hz⟩:=I.list hq;rw[assign_Tuple];refine wB (za1 ?_);unfold unpack;rw[show(qi7 es X.env).length=J8.toArray.size by simp[hn,<- hl,Y.length],O];refine wB (qi1 (PySem.W.kun_itemsOf (I.ok.hd hc) Z.isList fun h' hx=>?_));have I1:Inv X J1 σ H {s with heap:=h'}:=I.kept (t':=s.toks) fun b o e=>hx b o (qc1 (qa7 e)) e
 exact h J1 _ σ H xs _ Q I1 (by simpa using Y) q
def oR(n:Nat)(bs:List Dt->De->Option De):Dt->De->Option De:=fun d δ=>match d with
 |.lst ds=>if ds.length=n then bs ds δ else none
 |_=>none
theorem qj{k:Nat}{bs:List Dt->De->Option De}(hc:X.calm=true)(h:DGs X es ts bs)
 (hn:(qi7 es X.env).length=n:=by rfl) (Z:(qi7 es X.env).findIdx? (·.1)=none:=by rfl):DG X (.Tuple es k pos) ts (oR n bs):=PG.mono (BW hc h hn Z) fun v σ H Q ⟨Φ,δ,F,d,Y,hK,en,r,O,q⟩=>by
 unfold oR at O;split at O
 .rename_i ds;split at O
  .rename_i hl;simp only[Rep]at r;obtain⟨a,vs,e,h1,h2⟩:=r;exact⟨a,vs,e,Same.seq en.fh h1,by rw[h2.length];exact hl,Φ,δ,F,ds,Y,hK,en,h2,O,q⟩
  .cases O
 .cases O
end
def cw(sc:Jd)(N:List Str):Bool:=(qb2 N.length).all fun i=>match N[i]? with
 |some x=>cS sc N i x&&iM sc x
 |none=>false
theorem nsB(h:cw sc N=true)(e:N[i]?=some x):cS sc N i x=true/\iM sc x=true:=by have h1:=qj7.mp h i (qb5.mpr (gX e).1);rw[e]at h1;exact qv8.mp h1
theorem nsN(h:cw sc N=true)(i:Nat)(e:N[i]?=some x:=by rfl):cS sc N i x=true:=(nsB h e).1
theorem nsL(h:cw sc N=true)(i:Nat)(e:N[i]?=some x:=by rfl):iM sc x=true:=(nsB h e).2
theorem pvN(i:Nat)(h:cw sc N=true)(e:N[i]?=some x:=by rfl)(e1:cH X sc:=by rfl)(q:X.N=N:=by rfl):PE X (.Name x pos) (iC i):=pvD i (nsN h i e) e1 q
def yz:List Dt->Option T
 |[.int i,.int j]=>some (.leaf (.int (if j<i then j else i)))
 |_=>none
def rMin:List V->Hp->VK->Prop:=fun xs H Q=>∃i j,xs=[.int i,.int j]/\Q (.int (if j<i then j else i)) H
theorem tG(q:X.calm=true):dh X (.builtin "min") rMin:=sJ q
theorem Ei:CRD K rMin yz:=by
 intro F H ds vs Q t fh r q k;unfold yz at q;split at q<;>first|(cases q;done)|skip
 cases q;obtain⟨v,ws,rfl,r1,w,O,rfl,Z,Y⟩:=r;cases r1;cases Z;have Y:O=[]:=Y;subst Y;exact⟨_,_,rfl,k.int fh⟩
def rL:Key->Dt
 |.inl i=>.int i
 |.inr x=>.str x
theorem yA{F:Hp}(k:Key):Rep K F (rL k) (kV k):=by
 cases k with
 |inl i=>exact fW
 |inr x=>exact iP
def Ad(i j:Int):Prop:=0<j/\j<18446744073709551616
theorem cU:OpR X (qm7 .FloorDiv) (rI Ad fun i j=>.int (i/j)):=opI fun i j _ _ _ _ _ O q=>by
 have h1:(0:Int)<j:=O.1;have h2:j<18446744073709551616:=O.2;refine floordiv_int (by lia) (by rw[Int.fdiv_eq_ediv_of_nonneg i (by lia)];exact q) (.inl (PyProof.noPylong_of_log2 ?_));have h3:j.natAbs≠0:=by lia
 exact qy1 ((Nat.log2_lt h3).mpr (show j.natAbs<2^64 by lia)) (by decide)
def ei:Dt->Dt->Option T
 |.int i,.int j=>if 0<j/\j<18446744073709551616 then some (.leaf (.int (i/j)))else none
 |_,_=>none
theorem d7:R2D K (rI Ad fun i j=>.int (i/j)) ei:=by
 intro F H x y vx vy Q t fh Y Z q k;unfold ei at q;split at q<;>first|(cases q;done)|skip
 split at q
 .rename_i O;cases q;cases Y;cases Z;exact⟨_,_,rfl,rfl,O,k.int fh⟩
 .cases q
abbrev Orc:=J9->Hp->List Dt->Option T
noncomputable def vD(P:qc9)(w:Ja)(K:xA9)(mg:Str->Option Value)(base:Heap)(kk:Nat)(H:Hp)(G:Orc):Prop:=∀(f:J9)(F0:Hp)(ds:List Dt)(t:T),G f F0 ds=some t→
 (∃fo uf fd,H f=some (.frz fo uf)/\fo.data=.func fd)/\∀(A:qe0)(outer:List Env)(s:qa4)(H' F:Hp)(us:List Value)(vs:List V)(Q:VK),Room kk A->(∀b o u,H b=some (.frz o u)->H' b=some (.frz o u))->Env0 P w K mg base A outer s H'->Same F0 F->Same F H'->Vals vs us->Reps K F ds vs->KO K F H' t Q→
  qq5 (model P w) A (.call (.ref f) ⟨us,[]⟩) (CR CX0 outer P w H' s Q E0) s
def vCl(G:Orc)(i:Nat)(fs:De->Option (List Dt)):De->Option T:=fun δ=>match δ[i]? with
 |some (some (.fn a F0))=>(fs δ).bind (G a F0)
 |_=>none
section
variable{X:Cx}{e:Jc}{es:List Jc}{fs:De->Option (List Dt)}{p pos:Pos}{x:Str}{i kk:Nat}{G:Orc}
theorem j5 (hx:PE X (.Name x p) (iC i)) (hG:vD X.prog X.w X.K X.mg X.base kk X.H₀ G) (hr:Room kk X.A) (ha:DA X (e::es) fs)
  (he:qa9 (e::es) X.env=(false,eval e X.env)::qa9 es X.env:=by rfl) (hpl:(qj9 pos (qa9 es X.env)).any (·.1)=false:=by rfl):DO X (.Call (.Name x p) (e::es) [] pos) (vCl G i fs):=by
 intro J1 s σ H Q I h;obtain⟨Φ,δ,F,t,hK,en,Y,k⟩:=h;unfold vCl at Y;split at Y<;>first|(cases Y;done)|skip
 rename_i a F0 hi;obtain⟨ds,hd,ht⟩:=bS Y;obtain⟨v,hv⟩:=en.has i _ hi;obtain⟨S,sp⟩:=en.sep;obtain⟨rfl,hF0⟩:=sp.own i _ _ (cD hi hv);obtain⟨⟨fo,uf,fd,g1,g2⟩,run⟩:=hG a F0 ds t ht
 have q:∀{J1:List (J9×Obj)}{σ:St}{H:Hp}{s:qa4},Inv X J1 σ H s->PySem.W.FnAt a s.heap:=fun {J1 σ H s} J=>by have e1:=(J.hok a _ (J.base.frzs a fo uf g1)).1;obtain⟨oc,od,dt,sl⟩:=fo;cases (show dt=.func fd from g2);exact⟨oc,od,fd,sl,e1⟩
 refine qo8 (thn (hx J1 s σ H (fun v H'=>v=.ref a/\H'=H) I ⟨.ref a,hv,rfl,rfl⟩) fun u s1 h1=>?_);obtain⟨v1,H1,I1,r1,rfl,rfl⟩:=h1;cases r1;refine PySem.W.callWith_F (q I1) (thn (ha.pa pos J1 s1 σ _ (fun vs H'=>∃F',Step F _ F' H'/\Reps X.K F' ds vs) I1 ⟨Φ,δ,F,ds,hK,en,hd,fun vs H' F' st r=>⟨F',st,r⟩⟩) fun us s2 h2=>?_) he hpl;obtain⟨vs,H2,Z,r2,F2,st,rc⟩:=h2;refine⟨q Z,zh3 (qr8 (run X.A X.stack s2 H2 F2 us vs Q hr (fun b o u z=>Z.base.frzs b o u z) Z.env0 (hF0.trans st.ff) st.fh r2 rc (k.step st)) fun r s' O=>?_)⟩;cases r with
 |error e=>exact O.elim
 |ok fl=>
  cases fl with
  |ret u=>exact Z.after O
  |next=>exact qg2 O
  |brk=>exact qg2 O
  |cont=>exact qg2 O
end
def deR(m:Nat)(d:Dt)(f1 f2:J9)(F0:Hp):De:=some (.leaf d)::some (.fn f1 F0)::some (.fn f2 F0)::qg3 (m-3) none
def oS(m:Nat)(g:De->Option Out)(d:Dt)(f1 f2:J9)(F0:Hp):Option T:=match g (deR m d f1 f2 F0)with
 |some (.rt t)=>some t
 |some (.nx _)=>some (.leaf .non)
 |_=>none
noncomputable def spR(P:qc9)(w:Ja)(K:xA9)(mg:Str->Option Value)(base:Heap)(kk:Nat)(FR:Orc->Dt->J9->J9->Hp->Option T):Sp:=fun vs H Q _=>∃G F d f1 f2 t v,vD P w K mg base kk H G/\Same F H/\vs=[v,.ref f1,.ref f2]/\Rep K F d v/\FR G d f1 f2 F=some t/\KO K F H t Q
variable{f1 f2:J9}
theorem ml{F:Hp}{d:Dt}(Y:Same F H)(r:Rep K F d v):En ⟨K,F,H,fun _=>False⟩ (deR N.length d f1 f2 F) (start N [v,.ref f1,.ref f2]) F H:=by
 have O:∀(i:Nat)(t:T),(deR N.length d f1 f2 F)[i]?=some (some t)->∃q,(start N [v,.ref f1,.ref f2])[i]?=some (some q)/\Own K F H t q fun _=>False:=fun i t h=>by
  unfold deR at h
  match i with
  |0=>cases h;exact⟨v,rfl,r⟩
  |1=>cases h;exact⟨_,rfl,rfl,Same.refl _⟩
  |2=>cases h;exact⟨_,rfl,rfl,Same.refl _⟩
  |i+3=>rw[qi5,qi5,qi5,qk0]at h;split at h<;>cases h
 refine⟨Y,fun b o h _=>h,Same.refl _,fun b o h=>.inl h,by simp[start,deR],fun i t h=>?_,fun _ _=>False,fun i t q h=>?_,fun _ _ z=>z.elim,fun _ _ _ z=>z.elim⟩
 .obtain⟨q,e,_⟩:=O i t h;exact⟨q,e⟩
 .obtain⟨h1,h2⟩:=dY h;obtain⟨w,e,o⟩:=O i t h1;rw[h2]at e;cases e;exact o
variable{ps:List Str}{kk:Nat}
section
variable{P:qc9}{w:Ja}{K:xA9}{mg:Str->Option Value}{base:Heap}
theorem vE{k:Nat}{g:Orc->De->Option Out}(D:DefF K mg x st ps)(S:FnScope N ps (aa st))(hn:ps.length=3)
 (O:∀(f:J9)(cdv:Value)(A:qe0)(outer:List Env)(s:qa4)(H:Hp)(E:XK),Room k (A.deeper (qz0 x (aa st) s.heap.objs.size f cdv))->∀G:Orc,vD P w K mg base kk H G->DS (ko CX0 P w K mg base N x (aa st) f cdv A outer s H E).nox (bh st) (g G)) :
  OkF P w K mg base x (k+1) ps (spR P w K mg base kk fun G=>oS N.length (g G)):=by
 refine D.ok S (fun vs H Q E h=>?_) (fun f cdv A outer s H vs Q E hr h=>?_)
 .obtain⟨G,F,d,f1,f2,t,v,_,_,rfl,_⟩:=h;exact hn.symm
 .obtain⟨G,F,d,f1,f2,t,v,hG,Z,rfl,r,Y,kq⟩:=h;refine⟨_,O f cdv A outer s H E hr G hG,?_⟩;unfold oS at Y;dsimp only at Y;split at Y
  .rename_i t' q;cases Y;exact⟨⟨K,F,H,fun _=>False⟩,_,F,_,rfl,ml Z r,q,fun v F' H' z=>z.step kq⟩
  .rename_i δ' q;cases Y;exact⟨⟨K,F,H,fun _=>False⟩,_,F,_,rfl,ml Z r,q,fun σ' F' H' z=>(z.rt (Step.refl z.fh) (t:=.leaf .non) (S:=fun _=>False) (iQ (K:=K) (F:=F')) fun _ y=>y.elim).step kq⟩
  .cases Y
end
section
variable{X:Cx}{x:Str}{p pos:Pos}{e:Jc}{es:List Jc}{t:TA}{f:J9}{fd:qp9}{ps:List Str}{sp:Sp}{k:Nat}
def BX(X:Cx)(sp:Sp)(t:TA):TE:=fun σ H Q=>t σ H fun vs H1=>∀H',PlusC X σ H1 H'->sp vs H' (fun v H2=>(∀c,bZ X c->H2 c=H' c)->Q v (jI X H2)) E0
theorem vF(I:Inv X J1 σ H s)(O:∀x,X.fn x=true):∀b,bZ X b->b∉frs X.stack/\∀o,X.base.get? b≠some o:=fun b ⟨x,Y⟩=>by
 have q:=I.ok.cab x b (O x) Y;refine⟨fun z=>?_,fun o e=>?_⟩
 .rcases qb0.mp (I.stkSub b z)with y|y
  .exact I.cne x b Y y
  .obtain⟨_,o,Z,_⟩:=I.ok.funs.mem y;exact absurd (qa7 Z) (qz4.mpr q)
 .exact absurd (qc2 (qa7 e) I.ok.bsz) (qz4.mpr q)
theorem vG (F:FnOk X.prog X.w X.K X.mg X.base CX0 k f fd ps sp) (hr:Room k X.A) (hg:Gl X x) (hm:X.mg x=some (.ref f)) (hk:xF9 X.K (.ref f)=true) (hb:Binds X.K fd ps []) (hfn:∀ x,X.fn x=true)
  (ha:PA X (e::es) t) (Z:(x==("__debug__":Str))=false:=by decide) (he:qa9 (e::es) X.env=(false,eval e X.env)::qa9 es X.env:=by rfl) (hpl:(qj9 pos (qa9 es X.env)).any (·.1)=false:=by rfl) :
  PE X (.Call (.Name x p) (e::es) [] pos) (BX X sp t):=by
 intro J1 s σ H Q I h;refine qo8 (mO I hg hm ?_ Z);refine PySem.W.callWith_K (h₀:=X.base) I.ok.mod.kin hk (thn (ha pos J1 s σ H _ I h) fun us s1 ⟨vs,H1,O,r,q⟩=>⟨O.kIn,?_⟩) he hpl;obtain⟨H',pc,e0⟩:=yg O (vF O hfn);have hs:=q H' pc;have hl:(us++[]).length=ps.length:=by rw[qn2,<- r.length];exact F.len _ _ _ _ hs
 refine zh3 (qr8 (F.run X.A X.stack s1 H' ⟨us,[]⟩ (us++[]) vs _ E0 hr e0 (hb s1 us O.kIn hl) (by rw[qn2];exact r) hs) fun r s' Y=>?_);cases r with
 |error e=>exact Y.elim
 |ok fl=>
  cases fl with
  |ret u=>exact O.afterP pc e0.hok Y
  |next=>exact qg2 Y
  |brk=>exact qg2 Y
  |cont=>exact qg2 Y
end
open Classical in
def tH(f1 f2:J9)(F1:Hp)(g1 g2:List Dt->Option T):Orc:=fun a F0 ds=>if a=f1/\F0=F1/\ds.length=1 then g1 ds else if a=f2/\F0=F1/\ds.length=1 then g2 ds else none
variable{F1:Hp}{g1 g2:List Dt->Option T}
theorem vH{d:Dt}:tH f1 f2 F1 g1 g2 f1 F1 [d]=g1 [d]:=if_pos ⟨rfl,rfl,rfl⟩
theorem vI{d:Dt}(h:f1≠f2):tH f1 f2 F1 g1 g2 f2 F1 [d]=g2 [d]:=(if_neg fun z=>h z.1.symm).trans (if_pos ⟨rfl,rfl,rfl⟩)
noncomputable def FnIn(H:Hp)(f:J9)(name qual:Str)(params:qj0)(body:List Jb)(scope:Jd)(cl:List (Str×J9)):Prop:=∃fo uf c' doc pm ctv,H f=some (.frz fo uf)/\fo.data=.func (xG9 name qual params body scope cl .none .none doc pm none (.ref c') ctv)/\∃oc,H c'=some (.frz oc (.code qual))
variable{f:J9}{qual:Str}{params:qj0}{body:List Jb}{scope:Jd}
theorem FnIn.up{name:Str}{cl:List (Str×J9)}(h:FnIn H f name qual params body scope cl)(s:∀b o u,H b=some (.frz o u)->H' b=some (.frz o u)):FnIn H' f name qual params body scope cl:=by obtain⟨fo,uf,c',doc,pm,ctv,h1,h2,oc,h3⟩:=h;exact⟨fo,uf,c',doc,pm,ctv,s _ _ _ h1,h2,oc,s _ _ _ h3⟩
def fZ(δ:De):List Nat->Option (List Dt)
 |[]=>some []
 |j::js=>match δ[j]? with
  |some (some (.leaf d))=>(fZ δ js).map (d::·)
  |_=>none
structure NestD(X:Cx)(name qual:Str)(params:qj0)(body:List Jb)(scope:Jd)(N ps fr:List Str)(js:List Nat)(g:De->Option Out)(kk:Nat):Prop where
 S:ClScope N ps fr scope
 ndn:∀x,∀y∈scope.names,y.1=x->scope.names.lookup x=some y.2
 one:ps.length=1
 fre:∀x∈scope.names,x.2=.free->X.env.kindOf x.1=some .cell
 jl:js.length=fr.length
 nm:∀(i j:Nat)(x:Str),fr[i]?=some x->js[i]?=some j->X.N[j]?=some x/\X.env.kindOf x=some .cell
 bd:∀(s:qa4)(cl:List (Str×J9))(doc pm ctv cd:Value)(us:List Value),us.length=ps.length->za2 s (xG9 name qual params body scope cl .none .none doc pm none cd ctv) ⟨us,[]⟩ (ps.zip us)
 body:∀(f c':J9)(cl:List (Str×J9))(A:qe0)(outer:List Env)(s:qa4)(H:Hp),Room kk (A.deeper (iJ qual scope s.heap.objs.size f (.ref c') cl))->DS (oz CX0 X.prog X.w X.K X.mg X.base N qual scope f (.ref c') cl A outer s H E0 fun _ _=>False) body g
variable{names:List (Str×qo9)}{cells:List (Str×J9)}{js:List Nat}{g:De->Option Out}
section
variable{X:Cx}
theorem kP{c:J9}(h:(x,c)∈fV names cells):(x,qe1)∈names/\c=(cells.lookup x).getD 0:=by
 have O:∀(names:List (Str×qo9))(J5:List (Str×J9)),(x,c)∈names.foldl (fun cs q=>if q.2==qe1 then(q.1,(cells.lookup q.1).getD 0)::cs else cs) J5->(x,c)∈J5∨((x,qe1)∈names/\c=(cells.lookup x).getD 0):=fun names=>by
  induction names with
  |nil=>intro J5 h;exact .inl h
  |cons y r Y=>
   intro J5 h;rw[qj5]at h;rcases Y _ h with z|z
   .split at z
    .rename_i hk;rcases qb0.mp z with e|z
     .obtain⟨a,k⟩:=y;cases e;have hk:k=qe1:=by simpa using hk
      subst hk;exact .inr ⟨.head _,rfl⟩
     .exact .inl z
    .exact .inl z
   .exact .inr ⟨.tail _ z.1,z.2⟩
 rcases O names [] h with z|z
 .cases z
 .exact z
theorem tI(h:(x,qe1)∈names):∃c,(fV names cells).lookup x=some c:=by
 have q:∀(names:List (Str×qo9))(J5:List (Str×J9)),((x,qe1)∈names∨∃c,J5.lookup x=some c)->∃c,(names.foldl (fun cs O=>if O.2==qe1 then(O.1,(cells.lookup O.1).getD 0)::cs else cs) J5).lookup x=some c:=fun names=>by
  induction names with
  |nil=>
   intro J5 h;rcases h with h|h
   .cases h
   .exact h
  |cons y r Y=>
   intro J5 h;rw[qj5];refine Y _ ?_;rcases h with h|⟨c,h⟩
   .rcases qb0.mp h with e|h
    .subst e;right;simp
    .exact .inl h
   .right;split
    .rw[qg0];cases x==y.1 with
     |true=>exact⟨_,rfl⟩
     |false=>exact⟨c,h⟩
    .exact⟨c,h⟩
 exact q names [] (.inl h)
theorem kQ{F:Hp}(O:En Φ δ σ F H):∀{js:List Nat}{caps:List Dt},fZ δ js=some caps->∃fs:List V,Reps Φ.K F caps fs/\fs.length=js.length/\∀(i j:Nat)(v:V),js[i]?=some j->fs[i]?=some v->σ[j]?=some (some v)
 |[],caps,h=>by cases h;exact⟨[],by simp only[Reps],rfl,fun i j v h=>by simp at h⟩
 |j::js,caps,h=>by
  simp only[fZ]at h;split at h<;>first|(cases h;done)|skip
  rename_i d Y;obtain⟨cs,q,rfl⟩:=mS h;obtain⟨v,hv,Z⟩:=O.leaf Y;obtain⟨fs,h1,h2,h3⟩:=kQ O q;refine⟨v::fs,by simp only[Reps];exact⟨v,fs,rfl,Z,h1⟩,by simp[h2],fun i j' v' q1 q2=>?_⟩;cases i with
  |zero=>simp at q1 q2;subst q1 q2;exact hv
  |succ i=>exact h3 i j' v' (by simpa using q1) (by simpa using q2)
theorem NestD.at{name:Str}{fr:List Str}(D:NestD X name qual params body scope N ps fr js g kk)(Z:∀x y c,X.env.cells.lookup x=some c->X.env.cells.lookup y=some c->x=y)(hhas:∀x,X.env.kindOf x=some .cell->∃c,X.env.cells.lookup x=some c)
 (pc:PlusC X σ H H') (fi:FnIn H' f name qual params body scope (fV scope.names X.env.cells)) {fs:List V} (hl:fs.length=js.length) (hv:∀(i j:Nat)(v:V),js[i]?=some j->fs[i]?=some v->σ[j]?=some (some v)) (Y:∀x∈scope.names,x.2=.free->x.1∈fr) :
  ∃c' doc pm ctv fo uf,ClAt H' f name qual params body scope (fV scope.names X.env.cells) fr fs c' doc pm ctv fo uf:=by
 obtain⟨fo,uf,c',doc,pm,ctv,h1,h2,h3⟩:=fi;have cells:∀x,(x,qe1)∈scope.names->∃c,X.env.cells.lookup x=some c:=fun x hx=>hhas x (D.fre (x,.free) hx rfl)
 have look:∀x c,(x,c)∈fV scope.names X.env.cells->X.env.cells.lookup x=some c:=fun x c h=>by obtain⟨a,b⟩:=kP h;obtain⟨c2,e⟩:=cells x a;rw[e]at b;rw[e,b];rfl
 have vals:∀x c,(x,c)∈fV scope.names X.env.cells->∃(i:Nat)(o:Obj)(v:V)(u:Value),fr[i]?=some x/\fs[i]?=some v/\H' c=some (gd c o)/\o.data=.cell (some u)/\RelV v u:=fun x c h=>by obtain⟨a,_⟩:=kP h;obtain⟨i,hi⟩:=qm8 (Y _ a rfl);have hif:i<fr.length:=(gX hi).1;have hjl:=D.jl;have q:js[i]?=some js[i]:=gQ (by lia);have hiv:fs[i]?=some fs[i]:=gQ (by lia);obtain⟨n1,n2⟩:=D.nm i _ x hi q;obtain⟨o,v,g1,g2,g3⟩:=pc.cel x c (look x c h);obtain⟨u,rfl,ru⟩:=g3 _ _ n1 (hv i _ _ q hiv) (.inl n2);exact⟨i,o,_,u,hi,hiv,g1,g2,ru⟩
 refine⟨c',doc,pm,ctv,fo,uf,⟨h1,h2,h3,fun x c h=>?_,fun x y c O e2=>?_,?_,fun i x v O e2=>?_,fun x c e=>?_⟩⟩
 .obtain⟨_,o,_,u,_,_,g1,g2,_⟩:=vals x c h;exact⟨o,u,g1,g2⟩
 .exact Z x y c (look x c (PySem.mem_of_lookup O)) (look y c (PySem.mem_of_lookup e2))
 .rw[hl,D.jl]
 .have hx:=D.S.frk x (qd3 O);obtain⟨c,e⟩:=tI (cells:=X.env.cells) (PySem.mem_of_lookup hx);have hif:i<fr.length:=(gX O).1;have hjl:=D.jl;have q:js[i]?=some js[i]:=gQ (by lia);obtain⟨n1,n2⟩:=D.nm i _ x O q;obtain⟨o,w,g1,g2,g3⟩:=pc.cel x c (look x c (PySem.mem_of_lookup e));obtain⟨u,rfl,ru⟩:=g3 _ _ n1 (hv i _ _ q e2) (.inl n2);exact⟨c,o,u,e,g1,g2,ru⟩
 .obtain⟨a,_⟩:=kP (PySem.mem_of_lookup e);exact D.ndn x _ a rfl
end
variable{Hp':Hp}
section
variable{X:Cx}{K:xA9}
theorem Step.hide{F H1:Hp}(fh:Same F H)(q:PlusC X σ H Hp')(a:Step F Hp' F1 H1):Step F H F1 (jI X H1):=by
 have O:∀{b:J9},bZ X b->∃o,Hp' b=some (gd b o):=fun {b}⟨x,hx⟩=>by obtain⟨o,v,e,_⟩:=q.cel x b hx;exact⟨o,e⟩
 have nF:∀{b:J9}{o:HO},F1 b=some o->¬ bZ X b:=fun {b o} e Y=>by
  obtain⟨ob,g1⟩:=O Y;rcases a.nw b o e with z|z|⟨xs,z⟩
  .have:=fh b o z;rw[q.fre b Y]at this;cases this
  .rw[g1]at z;cases z
  .rw[g1]at z;cases z
 refine⟨fun b o e=>?_,a.ff,fun b o e=>?_,fun b o e=>?_⟩
 .have Z:¬ bZ X b:=fun z=>by rw[q.fre b z]at e;cases e
  rw[cI Z];exact a.hh b o (by rw[q.out b Z];exact e)
 .rw[cI (nF e)];exact a.fh b o e
 .rw[<- q.out b (nF e)];exact a.nw b o e
theorem KO.hide{F:Hp}{t:T}{Q:VK}(fh:Same F H)(O:PlusC X σ H Hp')(k:KO K F H t Q):KO K F Hp' t fun v H2=>Q v (jI X H2):=fun v H2 F2 S st o Y=>by
 have q:∀b,S b->¬ bZ X b:=fun b z ⟨x,Z⟩=>by obtain⟨ob,_,e,_⟩:=O.cel x b Z;rw[(Y b z).2.1]at e;cases e
 refine k v _ F2 S (Step.hide fh O st) (o.step (Same.refl _) fun b u z e=>by rw[cI (q b z)];exact e) fun b z=>?_
 obtain⟨h1,h2,u,h3,h4⟩:=Y b z;exact⟨h1,by rw[<- O.out b (q b z)];exact h2,u,by rw[cI (q b z)];exact h3,h4⟩
end
section
variable{X:Cx}{e0:Jc}{p p1 p2 pos:Pos}{x n1 n2 q1 q2:Str}{par1 par2:qj0}{bod1 bod2:List Jb}{sc1 sc2:Jd}{N1 ps1 fr1 N2 ps2 fr2:List Str}{js1 js2:List Nat}{g1 g2:De->Option Out}{k kk i1 i2:Nat}{ps:List Str}{FR:Orc->Dt->J9->J9->Hp->Option T}{f0:De->Option Dt}
noncomputable def vJ(X:Cx)(i1 i2:Nat)(n1 n2 q1 q2:Str)(par1 par2:qj0)(bod1 bod2:List Jb)(sc1 sc2:Jd)(σ:St)(H:Hp)(f1 f2:J9):Prop:=σ[i1]?=some (some (.ref f1))/\σ[i2]?=some (some (.ref f2))/\f1≠f2/\FnIn H f1 n1 q1 par1 bod1 sc1 (fV sc1.names X.env.cells)/\FnIn H f2 n2 q2 par2 bod2 sc2 (fV sc2.names X.env.cells)
noncomputable def tRt(X:Cx)(i1 i2:Nat)(n1 n2 q1 q2:Str)(par1 par2:qj0)(bod1 bod2:List Jb)(sc1 sc2:Jd)(N1 N2:List Str)(js1 js2:List Nat)(g1 g2:De->Option Out)(f0:De->Option Dt)(FR:Orc->Dt->J9->J9->Hp->Option T):TE:=fun σ H Q=>∃ Φ δ F f1 f2 d0 O q t,Fm.K Φ=X.K/\En Φ δ σ F H/\vJ X i1 i2 n1 n2 q1 q2 par1 par2 bod1 bod2 sc1 sc2 σ H f1 f2/\f0 δ=some d0/\fZ δ js1=some O/\fZ δ js2=some q/\(∀F0,FR (tH f1 f2 F0 (ia N1.length g1 O) (ia N2.length g2 q)) d0 f1 f2 F0=some t)/\KO X.K F H t Q
theorem Ae (F:OkF X.prog X.w X.K X.mg X.base x k ps (spR X.prog X.w X.K X.mg X.base (kk+1) FR)) (hr:Room k X.A) (hg:Gl X x) (hfn:∀ x,X.fn x=true) (h0:DL X e0 f0) (hv1:PE X (.Name n1 p1) (iC i1)) (hv2:PE X (.Name n2 p2) (iC i2))
  (D1:NestD X n1 q1 par1 bod1 sc1 N1 ps1 fr1 js1 g1 kk) (D2:NestD X n2 q2 par2 bod2 sc2 N2 ps2 fr2 js2 g2 kk) (ha1:∀x∈sc1.names,x.2=.free->x.1∈fr1) (ha2:∀x∈sc2.names,x.2=.free->x.1∈fr2) (hdb:(x==("__debug__":Str))=false:=by decide)
  (s0:qa9 [e0,.Name n1 p1,.Name n2 p2] X.env=(false,eval e0 X.env)::qa9 [.Name n1 p1,.Name n2 p2] X.env:=by rfl) (s1:qa9 [.Name n1 p1,.Name n2 p2] X.env=(false,eval (.Name n1 p1) X.env)::qa9 [.Name n2 p2] X.env:=by rfl) (s2:qa9 [.Name n2 p2] X.env=(false,eval (.Name n2 p2) X.env)::qa9 [] X.env:=by rfl)
  (hpl:(qj9 pos (qa9 [.Name n1 p1,.Name n2 p2] X.env)).any (·.1)=false:=by rfl) :
  PE X (.Call (.Name x p) [e0,.Name n1 p1,.Name n2 p2] [] pos) (tRt X i1 i2 n1 n2 q1 q2 par1 par2 bod1 bod2 sc1 sc2 N1 N2 js1 js2 g1 g2 f0 FR):=by
 obtain⟨f,fd,hm,hk,hb,FF⟩:=F.ex;intro J1 s σ H Q I h;refine(vG FF hr hg hm hk hb hfn (dB h0 (dB hv1 (dB hv2 gq s2) s1) s0) hdb s0 hpl) J1 s σ H Q I ?_;obtain⟨Φ,δ,F,f1,f2,d0,O,Z,t,hK,en,⟨v1,v2,hne,fi1,fi2⟩,hf0,hc1,hc2,hrun,kq⟩:=h;refine⟨Φ,δ,F,d0,hK,en,hf0,fun v H1 F1 st r1=>⟨.ref f1,v1,.ref f2,v2,fun H' pc=>?_⟩⟩
 have up1:∀b o,H1 b=some o->H' b=some o:=fun b o z=>by rw[pc.out b fun y=>by rw[pc.fre b y]at z;cases z];exact z
 have up:∀b o u,H b=some (.frz o u)->H' b=some (.frz o u):=fun b o u z=>up1 _ _ (st.hh _ _ z)
 obtain⟨fs1,rc1,hl1,hs1⟩:=kQ en hc1;obtain⟨fs2,rc2,hl2,hs2⟩:=kQ en hc2;rw[hK]at rc1 rc2;have q:∀x,X.env.kindOf x=some .cell->∃c,X.env.cells.lookup x=some c:=fun x hx=>I.ok.has x (.inl hx)
 obtain⟨c1',doc1,pm1,ctv1,fo1,uf1,C1⟩:=D1.at I.ok.inj q pc (fi1.up up) hl1 hs1 ha1
 obtain⟨c2',doc2,pm2,ctv2,fo2,uf2,C2⟩:=D2.at I.ok.inj q pc (fi2.up up) hl2 hs2 ha2
 refine⟨tH f1 f2 F1 (ia N1.length g1 O) (ia N2.length g2 Z),F1,d0,f1,f2,t,v,fun f F0 ds t hG=>?_,fun b o z=>up1 b o (st.fh b o z),rfl,r1,hrun F1,fun v' H2 F2 S st2 o hs _=>KO.hide st.fh pc (kq.step st) v' H2 F2 S st2 o hs⟩;unfold tH at hG;split at hG
 .rename_i hh;obtain⟨rfl,rfl,hd⟩:=hh;refine⟨⟨fo1,uf1,_,C1.fn,C1.dat⟩,fun A outer s H2 F2 us vs Q2 Y hp e0 h0 fh r rd kq2=>?_⟩;exact rG D1.S D1.ndn C1 (rc1.same st.ff) (fun s us hu=>D1.bd s _ _ _ _ _ us hu) (fun A outer s H hr=>D1.body _ _ _ A outer s H hr) (by rw[hd,D1.one]) hG A outer s H2 F2 us vs Q2 Y hp e0 h0 fh r rd kq2
 .split at hG
  .rename_i hh;obtain⟨rfl,rfl,hd⟩:=hh;refine⟨⟨fo2,uf2,_,C2.fn,C2.dat⟩,fun A outer s H2 F2 us vs Q2 Y hp e0 h0 fh r rd kq2=>?_⟩;exact rG D2.S D2.ndn C2 (rc2.same st.ff) (fun s us hu=>D2.bd s _ _ _ _ _ us hu) (fun A outer s H hr=>D2.body _ _ _ A outer s H hr) (by rw[hd,D2.one]) hG A outer s H2 F2 us vs Q2 Y hp e0 h0 fh r rd kq2
  .cases hG
end
noncomputable def rN(i:Nat)(name qual:Str)(params:qj0)(body:List Jb)(scope:Jd)(clos:List (Str×J9)):TS:=fun D σ H=>∀(f c':J9)(doc pm ctv:Value)(H':Hp),MadeH H H' f c' qual {cls:=.type "function",data:=.func (xG9 name qual params body scope clos .none .none doc pm none (.ref c') ctv)}->D.nx (σ.set i (some (.ref f))) H'
section
variable{X:Cx}{c P:J9}{qs:List ((Nat×Nat)×Str)}{name qual:Str}{params:qj0}{body:List Jb}{scope:Jd}{clos:List (Str×J9)}{pos:Pos}{i:Nat}
theorem yB (hN:X.N.Nodup) (hi:X.N[i]?=some name) (hx:Loc X.env.scope name) (hfn:X.fn name=true∨X.env.scope.names.lookup name=some .local) (B:TabB X.mg X.base c P) (O:X.env.code=.ref c) (hT:(P,qs)∈dA X.K) (Y:qualnameIn X.env name name=qual) (hq:((pos.line,pos.col),qual)∈qs) (hun:∀ q,((pos.line,pos.col),q)∈qs->q=qual) (Z:ze8 scope X.env=pure clos)
  (hd0:params.defaults=[]) (hk0:params.kw_defaults=[]) (ha:annTrees params none X.env=[]):PS X (.FunctionDef name params body [] none [] scope none name pos) (rN i name qual params body scope clos):=fun J1 s σ H D I h=>
 BO hN hi hx hfn B O Y hq hun Z hd0 hk0 ha J1 s σ H D I ⟨I.base.cts _ _ (I.ok.tb _ hT),h⟩
end
section
variable{X:Cx}{e0:Jc}{pos:Pos}{n1 n2 q1 q2:Str}{par1 par2:qj0}{bod1 bod2:List Jb}{sc1 sc2:Jd}{N1 N2:List Str}{js1 js2:List Nat}{g1 g2:De->Option Out}{i1 i2:Nat}{FR:Orc->Dt->J9->J9->Hp->Option T}{f0:De->Option Dt}{K:xA9}
noncomputable def tG2(X:Cx)(i1 i2:Nat)(n1 n2 q1 q2:Str)(par1 par2:qj0)(bod1 bod2:List Jb)(sc1 sc2:Jd)(g:De->Option Out):TS:=fun D σ H=>∃ Φ δ F f1 f2 o,Fm.K Φ=X.K/\En Φ δ σ F H/\vJ X i1 i2 n1 n2 q1 q2 par1 par2 bod1 bod2 sc1 sc2 σ H f1 f2/\g δ=some o/\Post Φ D o
theorem En.clear{F:Hp}(e:En Φ δ σ F H)(i:Nat)(v:V):En Φ (δ.set i none) (σ.set i (some v)) F H:=by
 obtain⟨S,s⟩:=e.sep;refine⟨e.fh,e.prot,e.old,e.nw,by simp[e.len],fun j t h=>?_,S,fun j t u h=>?_,s.out,s.dis⟩
 .rcases dQ h with ⟨_,z⟩|⟨q,z⟩
  .cases z
  .obtain⟨w,O⟩:=e.has j t z;exact⟨w,by rw[gN q];exact O⟩
 .obtain⟨h1,h2⟩:=dY h;rcases dQ h1 with ⟨_,z⟩|⟨q,z⟩
  .cases z
  .rw[gN q]at h2;exact s.own j t u (cD z h2)
def nn(i1 i2:Nat)(δ:De):De:=(δ.set i1 none).set i2 none
theorem oT{ss:List Jb}(hne:i1≠i2)(hl1:∀ σ:St,σ.length=X.N.length->i1<σ.length/\i2<σ.length)
 (h1:PS X (.FunctionDef n1 par1 bod1 [] none [] sc1 none n1 p1) (rN i1 n1 q1 par1 bod1 sc1 (fV sc1.names X.env.cells))) (h2:PS X (.FunctionDef n2 par2 bod2 [] none [] sc2 none n2 p2) (rN i2 n2 q2 par2 bod2 sc2 (fV sc2.names X.env.cells)))
 (hs:PSs X ss (tG2 X i1 i2 n1 n2 q1 q2 par1 par2 bod1 bod2 sc1 sc2 g)) :
  DS X (.FunctionDef n1 par1 bod1 [] none [] sc1 none n1 p1::.FunctionDef n2 par2 bod2 [] none [] sc2 none n2 p2::ss) fun δ=>g (nn i1 i2 δ):=by
 intro J1 s σ H D I h;refine iD h1 (iD h2 hs) J1 s σ H D I ?_;obtain⟨Φ,δ,F,o,hK,en,hg,k⟩:=h;obtain⟨l1,l2⟩:=hl1 σ I.len;intro f1 c1 Y pm1 O H1 M1 f2 c2 Z pm2 ctv2 H2 q
 have hf:f1≠f2:=fun z=>by have:=q.free;rw[<- z,M1.fn]at this;cases this
 have sm:Same H H2:=fun b o e=>q.old b o (M1.old b o e)
 refine⟨Φ,nn i1 i2 δ,F,f1,f2,o,hK,((en.step ⟨sm,Same.refl _,en.fh.trans sm,fun _ _ e=>.inl e⟩).clear i1 (.ref f1)).clear i2 (.ref f2),⟨?_,?_,hf,?_,?_⟩,hg,k⟩
 .rw[gN (qp1 hne)];exact qf2 l1
 .exact qf2 (by simpa using l2)
 .obtain⟨oc,hc⟩:=M1.cod;exact⟨_,_,c1,Y,pm1,O,q.old _ _ M1.fn,rfl,oc,q.old _ _ hc⟩
 .obtain⟨oc,hc⟩:=q.cod;exact⟨_,_,c2,Z,pm2,ctv2,q.fn,rfl,oc,hc⟩
noncomputable def BY(N1 N2:List Str)(g1 g2:De->Option Out)(FR:Orc->Dt->J9->J9->Hp->Option T)(d0:Dt)(q O:List Dt)(r:T):Prop:=∀f1 f2 F0,f1≠f2->FR (tH f1 f2 F0 (ia N1.length g1 q) (ia N2.length g2 O)) d0 f1 f2 F0=some r
open Classical in
noncomputable def fRt(js1 js2:List Nat)(N1 N2:List Str)(g1 g2:De->Option Out)(f0:De->Option Dt)(FR:Orc->Dt->J9->J9->Hp->Option T):De->Option T:=fun δ=>(f0 δ).bind fun d=>(fZ δ js1).bind fun a=>(fZ δ js2).bind fun b=>if h:∃r,BY N1 N2 g1 g2 FR d a b r then some h.choose else none
theorem vK{d0:Dt}{a b:List Dt}{r:T}(Z:f0 δ=some d0)(Y:fZ δ js1=some a)(O:fZ δ js2=some b)(h:BY N1 N2 g1 g2 FR d0 a b r):fRt js1 js2 N1 N2 g1 g2 f0 FR δ=some r:=by
 have q:∃r,BY N1 N2 g1 g2 FR d0 a b r:=⟨r,h⟩
 have e:q.choose=r:=by have h1:=q.choose_spec 0 1 (fun _=>none) (by decide);have h2:=h 0 1 (fun _=>none) (by decide);exact qd9 (h1.symm.trans h2)
 unfold fRt;rw[Z,Y,O];simp only[qa2];rw[dif_pos q,e]
theorem vM {F:Hp} {t:T} {Q:VK} (hK:Φ.K=X.K) (Y:En Φ δ σ F H) (fs:vJ X i1 i2 n1 n2 q1 q2 par1 par2 bod1 bod2 sc1 sc2 σ H f1 f2) (h:fRt js1 js2 N1 N2 g1 g2 f0 FR δ=some t) (k:KO X.K F H t Q) :
  tRt X i1 i2 n1 n2 q1 q2 par1 par2 bod1 bod2 sc1 sc2 N1 N2 js1 js2 g1 g2 f0 FR σ H Q:=by
 unfold fRt at h;obtain⟨d0,h0,h⟩:=bS h;obtain⟨a,Z,h⟩:=bS h;obtain⟨b,q,h⟩:=bS h;split at h
 .rename_i O;cases h;exact⟨Φ,δ,F,f1,f2,d0,a,b,_,hK,Y,fs,h0,Z,q,fun F0=>O.choose_spec f1 f2 F0 fs.2.2.1,k⟩
 .cases h
theorem yC(he:PE X e (tRt X i1 i2 n1 n2 q1 q2 par1 par2 bod1 bod2 sc1 sc2 N1 N2 js1 js2 g1 g2 f0 FR)):PS X (.Return (some e) pos) (tG2 X i1 i2 n1 n2 q1 q2 par1 par2 bod1 bod2 sc1 sc2 (bB (fRt js1 js2 N1 N2 g1 g2 f0 FR))):=PS.mono (pO he) fun D σ H ⟨Φ,δ,F,f1,f2,o,O,q,fs,hg,k⟩=>by obtain⟨t,Y,rfl⟩:=mS hg;exact vM O q fs Y fun v H' F' S st o Z=>k v F' H' (q.rt st (O▸o) Z)
theorem yD(h:cS sc N i x=true)(hl:iM sc x=true)(nd:N.Nodup)(he:PE X e (tRt X i1 i2 n1 n2 q1 q2 par1 par2 bod1 bod2 sc1 sc2 N1 N2 js1 js2 g1 g2 f0 FR))(e1:cH X sc:=by rfl)(e2:X.N=N:=by rfl)(hf:X.fn x=true∨X.env.scope.names.lookup x=some .local:=by exact .inl rfl)
 (q:qn0 e (some (.Name x pos')) pos.line X.env=pure false:=by rfl):PS X (.Assign [.Name x pos'] e pos) (tG2 X i1 i2 n1 n2 q1 q2 par1 par2 bod1 bod2 sc1 sc2 (aF i (fRt js1 js2 N1 N2 g1 g2 f0 FR))):=PS.mono (rq h hl nd he e1 e2 hf q) fun D σ H ⟨Φ,δ,F,f1,f2,o,Y,O,fs,hg,k⟩=>by
 obtain⟨t,Z,rfl⟩:=mS hg;exact vM Y O fs Z fun v H' F' S st o q=>k _ F' H' (O.put st (Y▸o) q i)
theorem vN{rest:List Jb}{Z gb:De->Option Out}(h1:PS X st (tG2 X i1 i2 n1 n2 q1 q2 par1 par2 bod1 bod2 sc1 sc2 Z))(h2:DS X rest gb):PSs X (st::rest) (tG2 X i1 i2 n1 n2 q1 q2 par1 par2 bod1 bod2 sc1 sc2 (aw Z gb)):=PSs.mono (iD h1 h2) fun D σ H ⟨Φ,δ,F,f1,f2,o,hK,en,fs,O,k⟩=>by
 unfold aw at O;obtain⟨o1,h1,O⟩:=bS O;refine⟨Φ,δ,F,f1,f2,o1,hK,en,fs,h1,?_⟩;cases o1 with
 |nx q=>exact fun σ' F' H' Y=>⟨Φ,q,F',o,hK,Y,O,k⟩
 |rt t=>cases O;exact k
 |bk q=>cases O;exact k
 |ct q=>cases O;exact k
end
def qk(mg:Str->Option Value)(base:Heap):Prop:=∃q ob,mg "__builtins__"=some (.ref q)/\q≠qw3/\base.get? q=some ob/\ob.cls=.type "module"/\ob.dict=some qw3/\ob.data=.plain
theorem TabB.mk'{base:Heap}{c P:J9}(q:K.In base)(h:xJ9 K c P=true)(b:qk mg base):TabB mg base c P:=⟨xS9 q h,b⟩
def rO(H:Hp):Prop:=∀b,H b=none∨(∃o xs,H b=some (.frz o (.lst xs)))∨∃qs,H b=some (.ctab qs)
def ie(K:xA9):Hp:=fun b=>((dA K).find? fun p=>p.1==b).map fun p=>.ctab p.2
theorem f6{b:J9}{u:HO}(h:ie K b=some u):∃p∈dA K,p.1=b/\u=.ctab p.2:=by obtain⟨p,hp,rfl⟩:=mS h;exact⟨p,qy6 hp,by simpa using List.find?_some hp,rfl⟩
theorem vO(O:∀p∈dA K,∀q∈dA K,p.1=q.1->p=q){p:J9×List ((Nat×Nat)×Str)}(hp:p∈dA K):ie K p.1=some (.ctab p.2):=by
 unfold ie;cases q:(dA K).find? fun x=>x.1==p.1 with
 |none=>have:=List.find?_eq_none.mp q p hp;simp at this
 |some r=>
  have h1:r.1=p.1:=by simpa using List.find?_some q
  rw[O r (qy6 q) p hp h1];rfl
def TabsIn(K:xA9)(h:Heap):Prop:=(∀p∈dA K,K.lookup p.1=none/\(∃c,xN9 h c p.1)/\h.get? p.1=some (xK9 #[]))/\∀p∈dA K,∀q∈dA K,p.1=q.1->p=q
theorem tJ{mb:Str->Option Value}{CX:CXT}{k:Nat}{fa:J9}{fd:qp9}{sp:Sp}{s₁:qa4}{vs:List Value}{ns:List Int}
 (KX:K.In s₁.heap) (hns:s₁.heap.Ns qc0 mg) (Z:s₁.heap.Ns qw3 mb) (hbb:∀x:Str,x≠"__name__"->mb x=qd7 x) (hlim:s₁.heap.NoLimit) (hg:s₁.gens=#[]) (hbm:qk mg s₁.heap) (hT:TabsIn K s₁.heap)
 (ha:s₁.heap.get? a=some {cls:=.type "list",data:=.seq vs.toArray}) (hi:IntsAre vs ns) (hl:ns.length<=qb4) (hr:Room k zh4)
 (F:∀base:Heap,K.In base->base.Ns qc0 mg->qk mg base->FnOk P w K mg base CX k fa fd [x] sp) (hbind:∀(s:qa4)(u:Value),za2 s fd ⟨[u],[]⟩ [(x,u)])
 (hsp:∀H:Hp,rO H->SqL K H a (ns.map V.int)->sp [.ref a] H (fun v _=>v=.bl true) fun _ _ _=>False)
 (hCX:∀H e s',CX [] H s₁ (fun _ _ _=>False) e s'->False) :
  qq5 (model P w) zh4 (.call (.ref fa) ⟨[.ref a],[]⟩) (fun r s'=>r=.ok (.ret (.bool true))/\OldK s₁.heap s'.heap/\s'.os=s₁.os/\zc5 s'.gens) s₁:=by
 have rv:=lU hi;have lenV:=hi.length;obtain⟨hT,hnd⟩:=hT
 have tb:∀{b:J9}{u:HO},ie K b=some u->s₁.heap.get? b=some (xK9 #[])/\K.lookup b=none/\∃c,xN9 s₁.heap c b:=fun {b u} e=>by obtain⟨p,hp,rfl,_⟩:=f6 e;obtain⟨h1,h2,h3⟩:=hT p hp;exact⟨h3,h1,h2⟩
 have taN:ie K a=none:=by
  cases q:ie K a with
  |none=>rfl
  |some u=>have:=(tb q).1;rw[ha]at this;cases this
 -- H: the script,if it is none of the module's own,and the tables
 have core:∀ H:Hp,SqL K H a (ns.map V.int)->(∀ b,b≠a->H b=ie K b)->(H a=none∨(K.lookup a=none/\H a=some (.frz {cls:=.type "list",data:=.seq vs.toArray} (.lst (ns.map V.int)))))→
     qq5 (model P w) zh4 (.call (.ref fa) ⟨[.ref a],[]⟩) (fun r s'=>r=.ok (.ret (.bool true))/\OldK s₁.heap s'.heap/\s'.os=s₁.os/\zc5 s'.gens) s₁:=by
  intro H hS hH hA
  have Y:∀{b:J9}{u:HO},H b=some u->(b=a/\K.lookup a=none/\u=.frz {cls:=.type "list",data:=.seq vs.toArray} (.lst (ns.map V.int)))∨(b≠a/\ie K b=some u):=fun {b u} e=>by
   by_cases Z:b=a
   .subst Z;rcases hA with z|⟨z1,z2⟩
    .rw[z]at e;cases e
    .rw[z2]at e;cases e;exact .inl ⟨rfl,z1,rfl⟩
   .rw[hH b Z]at e;exact .inr ⟨Z,e⟩
  have hO:rO H:=fun b=>by
   cases q:H b with
   |none=>exact .inl rfl
   |some u=>
    rcases Y q with ⟨_,_,rfl⟩|⟨_,z⟩
    .exact .inr (.inl ⟨_,_,rfl⟩)
    .obtain⟨p,_,_,rfl⟩:=f6 z;exact .inr (.inr ⟨_,rfl⟩)
  have hok:HOk P w H s₁.heap:=fun b u e=>by
   rcases Y e with ⟨rfl,_,rfl⟩|⟨_,z⟩
   .exact⟨ha,by rw[qa1];exact hl,vs,_,rv,ha⟩
   .obtain⟨p,_,_,rfl⟩:=f6 z;refine⟨#[],(tb z).1,trivial,fun pos q v _ h=>?_⟩;cases h
  have O:∀{b:J9}{o:Obj},s₁.heap.get? b=some o->H b=none->(lB s₁.heap H).get? b=some o:=fun e n=>uz e n
  have noH:∀{b:J9}{o:Obj},s₁.heap.get? b=some o->o.data≠.seq vs.toArray->o≠xK9 #[]->H b=none:=fun {b o} e d1 d2=>by
   cases q:H b with
   |none=>rfl
   |some u=>
    rcases Y q with ⟨rfl,_,rfl⟩|⟨_,z⟩
    .rw[ha]at e;cases e;exact absurd rfl d1
    .have:=(tb z).1;rw[e]at this;cases this;exact absurd rfl d2
  have nsK:∀{b:J9}{m:Str->Option Value},s₁.heap.Ns b m->(lB s₁.heap H).Ns b m:=fun {b m}⟨o,es,ep,e,d,r⟩=>⟨o,es,ep,O e (noH e (by rw[d];intro z;cases z) (fun z=>by rw[z]at d;cases d)),d,r⟩
  have hKb:K.In (lB s₁.heap H):=fun b o e=>O (KX b o e) (by
   cases q:H b with
   |none=>rfl
   |some u=>
    rcases Y q with ⟨rfl,z,_⟩|⟨_,z⟩
    .rw[z]at e;cases e
    .rw[(tb z).2.1]at e;cases e)
  have hbmB:qk mg (lB s₁.heap H):=by obtain⟨bm,ob,b1,b2,b3,b4,b5,b6⟩:=hbm;exact⟨bm,ob,b1,b2,O b3 (noH b3 (by rw[b6];intro z;cases z) fun z=>by rw[z]at b4;cases b4),b4,b5,b6⟩
  have hM:Mod K mg (lB s₁.heap H):=⟨hKb,nsK hns,⟨mb,nsK Z,hbb⟩,let ⟨mc,h1,h2⟩:=hlim;⟨mc,nsK h1,h2⟩⟩
  have e0:Env0 P w K mg (lB s₁.heap H) zh4 [] s₁ H:=⟨rfl,hM,fun b o e=>xC e,Nat.le_of_eq (sB _ _),trivial,fun b Z=>absurd (show b∈([]:List J9)from Z) (by simp),hok,.of_eq hg,fun p hp=>by have h:=vO hnd hp;rw[hH p.1 fun z=>by rw[z,taN]at h;cases h];exact h⟩
  refine qr8 ((F _ hKb (nsK hns) hbmB).run zh4 [] s₁ H ⟨[.ref a],[]⟩ [.ref a] [.ref a] _ _ hr e0 (hbind s₁ (.ref a)) (.cons rfl .nil) (hsp H hO hS)) fun r s' h=>?_
  cases r with
  |error e=>exact(hCX H e s' h).elim
  |ok fl=>
   cases fl with
   |next=>exact qg2 h
   |brk=>exact qg2 h
   |cont=>exact qg2 h
   |ret u=>
    obtain⟨v,H',os,bare,un,hok',r',q⟩:=h;have q':v=.bl true:=q;subst q';obtain rfl:u=qr6 true:=r';refine⟨rfl,⟨fun b o e=>?_,fun b o e=>un.there b o e (by simp)⟩,os,bare⟩;cases q:H b with
    |none=>exact .inl (un.keep b o e q (by intro z;exact absurd (show b∈([]:List J9)from z) (by simp)) (by simp))
    |some u=>
     rcases Y q with ⟨rfl,_,rfl⟩|⟨_,z⟩
     .have z2:=un.frzs b _ _ q;obtain⟨e1,_⟩:=hok b _ q;obtain⟨e2,_⟩:=hok' b _ z2;rw[e]at e1;cases e1
      exact .inl e2
     .obtain⟨g1,_,c,g2⟩:=tb z;obtain⟨p,_,_,rfl⟩:=f6 z;obtain⟨ps,g3,_⟩:=hok' b _ (un.cts b _ q);rw[e]at g1;cases g1;refine .inr (.inl ⟨(g2.tab e).isCodeTable,rfl,#[],ps,rfl,?_⟩);rw[g3];simp[xK9]
 cases hk:K.lookup a with
 |some o=>have e:=KX a o hk;rw[ha]at e;cases e;exact core (ie K) (.inr ⟨_,vs.toArray,_,hk,rfl,rfl,rfl,by rw[qb7,lenV];exact hl,by simpa using rv⟩) (fun _ _=>rfl) (.inl taN)
 |none=>exact core (fun b=>if b=a then some (.frz {cls:=.type "list",data:=.seq vs.toArray} (.lst (ns.map V.int)))else ie K b) (.inl (.inr ⟨{cls:=.type "list",data:=.seq vs.toArray},if_pos rfl⟩)) (fun b Z=>if_neg Z) (.inr ⟨hk,if_pos rfl⟩)
theorem Ej{l:xT9}{k:Nat}{q:qc9}{loose:List Str}{XP:(Str->Option Value)->Heap->Prop}{YP:Ja->Heap->Prop}{d:DefRec}{K:Params->xA9}{CX:Ja->CXT}{sp:Ja->Sp} 
 (hn:l.most=some n) (hn2:n<=qb4) (hdf:d.params.defaults=[]) (hr:Room k zh4)
 (hY:∀(w:Ja)(h:Heap),YP w h->(K w.params).In h) (hT:∀(w:Ja)(h:Heap),YP w h->TabsIn (K w.params) h)
 (F:∀(w:Ja)(mg:Str->Option Value)(fa:J9)(h:Heap),(K w.params).In h->h.Ns qc0 mg->mg d.name=some (.ref fa)→
 ∃fd:qp9,(∀(s:qa4)(u:Value),za2 s fd ⟨[u],[]⟩ [(x,u)])∧
 ∀base:Heap,(K w.params).In base->base.Ns qc0 mg->qk mg base->FnOk l.prog w (K w.params) mg base (CX w) k fa fd [x] (sp w))
 (hsp:∀(w:Ja)(H:Hp)(a:J9)(ns:List Int),ns.length<=n->rO H->SqL (K w.params) H a (ns.map V.int)->sp w [.ref a] H (fun v _=>v=.bl true) fun _ _ _=>False)
 (hCX:∀(w:Ja)(H:Hp)(s:qa4)(e:Value)(s':qa4),CX w [] H s (fun _ _ _=>False) e s'->False) :
  PySem.W.WalkO q loose XP YP l.row.toRowW d [] (fun f vs=>PySem.call f vs):=by
 refine Att.zR hn hdf fun w s₀ s₁ mg mb fa o pm cd doc a vs ns G Y ho hd hcd hmg hobj Z O hg=>?_
 have KX:=hY w _ Y;obtain⟨fd,hb,hF⟩:=F w mg fa _ KX G.T.g hmg;exact tJ KX G.T.g G.T.b G.T.builtins G.T.nolimit hg G.T.bmain (hT w _ Y) hobj Z (qb9 O hn2) hr hF hb (fun H hO hS=>hsp w H a ns O hO hS) fun H e s'=>hCX w H s₁ e s'
def yE(lo st:Int)(n:Nat):It:=⟨fun i _=>i<n,fun i H x H'=>H'=H/\x=.int (lo+i*st),fun i _=>n<=i⟩
theorem oU{w:Ja}{tg:Jc}(it:J9)(lo st:Int)(n:Nat):Turn P w K tg (yE lo st n) [it] it (fun i h=>zf6 h it (lo+(i:Nat)*st) ((n:Int)-(i:Nat)) st) where
 mem:=by simp
 obj:=fun i h q b O=>by
  have e:b=it:=by simpa using O
  subst e
  exact⟨_,q,fun v z=>by have z':Data.fields _=Data.cell v:=z;cases z'⟩
 keep:=fun i h h' q k=>k it (by simp) _ q
 item:=by
  intro X Z hw hK hc i J1 s σ H E I Y q hg;subst Z hw hK;obtain⟨f0,f1,f2,f3,f4,f5⟩:=Y it (by simp);have W:=Walks.range (prog:=X.prog) (w:=X.w) (I.ok.hd hc) it lo st n;refine W.item i s _ _ hg q fun v h' tk hv q' kk=>?_
  obtain⟨t,rfl⟩:=hv;have I1:Inv X J1 σ H {s with heap:=h',toks:=tk}:=I.turned (fun b o O e=>kk b o (by simpa using O) e) f0 f1 f3 f4 f5;exact⟨_,rfl,lO (s:={s with heap:=h',toks:=tk}) (n:="range_iterator") q' rfl rfl (by decide) ⟨.int (lo+i*st),H,I1,⟨t,rfl⟩,⟨rfl,rfl⟩,q',fun b O=>(Y b O).1⟩⟩
 done:=by intro X Z hw hK hc i J1 s σ H E I Y q hg;subst Z hw hK;obtain⟨f0,f1,f2,f3,f4,f5⟩:=Y it (by simp);exact zb6 (I.ok.hd hc) q (by have:n<=i:=hg;lia) fun h' eb=>⟨rfl,I.turned (t':=s.toks) (fun b o O e=>eb b o O e) f0 f1 f3 f4 f5⟩
 self:=fun _ _ _ _ _ q h=>zb7 q h
def vP(a b c:Int):Bool:=decide (-1000000<=a)&&decide (a<=1000000)&&decide (-1000000<=b)&&decide (b<=1000000)&&decide (-1000000<=c)&&decide (c<=1000000)&&decide (c≠0)
structure R3(a b c:Int):Prop where
 a0:-1000000<=a
 a1:a<=1000000
 b0:-1000000<=b
 b1:b<=1000000
 c0:-1000000<=c
 c1:c<=1000000
 c:c≠0
variable{c:Int}
theorem Ek{a b:Int}(h:vP a b c=true):R3 a b c:=by unfold vP at h;simp only[qb3,decide_eq_true_eq]at h;obtain⟨⟨⟨⟨⟨⟨h1,h2⟩,h3⟩,O⟩,Z⟩,Y⟩,q⟩:=h;exact⟨h1,h2,h3,O,Z,Y,q⟩
theorem R3.size{a b:Int}(h:R3 a b c):0<=qd1 a b c/\qd1 a b c<=2000001:=by
 obtain⟨h1,h2,h3,Z,h5,h6,Y⟩:=h;unfold qd1;split
 .rename_i hc;split
  .have O:0<=(b-a-1)/c:=Int.ediv_nonneg (by lia) (by lia);have q:(b-a-1)/c<=b-a-1:=Int.ediv_le_self _ (by lia);lia
  .lia
 .split
  .have O:0<=(a-b-1) / -c:=Int.ediv_nonneg (by lia) (by lia);have q:(a-b-1) / -c<=a-b-1:=Int.ediv_le_self _ (by lia);lia
  .lia
theorem fits{a:Int}(q:-9000000<=a)(h1:a<=9000000):qx2 a=true:=by unfold qx2;simp;lia
theorem R3.small{a b:Int}(h:R3 a b c):qj1.Range.small a b c=true:=by
 have Z:=h.size;obtain⟨h1,h2,h3,O,h5,Y,q⟩:=h;unfold qj1.Range.small;rw[fits (a:=a) (by lia) (by lia),fits (a:=b) (by lia) (by lia),fits (a:=c) (by lia) (by lia),fits (a:=qd1 a b c) (by lia) (by lia)];simp only[za5,qk3,qi4];right;split
 .exact fits (by lia) (by lia)
 .exact fits (by lia) (by lia)
section
variable{X:Cx}{tg:Jc}
theorem tK{R:It->Hp->Prop}{a b:Int}{t u v:Tok}{tk:Nat}(I:Inv X J1 σ H s)(h:R3 a b c)
 (q:R (yE a c (qd1 a b c).toNat) H):wpAny (model X.prog X.w) X.A (zh8 (.ref s.heap.objs.size)) (PIE X J1 σ tg R) E {s with heap:=s.heap.push {cls:=.type "range",data:=.fields #[.int a t,.int b u,.int c v]},toks:=tk}:=by
 refine wpAny_pyIter_range (IsRange.new ..) h.small ?_;have O:Inv X J1 σ H {s with heap:=s.heap.push {cls:=.type "range",data:=.fields #[.int a t,.int b u,.int c v]},toks:=tk}:=I.kept fun b o e=>gP _ e
 refine⟨(s.heap.push {cls:=.type "range",data:=.fields #[.int a t,.int b u,.int c v]}).objs.size,[(s.heap.push {cls:=.type "range",data:=.fields #[.int a t,.int b u,.int c v]}).objs.size],_,_,H,rfl,O.kept (t':=tk) fun b o e=>gP _ e,oU _ a c (qd1 a b c).toNat,?_,fun bb Z=>?_,q⟩
 .have e1:a+((0:Nat):Int)*c=a:=by simp
  have Y:(((qd1 a b c).toNat:Nat):Int)-((0:Nat):Int)=qd1 a b c:=by have:=h.size;lia
  show zf6 _ _ (a+((0:Nat):Int)*c) ((((qd1 a b c).toNat:Nat):Int)-((0:Nat):Int)) c;rw[e1,Y];exact qa8 _ rfl
 .have e:bb=(s.heap.push {cls:=.type "range",data:=.fields #[.int a t,.int b u,.int c v]}).objs.size:=by simpa using Z
  subst e;exact O.fpOk (nL _) (O.hok.fresh (nL _))
def El(ta:TA):TI:=fun σ H R=>ta σ H fun vs H1=>∃a b c:Int,vs=[.int a,.int b,.int c]/\R3 a b c/\R (yE a c (qd1 a b c).toNat) H1
theorem tM {a b c:Jc} {p:Pos} (hg:Gl X "range") (hm:X.mg "range"=none) (ha:PA X [a,b,c] ta) (hs:qa9 [a,b,c] X.env=[(false,eval a X.env),(false,eval b X.env),(false,eval c X.env)]:=by rfl) (O:qa9 [b,c] X.env=[(false,eval b X.env),(false,eval c X.env)]:=by rfl) :
  PI X tg (.Call (.Name "range" p) [a,b,c] [] pos) (El ta):=by
 intro J1 s σ H R I h;refine Call_ (fT I hg hm boot_range (qf6 (thn (ha pos J1 s σ H _ I h) fun us s1 ⟨vs,H1,I1,r1,q1⟩=>?_) (by rw[hs,O]) (by rw[O];rfl)));obtain⟨i,j,k,e,Z,q⟩:=q1;subst e;cases r1 with
 |cons r Y=>
  cases Y with
  |cons r' Y=>
   cases Y with
   |cons r'' Y=>cases Y;obtain⟨t,rfl⟩:=r;obtain⟨t',rfl⟩:=r';obtain⟨t'',rfl⟩:=r'';refine call_range_3 Z.c (tK I1 Z q) (.inl (PyProof.noPylong_small ?_));have:=Z.c0;have:=Z.c1;lia
def iX(lo st:Int)(n:Nat):List V:=(qb2 n).map fun(i:Nat)=>V.int (lo+i*st)
theorem plain_rangeS{lo st:Int}:Plain (yE lo st n) (iX lo st n) (fun _=>True):=fun i H h=>by
 refine⟨fun hi=>?_,fun e=>?_,fun x H' hi y=>?_⟩
 .show i<n;simpa[iX] using hi
 .show n<=i;simp[iX]at e;lia
 .obtain⟨e,rfl⟩:=y;refine⟨e,?_⟩;unfold iX at hi ⊢;rw[qa1,qn5]at hi;rw[qb1,qr5 hi];rfl
def qm(lo st:Int)(n:Nat):List Dt:=(qb2 n).map fun(i:Nat)=>.int (lo+i*st)
theorem oV{F:Hp}(lo st:Int)(n:Nat):Reps K F (qm lo st n) (iX lo st n):=Reps.map (fun _=>fW) _
def tN:List Dt->Option (List Dt)
 |[.int a,.int b,.int c]=>if vP a b c then some (qm a c (qd1 a b c).toNat)else none
 |_=>none
variable{p pos:Pos}{sc:Jd}{x y z:Jc}{fs:De->Option (List Dt)}
theorem tP (h:aC sc "range"=true) (Y:X.mg "range"=none) (ha:DA X [x,y,z] fs) (e1:cH X sc:=by rfl) (hs:qa9 [x,y,z] X.env=[(false,eval x X.env),(false,eval y X.env),(false,eval z X.env)]:=by rfl) (O:qa9 [y,z] X.env=[(false,eval y X.env),(false,eval z X.env)]:=by rfl) :
  DIF X tg (.Call (.Name "range" p) [x,y,z] [] pos) (dq tN fs):=
 PI.mono (tM (glD h e1) Y ha.pa hs O) fun σ H R ⟨Φ,δ,F,ds,hK,en,q,k⟩=>by
  unfold dq at q;obtain⟨as,hd,q⟩:=bS q;refine⟨Φ,δ,F,as,hK,en,hd,fun vs H' F' st r=>?_⟩;unfold tN at q;split at q
  .rename_i i j l;split at q
   .rename_i Z;cases q;simp only[Reps,Rep]at r;obtain⟨v,ws,rfl,rfl,w,us,rfl,rfl,w',us',rfl,rfl,rfl⟩:=r;exact⟨i,j,l,rfl,Ek Z,k _ _ H' F' st (plain_rangeS.walk (oV _ _ _)) fun _ _=>trivial⟩
   .cases q
  .cases q
end
theorem rP:∀a b:List Nat,ltCps a b=false->ltCps b a=false->a=b
 |[],[],_,_=>rfl
 |[],_::_,h,_=>by simp[ltCps]at h
 |_::_,[],_,h=>by simp[ltCps]at h
 |x::r,y::t,h,h'=>by
  simp only[ltCps,qv9,decide_eq_false_iff_not,qu6,beq_iff_eq]at h h';have e:x=y:=by lia
  subst e;rw[rP r t (h.2 rfl) (h'.2 rfl)]
theorem rQ:∀a b:List Nat,ltCps a b=true->ltCps b a=false
 |[],[],h=>by simp[ltCps]at h
 |[],_::_,_=>rfl
 |_::_,[],h=>by simp[ltCps]at h
 |x::r,y::t,h=>by
  simp only[ltCps,qi4,decide_eq_true_eq,qb3,beq_iff_eq]at h;simp only[ltCps,qv9,decide_eq_false_iff_not,qu6,beq_iff_eq];rcases h with h|⟨rfl,h⟩
  .exact⟨by lia,fun e=>by lia⟩
  .exact⟨by lia,fun _=>rQ r t h⟩
theorem mm:∀a b c:List Nat,ltCps b a=false->ltCps c b=false->ltCps c a=false
 |[],b,c,h1,h2=>by
  cases b with
  |nil=>exact h2
  |cons y t=>
   cases c with
   |nil=>simp[ltCps]at h2
   |cons z u=>rfl
 |x::r,[],c,h1,h2=>by simp[ltCps]at h1
 |x::r,y::t,[],h1,h2=>by simp[ltCps]at h2
 |x::r,y::t,z::u,h1,h2=>by
  simp only[ltCps,qv9,decide_eq_false_iff_not,qu6,beq_iff_eq]at h1 h2 ⊢;refine⟨by lia,fun e=>?_⟩;subst e;have e:y=z:=by lia
  subst e;exact mm r t u (h1.2 rfl) (h2.2 rfl)
def leS(a b:Str):Bool:=!ltCps b.cps.toList a.cps.toList
theorem leS_iff{a b:Str}:leS a b=true↔ltCps b.cps.toList a.cps.toList=false:=by simp[leS]
theorem mn(a b c:Str)(h:leS a b=true)(h':leS b c=true):leS a c=true:=leS_iff.mpr (mm _ _ _ (leS_iff.mp h) (leS_iff.mp h'))
theorem tQ(a b:Str):(leS a b||leS b a)=true:=by
 cases h:leS a b with
 |true=>rfl
 |false=>
  have h1:ltCps b.cps.toList a.cps.toList=true:=by simpa[leS] using h
  simp[leS_iff.mpr (rQ _ _ h1)]
theorem oW{a b:Str}(h:leS a b=true)(h':leS b a=true):a=b:=by
 have e:=rP _ _ (leS_iff.mp h') (leS_iff.mp h);cases a with
 |mk a=>cases b with
  |mk b=>simp only at e;rw[Array.toList_inj.mp e]
def fw(ss:List Str):List Str:=ss.mergeSort leS
theorem du(ss:List Str):(fw ss).Perm ss:=List.mergeSort_perm ss leS
theorem iY(ss:List Str):(fw ss).Pairwise fun a b=>leS a b=true:=List.pairwise_mergeSort mn tQ ss
theorem mo:∀(p:Str)(l:List Str),risingS p l=true->(p::l).Pairwise fun a b=>leS a b=true
 |p,[],_=>by simp
 |p,x::r,h=>by
  simp only[risingS,qb3]at h;have O:=mo x r h.2;have h1:leS p x=true:=h.1;refine qh1.mpr ⟨fun y q=>?_,O⟩;rcases qb0.mp q with rfl|q
  .exact h1
  .exact mn _ _ _ h1 ((qh1.mp O).1 y q)
theorem tR:∀l:List Str,sortedS l=true->l.Pairwise fun a b=>leS a b=true
 |[],_=>qq0
 |x::r,h=>mo x r h
theorem jq:∀{a b:List Str},a.Perm b->(a.Pairwise fun a b=>leS a b=true)->(b.Pairwise fun a b=>leS a b=true)->a=b
 |[],_,p,_,_=>p.nil_eq
 |x::r,b,p,O,q=>by
  cases b with
  |nil=>exact absurd p.length_eq (by simp)
  |cons y t=>
   have Y:x∈y::t:=p.mem_iff.mp (.head _);have Z:y∈x::r:=p.mem_iff.mpr (.head _)
   have e:x=y:=by
    rcases qb0.mp Y with h|h
    .exact h
    .rcases qb0.mp Z with h'|h'
     .exact h'.symm
     .exact oW ((qh1.mp O).1 y h') ((qh1.mp q).1 x h)
   subst e;rw[jq (zj2.cons_inv p) (qh1.mp O).2 (qh1.mp q).2]
section
variable{X:Cx}
theorem mq{F:Hp}:∀ss:List Str,Reps K F (ss.map .str) (ss.map V.str)
 |[]=>by simp only[qu5,Reps]
 |x::ss=>by simp only[qa5,Reps];exact⟨_,_,rfl,by simp only[Rep],mq ss⟩
end
def EntA(h:Heap)(d:J9)(ks:List Value)(ep:Nat):Prop:=∃o es,h.get? d=some o/\o.ExactDict/\o.data=.dict es ep/\es.toList.map (·.key)=ks
theorem EntA.upTo{d:J9}{ks:List Value}(q:EntA h d ks ep)(k:∀o,h.get? d=some o->h'.get? d=some o):EntA h' d ks ep:=let ⟨o,es,h1,r⟩:=q;⟨o,es,k o h1,r⟩
theorem EntA.ty{d:J9}{ks:List Value}(q:EntA s.heap d ks ep):s.TypeIs (.ref d) "dict":=let ⟨o,_,h1,h2,_⟩:=q;⟨o,h1,h2.1⟩
theorem EntA.lt{d:J9}{ks:List Value}(q:EntA h d ks ep):d<h.objs.size:=let ⟨_,_,h1,_⟩:=q;qa7 h1
section
variable{prog:qc9}{w:Ja}{A:qe0}{E:Value->qa4->Prop}{s:qa4}{d it:J9}{ks:List Value}{i ep:Nat}
theorem vQ(lo:(d==qh6)=false)(q:EntA s.heap d ks ep)
 (k:Q (.ref s.heap.objs.size) {s with heap:=s.heap.push {cls:=.type "dict_keyiterator",data:=.fields #[.ref d,.int 0 0,.int ks.length 0,.int ep 0]}}):wpAny (model prog w) A (zh8 (.ref d)) Q E s:=by
 obtain⟨o,es,Y,e2,O,e4⟩:=id q;refine qz7 q.ty F.slot_dict_iter (qf3 F.slot_dict_iter q.ty F.entry_dict_iter ?_ (F.args_dict_iter_1 _));unfold qj1.«dict.__iter__»;refine wB ?_;unfold qj1.Dict.dictSlotNone;refine wB (wpAny_notOrdered_dict q.ty ?_);show wpAny _ _ (pure (qf1 d)) _ _ s;refine qa3 ?_;show wpAny _ _ (zd9 d >>= _) _ _ s;unfold zd9;rw[if_neg (by rw[lo];exact qb8)];refine wB (qa3 ?_);refine wB (qz8 Y O (wB (ze0 Y O ?_)));have Z:es.size=ks.length:=by rw[<- e4];simp
 refine wB (qd5 (qa3 ⟨_,rfl,"dict_keyiterator",_,⟨_,qa8 _ rfl,rfl⟩,qi0.lookup,?_⟩));simpa[qf5,Z] using k
theorem vR {key:Value} {Q:Option Value->qa4->Prop} (st:s.heap.IsKeyIter it d i ks.length ep) (q:EntA s.heap d ks ep) (hk:ks[i]?=some key)
  (k:∀h',h'.IsKeyIter it d (i+1) ks.length ep->qo0 it s.heap h'->Q (some key) {s with heap:=h'}):wpAny (model prog w) A (qx7 (.ref it)) Q E s:=by
 obtain⟨oi,i1,i2,Z⟩:=id st;obtain⟨o,es,e1,e2,e3,e4⟩:=id q;unfold qx7;refine wB (qs8 (qe9 (name:=qa0 "__next__") st.typeIs qi0 (qf3 qi0 st.typeIs qv5 ?_ (qu7 _))));refine wB (qa3 (wB (wB ?_)))
 first|refine wB (qj8 st.typeIs (qa3 ?_))|refine wB (qn6 st.typeIs (qa3 ?_))
 refine wB (qq9 i1 Z ?_);have ow:qw1 "dict_keyiterator"=false:=by decide
 simp only[ow,qe6,if_false];show wpAny _ _ (if(qf1 d==qh2)=true then _ else _) _ _ s;rw[if_neg (show ¬ ((qf1 d==qh2)=true)from qb8)];refine wB (qa3 (wB (qz8 e1 e3 ?_)));have ez:es.size=ks.length:=by rw[<- e4];simp
 rw[if_neg (by rw[ez];simp)];refine wB (qa3 (wB (ze0 e1 e3 ?_)));rw[if_neg (by simp)];refine qa3 ?_;have li:i<es.size:=by rw[ez];exact(gX hk).1
 have O:es[i].key=key:=by rw[<- e4,qb1,qp5,qg4 li]at hk;exact qd9 hk
 simp only[show ¬ ((i:Int)<0)from by lia,if_false,qe5,qg4 li];refine wB ?_
 first|refine wB (qj8 st.typeIs (qa3 ?_))|refine wB (qn6 st.typeIs (qa3 ?_))
 refine wB (ze1 st.typeIs ?_);show wpAny _ _ (za9 (.ref it) 1 (qf5 ((i:Int)+1)) >>= _) _ _ s;refine qg8 (qj3 i1 Z (by simp) ?_)
 have Y:(s.heap.update it (qq2 (·.setIfInBounds 1 (qf5 ((i:Int)+1))))).IsKeyIter it d (i+1) ks.length ep:=⟨_,qe4 _ i1 (qh8 (qe2 Z _)),(qq1 ..).trans i2,by rw[qe2 Z];simp[qf5]⟩
 refine wB (qi1 (wB (ze1 (s:={s with heap:=s.heap.update it (qq2 (·.setIfInBounds 1 (qf5 ((i:Int)+1))))}) Y.typeIs ?_)));show wpAny _ _ (pure es[i].key) _ _ _;rw[O];exact qa3 (qa3 ⟨_,rfl,qa3 (k _ Y (qe7 ..))⟩)
theorem yF {Q:Option Value->qa4->Prop} (nh:A.handled=none) (st:s.heap.IsKeyIter it d i ks.length ep) (q:EntA s.heap d ks ep) (hi:i=ks.length)
  (k:∀h',zg0 it s.heap h'->Q none {s with heap:=h'}):wpAny (model prog w) A (qx7 (.ref it)) Q E s:=by
 obtain⟨oi,i1,i2,O⟩:=id st;obtain⟨o,es,Z,e2,Y,e4⟩:=id q;unfold qx7;refine wB (qs8 (qe9 (name:=qa0 "__next__") st.typeIs qi0 (qf3 qi0 st.typeIs qv5 ?_ (qu7 _))));refine wB (qa3 (wB (wB ?_)))
 first|refine wB (qj8 st.typeIs (qa3 ?_))|refine wB (qn6 st.typeIs (qa3 ?_))
 refine wB (qq9 i1 O ?_);have ow:qw1 "dict_keyiterator"=false:=by decide
 simp only[ow,qe6,if_false];show wpAny _ _ (if(qf1 d==qh2)=true then _ else _) _ _ s;rw[if_neg (show ¬ ((qf1 d==qh2)=true)from qb8)];refine wB (qa3 (wB (qz8 Z Y ?_)));have ez:es.size=ks.length:=by rw[<- e4];simp
 rw[if_neg (by rw[ez];simp)];refine wB (qa3 (wB (ze0 Z Y ?_)));rw[if_neg (by simp)];refine qa3 ?_;have ge:es.size<=i:=by rw[ez];lia
 simp only[show ¬ ((i:Int)<0)from by lia,if_false,qe5,qo7 ge];refine wB ?_
 first|refine wB (qj8 st.typeIs (qa3 ?_))|refine wB (qn6 st.typeIs (qa3 ?_))
 show wpAny _ _ (za9 (.ref it) 0 .none >>= _) _ _ s;refine qg8 (qj3 i1 O (by simp) ?_);show wpAny _ _ (zg9 (.type "StopIteration") [] >>= _) _ _ _;refine wB ?_;simp only[zg9,zi6];refine wB (qd5 ?_ (by size_fits));refine qg8 (m:=qm5 _ _) (za6 (a:=qh2) (by first|rfl|(simp only[qm5];rfl)) (qd5 ?_ (by size_fits)));simp only[zh0];refine wB (za7 ?_);rw[show A.in1.handled=none from nh];refine wB (qa3 (zg1 ?_));refine wB (qr1 (b:=true) (T:="StopIteration") ⟨_,qa8 _ rfl,rfl⟩ zf3 ?_);exact qa3 (k _ (((qe7 ..).extBut.push _).push _))
theorem tT(nh:A.handled=none)(Y:d≠it):Walks prog w A it [it,d] [it] ks.length (fun i v=>ks[i]?=some v) (fun i h=>h.IsKeyIter it d i ks.length ep/\EntA h d ks ep) where
 sub:=fun b q=>by simp at q;simp[q]
 frame:=fun _ _ _ st hk=>⟨let ⟨o,h1,r⟩:=st.1;⟨o,hk it (by simp) o h1,r⟩,st.2.upTo fun o e=>hk d (by simp) o e⟩
 item:=fun i s Q E hi st O=>vR st.1 st.2 (key:=ks[i]) (by simp[hi]) fun h' Z sb=>O _ h' s.toks (by simp[hi]) ⟨Z,st.2.upTo fun o e=>sb.extBut d o Y e⟩ fun b o q e=>sb.extBut b o (fun z=>q (by simp[z])) e
 done:=fun s Q E st O=>yF nh st.1 st.2 rfl fun h' eb=>O h' s.toks fun b o q e=>eb b o (fun z=>q (by simp[z])) e
 self:=fun _ _ _ _ st O=>wpAny_pyIter_keyiter st.1 O
theorem rR(lo:(d==qh6)=false):PySem.W.KdlSrc prog w "dict" d d ks.length (fun i v=>ks[i]?=some v) (fun h=>EntA h d ks ep) where
 type:=fun _ q=>q.ty
 there:=fun _ q=>⟨q.lt,q.lt⟩
 keep:=fun _ _ q hk=>q.upTo fun o e=>hk d (.inl rfl) o e
 notList:=by decide
 notTuple:=by decide
 hint:=fun _ _ _ _ q O=>PySem.W.kdl_hint_dict q.ty O
 iter:=fun _ _ Y q=>⟨_,_,(fun _ _ O=>vQ lo q O),tT Y (qc1 q.lt),⟨⟨_,qa8 _ rfl,rfl,rfl⟩,q.upTo fun o e=>gP _ e⟩⟩
end
set_option maxRecDepth 20000
def Rs(xs:Array Nat):Prop:=xs.toList.Pairwise (· < ·)
variable{xs:Array Nat}
theorem Rs.lt(h:Rs xs){k:Nat}(hi:i<k)(hk:k<xs.size):xs[i]<xs[k]:=by have:=qy7.mp h i k (by simp;lia) (by simpa using hk) hi;simpa using this
def Cut(xs:Array Nat)(j p:Nat):Prop:=p<=xs.size/\(∀i (q:i<xs.size),i<p->xs[i]<j)/\∀i (q:i<xs.size),p<=i->j<=xs[i]
variable{j:Nat}
theorem qo(h:Rs xs):∀n lo hi,hi<=xs.size->lo<=hi->hi-lo<=n->(∀i (q:i<xs.size),i<lo->xs[i]<j)->(∀i (q:i<xs.size),hi<=i->j<=xs[i])->Cut xs j (qf8.go xs j n lo hi)
 |0,lo,hi,h1,h2,h3,O,Y=>by
  have e:lo=hi:=by lia
  subst e;exact⟨h1,O,Y⟩
 |n+1,lo,hi,h1,h2,h3,O,Y=>by
  rw[qf8.go];by_cases c:lo<hi
  .rw[if_pos c];have hm:(lo+hi)/2<xs.size:=by lia
   dsimp only;rw[Array.getD_eq_getD_getElem?,qg4 hm,Option.getD_some];by_cases d:xs[(lo+hi)/2]<j
   .rw[if_pos d];refine qo h n _ hi h1 (by lia) (by lia) (fun i q Z=>?_) Y;by_cases e:i=(lo+hi)/2
    .subst e;exact d
    .exact qy1 (h.lt (by lia:i<(lo+hi)/2) hm) d
   .rw[if_neg d];refine qo h n lo _ (by lia) (by lia) (by lia) O fun i q Z=>?_
    by_cases e:i=(lo+hi)/2
    .subst e;lia
    .have:=h.lt (by lia:(lo+hi)/2<i) q;lia
  .rw[if_neg c];have e:lo=hi:=by lia
   subst e;exact⟨h1,O,Y⟩
theorem jr(h:Rs xs)(j:Nat):Cut xs j (qf8 xs j):=qo h _ _ _ (nL _) (qi3 _) (nL _) (fun i _ z=>absurd z (ze2 _)) fun i q z=>absurd q (qz4.mpr z)
variable{p:Nat}
theorem Cut.uniq{q:Nat}(a:Cut xs j p)(b:Cut xs j q):p=q:=by
 obtain⟨a1,O,Y⟩:=a;obtain⟨b1,Z,b3⟩:=b;rcases Nat.lt_trichotomy p q with h|h|h
 .have x:=Z p (by lia) h;have y:=Y p (by lia) (nL _);lia
 .exact h
 .have x:=O q (by lia) h;have y:=b3 q (by lia) (nL _);lia
theorem oX(h:Rs xs):qf8 xs 0=0:=(jr h 0).uniq ⟨qi3 _,fun i _ z=>absurd z (ze2 _),fun _ _ _=>qi3 _⟩
theorem qp(h:Rs xs)(hi:i<xs.size):qf8 xs (xs[i]+1)=i+1:=(jr h _).uniq ⟨hi,fun k q hk=>by
 by_cases e:k=i
 .subst e;lia
 .exact qh9 (h.lt (by lia:k<i) hi),fun k q hk=>h.lt hk q⟩
theorem vS{α:Type}(xs:Array α)(p:Nat)(x:α):(qz9 xs p x).toList=xs.toList.take p++x::xs.toList.drop p:=by simp only[qz9,qx0,za0,Array.toList_extract,qk9,List.singleton_append];simp;rw[List.take_of_length_le (by simp)]
theorem BZ(h:Rs xs)(hj:xs[qf8 xs j]?≠some j):Rs (qz9 xs (qf8 xs j) j):=by
 obtain⟨c1,c2,Z⟩:=jr h j;generalize qf8 xs j=p at*
 have hl:∀a∈xs.toList.take p,a<j:=fun a O=>by
  obtain⟨i,hi,rfl⟩:=List.mem_iff_getElem.mp O;have q:i<p/\i<xs.size:=by simp at hi;lia
  simpa using c2 i q.2 q.1
 have hg:∀a∈xs.toList.drop p,j<a:=fun a O=>by
  obtain⟨i,hi,rfl⟩:=List.mem_iff_getElem.mp O;have q:p+i<xs.size:=by simp at hi;lia
  have:=Z (p+i) q (by lia)
  have hne:xs[p+i]≠j:=fun e=>by
   by_cases z:i=0
   .subst z;exact hj (by rw[qg4 (by simpa using q)];simpa using e)
   .have y:=Z p (by lia) (nL _);have w:=h.lt (by lia:p<p+i) q;lia
  simp;lia
 unfold Rs;rw[vS,List.pairwise_append];refine⟨h.sublist (qz2 _ _),qh1.mpr ⟨hg,h.sublist (List.drop_sublist _ _)⟩,fun a O b Y=>?_⟩;rcases qb0.mp Y with rfl|Y
 .exact hl a O
 .exact qy1 (hl a O) (hg b Y)
def Fre(t:qf9)(j:Nat):Prop:=t.place[qf8 t.place j]?≠some j
theorem oY{t:qf9}(h:∀i,t.slot j≠.live i):Fre t j:=fun z=>by refine h (qf8 t.place j) ?_;unfold qf9.slot;dsimp only;rw[if_pos (by rw[z];simp)]
theorem mr(t:qf9)(p:qf9.Probe):(t.advance p).dummy=p.dummy:=by unfold qf9.advance;split<;>rfl
theorem jt{t:qf9}{g:Nat->Int}{h:Int}:∀n p,(∀d,p.dummy=some d->Fre t d)->∀j d,qf9.probe.go t g h n p=some (.empty j d)->Fre t j/\∀k,d=some k->Fre t k
 |0,p,hp,j,d,e=>by cases e
 |n+1,p,hp,j,d,e=>by
  rw[qf9.probe.go]at e;split at e
  .rename_i q;cases e;exact⟨oY fun i z=>(by rw[q]at z;cases z),hp⟩
  .rename_i q;refine jt n _ (fun k hk=>?_) j d e;rw[mr]at hk;cases hk;exact oY fun i z=>by rw[q]at z;cases z
  .split at e
   .cases e
   .exact jt n _ (fun k hk=>hp k (by rw[mr]at hk;exact hk)) j d e
theorem vT{t:qf9}{h:Int}(e:t.freeSlot h=some (j,b)):Fre t j:=by
 unfold qf9.freeSlot at e;split at e
 .rename_i k d hk;obtain⟨h1,h2⟩:=jt _ _ (fun d z=>by cases z) k d hk;cases e;cases d with
  |none=>exact h1
  |some x=>exact h2 x rfl
 .cases e
theorem iZ(n:Nat):Rs (Array.range n):=by unfold Rs;rw[Array.toList_range];exact zc1
theorem qq{t:qf9}(n:Nat)(h:Rs t.place):Rs (t.orStandIn n).place:=by
 unfold qf9.orStandIn;split
 .exact h
 .exact iZ n
theorem tU{t:qf9}(h:Rs t.place)(es:Array (Int×Value))(k:Int)(x:Value):Rs (layNew t es k x).2.1.place:=by
 unfold layNew;split
 .rename_i j b e;exact qq _ (BZ h (vT e))
 .exact iZ _
theorem vU(t:qf9)(es:Array (Int×Value))(n:Nat):Rs (zb0 t es n).2.1.place:=by
 unfold zb0;split
 .rename_i t' O e;dsimp only;split
  .unfold qf9.relaid qf9.laid at e;simp only[Option.bind_eq_bind,qs2,qt4]at e;obtain⟨_,_,e⟩:=e;cases e;unfold Rs;dsimp only;rw[qn7,List.pairwise_filterMap];refine qq3 (fun {a b} q x Y y Z=>?_) zc1;obtain⟨_,_,rfl⟩:=mS Y;obtain⟨_,_,rfl⟩:=mS Z;exact q
  .exact iZ _
 .exact iZ _
theorem qr(t:qf9)(es:Array (Int×Value))(h:Int)(x:Value):(layNew t es h x).2.1.led=t.led:=by
 unfold layNew;split
 .dsimp only;unfold qf9.orStandIn;split<;>rfl
 .rfl
theorem tV(t:qf9)(es:Array (Int×Value))(n:Nat):(zb0 t es n).2.1.led=t.led:=by
 unfold zb0;split
 .rename_i t' q e;dsimp only;split
  .unfold qf9.relaid qf9.laid at e;simp only[Option.bind_eq_bind,qs2,qt4]at e;obtain⟨_,_,e⟩:=e;cases e;rfl
  .rfl
 .rfl
structure SK(P:qc9)(u:Ja)(K:Type)[DecidableEq K] where
 knd:PySem.KeyKind P u K
 put:K->Tok->Value
 of:Value->K
 is:∀k t,knd.is k (put k t)=true
 ofmk:∀k t,of (put k t)=k
 shape:∀{k v},knd.is k v=true->∃t,v=put k t
 scan:∀k t,(put k t).scannable=true
noncomputable def tW(P:qc9)(u:Ja):SK P u Str where
 knd:=PySem.strKind P u
 put:=.str
 of v:=match v with|.str k _=>k|_=>""
 is:=strKind_is P u
 ofmk _ _:=rfl
 shape {k v} h:=by
  cases v<;>simp[PySem.strKind,zg2]at h
  subst h;exact⟨_,rfl⟩
 scan _ _:=rfl
section
variable{P:qc9}{u:Ja}{K:Type}[DecidableEq K]{κ:SK P u K}
structure Tx(κ:SK P u K)(l:List (Int×Value))(ss:List K):Prop where
 all:∀e∈l,∃k t,e.2=κ.put k t/\e.1=κ.knd.hash k
 per:(l.map fun e=>κ.of e.2).Perm ss
 nd:ss.Nodup
theorem Tx.elems{l:List (Int×Value)}{ss:List K}(x:Tx κ l ss):ElemsOf κ.knd l:=fun e q=>by obtain⟨k,t,h1,h2⟩:=x.all e q;rw[h1];exact⟨⟨k,κ.is k t,h2⟩,κ.scan k t⟩
theorem Tx.perm{l m:List (Int×Value)}{ss:List K}(x:Tx κ l ss)(p:m.Perm l):Tx κ m ss:=⟨fun e q=>x.all e (p.mem_iff.mp q),(p.map _).trans x.per,x.nd⟩
theorem Tx.mem{l:List (Int×Value)}{ss:List K}(x:Tx κ l ss)(k:K):k∈ss↔∃e∈l,κ.knd.is k e.2=true:=by
 rw[<- x.per.mem_iff];constructor
 .intro h;obtain⟨e,q,O⟩:=qc5.mp h;obtain⟨k',t,h1,_⟩:=x.all e q;rw[h1,κ.ofmk]at O;refine⟨e,q,?_⟩;rw[h1,<- O];exact κ.is k' t
 .rintro⟨e,q,h⟩;obtain⟨t,h1⟩:=κ.shape h;exact qc5.mpr ⟨e,q,by rw[h1,κ.ofmk]⟩
theorem Tx.push{l:List (Int×Value)}{ss:List K}(x:Tx κ l ss){k:K}{t:Tok}(hk:k∉ss):Tx κ (l++[(κ.knd.hash k,κ.put k t)]) (ss++[k]):=⟨fun e q=>by
 rcases qj4.mp q with q|q
 .exact x.all e q
 .rw[qb6.mp q];exact⟨k,t,rfl,rfl⟩,by
 rw[qf0];have:List.map (fun e=>κ.of e.2) [(κ.knd.hash k,κ.put k t)]=[k]:=by simp[κ.ofmk]
 rw[this];exact x.per.append_right _,by
 refine ql0.mpr ⟨x.nd,by simp,fun a Y b O e=>?_⟩;rw[qb6.mp O]at e;exact hk (e▸Y)⟩
structure TxS(κ:SK P u K)(h:Heap)(a:J9)(ss:List K)(led:Bool):Prop where
 ex:∃o es ep t,h.get? a=some o/\o.ExactSet/\o.data=.set es ep t/\Tx κ es.toList ss/\es.size<qn8/\t.fits es.size=true/\t.led=led/\Rs t.place
end
variable{hp:Heap}
section
variable{P:qc9}{u:Ja}{K:Type}[DecidableEq K]{κ:SK P u K}{A:qe0}{E:Value->qa4->Prop}{s:qa4}{a:J9}{ss:List K}{led:Bool}
theorem mt {es fs:Array (Int×Value)} {tb tc:qf9} (g1:hp.get? a=some o) (g2:o.ExactSet) (Z:o.data=.set es ep tb) (x:Tx κ fs.toList ss) (q:fs.size<qn8) (O:tc.fits fs.size=true) (hl:tc.led=led) (Y:Rs tc.place) :
  (hp.update a (Obj.putSet fs tc)).get? a=some {o with data:=.set fs (ep+1) tc}/\TxS κ (hp.update a (Obj.putSet fs tc)) a ss led:=by
 have e:=(SetOf_store (knd:=κ.knd) (S':=fun k=>decide (k∈ss)) g1 g2 Z x.elems (fun k=>by rw[decide_eq_true_eq];exact x.mem k) q O).1;exact⟨e,⟨_,fs,ep+1,tc,e,g2,rfl,x,q,O,hl,Y⟩⟩
theorem yG {k:K} {t:Tok} {Q:Bool->qa4->Prop} (hS:TxS κ s.heap a ss led) (room:ss.length+1<qn8)
  (q:∀hp,qo0 a s.heap hp->TxS κ hp a (if k∈ss then ss else ss++[k]) led->∀b,Q b {s with heap:=hp}):wpAny (model P u) A (setAddHashed a (κ.put k t) (κ.knd.hash k)) Q E s:=by
 obtain⟨o,es,ep,tb,g1,g2,g3,x,hb,hf,hl,hpl⟩:=hS.ex;have hn:es.size=ss.length:=by rw[<- x.per.length_eq,qa1,qe3]
 have big:es.size+1<qn8:=by rw[hn];exact room
 unfold setAddHashed setAddHashedIn;refine qi1 (wB (qe8 g1 g3 hf ?_));dsimp only;rw[byScan_of (knd:=κ.knd) (κ.scan k t) hb x.elems];simp only[↓reduceIte];unfold setAddByScan;refine wB (wB (zh5 (wB (wpAny_setScan_of (κ.is k t) g1 g3 hf x.elems ?_))));cases hr:List.findIdx? (fun e=>κ.knd.is k e.2) es.toList with
 |some j=>dsimp only;obtain⟨hj,hpj,_⟩:=List.findIdx?_eq_some_iff_getElem.mp hr;have hm:k∈ss:=(x.mem k).mpr ⟨es.toList[j],qr2 hj,hpj⟩;refine qa3 (qa3 ?_);have:=q s.heap (qo0.refl a s.heap) (by rw[if_pos hm];exact hS) false;rw[show s={s with heap:=s.heap} by cases s;rfl];exact this
 |none=>
  dsimp only
  have hm:k∉ss:=fun z=>by obtain⟨e,he,hp⟩:=(x.mem k).mp z;have:=List.findIdx?_eq_none_iff.mp hr e he;rw[hp]at this;exact Bool.noConfusion this
  rw[if_neg hm]at q;have perm:=layNew_perm tb es (κ.knd.hash k) (κ.put k t);have fits:=layNew_fits tb es (κ.knd.hash k) (κ.put k t);have ledd:=And.intro (qr tb es (κ.knd.hash k) (κ.put k t)) (tU hpl es (κ.knd.hash k) (κ.put k t));generalize layNew tb es (κ.knd.hash k) (κ.put k t)=L at perm fits ledd ⊢;obtain⟨fs,tc,wasD,gave⟩:=L;dsimp only at perm fits ledd ⊢;rw[za0]at perm;have y:Tx κ fs.toList (ss++[k]):=(x.push hm).perm perm;have hb2:fs.size<qn8:=by rw[<- qe3,perm.length_eq,qc4,qe3];simpa using big
  have gw:∀(b:Bool){s1:qa4}{Q1:Unit->qa4->Prop},Q1 () s1->wpAny (model P u) A (match b with|true=>rule "set.scan.the-table-gave-way"|false=>pure ()) Q1 E s1:=fun b s1 Q1 z=>by
   cases b
   .exact qa3 z
   .exact zh5 z
  refine wB (gw _ ?_)
  have tail:∀ tc2:qf9,tc2.fits fs.size=true->tc2.led=led->Rs tc2.place->wpAny (model P u) A (do
      storeSet a fs tc2
      if (!wasD&&tc2.tooFull)=true then do
          (match (zb0 tc2 fs (qm6 fs.size)).2.2 with|true=>rule "set.scan.the-table-gave-way"|false=>pure ())
          storeSet a (zb0 tc2 fs (qm6 fs.size)).1 (zb0 tc2 fs (qm6 fs.size)).2.1
          pure (some true)
       else pure (some true)) (fun r s1=>wpAny (model P u) A (match r with|some added=>pure added|none=>setAddHashedIn a (κ.put k t) (κ.knd.hash k) 99999) Q E s1) E s:=fun tc2 h1 h2 h3=>by
   refine wB (wpAny_storeSet_of g1 g3 ?_ (qu1 hb2));obtain⟨e1,T1⟩:=mt g1 g2 g3 y hb2 h1 h2 h3;have sb:=qe7 s.heap a (Obj.putSet fs tc2);split
   .have p2:=relayAll_perm tc2 fs (qm6 fs.size);have f2:=relayAll_fits tc2 fs (qm6 fs.size);have l2:=And.intro (tV tc2 fs (qm6 fs.size)) (vU tc2 fs (qm6 fs.size));generalize zb0 tc2 fs (qm6 fs.size)=M at p2 f2 l2 ⊢;obtain⟨gs,td,gave2⟩:=M;dsimp only at p2 f2 l2 ⊢;have sz:gs.size=fs.size:=by rw[<- qe3,p2.length_eq,qe3]
    have hb3:gs.size<qn8:=by rw[sz];exact hb2
    refine wB (gw _ (wB (wpAny_storeSet_of e1 rfl ?_ (qu1 hb3))));obtain⟨_,T2⟩:=mt e1 g2 rfl (y.perm p2) hb3 f2 (l2.1.trans h2) l2.2;exact qa3 (qa3 (q _ (sb.trans (qe7 _ a _)) T2 true))
   .exact qa3 (qa3 (q _ sb T1 true))
  split
  .refine wB ?_;rw[hashByValue_scannable 8 (κ.scan k t)];refine qa3 ?_;split
   .exact tail tc fits (ledd.1.trans hl) ledd.2
   .exact tail {tc with plain:=false} (qf9.fits_plain_off fits) (ledd.1.trans hl) ledd.2
  .refine wB (qa3 ?_);exact tail tc fits (ledd.1.trans hl) ledd.2
end
def ib{K:Type}[DecidableEq K](J5:List K)(k:K):List K:=if k∈J5 then J5 else J5++[k]
def met{K:Type}[DecidableEq K](val:Nat->K)(i:Nat):List K:=((qb2 i).map val).foldl ib []
theorem oZ{K:Type}[DecidableEq K](val:Nat->K)(i:Nat):met val (i+1)=ib (met val i) (val i):=by unfold met;rw[ze3,qf0,List.foldl_append];rfl
theorem np{K:Type}[DecidableEq K](val:Nat->K):∀i,(met val i).length<=i
 |0=>nL _
 |i+1=>by
  rw[oZ];have:=np val i;unfold ib;split
  .lia
  .rw[qc4,qp2];lia
section
variable{P:qc9}{u:Ja}{K:Type}[DecidableEq K]{κ:SK P u K}{A:qe0}{R:Result->qa4->Prop}{I:J9}{fp wr:List J9}{G:Array GenState->Array GenState->Prop}{n:Nat}{Pv:Nat->Value->Prop}{St:Nat->qa4->Prop}{led:Bool}
theorem TxS.moved{ss:List K}(x:TxS κ h a ss led)(e:∀o,h.get? a=some o->h'.get? a=some o):TxS κ h' a ss led:=by obtain⟨o,es,ep,t,g,r⟩:=x.ex;exact⟨o,es,ep,t,e o g,r⟩
theorem vV (W:WalksS P u A.in1 I fp wr G n Pv St) (S:J9) (out:S∉fp) (val:Nat->K) (hval:∀ i v,Pv i v->∃ t,v=κ.put (val i) t) (O:n+1<qn8) :
  ∀(m i:Nat)(s:qa4),n-i=m->i<=n->St i s->TxS κ s.heap S (met val i) led->(∀s',Moved (S::wr) G s s'->TxS κ s'.heap S (met val n) led->R (.ok (.ret .none)) s')→
   qq5 (model P u) A (.builtin "set.update.loop" ⟨[.ref S,.ref I],[]⟩) R s:=by
 have nw:S∉wr:=fun h=>out (W.sub _ h)
 have Y:∀b∈wr,b∈S::wr:=fun b O=>qd2 _ O
 intro m;induction m with
 |zero=>
  intro i s hm hi q hS hR;obtain rfl:i=n:=by lia
  refine qp6 zb1 ?_;rw[qm9 qs9 _];refine wB (W.done s _ _ q fun s1 mv=>?_);exact qa3 (hR s1 (mv.mono Y) (hS.moved fun o e=>mv.heap S _ nw e))
 |succ m ih=>
  intro i s hm hi q hS hR;have lt:i<n:=by lia
  refine qp6 zb1 ?_;rw[qm9 qs9 _];refine wB (W.item i s _ _ lt q fun v s1 hP hst1 mv=>?_);obtain⟨t,rfl⟩:=hval i v hP;have hS1:TxS κ s1.heap S (met val i) led:=hS.moved fun o e=>mv.heap S _ nw e
  show wpAny _ A.in1 (zd0 [κ.put (val i) t] (setAdd S (κ.put (val i) t)) >>= _) _ _ s1;refine wB (qi1 ?_);unfold setAdd;refine qi1 (wB (κ.knd.pyHash (k:=val i) (κ.is _ _) ?_));have Z:(met val i).length+1<qn8:=by have:=np val i;lia
  refine yG (s:={s1 with toks:=s1.toks+1}) hS1 Z fun h2 sb hS2 b=>?_
  have hS3:TxS κ h2 S (met val (i+1)) led:=by rw[oZ];exact hS2
  refine qa3 ⟨qw2 qs9 _,ih (i+1) _ (by lia) lt (W.frame _ s1 _ _ hst1 (za8 _) fun b O o e=>?_) hS3 fun s2 mv2 hS4=>?_⟩
  .rw[sb.2 b (fun h:b=S=>out (by rw[<- h];exact O))];exact e
  .refine hR s2 (Moved.trans W.gtrans ((mv.mono Y).then_heap (za8 _) fun b o O e=>?_) mv2) hS4;rw[sb.2 b (fun h:b=S=>O (by rw[h];exact qd8))];exact e
end
def dH(u:Ja):Bool:=!(u.params.followText "set-order")
section
variable{P:qc9}{u:Ja}{K:Type}[DecidableEq K]{κ:SK P u K}{A:qe0}{E:Value->qa4->Prop}{s:qa4}
theorem yH (v:Value) {Q1:Value->qa4->Prop} (q:Q1 (.ref s.heap.objs.size) {s with heap:=s.heap.push {cls:=.type "set",dict:=none,data:=.set #[] 0 (.fresh 0 0 (dH u))}}) :
  qq5 (model P u) A (.call (.builtin "set.__new__") ⟨[.type "set",v],[]⟩) (wants Q1 E) s:=by
 refine codeAny_of_tree ?_;show wpAny _ A.in1 (do checkBuiltinCall "set.__new__" ⟨[.type "set",v],[]⟩;again (.builtin "set.__new__" ⟨[.type "set",v],[]⟩)) _ _ s;refine wB (za6 (F.newCall_set_1 v) (qa3 ⟨qw2 F.plain_set_new _,qp6 F.entry_set_new ?_⟩));rw[qm9 F.plain_set_new _];unfold qj1.«set.__new__» qj1.Frozenset.newClass;have z:=sub_set_self;obtain⟨hp,g,d,tk,O⟩:=s;dsimp only;wp_walk;refine qo5 (qa3 ?_);dsimp only;simp only[newObj];refine wB (wpAny_alloc (qa3 ?_));exact qa3 q
end
variable{led:Bool}
section
variable{P:qc9}{u:Ja}{K:Type}[DecidableEq K]{κ:SK P u K}{A:qe0}{E:Value->qa4->Prop}{s:qa4}
theorem tX(e:hp.get? a=some {cls:=.type "set",dict:=none,data:=.set #[] 0 (.fresh 0 0 led)}):TxS κ hp a [] led:=⟨_,#[],0,.fresh 0 0 led,e,⟨rfl,rfl,rfl⟩,rfl,⟨(fun e q=>by cases q),qy8 _,qy4⟩,(by unfold qn8;decide),(by cases led<;>rfl),rfl,.nil⟩
theorem vW{l:J9}{vs:Array Value}{val:Nat->K}(calm:A.handled=none)(hl:s.heap.IsList l vs)(hi:∀(i:Nat)(v:Value),vs[i]?=some v->∃t,v=κ.put (val i) t)(hb:vs.size+1<qn8)
 (q:∀(hp:Heap)(tk:Nat),TxS κ hp s.heap.objs.size (met val vs.size) (dH u)->(∀b o,b<s.heap.objs.size->s.heap.get? b=some o->hp.get? b=some o)->Q (.ref s.heap.objs.size) {s with heap:=hp,toks:=tk}) :
  wpAny (model P u) A (call (.type "set") [.ref l]) Q E s:=by
 obtain⟨c0,tl0,m0⟩:=qp7.mro;have m1:=qp7.made;have m2:=qp7.sub;refine zh3 (codeAny_of_tree ?_);show wpAny _ _ (callAny (.type "set") _) _ _ _;refine qa3 ⟨Code.quiet_builtin _ (by decide +kernel),qp6 F.entry_type_call ?_⟩;rw[qe0.under_plain (weight_type_call_type "set" [.ref l] []) rfl];have m3:=qp7.notType;have m4:=qp7.canCreate;have m5:=F.typeCall_set_1 (.ref l)
 repeat (any_goals (first|assumption|wp_step))
 refine qr8 (yH (.ref l) (E:=E) (Q1:=fun x s1=>x=.ref s.heap.objs.size/\s1={s with heap:=s.heap.push {cls:=.type "set",dict:=none,data:=.set #[] 0 (.fresh 0 0 (dH u))}}) ⟨rfl,rfl⟩) fun r s1 hr=>?_
 cases r with
 |error e=>exact hr
 |ok fl=>
  cases fl with
  |ret x=>
   obtain⟨rfl,rfl⟩:=hr;have gS:(s.heap.push {cls:=.type "set",dict:=none,data:=.set #[] 0 (.fresh 0 0 (dH u))}).get? s.heap.objs.size=some {cls:=.type "set",dict:=none,data:=.set #[] 0 (.fresh 0 0 (dH u))}:=qa8 _ rfl;have tS:zh1 {s with heap:=s.heap.push {cls:=.type "set",dict:=none,data:=.set #[] 0 (.fresh 0 0 (dH u))}} (.ref s.heap.objs.size) "set":=⟨_,gS,rfl⟩;have n1:=qp7.init.lookup;have n2:=qp7.init.bind (.ref s.heap.objs.size)
   repeat (any_goals (first|assumption|wp_step))
   refine qr8 (codeAny_call_builtin (R:=wants (fun r s2=>r=.none/\∃hp tk,s2={s with heap:=hp,toks:=tk}/\TxS κ hp s.heap.objs.size (met val vs.size) (dH u)/\(∀b o,b<s.heap.objs.size->s.heap.get? b=some o->hp.get? b=some o)) E) qp7.init.plain F.entry_set_init (check_set_init_1 tS ?_)) fun r2 s2 O=>?_
   .obtain⟨ol,Z,hcl,nl,hdl⟩:=hl;obtain⟨oc,od,oda,osl⟩:=ol;simp only at hcl hdl;subst hcl hdl;have hol2:(s.heap.push {cls:=.type "set",dict:=none,data:=.set #[] 0 (.fresh 0 0 (dH u))}).get? l=some {cls:=.type "list",dict:=od,data:=.seq vs nl,slots:=osl}:=gP _ Z;have k1:=F.sub_list_set;have k2:=F.sub_list_frozenset;have k3:(qk5 "list"==qk5 "dict")=false:=by decide
    have hl1:(s.heap.push {cls:=.type "set",dict:=none,data:=.set #[] 0 (.fresh 0 0 (dH u))}).IsList l vs:=⟨_,hol2,rfl,nl,rfl⟩;unfold qj1.«set.__init__» noKeywords qj1.Frozenset.updateFrom;generalize hPI:zh8=PI;wp_walk;subst hPI;refine qt8 hl1 (wB (wpAny_runValue ?_));have ls:l<s.heap.objs.size:=qa7 Z;have c3:A.in1.in1.in1.handled=none:=by simp[calm]
    have ne1:l≠(s.heap.push {cls:=.type "set",dict:=none,data:=.set #[] 0 (.fresh 0 0 (dH u))}).objs.size:=by rw[qf7];exact qc1 (qh9 ls)
    have ne2:s.heap.objs.size∉[(s.heap.push {cls:=.type "set",dict:=none,data:=.set #[] 0 (.fresh 0 0 (dH u))}).objs.size,l]:=by rw[qf7];simp only[qb0,qb6,ql8,or_false,not_or];exact⟨qc1 (qo4 _),qm0 ls⟩
    refine vV ((Walks.list c3 _ l ne1 vs).toS) s.heap.objs.size ne2 val hi hb (vs.size-0) 0 _ (by lia) (qi3 _) ⟨⟨_,qa8 _ rfl,rfl,rfl⟩,(hl1.push _)⟩ (tX (gP _ gS)) fun s3 mv Y=>?_
    obtain⟨hp,g3,d3,tk3,o3⟩:=s3;have eg:g3=s.gens:=mv.gens;have ed:d3=s.drawn:=mv.drawn;have eo:o3=s.os:=mv.os;subst eg ed eo;show wpAny _ _ _ _ _ _;refine qa3 ?_;show wpAny _ _ (ret qh2) _ _ _;refine qa3 ⟨rfl,hp,tk3,rfl,Y,fun b o hb e=>?_⟩;have b1:b≠s.heap.objs.size:=qc1 hb
    have b2:b≠(s.heap.push {cls:=.type "set",dict:=none,data:=.set #[] 0 (.fresh 0 0 (dH u))}).objs.size:=by rw[qf7];exact qc1 (qh9 hb)
    exact mv.heap b o (by simp only[qb0,qb6,ql8,or_false,not_or];exact⟨b1,b2⟩) (ql5 _ (ql5 _ e))
   .cases r2 with
    |error e=>exact O
    |ok f2=>
     cases f2 with
     |ret r=>
      obtain⟨rfl,hp,tk,rfl,Y,kept⟩:=O
      repeat (any_goals (first|assumption|wp_step))
      exact q _ _ Y kept
     |_=>exact O.elim
  |_=>exact hr.elim
end
theorem ju{α:Type}:∀{l:List α}{i:Nat}(h:i<l.length),(l[i]::l.eraseIdx i).Perm l
 |x::l,0,h=>qy8 _
 |x::l,i+1,h=>by have:=ju (l:=l) (i:=i) (by simpa using h);exact(zj2.swap _ _ _).trans (this.cons x)
section
variable{M:Model}{A:qe0}{E:Value->qa4->Prop}
theorem qt{src:Source}{Q:Nat->qa4->Prop}(O:n≠0)(q:∀i d,i<n->Q i {s with drawn:=d}):wpAny M A (choose src n) Q E s:=fun G p Y=>by show Sem.wp M G (.choose src n .pure) _ _ p s;rw[Sem.wp_choose];refine⟨O,?_⟩;rw[Sem.wp_pure];exact q _ _ (qw4 _ (Nat.pos_of_ne_zero O))
theorem ig{α:Type}:∀(n:Nat)(xs:List α){Q:List α->qa4->Prop}{s:qa4},xs.length=n->(∀ys d,ys.Perm xs->Q ys {s with drawn:=d})->wpAny M A (drawOrder n xs) Q E s
 |0,xs,Q,s,O,q=>by have e:xs=[]:=zb2.mp O;subst e;show wpAny M A (pure []) Q E s;refine qa3 ?_;have:=q [] s.drawn (qy8 _);cases s;exact this
 |n+1,[],Q,s,O,q=>by cases O
 |n+1,x::xs,Q,s,O,q=>by show wpAny M A (choose .order (x::xs).length >>= fun i=>match (x::xs)[i]? with|some y=>(drawOrder n ((x::xs).eraseIdx i)) >>= fun ys=>pure (y::ys)|none=>unsupported "internal:drawOrder") Q E s;refine qg8 (qt (by simp) fun i d hi=>?_);rw[gQ hi];dsimp only;refine wB (ig n ((x::xs).eraseIdx i) (by rw[qx6 hi];lia) fun ys d2 p=>qa3 (q _ d2 ?_));exact(p.cons _).trans (ju hi)
end
theorem nq:entryFor table "set.__iter__"=some qj1.«frozenset.__iter__»:=entryFor_alias (id':="frozenset.__iter__") (by kernel_rfl) rfl (by decide +kernel) (by kernel_rfl)
theorem jO:ze7 (.type "set_iterator") "__next__"=pure (some (.builtin "set_iterator.__next__")):=by rw[qt0,qm2];kernel_rfl
section
variable{P:qc9}{u:Ja}{A:qe0}{E:Value->qa4->Prop}{s:qa4}{a:J9}{o:Obj}{es:Array (Int×Value)}{ep:Nat}{t:qf9}
def kR(first:Value)(i:Int)(a:J9)(n ep:Nat):Obj:={cls:=.type "set_iterator",data:=.fields #[first,qf5 i,.ref a,qf5 n,qf5 ep]}
theorem o0(g1:s.heap.get? a=some o)(g2:o.ExactSet)(Y:o.data=.set es ep t)(Z:t.fits es.size=true)(hb:es.size<qn8)
 (q1:∀(ys:List Nat) d,dH u=true->(t.plain=false/\1<es.size)->ys.Perm (qb2 es.size)->Q (.ref (s.heap.objs.size+1)) {s with drawn:=d,heap:=(s.heap.push {cls:=.type "tuple",data:=.seq (ys.map fun(i:Nat)=>qf5 i).toArray}).push (kR (.ref s.heap.objs.size) 0 a es.size ep)})
 (q2:(dH u=false∨¬ (t.plain=false/\1<es.size))->Q (.ref s.heap.objs.size) {s with heap:=s.heap.push (kR (qf5 0) 0 a es.size ep)}):wpAny (model P u) A (zh8 (.ref a)) Q E s:=by
 have hT:s.TypeIs (.ref a) "set":=⟨o,g1,g2.1⟩;refine qz7 hT F.slot_set_iter (qf3 F.slot_set_iter hT nq ?_ (F.args_set_iter_1 _));unfold qj1.«frozenset.__iter__»;refine wB (wB (qa3 (qa3 ?_)));unfold qj1.Frozenset.sizeOf zf0;refine wB (wB (wB (qe8 g1 Y Z (qa3 (qa3 ?_)))));unfold setDrawn zh6;refine wB (wB (qe8 g1 Y Z (wB (wB (qo5 (qa3 (qa3 ?_)))))));have hl:(!(u.params.followText "set-order"))=dH u:=rfl;show wpAny (model P u) A.in1 (if(!(u.params.followText "set-order")&&(!t.plain&&decide (es.size > 1)))=true then(drawOrder es.size (qb2 es.size) >>= fun ys=>zi6 (ys.map fun(i:Nat)=>qf5 i) >>= fun first=>setEpoch a >>= fun e=>newFields "set_iterator" [first,qf5 0,.ref a,qf5 es.size,qf5 e] >>= fun v=>ret v)else(pure (qf5 0) >>= fun first=>setEpoch a >>= fun e=>newFields "set_iterator" [first,qf5 0,.ref a,qf5 es.size,qf5 e] >>= fun v=>ret v)) _ _ s;rw[hl];by_cases q:(dH u&&(!t.plain&&decide (es.size > 1)))=true
 .rw[if_pos q];simp only[qb3,qj2,decide_eq_true_eq]at q;refine qg8 (ig _ _ (by simp) fun ys d p=>?_);have O:ys.length=es.size:=by rw[p.length_eq,qn5]
  refine wB ?_;refine wpAny_newTuple ?_ (by rw[qa1,O];exact qu1 hb);unfold setEpoch;refine wB (wB (qe8 (s:={s with drawn:=d,heap:=s.heap.push {cls:=.type "tuple",data:=.seq (ys.map fun(i:Nat)=>qf5 i).toArray}}) (gP _ g1) Y Z (qa3 ?_)));refine wB (qd5 (qa3 ⟨_,rfl,"set_iterator",_,⟨_,qa8 _ rfl,rfl⟩,jO,?_⟩));have:=q1 ys d q.1 q.2 p;rw[qf7];exact this
 .rw[if_neg q];refine wB (qa3 ?_);unfold setEpoch;refine wB (wB (qe8 g1 Y Z (qa3 ?_)));refine wB (qd5 (qa3 ⟨_,rfl,"set_iterator",_,⟨_,qa8 _ rfl,rfl⟩,jO,?_⟩));refine q2 ?_;by_cases h1:dH u=true
  .right;intro z;exact q (by rw[h1,z.1];simp;exact z.2)
  .left;simpa using h1
end
theorem mw:Manifest.owners.lookup (String.ofList ['r','o','t','a','r','e','t','i','_','t','e','s'].reverse)=some Manifest.sig_set_iterator:=by kernel_rfl
theorem slot_setit:Slot "set_iterator" "__next__" "set_iterator.__next__":=.of (owner:="set_iterator") (n:="__next__") (by rw[qt0,qm2];kernel_rfl) (by decide +kernel) (by decide +kernel) (by decide +kernel) (by first|exact .inl (by decide +kernel)|exact .inr (by decide +kernel)) (by rw[zf4];kernel_rfl)
theorem g0:entryFor table "set_iterator.__next__"=some qj1.«set_iterator.__next__»:=entryFor_of_tree (by kernel_rfl)
theorem f7(v:Value):argsOk "set_iterator.__next__" ⟨[v],[]⟩:=by unfold argsOk;rw[signature?_of (id:="set_iterator.__next__") (n:=['_','_','t','x','e','n','_','_']) (o:=['r','o','t','a','r','e','t','i','_','t','e','s']) (by kernel_rfl) mw];kernel_rfl
variable{first:Value}{ot:Obj}{m:Nat}
section
variable{P:qc9}{u:Ja}{A:qe0}{E:Value->qa4->Prop}{s:qa4}{a I:J9}{o:Obj}{es:Array (Int×Value)}{ep n:Nat}{t:qf9}
def ItAt(h:Heap)(I:J9)(first:Value)(i:Nat)(a:J9)(n ep:Nat):Prop:=∃q,h.get? I=some q/\q.cls=.type "set_iterator"/\q.data=.fields #[first,qf5 i,.ref a,qf5 n,qf5 ep]
theorem ItAt.ty(x:ItAt s.heap I first i a n ep):s.TypeIs (.ref I) "set_iterator":=let ⟨q,h,c,_⟩:=x;⟨q,h,c⟩
theorem kT{T:J9}{ps:Array Value}{hx:Int}{x:Value}{Q:Option Value->qa4->Prop}(O:ItAt s.heap I (.ref T) i a es.size ep)(g1:s.heap.get? a=some o)(g3:o.data=.set es ep t)(hf:t.fits es.size=true)(k1:s.heap.get? T=some ot)(k2:ot.data=.seq ps m)(hp:ps[i]?=some (qf5 p))(hx:es[p]?=some (hx,x))
 (q:∀h',ItAt h' I (.ref T) (i+1) a es.size ep->qo0 I s.heap h'->Q (some x) {s with heap:=h'}):wpAny (model P u) A (qx7 (.ref I)) Q E s:=by
 obtain⟨oi,hi,hc,Z⟩:=id O;unfold qx7;refine wB (qs8 (qe9 (name:=qa0 "__next__") O.ty slot_setit (qf3 slot_setit O.ty g0 ?_ (f7 _))));unfold qj1.«set_iterator.__next__»;refine wB (qa3 (wB (qq9 hi Z ?_)));unfold zf0;refine wB (wB (qe8 g1 g3 hf (qa3 ?_)));rw[if_neg (by simp)];refine wB (qu4 k1 k2 ?_);dsimp only;rw[qe5,hp];show wpAny _ _ (setNextDrawn a ((p:Int)).toNat ((ep:Int)).toNat >>= fun x=>za9 (.ref I) 1 (qf5 ((i:Int)+1)) >>= fun _=>ret x) _ _ s;rw[qe5,qe5];unfold setNextDrawn;refine wB (wB (qe8 g1 g3 hf ?_));dsimp only;rw[if_neg (by simp),hx];refine qa3 ?_;refine qg8 (qj3 hi Z (by simp) ?_)
 have Y:ItAt (s.heap.update I (qq2 (·.setIfInBounds 1 (qf5 ((i:Int)+1))))) I (.ref T) (i+1) a es.size ep:=⟨_,qe4 _ hi (qh8 (qe2 Z _)),(qq1 ..).trans hc,by rw[qe2 Z];simp[qf5]⟩
 exact qa3 ⟨_,rfl,qa3 (q _ Y (qe7 ..))⟩
end
set_option maxHeartbeats 400000
section
variable{P:qc9}{u:Ja}{A:qe0}{E:Value->qa4->Prop}{s:qa4}{a I:J9}{o:Obj}{es:Array (Int×Value)}{ep n:Nat}{t:qf9}
theorem lI{T:J9}{ps:Array Value}{m:Nat}{Q:Option Value->qa4->Prop}(Y:A.handled=none)(O:ItAt s.heap I (.ref T) es.size a es.size ep)(g1:s.heap.get? a=some o)(g3:o.data=.set es ep t)(hf:t.fits es.size=true)(k1:s.heap.get? T=some ot)(k2:ot.data=.seq ps m)(hp:ps.size=es.size)
 (q:∀h',zg0 I s.heap h'->Q none {s with heap:=h'}):wpAny (model P u) A (qx7 (.ref I)) Q E s:=by
 obtain⟨oi,hi,hc,Z⟩:=id O;unfold qx7;refine wB (qs8 (qe9 (name:=qa0 "__next__") O.ty slot_setit (qf3 slot_setit O.ty g0 ?_ (f7 _))));unfold qj1.«set_iterator.__next__»;refine wB (qa3 (wB (qq9 hi Z ?_)));unfold zf0;refine wB (wB (qe8 g1 g3 hf (qa3 ?_)));rw[if_neg (by simp)];refine wB (qu4 k1 k2 ?_);dsimp only;rw[qe5,qo7 (by lia)];show wpAny _ _ (za9 (.ref I) 0 (qf5 0) >>= fun _=>za9 (.ref I) 2 .none >>= fun _=>zg9 (.type "StopIteration") [] >>= fun e=>zh0 e) _ _ s;refine qg8 (qj3 hi Z (by simp) ?_);refine qg8 (qj3 (qe4 _ hi (qh8 (qe2 Z _))) (qe2 Z _) (by simp) ?_);show wpAny _ _ (zg9 (.type "StopIteration") [] >>= _) _ _ _;refine wB ?_;simp only[zg9,zi6];refine wB (qd5 ?_ (by size_fits));refine qg8 (m:=qm5 _ _) (za6 (a:=qh2) (by first|rfl|(simp only[qm5];rfl)) ?_);refine qd5 ?_ (by size_fits);simp only[zh0];refine wB (za7 ?_);rw[show A.in1.handled=none from Y];refine wB (qa3 (zg1 ?_));refine wB (qr1 (T:="StopIteration") (b:=true) ⟨_,qa8 _ rfl,rfl⟩ zf3 ?_);exact qa3 (q _ (((qe7 ..).trans (qe7 ..)).extBut.push _ |>.push _))
end
theorem rS{α:Type}(f:Nat->Nat):∀(n k:Nat)(l:List α)(q:Array α),l.length=n->(zi1 f n k l q).toList.Perm (q.toList++l)
 |0,k,l,q,Y=>by have e:l=[]:=zb2.mp Y;subst e;rw[zi1,qn2]
 |n+1,k,l,q,Y=>by have O:f k%l.length<l.length:=qw4 _ (by lia);rw[zi1,gQ O];dsimp only;refine(rS f n (k+1) (l.eraseIdx (f k%l.length)) (q.push l[f k%l.length]) (by rw[qx6 O];lia)).trans ?_;rw[za0,qk9];exact zj2.append_left _ (ju O)
theorem rT{α:Type}(f:Nat->Nat)(xs:Array α):(ze4 f xs).toList.Perm xs.toList:=by have:=rS f xs.size 0 xs.toList #[] (by simp);simpa[ze4] using this
section
variable{P:qc9}{u:Ja}{A:qe0}{E:Value->qa4->Prop}{s:qa4}{a I:J9}{o:Obj}{es:Array (Int×Value)}{ep n:Nat}{t:qf9}
theorem fM{Q:Option (Value×Nat)->qa4->Prop}(O:dH u=false)(g1:s.heap.get? a=some o)(g3:o.data=.set es ep t)(Y:t.fits es.size=true)
 (q:Q (((ze4 (u.params.setOrder a ep) es)[i]?).map fun e=>(e.2,j)) s):wpAny (model P u) A (zb3 a j i ep) Q E s:=by
 have Z:u.params.followText "set-order"=true:=by unfold dH at O;simpa using O
 unfold zb3 zh6;refine wB (qe8 g1 g3 Y (wB (wB (qo5 (qa3 ?_)))));show wpAny (model P u) A (if u.params.followText "set-order"=true then _ else _) Q E s;rw[if_pos Z,if_neg (by simp)];unfold setWalk zh6;refine wB (wB (qe8 g1 g3 Y (wB (wB (qo5 (qa3 ?_))))));show wpAny (model P u) A (if u.params.followText "set-order"=true then _ else _) _ E s;rw[if_pos Z];refine wB (qo5 (qa3 ?_));exact qa3 q
end
section
variable{P:qc9}{u:Ja}{A:qe0}{E:Value->qa4->Prop}{s:qa4}{a I:J9}{o:Obj}{es:Array (Int×Value)}{ep n:Nat}{t:qf9}
theorem gj{Q:Option (Value×Nat)->qa4->Prop}(O:dH u=true)(Y:t.led=true)(one:¬ (t.plain=false/\1<es.size))(g1:s.heap.get? a=some o)(g3:o.data=.set es ep t)(hf:t.fits es.size=true)
 (q:Q (match es[qf8 t.place j]?,t.place[qf8 t.place j]? with|some (_,x),some k=>some (x,k+1)|_,_=>none) s):wpAny (model P u) A (zb3 a j i ep) Q E s:=by
 have Z:u.params.followText "set-order"=false:=by unfold dH at O;simpa using O
 unfold zb3 zh6;refine wB (qe8 g1 g3 hf (wB (wB (qo5 (qa3 ?_)))));show wpAny (model P u) A (if u.params.followText "set-order"=true then _ else if(!t.plain&&decide (es.size > 1))=true then _ else(if(!t.led&&!es.isEmpty)=true then unsupported "set:maker-not-led" else pure ()) >>= fun _=>pure (match es[qf8 t.place j]?,t.place[qf8 t.place j]? with|some (_,x),some k=>some (x,k+1)|_,_=>none)) Q E s;rw[Z,if_neg (by decide),if_neg (by simpa using one),if_neg (by simp[Y])];exact wB (qa3 (qa3 q))
theorem kU{next:Nat}{x:Value}{Q:Option Value->qa4->Prop}(O:ItAt s.heap I (qf5 j) i a es.size ep)(g1:s.heap.get? a=some o)(g3:o.data=.set es ep t)(hf:t.fits es.size=true)(hn:∀{A':qe0}{Q':Option (Value×Nat)->qa4->Prop}{E':Value->qa4->Prop},Q' (some (x,next)) s->wpAny (model P u) A' (zb3 a j i ep) Q' E' s)
 (q:∀h',ItAt h' I (qf5 next) (i+1) a es.size ep->qo0 I s.heap h'->Q (some x) {s with heap:=h'}):wpAny (model P u) A (qx7 (.ref I)) Q E s:=by
 obtain⟨oi,hi,hc,Y⟩:=id O;unfold qx7;refine wB (qs8 (qe9 (name:=qa0 "__next__") O.ty slot_setit (qf3 slot_setit O.ty g0 ?_ (f7 _))));unfold qj1.«set_iterator.__next__»;refine wB (qa3 (wB (qq9 hi Y ?_)));unfold zf0;refine wB (wB (qe8 g1 g3 hf (qa3 ?_)));rw[if_neg (by simp)];show wpAny _ _ (zb3 a ((j:Int)).toNat ((i:Int)).toNat ((ep:Int)).toNat >>= _) _ _ s;rw[qe5,qe5,qe5];refine wB (hn ?_);show wpAny _ _ (za9 (.ref I) 0 (qf5 next) >>= fun _=>za9 (.ref I) 1 (qf5 ((i:Int)+1)) >>= fun _=>ret x) _ _ s;refine qg8 (qj3 hi Y (by simp) ?_);refine qg8 (qj3 (qe4 _ hi (qh8 (qe2 Y _))) (qe2 Y _) (by simp) ?_);have e1:(s.heap.update I (qq2 (·.setIfInBounds 0 (qf5 next)))).get? I=some (qq2 (·.setIfInBounds 0 (qf5 next)) oi):=qe4 _ hi (qh8 (qe2 Y _));have d1:=qe2 Y (·.setIfInBounds 0 (qf5 next))
 have Z:ItAt ((s.heap.update I (qq2 (·.setIfInBounds 0 (qf5 next)))).update I (qq2 (·.setIfInBounds 1 (qf5 ((i:Int)+1))))) I (qf5 next) (i+1) a es.size ep:=⟨_,qe4 _ e1 (qh8 (qe2 d1 _)),(qq1 ..).trans ((qq1 ..).trans hc),by rw[qe2 d1];simp[qf5]⟩
 exact qa3 ⟨_,rfl,qa3 (q _ Z ((qe7 ..).trans (qe7 ..)))⟩
theorem lJ{Q:Option Value->qa4->Prop}(Y:A.handled=none)(O:ItAt s.heap I (qf5 j) i a es.size ep)(g1:s.heap.get? a=some o)(g3:o.data=.set es ep t)(hf:t.fits es.size=true)(hn:∀{A':qe0}{Q':Option (Value×Nat)->qa4->Prop}{E':Value->qa4->Prop},Q' none s->wpAny (model P u) A' (zb3 a j i ep) Q' E' s)
 (q:∀h',zg0 I s.heap h'->Q none {s with heap:=h'}):wpAny (model P u) A (qx7 (.ref I)) Q E s:=by
 obtain⟨oi,hi,hc,Z⟩:=id O;unfold qx7;refine wB (qs8 (qe9 (name:=qa0 "__next__") O.ty slot_setit (qf3 slot_setit O.ty g0 ?_ (f7 _))));unfold qj1.«set_iterator.__next__»;refine wB (qa3 (wB (qq9 hi Z ?_)));unfold zf0;refine wB (wB (qe8 g1 g3 hf (qa3 ?_)));rw[if_neg (by simp)];show wpAny _ _ (zb3 a ((j:Int)).toNat ((i:Int)).toNat ((ep:Int)).toNat >>= _) _ _ s;rw[qe5,qe5,qe5];refine wB (hn ?_);show wpAny _ _ (za9 (.ref I) 2 .none >>= fun _=>zg9 (.type "StopIteration") [] >>= fun e=>zh0 e) _ _ s;refine qg8 (qj3 hi Z (by simp) ?_);show wpAny _ _ (zg9 (.type "StopIteration") [] >>= _) _ _ _;refine wB ?_;simp only[zg9,zi6];refine wB (qd5 ?_ (by size_fits));refine qg8 (m:=qm5 _ _) (za6 (a:=qh2) (by first|rfl|(simp only[qm5];rfl)) ?_);refine qd5 ?_ (by size_fits);simp only[zh0];refine wB (za7 ?_);rw[show A.in1.handled=none from Y];refine wB (qa3 (zg1 ?_));refine wB (qr1 (T:="StopIteration") (b:=true) ⟨_,qa8 _ rfl,rfl⟩ zf3 ?_);exact qa3 (q _ ((qe7 ..).extBut.push _ |>.push _))
end
theorem gk:Slot "set_iterator" "__iter__" "set_iterator.__iter__":=.of (owner:="set_iterator") (n:="__iter__") (by rw[qt0,qm2];kernel_rfl) (by decide +kernel) (by decide +kernel) (by decide +kernel) (by first|exact .inl (by decide +kernel)|exact .inr (by decide +kernel)) (by rw[zf4];kernel_rfl)
theorem kW:entryFor table "set_iterator.__iter__"=some qj1.«dict_keyiterator.__iter__»:=entryFor_alias (id':="dict_keyiterator.__iter__") (by kernel_rfl) rfl (by decide +kernel) (by kernel_rfl)
theorem jX(v:Value):argsOk "set_iterator.__iter__" ⟨[v],[]⟩:=by unfold argsOk;rw[signature?_of (id:="set_iterator.__iter__") (n:=['_','_','r','e','t','i','_','_']) (o:=['r','o','t','a','r','e','t','i','_','t','e','s']) (by kernel_rfl) mw];kernel_rfl
variable{ord:Nat->Value}
section
variable{P:qc9}{u:Ja}{A:qe0}{E:Value->qa4->Prop}{s:qa4}{a I:J9}{o:Obj}{es:Array (Int×Value)}{ep n:Nat}{t:qf9}
theorem gG(O:ItAt s.heap I first i a n ep)(q:Q (.ref I) s):wpAny (model P u) A (zh8 (.ref I)) Q E s:=by refine qz7 O.ty gk (qf3 gk O.ty kW ?_ (jX _));show wpAny _ _ (ret (.ref I)) _ _ s;exact qa3 ⟨_,rfl,"set_iterator",_,O.ty,slot_setit.lookup,q⟩
theorem nr{Q:Bool->qa4->Prop}(Z:s.TypeIs (.ref a) "set")(q:Q false s):wpAny (model P u) A (ql2 (.ref a)) Q E s:=by
 unfold ql2;refine wB (qw9 Z PySem.F.slot_set_len.lookup ?_);generalize O:("set.__len__":String)=Y
 wp_delta
 rw[show splitId Y=some ("set","__len__")from by subst O;decide +kernel];subst O;refine wB (qr1 (T:="set") (b:=true) Z sub_set_self ?_);refine ql3 (fun z=>absurd z (by decide)) (fun _=>?_);refine ql3 (fun _=>wB (zd3 Z (qa3 q))) (fun z=>absurd (by decide +kernel) z)
theorem ItAt.keep(x:ItAt h I first i a n ep)(e:∀q,h.get? I=some q->h'.get? I=some q):ItAt h' I first i a n ep:=let ⟨q,g,r⟩:=x;⟨q,e q g,r⟩
theorem qu {T:J9} {ps:Array Value} (Z:A.handled=none) (g3:o.data=.set es ep t) (hf:t.fits es.size=true) (k2:ot.data=.seq ps m) (hps:ps.size=es.size) (hI:I≠a) (hIT:I≠T) (Y:∀ i,i<es.size->∃ p hx,ps[i]?=some (qf5 (p:Nat))/\es[p]?=some (hx,ord i)) :
  WalksS P u A I [I,a,T] [I] (fun x y=>y=x) es.size (fun i v=>v=ord i) (fun i s=>ItAt s.heap I (.ref T) i a es.size ep/\s.heap.get? a=some o/\s.heap.get? T=some ot) where
 sub:=fun b O=>by rw[qb6.mp O];exact .head _
 grefl:=fun _=>rfl
 gtrans:=fun _ _ _ h1 h2=>h2.trans h1
 frame:=fun i s h' tk ⟨x,y,z⟩ _ e=>⟨x.keep fun q g=>e I (.head _) q g,e a (.tail _ (.head _)) _ y,e T (.tail _ (.tail _ (.head _))) _ z⟩
 item:=fun i s Q E hi ⟨x,y,z⟩ q=>by
  obtain⟨p,hx,h1,h2⟩:=Y i hi;refine kT x y g3 hf z k2 h1 h2 fun h' it sb=>q _ _ rfl ⟨it,(sb.2 a (qp1 hI)).trans y,(sb.2 T (qp1 hIT)).trans z⟩ ⟨fun b ob O e=>?_,rfl,rfl,rfl,nL _⟩
  exact(sb.2 b (fun w=>O (by rw[w];exact .head _))).trans e
 done:=fun s Q E ⟨x,y,z⟩ q=>lI Z x y g3 hf z k2 hps fun h' eb=>q _ ⟨fun b ob O e=>eb b ob (fun w=>O (by rw[w];exact .head _)) e,rfl,rfl,rfl,nL _⟩
 self:=fun i s Q E ⟨x,_⟩ q=>gG x q
end
section
variable{P:qc9}{u:Ja}{K:Type}[DecidableEq K]{κ:SK P u K}{A:qe0}{E:Value->qa4->Prop}{s:qa4}{a I:J9}{o:Obj}{es:Array (Int×Value)}{ep n:Nat}{t:qf9}
theorem kX{sl:Nat->Nat}(Y:A.handled=none)(g3:o.data=.set es ep t)(hf:t.fits es.size=true)(hI:I≠a)
 (hn:∀i,i<es.size->∀(s:qa4),s.heap.get? a=some o->∀{A':qe0}{Z:Option (Value×Nat)->qa4->Prop}{E':Value->qa4->Prop},Z (some (ord i,sl (i+1))) s->wpAny (model P u) A' (zb3 a (sl i) i ep) Z E' s)
 (he:∀(s:qa4),s.heap.get? a=some o->∀{A':qe0}{Z:Option (Value×Nat)->qa4->Prop}{E':Value->qa4->Prop},Z none s->wpAny (model P u) A' (zb3 a (sl es.size) es.size ep) Z E' s) :
  WalksS P u A I [I,a] [I] (fun x y=>y=x) es.size (fun i v=>v=ord i) (fun i s=>ItAt s.heap I (qf5 (sl i)) i a es.size ep/\s.heap.get? a=some o) where
 sub:=fun b O=>by rw[qb6.mp O];exact .head _
 grefl:=fun _=>rfl
 gtrans:=fun _ _ _ h1 h2=>h2.trans h1
 frame:=fun i s h' tk ⟨x,y⟩ _ e=>⟨x.keep fun q g=>e I (.head _) q g,e a (.tail _ (.head _)) _ y⟩
 item:=fun i s Q E hi ⟨x,y⟩ q=>kU x y g3 hf (hn i hi s y) fun h' it sb=>q _ _ rfl ⟨it,(sb.2 a (qp1 hI)).trans y⟩ ⟨fun b ob O e=>(sb.2 b (fun w=>O (by rw[w];exact .head _))).trans e,rfl,rfl,rfl,nL _⟩
 done:=fun s Q E ⟨x,y⟩ q=>lJ Y x y g3 hf (he s y) fun h' eb=>q _ ⟨fun b ob O e=>eb b ob (fun w=>O (by rw[w];exact .head _)) e,rfl,rfl,rfl,nL _⟩
 self:=fun i s Q E ⟨x,_⟩ q=>gG x q
inductive AreK(κ:SK P u K):List Value->List K->Prop
 |nil:AreK κ [] []
 |cons (k:K) (t:Tok) {vs:List Value} {ks:List K}:AreK κ vs ks->AreK κ (κ.put k t::vs) (k::ks)
theorem AreK.len{vs:List Value}{ks:List K}(h:AreK κ vs ks):vs.length=ks.length:=by
 induction h with
 |nil=>rfl
 |cons y tk _ q=>simp[q]
theorem o4{ss:List K}{l m:List (Int×Value)}(x:Tx κ l ss)(p:m.Perm l):∃ks,AreK κ (m.map (·.2)) ks/\ks.Perm ss:=by
 have y:=x.perm p;refine⟨m.map fun e=>κ.of e.2,?_,y.per⟩
 have q:∀m:List (Int×Value),(∀e∈m,∃k t,e.2=κ.put k t/\e.1=κ.knd.hash k)->AreK κ (m.map (·.2)) (m.map fun e=>κ.of e.2):=fun m=>by
  induction m with
  |nil=>intro _;exact .nil
  |cons e m O=>intro h;obtain⟨k,tk,h1,_⟩:=h e (by simp);rw[qa5,qa5,h1,κ.ofmk];exact .cons k tk (O fun z Y=>h z (by simp[Y]))
 exact q m y.all
theorem nu{ss:List K}(hS:TxS κ s.heap a ss (dH u))
 (q:∀(I:J9)(fp:List J9)(vs:List Value)(ks:List K)(St:Nat->qa4->Prop)(d:Drawn)(h':Heap),(∀Z:qe0,Z.handled=none->WalksS P u Z I fp [I] (fun x y=>y=x) vs.length (fun i v=>v=vs.getD i .none) St)->St 0 {s with drawn:=d,heap:=h'}->(∀b∈fp,b<h'.objs.size/\(b=a∨s.heap.objs.size<=b))->(∀b ob,s.heap.get? b=some ob->h'.get? b=some ob)->s.heap.objs.size<=I->AreK κ vs ks->ks.Perm ss->Q (.ref I) {s with drawn:=d,heap:=h'}) :
  wpAny (model P u) A (zh8 (.ref a)) Q E s:=by
 obtain⟨o,es,ep,t,g1,g2,g3,x,hb,hf,hl,hp⟩:=hS.ex;have la:a<s.heap.objs.size:=qa7 g1;refine o0 g1 g2 g3 hf hb (fun ys d byP hd p=>?_) (fun hm=>?_)
 . -- drawn
   have hyl:ys.length=es.size:=by rw[p.length_eq,qn5]
   have perm:(ys.map fun i=>es.toList.getD i (0,.none)).Perm es.toList:=by
    refine(p.map _).trans ?_
    have e:(qb2 es.size).map (fun i=>es.toList.getD i (0,.none))=es.toList:=by
     apply qv3
     .simp
     .intro i h1 h2;simp at h1 h2;simp[h2]
    rw[e]
   obtain⟨ks,k1,k2⟩:=o4 x perm;have hlen:((ys.map fun i=>es.toList.getD i (0,.none)).map (·.2)).length=es.size:=by rw[qa1,qa1,hyl]
   refine q (s.heap.objs.size+1) [s.heap.objs.size+1,a,s.heap.objs.size] ((ys.map fun i=>es.toList.getD i (0,.none)).map (·.2)) ks (fun i s'=>ItAt s'.heap (s.heap.objs.size+1) (.ref s.heap.objs.size) i a es.size ep/\s'.heap.get? a=some o/\s'.heap.get? s.heap.objs.size=some {cls:=.type "tuple",data:=.seq (ys.map fun(i:Nat)=>qf5 i).toArray}) d _ (fun Z O=>?_) ⟨⟨kR (.ref s.heap.objs.size) 0 a es.size ep,?_,rfl,rfl⟩,?_,?_⟩ ?_ ?_ (za8 _) k1 k2
   .rw[hlen];refine qu O g3 hf rfl (by simp[hyl]) (qm0 (qh9 la)) (Nat.succ_ne_self _) fun i hi=>?_
    have Y:i<ys.length:=by lia
    have hy:ys[i]<es.size:=qb5.mp (p.mem_iff.mp (qr2 Y));refine⟨ys[i],es[ys[i]].1,by simp[Y],?_⟩;simp[Y,hy]
   .have:=qa8 (s.heap.push {cls:=.type "tuple",data:=.seq (ys.map fun(i:Nat)=>qf5 i).toArray}) (o:=kR (.ref s.heap.objs.size) 0 a es.size ep) rfl;rw[qf7]at this;exact this
   .exact gP _ (gP _ g1)
   .exact gP _ (qa8 _ rfl)
   .intro b hb;rw[qf7,qf7];rcases qb0.mp hb with rfl|hb
    .exact⟨qo4 _,.inr (za8 _)⟩
    .rcases qb0.mp hb with rfl|hb
     .exact⟨qh9 (qh9 la),.inl rfl⟩
     .rw[qb6.mp hb];exact⟨qh9 (qo4 _),.inr (nL _)⟩
   .exact fun b ob e=>gP _ (gP _ e)
 . -- by the world's text,or one at most
   have fin:∀(m:List (Int×Value))(sl:Nat->Nat),m.Perm es.toList->sl 0=0->(∀Z:qe0,Z.handled=none->WalksS P u Z s.heap.objs.size [s.heap.objs.size,a] [s.heap.objs.size] (fun x y=>y=x) es.size (fun i v=>v=(m.map (·.2)).getD i .none) (fun i s'=>ItAt s'.heap s.heap.objs.size (qf5 (sl i)) i a es.size ep/\s'.heap.get? a=some o))->Q (.ref s.heap.objs.size) {s with heap:=s.heap.push (kR (qf5 0) 0 a es.size ep)}:=fun m sl p h0 W=>by
    obtain⟨ks,k1,k2⟩:=o4 x p;have hlen:(m.map (·.2)).length=es.size:=by rw[qa1,p.length_eq,qe3]
    have:=q s.heap.objs.size [s.heap.objs.size,a] (m.map (·.2)) ks (fun i s'=>ItAt s'.heap s.heap.objs.size (qf5 (sl i)) i a es.size ep/\s'.heap.get? a=some o) s.drawn (s.heap.push (kR (qf5 0) 0 a es.size ep)) (by rw[hlen];exact W) ⟨⟨kR (qf5 0) 0 a es.size ep,qa8 _ rfl,rfl,by rw[h0];rfl⟩,gP _ g1⟩ (fun b hb=>by
     rw[qf7];rcases qb0.mp hb with rfl|hb
     .exact⟨qo4 _,.inr (nL _)⟩
     .rw[qb6.mp hb];exact⟨qh9 la,.inl rfl⟩) (fun b ob e=>gP _ e) (nL _) k1 k2
    exact this
   have ne:s.heap.objs.size≠a:=qm0 la;by_cases byT:dH u=false
   .refine fin (ze4 (u.params.setOrder a ep) es).toList (fun _=>0) (rT _ _) rfl fun Z O=>?_
    have hsz:(ze4 (u.params.setOrder a ep) es).size=es.size:=by have:=(rT (u.params.setOrder a ep) es).length_eq;simpa using this
    refine kX O g3 hf ne (fun i hi s' gs Z Q' E' q'=>fM byT gs g3 hf ?_) (fun s' gs Z Q' E' q'=>fM byT gs g3 hf ?_)
    .have Y:i<(ze4 (u.params.setOrder a ep) es).size:=by lia
     rw[qg4 Y];simpa[Y] using q'
    .rw[qo7 (by lia)];exact q'
   .have byP:dH u=true:=by simpa using byT
    have one:¬ (t.plain=false/\1<es.size):=by
     rcases hm with h1|h1
     .exact absurd h1 byT
     .exact h1
    have hpl:t.place.size=es.size:=by unfold qf9.fits at hf;simp at hf;exact hf.1
    refine fin es.toList (fun i=>if h:0<i/\i<=t.place.size then t.place[i-1]+1 else 0) (qy8 _) (by simp) fun Z O=>?_
    have low:∀i,i<=es.size->qf8 t.place (if h:0<i/\i<=t.place.size then t.place[i-1]+1 else 0)=i:=fun i hi=>by
     by_cases h0:i=0
     .subst h0;simp[oX hp]
     .rw[dif_pos ⟨by lia,by lia⟩,qp hp (by lia)];lia
    refine kX O g3 hf ne (fun i hi s' gs Z Q' E' q'=>gj byP (hl.trans byP) one gs g3 hf ?_) (fun s' gs Z Q' E' q'=>gj byP (hl.trans byP) one gs g3 hf ?_)
    .rw[low i (qi8 hi),qg4 hi,qg4 (by lia)];rw[dif_pos ⟨by lia,by lia⟩]at q';simpa[hi] using q'
    .rw[low _ (nL _),qo7 (by lia)];exact q'
end
section
variable{P:qc9}{u:Ja}{K:Type}[DecidableEq K]{κ:SK P u K}{A:qe0}{E:Value->qa4->Prop}{s:qa4}{a:J9}
theorem TxS.small{ss:List K}(x:TxS κ h a ss led):ss.length<qn8/\∃o,h.get? a=some o/\o.cls=.type "set":=by obtain⟨o,es,ep,t,g1,g2,O,y,q,_⟩:=x.ex;refine⟨?_,o,g1,g2.1⟩;rw[<- y.per.length_eq,qa1,qe3];exact q
theorem jY {ss:List K} {Q:List Value->qa4->Prop} (calm:A.handled=none) (hS:TxS κ s.heap a ss (dH u))
  (q:∀(vs:List Value)(ks:List K)(d:Drawn)(h':Heap)(tk:Nat),AreK κ vs ks->ks.Perm ss->s.heap.objs.size<=h'.objs.size->(∀b ob,s.heap.get? b=some ob->h'.get? b=some ob)->Q vs {s with drawn:=d,heap:=h',toks:=tk}):wpAny (model P u) A (collect (.ref a)) Q E s:=by
 obtain⟨hsz,o,g1,gc⟩:=hS.small;have la:a<s.heap.objs.size:=qa7 g1;unfold collect;refine wB (wpAny_runValue (qp6 PySem.F.entry_proto_collect ?_));rw[qm9 PySem.F.plain_proto_collect _];show wpAny _ A.in1 (newList [] >>= fun l=>again (.builtin "list.__iadd__" ⟨[l,.ref a],[]⟩)) _ _ s;refine wB (qd5 ?_);refine qa3 ⟨qw2 PySem.F.plain_list_iadd _,qp6 PySem.F.entry_list_iadd ?_⟩;rw[qm9 PySem.F.plain_list_iadd _];show wpAny _ A.in1 (qg7 (.ref s.heap.objs.size) (.ref a) (.ref s.heap.objs.size)) _ _ _;have hS1:TxS κ (s.heap.push {cls:=.type "list",data:=.seq ([]:List Value).toArray}) a ss (dH u):=hS.moved fun ob e=>gP _ e
 have hT1:zh1 {s with heap:=s.heap.push {cls:=.type "list",data:=.seq ([]:List Value).toArray}} (.ref a) "set":=⟨o,gP _ g1,gc⟩;have gL:(s.heap.push {cls:=.type "list",data:=.seq ([]:List Value).toArray}).get? s.heap.objs.size=some {cls:=.type "list",data:=.seq ([]:List Value).toArray}:=qa8 _ rfl;unfold qg7;refine wB (zd3 hT1 ?_);have h1:qn9 (.ref s.heap.objs.size) (.ref a)=false:=by simp[qn9,qm0 la]
 have h2:(qk5 "set"==qk5 "list")=false:=by decide
 have h3:(qk5 "set"==qk5 "tuple")=false:=by decide
 simp only[h1,h2,h3,qs3,qe6,if_false];refine wB (nu (s:={s with heap:=s.heap.push {cls:=.type "list",data:=.seq ([]:List Value).toArray}}) hS1 fun I fp vs ks St d h' W st hfp keep hI k1 k2=>?_);have hTI:zh1 {s with drawn:=d,heap:=h'} (.ref a) "set":=⟨o,keep a o (gP _ g1),gc⟩;refine wB (qi1 (nr hTI ?_));show wpAny _ A.in1 (rule "list.extend.makes-room" >>= fun _=>qj1.List.listTouch (.ref s.heap.objs.size) >>= fun _=>again (.builtin "list.extend.loop" ⟨[.ref s.heap.objs.size,.ref I,.ref s.heap.objs.size],[]⟩)) _ _ _;refine wB (zh5 (wB ?_));have gL1:=keep _ _ gL;show wpAny _ A.in1 (updateSeq s.heap.objs.size (·.push .none) >>= fun _=>updateSeq s.heap.objs.size (·.pop)) _ _ _;refine wB (ze5 gL1 rfl ?_);have Y:=qe4 (qo6 (·.push qh2)) gL1 rfl;refine ze5 Y rfl ?_;have gL3:=qe4 (qo6 (·.pop)) Y rfl;have oth:∀b ob,b≠s.heap.objs.size->h'.get? b=some ob->((h'.update s.heap.objs.size (qo6 (·.push qh2))).update s.heap.objs.size (qo6 (·.pop))).get? b=some ob:=fun b ob hb e=>(ql6 _ _ (qp1 hb)).trans ((ql6 _ _ (qp1 hb)).trans e)
 have out:s.heap.objs.size∉fp:=fun hm=>by
  rcases(hfp _ hm).2 with z|z
  .exact qm0 la z
  .have z:(s.heap.push {cls:=.type "list",data:=.seq ([]:List Value).toArray}).objs.size<=s.heap.objs.size:=z;rw[qf7]at z;exact Nat.not_succ_le_self _ z
 have W1:=W A.in1 (by simp[calm])
 have hvl:vs.length<=qb4:=by
  have e:vs.length=ss.length:=by rw[<- k2.length_eq];exact k1.len
  rw[e];exact qu1 hsz
 refine qa3 ⟨qw2 PySem.F.plain_extend_loop _,codeAny_extend_loopS W1 hvl _ out _ vs.length 0 _ _ _ rfl (qi3 _) (W1.frame 0 ({s with drawn:=d,heap:=h'}:qa4) _ s.toks st (nL _) fun b hb ob e=>oth b ob (fun h=>out (h▸hb)) e) gL3 (ItemsOf.nil _) fun s2 J5 c2 mv gS2 O=>?_⟩;show wpAny _ A (load s.heap.objs.size >>= _) _ _ s2;refine wB (wpAny_load gS2 ?_)
 have hav:J5.toList=vs:=by
  apply qv3
  .simpa using O.1
  .intro i h1 h2;have:=O.2 i J5.toList[i] (by simp);rw[this];simp[h2]
 rw[<- hav]at k1;obtain⟨h2',g2',Z,tk2',o2'⟩:=s2;have eg:g2'=s.gens:=mv.gens;have ed:Z=d:=mv.drawn;have eo:o2'=s.os:=mv.os;subst eg ed eo;refine qa3 (q J5.toList ks Z h2' tk2' k1 k2 (qi8 (qa7 gS2)) fun b ob e=>?_);have nb:b≠s.heap.objs.size:=qc1 (qa7 e);refine mv.heap b ob (fun hm=>?_) (oth b ob nb (keep b ob (gP _ e)));rcases qb0.mp hm with z|z
 .exact nb z
 .rw[qb6.mp z]at e;have z2:(s.heap.push {cls:=.type "list",data:=.seq ([]:List Value).toArray}).objs.size<=I:=hI;rw[qf7]at z2;exact absurd (qa7 e) (qz4.mpr (Nat.le_of_succ_le z2))
end
section
variable{P:qc9}{u:Ja}{K:Type}[DecidableEq K]{κ:SK P u K}{A:qe0}{E:Value->qa4->Prop}{s:qa4}{a:J9}
noncomputable def j6(κ:SK P u K)(O:List K->List K):Prop:=∀{A:qe0}{E:Value->qa4->Prop}{s:qa4}{a:J9}{vs:List Value}{ks:List K}{n:Nat}{Q:Fin->qa4->Prop},s.heap.get? a=some (seqObj "list" vs.toArray n)->AreK κ vs ks->vs.length<64→ (∀q:Array Value,AreK κ q.toList (O ks)->Q (.done (.ret .none)) {s with heap:=sortedHeap s.heap a vs q})->wpAny (model P u) A (qj1.«list.sort» ⟨[.ref a],[]⟩) Q E s
theorem kY{ss:List K}{O:List K->List K}(hs:j6 κ O)(pm:∀{ks},ks.Perm ss->O ks=O ss)(calm:A.handled=none)(hS:TxS κ s.heap a ss (dH u))(few:ss.length<64)
 (q:∀(l:J9)(Z:Array Value)(d:Drawn)(h':Heap)(tk:Nat),AreK κ Z.toList (O ss)->(∃e,h'.get? l=some (seqObj "list" Z e))->s.heap.objs.size<=l->(∀b ob,s.heap.get? b=some ob->h'.get? b=some ob)->Q (.ref l) {s with drawn:=d,heap:=h',toks:=tk}):wpAny (model P u) A (call (.builtin "sorted") [.ref a]) Q E s:=by
 refine Calls.call_function_entry kind_sorted plain_sorted entry_sorted (args_sorted1 _) ?_;unfold qj1.«sorted»;refine wB (m:=checkCount "sorted" 1 1 _) (qa3 ?_);refine qg8 (jY (by simp[calm]) hS fun vs ks d h' tk k1 k2 le keep=>?_);have Y:vs.length<64:=by rw[k1.len,k2.length_eq];exact few
 refine wB (wpAny_newList ?_ (qb9 (qi8 Y) (by decide)));have gL:(h'.push (seqObj "list" vs.toArray 0)).get? h'.objs.size=some (seqObj "list" vs.toArray 0):=qa8 _ rfl;show wpAny _ _ _ _ _ {s with drawn:=d,toks:=tk,heap:=h'.push (seqObj "list" vs.toArray 0)};refine wB (qi1 (qf3 slot_list_sort ⟨_,gL,rfl⟩ entry_list_sort (hs gL k1 Y fun Z a1=>⟨_,rfl,?_⟩) (args_list_sort _)));refine qa3 ⟨_,rfl,?_⟩;refine q _ _ d _ tk (pm k2▸a1) (sortedHeap_at gL) le fun b ob e=>?_
 have lt:b<h'.objs.size:=qa7 (keep b ob e);rw[sortedHeap_old (qc1 lt) (by rw[size_push'];exact qh9 lt)];exact gP _ (keep b ob e)
end
section
variable{P:qc9}{u:Ja}
theorem vX{vs:List Value}{ks:List Str}(h:AreK (tW P u) vs ks):StrsAre vs ks:=by
 induction h with
 |nil=>exact .nil
 |cons k t _ q=>exact .cons k t q
theorem vY{vs:List Value}{ks:List Str}(h:StrsAre vs ks):AreK (tW P u) vs ks:=by
 induction h with
 |nil=>exact .nil
 |cons k t _ q=>exact AreK.cons (κ:=tW P u) k t q
theorem vZ:j6 (tW P u) fw:=fun {A E s a vs ks n Q} g k Y q=>by
 have Z:=vX k;refine list_sort_treeK strKind_oneLt g Z.keysOf (fun v1 v2 r e=>keyKind_strs (by rw[<- e];exact Z)) Y fun st a1 a2=>?_
 obtain⟨O,e1,e2,e3⟩:=sorted_out_str Z a1 a2;have e:O=fw ks:=jq (e2.trans (du ks).symm) (tR O e3) (iY ks);exact q _ (vY (e▸e1))
theorem v0{ss ks:List Str}(p:ks.Perm ss):fw ks=fw ss:=jq ((du ks).trans (p.trans (du ss).symm)) (iY ks) (iY ss)
end
section
variable{K:Type}[DecidableEq K]
def dZ(ss:List K):List K:=ss.foldl ib []
theorem mx[Inhabited K](ss:List K):met (fun i=>ss.getD i default) ss.length=dZ ss:=by
 unfold met dZ;congr 1;apply qv3
 .simp
 .intro i h1 h2;simp at h1;simp[h1]
theorem jv[Inhabited K](ss:List K):(dZ ss).length<=ss.length:=by rw[<- mx];exact np _ _
end
theorem Inv.dr(I:Inv X J1 σ H s)(d:Drawn):Inv X J1 σ H {s with drawn:=d}:=⟨I.ok,I.os,I.bare,I.base,I.loc,I.cell,I.free,I.freeC,I.pin,I.hok,I.len⟩
section
variable{X:Cx}{K:Type}[DecidableEq K][Inhabited K]{κ:SK X.prog X.w K}{kv:K->V}
theorem v4:∀{vs:List Value}{ss:List K},AreK κ vs ss->∀(i:Nat)(v:Value),vs[i]?=some v->∃t,v=κ.put (ss.getD i default) t
 |_,_,.nil,i,v,h=>by simp at h
 |_,_,.cons y t r,0,v,h=>by simp at h;exact⟨t,by rw[<- h];rfl⟩
 |_,_,.cons y t r,i+1,v,h=>v4 r i v (by simpa using h)
abbrev v5(κ:SK X.prog X.w K)(l:J9)(ss:List K):HO:=.ext fun h=>TxS κ h l ss (dH X.w)
def tY(κ:SK X.prog X.w K)(kv:K->V):Prop:=∀k v,RelV (kv k) v↔∃t,v=κ.put k t
theorem o5(hk:tY κ kv):∀{ss:List K}{J8:List Value},Vals (ss.map kv) J8->AreK κ J8 ss
 |[],_,h=>by cases h;exact .nil
 |x::ss,_,h=>by
  cases h with
  |cons h1 h2=>obtain⟨t,rfl⟩:=(hk x _).mp h1;exact .cons x t (o5 hk h2)
theorem o6(hk:tY κ kv):∀{J8:List Value}{ss:List K},AreK κ J8 ss->Vals (ss.map kv) J8
 |_,_,.nil=>.nil
 |_,_,.cons x t h=>.cons ((hk x _).mpr ⟨t,rfl⟩) (o6 hk h)
theorem tZ(hk:tY κ kv)(Y:X.calm=true):dh X (.type "set") (fun xs H Q=>∃p ss,xs=[.ref p]/\SqL X.K H p (ss.map kv)/\ss.length<4000/\∀l,H l=none->Q (.ref l) (upd H l (v5 κ l (dZ ss)))):=by
 intro J1 s σ H xs us Q I r h;obtain⟨p,ss,rfl,hq,hz,q⟩:=h;obtain⟨u,rfl,rx⟩:=gp r;cases rx;obtain⟨J8,r',pl,hz'⟩:=I.list hq;have hS:=o5 hk r';have O:J8.length=ss.length:=by have:=r'.length;simpa using this.symm
 have hi:∀(i:Nat)(v:Value),J8.toArray[i]?=some v->∃t,v=κ.put (ss.getD i default) t:=fun i v hv=>v4 hS i v (by simpa using hv)
 have hb:J8.toArray.size+1<qn8:=by
  have:J8.toArray.size=ss.length:=by simpa using O
  rw[this];unfold qn8;lia
 refine vW (I.ok.hd Y) pl.isList hi hb fun hp tk Z kept=>?_
 have e:met (fun i=>ss.getD i default) J8.toArray.size=dZ ss:=by rw[show J8.toArray.size=ss.length by simpa using O];exact mx ss
 rw[e]at Z;refine⟨.ref s.heap.objs.size,_,I.laid (t':=tk) (fun b o g=>kept b o (qa7 g) g) (nL _) (show ObjOk X.prog X.w _ _ _ (v5 κ s.heap.objs.size (dZ ss))from⟨Z,?_,fun h1 h2 x g=>x.moved g⟩),rfl,q _ (I.hok.fresh (nL _))⟩;obtain⟨_,o,g,_⟩:=Z.small;exact⟨o,g⟩
theorem nv{O:List K->List K}(hk:tY κ kv)(hs:j6 κ O)(pm:∀{ss ks},ks.Perm ss->O ks=O ss)(pl:∀ss,(O ss).length=ss.length)(Y:X.calm=true):dh X (.builtin "sorted") (fun xs H Q=>∃p ss,xs=[.ref p]/\H p=some (v5 κ p ss)/\ss.length<64/\∀l,H l=none->Q (.ref l) (upd H l (.lst ((O ss).map kv)))):=by
 intro J1 s σ H xs us Q I r h;obtain⟨p,ss,rfl,hq,hz,q⟩:=h;obtain⟨u,rfl,rx⟩:=gp r;cases rx;have hT:TxS κ s.heap p ss (dH X.w):=(show ObjOk X.prog X.w H s.heap p (v5 κ p ss)from I.hok p _ hq).1;refine kY hs pm (I.ok.hd Y) hT hz fun l out d h' tk a1 Z le kept=>?_
 obtain⟨c,Z⟩:=Z;refine⟨.ref l,_,(I.laid (t':=tk) kept le (show ObjOk X.prog X.w _ _ _ (.lst ((O ss).map kv))from⟨?_,out.toList,c,o6 hk a1,Z⟩)).dr d,rfl,q _ (I.hok.fresh le)⟩;rw[qa1,pl];exact qb9 (qi8 hz) (by decide)
end
theorem kvS{X:Cx}:tY (X:=X) (tW X.prog X.w) V.str:=fun _ _=>Iff.rfl
noncomputable def yI{K:Type}[DecidableEq K](rd:List Dt->Option (List K))(q:List K->List K)(wr:K->Dt):List Dt->Option T
 |[.lst ds]=>(rd ds).bind fun ss=>if ss.length<4000/\(dZ ss).length<64 then some (.lst ((q (dZ ss)).map wr))else none
 |_=>none
def gH:List Dt->Option T:=yI gF fw .str
section
variable{X:Cx}{e:Jc}{pos pos2 p p2:Pos}{sc:Jd}{fs:De->Option (List Dt)}
theorem B1 {K:Type} [DecidableEq K] [Inhabited K] {rd:List Dt->Option (List K)} {q:List K->List K} {wr:K->Dt} (κ:SK X.prog X.w K) {kv:K->V} (hk:tY κ kv) (hs:j6 κ q) (pm:∀ {ss ks},ks.Perm ss->q ks=q ss) (pl:∀ ss,(q ss).length=ss.length)
  (hr:∀{F:Hp}{l:List Dt}{vs:List V}{bs:List K},Reps X.K F l vs->rd l=some bs->vs=bs.map kv) (hw:∀{F:Hp}(ns:List K),Reps X.K F (ns.map wr) (ns.map kv))
  (h1:aC sc "sorted"=true) (h2:aC sc "set"=true) (hc:X.calm=true) (m1:X.mg "sorted"=none) (m2:X.mg "set"=none) (ha:DAB X [e] fs) (e1:cH X sc)
  (s1:qa9 [.Call (.Name "set" p2) [e] [] pos2] X.env=(false,eval (.Call (.Name "set" p2) [e] [] pos2) X.env)::qa9 [] X.env) (n1:(qj9 pos (qa9 [] X.env)).any (·.1)=false)
  (s2:qa9 [e] X.env=(false,eval e X.env)::qa9 [] X.env) (n2:(qj9 pos2 (qa9 [] X.env)).any (·.1)=false):DO X (.Call (.Name "sorted" p) [.Call (.Name "set" p2) [e] [] pos2] [] pos) (ao (yI rd q wr) fs):=
 PE.mono (jm h1 (nv hk hs pm pl hc) m1 (by rfl) (dB (kF h2 (tZ hk hc) m2 (by rfl) ha.pa e1 s2 n2) gq s1) e1 s1 n1) fun σ H Q ⟨Φ,δ,F,t,hK,en,hf,k⟩=>by
  unfold ao at hf;obtain⟨ds,hd,O⟩:=bS hf;refine⟨Φ,δ,F,ds,hK,en,hd,fun vs H1 F1 st r=>?_⟩;unfold yI at O;split at O<;>first|(cases O;done)|skip
  obtain⟨ss,hs,O⟩:=bS O;split at O<;>cases O
  rename_i hz;obtain⟨v,rfl,rv⟩:=dO r;obtain⟨b,ws,rfl,g1,g2⟩:=rv;have:=hr g2 hs;subst this;refine⟨b,ss,rfl,g1,hz.1,fun l hl=>?_⟩;have Y:Step F1 H1 F1 (upd H1 l (v5 κ l (dZ ss))):=Step.made st.fh hl;refine⟨l,dZ ss,rfl,bn,hz.2,fun l2 Z=>?_⟩;exact eI (k.step (st.trans Y)) Y.fh (hw _) Z
theorem kZ (h1:aC sc "sorted"=true) (h2:aC sc "set"=true) (hc:X.calm=true) (Z:X.mg "sorted"=none) (q:X.mg "set"=none) (Y:DAB X [e] fs) (e1:cH X sc:=by rfl)
  (s1:qa9 [.Call (.Name "set" p2) [e] [] pos2] X.env=(false,eval (.Call (.Name "set" p2) [e] [] pos2) X.env)::qa9 [] X.env:=by rfl) (n1:(qj9 pos (qa9 [] X.env)).any (·.1)=false:=by rfl)
  (O:qa9 [e] X.env=(false,eval e X.env)::qa9 [] X.env:=by rfl) (n2:(qj9 pos2 (qa9 [] X.env)).any (·.1)=false:=by rfl):DO X (.Call (.Name "sorted" p) [.Call (.Name "set" p2) [e] [] pos2] [] pos) (ao gH fs):=
 B1 (tW X.prog X.w) kvS vZ v0 (fun ss=>(du ss).length_eq) (fun g h=>jp g h) (fun ss=>mq ss) h1 h2 hc Z q Y e1 s1 n1 O n2
end
def qv:List Dt->Option T
 |[.int i,.int j]=>some (.leaf (.int (if i<j then j else i)))
 |_=>none
def rMax:List V->Hp->VK->Prop:=fun xs H Q=>∃i j,xs=[.int i,.int j]/\Q (.int (if i<j then j else i)) H
theorem jw(q:X.calm=true):dh X (.builtin "max") rMax:=sI q
theorem v6:CRD K rMax qv:=by
 intro F H ds vs Q t O r q k;unfold qv at q;split at q<;>first|(cases q;done)|skip
 cases q;rename_i i j;simp only[l5,RepB,Rep]at r;obtain⟨v,Y,rfl,rfl,w,us,rfl,rfl,rfl⟩:=r;exact⟨i,j,rfl,k.int O⟩
section
variable{P:qc9}{u:Ja}{A:qe0}{E:Value->qa4->Prop}{s:qa4}{Ty:String}{r d:J9}{n:Nat}{Pr:Nat->Value->Prop}{OK:Heap->Prop}
end
section
variable{X:Cx}
def rV:List Key->Option (List Str)
 |[]=>some []
 |.inr x::r=>(rV r).map (x::·)
 |_=>none
def gSortD:List Dt->Option T
 |[.dct ks _]=>(rV ks).bind fun ss=>if ss.length<64 then some (.lst ((fw ss).map .str))else none
 |_=>none
theorem v7:MtR X "str.index" (fun x vs H Q=>∃a b i rest,x=.str a/\vs=[.str b]/\qg9 a b 0 a.length 1=i::rest/\Q (.int i) H):=by intro J1 s σ H x vs v us Q I rx O h;obtain⟨a,b,i,rest,rfl,rfl,Z,q⟩:=h;obtain⟨t,rfl⟩:=rx;obtain⟨u,rfl,Y⟩:=O.one;obtain⟨t',rfl⟩:=Y;exact SC.index Z ⟨.int _,H,I.tok _,⟨_,rfl⟩,q⟩
def fz:Dt->List Dt->Option T
 |.str a,[.str b]=>match qg9 a b 0 a.length 1 with
  |i::_=>some (.leaf (.int (Int.ofNat i)))
  |[]=>none
 |_,_=>none
theorem v8:MRD K (fun x vs H Q=>∃a b i rest,x=.str a/\vs=[.str b]/\qg9 a b 0 a.length 1=i::rest/\Q (.int i) H) fz:=by
 intro F H d v ds vs Q t fh rd O q k;unfold fz at q;split at q<;>first|cases q;done|skip
 split at q<;>first|cases q;done|skip
 rename_i i rest Z;cases q;cases rd;obtain⟨v,rfl,Y⟩:=dO O;cases Y;exact⟨_,_,i,rest,rfl,rfl,Z,k.int fh⟩
theorem o7:∀d ds t,fz d ds=some t->∃z,d=.str z:=fun d ds t h=>by
 unfold fz at h;split at h
 .exact⟨_,rfl⟩
 .cases h
variable{e o:Jc}{es:List Jc}{fo:De->Option Dt}{fs:De->Option (List Dt)}{apos cpos pos:Pos}
theorem v9 (ho:DB X o fo) (ha:DAB X (e::es) fs)
  (Y:qs4 o "index" X.env (eval o X.env)=eval o X.env:=by rfl)
  (Z:((qj9 cpos (qa9 (e::es) X.env)).all (fun x=>!x.1)&&(zg8 cpos (qw8 [] X.env)).all (fun x=>x.1.isSome)
   && decide ((e::es).length+([]:List qu9).length+(if([]:List qu9).isEmpty then 0 else 1)<30))=true:=by rfl)
  (O:(apos.endLine==cpos.line)=true:=by rfl) (hs:qa9 (e::es) X.env=(false,eval e X.env)::qa9 es X.env:=by rfl) (q:(qj9 cpos (qa9 es X.env)).any (·.1)=false:=by rfl) :
  DO X (.Call (.Attribute o "index" apos) (e::es) [] cpos) (ma fz fo fs):=vo PySem.F.slot_str_index PySem.F.type_str_index v7 v8 o7 ho ha Y Z O hs q
noncomputable def q80(i:Nat)(f:De->Option T):De->Option Out:=fun δ=>match δ[i]? with
 |some (some (.lst l))=>(f δ).bind fun t=>match t with
  |.lst m=>if l.length+m.length<=qb4 then some (.nx (δ.set i (some (.lst (l++m)))))else none
  |_=>none
 |_=>none
theorem t4{fe:De->Option T}(hx:PE X o (iC i))(he:DO X e fe)
 (Z:qs4 o "extend" X.env (eval o X.env)=eval o X.env:=by rfl)
 (hfew:((qj9 cpos (qa9 [e] X.env)).all (fun x=>!x.1)&&(zg8 cpos (qw8 [] X.env)).all (fun x=>x.1.isSome)
 && decide ([e].length+([]:List qu9).length+(if([]:List qu9).isEmpty then 0 else 1)<30))=true:=by rfl)
 (Y:(apos.endLine==cpos.line)=true:=by rfl) (hs:qa9 [e] X.env=(false,eval e X.env)::qa9 [] X.env:=by rfl) (O:(qj9 cpos (qa9 [] X.env)).any (·.1)=false:=by rfl)
 (hsw:qn0 (.Call (.Attribute o "extend" apos) [e] [] cpos) none pos.line X.env=pure false:=by rfl) :
  DS1 X (.Expr (.Call (.Attribute o "extend" apos) [e] [] cpos) pos) (q80 i fe):=
 PS.mono (qT (uO PySem.F.plainAttrs_list PySem.F.slot_list_extend PySem.F.type_list_extend sP hx (dB he gq hs) Z hfew Y hs O) hsw) fun D σ H ⟨Φ,δ,F,ot,hK,en,q,k⟩=>by
  unfold q80 at q;split at q<;>first|cases q;done|skip
  rename_i l hl;obtain⟨t,hd,q⟩:=bS q;split at q<;>first|cases q;done|skip
  rename_i m;split at q<;>first|cases q;done|skip
  rename_i hz;cases q;obtain⟨a,vs,hv,h1,h2⟩:=en.ownL hl;refine⟨.ref a,hv,.inl ⟨rfl,vs,.inl (.inl h1)⟩,Φ,δ,F,.lst m,hK,en,hd,fun v H1 F1 S st ov hS=>?_⟩;have en1:=en.step st;have h1':=st.hh _ _ h1;obtain⟨b,ws,rfl,sb,g1,g2⟩:=ov;refine⟨a,b,vs,ws,rfl,rfl,h1',g1,by rw[h2.length,g2.length];exact hz,?_⟩;refine k σ F1 _ (en1.poke hl hv rfl fun S sa=>⟨a,vs++ws,rfl,sa,bn,(h2.same st.ff).append (hK▸g2)⟩)
end
noncomputable def Af(outer:Jd)(NX N ps fr:List Str)(js:List Nat)(sc:Jd):Bool:=
 (match sc.kind with|.function=>true|_=>false)&&!sc.isCoroutine&&!sc.isGenerator&&decide N.Nodup&&decide (N.take ps.length=ps)&&decide (N.drop (N.length-fr.length)=fr)&&decide (ps.length+fr.length<=N.length)&&
 ps.all (fun x=>decide (sc.names.lookup x=some .local)||decide (sc.names.lookup x=some .cell))&&
 fr.all (fun x=>decide (sc.names.lookup x=some .free))&&
 sc.names.all (fun y=>!decide (y.2=.free)||decide (y.1∈fr))&&
 sc.names.all (fun y=>decide (sc.names.lookup y.1=some y.2))&&
 decide (ps.length=1)&&
 sc.names.all (fun y=>!decide (y.2=.free)||decide (outer.names.lookup y.1=some .cell))&&
 decide (js.length=fr.length)&&
 (fr.zip js).all (fun p=>decide (NX[p.2]?=some p.1)&&decide (outer.names.lookup p.1=some .cell))
structure NsC(outer:Jd)(NX N ps fr:List Str)(js:List Nat)(sc:Jd):Prop where
 S:ClScope N ps fr sc
 nd:N.Nodup
 ndn:∀x,∀y∈sc.names,y.1=x->sc.names.lookup x=some y.2
 one:ps.length=1
 fre:∀x∈sc.names,x.2=.free->outer.names.lookup x.1=some .cell
 jl:js.length=fr.length
 nm:∀(i j:Nat)(x:Str),fr[i]?=some x->js[i]?=some j->NX[j]?=some x/\outer.names.lookup x=some .cell
 all:∀x∈sc.names,x.2=.free->x.1∈fr
theorem NsC.of{outer:Jd}{NX fr:List Str}(h:Af outer NX N ps fr js sc=true):NsC outer NX N ps fr js sc:=by
 unfold Af at h;simp only[qb3,qj7,qi4,qj2,decide_eq_true_eq,decide_eq_false_iff_not]at h;obtain⟨⟨⟨⟨⟨⟨⟨⟨⟨⟨⟨⟨⟨⟨h1,h2⟩,h3⟩,h4⟩,h5⟩,h6⟩,h7⟩,h8⟩,h9⟩,h10⟩,O⟩,h12⟩,Y⟩,Z⟩,h15⟩:=h;have q:∀x∈sc.names,x.2=.free->x.1∈fr:=fun x hx e=>(h10 x hx).resolve_left fun z=>z e
 have hk:sc.kind=.function:=by revert h1;cases sc.kind<;>simp
 refine⟨⟨hk,h2,h3,h4,h5,h6,h7,h8,h9,fun x e=>q _ (PySem.mem_of_lookup e) rfl⟩,h4,fun x y hy e=>by rw[<- e];exact O y hy,h12,fun x hx e=>(Y x hx).resolve_left fun z=>z e,Z,fun i j x e1 e2=>?_,q⟩;have hm:(x,j)∈fr.zip js:=qd3 (i:=i) (by rw[qq8];exact⟨e1,e2⟩);exact h15 (x,j) hm
variable{qs:List ((Nat×Nat)×Str)}
section
variable{X:Cx}{name qual:Str}{params:qj0}{body:List Jb}{scope outer:Jd}{NX N ps fr:List Str}{js:List Nat}{g:De->Option Out}{kk i:Nat}{pos:Pos}
theorem NestD.of (C:NsC outer NX N ps fr js scope) (Z:∀ (s:qa4) (cl:List (Str×J9)) (doc pm ctv O:Value) (us:List Value),us.length=ps.length->za2 s (xG9 name qual params body scope cl .none .none doc pm none O ctv) ⟨us,[]⟩ (ps.zip us))
  (q:∀(f c':J9)(cl:List (Str×J9))(A:qe0)(outer:List Env)(s:qa4)(H:Hp),Room kk (A.deeper (iJ qual scope s.heap.objs.size f (.ref c') cl))->DS (oz CX0 X.prog X.w X.K X.mg X.base N qual scope f (.ref c') cl A outer s H E0 fun _ _=>False) body g)
  (e1:cH X outer:=by rfl) (Y:X.N=NX:=by rfl):NestD X name qual params body scope N ps fr js g kk:=by
 have e1:X.env.scope=outer:=e1;subst e1 Y;exact⟨C.S,C.ndn,C.one,C.fre,C.jl,C.nm,Z,q⟩
def hasQ(qs:List ((Nat×Nat)×Str))(pos:Pos)(qual:Str):Bool:=decide (((pos.line,pos.col),qual)∈qs)&&qs.all fun p=>!decide (p.1=(pos.line,pos.col))||decide (p.2=qual)
theorem j7{c P:J9}(h:cS outer NX i name=true)(hl:iM outer name=true)(nd:NX.Nodup)(C:NsC outer NX N ps fr js scope)(B:TabB X.mg X.base c P)(hT:(P,qs)∈dA X.K)(Y:hasQ qs pos qual=true)
 (O:X.env.code=.ref c:=by rfl) (Z:qualnameIn X.env name name=qual:=by rfl) (hd0:params.defaults=[]:=by rfl) (hk0:params.kw_defaults=[]:=by rfl) (ha:annTrees params none X.env=[]:=by rfl)
 (e1:cH X outer:=by rfl) (e2:X.N=NX:=by rfl) (hfn:X.fn name=true:=by rfl):PS X (.FunctionDef name params body [] none [] scope none name pos) (rN i name qual params body scope (fV scope.names X.env.cells)):=fun J1 s σ H D I hh=>by
 have e1:X.env.scope=outer:=e1;subst e1 e2;unfold hasQ at Y;simp only[qb3,qj7,qi4,qj2,decide_eq_true_eq,decide_eq_false_iff_not]at Y;exact yB nd (gx h) (jk hl) (.inl hfn) B O hT Z Y.1 (fun q hm=>(Y.2 _ hm).resolve_left fun z=>z rfl) (im fun x hx e=>I.ok.has x.1 (.inl (C.fre x hx e))) hd0 hk0 ha J1 s σ H D I hh
theorem wa{i1 i2:Nat}(h:decide (i1<NX.length/\i2<NX.length)=true)(q:X.N=NX:=by rfl):∀ σ:St,σ.length=X.N.length->i1<σ.length/\i2<σ.length:=fun σ e=>by rw[e,q];exact of_decide_eq_true h
end
structure DefC(K:xA9)(mg:Str->Option Value)(x:Str)(st:Jb)(ps:List Str)(c:J9):Prop where
 ex:∃(f:J9)(oc:Value)(od:Option J9)(kV doc pm:Value)(an:Option J9)(ct:Value)(osl:Array (Option Value)),mg x=some (.ref f)/\xF9 K (.ref f)=true/\Binds K (xC9 x x (cB st) (bh st) (aa st) .none kV doc pm an (.ref c) ct) ps []∧K.lookup f=some ⟨oc,od,.func (xC9 x x (cB st) (bh st) (aa st) .none kV doc pm an (.ref c) ct),osl⟩/\xH9 K (.ref c) x=true
section
variable{P:qc9}{w:Ja}{K:xA9}{mg:Str->Option Value}{base:Heap}{x:Str}{st:Jb}{N ps:List Str}{c:J9}
theorem DefC.mk'{oc:Value}{od an:Option J9}{osl:Array (Option Value)}{kV doc pm ct:Value}(X:K.In h)(G:h.Ns qc0 mg)
 (a:xB9 K qc0 x=some (some (.ref f)))
 (l:K.lookup f=some ⟨oc,od,.func (xC9 x x (cB st) (bh st) (aa st) .none kV doc pm an (.ref c) ct),osl⟩) (q:xH9 K (.ref c) x=true) (k:xF9 K (.ref f)=true)
 (O:∀(kV doc pm:Value)(an:Option J9)(cdv ct:Value)(us:List Value),us.length=ps.length->zg6 (xC9 x x (cB st) (bh st) (aa st) .none kV doc pm an cdv ct) ⟨us,[]⟩=pure (ps.zip us)):DefC K mg x st ps c:=
 ⟨f,oc,od,kV,doc,pm,an,ct,osl,xI9 X G a,k,(mX l q k).binds O,l,q⟩
theorem wb{k:Nat}(D:DefC K mg x st ps c)(S:FnScope N ps (aa st))(hn:ps.length=n)
 (O:∀(f:J9)(A:qe0)(outer:List Env)(s:qa4)(H:Hp)(E:XK),Room k (A.deeper (qz0 x (aa st) s.heap.objs.size f (.ref c)))->DS (ko CX0 P w K mg base N x (aa st) f (.ref c) A outer s H E).nox (bh st) g) :
  OkF P w K mg base x (k+1) ps (spD K n (cj N.length g)):=by
 obtain⟨f,oc,od,kV,doc,pm,an,ct,osl,h1,h2,h3,lk,Z⟩:=D.ex;refine⟨f,_,h1,h2,h3,zO lk Z S (fun vs H Q E h=>?_) fun A outer s H vs Q E hr h=>?_⟩
 .obtain⟨F,ds,t,_,hl,r,_⟩:=h;rw[r.length,hl,hn]
 .obtain⟨F,ds,t,fh,hl,r,Y,kq⟩:=h;refine⟨_,PSs.nox (O f A outer s H E hr),?_⟩;unfold cj at Y;split at Y
  .rename_i t' q;cases Y;exact⟨⟨K,F,H,fun _=>False⟩,_,F,_,rfl,fJ fh r,q,fun v F' H' z=>z.step kq⟩
  .rename_i δ' q;cases Y;exact⟨⟨K,F,H,fun _=>False⟩,_,F,_,rfl,fJ fh r,q,fun σ' F' H' z=>(z.rt (Step.refl z.fh) (t:=.leaf .non) (S:=fun _=>False) (iQ (K:=K) (F:=F')) fun _ y=>y.elim).step kq⟩
  .cases Y
theorem rW{P:J9}(q:decide (x∈nestNames)=true)(h:mN K x=some (P,qs)):(P,qs)∈dA K:=qx9.mpr ⟨x,of_decide_eq_true q,h⟩
end
variable{R:Result->qa4->Prop}
section
variable{P:qc9}{u:Ja}{B:qe0}{Ex:Value->qa4->Prop}{s:qa4}{it l:J9}{xs:Array Value}
theorem ny:ze7 (.type "list_reverseiterator") "__len__"=pure none:=by rw[qt0,qm2];kernel_rfl
theorem lK:ze7 (.type "list_reverseiterator") "__length_hint__"=pure (some (.builtin "list_reverseiterator.__length_hint__")):=by rw[qt0,qm2];kernel_rfl
theorem wc{W:Bool->qa4->Prop}(O:s.TypeIs (.ref it) "list_reverseiterator")(q:W false s):wpAny (model P u) B (ql2 (.ref it)) W Ex s:=by
 unfold ql2;refine wB (qw9 O ny ?_)
 wp_delta
 refine ql3 (fun z=>absurd z (by decide)) fun _=>?_
 refine ql3 (fun z=>absurd z (by decide)) fun _=>?_
 refine wB (qw9 O lK ?_);generalize hi:("list_reverseiterator.__length_hint__":String)=j
 wp_delta
 rw[show splitId j=some ("list_reverseiterator","__length_hint__")from by subst hi;decide +kernel];subst hi;refine wB (qr1 (T:="list_reverseiterator") (b:=true) O (by rw[zf4];kernel_rfl) ?_);refine ql3 (fun z=>absurd z (by decide)) fun _=>?_
 refine ql3 (fun _=>?_) fun z=>absurd (by decide +kernel) z
 refine ql3 (fun z=>absurd z (by decide +kernel)) fun _=>?_
 exact qa3 q
abbrev rX(xs:Array Value):Nat->Value->Prop:=fun i v=>xs[xs.size-1-i]?=some v
theorem qw(O:B.handled=none)(hi:s.heap.IsRevIter it l ((xs.size:Int)-1))(hl:s.heap.IsList l xs)(hne:l≠it)(t:J9)(n1:t≠it)(n2:t≠l)(Y:Value)(c0:Nat)(ht:s.heap.get? t=some {cls:=.type "list",data:=.seq #[] c0})(fits:xs.size<=qb4)
 (q:∀(h':Heap)(tk:Nat)(ys:Array Value)(c:Nat),(∀b o,b≠t->b≠it->s.heap.get? b=some o->h'.get? b=some o)->h'.get? t=some {cls:=.type "list",dict:=none,data:=.seq ys c,slots:=#[]}->ItemsOf (rX xs) ys xs.size->R (.ok (.ret Y)) {s with heap:=h',toks:=tk}) :
  wpAny (model P u) B.in1 (qg7 (.ref t) (.ref it) Y) (fun Z s'=>match Z with|.done f=>R (.ok f) s'|.again c'=>c'.quiet=true/\qq5 (model P u) B c' R s') (fun e s'=>R (.error e) s') s:=by
 have tn:t∉[it,l]:=by
  intro z;rcases qb0.mp z with z|z
  .exact n1 z
  .exact n2 (qb6.mp z)
 have Wk:=Walks.listRev (prog:=P) (w:=u) (A:=B.in1) (by simpa using O) it l hne xs
 have go:qq5 (model P u) B (.builtin "list.extend.loop" ⟨[.ref t,.ref it,Y],[]⟩) R s:=by
  refine codeAny_extend_loopS Wk.toS fits t tn Y xs.size 0 _ #[] c0 rfl (qi3 _) ⟨qi3 _,by simpa using hi,hl⟩ ht (ItemsOf.nil _) fun s' ys c mv ht' J8=>?_
  rw[Moved.eq_with mv];refine q s'.heap s'.toks ys c (fun b o b1 b2 e=>mv.heap b o (fun z=>?_) e) ht' J8;rcases qb0.mp z with z|z
  .exact b1 z
  .exact b2 (qb6.mp z)
 unfold qg7;refine wB (zd3 (T:="list_reverseiterator") hi.typeIs ?_);have e1:qn9 (.ref t) (.ref it)=false:=by simp[qn9,n1]
 have e2:(qk5 "list_reverseiterator"==qk5 "list")=false:=by decide +kernel
 have e3:(qk5 "list_reverseiterator"==qk5 "tuple")=false:=by decide +kernel
 simp only[e1,e2,e3,qs3,qe6,if_false];refine wB (wpAny_pyIter_revIter hi ?_);refine wB (qi1 (wc hi.typeIs ?_));refine ql3 (fun z=>absurd z (by decide +kernel)) fun _=>?_
 exact qa3 ⟨qw2 PySem.F.plain_extend_loop _,go⟩
theorem we(Y:B.handled=none)(hi:s.heap.IsRevIter it l ((xs.size:Int)-1))(hl:s.heap.IsList l xs)(hne:l≠it)(t:J9)(n1:t≠it)(n2:t≠l)(Z:s.heap.get? t=some {cls:=.type "list",data:=.seq #[]})(fits:xs.size<=qb4)
 (q:∀(h':Heap)(tk:Nat)(ys:Array Value)(c:Nat),(∀b o,b≠t->b≠it->s.heap.get? b=some o->h'.get? b=some o)->h'.get? t=some {cls:=.type "list",dict:=none,data:=.seq ys c,slots:=#[]}->ItemsOf (rX xs) ys xs.size->R (.ok (.ret .none)) {s with heap:=h',toks:=tk}) :
  wpAny (model P u) B.in1 (qj1.«list.__init__» ⟨[.ref t,.ref it],[]⟩) (fun fin s'=>match fin with|.done f=>R (.ok f) s'|.again c'=>c'.quiet=true/\qq5 (model P u) B c' R s') (fun e s'=>R (.error e) s') s:=by
 show wpAny _ _ (do let was <- zc2 (.ref t);qj1.List.listUpdate (.ref t) (fun _=>#[]);letGo was.toList.reverse;qg7 (.ref t) (.ref it) .none) _ _ s;refine wB ?_;unfold zc2;refine wB (qu4 Z rfl (qa3 ?_));show wpAny _ _ (updateSeq t (fun _=>#[]) >>= fun _=>letGo (#[]:Array Value).toList.reverse >>= fun _=>qg7 (.ref t) (.ref it) .none) _ _ s;refine wB (ze5 Z rfl ?_);have ht2:=qe4 (qo6 (fun _=>(#[]:Array Value))) Z rfl;have O:∀b o,b≠t->s.heap.get? b=some o->(s.heap.update t (qo6 (fun _=>(#[]:Array Value)))).get? b=some o:=fun b o hb e=>(ql6 _ _ (qp1 hb)).trans e
 refine wB (wpAny_letGo ?_);exact qw Y (hi.at fun o e=>O _ o n1.symm e) (hl.at fun o e=>O _ o n2.symm e) hne t n1 n2 .none _ ht2 fits fun h' tk ys c k k2 k3=>q h' tk ys c (fun b o b1 b2 e=>k b o b1 b2 (O b o b1 e)) k2 k3
theorem wf {W:Value->qa4->Prop} (Z:B.handled=none) (hi:s.heap.IsRevIter it l ((xs.size:Int)-1)) (hl:s.heap.IsList l xs) (hne:l≠it) (fits:xs.size<=qb4)
  (q:∀(h':Heap)(tk:Nat)(ys:Array Value)(c:Nat),(∀b o,b≠it->s.heap.get? b=some o->h'.get? b=some o)->h'.get? s.heap.objs.size=some {cls:=.type "list",dict:=none,data:=.seq ys c,slots:=#[]}->ItemsOf (rX xs) ys xs.size->W (.ref s.heap.objs.size) {s with heap:=h',toks:=tk}) :
  wpAny (model P u) B (call (.type "list") [.ref it]) W Ex s:=by
 refine callType_codes (Q₁:=fun z O=>z=.ref s.heap.objs.size/\O={s with heap:=s.heap.push {cls:=.type "list",data:=.seq #[]}}) PySem.F.called_list (PySem.F.typeCall_list_1 _) PySem.F.entry_list_init (code_list_new _ ⟨rfl,rfl⟩) fun z O Y=>?_
 obtain⟨rfl,rfl⟩:=Y;have ht:(s.heap.push {cls:=.type "list",data:=.seq #[]}).get? s.heap.objs.size=some {cls:=.type "list",data:=.seq #[]}:=qa8 _ rfl;have l1:it<s.heap.objs.size:=let ⟨_,e,_⟩:=hi;qa7 e;have l2:l<s.heap.objs.size:=let ⟨_,e,_⟩:=hl;qa7 e;refine⟨⟨_,ht,rfl⟩,PySem.F.args_list_init_2 _ _,we (B:=B.in1) (by simpa using Z) (hi.at fun o e=>ql5 _ e) (hl.at fun o e=>ql5 _ e) hne _ (qm0 l1) (qm0 l2) ht fits fun h' tk ys c k k2 k3=>?_⟩;exact⟨rfl,q h' tk ys c (fun b o b1 e=>k b o (qc1 (qa7 e)) b1 (gP _ e)) k2 k3⟩
theorem wg{J8 ys:List Value}(r:Vals vs J8)(q:ys.length=J8.length)(h:∀(i:Nat)(v:Value),ys[i]?=some v->J8[J8.length-1-i]?=some v):ys=J8.reverse:=by
 apply qu2;intro i;by_cases hi:i<ys.length
 .have e:=h i ys[i] (gQ hi);rw[List.getElem?_reverse (by lia),e,gQ hi]
 .rw[ze6 (by lia),ze6 (by simp;lia)]
end
def tLR(X:Cx)(ta:TA):TE:=fun σ H Q=>ta σ H fun xs H1=>∃p vs,xs=[.ref p]/\SqL X.K H1 p vs/\∀l,H1 l=none->Q (.ref l) (upd H1 l (.lst vs.reverse))
section
variable{X:Cx}{e:Jc}{ta:TA}{p1 p2 pos1 pos2:Pos}{sc:Jd}
theorem o8:qd7 "reversed"=some (.type "reversed"):=by decide +kernel
theorem i0:∀{vs:List V}{us:List Value},Vals vs us->Vals vs.reverse us.reverse
 |_,_,.nil=>.nil
 |_,_,.cons h r=>by rw[qq4,qq4];exact(i0 r).append (.cons h .nil)
theorem qx (h1:aC sc "list"=true) (h2:aC sc "reversed"=true) (hm1:X.mg "list"=none) (hm2:X.mg "reversed"=none) (hc:X.calm=true) (ha:PA X [e] ta) (e1:cH X sc:=by rfl) (hs:qa9 [e] X.env=[(false,eval e X.env)]:=by rfl)
  (hs2:qa9 [.Call (.Name "reversed" p2) [e] [] pos2] X.env=[(false,eval (.Call (.Name "reversed" p2) [e] [] pos2) X.env)]:=by rfl) :
  PE X (.Call (.Name "list" p1) [.Call (.Name "reversed" p2) [e] [] pos2] [] pos1) (tLR X ta):=by
 intro J1 s σ H Q I h'
 have Z:wpAny (model X.prog X.w) X.A (eval (.Call (.Name "reversed" p2) [e] [] pos2) X.env) (fun u s2=>∃it p vs H1,u=.ref it/\Inv X J1 σ H1 s2/\hV X J1 H1 it/\p≠it/\SqL X.K H1 p vs/\s2.heap.IsRevIter it p ((vs.length:Int)-1)/\(∀l,H1 l=none->Q (.ref l) (upd H1 l (.lst vs.reverse)))) X.xe s:=by
  refine Call_ (fT I (glD h2 e1) hm2 o8 (qf6 (thn (ha pos2 J1 s σ H _ I h') fun us s1 ⟨vs,H1,I1,r1,q1⟩=>?_) hs rfl));obtain⟨p,vs,rfl,hq,q⟩:=q1;obtain⟨u,rfl,ru⟩:=gp r1;cases ru;obtain⟨J8,r',pl,Y⟩:=I1.list hq;have O:J8.toArray.size=vs.length:=by have:=r'.length;simpa using this.symm
  refine call_reversed_list pl.isList ?_;have I2:=I1.kept (t':=s1.toks) (h':=s1.heap.push (revObj p ((J8.toArray.size:Int)-1))) fun b o g=>gP _ g
  have fp:=I1.fpOk (b:=s1.heap.objs.size) (nL _) (I1.hok.fresh (nL _));refine⟨s1.heap.objs.size,p,vs,H1,rfl,I2,fp,?_,hq,⟨_,qa8 _ rfl,rfl,by rw[<- O];rfl⟩,q⟩;obtain⟨_,g,_⟩:=pl.isList;exact qc1 (qa7 g)
 have key:wpAny (model X.prog X.w) X.A (spliced (qj9 pos1 (qa9 [.Call (.Name "reversed" p2) [e] [] pos2] X.env))) (fun vs s₁=>wpAny (model X.prog X.w) X.A (call (.type "list") vs) (EP X J1 σ Q) X.xe s₁) X.xe s:=?key
 .exact Call_ (fT I (glD h1 e1) hm1 gU (qf6 key hs2 rfl))
 rw[hs2];show wpAny _ _ (spliced ((false,eval (.Call (.Name "reversed" p2) [e] [] pos2) X.env)::[])) _ _ s;refine Calls.spliced_cons (thn Z fun u s2 w=>Calls.spliced_nil ?_);obtain⟨it,p,vs,H1,rfl,I2,fp,hne,hq,hR,q⟩:=w;obtain⟨J8,r',pl,Y⟩:=I2.list hq;have O:J8.toArray.size=vs.length:=by have:=r'.length;simpa using this.symm
 have fits:J8.toArray.size<=qb4:=by first|exact Y|(rw[O];exact Y)|simpa using Y
 refine wf (I2.ok.hd hc) (by rw[O];exact hR) pl.isList hne fits fun h3 tk ys c k k2 k3=>?_
 have ey:ys.toList=J8.reverse:=wg r' (by have:=k3.1;simpa using this) fun i v hv=>by have:=k3.2 i v (by simpa using hv);simpa[rX] using this
 refine⟨.ref s2.heap.objs.size,_,I2.turnedT (fp:=[it]) (t:=s2.heap.objs.size) (u:=.lst vs.reverse) (t':=tk) (fun b o hb g=>k b o (fun z=>hb (by simp[z])) g) (fun b hb=>?_) (qt7 _) ⟨?_,J8.reverse,c,i0 r',?_⟩,rfl,q _ (I2.hok.fresh (qt7 _))⟩
 .cases qb6.mp hb;exact fp
 .rw[List.length_reverse,<- O];exact fits
 .rw[k2,<- ey]
end
def k5(ks:List Key):Dt:=.tup (ks.map rL)
theorem jx{F:Hp}:∀ks:List Key,Reps K F (ks.map rL) (ks.map kV)
 |[]=>by simp only[qu5,Reps]
 |k::ks=>by simp only[qa5,Reps];exact⟨_,_,rfl,yA k,jx ks⟩
theorem wj{F:Hp}{b:J9}{ks:List Key}(h:F b=some (.tup (ks.map kV))):Rep K F (k5 ks) (.ref b):=by unfold k5;simp only[Rep];exact⟨b,_,rfl,SqT.of h,jx ks⟩
theorem my{α β:Type}{R:α->β->Prop}:∀{l:List α}{m:List β},Paired R l m->∀{i:Nat}{a:α},l[i]?=some a->∃b,m[i]?=some b/\R a b
 |_,_,.nil,i,a,h=>by simp at h
 |_,_,.cons r t,0,a,h=>by simp at h;subst h;exact⟨_,rfl,r⟩
 |_,_,.cons r t,i+1,a,h=>by simpa using my t (by simpa using h)
theorem k6{α β:Type}{R:α->β->Prop}:∀{l:List α}{m:List β},Paired R l m->l.length=m.length
 |_,_,.nil=>rfl
 |_,_,.cons r t=>by simp[k6 t]
theorem B2 {J6:List (List Key×V)} (x:ObjOk P w H h a (.dT J6)):J6.length<=qb4/\(a==qh6)=false/\∃ (bs:List J9) (ob:Obj) (es:Array zj1) (ep:Nat),h.get? a=some ob/\ob.data=.dict es ep/\EntA h a (bs.map .ref) ep/\bs.length=J6.length∧
  ∀(j:Nat)(p:List Key×V),J6[j]?=some p->∃b,bs[j]?=some b/\H b=some (.tup (p.1.map kV)):=by
 obtain⟨z,y,xs,r,o,es,ep,h1,h2,h3,Z,h5⟩:=x;refine⟨z,y,xs.map (·.2.1),o,es,ep,h1,h3,⟨o,es,h1,h2,h3,?_⟩,by rw[qa1,<- k6 r],fun j p hp=>?_⟩
 .rw[Z,qc3,qc3];rfl
 .obtain⟨q,Y,_,O,_⟩:=my r hp;exact⟨q.2.1,by rw[qb1,Y];rfl,O⟩
section
variable{X:Cx}{tg:Jc}
theorem Ag{u:HO}(I:Inv X J1 σ H s)(h:Rd H a u):ObjOk X.prog X.w H s.heap a u:=by
 rcases h with h|⟨o,h⟩
 .exact I.hok a _ h
 .exact(I.hok a _ h).2
theorem qy(hc:X.calm=true):dh X (.type "list") (fun xs H Q=>∃a J6,xs=[.ref a]/\Rd H a (.dT J6)/\∀bs:List J9,bs.length=J6.length->(∀(j:Nat)(b:J9)(p:List Key×V),bs[j]?=some b->J6[j]?=some p->H b=some (.tup (p.1.map kV)))->∀l,H l=none->Q (.ref l) (upd H l (.lst (bs.map V.ref)))):=by
 intro J1 s σ H xs us Q I r h;obtain⟨a,J6,rfl,hq,q⟩:=h;obtain⟨u,rfl,rx⟩:=gp r;cases rx;obtain⟨z,y,bs,ob,es,ep,e1,e2,en,hl,hk⟩:=B2 (Ag I hq);have hz:(bs.map qf1).length<=qb4:=by rw[qa1,hl];exact z
 refine PySem.W.kdl_call (rR y) (I.ok.hd hc) en hz fun h' tk J5 c kp hD O=>?_
 have Y:J5.toList=bs.map qf1:=by
  apply qu2;intro j;cases hj:J5.toList[j]? with
  |none=>have h1:=qh4.mp hj;rw[qe3,O.1]at h1;rw[qh4.mpr h1]
  |some v=>exact(O.2 j v (by rw[<- qp5];exact hj)).symm
 have rv:Vals (bs.map V.ref) J5.toList:=by
  rw[Y];clear Y hk hl en hz q O;induction bs with
  |nil=>exact .nil
  |cons b bs ih=>exact .cons rfl ih
 refine⟨.ref s.heap.objs.size,_,I.laid (t':=tk) kp (nL _) (show ObjOk X.prog X.w _ h' _ (.lst (bs.map V.ref))from⟨by rw[qa1,hl];exact z,J5.toList,c,rv,by rw[Array.toArray_toList];exact hD⟩),rfl,q bs hl (fun j b p h1 h2=>?_) _ (I.hok.fresh (nL _))⟩;obtain⟨b',Z,hH⟩:=hk j p h2;rw[h1]at Z;cases Z;exact hH
end
end L2
namespace HT
open PySem PySem.Spec PyProof.Rows
end HT
namespace L2
open PySem PySem.Spec PyProof.Rows
section
variable{X:Cx}{a:Jc}{fa:Fg}{p pos:Pos}{sc:Jd}
theorem mz{P:qc9}{w:Ja}:∀{J6:List (Key×V)}{vs:List (Key×Value)}{es:List zj1},KV J6 vs->Pairs (bY P w) es vs->Vals (J6.map fun p=>kV p.1) (es.map (·.key))
 |[],_,_,.nil,.nil=>.nil
 |_::_,_,_,.cons r t,.cons h _ m=>.cons (by dsimp only;rw[r.1];exact yy h) (mz t m)
theorem qz(hc:X.calm=true):dh X (.type "list") (fun xs H Q=>∃a J6,xs=[.ref a]/\Rd H a (.dK J6)/\∀l,H l=none->Q (.ref l) (upd H l (.lst (J6.map fun p=>kV p.1)))):=by
 intro J1 s σ H xs us Q I r h;obtain⟨a,J6,rfl,hq,q⟩:=h;obtain⟨u,rfl,rx⟩:=gp r;cases rx;obtain⟨z,y,vs,Z,ob,es,ep,e1,e2,e3,e4,e5,e6⟩:=Ag I hq;have en:EntA s.heap a (es.toList.map (·.key)) ep:=⟨ob,es,e1,e2,e3,rfl⟩;have kv:=mz Z e5;have hz:(es.toList.map (·.key)).length<=qb4:=by rw[<- kv.length,qa1];exact z
 refine PySem.W.kdl_call (rR y) (I.ok.hd hc) en hz fun h' tk J5 c kp hD O=>?_
 have Y:J5.toList=es.toList.map (·.key):=by
  apply qu2;intro j;cases hj:J5.toList[j]? with
  |none=>have h1:=qh4.mp hj;rw[qe3,O.1]at h1;rw[qh4.mpr h1]
  |some v=>exact(O.2 j v (by rw[<- qp5];exact hj)).symm
 exact⟨.ref s.heap.objs.size,_,I.laid (t':=tk) kp (nL _) (show ObjOk X.prog X.w _ h' _ (.lst (J6.map fun p=>kV p.1))from⟨by rw[qa1];exact z,J5.toList,c,by rw[Y];exact kv,by rw[Array.toArray_toList];exact hD⟩),rfl,q _ (I.hok.fresh (nL _))⟩
end
def t5(K:xA9):Bool:=K.all fun p=>match p.2.data with
 |.seq J8 _=>(match J8.toList with
  |[.int _ _,.str _ _]=>false
  |_=>true)
 |_=>true
variable{a:J9}
theorem o9{o:Obj}:∀{K:List (J9×Obj)},K.lookup a=some o->(a,o)∈K
 |[],h=>by cases h
 |(b,u)::K,h=>by
  rw[qg0]at h;cases q:a==b with
  |true=>rw[q]at h;cases h;rw[beq_iff_eq.mp q];exact .head _
  |false=>rw[q]at h;exact .tail _ (o9 h)
variable{K:xA9}{H:Hp}
theorem wl{n:Int}{s:Str}(Z:t5 K=true)(h:SqT K H a [.int n,.str s]):H a=some (.tup ([qy3 n,qu8 s].map kV)):=by
 rcases h with h|⟨o,J8,m,hk,hc,Y,hz,r⟩
 .exact h
 .have q:=qj7.mp Z (a,o) (o9 hk);dsimp only at q;rw[Y]at q;dsimp only at q;generalize J8.toList=w at q r;cases r with
  |cons r1 t=>
   cases t with
   |cons r2 O=>cases O;obtain⟨t1,rfl⟩:=r1;obtain⟨O,rfl⟩:=r2;cases q
section
variable{X:Cx}{a b:Jc}{ta:TA}{p1 p2 pos1 pos2:Pos}{sc:Jd}{fs:De->Option (List Dt)}
end
section
variable{X:Cx}{J1:List (J9×Obj)}{s:qa4}{σ:St}{H:Hp}
end
theorem TabsIn.two{h:Heap}{c P c' P':J9}{qs qs':List ((Nat×Nat)×Str)}(kb:K.In h)(e:dA K=[(P,qs),(P',qs')])(hne:P≠P')(n:K.lookup P=none)(n':K.lookup P'=none)(hc:xJ9 K c P=true)(hc':xJ9 K c' P'=true)(t:h.get? P=some (xK9 #[]))(t':h.get? P'=some (xK9 #[])):TabsIn K h:=by
 unfold TabsIn;rw[e];refine⟨fun p hp=>?_,fun p hp q hq z=>?_⟩
 .rcases qb0.mp hp with rfl|hp
  .exact⟨n,⟨c,xS9 kb hc⟩,t⟩
  .cases qb6.mp hp;exact⟨n',⟨c',xS9 kb hc'⟩,t'⟩
 .rcases qb0.mp hp with rfl|hp<;>rcases qb0.mp hq with rfl|hq
  .rfl
  .cases qb6.mp hq;exact absurd z hne
  .cases qb6.mp hp;exact absurd z.symm hne
  .cases qb6.mp hp;cases qb6.mp hq;rfl
def isK:Dt->Option (List Key)
 |.tup [.int n,.str s]=>some [.inl n,.inr s]
 |_=>none
theorem wm{F:Hp}{d:Dt}{v:V}{ks:List Key}(q:t5 K=true)(h:isK d=some ks)(r:RepB K F H d v):∃b,v=.ref b/\F b=some (.tup (ks.map kV)):=by
 unfold isK at h;split at h<;>cases h
 obtain⟨a,vs,rfl,h1,h2⟩:=r;unfold Reps at h2;obtain⟨O,w1,rfl,q1,h2⟩:=h2;unfold Reps at h2;obtain⟨Z,Y,rfl,q2,h2⟩:=h2;unfold Reps at h2;subst h2;simp only[Rep]at q1 q2;subst q1 q2;exact⟨a,rfl,wl q h1⟩
section
variable{X:Cx}{o a b e ox ik:Jc}{fa fb fk fe:De->Option Dt}{pos apos cpos p1 p2 pos1 pos2:Pos}{sc:Jd}{i j m:Nat}{K:xA9}
def nz:De->Option T:=fun _=>some (.dcT [])
theorem wn:DO X (.Dict [] [] pos) nz:=PE.mono uV fun σ H Q ⟨Φ,δ,F,t,Y,q,O,k⟩=>by
 cases O;intro p hp;refine k _ _ F (fun b=>b=p) (Step.made q.fh hp) ⟨p,[],rfl,rfl,bn,rfl,by simp[Reps]⟩ fun b z=>?_
 subst z;exact⟨q.fh.free hp,hp,_,bn,nofun⟩
def gIxT:Dt->Dt->Option T
 |.dcT ks l,k=>(isK k).bind fun k=>(db ks l k).map .leaf
 |_,_=>none
def wo(fa fb:De->Option Dt):De->Option Bool:=fun δ=>(fa δ).bind fun x=>(fb δ).bind fun y=>match y with
 |.dcT ks l=>(isK x).map fun k=>!(db ks l k).isSome
 |_=>none
theorem B3(hI:t5 X.K=true)(hr:Room m X.A)(ha:DB X a fa)(Y:DB X b fb)(hm:qh5 .NotIn b=false:=by with_unfolding_all rfl):DT X (.Compare a [.NotIn] [b] pos) (wo fa fb):=
 PT.mono (mP (lT (kw hr) ha Y) hm) fun σ H Q ⟨Φ,δ,F,t,hK,en,q,k⟩=>by
  obtain⟨x,hx,q⟩:=bS q;obtain⟨y,hy,q⟩:=bS q;split at q<;>first|(cases q;done)|skip
  obtain⟨kk,hk,rfl⟩:=mS q;refine⟨Φ,δ,F,x,hK,en,hx,fun v H1 F1 st rv=>⟨Φ,δ,F1,_,hK,en.step st,hy,fun v2 H2 F2 O Z=>?_⟩⟩;obtain⟨ad,J6,rfl,h1,rfl,h3⟩:=Z;obtain⟨b,rfl,Y⟩:=wm hI hk rv;refine⟨ad,_,rfl,.inr ⟨J6,kk,b,h1,rfl,O.fh _ _ (O.ff _ _ Y),rfl⟩,_,rfl,?_⟩;rw[<- j4 h3];exact k H2 F2 (st.trans O)
noncomputable def k7(i:Nat)(fk fe:De->Option Dt):De->Option Out:=fun δ=>(fe δ).bind fun d=>(fk δ).bind fun k=>match δ[i]? with
 |some (some (.dcT l))=>(isK k).bind fun k=>if l.length<qb4/\(l.map (·.1)).Nodup then some (.nx (δ.set i (some (.dcT (iq l k d)))))else none
 |_=>none
theorem rY (hI:t5 X.K=true) (hr:Room m X.A) (hx:PE X ox (iC i)) (hk:DB X ik fk) (he:DL X e fe)
  (hs:qn0 e (some (.Subscript ox ik apos)) pos.line X.env=pure false:=by rfl):DS1 X (.Assign [.Subscript ox ik apos] e pos) (k7 i fk fe):=
 PS.mono (rk (kw hr) hx hk he hs) fun D σ H ⟨Φ,δ,F,ot,hK,en,q,k⟩=>by
  obtain⟨d,hd,q⟩:=bS q;obtain⟨kd,hkd,q⟩:=bS q;split at q<;>first|(cases q;done)|skip
  rename_i l hl;obtain⟨kk,hkk,q⟩:=bS q;split at q<;>first|(cases q;done)|skip
  rename_i hc;cases q;refine⟨Φ,δ,F,d,hK,en,hd,fun v H1 F1 st rv=>?_⟩;have Y:=en.step st;obtain⟨w0,hv⟩:=Y.has i _ hl;obtain⟨S,s⟩:=Y.sep;obtain⟨a,J6,rfl,_,h1,h2,h3⟩:=s.own i _ w0 (cD hl hv);refine⟨.ref a,hv,Φ,δ,F1,kd,hK,Y,hkd,fun w H2 F2 O rw'=>?_⟩;have en2:=Y.step O;obtain⟨b,rfl,hb⟩:=wm hI hkk rw';have Z:J6.length=l.length:=by simpa using congrArg qo1 h2
  refine⟨a,_,rfl,.inr ⟨J6,kk,b,O.hh _ _ h1,rfl,O.fh _ _ hb,by rw[Z];exact hc.1,rfl⟩,?_⟩;obtain⟨p1,p2⟩:=rJ kk v J6 l d (by rw[h2];exact hc.2) h2;exact k σ F2 _ (en2.poke hl hv rfl fun S sa=>⟨a,_,rfl,sa,bn,p1,p2 _ _ (hK▸rv.same O.ff) (h3.same O.ff)⟩)
def ir:List Dt->Option T
 |[.dcT ks _]=>some (.lst (ks.map k5))
 |[.dct ks _]=>some (.lst (ks.map rL))
 |_=>none
noncomputable abbrev wq:List V->Hp->VK->Prop:=fun xs H Q=>(∃a J6,xs=[.ref a]/\Rd H a (.dT J6)/\∀bs:List J9,bs.length=J6.length->(∀(j:Nat)(b:J9)(p:List Key×V),bs[j]?=some b->J6[j]?=some p->H b=some (.tup (p.1.map kV)))->∀l,H l=none->Q (.ref l) (upd H l (.lst (bs.map V.ref))))∨∃a J6,xs=[.ref a]/\Rd H a (.dK J6)/\∀l,H l=none->Q (.ref l) (upd H l (.lst (J6.map fun p=>kV p.1)))
theorem k8(q:X.calm=true):dh X (.type "list") wq:=fun J1 s σ H xs us Q I r h=>h.elim (qy q J1 s σ H xs us Q I r) (qz q J1 s σ H xs us Q I r)
theorem rZ{F:Hp}:∀{O:List (List Key)}{bs:List J9},bs.length=O.length->(∀(j:Nat)(b:J9)(k:List Key),bs[j]?=some b->O[j]?=some k->F b=some (.tup (k.map kV)))->Reps K F (O.map k5) (bs.map V.ref)
 |[],[],_,_=>by simp[Reps]
 |[],_::_,h,_=>by cases h
 |_::_,[],h,_=>by cases h
 |k::O,b::bs,h,q=>by simp only[qa5,Reps];exact⟨_,_,rfl,wj (q 0 b k rfl rfl),rZ (by simpa using h) fun j b k h1 h2=>q (j+1) b k (by simpa using h1) (by simpa using h2)⟩
theorem r0:CRD K wq ir:=fun F H ds vs Q t fh r hg k=>by
 unfold ir at hg;split at hg<;>cases hg
 .obtain⟨v,rfl,a,J6,rfl,h1,rfl,h3⟩:=dO r;refine .inl ⟨a,J6,rfl,h1,fun bs hl hb l Z=>?_⟩
  have hb':∀(j:Nat)(b:J9)(k:List Key),bs[j]?=some b->(J6.map (·.1))[j]?=some k->H b=some (.tup (k.map kV)):=fun j b k h1 h2=>by rw[qb1]at h2;obtain⟨p,hp,rfl⟩:=mS h2;exact hb j b p h1 hp
  have hin:∀b∈bs,∃vs,H b=some (.tup vs):=fun b hm=>by
   obtain⟨j,hj⟩:=qm8 hm;have hlt:j<J6.length:=by rw[<- hl];exact(gX hj).1
   exact⟨_,hb j b _ hj (gQ hlt)⟩
  let F':Hp:=fun b=>if b∈bs then H b else F b
  have O:∀{b:J9},b∈bs->F' b=H b:=fun h=>if_pos h
  have q:∀{b:J9},b∉bs->F' b=F b:=fun h=>if_neg h
  have ff:Same F F':=fun b o e=>by
   by_cases h:b∈bs
   .rw[O h];exact fh _ _ e
   .rw[q h];exact e
  have Y:Same F' H:=fun b o e=>by
   by_cases h:b∈bs
   .rw[O h]at e;exact e
   .rw[q h]at e;exact fh _ _ e
  have st:Step F H F' H:=⟨Same.refl _,ff,Y,fun b o e=>by
   by_cases h:b∈bs
   .exact .inr (.inr (hin b h))
   .rw[q h]at e;exact .inl e⟩
  exact eI (k.step st) Y (rZ (by simpa using hl) fun j b k h1 h2=>by rw[O (qd3 h1)];exact hb' j b k h1 h2) Z
 .obtain⟨v,rfl,a,J6,rfl,h1,rfl,h3⟩:=dO r;refine .inr ⟨a,J6,rfl,h1,fun l Z=>eI k fh ?_ Z⟩;rw[show(J6.map fun p=>kV p.1)=(J6.map (·.1)).map kV by rw[qc3];rfl];exact jx _
def vLR(fa:De->Option Dt):De->Option T:=fun δ=>(fa δ).bind fun d=>match d with
 |.lst l=>some (.lst l.reverse)
 |_=>none
theorem Reps.rev{F:Hp}:∀{l:List Dt}{vs:List V},Reps K F l vs->Reps K F l.reverse vs.reverse
 |[],_,h=>by simp only[Reps]at h;subst h;simp[Reps]
 |d::l,_,h=>by simp only[Reps]at h;obtain⟨v,q,rfl,h1,h2⟩:=h;rw[qq4,qq4];exact(Reps.rev h2).append (Reps.one h1)
theorem qA (h1:aC sc "list"=true) (h2:aC sc "reversed"=true) (hm1:X.mg "list"=none) (Z:X.mg "reversed"=none) (hc:X.calm=true) (ha:DB X a fa) (e1:cH X sc:=by rfl) (he:qa9 [a] X.env=(false,eval a X.env)::qa9 [] X.env:=by rfl) (hs:qa9 [a] X.env=[(false,eval a X.env)]:=by rfl)
  (Y:qa9 [.Call (.Name "reversed" p2) [a] [] pos2] X.env=[(false,eval (.Call (.Name "reversed" p2) [a] [] pos2) X.env)]:=by rfl) :
  DO X (.Call (.Name "list" p1) [.Call (.Name "reversed" p2) [a] [] pos2] [] pos1) (vLR fa):=
 PE.mono (qx h1 h2 hm1 Z hc (dB ha gq he) e1 hs Y) fun σ H Q ⟨Φ,δ,F,t,hK,en,O,k⟩=>by
  obtain⟨d,hd,O⟩:=bS O;split at O<;>cases O
  refine⟨Φ,δ,F,_,hK,en,hd,fun v H1 F1 st rv=>?_⟩;obtain⟨a,vs,rfl,g1,g2⟩:=rv;exact⟨a,vs,rfl,g1,fun q hq=>eI (k.step st) st.fh (g2.rev) hq⟩
end
noncomputable def AtF(K:xA9)(x:Str)(st:Jb):Prop:=∃(f:J9)(oc:Value)(od an:Option J9)(sl:Array (Option Value))(kV dc pm q ct:Value),xB9 K qc0 x=some (some (.ref f))/\K.lookup f=some ⟨oc,od,.func (xC9 x x (cB st) (bh st) (aa st) .none kV dc pm an q ct),sl⟩/\xH9 K q x=true/\xF9 K (.ref f)=true
noncomputable def AtC(K:xA9)(x:Str)(st:Jb)(c P:J9):Prop:=∃(f:J9)(oc:Value)(od an:Option J9)(sl:Array (Option Value))(kV dc pm ct O:Value)(xd:Option J9)(q:Array Value)(xs:Array (Option Value)),
 xB9 K qc0 x=some (some (.ref f))/\K.lookup f=some ⟨oc,od,.func (xC9 x x (cB st) (bh st) (aa st) .none kV dc pm an (.ref c) ct),sl⟩/\xH9 K (.ref c) x=true/\xF9 K (.ref f)=true∧
 K.lookup c=some ⟨O,xd,.fields q,xs⟩/\q[11]?=some (.ref P)
variable{f:J9}{oc dc pm:Value}{od an:Option J9}
section
variable{K:xA9}{mg:Str->Option Value}{h:Heap}{x:Str}{st:Jb}{ps:List Str}{c P:J9}
theorem AtF.mk{sl:Array (Option Value)}{kV q ct:Value}(a:xB9 K qc0 x=some (some (.ref f)))(l:K.lookup f=some ⟨oc,od,.func (xC9 x x (cB st) (bh st) (aa st) .none kV dc pm an q ct),sl⟩)(c:xH9 K q x=true)(k:xF9 K (.ref f)=true):AtF K x st:=⟨f,oc,od,an,sl,kV,dc,pm,q,ct,a,l,c,k⟩
theorem AtC.mk{sl:Array (Option Value)}{kV ct O:Value}{xd:Option J9}{q:Array Value}{xs:Array (Option Value)}(a:xB9 K qc0 x=some (some (.ref f)))(l:K.lookup f=some ⟨oc,od,.func (xC9 x x (cB st) (bh st) (aa st) .none kV dc pm an (.ref c) ct),sl⟩)(Z:xH9 K (.ref c) x=true)(k:xF9 K (.ref f)=true)(cl:K.lookup c=some ⟨O,xd,.fields q,xs⟩)(Y:q[11]?=some (.ref P)):AtC K x st c P:=⟨f,oc,od,an,sl,kV,dc,pm,ct,O,xd,q,xs,a,l,Z,k,cl,Y⟩
theorem AtF.df(A:AtF K x st)(X:K.In h)(G:h.Ns qc0 mg)(q:∀(kV doc pm:Value)(an:Option J9)(cdv ct:Value)(us:List Value),us.length=ps.length->zg6 (xC9 x x (cB st) (bh st) (aa st) .none kV doc pm an cdv ct) ⟨us,[]⟩=pure (ps.zip us)):DefF K mg x st ps:=by obtain⟨f,oc,od,an,sl,kV,dc,pm,O,ct,a,l,c,k⟩:=A;exact DefF.mk' X G a l c k q
theorem AtC.df(A:AtC K x st c P)(X:K.In h)(G:h.Ns qc0 mg)(q:∀(kV doc pm:Value)(an:Option J9)(cdv ct:Value)(us:List Value),us.length=ps.length->zg6 (xC9 x x (cB st) (bh st) (aa st) .none kV doc pm an cdv ct) ⟨us,[]⟩=pure (ps.zip us)):DefC K mg x st ps c:=by obtain⟨f,oc,od,an,sl,kV,dc,pm,ct,Y,xd,O,xs,a,l,c,k,_⟩:=A;exact DefC.mk' X G a l c k q
end
section
variable{X:Cx}{e:Jc}{es:List Jc}{x:Str}{p pos:Pos}{fs:De->Option (List Dt)}{i:Nat}
theorem pvX(h:cS X.env.scope X.N i x=true):PE X (.Name x pos) (iC i):=pvD i h rfl rfl
end
end L2
namespace HT
open PySem PySem.Spec PyProof.Rows
end HT
namespace L2
open PySem PySem.Spec PyProof.Rows
section
variable{X:Cx}
def gSlW:Dt->Option Int->Option Int->Option T
 |.tup l,lo,hi=>if HT.sIx l.length 0 lo=0/\HT.sIx l.length l.length hi=l.length then some (.leaf (.tup l))else some (.leaf (.tup (qc l lo hi)))
 |x,lo,hi=>gSl x lo hi
def wt(K:xA9):R2:=fun x y H Q=>∃a b z xs,x=.ref a/\y=.ref b/\SqT K H a (z::xs)/\SqT K H b []/\Q (.ref a) H
theorem yJ:OpR X (qm7 .Add) (wt X.K):=by
 intro J1 s σ H x y v u Q I rx ry h;obtain⟨a,b,z,xs,rfl,rfl,ha,hb,q⟩:=h;cases rx;cases ry;obtain⟨J8,r1,p1,_⟩:=I.tuple ha;obtain⟨its2,r2,p2,_⟩:=I.tuple hb;cases r2;obtain⟨⟨cls,dd,data,sl⟩,ho,hc,n,hd⟩:=id p1;obtain⟨⟨cls2,dd2,data2,sl2⟩,Z,O,n2,Y⟩:=id p2;simp only at hc hd O Y;subst hc hd O Y
 exact qy0 ⟨_,ho,rfl⟩ ⟨_,Z,rfl⟩ qv1 za3 PySem.F.slot_tuple_add PySem.F.entry_tuple_add (PySem.F.args_tuple_add_2 _ _)
  (tuple_addW1 a b J8.toArray #[] n n2 dd dd2 sl sl2 (by cases r1;simp) rfl) ⟨ho,Z,⟨.ref a,H,I,rfl,q⟩⟩
def mB:Dt->Dt->Option T
 |.tup (d::l),.tup []=>some (.leaf (.tup (d::l)))
 |x,y=>vC x y
theorem r6:OpR X (qm7 .Add) (fun x y H Q=>(oQ X.K x y H Q∨l8 X.K x y H Q)∨wt X.K x y H Q):=OpR.or yx yJ
theorem wu{K:xA9}:R2D K (fun x y H Q=>(oQ K x y H Q∨l8 K x y H Q)∨wt K x y H Q) mB:=by
 intro F H x y vx vy Q t Y rx ry O k;unfold mB at O;split at O
 .rename_i d l;cases O;obtain⟨a,vs,rfl,h1,h2⟩:=rx;obtain⟨b,ws,rfl,h3,Z⟩:=ry;simp only[Reps]at Z;subst Z;have q:=h2;simp only[Reps]at q;obtain⟨v,us,rfl,_,_⟩:=q;refine .inr ⟨a,b,v,us,rfl,rfl,Y.tup h1,Y.tup h3,k.leaf.here Y ?_⟩;simp only[Rep];exact⟨a,_,rfl,h1,h2⟩
 .exact .inl (BV F H _ _ vx vy Q t Y rx ry O k)
end
abbrev Hk3:=Str×Int×Bool
def h3(k:Hk3):Dt:=.tup [.str k.1,.int k.2.1,.bl k.2.2]
section
variable{X:Cx}{J1:List (J9×Obj)}{s:qa4}{σ:St}{H:Hp}
end
section
variable{X:Cx}
end
section
variable{P:qc9}{u:Ja}{A:qe0}{R:Result->qa4->Prop}{I:J9}{fp wr:List J9}{n:Nat}{Pv:Nat->Value->Prop}{St:Nat->Heap->Prop}
end
section
variable{P:qc9}{u:Ja}{A:qe0}{E:Value->qa4->Prop}{s:qa4}{l:J9}{xs:Array (Int×Tok)}{d:Value}
end
section
variable{X:Cx}{e:Jc}{pos p kp kq:Pos}{sc:Jd}{fs:De->Option (List Dt)}{d:Int}{t:TA}{i:Nat}
end
open PySem
section
variable{K:Type}[DecidableEq K]
end
section
variable{X:Cx}{K:Type}[DecidableEq K][Inhabited K]{κ:SK X.prog X.w K}
end
section
variable{X:Cx}{e:Jc}{pos pos2 p p2:Pos}{sc:Jd}{fs:De->Option (List Dt)}
end
section
variable{X:Cx}{e o:Jc}{es:List Jc}{fo:De->Option Dt}{fs:De->Option (List Dt)}{apos cpos pos:Pos}
end
section
variable{X:Cx}
end
seal L2.PE L2.PS L2.PSs L2.PT L2.PW L2.PA L2.PI L2.PG L2.PTs L2.PO L2.PGs L2.dh L2.OpR L2.IxR L2.SlR L2.MtR L2.UnR L2.DO L2.DL L2.DB L2.DT L2.DW L2.DS L2.DS1 L2.R2D L2.CRD L2.MRD L2.DG L2.DGs L2.DIF L2.DIB L2.DTs L2.DP
theorem el1{α:Type}{p:List α->Prop}(h:∀a,p [a]):∀us:List α,us.length=1->p us
 |[a],_=>h a
theorem el2{α:Type}{p:List α->Prop}(h:∀a b,p [a,b]):∀us:List α,us.length=2->p us
 |[a,b],_=>h a b
theorem el3{α:Type}{p:List α->Prop}(h:∀a b c,p [a,b,c]):∀us:List α,us.length=3->p us
 |[a,b,c],_=>h a b c
theorem el4{α:Type}{p:List α->Prop}(h:∀a b c d,p [a,b,c,d]):∀us:List α,us.length=4->p us
 |[a,b,c,d],_=>h a b c d
theorem el5{α:Type}{p:List α->Prop}(h:∀a b c d e,p [a,b,c,d,e]):∀us:List α,us.length=5->p us
 |[a,b,c,d,e],_=>h a b c d e
end L2
namespace P44
open PySem L2
def top(i:Nat):Jb:=PySem.Challenge.pw_dimhouse_k44_all_places_hold.main.body.getD i (.Pass ⟨0,0,0,0⟩)
noncomputable section
def k_A:List Key:=[.inr "copy",.inr "op",.inr "store",.inr "take",.inr "lay",.inr "say",.inr "if",.inr "end"]
noncomputable def fD:List Dt:=[(.tup [(.int 2),(.int 3)]),(.tup [(.int 3),(.int 5)]),(.tup [(.int 2),(.int 3)]),(.tup [(.int 3),(.int 4)]),(.tup [(.int 2),(.int 4)]),(.tup [(.int 1),(.int 2)]),(.tup [(.int 1),(.int 2)]),(.tup [(.int 1),(.int 2)])]
def eO:Dt:=(.str "fresh")
def nA:Dt:=(.str "safe")
def k9:Dt:=(.str "seen")
def mC:Dt:=(.tup [(.str "copy"),(.str "op"),(.str "load"),(.str "take"),(.str "hear")])
def i4:Dt:=(.str "spoilt")
def y1:List Dt->Option T:=cj 2 ((aw (sIf (tB2 (kJ fun i j=>decide (i<j)) (vB 1) (toD (ao cL (ae (vB 0) al)))) (bB (d2 aq (vB 0) (vB 1))) bJ) (bB (toT (kD (.int 0))))))
def z69:De->Option Dt:=(toD (bW (ae (toD (d2 aq (vB 1) (vB 0))) (ae (toD (ao fY (ae (toD (d2 aq (vB 2) (toD (d2 cq (vB 0) (kD (.int 1)))))) al))) al))))
def z20:List Dt->Option T:=cj 2 ((bB (bW (ae (toD (ao fY (ae (toD (d2 aq (vB 1) (kD (.int 0)))) al))) (ae (toD (ao fY (ae (toD (br [none,some 0,some 1] (dq fB (ae (toD (ao cL (ae (vB 0) al))) al)) (ap 0) cg z69)) al))) al)))))
noncomputable def y21:List Dt->Option T:=cj 2 ((aw (sIf (tB2 (gEq false) (toD (d2 aq (toD (d2 aq (vB 0) (vB 1))) (kD (.int 0)))) (kD (.str "end"))) (bB (bX al)) bJ)
  (aw (sIf (tB2 (gEq false) (toD (d2 aq (toD (d2 aq (vB 0) (vB 1))) (kD (.int 0)))) (kD (.str "go"))) (bB (bX (ae (toD (d2 aq (toD (d2 aq (vB 0) (vB 1))) (kD (.int 1)))) al))) bJ)
  (aw (sIf (tB2 (gEq false) (toD (d2 aq (toD (d2 aq (vB 0) (vB 1))) (kD (.int 0)))) (kD (.str "if"))) (bB (bX (ae (toD (d2 aq (toD (d2 aq (vB 0) (vB 1))) (kD (.int 2)))) (ae (toD (d2 cq (vB 1) (kD (.int 1)))) al)))) bJ)
  (bB (bX (ae (toD (d2 cq (vB 1) (kD (.int 1)))) al)))))))
def q82:De->Option Bool:=(dL (toD (fK "str" (vB 0))))
noncomputable def z17:List Dt->Option T:=cj 2 ((aw (aF 1 (toT (toD (bX al))))
  (aw (sIf (tB2 (bU false) (toD (d2 aq (vB 0) (kD (.int 0)))) (toD (bW (ae (kD (.str "copy")) (ae (kD (.str "store")) al))))) (aF 1 (toT (toD (bX (ae (toD (d2 aq (vB 0) (kD (.int 2)))) al))))) bJ)
  (aw (sIf (tB2 (gEq false) (toD (d2 aq (vB 0) (kD (.int 0)))) (kD (.str "op"))) (aF 1 (toT (toD (bX (ae (toD (d2 aq (vB 0) (kD (.int 3)))) (ae (toD (d2 aq (vB 0) (kD (.int 4)))) al)))))) bJ)
  (aw (sIf (tB2 (gEq false) (toD (d2 aq (vB 0) (kD (.int 0)))) (kD (.str "take"))) (aF 1 (toT (toD (bX (ae (toD (d2 aq (vB 0) (kD (.int 3)))) al))))) bJ)
  (aw (sIf (tB2 (gEq false) (toD (d2 aq (vB 0) (kD (.int 0)))) (kD (.str "lay"))) (aF 1 (toT (toD (bX (ae (toD (d2 aq (vB 0) (kD (.int 2)))) (ae (toD (d2 aq (vB 0) (kD (.int 3)))) al)))))) bJ)
  (aw (sIf (tB2 (bU false) (toD (d2 aq (vB 0) (kD (.int 0)))) (toD (bW (ae (kD (.str "say")) (ae (kD (.str "if")) (ae (kD (.str "end")) al)))))) (aF 1 (toT (toD (bX (ae (toD (d2 aq (vB 0) (kD (.int 1)))) al))))) bJ)
  (bB (br [none] (fIt (vB 1)) (ap 0) q82 (vL 0))))))))))
noncomputable def y30:List Dt->Option T:=cj 1 ((aw (sIf (tB2 (bU false) (toD (d2 aq (vB 0) (kD (.int 0)))) (toD (bW (ae (kD (.str "copy")) (ae (kD (.str "op")) (ae (kD (.str "load")) (ae (kD (.str "take")) (ae (kD (.str "hear")) al)))))))) (bB (d2 aq (vB 0) (kD (.int 1)))) bJ) (bB (toT (kD .non)))))
def y81:List Dt->Option T:=cj 1 ((bB (tp (toD (fK "int" (vB 0))) (BL (toD (fK "bool" (vB 0)))))))
def q50:De->Option Dt:=(toD (ao y81 (ae (vL 0) al)))
def q28:De->Option Bool:=(tB2 (gEq false) (vB 0) (toD (d2 aq (vB 2) (kD (.int 0)))))
def y36:De->Option Bool:=(tB2 (gEq false) (toD (d2 aq (vB 1) (kD (.int 0)))) (kD (.int 0)))
noncomputable def y27:De->Option Out:=(sIf (fOr (tB2 (bU true) (toD (d2 aq (vB 4) (toD (d2 cq (vB 7) (kD (.int 1)))))) (toD (ao y21 (ae (vL 0) (ae (toD (d2 aq (vB 4) (vB 7))) al))))) (tB2 (gEq false) (toD (ao y30 (ae (toD (d2 aq (vB 0) (toD (d2 aq (vB 4) (vB 7))))) al))) (vB 3))) cQ bJ)
noncomputable def z25:List Dt->Option T:=cj 8 ((aw (sIf (fOr (tB2 (gEq true) (toD (ao cL (ae (vB 2) al))) (kD (.int 4))) (fOr (hZ (dL (toD (fK "str" (toD (d2 aq (vB 2) (kD (.int 1)))))))) (fOr (hZ (dL (toD (fK "list" (toD (d2 aq (vB 2) (kD (.int 2)))))))) (tB2 (gEq false) (toD (d2 aq (vB 2) (kD (.int 2)))) (toD (bX al)))))) cQ bJ)
  (aw (oB (toD (vSl (vB 2) (iR (kD (.int 1))) l9)) (fX 3 (aX (ap 3) (aX (ap 4) (aX (ap 5) eL)))))
  (aw (sIf (fOr (hZ (dL (toD (ao (oH fun bs=>bs.all id) (ae (toD (br [none] (fIt (vB 4)) (ap 0) cg q50)) al))))) (hZ (dL (toD (fK "bool" (vB 5)))))) cQ bJ)
  (aw (aF 6 (toT (toD (br [none,none,some 4] (fIt (toD (d2 aq (vB 1) (kD (.int 1))))) (fX 2 (aX (ap 0) (aX (ap 1) eL))) q28 (vL 1)))))
  (aw (sIf (dL (vB 5)) (aF 6 (toT (toD (br [none,some 4] (fIt (toD (bX (ae (toD (d2 aq (vB 1) (kD (.int 0)))) al)))) (ap 0) y36 (vL 0))))) bJ)
  (aw (sIf (fOr (tB2 (gEq false) (vB 6) (toD (bX al))) (fOr (tB2 (bU false) (vB 3) (toD (d2 aq (vB 6) (kD (.int 0))))) (tB2 (bU true) (vB 3) (toD (ao z17 (ae (toD (d2 aq (vB 0) (toD (d2 aq (vB 4) (toD (lG (kD (.int 1)))))))) al)))))) cQ bJ)
  (aw (dD (dq fB (ae (toD (d2 fu (toD (ao cL (ae (vB 4) al))) (kD (.int 1)))) al)) (ap 7) y27)
  (bB (toT (kD (.bl true))))))))))))
def q74:De->Option Bool:=(tB2 (gEq false) (toD (d2 fC (toD (d2 ei (vB 1) (toD (d2 cq (vB 0) (kD (.int 1)))))) (kD (.int 3)))) (kD (.int 0)))
def q72:De->Option Dt:=(toD (d2 aq (vB 2) (vB 0)))
noncomputable def y46:List Dt->Option T:=cj 4 ((aw (aF 3 (toT (toD (d2 cq (toD (d2 cq (vB 0) (toD (br [none,some 1,some 2] (dq fB (ae (toD (ao cL (ae (vB 2) al))) al)) (ap 0) q74 q72)))) (toD (vSl (toD (bX (ae (kD (.str "zz")) al))) l9 (iR (toD (d2 fC (vB 1) (kD (.int 2))))))))))) (bB (ao gH (ae (vB 3) al)))))
def z54:De->Option Bool:=(hZ (dL (toD (d2 aq (vB 0) (kD (.int 2))))))
def y86:De->Option Dt:=(toD (d2 aq (vB 0) (kD (.int 0))))
def z41:De->Option Bool:=(tB2 (bU false) (vB 2) (toD (ao y21 (ae (vL 1) (ae (vL 0) al)))))
noncomputable def y41:De->Option Out:=(aw (aF 5 (toT (toD (br [none,some 1,some 4] (dq qa (ae (vL 4) (ae (toD (ao cL (ae (vB 1) al))) al))) (ap 0) z41 (vL 0))))) (sIf (fOr (tB2 (gEq false) (toD (d2 aq (toD (d2 aq (vB 1) (vB 4))) (kD (.int 0)))) (kD (.str "end"))) (fOr (tB2 (gEq true) (vB 5) (toD (bX al))) (d4 (tB2 (bU false) (toD (d2 aq (toD (d2 aq (vB 1) (vB 4))) (kD (.int 0)))) (toD (bW (ae (kD (.str "store")) (ae (kD (.str "lay")) al))))) (tB2 (bU false) (toD (d2 aq (toD (d2 aq (vB 1) (vB 4))) (kD (.int 1)))) (vB 2))))) (q14 3 (vL 4)) bJ))
noncomputable def y38:List Dt->Option T:=cj 6 ((aw (aF 1 (toT (toD (d2 aq (vB 0) (kD (.int 2))))))
  (aw (aF 2 (toT (toD (br [none] (fIt (toD (d2 mB (toD (d2 aq (vB 0) (kD (.int 0)))) (toD (d2 aq (vB 0) (kD (.int 1))))))) (ap 0) z54 y86))))
  (aw (aF 3 (bX al))
  (aw (dD (dq fB (ae (toD (ao cL (ae (vB 1) al))) al)) (ap 4) y41)
  (gE 3))))))
noncomputable def z72:De->Option Out:=(aw (aF 3 (toT (toD (d2 fC (toD (d2 cq (toD (d2 cq (toD (d2 jo (vB 3) (vB 3))) (toD (d2 jo (kD (.int 69621)) (vB 3))))) (vB 4))) (kD (.int 2147483629))))))
  (aw (aF 3 (toT (toD (d2 fC (toD (d2 cq (toD (d2 cq (toD (d2 jo (vB 3) (kD (.int 16807)))) (toD (d2 jo (kD (.int 7919)) (vB 4))))) (vB 1))) (kD (.int 2147483587))))))
  (aF 2 (toT (toD (d2 cq (toD (d2 jo (vB 2) (kD (.int 2147483587)))) (vB 3)))))))
noncomputable def z46:List Dt->Option T:=cj 5 ((aw (aF 2 (toT (kD (.int 0))))
  (aw (aF 3 (toT (toD (d2 cq (toD (d2 cq (toD (d2 fC (vB 0) (kD (.int 2147483629)))) (toD (d2 jo (kD (.int 48271)) (vB 1))))) (kD (.int 11))))))
  (aw (dD (dq fB (ae (kD (.int 15)) al)) (ap 4) z72)
  (gE 2)))))
noncomputable def z16:List Dt->Option T:=cj 2 ((aw (sIf (tB2 (gEq false) (toD (d2 fC (toD (ao y1 (ae (vL 0) (ae (kD (.int 0)) al)))) (kD (.int 2)))) (kD (.int 0))) (bB (ao y1 (ae (vL 0) (ae (vL 1) al)))) bJ) (bB (ao z46 (ae (toD (ao y1 (ae (vL 0) (ae (vL 1) al)))) (ae (vL 1) al))))))
def y53:De->Option Out:=(aw (q14 2 (toD (d2 fC (vB 0) (vB 3)))) (aF 0 (toT (toD (d2 ei (vB 0) (vB 3))))))
def z9:List Dt->Option T:=cj 4 ((aw (aF 2 (bX al))
  (aw (dD (fIt (vL 1)) (ap 3) y53)
  (gE 2))))
def z53:De->Option Out:=(aF 0 (toT (toD (d2 ei (vB 0) (vB 14)))))
noncomputable def q53:List Dt->Option T:=cj 19 ((aw (oB (vL 1) (fX 4 (aX (ap 3) (aX (ap 4) (aX (ap 5) (aX (ap 6) eL))))))
  (aw (aF 7 (toT (toD (bX (ae (kD (.int 11)) (ae (toD (ao cL (ae (vB 3) al))) (ae (toD (ao qv (ae (kD (.int 1)) (ae (toD (ao cL (ae (vB 4) al))) al)))) (ae (toD (ao qv (ae (kD (.int 1)) (ae (toD (ao cL (ae (vB 5) al))) al)))) (ae (kD (.int 8)) (ae (vL 2) al))))))))))
  (aw (oB (toD (ao z9 (ae (vL 0) (ae (vL 7) al)))) (oR 6 (aX (ap 8) (aX (ap 9) (aX (ap 10) (aX (ap 11) (aX (ap 12) (aX (ap 13) eL))))))))
  (aw (dD (fIt (vL 7)) (ap 14) z53)
  (aw (aF 15 (toT (toD (ao z9 (ae (vL 0) (ae (toD (bX (ae (toD (d2 cq (toD (ao cL (ae (vB 3) al))) (kD (.int 1)))) (ae (toD (d2 jV (kD (.int 2)) (kD (.int 40)))) (ae (toD (d2 cq (toD (ao cL (ae (vB 3) al))) (kD (.int 1)))) (ae (toD (d2 jV (kD (.int 2)) (kD (.int 40)))) al)))))) al))))))
  (aw (aF 16 (toT (toD (d2 aq (toD (d2 cq (vB 3) (toD (bX (ae (toD (d2 aq (vB 15) (kD (.int 1)))) al))))) (toD (d2 aq (vB 15) (kD (.int 0))))))))
  (aw (aF 17 (toT (toD (d2 aq (toD (d2 cq (vB 3) (toD (bX (ae (toD (d2 aq (vB 15) (kD (.int 3)))) al))))) (toD (d2 aq (vB 15) (kD (.int 2))))))))
  (aw (sIf (d4 (tB2 (bU false) (vB 8) (toD (bW (ae (kD (.int 2)) (ae (kD (.int 3)) al))))) (tB2 (gEq true) (vB 4) (toD (bW al)))) (bB (d2 aq (toD (bX (ae (toD (bW (ae (kD (.str "load")) (ae (toD (d2 aq (vB 3) (vB 9))) (ae (toD (d2 aq (toD (d2 aq (vB 4) (vB 10))) (kD (.int 0)))) al))))) (ae (toD (bW (ae (kD (.str "store")) (ae (toD (d2 aq (toD (d2 aq (vB 4) (vB 10))) (kD (.int 0)))) (ae (vL 16) al))))) al)))) (toD (d2 fu (vB 8) (kD (.int 2)))))) bJ)
  (aw (sIf (d4 (tB2 (bU false) (vB 8) (toD (bW (ae (kD (.int 4)) (ae (kD (.int 5)) al))))) (tB2 (gEq true) (vB 5) (toD (bW al)))) (bB (d2 aq (toD (bX (ae (toD (bW (ae (kD (.str "take")) (ae (toD (d2 aq (vB 3) (vB 9))) (ae (toD (d2 aq (toD (d2 aq (vB 5) (vB 11))) (kD (.int 0)))) (ae (vL 16) al)))))) (ae (toD (bW (ae (kD (.str "lay")) (ae (toD (d2 aq (toD (d2 aq (vB 5) (vB 11))) (kD (.int 0)))) (ae (vL 16) (ae (vL 17) al)))))) al)))) (toD (d2 fu (vB 8) (kD (.int 4)))))) bJ)
  (aw (sIf (tB2 (gEq false) (vB 8) (kD (.int 1))) (bB (bW (ae (kD (.str "op")) (ae (toD (d2 aq (vB 3) (vB 9))) (ae (toD (d2 aq (kD (.str "+-*<=&|^")) (vB 12))) (ae (vL 16) (ae (vL 17) al))))))) bJ)
  (aw (aF 18 (toT (toD (bX (ae (toD (bW (ae (kD (.str "hear")) (ae (toD (d2 aq (vB 3) (vB 9))) al)))) (ae (toD (bW (ae (kD (.str "say")) (ae (vL 16) al)))) (ae (toD (bW (ae (kD (.str "if")) (ae (vL 16) (ae (vL 13) al))))) (ae (toD (bW (ae (kD (.str "go")) (ae (vL 13) al)))) (ae (toD (bW (ae (kD (.str "end")) (ae (vL 16) al)))) al)))))))))
  (aw (sIf (tB2 (kJ fun i j=>decide (j<i)) (vB 8) (kD (.int 5))) (bB (d2 aq (vB 18) (toD (d2 fu (vB 8) (kD (.int 6)))))) bJ)
  (bB (bW (ae (kD (.str "copy")) (ae (toD (d2 aq (vB 3) (vB 9))) (ae (vL 16) al))))))))))))))))))
def y45:De->Option Dt:=(toD (d2 aq (vB 1) (toD (d2 aq (vB 2) (toD (d2 cq (kD (.int 1)) (vB 0)))))))
noncomputable def q45:De->Option Out:=(aF 5 (toT (toD (d2 cq (toD (vSl (vB 5) l9 (iR (toD (lG (kD (.int 1))))))) (toD (d2 aq (vB 2) (toD (d2 fC (toD (d2 cq (toD (ma fz (vB 2) (ae (toD (d2 aq (vB 5) (toD (lG (kD (.int 1)))))) al))) (kD (.int 1)))) (kD (.int 26))))))))))
def y25:De->Option Bool:=(tB2 (bU false) (vB 5) (vB 3))
noncomputable def q44:De->Option Out:=(aw (aF 4 (toT (toD (ao z9 (ae (vL 0) (ae (toD (bX (ae (kD (.int 6)) (ae (kD (.int 26)) (ae (kD (.int 26)) (ae (kD (.int 26)) (ae (kD (.int 26)) (ae (kD (.int 26)) (ae (kD (.int 26)) al))))))))) al))))))
  (aw (aF 5 (toT (toD (ma ip (kD (.str "")) (ae (toD (br [none,some 2,some 4] (dq fB (ae (toD (d2 cq (kD (.int 1)) (toD (d2 aq (vB 4) (kD (.int 0)))))) al)) (ap 0) cg y45)) al)))))
  (aw (aF 0 (toT (toD (d2 ei (vB 0) (toD (d2 jo (kD (.int 6)) (toD (d2 jV (kD (.int 26)) (kD (.int 6))))))))))
  (aw (bz y25 q45 100000)
  (q14 3 (vL 5))))))
def q25:De->Option Bool:=(tB2 (kJ fun i j=>decide (i<j)) (toD (ao cL (ae (vB 3) al))) (vB 1))
def q29:List Dt->Option T:=cj 6 ((aw (aF 2 (toT (kD (.str "abcdefghijklmnopqrstuvwxyz"))))
  (aw (aF 3 (bX al))
  (aw (bz q25 q44 100000)
  (gE 3)))))
noncomputable def y63:De->Option Out:=(aw (q14 6 (toD (bW (ae (toD (d2 aq (vB 5) (vB 7))) (ae (toD (d2 fC (vB 1) (toD (d2 jV (kD (.int 2)) (kD (.int 40)))))) (ae (toD (d2 (gEq false) (toD (d2 fC (toD (d2 ei (vB 1) (toD (d2 jV (kD (.int 2)) (kD (.int 40)))))) (kD (.int 2)))) (kD (.int 1)))) al)))))) (aF 1 (toT (toD (d2 ei (vB 1) (toD (d2 jV (kD (.int 2)) (kD (.int 41)))))))))
noncomputable def z64:De->Option Out:=(aw (q14 8 (toD (bW (ae (toD (d2 aq (vB 5) (toD (d2 cq (kD (.int 8)) (vB 7))))) (ae (toD (d2 cq (kD (.int 1)) (toD (d2 fC (vB 1) (kD (.int 8)))))) (ae (toD (d2 (gEq false) (toD (d2 fC (toD (d2 ei (vB 1) (kD (.int 8)))) (kD (.int 2)))) (kD (.int 1)))) al)))))) (aF 1 (toT (toD (d2 ei (vB 1) (kD (.int 16)))))))
noncomputable def z21:List Dt->Option T:=cj 9 ((aw (aF 1 (toT (toD (ao z16 (ae (vL 0) (ae (kD (.int 3)) al))))))
  (aw (oB (toD (ao z9 (ae (vL 1) (ae (toD (bX (ae (kD (.int 9)) (ae (kD (.int 5)) (ae (kD (.int 12)) al))))) al)))) (oR 3 (aX (ap 2) (aX (ap 3) (aX (ap 4) eL)))))
  (aw (aF 1 (toT (toD (d2 ei (vB 1) (kD (.int 540))))))
  (aw (aF 5 (toT (toD (ao q29 (ae (toD (ao z16 (ae (vL 0) (ae (toD (d2 aq (toD (bX (ae (kD (.int 1)) (ae (kD (.int 1)) (ae (kD (.int 2)) al))))) (toD (d2 fC (toD (d2 ei (toD (ao y1 (ae (vL 0) (ae (kD (.int 0)) al)))) (kD (.int 2)))) (kD (.int 3)))))) al)))) (ae (kD (.int 12)) al))))))
  (aw (aF 6 (bX al))
  (aw (dD (dq fB (ae (vL 2) al)) (ap 7) y63)
  (aw (aF 8 (bX al))
  (aw (dD (dq fB (ae (vL 3) al)) (ap 7) z64)
  (bB (bW (ae (toD (ao q29 (ae (toD (ao z16 (ae (vL 0) (ae (kD (.int 2)) al)))) (ae (toD (d2 cq (kD (.int 1)) (vB 4))) al)))) (ae (toD (ao fY (ae (vB 6) al))) (ae (toD (ao fY (ae (vB 8) al))) (ae (vL 1) al)))))))))))))))
def z37:De->Option Dt:=(toD (ao q53 (ae (toD (ao z16 (ae (vL 1) (ae (toD (d2 cq (kD (.int 6)) (vB 0))) al)))) (ae (vL 2) (ae (vL 3) al)))))
noncomputable def y35:List Dt->Option T:=cj 9 ((aw (aF 2 (toT (toD (ao z21 (ae (vL 0) al)))))
  (aw (aF 3 (toT (toD (ao qv (ae (kD (.int 1)) (ae (toD (ao yz (ae (toD (d2 fu (toD (ao cL (ae (vB 0) al))) (kD (.int 5)))) (ae (toD (d2 cq (kD (.int 1)) (vB 1))) al)))) al))))))
  (aw (aF 4 (br [none,some 0,some 2,some 3] (dq fB (ae (toD (d2 fu (vB 3) (kD (.int 1)))) al)) (ap 0) cg z37))
  (aw (oB (toD (ao z9 (ae (toD (d2 aq (vB 2) (kD (.int 3)))) (ae (toD (bX (ae (kD (.int 2)) (ae (vL 3) (ae (toD (d2 cq (toD (ao cL (ae (toD (d2 aq (vB 2) (kD (.int 0)))) al))) (kD (.int 1)))) (ae (toD (d2 jV (kD (.int 2)) (kD (.int 40)))) al)))))) al)))) (oR 4 (aX (ap 5) (aX (ap 6) (aX (ap 7) (aX (ap 8) eL))))))
  (aw (q14 4 (toD (d2 aq (toD (bX (ae (toD (bW (ae (kD (.str "end")) (ae (toD (d2 aq (toD (d2 cq (toD (d2 aq (vB 2) (kD (.int 0)))) (toD (bX (ae (vL 8) al))))) (vB 7))) al)))) (ae (toD (bW (ae (kD (.str "go")) (ae (vL 6) al)))) al)))) (vB 5))))
  (bB (bW (ae (toD (d2 aq (vB 2) (kD (.int 1)))) (ae (toD (d2 aq (vB 2) (kD (.int 2)))) (ae (toD (ao fY (ae (vB 4) al))) al)))))))))))
def q97:De->Option Dt:=(toD (d2 aq (vB 0) (kD (.int 0))))
def y12:List Dt->Option T:=cj 1 ((bB (br [none] (fIt (toD (d2 aq (vB 0) (kD (.int 1))))) (ap 0) cg q97)))
def z39:De->Option Out:=(sIf (d4 (tB2 (gEq false) (toD (d2 aq (vB 4) (kD (.int 0)))) (kD (.str "end"))) (tB2 (bU true) (vB 3) (vB 2))) cQ bJ)
def y40:List Dt->Option T:=cj 5 ((aw (aF 2 (toT (toD (ao y12 (ae (vL 1) al)))))
  (aw (dD (dq mh (ae (toD (d2 aq (vB 0) (kD (.int 2)))) al)) (fX 2 (aX (ap 3) (aX (ap 4) eL))) z39)
  (bB (toT (kD .non))))))
def z52:List Dt->Option T:=cj 1 ((bB (vIf (tB2 (bU false) (toD (d2 aq (vB 0) (kD (.int 0)))) (kD mC)) (d2 aq (vB 0) (kD (.int 1))) (toT (kD .non)))))
noncomputable def yK:List Dt->Option T:=cj 2 ((aw (sIf (fSi true k_A fD (toD (d2 aq (vB 0) (kD (.int 0))))) (bB (bW al)) bJ)
  (aw (aF 1 (toT (toD (vSg k_A fD (toD (d2 aq (vB 0) (kD (.int 0))))))))
  (bB (vSl (vB 0) (iR (toD (d2 aq (vB 1) (kD (.int 0))))) (iR (toD (d2 aq (vB 1) (kD (.int 1))))))))))
def q86:De->Option Out:=(sIf (d4 (dL (toD (fK "str" (vB 2)))) (tB2 (bU true) (vB 2) (vB 1))) (q14 1 (vL 2)) bJ)
def z51:List Dt->Option T:=cj 3 ((aw (aF 1 (bX al))
  (aw (dD (fIt (toD (ao yK (ae (vL 0) al)))) (ap 2) q86)
  (gE 1))))
def y50:De->Option Bool:=(tB2 (gEq true) (vB 0) (toD (ao z52 (ae (vL 1) al))))
def y49:De->Option Out:=(q80 2 (br [none,some 0] (fIt (vB 3)) (ap 0) y50 (vL 0)))
def q20:List Dt->Option T:=cj 4 ((aw (aF 2 (ao z51 (ae (vL 0) al)))
  (aw (dD (fIt (vL 1)) (ap 3) y49)
  (bB (ao gH (ae (vB 2) al))))))
noncomputable def y85:List Dt->Option T:=cj 2 ((aw (sIf (tB2 (gEq false) (toD (d2 aq (vB 1) (kD (.int 0)))) (kD (.str "go"))) (bB (bW (ae (toD (d2 aq (vB 1) (kD (.int 1)))) al))) bJ)
  (aw (sIf (tB2 (gEq false) (toD (d2 aq (vB 1) (kD (.int 0)))) (kD (.str "if"))) (bB (bW (ae (toD (d2 aq (vB 1) (kD (.int 2)))) (ae (toD (d2 cq (vB 0) (kD (.int 1)))) al)))) bJ)
  (aw (sIf (tB2 (gEq false) (toD (d2 aq (vB 1) (kD (.int 0)))) (kD (.str "end"))) (bB (bW al)) bJ)
  (bB (bW (ae (toD (d2 cq (vB 0) (kD (.int 1)))) al)))))))
def q130:De->Option Dt:=(toD (ao y85 (ae (vL 0) (ae (vL 1) al))))
def dg:List Dt->Option T:=cj 1 ((bB (br [none,none] (dq mh (ae (toD (d2 aq (vB 0) (kD (.int 2)))) al)) (fX 2 (aX (ap 0) (aX (ap 1) eL))) cg q130)))
def q32:De->Option Dt:=(toD (bX al))
def z77:De->Option Dt:=(toD (d2 aq (vB 1) (vB 0)))
noncomputable def y77:De->Option Out:=(aw (aF 6 (toT (toD (ao q20 (ae (toD (d2 aq (vB 1) (vB 5))) (ae (toD (br [none,some 3] (fIt (toD (d2 aq (vB 2) (vB 5)))) (ap 0) cg z77)) al))))))
  (sIf (tB2 (gEq true) (vB 6) (toD (d2 aq (vB 3) (vB 5)))) (aw (lH 3 (vB 5) (vL 6))
  (aF 4 (toT (kD (.bl true))))) bJ))
def y76:De->Option Out:=(aw (aF 4 (toT (kD (.bl false)))) (dD (dq tN (ae (toD (d2 fu (toD (ao cL (ae (vB 1) al))) (kD (.int 1)))) (ae (toD (lG (kD (.int 1)))) (ae (toD (lG (kD (.int 1)))) al)))) (ap 5) y77))
def q117:De->Option Bool:=(dL (vB 4))
noncomputable def z28:List Dt->Option T:=cj 7 ((aw (aF 1 (toT (toD (d2 aq (vB 0) (kD (.int 2))))))
  (aw (aF 2 (toT (toD (ao dg (ae (vL 0) al)))))
  (aw (aF 3 (br [none] (fIt (vB 1)) (ap 0) cg q32))
  (aw (aF 4 (toT (kD (.bl true))))
  (aw (bz q117 y76 100000)
  (gE 3)))))))
def z75:De->Option Out:=(aw (q14 2 (vL 3)) (aF 3 (toT (toD (d2 aq (vB 0) (vB 3))))))
def z115:De->Option Bool:=(tB2 (gIs true) (vB 3) (kD .non))
def z50:List Dt->Option T:=cj 4 ((aw (aF 2 (bX al))
  (aw (aF 3 (toT (vL 1)))
  (aw (bz z115 z75 100000)
  (bB (vLR (vB 2)))))))
def q85(G:Orc):De->Option Out:=(lH 3 (vB 4) (kD .non))
def z66(G:Orc):De->Option Out:=(sIf (tB2 (bU true) (vB 8) (vB 3)) (aw (lH 3 (vB 8) (vL 7)) (q14 5 (vL 8))) bJ)
noncomputable def z67 (G:Orc):De->Option Out:=(aw (aF 7 (toT (toD (d2 aq (vB 5) (vB 6)))))
  (aw (oK (fun i j=>i+j) 6 (kD (.int 1)))
  (aw (sIf (dL (toD (vCl G 2 (ae (vL 7) al)))) (p9 3 (bB (ao z50 (ae (vL 3) (ae (vL 7) al))))) bJ)
  (dD (fIt (toD (vCl G 1 (ae (vL 7) al)))) (ap 8) (z66 G)))))
def B4(G:Orc):De->Option Bool:=(tB2 (kJ fun i j=>decide (i<j)) (vB 6) (toD (ao cL (ae (vB 5) al))))
def q93 (G:Orc):Dt->J9->J9->Hp->Option T:=oS 9 ((aw (aF 3 z0)
  (aw (dD (fIt (vL 0)) (ap 4) (q85 G))
  (aw (aF 5 (ao ir (ae (vB 3) al)))
  (aw (aF 6 (toT (kD (.int 0))))
  (aw (bz (B4 G) (z67 G) 100000)
  cQ))))))
def bE:De->Option Out:=(bB (vIf (tB2 (gEq false) (toD (ao z52 (ae (toD (d2 aq (vB 2) (vB 0))) al))) (vB 1)) (bX al) (d2 aq (vB 3) (vB 0))))
def bN:De->Option Out:=(bB (d2 (bU false) (vB 1) (toD (ao z51 (ae (toD (d2 aq (vB 2) (vB 0))) al)))))
def q67:De->Option Dt:=(toD (bX (ae (vL 1) al)))
noncomputable def y16:List Dt->Option T:=cj 7 ((aw (aF 3 (toT (toD (d2 aq (vB 0) (kD (.int 2))))))
  (aw (aF 4 (toT (toD (ao dg (ae (vL 0) al)))))
  (fun δ=>(bB (fRt [2,3,4] [2,3] ["row","box","rows","onward"] ["row","box","rows"] bE bN q67 q93)) (nn 5 6 δ)))))
def y90:De->Option Dt:=(toD (bW (ae (toD (d2 aq (vB 0) (kD (.int 0)))) (ae (toD (d2 aq (vB 0) (kD (.int 1)))) (ae (kD (.bl false)) al)))))
def q12:De->Option Out:=(sIf (tB2 (bU true) (vB 7) (vB 5)) (bB (bW (ae (kD (.str "lost")) (ae (vL 7) (ae (toD (ao y16 (ae (vL 0) (ae (vL 4) (ae (vL 7) al))))) (ae (vL 6) al)))))) bJ)
def q13:De->Option Out:=(dD (fIt (toD (d2 aq (vB 2) (vB 4)))) (ap 7) q12)
noncomputable def q21:List Dt->Option T:=cj 8 ((aw (aF 2 (toT (toD (ao z28 (ae (vL 0) al)))))
  (aw (aF 3 (toT (toD (d2 cq (toD (bX (ae (toD (bW (ae (kD (.int 0)) (ae (toD (d2 aq (vB 1) (kD (.int 0)))) (ae (kD (.bl true)) al))))) al))) (toD (br [none] (fIt (toD (d2 aq (vB 1) (kD (.int 1))))) (ap 0) cg y90))))))
  (aw (dD (fIt (vL 3)) (fX 3 (aX (ap 4) (aX (ap 5) (aX (ap 6) eL)))) q13)
  (bB (toT (kD .non)))))))
def y37:De->Option Dt:=(toD (d2 (bU false) (vB 0) (vB 1)))
def q17:De->Option Bool:=(dL (toD (ao (oH fun bs=>bs.any id) (ae (toD (br [none,some 2] (fIt (toD (d2 aq (vB 1) (vB 0)))) (ap 0) cg y37)) al))))
noncomputable def q37:De->Option Out:=(aw (aF 4 (toT (toD (br [none,some 0,some 2] (fIt (vB 2)) (ap 0) q17 (vL 0)))))
  (aw (aF 3 (toT (toD (d2 (kJ fun i j=>decide (i<j)) (toD (ao cL (ae (vB 4) al))) (toD (ao cL (ae (vB 2) al)))))))
  (aF 2 (toT (vL 4)))))
def z49:De->Option Bool:=(dL (vB 3))
def z26:List Dt->Option T:=cj 5 ((aw (aF 2 (toT (vL 1)))
  (aw (aF 3 (toT (kD (.bl true))))
  (aw (bz z49 q37 100000)
  (gE 2)))))
def q62:De->Option Bool:=(tB2 (bU true) (vB 0) (vB 1))
noncomputable def y34:List Dt->Option T:=cj 7 ((aw (aF 2 (toT (toD (ao y12 (ae (vL 1) al)))))
  (aw (aF 3 (toT (toD (ao dg (ae (vL 0) al)))))
  (aw (aF 4 (toT (toD (ao z26 (ae (vL 3) (ae (toD (br [none,some 2] (dq fB (ae (toD (ao cL (ae (vB 3) al))) al)) (ap 0) q62 (vL 0))) al))))))
  (aw (sIf (tB2 (gEq false) (toD (ao cL (ae (vB 4) al))) (kD (.int 0))) (bB (toT (kD .non))) bJ)
  (aw cQ
  (aw cQ
  (aw cQ
  cQ))))))))
def z85:De->Option Bool:=(hZ (dL (toD (d2 aq (vB 0) (kD (.int 2))))))
def z86:De->Option Dt:=(toD (d2 aq (vB 0) (kD (.int 0))))
def q16:List Dt->Option T:=cj 1 ((bB (br [none] (fIt (toD (d2 mB (toD (d2 aq (vB 0) (kD (.int 0)))) (toD (d2 aq (vB 0) (kD (.int 1))))))) (ap 0) z85 z86)))
def z91:De->Option Bool:=(tB2 (bU true) (vB 0) (vB 1))
def q63:De->Option Dt:=(toD (br [none,some 1] (fIt (vB 0)) (ap 0) z91 (vL 0)))
def y20:List Dt->Option T:=cj 3 ((aw (aF 2 (toT (toD (ao y12 (ae (vL 1) al))))) (bB (br [none,some 2] (fIt (toD (ao dg (ae (vL 0) al)))) (ap 0) cg q63))))
noncomputable def q30:List Dt->Option T:=cj 3 ((aw (sIf (d4 (tB2 (gEq false) (vB 0) (kD eO)) (d4 (tB2 (bU false) (toD (d2 aq (vB 1) (kD (.int 0)))) (toD (bW (ae (kD (.str "load")) (ae (kD (.str "take")) al))))) (tB2 (gEq false) (toD (d2 aq (vB 1) (kD (.int 2)))) (vB 2)))) (bB (toT (kD k9))) bJ)
  (aw (sIf (d4 (tB2 (gEq false) (vB 0) (kD eO)) (d4 (tB2 (gEq false) (toD (d2 aq (vB 1) (kD (.int 0)))) (kD (.str "store"))) (tB2 (gEq false) (toD (d2 aq (vB 1) (kD (.int 1)))) (vB 2)))) (bB (toT (kD nA))) bJ)
  (aw (sIf (d4 (tB2 (gEq false) (vB 0) (kD k9)) (d4 (tB2 (bU false) (toD (d2 aq (vB 1) (kD (.int 0)))) (toD (bW (ae (kD (.str "store")) (ae (kD (.str "lay")) al))))) (tB2 (gEq false) (toD (d2 aq (vB 1) (kD (.int 1)))) (vB 2)))) (bB (toT (kD i4))) bJ)
  (gE 0)))))
def q132(G:Orc):De->Option Out:=(k7 3 (vB 4) (kD .non))
def z130(G:Orc):De->Option Out:=(sIf (wo (vB 8) (vB 3)) (aw (k7 3 (vB 8) (vL 7)) (q14 5 (vL 8))) bJ)
def y133 (G:Orc):De->Option Out:=(aw (aF 7 (toT (toD (d2 aq (vB 5) (vB 6)))))
  (aw (oK (fun i j=>i+j) 6 (kD (.int 1)))
  (aw (sIf (dL (toD (vCl G 2 (ae (vL 7) al)))) cQ bJ)
  (dD (fIt (toD (vCl G 1 (ae (vL 7) al)))) (ap 8) (z130 G)))))
def y131(G:Orc):De->Option Bool:=(tB2 (kJ fun i j=>decide (i<j)) (vB 6) (toD (ao cL (ae (vB 5) al))))
noncomputable def q75 (G:Orc):Dt->J9->J9->Hp->Option T:=oS 9 ((aw (aF 3 nz)
  (aw (dD (fIt (vL 0)) (ap 4) (q132 G))
  (aw (aF 5 (ao ir (ae (vB 3) al)))
  (aw (aF 6 (toT (kD (.int 0))))
  (aw (bz (y131 G) (y133 G) 100000)
  (bB (toT (kD .non)))))))))
def z74:De->Option Dt:=(toD (bW (ae (vL 0) (ae (vL 1) al))))
noncomputable def cz:De->Option Out:=(aw (aF 1 (toT (toD (ao q30 (ae (toD (d2 aq (vB 0) (kD (.int 1)))) (ae (toD (d2 aq (vB 3) (toD (d2 aq (vB 0) (kD (.int 0)))))) (ae (vL 2) al))))))) (bB (vIf (tB2 (gEq false) (vB 1) (kD nA)) (bX al) (br [none,some 1] (fIt (toD (d2 aq (vB 4) (toD (d2 aq (vB 0) (kD (.int 0))))))) (ap 0) cg z74))))
def cA:De->Option Out:=(bB (d2 (gEq false) (toD (ao q30 (ae (toD (d2 aq (vB 0) (kD (.int 1)))) (ae (toD (d2 aq (vB 2) (toD (d2 aq (vB 0) (kD (.int 0)))))) (ae (vL 1) al))))) (kD i4)))
def q115:De->Option Dt:=(toD (bW (ae (vL 0) (ae (kD eO) al))))
def z76:De->Option Dt:=(toD (br [none] (fIt (toD (d2 cq (toD (bX (ae (kD (.int 0)) al))) (toD (ao y12 (ae (vL 1) al)))))) (ap 0) cg q115))
noncomputable def y61:List Dt->Option T:=cj 8 ((aw (sIf (tB2 (bU true) (vB 2) (toD (ao q16 (ae (vL 0) al)))) (bB (toT (kD .non))) bJ)
  (aw (aF 3 (toT (toD (d2 aq (vB 0) (kD (.int 2))))))
  (aw (aF 4 (toT (toD (ao y20 (ae (vL 0) (ae (vL 1) al))))))
  (fun δ=>(aw (aF 7 (fRt [2,3,4] [2,3] ["place","mark","name","rows","inner"] ["place","name","rows"] cz cA z76 q75))
  (bB (vIf (tB2 (gIs false) (vB 7) (kD .non)) (toT (kD .non)) Ab))) (nn 5 6 δ))))))
def q42:De->Option Out:=(aw (aF 3 (toT (toD (ao y61 (ae (vL 0) (ae (vL 1) (ae (vL 2) al))))))) (sIf (tB2 (gIs true) (vB 3) (kD .non)) cQ bJ))
def z38:List Dt->Option T:=cj 4 ((aw (dD (fIt (toD (ao q16 (ae (vL 0) al)))) (ap 2) q42) (bB (toT (kD .non)))))
noncomputable def z31:List Dt->Option T:=cj 3 ((aw (aF 2 (toT (toD (ao y40 (ae (vL 0) (ae (vL 1) al))))))
  (aw (sIf (tB2 (gIs false) (vB 2) (kD .non)) (aF 2 (toT (toD (ao y34 (ae (vL 0) (ae (vL 1) al)))))) bJ)
  (aw (sIf (tB2 (gIs false) (vB 2) (kD .non)) (aF 2 (toT (toD (ao z38 (ae (vL 0) (ae (vL 1) al)))))) bJ)
  (aw (sIf (tB2 (gIs false) (vB 2) (kD .non)) (aF 2 (toT (toD (ao q21 (ae (vL 0) (ae (vL 1) al)))))) bJ)
  (gE 2))))))
def z40:List Dt->Option T:=cj 2 ((bB (d2 (gIs false) (toD (ao z31 (ae (vL 0) (ae (vL 1) al)))) (kD .non))))
def B5:De->Option Dt:=(toD (ao oI (ae (toD (d2 aq (vB 1) (vB 0))) al)))
def B6:De->Option Dt:=(toD (ao y46 (ae (toD (d2 aq (vB 2) (vB 0))) (ae (toD (d2 ei (vB 3) (toD (d2 cq (vB 0) (kD (.int 2)))))) (ae (vL 1) al)))))
def B7:De->Option Bool:=(tB2 (gEq true) (toD (d2 aq (vB 1) (vB 0))) (toD (bX al)))
def B8:De->Option Bool:=(tB2 (gEq true) (vB 0) (vB 1))
noncomputable def r8:List Dt->Option T:=cj 15 ((aw (aF 1 (toT (toD (ao y35 (ae (vL 0) (ae (kD (.int 30)) al))))))
  (aw (aF 2 (toT (toD (d2 aq (toD (ao z21 (ae (vL 0) al))) (kD (.int 0))))))
  (aw (aF 3 (toT (toD (ao y38 (ae (vL 1) al)))))
  (aw (aF 4 (toT (toD (ao z28 (ae (vL 1) al)))))
  (aw (aF 5 (toT (toD (br [none,some 4] (fIt (toD (d2 cq (toD (bX (ae (kD (.int 0)) al))) (vB 3)))) (ap 0) cg B5))))
  (aw (aF 6 (toT (toD (ao z20 (ae (vL 3) (ae (vL 5) al))))))
  (aw (sIf (fOr (tB2 (gIs true) (toD (ao z31 (ae (vL 1) (ae (vL 6) al)))) (kD .non)) (tB2 (nj true) (toD (ao z40 (ae (vL 1) (ae (vL 6) al)))) (kD (.bl true)))) cQ bJ)
  (aw (aF 7 (toT (toD (d2 fC (toD (d2 jo (toD (ao y1 (ae (vL 0) (ae (kD (.int 4)) al)))) (kD (.int 69621)))) (kD (.int 2147483629))))))
  (aw (aF 8 (toT (toD (br [none,some 2,some 5,some 7] (dq fB (ae (toD (ao cL (ae (vB 5) al))) al)) (ap 0) cg B6))))
  (aw (sIf (tB2 (nj true) (toD (ao z40 (ae (vL 1) (ae (toD (ao z20 (ae (vL 3) (ae (vL 8) al)))) al)))) (kD (.bl true))) cQ bJ)
  (aw (aF 9 (toT (toD (br [none,some 5] (dq fB (ae (toD (ao cL (ae (vB 5) al))) al)) (ap 0) B7 (vL 0)))))
  (aw (sIf (tB2 (gEq false) (vB 9) (toD (bX al))) (bB (toT (kD (.bl true)))) bJ)
  (aw (aF 10 (toT (toD (d2 aq (vB 9) (toD (d2 fC (toD (ao y1 (ae (vL 0) (ae (kD (.int 5)) al)))) (toD (ao cL (ae (vB 9) al)))))))))
  (aw (aF 11 (toT (toD (d2 aq (toD (d2 aq (vB 5) (vB 10))) (toD (d2 fC (toD (d2 ei (toD (ao y1 (ae (vL 0) (ae (kD (.int 5)) al)))) (kD (.int 60)))) (toD (ao cL (ae (toD (d2 aq (vB 5) (vB 10))) al)))))))))
  (aw (aF 12 (ao oI (ae (vB 8) al)))
  (aw (lH 12 (vB 10) (toD (br [none,some 11] (fIt (toD (d2 aq (vB 8) (vB 10)))) (ap 0) B8 (vL 0))))
  (aw (p9 12 (aF 13 (toT (toD (ao z20 (ae (vL 3) (ae (vL 12) al)))))))
  (aw (aF 14 (toT (toD (ao z31 (ae (vL 1) (ae (vL 13) al))))))
  (aw (sIf (fOr (hZ (dL (toD (fK "tuple" (vB 14))))) (fOr (tB2 (gEq true) (toD (d2 aq (vB 14) (kD (.int 0)))) (kD (.str "lost"))) (hZ (dL (toD (ao z25 (ae (toD (d2 aq (vB 1) (kD (.int 2)))) (ae (vL 13) (ae (vL 14) al))))))))) cQ bJ)
  (aw (sIf (fOr (tB2 (gEq true) (toD (d2 aq (vB 14) (kD (.int 1)))) (vB 11)) (fOr (tB2 (gEq true) (toD (d2 aq (vB 14) (kD (.int 3)))) (toD (d2 (gEq false) (vB 10) (kD (.int 0))))) (d4 (tB2 (kJ fun i j=>decide (j<i)) (vB 10) (kD (.int 0))) (tB2 (gEq true) (toD (d2 aq (toD (d2 aq (vB 14) (kD (.int 2)))) (kD (.int 0)))) (toD (d2 aq (vB 3) (toD (d2 fu (vB 10) (kD (.int 1)))))))))) cQ bJ)
  (bB (tp (toD (d2 (nj false) (toD (ao z40 (ae (vL 1) (ae (vL 13) al)))) (kD (.bl false)))) (d2 (nj false) (toD (ao z40 (ae (vL 1) (ae (toD (ao z20 (ae (vL 3) (ae (vL 8) al)))) al)))) (kD (.bl true))))))))))))))))))))))))))
end
structure Txt(P:qc9)(w:Ja)(K:xA9)(mg:Str->Option Value):Prop where
 n_all:mg "all"=none
 n_any:mg "any"=none
 n_bool:mg "bool"=none
 n_enumerate:mg "enumerate"=none
 n_int:mg "int"=none
 n_isinstance:mg "isinstance"=none
 n_len:mg "len"=none
 n_list:mg "list"=none
 n_max:mg "max"=none
 n_min:mg "min"=none
 n_range:mg "range"=none
 n_reversed:mg "reversed"=none
 n_set:mg "set"=none
 n_sorted:mg "sorted"=none
 n_str:mg "str"=none
 n_tuple:mg "tuple"=none
 g_A:yq P w K mg "ATOM_PLACES" k_A fD
 g_D:jN K mg "FRESH" eO
 g_F:jN K mg "SAFE" nA
 g_E:jN K mg "SEEN" k9
 g_B:jN K mg "SETTING" mC
 g_C:jN K mg "SPOILT" i4
 is:t5 K=true
 k_str:e7 K "str"
 k_bool:e7 K "bool"
 k_int:e7 K "int"
 k_list:e7 K "list"
 k_tuple:e7 K "tuple"
variable{X:Cx}{pos:Pos}{sc:Jd}{N:List Str}{x:Str}
theorem dsN{e:Jc}{f:De->Option T}{i:Nat}{pos':Pos}(h:cw sc N=true)(Y:N.Nodup)(O:DO X e f)(e0:N[i]?=some x:=by rfl)(e1:cH X sc:=by rfl)(q:X.N=N:=by rfl)(Z:X.fn x=true∨X.env.scope.names.lookup x=some .local:=by exact .inl rfl)(hs:qn0 e (some (.Name x pos')) pos.line X.env=pure false:=by rfl):DS1 X (.Assign [.Name x pos'] e pos) (aF i f):=ve (nsN h i e0) (nsL h i e0) Y O e1 q Z hs
theorem doC{p:Pos}{iter elt:Jc}{ifs:List Jc}{scope:Jd}{src:List (Option Nat)}{fi:De->Option (List Dt)}{ft:De->Option Bool}{fe:De->Option Dt}(M:List Str)(h:(u1 X.N X.env.scope scope M src&&cS (kz scope X.env.scope) M 0 x&&loOk (kz scope X.env.scope) x&&decide (src[0]?=some none))=true)(hi:DIB X (.Name x p) iter fi)(q:∀C s H ex,DTs (cxC X M scope C s H ex) ifs ft)(he:∀C s H ex,DL (cxC X M scope C s H ex) elt fe)(Z:X.calm=true:=by rfl)(Y:∀x,qh7 iter X.env x=pure x:=by intro _;rfl):DO X (.ListComp elt [⟨.Name x p,iter,ifs,0⟩] scope pos) (br src fi (ap 0) ft fe):=by simp only[qb3]at h;exact j3 (ts:=[0]) (CmpScope.of h.1.1.1) Z hi (fun O C s H ex=>aD (cC h.1.1.2 h.1.2 O (scC rfl))) q he (by simp only[qk1,zi2,qs6];exact h.2) Y
theorem fnS{P:List Str}(h:N.Nodup/\N.take P.length=P/\(∀x∈P,sc.names.lookup x=some .local∨sc.names.lookup x=some .cell)/\∀y∈sc.names,y.2≠.free)(a:sc.kind=.function:=by rfl)(b:sc.isCoroutine=false:=by rfl)(c:sc.isGenerator=false:=by rfl):FnScope N P sc:=⟨a,b,c,h.1,h.2.1,h.2.2.1,h.2.2.2⟩
variable{c Pt:J9}
section
variable{P:qc9}{w:Ja}{K:xA9}{mg:Str->Option Value}{base:Heap}
abbrev z34:Jb:=top 33
theorem q118:FnScope ["_law_script","_law_k"] ["_law_script","_law_k"] (aa z34):=fnS (by decide +kernel)
theorem dm:cw (aa z34) ["_law_script","_law_k"]=true:=by decide +kernel
theorem q98:aC (aa z34) "len"=true:=by decide +kernel
theorem y116(T:Txt P w K mg)(D:DefF K mg "_law_cell_at" z34 ["_law_script","_law_k"]):OkF P w K mg base "_law_cell_at" 1 ["_law_script","_law_k"] (spD K 2 y1):=
 bT D q118 rfl fun f cdv A outer s H E q=>(ah (bu (aM og kL (ac (pvN 1 dm)) (DO.toB (aR q98 bp cM T.n_len bR (aB (ac (pvN 0 dm)) aL))) (aH _)) (ar (aO (aj q (ac (pvN 0 dm)) (ac (pvN 1 dm))))) aT)
     (ar (aO (DL.toO af))))
abbrev q24:Jb:=top 50
theorem q131:FnScope ["_law_places_here","_law_told"] ["_law_places_here","_law_told"] (aa q24):=fnS (by decide +kernel)
theorem i5:cw (aa q24) ["_law_places_here","_law_told"]=true:=by decide +kernel
theorem y113:aC (aa q24) "len"=true:=by decide +kernel
theorem q107:aC (aa q24) "range"=true:=by decide +kernel
theorem y68:aC (aa q24) "tuple"=true:=by decide +kernel
theorem z131(T:Txt P w K mg)(D:DefF K mg "_law_code" q24 ["_law_places_here","_law_told"]):OkF P w K mg base "_law_code" 1 ["_law_places_here","_law_told"] (spD K 2 z20):=bT D q131 rfl fun f cdv A outer s H E q=>(ar (aO (bq (ab (DO.toL (dk y68 cV gW T.n_tuple eT (aB (DO.toB (aj q (ac (pvN 1 i5)) (DL.toB af))) aL))) (ab (DO.toL (dk y68 cV gW T.n_tuple eT (aB (DO.toB (doC ["_law_k","_law_places_here","_law_told"] (by kernel_rfl) (DIF.toB (cy q107 T.n_range (ab (DO.toL (aR y113 bp cM T.n_len bR (aB (ac (pvN 0 i5)) aL))) ai))) (fun _ _ _ _=>cP) (fun _ _ _ _=>(DO.toL (bq (ab (DO.toL (aj q (ac (pvX (by kernel_rfl))) (ac (pvX (by kernel_rfl))))) (ab (DO.toL (dk (by decide +kernel) cV gW T.n_tuple eT (aB (DO.toB (aj q (ac (pvX (by kernel_rfl))) (DO.toB (az aV bP (ac (pvX (by kernel_rfl))) (DL.toB af))))) aL) (e1:=(scC (outer:=aa q24) rfl)))) ai))))))) aL))) ai)))))
abbrev q55:Jb:=top 41
theorem q127:FnScope ["_law_rows","_law_at"] ["_law_rows","_law_at"] (aa q55):=fnS (by decide +kernel)
theorem bw:cw (aa q55) ["_law_rows","_law_at"]=true:=by decide +kernel
theorem y129(T:Txt P w K mg)(D:DefF K mg "_law_exits" q55 ["_law_rows","_law_at"]):OkF P w K mg base "_law_exits" 1 ["_law_rows","_law_at"] (spD K 2 y21):=
 bT D q127 rfl fun f cdv A outer s H E q=>(ah (bu (aM (bA q) c9 (DO.toB (aj q (DO.toB (aj q (ac (pvN 0 bw)) (ac (pvN 1 bw)))) (DL.toB af))) (DL.toB aS) (aH _)) (ar (aO (bc ai))) aT)
     (ah (bu (aM (bA q) c9 (DO.toB (aj q (DO.toB (aj q (ac (pvN 0 bw)) (ac (pvN 1 bw)))) (DL.toB af))) (DL.toB aS) (aH _)) (ar (aO (bc (ab (DO.toL (aj q (DO.toB (aj q (ac (pvN 0 bw)) (ac (pvN 1 bw)))) (DL.toB af))) ai)))) aT)
     (ah (bu (aM (bA q) c9 (DO.toB (aj q (DO.toB (aj q (ac (pvN 0 bw)) (ac (pvN 1 bw)))) (DL.toB af))) (DL.toB aS) (aH _)) (ar (aO (bc (ab (DO.toL (aj q (DO.toB (aj q (ac (pvN 0 bw)) (ac (pvN 1 bw)))) (DL.toB af))) (ab (DO.toL (az aV bP (ac (pvN 1 bw)) (DL.toB af))) ai))))) aT)
     (ar (aO (bc (ab (DO.toL (az aV bP (ac (pvN 1 bw)) (DL.toB af))) ai)))))))
abbrev q34:Jb:=top 42
theorem q19:FnScope ["_law_row_here","_law_atoms"] ["_law_row_here"] (aa q34):=fnS (by decide +kernel)
theorem aJ:cw (aa q34) ["_law_row_here","_law_atoms"]=true:=by decide +kernel
theorem z118(T:Txt P w K mg)(D:DefF K mg "_law_read_by" q34 ["_law_row_here"]):OkF P w K mg base "_law_read_by" 1 ["_law_row_here"] (spD K 1 z17):=
 bT D q19 rfl fun f cdv A outer s H E q=>(ah (dsN aJ q19.nd (DL.toO (DO.toL (bc ai))))
     (ah (bu (fL q (DO.toB (aj q (ac (pvN 0 aJ)) (DL.toB af))) (DO.toB (bq (ab aS (ab aS ai))))) (ar (dsN aJ q19.nd (DL.toO (DO.toL (bc (ab (DO.toL (aj q (ac (pvN 0 aJ)) (DL.toB af))) ai)))))) aT)
     (ah (bu (aM (bA q) c9 (DO.toB (aj q (ac (pvN 0 aJ)) (DL.toB af))) (DL.toB aS) (aH _)) (ar (dsN aJ q19.nd (DL.toO (DO.toL (bc (ab (DO.toL (aj q (ac (pvN 0 aJ)) (DL.toB af))) (ab (DO.toL (aj q (ac (pvN 0 aJ)) (DL.toB af))) ai))))))) aT)
     (ah (bu (aM (bA q) c9 (DO.toB (aj q (ac (pvN 0 aJ)) (DL.toB af))) (DL.toB aS) (aH _)) (ar (dsN aJ q19.nd (DL.toO (DO.toL (bc (ab (DO.toL (aj q (ac (pvN 0 aJ)) (DL.toB af))) ai)))))) aT)
     (ah (bu (aM (bA q) c9 (DO.toB (aj q (ac (pvN 0 aJ)) (DL.toB af))) (DL.toB aS) (aH _)) (ar (dsN aJ q19.nd (DL.toO (DO.toL (bc (ab (DO.toL (aj q (ac (pvN 0 aJ)) (DL.toB af))) (ab (DO.toL (aj q (ac (pvN 0 aJ)) (DL.toB af))) ai))))))) aT)
     (ah (bu (fL q (DO.toB (aj q (ac (pvN 0 aJ)) (DL.toB af))) (DO.toB (bq (ab aS (ab aS (ab aS ai)))))) (ar (dsN aJ q19.nd (DL.toO (DO.toL (bc (ab (DO.toL (aj q (ac (pvN 0 aJ)) (DL.toB af))) ai)))))) aT)
     (ar (aO (doC ["_law_atom"] (by kernel_rfl) (cb (ac (pvN 1 aJ))) (fun _ _ _ _=>c8 (b8 (DO.toB (dy (by decide +kernel) (by decide +kernel) T.n_isinstance T.n_str pY T.k_str (ac (pvX (by kernel_rfl))) (e1:=(scC (outer:=aa q34) rfl)))) (fun _=>rfl))) (fun _ _ _ _=>(ak (pvX (by kernel_rfl)))))))))))))
abbrev z47:Jb:=top 43
theorem q123:FnScope ["_law_row_here"] ["_law_row_here"] (aa z47):=fnS (by decide +kernel)
theorem gI:cw (aa z47) ["_law_row_here"]=true:=by decide +kernel
theorem y119(T:Txt P w K mg)(D:DefF K mg "_law_set_by" z47 ["_law_row_here"]):OkF P w K mg base "_law_set_by" 1 ["_law_row_here"] (spD K 1 y30):=
 bT D q123 rfl fun f cdv A outer s H E q=>(ah (bu (fL q (DO.toB (aj q (ac (pvN 0 gI)) (DL.toB af))) (DO.toB (bq (ab aS (ab aS (ab aS (ab aS (ab aS ai)))))))) (ar (aO (aj q (ac (pvN 0 gI)) (DL.toB af)))) aT)
     (ar (aO (DL.toO cO))))
abbrev y28:Jb:=top 44
theorem y128:FnScope ["_law_found"] ["_law_found"] (aa y28):=fnS (by decide +kernel)
theorem ii:cw (aa y28) ["_law_found"]=true:=by decide +kernel
theorem y43:aC (aa y28) "isinstance"=true:=by decide +kernel
theorem q105:aC (aa y28) "bool"=true:=by decide +kernel
theorem z110:aC (aa y28) "int"=true:=by decide +kernel
theorem q126(T:Txt P w K mg)(D:DefF K mg "_law_whole" y28 ["_law_found"]):OkF P w K mg base "_law_whole" 1 ["_law_found"] (spD K 1 y81):=bT D y128 rfl fun f cdv A outer s H E q=>(ar (aO (vc (DO.toB (dy y43 z110 T.n_isinstance T.n_int BE T.k_int (ac (pvN 0 ii)))) (u9 (BM (DO.toB (dy y43 q105 T.n_isinstance T.n_bool rn T.k_bool (ac (pvN 0 ii)))))))))
abbrev q5:Jb:=top 47
theorem z19:FnScope ["_law_rows","_law_code_here","_law_found","_law_box","_law_way","_law_begin","_law_places_here","_law_k"] ["_law_rows","_law_code_here","_law_found"] (aa q5):=fnS (by decide +kernel)
theorem am:cw (aa q5) ["_law_rows","_law_code_here","_law_found","_law_box","_law_way","_law_begin","_law_places_here","_law_k"]=true:=by decide +kernel
theorem z23:aC (aa q5) "isinstance"=true:=by decide +kernel
theorem q95:aC (aa q5) "list"=true:=by decide +kernel
theorem q102:aC (aa q5) "str"=true:=by decide +kernel
theorem y57:aC (aa q5) "len"=true:=by decide +kernel
theorem q96:aC (aa q5) "bool"=true:=by decide +kernel
theorem y98:aC (aa q5) "all"=true:=by decide +kernel
theorem q61:aC (aa q5) "_law_read_by"=true:=by decide +kernel
theorem y93:aC (aa q5) "range"=true:=by decide +kernel
theorem y66:aC (aa q5) "_law_set_by"=true:=by decide +kernel
theorem y73:aC (aa q5) "_law_exits"=true:=by decide +kernel
theorem z117(T:Txt P w K mg)(D:DefF K mg "_law_is_lost" q5 ["_law_rows","_law_code_here","_law_found"])(y33:OkF P w K mg base "_law_exits" 1 ["_law_rows","_law_at"] (spD K 2 (y21)))(Z:OkF P w K mg base "_law_read_by" 1 ["_law_row_here"] (spD K 1 (z17)))(q73:OkF P w K mg base "_law_set_by" 1 ["_law_row_here"] (spD K 1 (y30)))(Y:OkF P w K mg base "_law_whole" 1 ["_law_found"] (spD K 1 (y81))):OkF P w K mg base "_law_is_lost" 2 ["_law_rows","_law_code_here","_law_found"] (spD K 3 z25):=
 bT D z19 rfl fun f cdv A outer s H E q=>(ah (bu (DW.t (fq (aM (d6 q) jW (DO.toB (aR y57 bp cM T.n_len bR (aB (ac (pvN 2 am)) aL))) (DL.toB af) (aH _)) (fq (gB (b8 (DO.toB (dy z23 q102 T.n_isinstance T.n_str pY T.k_str (DO.toB (aj q (ac (pvN 2 am)) (DL.toB af))))) (fun _=>rfl))) (fq (gB (b8 (DO.toB (dy z23 q95 T.n_isinstance T.n_list gU T.k_list (DO.toB (aj q (ac (pvN 2 am)) (DL.toB af))))) (fun _=>rfl))) (gC (aM (bA q) c9 (DO.toB (aj q (ac (pvN 2 am)) (DL.toB af))) (DO.toB (bc ai)) (aH _))))))) (ar b9) aT)
     (ah (kG (DO.toL (iU (ac (pvN 2 am)) (iT (DL.toB af)) ng)) (jn rfl (be (aD (aK (nsN am 3) (nsL am 3) z19.nd)) (be (aD (aK (nsN am 4) (nsL am 4) z19.nd)) (be (aD (aK (nsN am 5) (nsL am 5) z19.nd)) eN)))))
     (ah (bu (DW.t (fq (gB (b8 (DO.toB (aR y98 (uY rfl) (zV (f:=fun bs=>bs.all id)) T.n_all BB (aB (DO.toB (doC ["_law_at"] (by kernel_rfl) (cb (ac (pvN 4 am))) (fun _ _ _ _=>cP) (fun _ _ _ _=>(DO.toL (av (by decide +kernel) Y (q.mono (by decide)) (ab (ak (pvX (by kernel_rfl))) ai) (e1:=(scC (outer:=aa q5) rfl))))))) aL))) (fun _=>rfl))) (gC (gB (b8 (DO.toB (dy z23 q96 T.n_isinstance T.n_bool rn T.k_bool (ac (pvN 5 am)))) (fun _=>rfl)))))) (ar b9) aT)
     (ah (fj (nsN am 6) (nsL am 6) z19.nd (M:=["_law_at","_law_told","_law_way"]) (src:=[none,none,some 4]) (ts:=[0,1]) (CmpScope.of (by kernel_rfl)) rfl (cb (DO.toB (aj q (ac (pvN 1 am)) (DL.toB af)))) (fun O _ _ _ _=>(jn rfl (be (aD (cC (N:=["_law_at","_law_told","_law_way"]) (i:=0) (by decide +kernel) (by decide +kernel) O (scC (outer:=aa q5) (by exact rfl)))) (be (aD (cC (N:=["_law_at","_law_told","_law_way"]) (i:=1) (by decide +kernel) (by decide +kernel) O (scC (outer:=aa q5) (by exact rfl)))) eN)))) (fun _ _ _ _=>c8 (aM (bA q) c9 (ac (pvX (by kernel_rfl))) (DO.toB (aj q (ac (pvX (by kernel_rfl))) (DL.toB af))) (aH _))) (fun _ _ _ _=>(ak (pvX (by kernel_rfl)))) (by decide +kernel))
     (ah (bu (b8 (ac (pvN 5 am)) (fun _=>rfl)) (ar (fj (nsN am 6) (nsL am 6) z19.nd (M:=["_law_told","_law_way"]) (src:=[none,some 4]) (ts:=[0]) (CmpScope.of (by kernel_rfl)) rfl (cb (DO.toB (bc (ab (DO.toL (aj q (ac (pvN 1 am)) (DL.toB af))) ai)))) (fun O _ _ _ _=>(aD (cC (N:=["_law_told","_law_way"]) (i:=0) (by decide +kernel) (by decide +kernel) O (scC (outer:=aa q5) (by exact rfl))))) (fun _ _ _ _=>c8 (aM (bA q) c9 (DO.toB (aj q (ac (pvX (by kernel_rfl))) (DL.toB af))) (DL.toB af) (aH _))) (fun _ _ _ _=>(ak (pvX (by kernel_rfl)))) (by decide +kernel))) aT)
     (ah (bu (DW.t (fq (aM (bA q) c9 (ac (pvN 6 am)) (DO.toB (bc ai)) (aH _)) (fq (fL q (ac (pvN 3 am)) (DO.toB (aj q (ac (pvN 6 am)) (DL.toB af)))) (gC (dE q (ac (pvN 3 am)) (DO.toB (av q61 Z (q.mono (by decide)) (ab (DO.toL (aj q (ac (pvN 0 am)) (DO.toB (aj q (ac (pvN 4 am)) (DO.toB (kN (DL.toB af))))))) ai)))))))) (ar b9) aT)
     (ah (cY qc8 rfl (cy y93 T.n_range (ab (DO.toL (az gm jK (DO.toB (aR y57 bp cM T.n_len bR (aB (ac (pvN 4 am)) aL))) (DL.toB af))) ai)) (aD (aK (nsN am 7) (nsL am 7) z19.nd)) (ar (bu (DW.t (fq (dE q (DO.toB (aj q (ac (pvN 4 am)) (DO.toB (az aV bP (ac (pvN 7 am)) (DL.toB af))))) (DO.toB (av y73 y33 (q.mono (by decide)) (ab (ak (pvN 0 am)) (ab (DO.toL (aj q (ac (pvN 4 am)) (ac (pvN 7 am)))) ai))))) (gC (aM (bA q) c9 (DO.toB (av y66 q73 (q.mono (by decide)) (ab (DO.toL (aj q (ac (pvN 0 am)) (DO.toB (aj q (ac (pvN 4 am)) (ac (pvN 7 am)))))) ai))) (ac (pvN 3 am)) (aH _))))) (ar b9) aT)))
     (ar (aO (DL.toO gh))))))))))
abbrev y24:Jb:=top 49
theorem q108:FnScope ["_law_boxes","_law_number","_law_names_here","_law_some"] ["_law_boxes","_law_number","_law_names_here"] (aa y24):=fnS (by decide +kernel)
theorem dJ:cw (aa y24) ["_law_boxes","_law_number","_law_names_here","_law_some"]=true:=by decide +kernel
theorem z113:aC (aa y24) "len"=true:=by decide +kernel
theorem z107:aC (aa y24) "range"=true:=by decide +kernel
theorem z99:aC (aa y24) "sorted"=true:=by decide +kernel
theorem z112:aC (aa y24) "set"=true:=by decide +kernel
theorem z133(T:Txt P w K mg)(D:DefF K mg "_law_more" y24 ["_law_boxes","_law_number","_law_names_here"]):OkF P w K mg base "_law_more" 1 ["_law_boxes","_law_number","_law_names_here"] (spD K 3 y46):=
 bT D q108 rfl fun f cdv A outer s H E q=>(ah (dsN dJ q108.nd (DL.toO (DO.toL (az aV bP (DO.toB (az aV bP (ac (pvN 0 dJ)) (DO.toB (doC ["_law_k","_law_number","_law_names_here"] (by kernel_rfl) (DIF.toB (cy z107 T.n_range (ab (DO.toL (aR z113 bp cM T.n_len bR (aB (ac (pvN 2 dJ)) aL))) ai))) (fun _ _ _ _=>c8 (aM (bA q) c9 (DO.toB (az de d9 (DO.toB (az cU d7 (ac (pvX (by kernel_rfl))) (DO.toB (az aV bP (ac (pvX (by kernel_rfl))) (DL.toB af))))) (DL.toB af))) (DL.toB af) (aH _))) (fun _ _ _ _=>(DO.toL (aj q (ac (pvX (by kernel_rfl))) (ac (pvX (by kernel_rfl)))))))))) (DO.toB (iU (DO.toB (bc (ab aS ai))) ng (iT (DO.toB (az de d9 (ac (pvN 1 dJ)) (DL.toB af))))))))))
     (ar (aO (kZ z99 z112 rfl T.n_sorted T.n_set (aB (ac (pvN 3 dJ)) aL)))))
abbrev y15:Jb:=top 48
theorem q26:FnScope ["_law_program_here","_law_rows","_law_plain","_law_found","_law_at","_law_into"] ["_law_program_here"] (aa y15):=fnS (by decide +kernel)
theorem aA:cw (aa y15) ["_law_program_here","_law_rows","_law_plain","_law_found","_law_at","_law_into"]=true:=by decide +kernel
theorem y67:aC (aa y15) "len"=true:=by decide +kernel
theorem q56:aC (aa y15) "range"=true:=by decide +kernel
theorem y120(T:Txt P w K mg)(D:DefF K mg "_law_places" y15 ["_law_program_here"])(Y:OkF P w K mg base "_law_exits" 1 ["_law_rows","_law_at"] (spD K 2 (y21))):OkF P w K mg base "_law_places" 2 ["_law_program_here"] (spD K 1 y38):=
 bT D q26 rfl fun f cdv A outer s H E q=>(ah (dsN aA q26.nd (DL.toO (DO.toL (aj q (ac (pvN 0 aA)) (DL.toB af)))))
     (ah (fj (nsN aA 2) (nsL aA 2) q26.nd (M:=["_law_told"]) (src:=[none]) (ts:=[0]) (CmpScope.of (by kernel_rfl)) rfl (cb (DO.toB (az r6 wu (DO.toB (aj q (ac (pvN 0 aA)) (DL.toB af))) (DO.toB (aj q (ac (pvN 0 aA)) (DL.toB af)))))) (fun O _ _ _ _=>(aD (cC (N:=["_law_told"]) (i:=0) (by decide +kernel) (by decide +kernel) O (scC (outer:=aa y15) (by exact rfl))))) (fun _ _ _ _=>c8 (gB (b8 (DO.toB (aj q (ac (pvX (by kernel_rfl))) (DL.toB af))) (fun _=>rfl)))) (fun _ _ _ _=>(DO.toL (aj q (ac (pvX (by kernel_rfl))) (DL.toB af)))) (by decide +kernel))
     (ah (dsN aA q26.nd (bc ai))
     (ah (cY qc8 rfl (cy q56 T.n_range (ab (DO.toL (aR y67 bp cM T.n_len bR (aB (ac (pvN 1 aA)) aL))) ai)) (aD (aK (nsN aA 4) (nsL aA 4) q26.nd)) (ah (fj (nsN aA 5) (nsL aA 5) q26.nd (M:=["_law_k","_law_rows","_law_at"]) (src:=[none,some 1,some 4]) (ts:=[0]) (CmpScope.of (by kernel_rfl)) rfl (DIF.toB (tq q56 T.n_range (ab (ak (pvN 4 aA)) (ab (DO.toL (aR y67 bp cM T.n_len bR (aB (ac (pvN 1 aA)) aL))) ai)))) (fun O _ _ _ _=>(aD (cC (N:=["_law_k","_law_rows","_law_at"]) (i:=0) (by decide +kernel) (by decide +kernel) O (scC (outer:=aa y15) (by exact rfl))))) (fun _ _ _ _=>c8 (fL q (ac (pvX (by kernel_rfl))) (DO.toB (av (by decide +kernel) Y (q.mono (by decide)) (ab (ak (pvX (by kernel_rfl))) (ab (ak (pvX (by kernel_rfl))) ai)) (e1:=(scC (outer:=aa y15) rfl)))))) (fun _ _ _ _=>(ak (pvX (by kernel_rfl)))) (by decide +kernel))
     (ar (bu (DW.t (fq (aM (bA q) c9 (DO.toB (aj q (DO.toB (aj q (ac (pvN 1 aA)) (ac (pvN 4 aA)))) (DL.toB af))) (DL.toB aS) (aH _)) (fq (aM (d6 q) jW (ac (pvN 5 aA)) (DO.toB (bc ai)) (aH _)) (gC (DW.t (d5 (fL q (DO.toB (aj q (DO.toB (aj q (ac (pvN 1 aA)) (ac (pvN 4 aA)))) (DL.toB af))) (DO.toB (bq (ab aS (ab aS ai))))) (eG (fL q (DO.toB (aj q (DO.toB (aj q (ac (pvN 1 aA)) (ac (pvN 4 aA)))) (DL.toB af))) (ac (pvN 2 aA)))))))))) (ar (cW (pvN 3 aA) (ak (pvN 4 aA)))) aT))))
     (ar (eJ (pvN 3 aA)))))))
abbrev q47:Jb:=top 34
theorem z29:FnScope ["_law_cell","_law_k","_law_found","_law_number","_law_j"] ["_law_cell","_law_k"] (aa q47):=fnS (by decide +kernel)
theorem aQ:cw (aa q47) ["_law_cell","_law_k","_law_found","_law_number","_law_j"]=true:=by decide +kernel
theorem q109:aC (aa q47) "range"=true:=by decide +kernel
theorem q134(T:Txt P w K mg)(D:DefF K mg "_law_rich" q47 ["_law_cell","_law_k"]):OkF P w K mg base "_law_rich" 1 ["_law_cell","_law_k"] (spD K 2 z46):=
 bT D z29 rfl fun f cdv A outer s H E q=>(ah (dsN aQ z29.nd (DL.toO af))
     (ah (dsN aQ z29.nd (DL.toO (DO.toL (az aV bP (DO.toB (az aV bP (DO.toB (az de d9 (ac (pvN 0 aQ)) (DL.toB af))) (DO.toB (az gn jL (DL.toB af) (ac (pvN 1 aQ)))))) (DL.toB af)))))
     (ah (cY qc8 rfl (cy q109 T.n_range (ab af ai)) (aD (aK (nsN aQ 4) (nsL aQ 4) z29.nd)) (ah (dsN aQ z29.nd (DL.toO (DO.toL (az de d9 (DO.toB (az aV bP (DO.toB (az aV bP (DO.toB (az gn jL (ac (pvN 3 aQ)) (ac (pvN 3 aQ)))) (DO.toB (az gn jL (DL.toB af) (ac (pvN 3 aQ)))))) (ac (pvN 4 aQ)))) (DL.toB af)))))
     (ah (dsN aQ z29.nd (DL.toO (DO.toL (az de d9 (DO.toB (az aV bP (DO.toB (az aV bP (DO.toB (az gn jL (ac (pvN 3 aQ)) (DL.toB af))) (DO.toB (az gn jL (DL.toB af) (ac (pvN 4 aQ)))))) (ac (pvN 1 aQ)))) (DL.toB af)))))
     (ar (dsN aQ z29.nd (DL.toO (DO.toL (az aV bP (DO.toB (az gn jL (ac (pvN 2 aQ)) (DL.toB af))) (ac (pvN 3 aQ))))))))))
     (ar (eJ (pvN 2 aQ))))))
abbrev z45:Jb:=top 35
theorem z135:FnScope ["_law_script","_law_k"] ["_law_script","_law_k"] (aa z45):=fnS (by decide +kernel)
theorem dz:cw (aa z45) ["_law_script","_law_k"]=true:=by decide +kernel
theorem z27:aC (aa z45) "_law_cell_at"=true:=by decide +kernel
theorem y91:aC (aa z45) "_law_rich"=true:=by decide +kernel
theorem y136(T:Txt P w K mg)(D:DefF K mg "_law_big" z45 ["_law_script","_law_k"])(q:OkF P w K mg base "_law_cell_at" 1 ["_law_script","_law_k"] (spD K 2 (y1)))(Y:OkF P w K mg base "_law_rich" 1 ["_law_cell","_law_k"] (spD K 2 (z46))):OkF P w K mg base "_law_big" 2 ["_law_script","_law_k"] (spD K 2 z16):=
 bT D z135 rfl fun f cdv A outer s H E O=>(ah (bu (aM (bA O) c9 (DO.toB (az de d9 (DO.toB (av z27 q (O.mono (by decide)) (ab (ak (pvN 0 dz)) (ab af ai)))) (DL.toB af))) (DL.toB af) (aH _)) (ar (aO (av z27 q (O.mono (by decide)) (ab (ak (pvN 0 dz)) (ab (ak (pvN 1 dz)) ai))))) aT)
     (ar (aO (av y91 Y (O.mono (by decide)) (ab (DO.toL (av z27 q (O.mono (by decide)) (ab (ak (pvN 0 dz)) (ab (ak (pvN 1 dz)) ai)))) (ab (ak (pvN 1 dz)) ai))))))
abbrev y47:Jb:=top 36
theorem z44:FnScope ["_law_number","_law_sizes","_law_digits_here","_law_size"] ["_law_number","_law_sizes"] (aa y47):=fnS (by decide +kernel)
theorem bv:cw (aa y47) ["_law_number","_law_sizes","_law_digits_here","_law_size"]=true:=by decide +kernel
theorem q124(T:Txt P w K mg)(D:DefF K mg "_law_digits" y47 ["_law_number","_law_sizes"]):OkF P w K mg base "_law_digits" 1 ["_law_number","_law_sizes"] (spD K 2 z9):=
 bT D z44 rfl fun f cdv A outer s H E q=>(ah (dsN bv z44.nd (bc ai))
     (ah (cY qc8 rfl (eZ (ak (pvN 1 bv))) (aD (aK (nsN bv 3) (nsL bv 3) z44.nd)) (ah (cW (pvN 2 bv) (DO.toL (az de d9 (ac (pvN 0 bv)) (ac (pvN 3 bv)))))
     (ar (dsN bv z44.nd (DL.toO (DO.toL (az cU d7 (ac (pvN 0 bv)) (ac (pvN 3 bv)))))))))
     (ar (eJ (pvN 2 bv)))))
abbrev q36:Jb:=top 39
theorem z10:FnScope ["_law_number","_law_world_here","_law_many","_law_boxes","_law_cells","_law_shelves","_law_rest","_law_sizes","_law_kind","_law_x","_law_c","_law_f","_law_sign","_law_goal","_law_size","_law_atoms","_law_one","_law_other","_law_some"] ["_law_number","_law_world_here","_law_many"] (aa q36):=fnS (by decide +kernel)
theorem ag:cw (aa q36) ["_law_number","_law_world_here","_law_many","_law_boxes","_law_cells","_law_shelves","_law_rest","_law_sizes","_law_kind","_law_x","_law_c","_law_f","_law_sign","_law_goal","_law_size","_law_atoms","_law_one","_law_other","_law_some"]=true:=by decide +kernel
theorem z32:aC (aa q36) "len"=true:=by decide +kernel
theorem q84:aC (aa q36) "max"=true:=by decide +kernel
theorem q46:aC (aa q36) "_law_digits"=true:=by decide +kernel
theorem q136(T:Txt P w K mg)(D:DefF K mg "_law_row" q36 ["_law_number","_law_world_here","_law_many"])(O:OkF P w K mg base "_law_digits" 1 ["_law_number","_law_sizes"] (spD K 2 (z9))):OkF P w K mg base "_law_row" 2 ["_law_number","_law_world_here","_law_many"] (spD K 3 q53):=
 bT D z10 rfl fun f cdv A outer s H E q=>(ah (kG (ak (pvN 1 ag)) (jn rfl (be (aD (aK (nsN ag 3) (nsL ag 3) z10.nd)) (be (aD (aK (nsN ag 4) (nsL ag 4) z10.nd)) (be (aD (aK (nsN ag 5) (nsL ag 5) z10.nd)) (be (aD (aK (nsN ag 6) (nsL ag 6) z10.nd)) eN))))))
     (ah (dsN ag z10.nd (DL.toO (DO.toL (bc (ab af (ab (DO.toL (aR z32 bp cM T.n_len bR (aB (ac (pvN 3 ag)) aL))) (ab (DO.toL (aR q84 (jw rfl) v6 T.n_max pX (aB (DL.toB af) (aB (DO.toB (aR z32 bp cM T.n_len bR (aB (ac (pvN 4 ag)) aL))) aL)))) (ab (DO.toL (aR q84 (jw rfl) v6 T.n_max pX (aB (DL.toB af) (aB (DO.toB (aR z32 bp cM T.n_len bR (aB (ac (pvN 5 ag)) aL))) aL)))) (ab af (ab (ak (pvN 2 ag)) ai))))))))))
     (ah (kG (DO.toL (av q46 O (q.mono (by decide)) (ab (ak (pvN 0 ag)) (ab (ak (pvN 7 ag)) ai)))) (qj rfl (be (aD (aK (nsN ag 8) (nsL ag 8) z10.nd)) (be (aD (aK (nsN ag 9) (nsL ag 9) z10.nd)) (be (aD (aK (nsN ag 10) (nsL ag 10) z10.nd)) (be (aD (aK (nsN ag 11) (nsL ag 11) z10.nd)) (be (aD (aK (nsN ag 12) (nsL ag 12) z10.nd)) (be (aD (aK (nsN ag 13) (nsL ag 13) z10.nd)) eN))))))))
     (ah (cY qc8 rfl (eZ (ak (pvN 7 ag))) (aD (aK (nsN ag 14) (nsL ag 14) z10.nd)) (ar (dsN ag z10.nd (DL.toO (DO.toL (az cU d7 (ac (pvN 0 ag)) (ac (pvN 14 ag))))))))
     (ah (dsN ag z10.nd (DL.toO (DO.toL (av q46 O (q.mono (by decide)) (ab (ak (pvN 0 ag)) (ab (DO.toL (bc (ab (DO.toL (az aV bP (DO.toB (aR z32 bp cM T.n_len bR (aB (ac (pvN 3 ag)) aL))) (DL.toB af))) (ab (DO.toL (az il kK (DL.toB af) (DL.toB af))) (ab (DO.toL (az aV bP (DO.toB (aR z32 bp cM T.n_len bR (aB (ac (pvN 3 ag)) aL))) (DL.toB af))) (ab (DO.toL (az il kK (DL.toB af) (DL.toB af))) ai)))))) ai))))))
     (ah (dsN ag z10.nd (DL.toO (DO.toL (aj q (DO.toB (az aV bP (ac (pvN 3 ag)) (DO.toB (bc (ab (DO.toL (aj q (ac (pvN 15 ag)) (DL.toB af))) ai))))) (DO.toB (aj q (ac (pvN 15 ag)) (DL.toB af)))))))
     (ah (dsN ag z10.nd (DL.toO (DO.toL (aj q (DO.toB (az aV bP (ac (pvN 3 ag)) (DO.toB (bc (ab (DO.toL (aj q (ac (pvN 15 ag)) (DL.toB af))) ai))))) (DO.toB (aj q (ac (pvN 15 ag)) (DL.toB af)))))))
     (ah (bu (DW.t (d5 (fL q (ac (pvN 8 ag)) (DO.toB (bq (ab af (ab af ai))))) (eG (aM (d6 q) jW (ac (pvN 4 ag)) (DO.toB (bq ai)) (aH _))))) (ar (aO (aj q (DO.toB (bc (ab (DO.toL (bq (ab aS (ab (DO.toL (aj q (ac (pvN 3 ag)) (ac (pvN 9 ag)))) (ab (DO.toL (aj q (DO.toB (aj q (ac (pvN 4 ag)) (ac (pvN 10 ag)))) (DL.toB af))) ai))))) (ab (DO.toL (bq (ab aS (ab (DO.toL (aj q (DO.toB (aj q (ac (pvN 4 ag)) (ac (pvN 10 ag)))) (DL.toB af))) (ab (ak (pvN 16 ag)) ai))))) ai)))) (DO.toB (az gm jK (ac (pvN 8 ag)) (DL.toB af)))))) aT)
     (ah (bu (DW.t (d5 (fL q (ac (pvN 8 ag)) (DO.toB (bq (ab af (ab af ai))))) (eG (aM (d6 q) jW (ac (pvN 5 ag)) (DO.toB (bq ai)) (aH _))))) (ar (aO (aj q (DO.toB (bc (ab (DO.toL (bq (ab aS (ab (DO.toL (aj q (ac (pvN 3 ag)) (ac (pvN 9 ag)))) (ab (DO.toL (aj q (DO.toB (aj q (ac (pvN 5 ag)) (ac (pvN 11 ag)))) (DL.toB af))) (ab (ak (pvN 16 ag)) ai)))))) (ab (DO.toL (bq (ab aS (ab (DO.toL (aj q (DO.toB (aj q (ac (pvN 5 ag)) (ac (pvN 11 ag)))) (DL.toB af))) (ab (ak (pvN 16 ag)) (ab (ak (pvN 17 ag)) ai)))))) ai)))) (DO.toB (az gm jK (ac (pvN 8 ag)) (DL.toB af)))))) aT)
     (ah (bu (aM (bA q) c9 (ac (pvN 8 ag)) (DL.toB af) (aH _)) (ar (aO (bq (ab aS (ab (DO.toL (aj q (ac (pvN 3 ag)) (ac (pvN 9 ag)))) (ab (DO.toL (aj q (DL.toB aS) (ac (pvN 12 ag)))) (ab (ak (pvN 16 ag)) (ab (ak (pvN 17 ag)) ai)))))))) aT)
     (ah (dsN ag z10.nd (DL.toO (DO.toL (bc (ab (DO.toL (bq (ab aS (ab (DO.toL (aj q (ac (pvN 3 ag)) (ac (pvN 9 ag)))) ai)))) (ab (DO.toL (bq (ab aS (ab (ak (pvN 16 ag)) ai)))) (ab (DO.toL (bq (ab aS (ab (ak (pvN 16 ag)) (ab (ak (pvN 13 ag)) ai))))) (ab (DO.toL (bq (ab aS (ab (ak (pvN 13 ag)) ai)))) (ab (DO.toL (bq (ab aS (ab (ak (pvN 16 ag)) ai)))) ai)))))))))
     (ah (bu (aM zN kL (ac (pvN 8 ag)) (DL.toB af) (aH _)) (ar (aO (aj q (ac (pvN 18 ag)) (DO.toB (az gm jK (ac (pvN 8 ag)) (DL.toB af)))))) aT)
     (ar (aO (bq (ab aS (ab (DO.toL (aj q (ac (pvN 3 ag)) (ac (pvN 9 ag)))) (ab (ak (pvN 16 ag)) ai))))))))))))))))))
abbrev q27:Jb:=top 37
theorem q23:FnScope ["_law_number","_law_many","_law_letters","_law_found","_law_digits_here","_law_word"] ["_law_number","_law_many"] (aa q27):=fnS (by decide +kernel)
theorem aN:cw (aa q27) ["_law_number","_law_many","_law_letters","_law_found","_law_digits_here","_law_word"]=true:=by decide +kernel
theorem y110:aC (aa q27) "len"=true:=by decide +kernel
theorem y75:aC (aa q27) "_law_digits"=true:=by decide +kernel
theorem z102:aC (aa q27) "range"=true:=by decide +kernel
theorem y126(T:Txt P w K mg)(D:DefF K mg "_law_names" q27 ["_law_number","_law_many"])(O:OkF P w K mg base "_law_digits" 1 ["_law_number","_law_sizes"] (spD K 2 (z9))):OkF P w K mg base "_law_names" 2 ["_law_number","_law_many"] (spD K 2 q29):=
 bT D q23 rfl fun f cdv A outer s H E q=>(ah (dsN aN q23.nd (DL.toO aS))
     (ah (dsN aN q23.nd (bc ai))
     (ah (eX 100000 qc8 (aM og kL (DO.toB (aR y110 bp cM T.n_len bR (aB (ac (pvN 3 aN)) aL))) (ac (pvN 1 aN)) (aH _)) (ah (dsN aN q23.nd (DL.toO (DO.toL (av y75 O (q.mono (by decide)) (ab (ak (pvN 0 aN)) (ab (DO.toL (bc (ab af (ab af (ab af (ab af (ab af (ab af (ab af ai))))))))) ai))))))
     (ah (dsN aN q23.nd (DL.toO (DO.toL (yn (DL.toB aS) (aB (DO.toB (doC ["_law_k","_law_letters","_law_digits_here"] (by kernel_rfl) (DIF.toB (cy z102 T.n_range (ab (DO.toL (az aV bP (DL.toB af) (DO.toB (aj q (ac (pvN 4 aN)) (DL.toB af))))) ai))) (fun _ _ _ _=>cP) (fun _ _ _ _=>(DO.toL (aj q (ac (pvX (by kernel_rfl))) (DO.toB (aj q (ac (pvX (by kernel_rfl))) (DO.toB (az aV bP (DL.toB af) (ac (pvX (by kernel_rfl)))))))))))) aL)))))
     (ah (dsN aN q23.nd (DL.toO (DO.toL (az cU d7 (ac (pvN 0 aN)) (DO.toB (az gn jL (DL.toB af) (DO.toB (az il kK (DL.toB af) (DL.toB af)))))))))
     (ah (eX 100000 qc8 (fL q (ac (pvN 5 aN)) (ac (pvN 3 aN))) (ar (dsN aN q23.nd (DL.toO (DO.toL (az aV bP (DO.toB (iU (ac (pvN 5 aN)) ng (iT (DO.toB (kN (DL.toB af)))))) (DO.toB (aj q (ac (pvN 2 aN)) (DO.toB (az de d9 (DO.toB (az aV bP (DO.toB (v9 (ac (pvN 2 aN)) (aB (DO.toB (aj q (ac (pvN 5 aN)) (DO.toB (kN (DL.toB af))))) aL))) (DL.toB af))) (DL.toB af)))))))))))
     (ar (cW (pvN 3 aN) (ak (pvN 5 aN)))))))))
     (ar (eJ (pvN 3 aN))))))
abbrev z15:Jb:=top 38
theorem y11:FnScope ["_law_script","_law_number","_law_count","_law_more_here","_law_many","_law_things","_law_cells","_law_k","_law_shelves"] ["_law_script"] (aa z15):=fnS (by decide +kernel)
theorem au:cw (aa z15) ["_law_script","_law_number","_law_count","_law_more_here","_law_many","_law_things","_law_cells","_law_k","_law_shelves"]=true:=by decide +kernel
theorem z33:aC (aa z15) "_law_big"=true:=by decide +kernel
theorem q76:aC (aa z15) "_law_digits"=true:=by decide +kernel
theorem y70:aC (aa z15) "_law_cell_at"=true:=by decide +kernel
theorem z43:aC (aa z15) "_law_names"=true:=by decide +kernel
theorem q57:aC (aa z15) "range"=true:=by decide +kernel
theorem z57:aC (aa z15) "tuple"=true:=by decide +kernel
theorem z128(T:Txt P w K mg)(D:DefF K mg "_law_world" z15 ["_law_script"])(O:OkF P w K mg base "_law_big" 2 ["_law_script","_law_k"] (spD K 2 (z16)))(Z:OkF P w K mg base "_law_cell_at" 1 ["_law_script","_law_k"] (spD K 2 (y1)))(z11:OkF P w K mg base "_law_digits" 1 ["_law_number","_law_sizes"] (spD K 2 (z9)))(Y:OkF P w K mg base "_law_names" 2 ["_law_number","_law_many"] (spD K 2 (q29))):OkF P w K mg base "_law_world" 3 ["_law_script"] (spD K 1 z21):=
 bT D y11 rfl fun f cdv A outer s H E q=>(ah (dsN au y11.nd (DL.toO (DO.toL (av z33 O (q.mono (by decide)) (ab (ak (pvN 0 au)) (ab af ai))))))
     (ah (kG (DO.toL (av q76 z11 (q.mono (by decide)) (ab (ak (pvN 1 au)) (ab (DO.toL (bc (ab af (ab af (ab af ai))))) ai)))) (qj rfl (be (aD (aK (nsN au 2) (nsL au 2) y11.nd)) (be (aD (aK (nsN au 3) (nsL au 3) y11.nd)) (be (aD (aK (nsN au 4) (nsL au 4) y11.nd)) eN)))))
     (ah (dsN au y11.nd (DL.toO (DO.toL (az cU d7 (ac (pvN 1 au)) (DL.toB af)))))
     (ah (dsN au y11.nd (DL.toO (DO.toL (av z43 Y (q.mono (by decide)) (ab (DO.toL (av z33 O (q.mono (by decide)) (ab (ak (pvN 0 au)) (ab (DO.toL (aj q (DO.toB (bc (ab af (ab af (ab af ai))))) (DO.toB (az de d9 (DO.toB (az cU d7 (DO.toB (av y70 Z (q.mono (by decide)) (ab (ak (pvN 0 au)) (ab af ai)))) (DL.toB af))) (DL.toB af))))) ai)))) (ab af ai))))))
     (ah (dsN au y11.nd (bc ai))
     (ah (cY qc8 rfl (cy q57 T.n_range (ab (ak (pvN 2 au)) ai)) (aD (aK (nsN au 7) (nsL au 7) y11.nd)) (ah (cW (pvN 6 au) (DO.toL (bq (ab (DO.toL (aj q (ac (pvN 5 au)) (ac (pvN 7 au)))) (ab (DO.toL (az de d9 (ac (pvN 1 au)) (DO.toB (az il kK (DL.toB af) (DL.toB af))))) (ab (DO.toL (gA (bA q) c9 (DO.toB (az de d9 (DO.toB (az cU d7 (ac (pvN 1 au)) (DO.toB (az il kK (DL.toB af) (DL.toB af))))) (DL.toB af))) (DL.toB af) (aH _))) ai))))))
     (ar (dsN au y11.nd (DL.toO (DO.toL (az cU d7 (ac (pvN 1 au)) (DO.toB (az il kK (DL.toB af) (DL.toB af))))))))))
     (ah (dsN au y11.nd (bc ai))
     (ah (cY qc8 rfl (cy q57 T.n_range (ab (ak (pvN 3 au)) ai)) (aD (aK (nsN au 7) (nsL au 7) y11.nd)) (ah (cW (pvN 8 au) (DO.toL (bq (ab (DO.toL (aj q (ac (pvN 5 au)) (DO.toB (az aV bP (DL.toB af) (ac (pvN 7 au)))))) (ab (DO.toL (az aV bP (DL.toB af) (DO.toB (az de d9 (ac (pvN 1 au)) (DL.toB af))))) (ab (DO.toL (gA (bA q) c9 (DO.toB (az de d9 (DO.toB (az cU d7 (ac (pvN 1 au)) (DL.toB af))) (DL.toB af))) (DL.toB af) (aH _))) ai))))))
     (ar (dsN au y11.nd (DL.toO (DO.toL (az cU d7 (ac (pvN 1 au)) (DL.toB af))))))))
     (ar (aO (bq (ab (DO.toL (av z43 Y (q.mono (by decide)) (ab (DO.toL (av z33 O (q.mono (by decide)) (ab (ak (pvN 0 au)) (ab af ai)))) (ab (DO.toL (az aV bP (DL.toB af) (ac (pvN 4 au)))) ai)))) (ab (DO.toL (dk z57 cV gW T.n_tuple eT (aB (ac (pvN 6 au)) aL))) (ab (DO.toL (dk z57 cV gW T.n_tuple eT (aB (ac (pvN 8 au)) aL))) (ab (ak (pvN 1 au)) ai)))))))))))))))
abbrev y9:Jb:=top 40
theorem q15:FnScope ["_law_script","_law_most","_law_world_here","_law_many","_law_rows","_law_last","_law_goal","_law_box","_law_number"] ["_law_script","_law_most"] (aa y9):=fnS (by decide +kernel)
theorem ay:cw (aa y9) ["_law_script","_law_most","_law_world_here","_law_many","_law_rows","_law_last","_law_goal","_law_box","_law_number"]=true:=by decide +kernel
theorem z73:aC (aa y9) "_law_world"=true:=by decide +kernel
theorem q58:aC (aa y9) "len"=true:=by decide +kernel
theorem y100:aC (aa y9) "min"=true:=by decide +kernel
theorem y102:aC (aa y9) "max"=true:=by decide +kernel
theorem z94:aC (aa y9) "range"=true:=by decide +kernel
theorem z68:aC (aa y9) "_law_digits"=true:=by decide +kernel
theorem q94:aC (aa y9) "tuple"=true:=by decide +kernel
theorem q116(T:Txt P w K mg)(D:DefF K mg "_law_program" y9 ["_law_script","_law_most"])(O:OkF P w K mg base "_law_big" 2 ["_law_script","_law_k"] (spD K 2 (z16)))(Y:OkF P w K mg base "_law_digits" 1 ["_law_number","_law_sizes"] (spD K 2 (z9)))(y96:OkF P w K mg base "_law_row" 2 ["_law_number","_law_world_here","_law_many"] (spD K 3 (q53)))(Z:OkF P w K mg base "_law_world" 3 ["_law_script"] (spD K 1 (z21))):OkF P w K mg base "_law_program" 4 ["_law_script","_law_most"] (spD K 2 y35):=
 bT D q15 rfl fun f cdv A outer s H E q=>(ah (dsN ay q15.nd (DL.toO (DO.toL (av z73 Z (q.mono (by decide)) (ab (ak (pvN 0 ay)) ai)))))
     (ah (dsN ay q15.nd (DL.toO (DO.toL (aR y102 (jw rfl) v6 T.n_max pX (aB (DL.toB af) (aB (DO.toB (aR y100 (tG rfl) Ei T.n_min BD (aB (DO.toB (az gm jK (DO.toB (aR q58 bp cM T.n_len bR (aB (ac (pvN 0 ay)) aL))) (DL.toB af))) (aB (DO.toB (az aV bP (DL.toB af) (ac (pvN 1 ay)))) aL)))) aL))))))
     (ah (yu (nsN ay 4) (nsL ay 4) q15.nd (M:=["_law_k","_law_script","_law_world_here","_law_many"]) (src:=[none,some 0,some 2,some 3]) (ts:=[0]) (CmpScope.of (by kernel_rfl)) rfl (DIF.toB (cy z94 T.n_range (ab (DO.toL (az gm jK (ac (pvN 3 ay)) (DL.toB af))) ai))) (fun nd _ _ _ _=>(aD (cC (N:=["_law_k","_law_script","_law_world_here","_law_many"]) (i:=0) (by decide +kernel) (by decide +kernel) nd (scC (outer:=aa y9) (by exact rfl))))) (fun _ _ _ _=>cP) (fun _ _ _ _=>(DO.toL (av (by decide +kernel) y96 (q.mono (by decide)) (ab (DO.toL (av (by decide +kernel) O (q.mono (by decide)) (ab (ak (pvX (by kernel_rfl))) (ab (DO.toL (az aV bP (DL.toB af) (ac (pvX (by kernel_rfl))))) ai)) (e1:=(scC (outer:=aa y9) rfl)))) (ab (ak (pvX (by kernel_rfl))) (ab (ak (pvX (by kernel_rfl))) ai))) (e1:=(scC (outer:=aa y9) rfl))))) (by decide +kernel))
     (ah (kG (DO.toL (av z68 Y (q.mono (by decide)) (ab (DO.toL (aj q (ac (pvN 2 ay)) (DL.toB af))) (ab (DO.toL (bc (ab af (ab (ak (pvN 3 ay)) (ab (DO.toL (az aV bP (DO.toB (aR q58 bp cM T.n_len bR (aB (DO.toB (aj q (ac (pvN 2 ay)) (DL.toB af))) aL))) (DL.toB af))) (ab (DO.toL (az il kK (DL.toB af) (DL.toB af))) ai)))))) ai)))) (qj rfl (be (aD (aK (nsN ay 5) (nsL ay 5) q15.nd)) (be (aD (aK (nsN ay 6) (nsL ay 6) q15.nd)) (be (aD (aK (nsN ay 7) (nsL ay 7) q15.nd)) (be (aD (aK (nsN ay 8) (nsL ay 8) q15.nd)) eN))))))
     (ah (cW (pvN 4 ay) (DO.toL (aj q (DO.toB (bc (ab (DO.toL (bq (ab aS (ab (DO.toL (aj q (DO.toB (az aV bP (DO.toB (aj q (ac (pvN 2 ay)) (DL.toB af))) (DO.toB (bc (ab (ak (pvN 8 ay)) ai))))) (ac (pvN 7 ay)))) ai)))) (ab (DO.toL (bq (ab aS (ab (ak (pvN 6 ay)) ai)))) ai)))) (ac (pvN 5 ay)))))
     (ar (aO (bq (ab (DO.toL (aj q (ac (pvN 2 ay)) (DL.toB af))) (ab (DO.toL (aj q (ac (pvN 2 ay)) (DL.toB af))) (ab (DO.toL (dk q94 cV gW T.n_tuple eT (aB (ac (pvN 4 ay)) aL))) ai)))))))))))
abbrev q66:Jb:=top 19
theorem y130:FnScope ["code"] ["code"] (aa q66):=fnS (by decide +kernel)
theorem nB:cw (aa q66) ["code"]=true:=by decide +kernel
theorem z134(T:Txt P w K mg)(D:DefF K mg "kept_rows" q66 ["code"]):OkF P w K mg base "kept_rows" 1 ["code"] (spD K 1 y12):=bT D y130 rfl fun f cdv A outer s H E q=>(ar (aO (doC ["keep"] (by kernel_rfl) (cb (DO.toB (aj q (ac (pvN 0 nB)) (DL.toB af)))) (fun _ _ _ _=>cP) (fun _ _ _ _=>(DO.toL (aj q (ac (pvX (by kernel_rfl))) (DL.toB af)))))))
abbrev y39:Jb:=top 24
theorem q54:FnScope ["program","code","kept","number","row"] ["program","code"] (aa y39):=fnS (by decide +kernel)
theorem bQ:cw (aa y39) ["program","code","kept","number","row"]=true:=by decide +kernel
theorem q89:aC (aa y39) "kept_rows"=true:=by decide +kernel
theorem z87:aC (aa y39) "enumerate"=true:=by decide +kernel
theorem q133(T:Txt P w K mg)(D:DefF K mg "end_fault" y39 ["program","code"])(O:OkF P w K mg base "kept_rows" 1 ["code"] (spD K 1 (y12))):OkF P w K mg base "end_fault" 2 ["program","code"] (spD K 2 y40):=
 bT D q54 rfl fun f cdv A outer s H E q=>(ah (dsN bQ q54.nd (DL.toO (DO.toL (av q89 O (q.mono (by decide)) (ab (ak (pvN 1 bQ)) ai)))))
     (ah (cY qc8 rfl (iW z87 T.n_enumerate (ab (DO.toL (aj q (ac (pvN 0 bQ)) (DL.toB af))) ai)) (jn rfl (be (aD (aK (nsN bQ 3) (nsL bQ 3) q54.nd)) (be (aD (aK (nsN bQ 4) (nsL bQ 4) q54.nd)) eN))) (ar (bu (DW.t (d5 (aM (bA q) c9 (DO.toB (aj q (ac (pvN 4 bQ)) (DL.toB af))) (DL.toB aS) (aH _)) (eG (dE q (ac (pvN 3 bQ)) (ac (pvN 2 bQ)))))) (ar b9) aT)))
     (ar (aO (DL.toO cO)))))
abbrev q91:Jb:=top 10
theorem q141:FnScope ["row"] ["row"] (aa q91):=fnS (by decide +kernel)
theorem pb:cw (aa q91) ["row"]=true:=by decide +kernel
theorem y112:aC (aa q91) "SETTING"=true:=by decide +kernel
theorem q139(T:Txt P w K mg)(D:DefF K mg "gives" q91 ["row"]):OkF P w K mg base "gives" 1 ["row"] (spD K 1 z52):=bT D q141 rfl fun f cdv A outer s H E q=>(ar (aO (rC (fL q (DO.toB (aj q (ac (pvN 0 pb)) (DL.toB af))) (DL.toB (dU y112 T.g_B))) (aj q (ac (pvN 0 pb)) (DL.toB af)) (DL.toO cO))))
abbrev z90:Jb:=top 8
theorem q135:FnScope ["row","bounds"] ["row"] (aa z90):=fnS (by decide +kernel)
theorem fN:cw (aa z90) ["row","bounds"]=true:=by decide +kernel
theorem z55:aC (aa z90) "ATOM_PLACES"=true:=by decide +kernel
theorem y140(T:Txt P w K mg)(D:DefF K mg "atoms" z90 ["row"]):OkF P w K mg base "atoms" 1 ["row"] (spD K 1 yK):=
 bT D q135 rfl fun f cdv A outer s H E q=>(ah (bu (BT z55 T.g_A (DO.toB (aj q (ac (pvN 0 fN)) (DL.toB af)))) (ar (aO (bq ai))) aT)
     (ah (dsN fN q135.nd (DL.toO (DO.toL (Ef z55 T.g_A (DO.toB (aj q (ac (pvN 0 fN)) (DL.toB af)))))))
     (ar (aO (iU (ac (pvN 0 fN)) (iT (DO.toB (aj q (ac (pvN 1 fN)) (DL.toB af)))) (iT (DO.toB (aj q (ac (pvN 1 fN)) (DL.toB af)))))))))
abbrev y60:Jb:=top 9
theorem z114:FnScope ["row","boxes","atom"] ["row"] (aa y60):=fnS (by decide +kernel)
theorem dl:cw (aa y60) ["row","boxes","atom"]=true:=by decide +kernel
theorem z119:aC (aa y60) "atoms"=true:=by decide +kernel
theorem z101:aC (aa y60) "isinstance"=true:=by decide +kernel
theorem y132:aC (aa y60) "str"=true:=by decide +kernel
theorem z139(T:Txt P w K mg)(D:DefF K mg "reads" y60 ["row"])(q:OkF P w K mg base "atoms" 1 ["row"] (spD K 1 (yK))):OkF P w K mg base "reads" 2 ["row"] (spD K 1 z51):=
 bT D z114 rfl fun f cdv A outer s H E O=>(ah (dsN dl z114.nd (bc ai))
     (ah (cY qc8 rfl (eZ (DO.toL (av z119 q (O.mono (by decide)) (ab (ak (pvN 0 dl)) ai)))) (aD (aK (nsN dl 2) (nsL dl 2) z114.nd)) (ar (bu (DW.t (d5 (b8 (DO.toB (dy z101 y132 T.n_isinstance T.n_str pY T.k_str (ac (pvN 2 dl)))) (fun _=>rfl)) (eG (dE O (ac (pvN 2 dl)) (ac (pvN 1 dl)))))) (ar (cW (pvN 1 dl) (ak (pvN 2 dl)))) aT)))
     (ar (eJ (pvN 1 dl)))))
abbrev z18:Jb:=top 11
theorem z56:FnScope ["row","behind","boxes","later"] ["row","behind"] (aa z18):=fnS (by decide +kernel)
theorem bM:cw (aa z18) ["row","behind","boxes","later"]=true:=by decide +kernel
theorem y89:aC (aa z18) "reads"=true:=by decide +kernel
theorem z88:aC (aa z18) "sorted"=true:=by decide +kernel
theorem q99:aC (aa z18) "set"=true:=by decide +kernel
theorem y115(T:Txt P w K mg)(D:DefF K mg "needed_ahead" z18 ["row","behind"])(Y:OkF P w K mg base "gives" 1 ["row"] (spD K 1 (z52)))(q:OkF P w K mg base "reads" 2 ["row"] (spD K 1 (z51))):OkF P w K mg base "needed_ahead" 3 ["row","behind"] (spD K 2 q20):=
 bT D z56 rfl fun f cdv A outer s H E O=>(ah (dsN bM z56.nd (av y89 q (O.mono (by decide)) (ab (ak (pvN 0 bM)) ai)))
     (ah (cY qc8 rfl (eZ (ak (pvN 1 bM))) (aD (aK (nsN bM 3) (nsL bM 3) z56.nd)) (ar (t4 (pvN 2 bM) (doC ["box","row"] (by kernel_rfl) (cb (ac (pvN 3 bM))) (fun _ _ _ _=>c8 (aM (d6 O) jW (ac (pvX (by kernel_rfl))) (DO.toB (av (by decide +kernel) Y (O.mono (by decide)) (ab (ak (pvX (by kernel_rfl))) ai) (e1:=(scC (outer:=aa z18) rfl)))) (aH _))) (fun _ _ _ _=>(ak (pvX (by kernel_rfl))))))))
     (ar (aO (kZ z88 q99 rfl T.n_sorted T.n_set (aB (ac (pvN 2 bM)) aL))))))
abbrev z84:Jb:=top 1
theorem z137:FnScope ["number","row"] ["number","row"] (aa z84):=fnS (by decide +kernel)
theorem dv:cw (aa z84) ["number","row"]=true:=by decide +kernel
theorem q137(T:Txt P w K mg)(D:DefF K mg "ways_of" z84 ["number","row"]):OkF P w K mg base "ways_of" 1 ["number","row"] (spD K 2 y85):=
 bT D z137 rfl fun f cdv A outer s H E q=>(ah (bu (aM (bA q) c9 (DO.toB (aj q (ac (pvN 1 dv)) (DL.toB af))) (DL.toB aS) (aH _)) (ar (aO (bq (ab (DO.toL (aj q (ac (pvN 1 dv)) (DL.toB af))) ai)))) aT)
     (ah (bu (aM (bA q) c9 (DO.toB (aj q (ac (pvN 1 dv)) (DL.toB af))) (DL.toB aS) (aH _)) (ar (aO (bq (ab (DO.toL (aj q (ac (pvN 1 dv)) (DL.toB af))) (ab (DO.toL (az aV bP (ac (pvN 0 dv)) (DL.toB af))) ai))))) aT)
     (ah (bu (aM (bA q) c9 (DO.toB (aj q (ac (pvN 1 dv)) (DL.toB af))) (DL.toB aS) (aH _)) (ar (aO (bq ai))) aT)
     (ar (aO (bq (ab (DO.toL (az aV bP (ac (pvN 0 dv)) (DL.toB af))) ai)))))))
abbrev gJ:Jb:=top 2
theorem y141:FnScope ["program"] ["program"] (aa gJ):=fnS (by decide +kernel)
theorem yL:cw (aa gJ) ["program"]=true:=by decide +kernel
theorem q111:aC (aa gJ) "enumerate"=true:=by decide +kernel
theorem q142(T:Txt P w K mg)(D:DefF K mg "ways" gJ ["program"])(q:OkF P w K mg base "ways_of" 1 ["number","row"] (spD K 2 (y85))):OkF P w K mg base "ways" 2 ["program"] (spD K 1 dg):=bT D y141 rfl fun f cdv A outer s H E O=>(ar (aO (j3 (M:=["number","row"]) (src:=[none,none]) (ts:=[0,1]) (CmpScope.of (by kernel_rfl)) rfl (DIF.toB (iW q111 T.n_enumerate (ab (DO.toL (aj O (ac (pvN 0 yL)) (DL.toB af))) ai))) (fun Y _ _ _ _=>(jn rfl (be (aD (cC (N:=["number","row"]) (i:=0) (by decide +kernel) (by decide +kernel) Y (scC (outer:=aa gJ) (by exact rfl)))) (be (aD (cC (N:=["number","row"]) (i:=1) (by decide +kernel) (by decide +kernel) Y (scC (outer:=aa gJ) (by exact rfl)))) eN)))) (fun _ _ _ _=>cP) (fun _ _ _ _=>(DO.toL (av (by decide +kernel) q (O.mono (by decide)) (ab (ak (pvX (by kernel_rfl))) (ab (ak (pvX (by kernel_rfl))) ai)) (e1:=(scC (outer:=aa gJ) rfl))))) (by decide +kernel))))
abbrev y42:Jb:=top 12
theorem y32:FnScope ["program","rows","onward","found","changed","number","boxes"] ["program"] (aa y42):=fnS (by decide +kernel)
theorem aY:cw (aa y42) ["program","rows","onward","found","changed","number","boxes"]=true:=by decide +kernel
theorem q122:aC (aa y42) "ways"=true:=by decide +kernel
theorem z126:aC (aa y42) "len"=true:=by decide +kernel
theorem z116:aC (aa y42) "range"=true:=by decide +kernel
theorem q88:aC (aa y42) "needed_ahead"=true:=by decide +kernel
theorem y137(T:Txt P w K mg)(D:DefF K mg "needed" y42 ["program"])(Y:OkF P w K mg base "needed_ahead" 3 ["row","behind"] (spD K 2 (q20)))(O:OkF P w K mg base "ways" 2 ["program"] (spD K 1 (dg))):OkF P w K mg base "needed" 4 ["program"] (spD K 1 z28):=
 bT D y32 rfl fun f cdv A outer s H E q=>(ah (dsN aY y32.nd (DL.toO (DO.toL (aj q (ac (pvN 0 aY)) (DL.toB af)))))
     (ah (dsN aY y32.nd (DL.toO (DO.toL (av q122 O (q.mono (by decide)) (ab (ak (pvN 0 aY)) ai)))))
     (ah (dsN aY y32.nd (doC ["row"] (by kernel_rfl) (cb (ac (pvN 1 aY))) (fun _ _ _ _=>cP) (fun _ _ _ _=>(DO.toL (bc ai)))))
     (ah (dsN aY y32.nd (DL.toO gh))
     (ah (eX 100000 qc8 (b8 (ac (pvN 4 aY)) (fun _=>rfl)) (ah (dsN aY y32.nd (DL.toO gh))
     (ar (cY qc8 rfl (tP z116 T.n_range (ab (DO.toL (az gm jK (DO.toB (aR z126 bp cM T.n_len bR (aB (ac (pvN 1 aY)) aL))) (DL.toB af))) (ab (DO.toL (kN (DL.toB af))) (ab (DO.toL (kN (DL.toB af))) ai)))) (aD (aK (nsN aY 5) (nsL aY 5) y32.nd)) (ah (dsN aY y32.nd (DL.toO (DO.toL (av q88 Y (q.mono (by decide)) (ab (DO.toL (aj q (ac (pvN 1 aY)) (ac (pvN 5 aY)))) (ab (DO.toL (doC ["way","found"] (by kernel_rfl) (cb (DO.toB (aj q (ac (pvN 2 aY)) (ac (pvN 5 aY))))) (fun _ _ _ _=>cP) (fun _ _ _ _=>(DO.toL (aj q (ac (pvX (by kernel_rfl))) (ac (pvX (by kernel_rfl)))))))) ai))))))
     (ar (bu (aM (d6 q) jW (ac (pvN 6 aY)) (DO.toB (aj q (ac (pvN 3 aY)) (ac (pvN 5 aY)))) (aH _)) (ah (ni q (pvN 3 aY) (ac (pvN 5 aY)) (ak (pvN 6 aY)))
     (ar (dsN aY y32.nd (DL.toO gh)))) aT)))))))
     (ar (eJ (pvN 3 aY))))))))
abbrev z62:Jb:=top 3
theorem y84:FnScope ["came_from","last","places","here"] ["came_from","last"] (aa z62):=fnS (by decide +kernel)
theorem cX:cw (aa z62) ["came_from","last","places","here"]=true:=by decide +kernel
theorem z123:aC (aa z62) "list"=true:=by decide +kernel
theorem y103:aC (aa z62) "reversed"=true:=by decide +kernel
theorem z138(T:Txt P w K mg)(D:DefF K mg "traced" z62 ["came_from","last"]):OkF P w K mg base "traced" 1 ["came_from","last"] (spD K 2 z50):=
 bT D y84 rfl fun f cdv A outer s H E q=>(ah (dsN cX y84.nd (bc ai))
     (ah (dsN cX y84.nd (DL.toO (ak (pvN 1 cX))))
     (ah (eX 100000 qc8 (aM mQ m9 (ac (pvN 3 cX)) (DL.toB cO) (aH _)) (ah (cW (pvN 2 cX) (ak (pvN 3 cX)))
     (ar (dsN cX y84.nd (DL.toO (DO.toL (aj q (ac (pvN 0 cX)) (ac (pvN 3 cX)))))))))
     (ar (aO (qA z123 y103 T.n_list T.n_reversed rfl (ac (pvN 2 cX))))))))
abbrev q60:Jb:=top 4
theorem q43:FnScope ["starts","behind","fits","came_from","start","queue","looked","here","there"] ["starts","behind","fits"] (aa q60):=fnS (by decide +kernel)
theorem aU:cw (aa q60) ["starts","behind","fits","came_from","start","queue","looked","here","there"]=true:=by decide +kernel
theorem z127:aC (aa q60) "list"=true:=by decide +kernel
theorem y134:aC (aa q60) "len"=true:=by decide +kernel
theorem y117:aC (aa q60) "traced"=true:=by decide +kernel
theorem z140(T:Txt P w K mg)(D:DefF K mg "route" q60 ["starts","behind","fits"])(O:OkF P w K mg base "traced" 1 ["came_from","last"] (spD K 2 (z50))):OkF P w K mg base "route" 4 ["starts","behind","fits"] (spR P w K mg base 3 q93):=
 vE D q43 rfl fun f cdv A outer s H E q G Y=>(ah (dsN aU q43.nd yo)
     (ah (cY qc8 rfl (eZ (ak (pvN 0 aU))) (aD (aK (nsN aU 4) (nsL aU 4) q43.nd)) (ar (ni q (pvN 3 aU) (ac (pvN 4 aU)) cO)))
     (ah (dsN aU q43.nd (dk z127 (k8 rfl) r0 T.n_list gU (aB (ac (pvN 3 aU)) aL)))
     (ah (dsN aU q43.nd (DL.toO af))
     (ah (eX 100000 qc8 (aM og kL (ac (pvN 6 aU)) (DO.toB (aR y134 bp cM T.n_len bR (aB (ac (pvN 5 aU)) aL))) (aH _)) (ah (dsN aU q43.nd (DL.toO (DO.toL (aj q (ac (pvN 5 aU)) (ac (pvN 6 aU))))))
     (ah (kO (nsN aU 6) (nsL aU 6) q43.nd (DL.toB af))
     (ah (bu (b8 (DO.toB (j5 (pvN 2 aU) Y (q.mono (by decide)) (ab (ak (pvN 7 aU)) ai))) (fun _=>rfl)) (ar (rD (i:=3) (aO (av y117 O (q.mono (by decide)) (ab (ak (pvN 3 aU)) (ab (ak (pvN 7 aU)) ai)))))) aT)
     (ar (cY qc8 rfl (eZ (DO.toL (j5 (pvN 1 aU) Y (q.mono (by decide)) (ab (ak (pvN 7 aU)) ai)))) (aD (aK (nsN aU 8) (nsL aU 8) q43.nd)) (ar (bu (dE q (ac (pvN 8 aU)) (ac (pvN 3 aU))) (ah (ni q (pvN 3 aU) (ac (pvN 8 aU)) (ak (pvN 7 aU)))
     (ar (cW (pvN 5 aU) (ak (pvN 8 aU))))) aT))))))))
     (ar b9))))))
abbrev z8:Jb:=top 28
theorem y23:FnScope ["program","start","box","rows","onward","behind","fits"] ["program","start","box"] (aa z8):=fnS (by decide +kernel)
theorem bf:cw (aa z8) ["program","start","box","rows","onward","behind","fits"]=true:=by decide +kernel
theorem y88:aC (aa z8) "ways"=true:=by decide +kernel
theorem y82:aC (aa z8) "route"=true:=by decide +kernel
abbrev z12:Jb:=(bh z8).getD 2 (.Pass ⟨0,0,0,0⟩)
theorem y29:NsC (aa z8) ["program","start","box","rows","onward","behind","fits"] ["row","box","rows","onward"] ["row"] ["box","rows","onward"] [2,3,4] (aa z12):=NsC.of (by decide +kernel)
theorem q39:cS (aa z12) ["row","box","rows","onward"] 0 "row"=true:=by decide +kernel
theorem q70:cS (aa z12) ["row","box","rows","onward"] 1 "box"=true:=by decide +kernel
theorem q71:cS (aa z12) ["row","box","rows","onward"] 2 "rows"=true:=by decide +kernel
theorem z71:cS (aa z12) ["row","box","rows","onward"] 3 "onward"=true:=by decide +kernel
theorem y52:aC (aa z12) "gives"=true:=by decide +kernel
abbrev y17:Jb:=(bh z8).getD 3 (.Pass ⟨0,0,0,0⟩)
theorem q33:NsC (aa z8) ["program","start","box","rows","onward","behind","fits"] ["row","box","rows"] ["row"] ["box","rows"] [2,3] (aa y17):=NsC.of (by decide +kernel)
theorem z81:cS (aa y17) ["row","box","rows"] 0 "row"=true:=by decide +kernel
theorem z80:cS (aa y17) ["row","box","rows"] 1 "box"=true:=by decide +kernel
theorem z82:cS (aa y17) ["row","box","rows"] 2 "rows"=true:=by decide +kernel
theorem z59:aC (aa y17) "reads"=true:=by decide +kernel
theorem q112(T:Txt P w K mg)(D:DefC K mg "way_to_reading" z8 ["program","start","box"] c)(B:TabB mg base c Pt)(hT:(Pt,kj "way_to_reading" (bh z8))∈dA K)(z78:OkF P w K mg base "gives" 1 ["row"] (spD K 1 (z52)))(Z:OkF P w K mg base "reads" 2 ["row"] (spD K 1 (z51)))(Y:OkF P w K mg base "route" 4 ["starts","behind","fits"] (spR P w K mg base 3 q93))(O:OkF P w K mg base "ways" 2 ["program"] (spD K 1 (dg))):OkF P w K mg base "way_to_reading" 5 ["program","start","box"] (spD K 3 (y16)):=
 wb D y23 rfl fun f A outer s H E q=>(ah (dsN bf y23.nd (DL.toO (DO.toL (aj q (ac (pvN 0 bf)) (DL.toB af)))))
     (ah (dsN bf y23.nd (DL.toO (DO.toL (av y88 O (q.mono (by decide)) (ab (ak (pvN 0 bf)) ai)))))
     (oT (i1:=5) (i2:=6) (by decide) (wa (NX:=["program","start","box","rows","onward","behind","fits"]) rfl) (j7 (qual:="way_to_reading.<locals>.behind") (nsN bf 5) (nsL bf 5) y23.nd y29 B hT (by decide +kernel)) (j7 (qual:="way_to_reading.<locals>.fits") (nsN bf 6) (nsL bf 6) y23.nd q33 B hT (by decide +kernel))
     (qS (yC (Ae (i1:=5) (i2:=6) Y (q.mono (by decide)) (glD y82) (fun _=>rfl) (DO.toL (bc (ab (ak (pvN 1 bf)) ai))) (pvN 5 bf) (pvN 6 bf) (NestD.of y29 (fun s cl doc pm ctv cd us hl=>match us,hl with|[_],_=>.of_eq rfl) fun f c' cl A outer s H q=>(ar (aO (rC (aM (bA q) c9 (DO.toB (av y52 z78 (q.mono (by decide)) (ab (DO.toL (aj q (ac (pvD 2 q71)) (ac (pvD 0 q39)))) ai))) (ac (pvD 1 q70)) (aH _)) (bc ai) (aj q (ac (pvD 3 z71)) (ac (pvD 0 q39))))))) (NestD.of q33 (fun s cl doc pm ctv cd us hl=>match us,hl with|[_],_=>.of_eq rfl) fun f c' cl A outer s H q=>(ar (aO (zY q (ac (pvD 1 z80)) (DO.toB (av z59 Z (q.mono (by decide)) (ab (DO.toL (aj q (ac (pvD 2 z82)) (ac (pvD 0 z81)))) ai))))))) y29.all q33.all))))))
abbrev z35:Jb:=top 29
theorem y22:FnScope ["program","code","wanted","places","start","boxes","begin","box"] ["program","code"] (aa z35):=fnS (by decide +kernel)
theorem aI:cw (aa z35) ["program","code","wanted","places","start","boxes","begin","box"]=true:=by decide +kernel
theorem y94:aC (aa z35) "needed"=true:=by decide +kernel
theorem y62:aC (aa z35) "way_to_reading"=true:=by decide +kernel
theorem q129(T:Txt P w K mg)(D:DefF K mg "lost_fault" z35 ["program","code"])(O:OkF P w K mg base "needed" 4 ["program"] (spD K 1 (z28)))(Y:OkF P w K mg base "way_to_reading" 5 ["program","start","box"] (spD K 3 (y16))):OkF P w K mg base "lost_fault" 6 ["program","code"] (spD K 2 q21):=
 bT D y22 rfl fun f cdv A outer s H E q=>(ah (dsN aI y22.nd (DL.toO (DO.toL (av y94 O (q.mono (by decide)) (ab (ak (pvN 0 aI)) ai)))))
     (ah (dsN aI y22.nd (DL.toO (DO.toL (az aV bP (DO.toB (bc (ab (DO.toL (bq (ab af (ab (DO.toL (aj q (ac (pvN 1 aI)) (DL.toB af))) (ab gh ai))))) ai))) (DO.toB (doC ["keep"] (by kernel_rfl) (cb (DO.toB (aj q (ac (pvN 1 aI)) (DL.toB af)))) (fun _ _ _ _=>cP) (fun _ _ _ _=>(DO.toL (bq (ab (DO.toL (aj q (ac (pvX (by kernel_rfl))) (DL.toB af))) (ab (DO.toL (aj q (ac (pvX (by kernel_rfl))) (DL.toB af))) (ab gh ai))))))))))))
     (ah (cY qc8 rfl (eZ (ak (pvN 3 aI))) (jn rfl (be (aD (aK (nsN aI 4) (nsL aI 4) y22.nd)) (be (aD (aK (nsN aI 5) (nsL aI 5) y22.nd)) (be (aD (aK (nsN aI 6) (nsL aI 6) y22.nd)) eN)))) (ar (cY qc8 rfl (eZ (DO.toL (aj q (ac (pvN 2 aI)) (ac (pvN 4 aI))))) (aD (aK (nsN aI 7) (nsL aI 7) y22.nd)) (ar (bu (dE q (ac (pvN 7 aI)) (ac (pvN 5 aI))) (ar (aO (bq (ab aS (ab (ak (pvN 7 aI)) (ab (DO.toL (av y62 Y (q.mono (by decide)) (ab (ak (pvN 0 aI)) (ab (ak (pvN 4 aI)) (ab (ak (pvN 7 aI)) ai))))) (ab (ak (pvN 6 aI)) ai))))))) aT)))))
     (ar (aO (DL.toO cO))))))
abbrev q18:Jb:=top 25
theorem z22:FnScope ["onward","rows","left","fewer","staying"] ["onward","rows"] (aa q18):=fnS (by decide +kernel)
theorem aZ:cw (aa q18) ["onward","rows","left","fewer","staying"]=true:=by decide +kernel
theorem z58:aC (aa q18) "len"=true:=by decide +kernel
theorem y118(T:Txt P w K mg)(D:DefF K mg "endless_rows" q18 ["onward","rows"]):OkF P w K mg base "endless_rows" 1 ["onward","rows"] (spD K 2 z26):=
 bT D z22 rfl fun f cdv A outer s H E O=>(ah (dsN aZ z22.nd (DL.toO (ak (pvN 1 aZ))))
     (ah (dsN aZ z22.nd (DL.toO gh))
     (ah (eX 100000 qc8 (b8 (ac (pvN 3 aZ)) (fun _=>rfl)) (ah (fj (nsN aZ 4) (nsL aZ 4) z22.nd (M:=["row","onward","left"]) (src:=[none,some 0,some 2]) (ts:=[0]) (CmpScope.of (by kernel_rfl)) rfl (cb (ac (pvN 2 aZ))) (fun q _ _ _ _=>(aD (cC (N:=["row","onward","left"]) (i:=0) (by decide +kernel) (by decide +kernel) q (scC (outer:=aa q18) (by exact rfl))))) (fun _ _ _ _=>c8 (b8 (DO.toB (aR (by decide +kernel) (uZ rfl) (zV (f:=fun bs=>bs.any id)) T.n_any BC (aB (DO.toB (j3 (M:=["way","left"]) (src:=[none,some 2]) (ts:=[0]) (CmpScope.of (by kernel_rfl)) rfl (cb (DO.toB (aj O (ac (pvX (by kernel_rfl))) (ac (pvX (by kernel_rfl)))))) (fun q _ _ _ _=>(aD (cC (N:=["way","left"]) (i:=0) (by decide +kernel) (by decide +kernel) q (scC (scC (outer:=aa q18) (by exact rfl)))))) (fun _ _ _ _=>cP) (fun _ _ _ _=>(DO.toL (zY O (ac (pvX (by kernel_rfl))) (ac (pvX (by kernel_rfl)))))) (by decide +kernel))) aL) (e1:=(scC (outer:=aa q18) rfl)))) (fun _=>rfl))) (fun _ _ _ _=>(ak (pvX (by kernel_rfl)))) (by decide +kernel))
     (ah (dsN aZ z22.nd (DL.toO (DO.toL (gA og kL (DO.toB (aR z58 bp cM T.n_len bR (aB (ac (pvN 4 aZ)) aL))) (DO.toB (aR z58 bp cM T.n_len bR (aB (ac (pvN 2 aZ)) aL))) (aH _)))))
     (ar (dsN aZ z22.nd (DL.toO (ak (pvN 4 aZ))))))))
     (ar (eJ (pvN 2 aZ))))))
abbrev y18:Jb:=top 26
theorem q48:FnScope ["program","code","kept","onward","endless","walked","here"] ["program","code"] (aa y18):=fnS (by decide +kernel)
theorem ci:cw (aa y18) ["program","code","kept","onward","endless","walked","here"]=true:=by decide +kernel
theorem y83:aC (aa y18) "kept_rows"=true:=by decide +kernel
theorem y107:aC (aa y18) "ways"=true:=by decide +kernel
theorem y74:aC (aa y18) "len"=true:=by decide +kernel
theorem y101:aC (aa y18) "range"=true:=by decide +kernel
theorem y72:aC (aa y18) "endless_rows"=true:=by decide +kernel
theorem z129(T:Txt P w K mg)(D:DefF K mg "ring_fault" y18 ["program","code"])(Y:OkF P w K mg base "endless_rows" 1 ["onward","rows"] (spD K 2 (z26)))(Z:OkF P w K mg base "kept_rows" 1 ["code"] (spD K 1 (y12)))(q:OkF P w K mg base "ways" 2 ["program"] (spD K 1 (dg))):OkF P w K mg base "ring_fault" 3 ["program","code"] (spD K 2 y34):=
 bT D q48 rfl fun f cdv A outer s H E O=>(ah (dsN ci q48.nd (DL.toO (DO.toL (av y83 Z (O.mono (by decide)) (ab (ak (pvN 1 ci)) ai)))))
     (ah (dsN ci q48.nd (DL.toO (DO.toL (av y107 q (O.mono (by decide)) (ab (ak (pvN 0 ci)) ai)))))
     (ah (dsN ci q48.nd (DL.toO (DO.toL (av y72 Y (O.mono (by decide)) (ab (ak (pvN 3 ci)) (ab (DO.toL (doC ["row","kept"] (by kernel_rfl) (DIF.toB (cy y101 T.n_range (ab (DO.toL (aR y74 bp cM T.n_len bR (aB (ac (pvN 3 ci)) aL))) ai))) (fun _ _ _ _=>c8 (dE O (ac (pvX (by kernel_rfl))) (ac (pvX (by kernel_rfl))))) (fun _ _ _ _=>(ak (pvX (by kernel_rfl)))))) ai))))))
     (ah (bu (aM (bA O) c9 (DO.toB (aR y74 bp cM T.n_len bR (aB (ac (pvN 4 ci)) aL))) (DL.toB af) (aH _)) (ar (aO (DL.toO cO))) aT)
     (ah b9
     (ah b9
     (ah b9
     (ar b9))))))))
abbrev z48:Jb:=top 18
theorem q120:FnScope ["program"] ["program"] (aa z48):=fnS (by decide +kernel)
theorem gK:cw (aa z48) ["program"]=true:=by decide +kernel
theorem z124(T:Txt P w K mg)(D:DefF K mg "plain_names" z48 ["program"]):OkF P w K mg base "plain_names" 1 ["program"] (spD K 1 q16):=bT D q120 rfl fun f cdv A outer s H E q=>(ar (aO (doC ["head"] (by kernel_rfl) (cb (DO.toB (az r6 wu (DO.toB (aj q (ac (pvN 0 gK)) (DL.toB af))) (DO.toB (aj q (ac (pvN 0 gK)) (DL.toB af)))))) (fun _ _ _ _=>c8 (gB (b8 (DO.toB (aj q (ac (pvX (by kernel_rfl))) (DL.toB af))) (fun _=>rfl)))) (fun _ _ _ _=>(DO.toL (aj q (ac (pvX (by kernel_rfl))) (DL.toB af)))))))
abbrev y26:Jb:=top 20
theorem z97:FnScope ["program","code","kept"] ["program","code"] (aa y26):=fnS (by decide +kernel)
theorem fE:cw (aa y26) ["program","code","kept"]=true:=by decide +kernel
theorem q83:aC (aa y26) "kept_rows"=true:=by decide +kernel
theorem z106:aC (aa y26) "ways"=true:=by decide +kernel
theorem y127(T:Txt P w K mg)(D:DefF K mg "inner_ways" y26 ["program","code"])(Y:OkF P w K mg base "kept_rows" 1 ["code"] (spD K 1 (y12)))(q:OkF P w K mg base "ways" 2 ["program"] (spD K 1 (dg))):OkF P w K mg base "inner_ways" 3 ["program","code"] (spD K 2 y20):=
 bT D z97 rfl fun f cdv A outer s H E O=>(ah (dsN fE z97.nd (DL.toO (DO.toL (av q83 Y (O.mono (by decide)) (ab (ak (pvN 1 fE)) ai)))))
     (ar (aO (doC ["onward","kept"] (by kernel_rfl) (cb (DO.toB (av z106 q (O.mono (by decide)) (ab (ak (pvN 0 fE)) ai)))) (fun _ _ _ _=>cP) (fun _ _ _ _=>(DO.toL (j3 (M:=["way","kept"]) (src:=[none,some 1]) (ts:=[0]) (CmpScope.of (by kernel_rfl)) rfl (cb (ac (pvX (by kernel_rfl)))) (fun Z _ _ _ _=>(aD (cC (N:=["way","kept"]) (i:=0) (by decide +kernel) (by decide +kernel) Z (scC (scC (outer:=aa y26) (by exact rfl)))))) (fun _ _ _ _=>c8 (dE O (ac (pvX (by kernel_rfl))) (ac (pvX (by kernel_rfl))))) (fun _ _ _ _=>(ak (pvX (by kernel_rfl)))) (by decide +kernel))))))))
abbrev y19:Jb:=top 21
theorem z122:FnScope ["mark","row","name"] ["mark","row","name"] (aa y19):=fnS (by decide +kernel)
theorem bi:cw (aa y19) ["mark","row","name"]=true:=by decide +kernel
theorem y54:aC (aa y19) "FRESH"=true:=by decide +kernel
theorem y58:aC (aa y19) "SEEN"=true:=by decide +kernel
theorem q100:aC (aa y19) "SAFE"=true:=by decide +kernel
theorem y92:aC (aa y19) "SPOILT"=true:=by decide +kernel
theorem q125(T:Txt P w K mg)(D:DefF K mg "mark_behind" y19 ["mark","row","name"]):OkF P w K mg base "mark_behind" 1 ["mark","row","name"] (spD K 3 q30):=
 bT D z122 rfl fun f cdv A outer s H E q=>(ah (bu (DW.t (d5 (aM (bA q) c9 (ac (pvN 0 bi)) (DL.toB (dU y54 T.g_D)) (aH _)) (d5 (fL q (DO.toB (aj q (ac (pvN 1 bi)) (DL.toB af))) (DO.toB (bq (ab aS (ab aS ai))))) (eG (aM (bA q) c9 (DO.toB (aj q (ac (pvN 1 bi)) (DL.toB af))) (ac (pvN 2 bi)) (aH _)))))) (ar (aO (DL.toO (dU y58 T.g_E)))) aT)
     (ah (bu (DW.t (d5 (aM (bA q) c9 (ac (pvN 0 bi)) (DL.toB (dU y54 T.g_D)) (aH _)) (d5 (aM (bA q) c9 (DO.toB (aj q (ac (pvN 1 bi)) (DL.toB af))) (DL.toB aS) (aH _)) (eG (aM (bA q) c9 (DO.toB (aj q (ac (pvN 1 bi)) (DL.toB af))) (ac (pvN 2 bi)) (aH _)))))) (ar (aO (DL.toO (dU q100 T.g_F)))) aT)
     (ah (bu (DW.t (d5 (aM (bA q) c9 (ac (pvN 0 bi)) (DL.toB (dU y58 T.g_E)) (aH _)) (d5 (fL q (DO.toB (aj q (ac (pvN 1 bi)) (DL.toB af))) (DO.toB (bq (ab aS (ab aS ai))))) (eG (aM (bA q) c9 (DO.toB (aj q (ac (pvN 1 bi)) (DL.toB af))) (ac (pvN 2 bi)) (aH _)))))) (ar (aO (DL.toO (dU y92 T.g_C)))) aT)
     (ar (eJ (pvN 0 bi))))))
abbrev y44:Jb:=top 4
theorem z24:FnScope ["starts","behind","fits","came_from","start","queue","looked","here","there"] ["starts","behind","fits"] (aa y44):=fnS (by decide +kernel)
theorem aG:cw (aa y44) ["starts","behind","fits","came_from","start","queue","looked","here","there"]=true:=by decide +kernel
theorem y114:aC (aa y44) "list"=true:=by decide +kernel
theorem q119:aC (aa y44) "len"=true:=by decide +kernel
theorem z136(T:Txt P w K mg)(D:DefF K mg "route" y44 ["starts","behind","fits"]):OkF P w K mg base "route" 4 ["starts","behind","fits"] (spR P w K mg base 3 q75):=
 vE D z24 rfl fun f cdv A outer s H E q G O=>(ah (dsN aG z24.nd wn)
     (ah (cY qc8 rfl (eZ (ak (pvN 0 aG))) (aD (aK (nsN aG 4) (nsL aG 4) z24.nd)) (ar (rY T.is q (pvN 3 aG) (ac (pvN 4 aG)) cO)))
     (ah (dsN aG z24.nd (dk y114 (k8 rfl) r0 T.n_list gU (aB (ac (pvN 3 aG)) aL)))
     (ah (dsN aG z24.nd (DL.toO af))
     (ah (eX 100000 qc8 (aM og kL (ac (pvN 6 aG)) (DO.toB (aR q119 bp cM T.n_len bR (aB (ac (pvN 5 aG)) aL))) (aH _)) (ah (dsN aG z24.nd (DL.toO (DO.toL (aj q (ac (pvN 5 aG)) (ac (pvN 6 aG))))))
     (ah (kO (nsN aG 6) (nsL aG 6) z24.nd (DL.toB af))
     (ah (bu (b8 (DO.toB (j5 (pvN 2 aG) O (q.mono (by decide)) (ab (ak (pvN 7 aG)) ai))) (fun _=>rfl)) (ar b9) aT)
     (ar (cY qc8 rfl (eZ (DO.toL (j5 (pvN 1 aG) O (q.mono (by decide)) (ab (ak (pvN 7 aG)) ai)))) (aD (aK (nsN aG 8) (nsL aG 8) z24.nd)) (ar (bu (B3 T.is q (ac (pvN 8 aG)) (ac (pvN 3 aG))) (ah (rY T.is q (pvN 3 aG) (ac (pvN 8 aG)) (ak (pvN 7 aG)))
     (ar (cW (pvN 5 aG) (ak (pvN 8 aG))))) aT))))))))
     (ar (aO (DL.toO cO))))))))
abbrev y13:Jb:=top 22
theorem q52:FnScope ["program","code","name","rows","inner","behind","spoils","found"] ["program","code","name"] (aa y13):=fnS (by decide +kernel)
theorem bF:cw (aa y13) ["program","code","name","rows","inner","behind","spoils","found"]=true:=by decide +kernel
theorem z92:aC (aa y13) "plain_names"=true:=by decide +kernel
theorem z95:aC (aa y13) "inner_ways"=true:=by decide +kernel
theorem z98:aC (aa y13) "kept_rows"=true:=by decide +kernel
theorem y105:aC (aa y13) "route"=true:=by decide +kernel
abbrev z13:Jb:=(bh y13).getD 3 (.Pass ⟨0,0,0,0⟩)
theorem q38:NsC (aa y13) ["program","code","name","rows","inner","behind","spoils","found"] ["place","mark","name","rows","inner"] ["place"] ["name","rows","inner"] [2,3,4] (aa z13):=NsC.of (by decide +kernel)
theorem z42:cS (aa z13) ["place","mark","name","rows","inner"] 0 "place"=true:=by decide +kernel
theorem q68:cS (aa z13) ["place","mark","name","rows","inner"] 1 "mark"=true:=by decide +kernel
theorem q106:iM (aa z13) "mark"=true:=by decide +kernel
theorem z103:cS (aa z13) ["place","mark","name","rows","inner"] 2 "name"=true:=by decide +kernel
theorem y109:cS (aa z13) ["place","mark","name","rows","inner"] 3 "rows"=true:=by decide +kernel
theorem y104:cS (aa z13) ["place","mark","name","rows","inner"] 4 "inner"=true:=by decide +kernel
theorem z65:aC (aa z13) "mark_behind"=true:=by decide +kernel
theorem q90:aC (aa z13) "SAFE"=true:=by decide +kernel
abbrev q22:Jb:=(bh y13).getD 4 (.Pass ⟨0,0,0,0⟩)
theorem q49:NsC (aa y13) ["program","code","name","rows","inner","behind","spoils","found"] ["place","name","rows"] ["place"] ["name","rows"] [2,3] (aa q22):=NsC.of (by decide +kernel)
theorem q69:cS (aa q22) ["place","name","rows"] 0 "place"=true:=by decide +kernel
theorem z105:cS (aa q22) ["place","name","rows"] 1 "name"=true:=by decide +kernel
theorem z108:cS (aa q22) ["place","name","rows"] 2 "rows"=true:=by decide +kernel
theorem z60:aC (aa q22) "mark_behind"=true:=by decide +kernel
theorem z83:aC (aa q22) "SPOILT"=true:=by decide +kernel
theorem q138(T:Txt P w K mg)(D:DefC K mg "spoilt" y13 ["program","code","name"] c)(B:TabB mg base c Pt)(hT:(Pt,kj "spoilt" (bh y13))∈dA K)(y79:OkF P w K mg base "inner_ways" 3 ["program","code"] (spD K 2 (y20)))(z14:OkF P w K mg base "kept_rows" 1 ["code"] (spD K 1 (y12)))(O:OkF P w K mg base "mark_behind" 1 ["mark","row","name"] (spD K 3 (q30)))(Y:OkF P w K mg base "plain_names" 1 ["program"] (spD K 1 (q16)))(y95:OkF P w K mg base "route" 4 ["starts","behind","fits"] (spR P w K mg base 3 q75)):OkF P w K mg base "spoilt" 5 ["program","code","name"] (spD K 3 (y61)):=
 wb D q52 rfl fun f A outer s H E q=>(ah (bu (dE q (ac (pvN 2 bF)) (DO.toB (av z92 Y (q.mono (by decide)) (ab (ak (pvN 0 bF)) ai)))) (ar (aO (DL.toO cO))) aT)
     (ah (dsN bF q52.nd (DL.toO (DO.toL (aj q (ac (pvN 0 bF)) (DL.toB af)))))
     (ah (dsN bF q52.nd (DL.toO (DO.toL (av z95 y79 (q.mono (by decide)) (ab (ak (pvN 0 bF)) (ab (ak (pvN 1 bF)) ai))))))
     (oT (i1:=5) (i2:=6) (by decide) (wa (NX:=["program","code","name","rows","inner","behind","spoils","found"]) rfl) (j7 (qual:="spoilt.<locals>.behind") (nsN bF 5) (nsL bF 5) q52.nd q38 B hT (by decide +kernel)) (j7 (qual:="spoilt.<locals>.spoils") (nsN bF 6) (nsL bF 6) q52.nd q49 B hT (by decide +kernel))
     (vN (yD (nsN bF 7) (nsL bF 7) q52.nd (Ae (i1:=5) (i2:=6) y95 (q.mono (by decide)) (glD y105) (fun _=>rfl) (DO.toL (doC ["row"] (by kernel_rfl) (cb (DO.toB (az aV bP (DO.toB (bc (ab af ai))) (DO.toB (av z98 z14 (q.mono (by decide)) (ab (ak (pvN 1 bF)) ai)))))) (fun _ _ _ _=>cP) (fun _ _ _ _=>(DO.toL (bq (ab (ak (pvX (by kernel_rfl))) (ab (dU (by decide +kernel) T.g_D (e1:=(scC (outer:=aa y13) rfl))) ai))))))) (pvN 5 bF) (pvN 6 bF) (NestD.of q38 (fun s cl doc pm ctv cd us Z=>match us,Z with|[_],_=>.of_eq rfl) fun f c' cl A outer s H q=>(ah (ve q68 q106 q38.nd (DL.toO (DO.toL (av z65 O (q.mono (by decide)) (ab (DO.toL (aj q (ac (pvD 0 z42)) (DL.toB af))) (ab (DO.toL (aj q (ac (pvD 3 y109)) (DO.toB (aj q (ac (pvD 0 z42)) (DL.toB af))))) (ab (ak (pvD 2 z103)) ai)))))))
     (ar (aO (rC (aM (bA q) c9 (ac (pvD 1 q68)) (DL.toB (dU q90 T.g_F)) (aH _)) (bc ai) (doC ["way","mark"] (by kernel_rfl) (cb (DO.toB (aj q (ac (pvD 4 y104)) (DO.toB (aj q (ac (pvD 0 z42)) (DL.toB af)))))) (fun _ _ _ _=>cP) (fun _ _ _ _=>(DO.toL (bq (ab (ak (pvX (by kernel_rfl))) (ab (ak (pvX (by kernel_rfl))) ai))))))))))) (NestD.of q49 (fun s cl doc pm ctv cd us Z=>match us,Z with|[_],_=>.of_eq rfl) fun f c' cl A outer s H q=>(ar (aO (gA (bA q) c9 (DO.toB (av z60 O (q.mono (by decide)) (ab (DO.toL (aj q (ac (pvD 0 q69)) (DL.toB af))) (ab (DO.toL (aj q (ac (pvD 2 z108)) (DO.toB (aj q (ac (pvD 0 q69)) (DL.toB af))))) (ab (ak (pvD 1 z105)) ai))))) (DL.toB (dU z83 T.g_C)) (aH _))))) q38.all q49.all))
     (ar (aO (rC (aM km vj (ac (pvN 7 bF)) (DL.toB cO) (aH _)) (DL.toO cO) yv))))))))
abbrev q31:Jb:=top 27
theorem y65:FnScope ["program","code","name","rows"] ["program","code"] (aa q31):=fnS (by decide +kernel)
theorem bV:cw (aa q31) ["program","code","name","rows"]=true:=by decide +kernel
theorem z70:aC (aa q31) "plain_names"=true:=by decide +kernel
theorem z93:aC (aa q31) "spoilt"=true:=by decide +kernel
theorem y121(T:Txt P w K mg)(D:DefF K mg "spoil_fault" q31 ["program","code"])(O:OkF P w K mg base "plain_names" 1 ["program"] (spD K 1 (q16)))(q:OkF P w K mg base "spoilt" 5 ["program","code","name"] (spD K 3 (y61))):OkF P w K mg base "spoil_fault" 6 ["program","code"] (spD K 2 z38):=
 bT D y65 rfl fun f cdv A outer s H E Y=>(ah (cY qc8 rfl (eZ (DO.toL (av z70 O (Y.mono (by decide)) (ab (ak (pvN 0 bV)) ai)))) (aD (aK (nsN bV 2) (nsL bV 2) y65.nd)) (ah (dsN bV y65.nd (DL.toO (DO.toL (av z93 q (Y.mono (by decide)) (ab (ak (pvN 0 bV)) (ab (ak (pvN 1 bV)) (ab (ak (pvN 2 bV)) ai)))))))
     (ar (bu (aM mQ m9 (ac (pvN 3 bV)) (DL.toB cO) (aH _)) (ar b9) aT))))
     (ar (aO (DL.toO cO))))
abbrev y51:Jb:=top 30
theorem y80:FnScope ["program","code","found"] ["program","code"] (aa y51):=fnS (by decide +kernel)
theorem ca:cw (aa y51) ["program","code","found"]=true:=by decide +kernel
theorem q104:aC (aa y51) "end_fault"=true:=by decide +kernel
theorem y97:aC (aa y51) "ring_fault"=true:=by decide +kernel
theorem z96:aC (aa y51) "spoil_fault"=true:=by decide +kernel
theorem z100:aC (aa y51) "lost_fault"=true:=by decide +kernel
theorem q140(T:Txt P w K mg)(D:DefF K mg "fault" y51 ["program","code"])(O:OkF P w K mg base "end_fault" 2 ["program","code"] (spD K 2 (y40)))(z79:OkF P w K mg base "lost_fault" 6 ["program","code"] (spD K 2 (q21)))(Z:OkF P w K mg base "ring_fault" 3 ["program","code"] (spD K 2 (y34)))(Y:OkF P w K mg base "spoil_fault" 6 ["program","code"] (spD K 2 (z38))):OkF P w K mg base "fault" 7 ["program","code"] (spD K 2 z31):=
 bT D y80 rfl fun f cdv A outer s H E q=>(ah (dsN ca y80.nd (DL.toO (DO.toL (av q104 O (q.mono (by decide)) (ab (ak (pvN 0 ca)) (ab (ak (pvN 1 ca)) ai))))))
     (ah (bu (aM km vj (ac (pvN 2 ca)) (DL.toB cO) (aH _)) (ar (dsN ca y80.nd (DL.toO (DO.toL (av y97 Z (q.mono (by decide)) (ab (ak (pvN 0 ca)) (ab (ak (pvN 1 ca)) ai))))))) aT)
     (ah (bu (aM km vj (ac (pvN 2 ca)) (DL.toB cO) (aH _)) (ar (dsN ca y80.nd (DL.toO (DO.toL (av z96 Y (q.mono (by decide)) (ab (ak (pvN 0 ca)) (ab (ak (pvN 1 ca)) ai))))))) aT)
     (ah (bu (aM km vj (ac (pvN 2 ca)) (DL.toB cO) (aH _)) (ar (dsN ca y80.nd (DL.toO (DO.toL (av z100 z79 (q.mono (by decide)) (ab (ak (pvN 0 ca)) (ab (ak (pvN 1 ca)) ai))))))) aT)
     (ar (eJ (pvN 2 ca)))))))
abbrev q92:Jb:=top 31
theorem y138:FnScope ["program","code"] ["program","code"] (aa q92):=fnS (by decide +kernel)
theorem ns_holds:cw (aa q92) ["program","code"]=true:=by decide +kernel
theorem q121:aC (aa q92) "fault"=true:=by decide +kernel
theorem y139(T:Txt P w K mg)(D:DefF K mg "holds" q92 ["program","code"])(q:OkF P w K mg base "fault" 7 ["program","code"] (spD K 2 (z31))):OkF P w K mg base "holds" 8 ["program","code"] (spD K 2 z40):=bT D y138 rfl fun f cdv A outer s H E O=>(ar (aO (gA km vj (DO.toB (av q121 q (O.mono (by decide)) (ab (ak (pvN 0 ns_holds)) (ab (ak (pvN 1 ns_holds)) ai)))) (DL.toB cO) (aH _))))
abbrev cN:Jb:=top 51
theorem sc_law:FnScope ["_law_script","_law_program_here","_law_names_here","_law_places_here","_law_need","_law_told","_law_code_here","_law_number","_law_more_here","_law_some","_law_k","_law_box","_law_less","_law_lacking","_law_found"] ["_law_script"] (aa cN):=fnS (by decide +kernel)
theorem aE:cw (aa cN) ["_law_script","_law_program_here","_law_names_here","_law_places_here","_law_need","_law_told","_law_code_here","_law_number","_law_more_here","_law_some","_law_k","_law_box","_law_less","_law_lacking","_law_found"]=true:=by decide +kernel
theorem q101:aC (aa cN) "_law_program"=true:=by decide +kernel
theorem y111:aC (aa cN) "_law_world"=true:=by decide +kernel
theorem q103:aC (aa cN) "_law_places"=true:=by decide +kernel
theorem q128:aC (aa cN) "needed"=true:=by decide +kernel
theorem z36:aC (aa cN) "_law_code"=true:=by decide +kernel
theorem y56:aC (aa cN) "holds"=true:=by decide +kernel
theorem z109:aC (aa cN) "fault"=true:=by decide +kernel
theorem q41:aC (aa cN) "_law_cell_at"=true:=by decide +kernel
theorem q77:aC (aa cN) "len"=true:=by decide +kernel
theorem y108:aC (aa cN) "range"=true:=by decide +kernel
theorem y135:aC (aa cN) "list"=true:=by decide +kernel
theorem y99:aC (aa cN) "_law_is_lost"=true:=by decide +kernel
theorem z111:aC (aa cN) "isinstance"=true:=by decide +kernel
theorem z132:aC (aa cN) "tuple"=true:=by decide +kernel
theorem B9{f:J9}{fd:qp9}(T:Txt P w K mg)(D:Fun K "law" "law" cN f fd)(Z:OkF P w K mg base "_law_cell_at" 1 ["_law_script","_law_k"] (spD K 2 (y1)))(O:OkF P w K mg base "_law_code" 1 ["_law_places_here","_law_told"] (spD K 2 (z20)))(y64:OkF P w K mg base "_law_is_lost" 2 ["_law_rows","_law_code_here","_law_found"] (spD K 3 (z25)))(q87:OkF P w K mg base "_law_more" 1 ["_law_boxes","_law_number","_law_names_here"] (spD K 3 (y46)))(y69:OkF P w K mg base "_law_places" 2 ["_law_program_here"] (spD K 1 (y38)))(z61:OkF P w K mg base "_law_program" 4 ["_law_script","_law_most"] (spD K 2 (y35)))(q35:OkF P w K mg base "_law_world" 3 ["_law_script"] (spD K 1 (z21)))(q64:OkF P w K mg base "fault" 7 ["program","code"] (spD K 2 (z31)))(Y:OkF P w K mg base "holds" 8 ["program","code"] (spD K 2 (z40)))(q65:OkF P w K mg base "needed" 4 ["program"] (spD K 1 (z28))):FnOk P w K mg base CX0 9 f fd ["_law_script"] (spD K 1 r8):=
 Ec D sc_law rfl fun cdv A outer s H E q=>(ah (dsN aE sc_law.nd (DL.toO (DO.toL (av q101 z61 (q.mono (by decide)) (ab (ak (pvN 0 aE)) (ab af ai))))))
     (ah (dsN aE sc_law.nd (DL.toO (DO.toL (aj q (DO.toB (av y111 q35 (q.mono (by decide)) (ab (ak (pvN 0 aE)) ai))) (DL.toB af)))))
     (ah (dsN aE sc_law.nd (DL.toO (DO.toL (av q103 y69 (q.mono (by decide)) (ab (ak (pvN 1 aE)) ai)))))
     (ah (dsN aE sc_law.nd (DL.toO (DO.toL (av q128 q65 (q.mono (by decide)) (ab (ak (pvN 1 aE)) ai)))))
     (ah (dsN aE sc_law.nd (DL.toO (DO.toL (doC ["_law_at","_law_need"] (by kernel_rfl) (cb (DO.toB (az aV bP (DO.toB (bc (ab af ai))) (ac (pvN 3 aE))))) (fun _ _ _ _=>cP) (fun _ _ _ _=>(DO.toL (dk (by decide +kernel) iG vn T.n_list gU (aB (DO.toB (aj q (ac (pvX (by kernel_rfl))) (ac (pvX (by kernel_rfl))))) aL) (e1:=(scC (outer:=aa cN) rfl)))))))))
     (ah (dsN aE sc_law.nd (DL.toO (DO.toL (av z36 O (q.mono (by decide)) (ab (ak (pvN 3 aE)) (ab (ak (pvN 5 aE)) ai))))))
     (ah (bu (DW.t (fq (aM mQ m9 (DO.toB (av z109 q64 (q.mono (by decide)) (ab (ak (pvN 1 aE)) (ab (ak (pvN 6 aE)) ai)))) (DL.toB cO) (aH _)) (gC (aM mj oP (DO.toB (av y56 Y (q.mono (by decide)) (ab (ak (pvN 1 aE)) (ab (ak (pvN 6 aE)) ai)))) (DL.toB gh) (aH _))))) (ar b9) aT)
     (ah (dsN aE sc_law.nd (DL.toO (DO.toL (az de d9 (DO.toB (az gn jL (DO.toB (av q41 Z (q.mono (by decide)) (ab (ak (pvN 0 aE)) (ab af ai)))) (DL.toB af))) (DL.toB af)))))
     (ah (fj (nsN aE 8) (nsL aE 8) sc_law.nd (M:=["_law_k","_law_names_here","_law_told","_law_number"]) (src:=[none,some 2,some 5,some 7]) (ts:=[0]) (CmpScope.of (by kernel_rfl)) rfl (DIF.toB (cy y108 T.n_range (ab (DO.toL (aR q77 bp cM T.n_len bR (aB (ac (pvN 5 aE)) aL))) ai))) (fun nd _ _ _ _=>(aD (cC (N:=["_law_k","_law_names_here","_law_told","_law_number"]) (i:=0) (by decide +kernel) (by decide +kernel) nd (scC (outer:=aa cN) (by exact rfl))))) (fun _ _ _ _=>cP) (fun _ _ _ _=>(DO.toL (av (by decide +kernel) q87 (q.mono (by decide)) (ab (DO.toL (aj q (ac (pvX (by kernel_rfl))) (ac (pvX (by kernel_rfl))))) (ab (DO.toL (az cU d7 (ac (pvX (by kernel_rfl))) (DO.toB (az aV bP (ac (pvX (by kernel_rfl))) (DL.toB af))))) (ab (ak (pvX (by kernel_rfl))) ai))) (e1:=(scC (outer:=aa cN) rfl))))) (by decide +kernel))
     (ah (bu (aM mj oP (DO.toB (av y56 Y (q.mono (by decide)) (ab (ak (pvN 1 aE)) (ab (DO.toL (av z36 O (q.mono (by decide)) (ab (ak (pvN 3 aE)) (ab (ak (pvN 8 aE)) ai)))) ai)))) (DL.toB gh) (aH _)) (ar b9) aT)
     (ah (fj (nsN aE 9) (nsL aE 9) sc_law.nd (M:=["_law_k","_law_told"]) (src:=[none,some 5]) (ts:=[0]) (CmpScope.of (by kernel_rfl)) rfl (DIF.toB (cy y108 T.n_range (ab (DO.toL (aR q77 bp cM T.n_len bR (aB (ac (pvN 5 aE)) aL))) ai))) (fun nd _ _ _ _=>(aD (cC (N:=["_law_k","_law_told"]) (i:=0) (by decide +kernel) (by decide +kernel) nd (scC (outer:=aa cN) (by exact rfl))))) (fun _ _ _ _=>c8 (aM (d6 q) jW (DO.toB (aj q (ac (pvX (by kernel_rfl))) (ac (pvX (by kernel_rfl))))) (DO.toB (bc ai)) (aH _))) (fun _ _ _ _=>(ak (pvX (by kernel_rfl)))) (by decide +kernel))
     (ah (bu (aM (bA q) c9 (ac (pvN 9 aE)) (DO.toB (bc ai)) (aH _)) (ar (aO (DL.toO gh))) aT)
     (ah (dsN aE sc_law.nd (DL.toO (DO.toL (aj q (ac (pvN 9 aE)) (DO.toB (az de d9 (DO.toB (av q41 Z (q.mono (by decide)) (ab (ak (pvN 0 aE)) (ab af ai)))) (DO.toB (aR q77 bp cM T.n_len bR (aB (ac (pvN 9 aE)) aL)))))))))
     (ah (dsN aE sc_law.nd (DL.toO (DO.toL (aj q (DO.toB (aj q (ac (pvN 5 aE)) (ac (pvN 10 aE)))) (DO.toB (az de d9 (DO.toB (az cU d7 (DO.toB (av q41 Z (q.mono (by decide)) (ab (ak (pvN 0 aE)) (ab af ai)))) (DL.toB af))) (DO.toB (aR q77 bp cM T.n_len bR (aB (DO.toB (aj q (ac (pvN 5 aE)) (ac (pvN 10 aE)))) aL)))))))))
     (ah (dsN aE sc_law.nd (dk y135 iG vn T.n_list gU (aB (ac (pvN 8 aE)) aL)))
     (ah (ni q (pvN 12 aE) (ac (pvN 10 aE)) (DO.toL (doC ["_law_one","_law_box"] (by kernel_rfl) (cb (DO.toB (aj q (ac (pvN 8 aE)) (ac (pvN 10 aE))))) (fun _ _ _ _=>c8 (aM (d6 q) jW (ac (pvX (by kernel_rfl))) (ac (pvX (by kernel_rfl))) (aH _))) (fun _ _ _ _=>(ak (pvX (by kernel_rfl)))))))
     (ah (rD (i:=12) (dsN aE sc_law.nd (DL.toO (DO.toL (av z36 O (q.mono (by decide)) (ab (ak (pvN 3 aE)) (ab (ak (pvN 12 aE)) ai)))))))
     (ah (dsN aE sc_law.nd (DL.toO (DO.toL (av z109 q64 (q.mono (by decide)) (ab (ak (pvN 1 aE)) (ab (ak (pvN 13 aE)) ai))))))
     (ah (bu (DW.t (fq (gB (b8 (DO.toB (dy z111 z132 T.n_isinstance T.n_tuple eT T.k_tuple (ac (pvN 14 aE)))) (fun _=>rfl))) (fq (aM (d6 q) jW (DO.toB (aj q (ac (pvN 14 aE)) (DL.toB af))) (DL.toB aS) (aH _)) (gC (gB (b8 (DO.toB (av y99 y64 (q.mono (by decide)) (ab (DO.toL (aj q (ac (pvN 1 aE)) (DL.toB af))) (ab (ak (pvN 13 aE)) (ab (ak (pvN 14 aE)) ai))))) (fun _=>rfl))))))) (ar b9) aT)
     (ah (bu (DW.t (fq (aM (d6 q) jW (DO.toB (aj q (ac (pvN 14 aE)) (DL.toB af))) (ac (pvN 11 aE)) (aH _)) (fq (aM (d6 q) jW (DO.toB (aj q (ac (pvN 14 aE)) (DL.toB af))) (DO.toB (gA (bA q) c9 (ac (pvN 10 aE)) (DL.toB af) (aH _))) (aH _)) (gC (DW.t (d5 (aM zN kL (ac (pvN 10 aE)) (DL.toB af) (aH _)) (eG (aM (d6 q) jW (DO.toB (aj q (DO.toB (aj q (ac (pvN 14 aE)) (DL.toB af))) (DL.toB af))) (DO.toB (aj q (ac (pvN 3 aE)) (DO.toB (az gm jK (ac (pvN 10 aE)) (DL.toB af))))) (aH _))))))))) (ar b9) aT)
     (ar (aO (vc (DO.toB (gA vA Ac (DO.toB (av y56 Y (q.mono (by decide)) (ab (ak (pvN 1 aE)) (ab (ak (pvN 13 aE)) ai)))) (DL.toB gh) (aH _))) (u9 (gA vA Ac (DO.toB (av y56 Y (q.mono (by decide)) (ab (ak (pvN 1 aE)) (ab (DO.toL (av z36 O (q.mono (by decide)) (ab (ak (pvN 3 aE)) (ab (ak (pvN 8 aE)) ai)))) ai)))) (DL.toB gh) (aH _))))))))))))))))))))))))))
end
end P44
namespace L2
open PySem PySem.Spec PyProof.Rows
variable{i j:Int}
theorem gAdd_i:cq (.int i) (.int j)=some (.leaf (.int (i+j))):=rfl
variable{x y:Str}
theorem Ca(h:x.length+y.length<=qb4):cq (.str x) (.str y)=some (.leaf (.str (x++y))):=if_pos h
variable{l m:List Dt}
theorem qB(h:l.length+m.length<=qb4):cq (.lst l) (.lst m)=some (.lst (l++m)):=if_pos h
theorem gSub_i:fu (.int i) (.int j)=some (.leaf (.int (i-j))):=rfl
theorem wv(h:jJ i j=true):jo (.int i) (.int j)=some (.leaf (.int (i*j))):=if_pos h
theorem jy(h:0<j):fC (.int i) (.int j)=some (.leaf (.int (i%j))):=if_pos h
theorem qC(h:l7 i j=true):jV (.int i) (.int j)=some (.leaf (.int (i^j.toNat))):=if_pos h
theorem ww:l7 2 40=true:=by decide
@[irreducible] def wide:Int:=1099511627776
theorem nC:wide=1099511627776:=by unfold wide;rfl
theorem ET:jV (.int 2) (.int 40)=some (.leaf (.int wide)):=by rw[qC ww,nC];rfl
theorem wx:(0:Int)<wide:=by rw[nC];decide
theorem gMod_w:fC (.int i) (.int wide)=some (.leaf (.int (i%wide))):=jy wx
theorem gCmp_i{f:Int->Int->Bool}:kJ f (.int i) (.int j)=some (.leaf (.bl (f i j))):=rfl
theorem Em(h:(cmpbs l m&&decide (deeps l<=59))=true):eqD (.tup l) (.tup m)=some (peqs l m):=if_pos h
theorem Eo(h:(cmpbs l m&&decide (deeps l<=59))=true):eqD (.lst l) (.lst m)=some (peqs l m):=if_pos h
variable{neg b:Bool}
theorem jz{x y:Dt}(h:eqD x y=some b):gEq neg x y=some (.leaf (.bl (if neg then !b else b))):=by unfold gEq;rw[h];rfl
theorem Cb:gEq false (.int i) (.int j)=some (.leaf (.bl (decide (i=j)))):=rfl
theorem qD{i j:Str}:gEq false (.str i) (.str j)=some (.leaf (.bl (decide (i=j)))):=rfl
theorem gNe_ss{i j:Str}:gEq true (.str i) (.str j)=some (.leaf (.bl (!decide (i=j)))):=rfl
theorem fO:aq (.lst l) (.int i)=(atI l i).map .leaf:=rfl
theorem wz:aq (.tup l) (.int i)=(atI l i).map .leaf:=rfl
theorem wA(h:x.length<=qb4):aq (.str x) (.int i)=(atI x.cps.toList i).map fun c=>.leaf (.str ⟨#[c]⟩):=if_pos h
theorem Ep{x:Dt}(h:(cT x&&l.all cT)=true):bU neg x (.lst l)=some (.leaf (.bl (if neg then !(l.any fun y=>eqF y x)else l.any fun y=>eqF y x))):=by cases x<;>simp only[bU,gIn,inD]<;>first|rw[if_pos h];rfl|cases h
theorem Er{x:Dt}(h:(cT x&&l.all cT)=true):bU neg x (.tup l)=some (.leaf (.bl (if neg then !(l.any fun y=>eqF y x)else l.any fun y=>eqF y x))):=by cases x<;>simp only[bU,gIn,inD]<;>first|rw[if_pos h];rfl|cases h
theorem gLen_l:cL [.lst l]=some (.leaf (.int l.length)):=rfl
theorem gLen_t:cL [.tup l]=some (.leaf (.int l.length)):=rfl
theorem Es:fY [.lst l]=some (.leaf (.tup l)):=rfl
theorem wC(h:gi j=true):fB [.int j]=some (eY 0 j.toNat):=if_pos h
theorem wE(q:-1000000000<=j)(h1:j<=1000000000):gi j=true:=by unfold gi;simp only[qb3,decide_eq_true_eq];lia
variable{n:Nat}
theorem lb(h:n<=1000000000):fB [.int n]=some (eY 0 n):=by rw[wC (wE (by lia) (by lia))];rfl
theorem itD_l:itD (.lst l)=some l:=rfl
theorem itD_t:itD (.tup l)=some l:=rfl
theorem truD_b:tm (.bl b)=some b:=rfl
theorem asB_b:asB (.leaf (.bl b))=some b:=rfl
theorem Et{b:Int}:asI (.int b)=some b:=rfl
theorem small(h:n<=1000000):n<=qb4:=qb9 h (by decide)
theorem i6(h:n<1000000):n<qb4:=qc2 h (by decide)
variable{g1 g2:De->Option Out}{δ:De}
theorem aW{δ':De}(h:g1 δ=some (.nx δ')):aw g1 g2 δ=g2 δ':=by unfold aw;rw[h];rfl
theorem wF{t:T}(h:g1 δ=some (.rt t)):aw g1 g2 δ=some (.rt t):=by unfold aw;rw[h];rfl
variable{src:List (Option Nat)}{fi:De->Option (List Dt)}{bb:Dt->De->Option De}{ft:De->Option Bool}{fe:De->Option Dt}{ds:List Dt}
theorem wG{ys:List Dt}(h1:fi δ=some ds)(h2:bK bb ft fe (dC src δ) ds=some ys)(h3:ys.length<=1000000):br src fi bb ft fe δ=some (.lst ys):=by unfold br;rw[h1,qa2,h2,qa2];exact if_pos (small h3)
variable{g:De->Option Out}{δ1:De}
theorem bC{d:Dt}{r:List Dt}{δ2:De}(h1:bb d δ=some δ1)(h2:g δ1=some (.nx δ2)):cu bb g (d::r) δ=cu bb g r δ2:=by show((bb d δ).bind fun δ1=>(g δ1).bind fun o=>match o with|.nx δ2=>cu bb g r δ2|.ct δ2=>cu bb g r δ2|.bk δ2=>some (.nx δ2)|.rt t=>some (.rt t))=_;rw[h1,qa2,h2];rfl
theorem bG{α:Type}{l:List α}{k:Nat}:atI l (k:Int)=l[k]?:=by
 unfold atI ixN;rw[if_pos (by lia)];by_cases h:k<l.length
 .rw[if_pos (by lia)];simp
 .rw[if_neg (by lia)];simp;lia
theorem Cc(h1:-1000000000000000000<i)(h2:i<1000000000000000000):jo (.int i) (.int j)=some (.leaf (.int (i*j))):=wv (yi h1 h2)
theorem gMul_r(h1:-1000000000000000000<j)(h2:j<1000000000000000000):jo (.int i) (.int j)=some (.leaf (.int (i*j))):=wv (yj h1 h2)
def ld(o:Option Out)(g:De->Option Out):Option Out:=o.bind fun o=>match o with
 |.nx q=>g q
 |o=>some o
theorem cZ:aw g1 g2 δ=ld (g1 δ) g2:=rfl
theorem cE:ld (some (.nx δ)) g=g δ:=rfl
theorem Eu{t:T}:ld (some (.rt t)) g=some (.rt t):=rfl
def wH:Option Out->Option T
 |some (.rt t)=>some t
 |some (.nx _)=>some (.leaf .non)
 |_=>none
theorem wI{m:Nat}:cj m g ds=wH (g (ds.map (fun d=>some (.leaf d))++qg3 (m-ds.length) none)):=rfl
theorem EU{t:T}:wH (some (.rt t))=some t:=rfl
def jP{α:Type}(b:Option Bool)(f g:De->Option α)(δ:De):Option α:=b.bind fun b=>if b then f δ else g δ
theorem g5{α:Type}{f g:De->Option α}:jP (some true) f g δ=f δ:=rfl
theorem g6{α:Type}{f g:De->Option α}:jP (some false) f g δ=g δ:=rfl
theorem j8{α:Type}{f g:De->Option α}(h:b=true):jP (some b) f g δ=f δ:=by subst h;rfl
theorem j9{α:Type}{f g:De->Option α}(h:b=false):jP (some b) f g δ=g δ:=by subst h;rfl
variable{c:De->Option Bool}
theorem ij:sIf c g1 g2 δ=jP (c δ) g1 g2 δ:=rfl
theorem Ev{g1 g2:De->Option T}:vIf c g1 g2 δ=jP (c δ) g1 g2 δ:=rfl
def kB(b:Bool):De->Option Bool:=fun _=>some b
theorem kB_d:kB b δ=some b:=rfl
variable{f:De->Option Bool}
theorem jA{g:De->Option Bool}:d4 f g δ=jP (f δ) g (kB false) δ:=rfl
theorem Ew{g:De->Option Bool}:fOr f g δ=jP (f δ) (kB true) g δ:=rfl
def mkL(ds:List Dt):Option T:=if ds.length<=qb4 then some (.lst ds)else none
def mkTp(ds:List Dt):Option T:=if ds.length<=qb4 then some (.leaf (.tup ds))else none
theorem cR(h:ds.length<=1000000):mkL ds=some (.lst ds):=if_pos (small h)
theorem EV(h:ds.length<=1000000):mkTp ds=some (.leaf (.tup ds)):=if_pos (small h)
theorem nE{f:De->Option (List Dt)}:bX f δ=(f δ).bind mkL:=rfl
theorem vTup_d{f:De->Option (List Dt)}:bW f δ=(f δ).bind mkTp:=rfl
theorem EW:br src fi bb ft fe δ=(fi δ).bind fun ds=>(bK bb ft fe (dC src δ) ds).bind mkL:=rfl
def appL(l:List Dt)(i:Nat)(δ:De)(d:Dt):Option Out:=if l.length<qb4 then some (.nx (δ.set i (some (.lst (l++[d])))))else none
theorem f8{i:Nat}{d:Dt}(h:l.length<1000000):appL l i δ d=some (.nx (δ.set i (some (.lst (l++[d]))))):=if_pos (i6 h)
theorem lg{i:Nat}{f:De->Option Dt}(h:δ[i]?=some (some (.lst l))):q14 i f δ=(f δ).bind (appL l i δ):=by unfold q14;rw[h];rfl
theorem qE(cs:List Nat):Txt.join "" (cs.map fun c=>(⟨#[c]⟩:Str))=⟨cs.toArray⟩:=by
 have e0:("":Str).cps=#[]:=by decide +kernel
 have O:∀(l:List Nat)(J5:Array Nat),(l.map fun c=>(⟨#[c]⟩:Str)).foldl (fun J5 p=>J5++("":Str).cps++p.cps) J5=J5++l.toArray:=by
  intro l;induction l with
  |nil=>intro J5;simp
  |cons c l q=>intro J5;rw[qa5,qj5,q,e0];simp
 unfold Txt.join qj1.Str.glued;cases cs with
 |nil=>rfl
 |cons c r=>show(⟨(r.map fun c=>(⟨#[c]⟩:Str)).foldl (fun J5 p=>J5++("":Str).cps++p.cps) (#[c]:Array Nat)⟩:Str)=_;rw[O];simp
theorem nG(cs:List Nat)(h:cs.length<=1000):JoinOk "" (cs.map fun c=>(⟨#[c]⟩:Str))=true:=by
 unfold JoinOk
 have h1:∀y∈cs.map (fun c=>(⟨#[c]⟩:Str)),y.length<=1:=fun y q=>by obtain⟨c,_,rfl⟩:=qc5.mp q;exact nL _
 rw[StrLaws.joinFits h1 (by rw[qa1,show("":Str).length=0 by decide +kernel];lia)];rfl
theorem iu:∀ts:List Str,gF (ts.map .str)=some ts
 |[]=>rfl
 |t::r=>by show(gF (r.map .str)).map (t::·)=_;rw[iu r];rfl
def sgD(cs:List Nat):List Dt:=cs.map fun c=>.str ⟨#[c]⟩
theorem wJ{cs:List Nat}(h:cs.length<=1000):ip (.str "") [.lst (sgD cs)]=some (.leaf (.str ⟨cs.toArray⟩)):=by
 have e:sgD cs=(cs.map fun c=>(⟨#[c]⟩:Str)).map .str:=by unfold sgD;rw[qc3];rfl
 show(gF (sgD cs)).bind _=_;rw[e,iu,qa2,if_pos (nG cs h),qE]
theorem Cd{α:Type}{xs:List α}(O:0<=i)(h1:i<xs.length):∃v,atI xs i=some v/\v∈xs:=by
 obtain⟨n,rfl⟩:=Int.eq_ofNat_of_zero_le O;have q:n<xs.length:=by lia
 exact⟨xs[n],xR (by simp[q]),qr2 q⟩
theorem yM(x:Str):x.length=x.cps.toList.length:=by show x.cps.size=_;simp
theorem yN(O:x.length<=1000000)(Y:0<=i)(h1:i<x.length):∃c,aq (.str x) (.int i)=some (.leaf (.str ⟨#[c]⟩))/\c∈x.cps.toList:=by obtain⟨c,e,q⟩:=Cd (xs:=x.cps.toList) Y (by rw[<- yM];exact h1);refine⟨c,?_,q⟩;rw[wA (small O),e];rfl
theorem r9(h:l.length+m.length<=1000000):cq (.lst l) (.lst m)=some (.lst (l++m)):=qB (small h)
theorem EX:cT (.int i)=true:=rfl
theorem EY:cT (.str x)=true:=rfl
theorem eqF_s:eqF (.str x) (.str y)=decide (x=y):=by show(x==y)=_;rw[qi2];simp
theorem eqF_i{x y:Int}:eqF (.int x) (.int y)=decide (x=y):=by show(x==y)=_;rw[qi2];simp
theorem lh:∀{l m:List Dt},l.all cT=true->m.all cT=true->cmpbs l m=true
 |[],m,_,_=>by cases m<;>simp[cmpbs]
 |_::_,[],_,_=>by simp[cmpbs]
 |d::l,e::m,h,h'=>by
  simp only[qk1,qb3]at h h';simp only[cmpbs,lh h.2 h'.2,qs6];cases d<;>first|(cases h.1;done)|skip
  all_goals cases e<;>first|(cases h'.1;done)|rfl
theorem lj:∀{l:List Dt},l.all cT=true->deeps l=0
 |[],_=>by simp[deeps]
 |d::l,h=>by simp only[qk1,qb3]at h;simp only[deeps,lj h.2];cases d<;>first|(cases h.1;done)|rfl
theorem pd(q:l.all cT=true)(O:m.all cT=true):gEq neg (.lst l) (.lst m)=some (.leaf (.bl (if neg then !peqs l m else peqs l m))):=jz (Eo (by rw[lh q O,lj q];rfl))
theorem wK:dD fi bb g δ=(fi δ).bind fun ds=>cu bb g ds δ:=rfl
theorem qF(a:Int)(q:0<n):∃k:Nat,k<n/\a%(n:Int)=(k:Int):=by have O:=ql4 a (show(n:Int)≠0 by lia);have h1:=qi6 a (show(0:Int)<n by lia);exact⟨(a%(n:Int)).toNat,by lia,by lia⟩
theorem atI_0{α:Type}{l:List α}:atI l 0=l[0]?:=bG (k:=0)
theorem atI_1{α:Type}{l:List α}:atI l 1=l[1]?:=bG (k:=1)
theorem atI_2{α:Type}{l:List α}:atI l 2=l[2]?:=bG (k:=2)
theorem atI_3{α:Type}{l:List α}:atI l 3=l[3]?:=bG (k:=3)
theorem atI_4{α:Type}{l:List α}:atI l 4=l[4]?:=bG (k:=4)
open PySem
theorem Ce:(qa0 "copy"=qa0 "op")=False:=eq_false (by decide +kernel)
theorem yO:(qa0 "copy"=qa0 "load")=False:=eq_false (by decide +kernel)
theorem xt:(qa0 "copy"=qa0 "store")=False:=eq_false (by decide +kernel)
theorem yP:(qa0 "copy"=qa0 "take")=False:=eq_false (by decide +kernel)
theorem Ah:(qa0 "copy"=qa0 "lay")=False:=eq_false (by decide +kernel)
theorem yQ:(qa0 "copy"=qa0 "hear")=False:=eq_false (by decide +kernel)
theorem Ai:(qa0 "copy"=qa0 "say")=False:=eq_false (by decide +kernel)
theorem Cf:(qa0 "copy"=qa0 "if")=False:=eq_false (by decide +kernel)
theorem Cg:(qa0 "copy"=qa0 "go")=False:=eq_false (by decide +kernel)
theorem Aj:(qa0 "copy"=qa0 "end")=False:=eq_false (by decide +kernel)
theorem Ch:(qa0 "op"=qa0 "copy")=False:=eq_false (by decide +kernel)
theorem Ci:(qa0 "op"=qa0 "load")=False:=eq_false (by decide +kernel)
theorem Ak:(qa0 "op"=qa0 "store")=False:=eq_false (by decide +kernel)
theorem Cj:(qa0 "op"=qa0 "take")=False:=eq_false (by decide +kernel)
theorem Dh:(qa0 "op"=qa0 "lay")=False:=eq_false (by decide +kernel)
theorem Ck:(qa0 "op"=qa0 "hear")=False:=eq_false (by decide +kernel)
theorem Di:(qa0 "op"=qa0 "say")=False:=eq_false (by decide +kernel)
theorem Ey:(qa0 "op"=qa0 "if")=False:=eq_false (by decide +kernel)
theorem Ez:(qa0 "op"=qa0 "go")=False:=eq_false (by decide +kernel)
theorem Dj:(qa0 "op"=qa0 "end")=False:=eq_false (by decide +kernel)
theorem yR:(qa0 "load"=qa0 "copy")=False:=eq_false (by decide +kernel)
theorem Cl:(qa0 "load"=qa0 "op")=False:=eq_false (by decide +kernel)
theorem xu:(qa0 "load"=qa0 "store")=False:=eq_false (by decide +kernel)
theorem yS:(qa0 "load"=qa0 "take")=False:=eq_false (by decide +kernel)
theorem Al:(qa0 "load"=qa0 "lay")=False:=eq_false (by decide +kernel)
theorem yT:(qa0 "load"=qa0 "hear")=False:=eq_false (by decide +kernel)
theorem Am:(qa0 "load"=qa0 "say")=False:=eq_false (by decide +kernel)
theorem Cm:(qa0 "load"=qa0 "if")=False:=eq_false (by decide +kernel)
theorem Cn:(qa0 "load"=qa0 "go")=False:=eq_false (by decide +kernel)
theorem An:(qa0 "load"=qa0 "end")=False:=eq_false (by decide +kernel)
theorem xw:(qa0 "store"=qa0 "copy")=False:=eq_false (by decide +kernel)
theorem Ao:(qa0 "store"=qa0 "op")=False:=eq_false (by decide +kernel)
theorem xx:(qa0 "store"=qa0 "load")=False:=eq_false (by decide +kernel)
theorem xy:(qa0 "store"=qa0 "take")=False:=eq_false (by decide +kernel)
theorem yU:(qa0 "store"=qa0 "lay")=False:=eq_false (by decide +kernel)
theorem xz:(qa0 "store"=qa0 "hear")=False:=eq_false (by decide +kernel)
theorem yV:(qa0 "store"=qa0 "say")=False:=eq_false (by decide +kernel)
theorem Ap:(qa0 "store"=qa0 "if")=False:=eq_false (by decide +kernel)
theorem Aq:(qa0 "store"=qa0 "go")=False:=eq_false (by decide +kernel)
theorem yW:(qa0 "store"=qa0 "end")=False:=eq_false (by decide +kernel)
theorem yX:(qa0 "take"=qa0 "copy")=False:=eq_false (by decide +kernel)
theorem Co:(qa0 "take"=qa0 "op")=False:=eq_false (by decide +kernel)
theorem yY:(qa0 "take"=qa0 "load")=False:=eq_false (by decide +kernel)
theorem xA:(qa0 "take"=qa0 "store")=False:=eq_false (by decide +kernel)
theorem Ar:(qa0 "take"=qa0 "lay")=False:=eq_false (by decide +kernel)
theorem yZ:(qa0 "take"=qa0 "hear")=False:=eq_false (by decide +kernel)
theorem As:(qa0 "take"=qa0 "say")=False:=eq_false (by decide +kernel)
theorem Cp:(qa0 "take"=qa0 "if")=False:=eq_false (by decide +kernel)
theorem Cq:(qa0 "take"=qa0 "go")=False:=eq_false (by decide +kernel)
theorem At:(qa0 "take"=qa0 "end")=False:=eq_false (by decide +kernel)
theorem Au:(qa0 "lay"=qa0 "copy")=False:=eq_false (by decide +kernel)
theorem Dk:(qa0 "lay"=qa0 "op")=False:=eq_false (by decide +kernel)
theorem Av:(qa0 "lay"=qa0 "load")=False:=eq_false (by decide +kernel)
theorem zb:(qa0 "lay"=qa0 "store")=False:=eq_false (by decide +kernel)
theorem Aw:(qa0 "lay"=qa0 "take")=False:=eq_false (by decide +kernel)
theorem Ax:(qa0 "lay"=qa0 "hear")=False:=eq_false (by decide +kernel)
theorem Cr:(qa0 "lay"=qa0 "say")=False:=eq_false (by decide +kernel)
theorem Dl:(qa0 "lay"=qa0 "if")=False:=eq_false (by decide +kernel)
theorem Dm:(qa0 "lay"=qa0 "go")=False:=eq_false (by decide +kernel)
theorem Cs:(qa0 "lay"=qa0 "end")=False:=eq_false (by decide +kernel)
theorem zd:(qa0 "hear"=qa0 "copy")=False:=eq_false (by decide +kernel)
theorem Ct:(qa0 "hear"=qa0 "op")=False:=eq_false (by decide +kernel)
theorem ze:(qa0 "hear"=qa0 "load")=False:=eq_false (by decide +kernel)
theorem xB:(qa0 "hear"=qa0 "store")=False:=eq_false (by decide +kernel)
theorem zf:(qa0 "hear"=qa0 "take")=False:=eq_false (by decide +kernel)
theorem Ay:(qa0 "hear"=qa0 "lay")=False:=eq_false (by decide +kernel)
theorem Az:(qa0 "hear"=qa0 "say")=False:=eq_false (by decide +kernel)
theorem Cu:(qa0 "hear"=qa0 "if")=False:=eq_false (by decide +kernel)
theorem Cv:(qa0 "hear"=qa0 "go")=False:=eq_false (by decide +kernel)
theorem AA:(qa0 "hear"=qa0 "end")=False:=eq_false (by decide +kernel)
theorem AB:(qa0 "say"=qa0 "copy")=False:=eq_false (by decide +kernel)
theorem Dn:(qa0 "say"=qa0 "op")=False:=eq_false (by decide +kernel)
theorem AC:(qa0 "say"=qa0 "load")=False:=eq_false (by decide +kernel)
theorem zg:(qa0 "say"=qa0 "store")=False:=eq_false (by decide +kernel)
theorem AD:(qa0 "say"=qa0 "take")=False:=eq_false (by decide +kernel)
theorem Cw:(qa0 "say"=qa0 "lay")=False:=eq_false (by decide +kernel)
theorem AE:(qa0 "say"=qa0 "hear")=False:=eq_false (by decide +kernel)
theorem Do:(qa0 "say"=qa0 "if")=False:=eq_false (by decide +kernel)
theorem Dp:(qa0 "say"=qa0 "go")=False:=eq_false (by decide +kernel)
theorem Cy:(qa0 "say"=qa0 "end")=False:=eq_false (by decide +kernel)
theorem Cz:(qa0 "if"=qa0 "copy")=False:=eq_false (by decide +kernel)
theorem EA:(qa0 "if"=qa0 "op")=False:=eq_false (by decide +kernel)
theorem CA:(qa0 "if"=qa0 "load")=False:=eq_false (by decide +kernel)
theorem AF:(qa0 "if"=qa0 "store")=False:=eq_false (by decide +kernel)
theorem CB:(qa0 "if"=qa0 "take")=False:=eq_false (by decide +kernel)
theorem Dq:(qa0 "if"=qa0 "lay")=False:=eq_false (by decide +kernel)
theorem CC:(qa0 "if"=qa0 "hear")=False:=eq_false (by decide +kernel)
theorem Dr:(qa0 "if"=qa0 "say")=False:=eq_false (by decide +kernel)
theorem EB:(qa0 "if"=qa0 "go")=False:=eq_false (by decide +kernel)
theorem Ds:(qa0 "if"=qa0 "end")=False:=eq_false (by decide +kernel)
theorem EC:(qa0 "go"=qa0 "op")=False:=eq_false (by decide +kernel)
theorem AG:(qa0 "go"=qa0 "store")=False:=eq_false (by decide +kernel)
theorem CD:(qa0 "go"=qa0 "take")=False:=eq_false (by decide +kernel)
theorem Du:(qa0 "go"=qa0 "lay")=False:=eq_false (by decide +kernel)
theorem Dv:(qa0 "go"=qa0 "end")=False:=eq_false (by decide +kernel)
theorem AH:(qa0 "end"=qa0 "copy")=False:=eq_false (by decide +kernel)
theorem Dw:(qa0 "end"=qa0 "op")=False:=eq_false (by decide +kernel)
theorem AI:(qa0 "end"=qa0 "load")=False:=eq_false (by decide +kernel)
theorem zh:(qa0 "end"=qa0 "store")=False:=eq_false (by decide +kernel)
theorem AJ:(qa0 "end"=qa0 "take")=False:=eq_false (by decide +kernel)
theorem CG:(qa0 "end"=qa0 "lay")=False:=eq_false (by decide +kernel)
theorem AK:(qa0 "end"=qa0 "hear")=False:=eq_false (by decide +kernel)
theorem CH:(qa0 "end"=qa0 "say")=False:=eq_false (by decide +kernel)
theorem Dx:(qa0 "end"=qa0 "if")=False:=eq_false (by decide +kernel)
theorem Dy:(qa0 "end"=qa0 "go")=False:=eq_false (by decide +kernel)
variable{J5:List Str}
theorem wL{k:Str}:x∈ib J5 k↔x∈J5∨x=k:=by
 unfold ib;split
 .rename_i h;exact⟨.inl,fun z=>z.elim id fun e=>e▸h⟩
 .simp
theorem gO:∀{ss J5:List Str},x∈ss.foldl ib J5↔x∈J5∨x∈ss
 |[],J5=>by simp
 |s::ss,J5=>by rw[qj5,gO,wL,qb0,or_assoc]
variable{ss:List Str}
theorem onces_mem:x∈dZ ss↔x∈ss:=by unfold dZ;rw[gO];simp
theorem qG{k:Str}(h:J5.Nodup):(ib J5 k).Nodup:=by
 unfold ib;split
 .exact h
 .rename_i hk;rw[ql0];exact⟨h,by simp,fun a O b q e=>hk (by rw[qb6.mp q]at e;exact e▸O)⟩
theorem fP:∀{ss J5:List Str},J5.Nodup->(ss.foldl ib J5).Nodup
 |[],J5,h=>h
 |s::ss,J5,h=>by rw[qj5];exact fP (qG h)
theorem pe(ss:List Str):(dZ ss).Nodup:=fP qy4
def Sd(l:List Str):Prop:=l.Pairwise fun a b=>leS a b=true/\a≠b
theorem zi(q:ss.Nodup):Sd (fw ss):=by
 have h1:=iY ss;have h2:(fw ss).Pairwise fun a b=>a≠b:=(du ss).nodup_iff.mpr q
 exact h1.and h2
theorem Sd.nodup{l:List Str}(h:Sd l):l.Nodup:=qq3 (fun z=>z.2) h
theorem wM:∀{l m:List Str},Sd l->Sd m->(∀x,x∈l↔x∈m)->l=m
 |[],[],_,_,_=>rfl
 |[],b::m,_,_,h=>by simpa using (h b).mpr (.head _)
 |a::l,[],_,_,h=>by simpa using (h a).mp (.head _)
 |a::l,b::m,hl,Z,h=>by
  have q:=qh1.mp hl;have O:=qh1.mp Z
  have e:a=b:=by
   rcases qb0.mp ((h a).mp (.head _))with z|z
   .exact z
   .rcases qb0.mp ((h b).mpr (.head _))with y|y
    .exact y.symm
    .exact oW (q.1 b y).1 (O.1 a z).1
  subst e;congr 1;refine wM q.2 O.2 fun x=>⟨fun Y=>?_,fun Y=>?_⟩
  .rcases qb0.mp ((h x).mp (.tail _ Y))with z|z
   .exact absurd z.symm (q.1 x Y).2
   .exact z
  .rcases qb0.mp ((h x).mpr (.tail _ Y))with z|z
   .exact absurd z.symm (O.1 x Y).2
   .exact z
theorem cJ{α:Type}[DecidableEq α]:∀{l m:List α},l.Nodup->(∀x∈l,x∈m)->l.length<=m.length
 |[],m,_,_=>qi3 _
 |a::l,m,h,O=>by
  obtain⟨h1,h2⟩:=qh3.mp h;have Y:a∈m:=O a (.head _);have:=cJ (m:=m.erase a) h2 fun x q=>(List.mem_erase_of_ne (show x≠a from fun e=>h1 (by rw[<- e];exact q))).mpr (O x (.tail _ q))
  rw[List.length_erase_of_mem Y]at this;have hp:=List.length_pos_of_mem Y;rw[qf4];lia
theorem ED{l m:List Str}(Y:Sd l)(Z:Sd m)(h:∀x∈l,x∈m)(ne:l≠m):l.length<m.length:=by
 by_cases z:∃x,x∈m/\x∉l
 .obtain⟨x,h1,h2⟩:=z
  have:=cJ (l:=x::l) (m:=m) (qh3.mpr ⟨h2,Y.nodup⟩) fun y O=>by
   rcases qb0.mp O with rfl|O
   .exact h1
   .exact h y O
  rw[qf4]at this;lia
 .exact absurd (wM Y Z fun x=>⟨h x,fun hx=>qy5 fun q=>z ⟨x,hx,q⟩⟩) ne
inductive Atm where
 |nm (x:Str)|vl (i:Int)
inductive Rw where
 |copy (x:Str) (a:Atm)|op (x s:Str) (a b:Atm)|load (x c:Str)|store (c:Str) (a:Atm)|take (x f:Str) (a:Atm)|lay (f:Str) (a b:Atm)|hear (x:Str)|say (a:Atm)|iff (a:Atm) (g:Nat)|go (g:Nat)|fin (a:Atm)
def Rw.atoms:Rw->List Atm
 |.copy _ a=>[a]|.op _ _ a b=>[a,b]|.load _ _=>[]|.store _ a=>[a]|.take _ _ a=>[a]|.lay _ a b=>[a,b]|.hear _=>[]|.say a=>[a]|.iff a _=>[a]|.go _=>[]|.fin a=>[a]
def nms:List Atm->List Str
 |[]=>[]
 |.nm x::r=>x::nms r
 |.vl _::r=>nms r
def Rw.reads(r:Rw):List Str:=dZ (nms r.atoms)
def Rw.sets:Rw->Option Str
 |.copy x _=>some x|.op x _ _ _=>some x|.load x _=>some x|.take x _ _=>some x|.hear x=>some x
 |_=>none
def Rw.outs(n:Nat):Rw->List Nat
 |.go g=>[g]|.iff _ g=>[g,n+1]|.fin _=>[]
 |_=>[n+1]
theorem ka:∀l:List Atm,(nms l).length<=l.length
 |[]=>nL _
 |.nm x::r=>Nat.succ_le_succ (ka r)
 |.vl _::r=>Nat.le_succ_of_le (ka r)
theorem Rw.reads_len(r:Rw):r.reads.length<=2:=by
 have h1:=jv (nms r.atoms);have h2:=ka r.atoms;have h3:r.atoms.length<=2:=by cases r<;>simp[Rw.atoms]
 unfold Rw.reads;lia
theorem Rw.outs_len(r:Rw)(n:Nat):(r.outs n).length<=2:=by cases r<;>simp[Rw.outs]
def jQ(r:Rw)(q:List (List Str)):List Str:=q.flatMap fun l=>l.filter fun b=>decide (r.sets≠some b)
def NA(r:Rw)(q:List (List Str)):List Str:=fw (dZ (r.reads++jQ r q))
theorem sortS_mem:x∈fw ss↔x∈ss:=(du ss).mem_iff
variable{r:Rw}
theorem CI{Y:List (List Str)}{b:Str}:b∈NA r Y↔b∈r.reads∨(r.sets≠some b/\∃l∈Y,b∈l):=by
 unfold NA jQ;rw[sortS_mem,onces_mem,qj4,List.mem_flatMap];constructor
 .rintro(h|⟨l,O,q⟩)
  .exact .inl h
  .rw[qd4,decide_eq_true_eq]at q;exact .inr ⟨q.2,l,O,q.1⟩
 .rintro(h|⟨h,l,O,q⟩)
  .exact .inl h
  .exact .inr ⟨l,O,qd4.mpr ⟨q,decide_eq_true_eq.mpr h⟩⟩
theorem EE(r:Rw)(q:List (List Str)):Sd (NA r q):=zi (pe _)
inductive Needs(J0:List Rw):Nat->Str->Prop
 |here {i:Nat} {r:Rw} {b:Str}:J0[i]?=some r->b∈r.reads->Needs J0 i b
 |on {i j:Nat} {r:Rw} {b:Str}:J0[i]?=some r->r.sets≠some b->j∈r.outs i->Needs J0 j b->Needs J0 i b
def nw(J0:List Rw)(J3:List (List Str))(i:Nat):List Str:=match J0[i]? with
 |some r=>NA r ((r.outs i).map fun j=>J3.getD j [])
 |none=>[]
variable{J0:List Rw}
theorem qH{J3:List (List Str)}{i:Nat}{b:Str}(h:J0[i]?=some r):b∈nw J0 J3 i↔b∈r.reads∨(r.sets≠some b/\∃j∈r.outs i,b∈J3.getD j []):=by
 unfold nw;rw[h];show b∈NA r _↔_;rw[CI];simp only[qc5];constructor
 .rintro(h|⟨h,l,⟨j,q,rfl⟩,O⟩)
  .exact .inl h
  .exact .inr ⟨h,j,q,O⟩
 .rintro(h|⟨h,j,q,O⟩)
  .exact .inl h
  .exact .inr ⟨h,_,⟨j,q,rfl⟩,O⟩
theorem AL(J0:List Rw)(J3:List (List Str))(i:Nat):Sd (nw J0 J3 i):=by
 unfold nw;split
 .exact EE _ _
 .exact qq0
theorem nH{α:Type}{l:List (List α)}{j:Nat}{b:α}(h:b∈l.getD j []):∃m,l[j]?=some m/\b∈m:=by
 rw[qa6]at h;cases q:l[j]? with
 |none=>rw[q]at h;simp at h
 |some m=>rw[q]at h;exact⟨m,rfl,h⟩
theorem nI{α:Type}{l:List (List α)}{j:Nat}{m:List α}(h:l[j]?=some m):l.getD j []=m:=by rw[qa6,h];rfl
structure Fnd(J0:List Rw)(B:List Str)(J3:List (List Str)):Prop where
 len:J3.length=J0.length
 sd:∀(i:Nat)(l:List Str),J3[i]?=some l->Sd l
 sub:∀(i:Nat)(l:List Str)(b:Str),J3[i]?=some l->b∈l->b∈B
 nd:∀(i:Nat)(l:List Str)(b:Str),J3[i]?=some l->b∈l->Needs J0 i b
 inc:∀(i:Nat)(l:List Str)(b:Str),J3[i]?=some l->b∈l->b∈nw J0 J3 i
def tot(J3:List (List Str)):Nat:=(J3.map qo1).sum
theorem Fnd.start{B:List Str}:Fnd J0 B (J0.map fun _=>[]):=by
 have O:∀(i:Nat)(l:List Str),(J0.map fun _=>([]:List Str))[i]?=some l->l=[]:=fun i l h=>by rw[qb1]at h;obtain⟨r,_,e⟩:=mS h;exact e.symm
 refine⟨by simp,fun i l h=>?_,fun i l b h q=>?_,fun i l b h q=>?_,fun i l b h q=>?_⟩
 .rw[O i l h];exact qq0
 all_goals (rw[O i l h]at q;cases q)
section
variable{J0:List Rw}{B:List Str}{J3:List (List Str)}
theorem se{f g:List (List Str)}(h:∀j b,b∈f.getD j []->b∈g.getD j []){i:Nat}{b:Str}(O:b∈nw J0 f i):b∈nw J0 g i:=by
 cases q:J0[i]? with
 |none=>unfold nw at O;rw[q]at O;cases O
 |some r=>rw[qH q]at O ⊢;exact O.imp id fun⟨h1,j,Y,O⟩=>⟨h1,j,Y,h j b O⟩
theorem Fnd.step(F:Fnd J0 B J3)(hB:∀(i:Nat)(r:Rw)(b:Str),J0[i]?=some r->b∈r.reads->b∈B){i:Nat}(hi:i<J0.length):Fnd J0 B (J3.set i (nw J0 J3 i)):=by
 have hl:i<J3.length:=by rw[F.len];exact hi
 obtain⟨r,Z⟩:∃r,J0[i]?=some r:=⟨J0[i],by simp[hi]⟩
 have mono:∀j b,b∈J3.getD j []->b∈(J3.set i (nw J0 J3 i)).getD j []:=fun j b q=>by
  obtain⟨m,O,Y⟩:=nH q;by_cases e:i=j
  .subst e;rw[nI (qf2 hl)];exact F.inc i m b O Y
  .rw[nI (l:=J3.set i (nw J0 J3 i)) (m:=m) (by rw[gN e];exact O)];exact Y
 refine⟨by simp[F.len],fun j l h=>?_,fun j l b h q=>?_,fun j l b h q=>?_,fun j l b h q=>?_⟩
 .by_cases e:i=j
  .subst e;rw[qf2 hl]at h;cases h;exact AL _ _ _
  .rw[gN e]at h;exact F.sd j l h
 .by_cases e:i=j
  .subst e;rw[qf2 hl]at h;cases h;rcases(qH Z).mp q with z|⟨_,j,_,z⟩
   .exact hB i r b Z z
   .obtain⟨m,O,q⟩:=nH z;exact F.sub j m b O q
  .rw[gN e]at h;exact F.sub j l b h q
 .by_cases e:i=j
  .subst e;rw[qf2 hl]at h;cases h;rcases(qH Z).mp q with z|⟨h1,j,hj,z⟩
   .exact .here Z z
   .obtain⟨m,O,q⟩:=nH z;exact .on Z h1 hj (F.nd j m b O q)
  .rw[gN e]at h;exact F.nd j l b h q
 .by_cases e:i=j
  .subst e;rw[qf2 hl]at h;cases h;exact se mono q
  .rw[gN e]at h;exact se mono (F.inc j l b h q)
theorem sf:∀{J3:List (List Str)}{i:Nat}{l m:List Str},J3[i]?=some l->tot (J3.set i m)+l.length=tot J3+m.length
 |[],i,l,m,h=>by simp at h
 |x::f,0,l,m,h=>by simp at h;subst h;simp only[tot,qs7,qa5,qt1];lia
 |x::f,i+1,l,m,h=>by have:=sf (J3:=f) (i:=i) (l:=l) (m:=m) (by simpa using h);simp only[tot,qp0,qa5,qt1]at this ⊢;lia
theorem tot_le:∀{J3:List (List Str)},(∀l∈J3,l.length<=n)->tot J3<=J3.length*n
 |[],_=>by simp[tot]
 |x::f,h=>by
  have:=tot_le (J3:=f) fun l q=>h l (.tail _ q)
  have h1:=h x (.head _);simp only[tot,qa5,qt1,qf4,Nat.succ_mul]at this ⊢;lia
theorem Fnd.short(F:Fnd J0 B J3){i:Nat}{l:List Str}(h:J3[i]?=some l):l.length<=B.length:=cJ (F.sd i l h).nodup fun b q=>F.sub i l b h q
theorem Fnd.tot_le(F:Fnd J0 B J3):tot J3<=J0.length*B.length:=by
 rw[<- F.len];refine L2.tot_le fun l q=>?_
 obtain⟨i,h⟩:=qm8 q;exact F.short h
theorem Fnd.more(F:Fnd J0 B J3){i:Nat}{l:List Str}(h:J3[i]?=some l)(O:nw J0 J3 i≠l):tot J3<tot (J3.set i (nw J0 J3 i)):=by have h1:=sf (m:=nw J0 J3 i) h;have h2:=ED (F.sd i l h) (AL J0 J3 i) (fun x q=>F.inc i l x h q) (qp1 O);lia
def Fix(J0:List Rw)(J3:List (List Str)):Prop:=∀(i:Nat)(l:List Str),J3[i]?=some l->nw J0 J3 i=l
end
def Atm.d:Atm->Dt
 |.nm x=>.str x
 |.vl i=>.int i
noncomputable def Rw.d:Rw->Dt
 |.copy x a=>.tup [.str "copy",.str x,a.d]
 |.op x s a b=>.tup [.str "op",.str x,.str s,a.d,b.d]
 |.load x c=>.tup [.str "load",.str x,.str c]
 |.store c a=>.tup [.str "store",.str c,a.d]
 |.take x f a=>.tup [.str "take",.str x,.str f,a.d]
 |.lay f a b=>.tup [.str "lay",.str f,a.d,b.d]
 |.hear x=>.tup [.str "hear",.str x]
 |.say a=>.tup [.str "say",a.d]
 |.iff a g=>.tup [.str "if",a.d,.int g]
 |.go g=>.tup [.str "go",.int g]
 |.fin a=>.tup [.str "end",a.d]
def dI(j:Nat):Dt:=.int (j:Int)
def dS(l:List Str):Dt:=.lst (l.map .str)
def dF(f:List (List Str)):Dt:=.lst (f.map dS)
def dR(J0:List Rw):Dt:=.tup (J0.map Rw.d)
theorem bO{α:Type}{f h:α->Dt}:∀{l:List α},(∀a∈l,∃ δ1,bb (f a) δ=some δ1/\ft δ1=some true/\fe δ1=some (h a))->bK bb ft fe δ (l.map f)=some (l.map h)
 |[],_=>rfl
 |a::l,q=>by obtain⟨δ1,h1,h2,h3⟩:=q a qd8;rw[qa5];unfold bK;rw[h1,qa2,h2,qa2,if_pos rfl,h3,qa2,bO fun e O=>q e (qd2 _ O)];rfl
theorem b7{α:Type}{f h:α->Dt}{p:α->Bool}:∀{l:List α},(∀a∈l,∃ δ1,bb (f a) δ=some δ1/\ft δ1=some (p a)/\(p a=true->fe δ1=some (h a)))->bK bb ft fe δ (l.map f)=some ((l.filter p).map h)
 |[],_=>rfl
 |a::l,q=>by
  obtain⟨δ1,h1,h2,h3⟩:=q a qd8;have O:=b7 (l:=l) fun e Y=>q e (qd2 _ Y)
  rw[qa5];unfold bK;rw[h1,qa2,h2,qa2];cases hp:p a with
  |true=>rw[if_pos rfl,h3 hp,qa2,O,qt2 hp];rfl
  |false=>rw[if_neg (by simp),O,qt3 (by simp[hp])]
theorem t7{α:Type}{f:α->Dt}:∀(l:List α)(i:Nat),e8 i (l.map f)=(l.mapIdx fun k a=>Dt.tup [.int ((i+k:Nat):Int),f a])
 |[],_=>rfl
 |a::l,i=>by rw[qa5,e8,t7 l (i+1),List.mapIdx_cons];congr 1;congr 1;funext k a;rw[show i+1+k=i+(k+1)by lia]
theorem ll{α:Type}{f:α->Dt}{h:Nat->α->Dt}:∀{l:List α}(i:Nat),(∀k a,∃ δ1,bb (.tup [.int ((k:Nat):Int),f a]) δ=some δ1/\fe δ1=some (h k a))->bK bb cg fe δ (e8 i (l.map f))=some (l.mapIdx fun k a=>h (i+k) a)
 |[],_,_=>rfl
 |a::l,i,q=>by obtain⟨δ1,h1,h3⟩:=q i a;rw[qa5,e8];unfold bK;rw[h1,qa2];show((fe δ1).bind fun y=>_)=_;rw[h3,qa2,ll (i+1) q,List.mapIdx_cons];show some _=some _;congr 1;congr 1;congr 1;funext k a;rw[show i+1+k=i+(k+1)by lia]
theorem eQ(l:List Str):(l.map Dt.str).all cT=true:=by rw[qj7];intro x q;obtain⟨y,_,rfl⟩:=qc5.mp q;rfl
theorem sh(l:List Str)(x:Str):((l.map Dt.str).any fun y=>eqF y (.str x))=decide (x∈l):=by
 induction l with
 |nil=>rfl
 |cons a l q=>
  rw[qa5,qk2,q,show eqF (.str a) (.str x)=decide (a=x)from rfl];by_cases h:a=x
  .simp[h]
  .have:¬ x=a:=fun z=>h z.symm
   simp[h,this]
theorem gIn_strs{l:List Str}:bU neg (.str x) (.lst (l.map .str))=some (.leaf (.bl (if neg then !decide (x∈l)else decide (x∈l)))):=by rw[Ep (by rw[eQ];rfl),sh]
theorem jR{l:List Str}(h:l.length<64):gH [.lst (l.map .str)]=some (.lst ((fw (dZ l)).map .str)):=by unfold gH yI;dsimp only;rw[iu,qa2,if_pos ⟨by lia,Nat.lt_of_le_of_lt (jv l) h⟩]
def extL(l m:List Dt)(i:Nat)(δ:De):Option Out:=if l.length+m.length<=qb4 then some (.nx (δ.set i (some (.lst (l++m)))))else none
theorem zj{i:Nat}(h:l.length+m.length<=1000000):extL l m i δ=some (.nx (δ.set i (some (.lst (l++m))))):=if_pos (small h)
theorem EF{i:Nat}{f:De->Option T}(h:δ[i]?=some (some (.lst l)))(q:f δ=some (.lst m)):q80 i f δ=extL l m i δ:=by unfold q80;rw[h];dsimp only;rw[q];rfl
theorem mD:∀{l m:List Str},peqs (l.map .str) (m.map .str)=decide (l=m)
 |[],[]=>rfl
 |[],_::_=>rfl
 |_::_,[]=>rfl
 |a::l,b::m=>by rw[qa5,qa5];show(decide (a=b)&&peqs (l.map .str) (m.map .str))=_;rw[mD];by_cases h1:a=b<;>by_cases h2:l=m<;>simp[h1,h2]
theorem pf{l m:List Str}:gEq neg (.lst (l.map .str)) (.lst (m.map .str))=some (.leaf (.bl (if neg then !decide (l=m)else decide (l=m)))):=by rw[pd (eQ l) (eQ m),mD]
theorem bD{i:Nat}{f:De->Option T}{t:T}(h:f δ=some t):aF i f δ=some (.nx (δ.set i (some t))):=by unfold aF;rw[h];rfl
theorem zm(h:c δ=some true):sIf c g1 g2 δ=g1 δ:=by unfold sIf;rw[h];rfl
theorem t9(h:c δ=some false):sIf c g1 g2 δ=g2 δ:=by unfold sIf;rw[h];rfl
theorem i7(h:c δ=some true)(q:g δ=some (.nx δ1)):bz c g (n+1) δ=bz c g n δ1:=by
 conv=>lhs;unfold bz
 rw[h,qa2,if_pos rfl,q];rfl
theorem wN{t:T}(h:c δ=some true)(q:g δ=some (.rt t)):bz c g (n+1) δ=some (.rt t):=by
 conv=>lhs;unfold bz
 rw[h,qa2,if_pos rfl,q];rfl
theorem nJ(h:c δ=some false):bz c g (n+1) δ=some (.nx δ):=by
 conv=>lhs;unfold bz
 rw[h];rfl
theorem ke{m:Nat}{t:T}(h:g (ds.map (fun d=>some (T.leaf d))++qg3 (m-ds.length) none)=some (.rt t)):cj m g ds=some t:=by unfold cj;rw[h]
theorem CJ{k:Nat}(h:k<n):ixN n (k:Int)=some k:=by unfold ixN;rw[if_pos (by lia),if_pos (by lia)];simp
variable{fk:De->Option Dt}
theorem AM{i k:Nat}{d:Dt}(h:δ[i]?=some (some (.lst l)))(hk:fk δ=some (dI k))(q:fe δ=some d)(O:k<l.length):lH i fk fe δ=some (.nx (δ.set i (some (.lst (l.set k d))))):=by
 unfold lH dI at*
 rw[q,hk,qa2,qa2,h];simp only[Et,qa2,CJ O,ql1]
variable{kd:Dt}
theorem AN{i:Nat}{l:List (Key×Dt)}{d:Dt}{k:Key}(h:δ[i]?=some (some (.dct l)))(hk:fk δ=some kd)(q:oM kd=some k)(O:fe δ=some d)(Z:l.length<1000000)(Y:(l.map (·.1)).Nodup):lH i fk fe δ=some (.nx (δ.set i (some (.dct (iq l k d))))):=by unfold lH;rw[O,hk,qa2,qa2,h];dsimp only;rw[q,qa2,if_pos ⟨i6 Z,Y⟩]
theorem qI{i:Nat}{f:De->Option Dt}{d:Dt}(h:δ[i]?=some (some (.lst l)))(q:f δ=some d)(O:l.length<1000000):q14 i f δ=some (.nx (δ.set i (some (.lst (l++[d]))))):=by unfold q14;rw[h];dsimp only;rw[q,qa2,if_pos (i6 O)]
theorem ua(h:n<=1000):tN [.int ((n:Int)-1),.int (-1),.int (-1)]=some (((qb2 n).map fun i=>n-1-i).map dI):=by
 unfold tN
 have e:(qd1 ((n:Int)-1) (-1) (-1)).toNat=n:=by
  unfold qd1;rw[if_neg (by decide)];by_cases q:(n:Int)-1 > -1
  .rw[if_pos q];have:((n:Int)-1 - -1-1)/(- -1)=(n:Int)-1:=by rw[show(- -1:Int)=1 by decide,Int.ediv_one];lia
   rw[this];lia
  .rw[if_neg q];lia
 dsimp only;rw[if_pos (show vP ((n:Int)-1) (-1) (-1)=true by unfold vP;simp;lia),e];congr 1;unfold qm;rw[qc3];refine List.map_congr_left fun i hi=>?_
 have:=qb5.mp hi;show Dt.int _=Dt.int ((n-1-i:Nat):Int);congr 1;lia
section
variable{α:Type}[DecidableEq α]
abbrev CF(α:Type):=List (α×Option α)
def ks(cf:CF α):List α:=cf.map (·.1)
def fm(h:α)(cf:CF α)(t:α):CF α:=if t∈ks cf then cf else cf++[(t,some h)]
def cK(h:α)(cf:CF α)(ts:List α):CF α:=ts.foldl (fm h) cf
def cG(cf:CF α)(s:α):CF α:=if s∈ks cf then cf else cf++[(s,none)]
structure BI(beh:α->List α)(fit:α->Bool)(J4:List α)(cf:CF α)(k:Nat):Prop where
 nd:(ks cf).Nodup
 sub:∀s∈J4,s∈ks cf
 par:∀(i:Nat)(t p:α),cf[i]?=some (t,some p)->∃j q,j<i/\cf[j]?=some (p,q)/\t∈beh p/\fit p=false
 st:∀(i:Nat)(t:α),cf[i]?=some (t,none)->t∈J4
 done:∀(i:Nat)(t:α)(q:Option α),i<k->cf[i]?=some (t,q)->fit t=false/\∀u∈beh t,u∈ks cf
variable{beh:α->List α}{fit:α->Bool}{J4:List α}
theorem d8(cf cf':CF α):ks (cf++cf')=ks cf++ks cf':=qf0
theorem jB{cf:CF α}{t:α}(h:t∈ks cf):∃(i:Nat)(q:Option α),cf[i]?=some (t,q):=by obtain⟨p,hp,rfl⟩:=qc5.mp h;obtain⟨i,hi,e⟩:=List.getElem_of_mem hp;exact⟨i,p.2,by rw[gQ hi,e]⟩
theorem fQ{cf:CF α}{t:α}{i:Nat}{q:Option α}(h:cf[i]?=some (t,q)):t∈ks cf:=qc5.mpr ⟨(t,q),qd3 h,rfl⟩
theorem c6(h:α):∀(ts:List α)(cf:CF α),∃e,cK h cf ts=cf++e/\(∀p∈e,p.2=some h/\p.1∈ts)/\((ks cf).Nodup->(ks (cK h cf ts)).Nodup)/\∀t∈ts,t∈ks (cK h cf ts)
 |[],cf=>⟨[],by simp[cK],by simp,fun z=>z,by simp⟩
 |t::ts,cf=>by
  obtain⟨e,h1,h2,h3,h4⟩:=c6 h ts (fm h cf t);have e0:cK h cf (t::ts)=cK h (fm h cf t) ts:=rfl;rw[e0]
  have Z:t∈ks (cK h (fm h cf t) ts):=by
   rw[h1,d8];refine qh0 _ ?_;unfold fm;split
   .assumption
   .rw[d8];exact qc7 _ (by simp[ks])
  have O:∀u∈t::ts,u∈ks (cK h (fm h cf t) ts):=fun u Y=>by
   rcases qb0.mp Y with rfl|Y
   .exact Z
   .exact h4 u Y
  by_cases q:t∈ks cf
  .have:fm h cf t=cf:=if_pos q;rw[this]at h1 h3 ⊢;refine⟨e,h1,fun p hp=>⟨(h2 p hp).1,qd2 _ (h2 p hp).2⟩,h3,?_⟩;rw[this]at O;exact O
  .have:fm h cf t=cf++[(t,some h)]:=if_neg q;rw[this]at h1 h3 ⊢;refine⟨(t,some h)::e,by rw[h1,qk9];rfl,fun p hp=>?_,fun nd=>h3 ?_,?_⟩
   .rcases qb0.mp hp with rfl|hp
    .exact⟨rfl,qd8⟩
    .exact⟨(h2 p hp).1,qd2 _ (h2 p hp).2⟩
   .rw[d8];refine ql0.mpr ⟨nd,by simp[ks],fun a ha b hb=>?_⟩;simp[ks]at hb;subst hb;rintro rfl;exact q ha
   .rw[this]at O;exact O
theorem BI.step{cf:CF α}{k:Nat}{h:α}{q:Option α}(B:BI beh fit J4 cf k)(hk:cf[k]?=some (h,q))(hf:fit h=false):BI beh fit J4 (cK h cf (beh h)) (k+1):=by
 obtain⟨e,h1,h2,h3,h4⟩:=c6 h (beh h) cf
 have keep:∀{i:Nat}{x:α×Option α},cf[i]?=some x->(cK h cf (beh h))[i]?=some x:=fun {i x} z=>by rw[h1,qc6 (gX z).1];exact z
 have O:∀{i:Nat}{x:α×Option α},(cK h cf (beh h))[i]?=some x->cf[i]?=some x∨(x.2=some h/\x.1∈beh h/\cf.length<=i):=fun {i x} z=>by
  rw[h1]at z;by_cases hi:i<cf.length
  .rw[qc6 hi]at z;exact .inl z
  .rw[gR (by lia)]at z;have:=h2 _ (qd3 z);exact .inr ⟨this.1,this.2,by lia⟩
 have Y:∀{t:α},t∈ks cf->t∈ks (cK h cf (beh h)):=fun {t} z=>by rw[h1,d8];exact qh0 _ z
 refine⟨h3 B.nd,fun s hs=>Y (B.sub s hs),fun i t p z=>?_,fun i t z=>?_,fun i t q' hi z=>?_⟩
 .rcases O z with z|⟨z1,z2,z3⟩
  .obtain⟨j,q',g1,g2,g3⟩:=B.par i t p z;exact⟨j,q',g1,keep g2,g3⟩
  .cases z1;exact⟨k,q,qc2 (gX hk).1 z3,keep hk,z2,hf⟩
 .rcases O z with z|⟨z1,_,_⟩
  .exact B.st i t z
  .cases z1
 .have hk':=(gX hk).1;rcases O z with z|⟨_,_,z3⟩
  .by_cases hik:i=k
   .subst hik;rw[hk]at z;cases z;exact⟨hf,fun u Z=>h4 u Z⟩
   .obtain⟨g1,g2⟩:=B.done i t q' (by lia) z;exact⟨g1,fun u Z=>Y (g2 u Z)⟩
  .lia
theorem iw{U:List α}{h:α}{ts:List α}{cf:CF α}(O:∀t∈ks cf,t∈U)(q:∀t∈ts,t∈U):∀t∈ks (cK h cf ts),t∈U:=fun t z=>by
 obtain⟨e,h1,h2,_,_⟩:=c6 h ts cf;rw[h1,d8]at z;rcases qj4.mp z with z|z
 .exact O t z
 .obtain⟨p,hp,rfl⟩:=qc5.mp z;exact q _ (h2 p hp).2
theorem BI.start:BI beh fit J4 (J4.foldl cG []) 0:=by
 have Z:∀(ss:List α)(cf:CF α),(ks cf).Nodup->(∀p∈cf,p.2=none/\p.1∈J4)->(∀s∈ss,s∈J4)->(ks (ss.foldl cG cf)).Nodup/\(∀p∈ss.foldl cG cf,p.2=none/\p.1∈J4)/\∀s,(s∈ss∨s∈ks cf)->s∈ks (ss.foldl cG cf):=fun ss=>by
  induction ss with
  |nil=>intro cf h1 h2 _;exact⟨h1,h2,fun s Y=>Y.elim (fun z=>nomatch z) id⟩
  |cons s ss ih=>
   intro cf h1 h2 h3;rw[qj5]
   have Y:s∈ks (cG cf s):=by
    unfold cG;split
    .assumption
    .rw[d8];exact qc7 _ (by simp[ks])
   have hm:∀t∈ks cf,t∈ks (cG cf s):=fun t O=>by
    unfold cG;split
    .exact O
    .rw[d8];exact qh0 _ O
   obtain⟨a,b,c⟩:=ih (cG cf s) (by
    unfold cG;split
    .exact h1
    .rename_i q;rw[d8];refine ql0.mpr ⟨h1,by simp[ks],fun a ha b hb=>?_⟩;simp[ks]at hb;subst hb;rintro rfl;exact q ha) (fun p hp=>by
    unfold cG at hp;split at hp
    .exact h2 p hp
    .rcases qj4.mp hp with hp|hp
     .exact h2 p hp
     .cases qb6.mp hp;exact⟨rfl,h3 _ qd8⟩) fun t O=>h3 t (qd2 _ O)
   refine⟨a,b,fun t O=>c t ?_⟩;rcases O with O|O
   .rcases qb0.mp O with rfl|O
    .exact .inr Y
    .exact .inl O
   .exact .inr (hm t O)
 obtain⟨a,b,c⟩:=Z J4 [] (by simp[ks]) (by simp) fun s Y=>Y
 exact⟨a,fun s Y=>c s (.inl Y),fun i t p z=>(by have:=(b _ (qd3 z)).1;cases this),fun i t z=>(b _ (qd3 z)).2,fun i t q hi=>by lia⟩
def look(cf:CF α)(t:α):Option (Option α):=(cf.find? fun p=>decide (p.1=t)).map (·.2)
theorem nM:∀{cf:CF α}{i:Nat}{t:α}{q:Option α},(ks cf).Nodup->cf[i]?=some (t,q)->look cf t=some q
 |[],i,t,q,_,h=>by simp at h
 |p::cf,0,t,q,O,h=>by simp at h;subst h;simp[look]
 |p::cf,i+1,t,q,O,h=>by
  have h:cf[i]?=some (t,q):=by simpa using h
  have O:(p.1::ks cf).Nodup:=O;have Y:p.1≠t:=fun z=>(qh3.mp O).1 (z▸fQ h)
  have:=nM (qh3.mp O).2 h;unfold look at this ⊢;rw[qt5 (by simpa using Y)];exact this
inductive Tr(cf:CF α):α->List α->Prop
 |one {t:α} (h:look cf t=some none):Tr cf t [t]
 |more {t p:α} {r:List α} (h:look cf t=some (some p)) (r':Tr cf p r):Tr cf t (t::r)
inductive Wy(beh:α->List α)(fit:α->Bool)(J4:List α):α->List α->Prop
 |one {t:α} (h:t∈J4):Wy beh fit J4 t [t]
 |more {t p:α} {r:List α} (h:t∈beh p) (hf:fit p=false) (w:Wy beh fit J4 p r):Wy beh fit J4 t (t::r)
theorem BI.trace{cf:CF α}{k:Nat}(B:BI beh fit J4 cf k):∀(i:Nat)(t:α)(q:Option α),cf[i]?=some (t,q)->∃r,Tr cf t r/\Wy beh fit J4 t r/\r.length<=i+1:=fun i=>by
 induction i using Nat.strongRecOn with
 |ind i Y=>
  intro t q h;cases q with
  |none=>exact⟨[t],.one (nM B.nd h),.one (B.st i t h),by simp⟩
  |some p=>obtain⟨j,O,h1,h2,h3,Z⟩:=B.par i t p h;obtain⟨r,g1,g2,g3⟩:=Y j h1 p O h2;exact⟨t::r,.more (nM B.nd h) g1,.more h3 Z g2,by simp;lia⟩
inductive Rch(beh:α->List α)(J4:List α):α->Prop
 |one {t:α} (h:t∈J4):Rch beh J4 t
 |more {t p:α} (w:Rch beh J4 p) (h:t∈beh p):Rch beh J4 t
theorem BI.none{cf:CF α}(B:BI beh fit J4 cf cf.length){t:α}(h:Rch beh J4 t):fit t=false:=by
 have O:t∈ks cf:=by
  induction h with
  |one h=>exact B.sub _ h
  |more w h Y=>obtain⟨i,q,e⟩:=jB Y;exact(B.done i _ q (gX e).1 e).2 _ h
 obtain⟨i,q,e⟩:=jB O;exact(B.done i t q (gX e).1 e).1
end
inductive Mrk where
 |fresh|seen|safe|spoilt
deriving DecidableEq
def Rw.gets:Rw->Str->Bool
 |.load _ c,nm=>decide (c=nm)|.take _ f _,nm=>decide (f=nm)
 |_,_=>false
def Rw.puts:Rw->Str->Bool
 |.store c _,nm=>decide (c=nm)|.lay f _ _,nm=>decide (f=nm)
 |_,_=>false
def Rw.stores:Rw->Str->Bool
 |.store c _,nm=>decide (c=nm)
 |_,_=>false
def mb:Mrk->Rw->Str->Mrk
 |.fresh,r,nm=>if r.gets nm then .seen else if r.stores nm then .safe else .fresh
 |.seen,r,nm=>if r.puts nm then .spoilt else .seen
 |m,_,_=>m
section
variable(J0:List Rw)(kept:List Nat)(nm:Str)
def ph(t:Nat×Mrk):List (Nat×Mrk):=match J0[t.1]? with
 |none=>[]
 |some r=>if mb t.2 r nm=.safe then []else((r.outs t.1).filter fun w=>!decide (w∈kept)).map fun w=>(w,mb t.2 r nm)
def ub(t:Nat×Mrk):Bool:=match J0[t.1]? with
 |none=>false
 |some r=>decide (mb t.2 r nm=.spoilt)
def i8:List (Nat×Mrk):=(0::kept).map fun k=>(k,.fresh)
end
section
variable{J0:List Rw}{kept:List Nat}{nm:Str}
theorem uc{m:Mrk}(h:mb m r nm=.spoilt):m=.spoilt∨(m=.seen/\r.puts nm=true):=by
 cases m with
 |fresh=>simp only[mb]at h;split at h<;>(try split at h)<;>cases h
 |seen=>
  simp only[mb]at h;cases h1:r.puts nm<;>simp[h1]at h
  exact .inr ⟨rfl,rfl⟩
 |safe=>cases h
 |spoilt=>exact .inl rfl
end
section
variable{J0:List Rw}{kept:List Nat}{nm:Str}
theorem wO{t u:Nat×Mrk}(h:u∈ph J0 kept nm t):∃r,J0[t.1]?=some r/\mb t.2 r nm≠.safe/\u.1∈r.outs t.1/\u.1∉kept/\u.2=mb t.2 r nm:=by
 unfold ph at h;split at h
 .cases h
 .rename_i r e;split at h
  .cases h
  .rename_i O;obtain⟨w,q,rfl⟩:=qc5.mp h;obtain⟨h1,h2⟩:=qd4.mp q;exact⟨r,e,O,h1,by simpa using h2,rfl⟩
end
def RT0:De->Option Out:=(k7 3 (vB 4) (kD .non))
def RT1:De->Option Out:=(sIf (wo (vB 8) (vB 3)) (aw (k7 3 (vB 8) (vL 7)) (q14 5 (vL 8))) bJ)
def RTc:De->Option Bool:=(tB2 (kJ fun i j=>decide (i<j)) (vB 6) (toD (ao cL (ae (vB 5) al))))
theorem CK{g:Dt->Dt->Option T}{fa fb:De->Option Dt}{x y:Dt}(h1:fa δ=some x)(h2:fb δ=some y)(h:g x y=some (.leaf (.bl b))):tB2 g fa fb δ=some b:=by unfold tB2 d2;rw[h1,h2];show(g x y).bind asB=_;rw[h];rfl
theorem AO{i:Nat}{l:List (List Key×Dt)}{d:Dt}{k:List Key}(h:δ[i]?=some (some (.dcT l)))(hk:fk δ=some kd)(q:isK kd=some k)(O:fe δ=some d)(Z:l.length<1000000)(Y:(l.map (·.1)).Nodup):k7 i fk fe δ=some (.nx (δ.set i (some (.dcT (iq l k d))))):=by unfold k7;rw[O,hk,qa2,qa2,h];dsimp only;rw[q,qa2,if_pos ⟨i6 Z,Y⟩]
variable{x4 x6:Option T}
section
variable{α:Type}[DecidableEq α](ky:α->Int×Str)
def nD(t:α):Dt:=.tup [.int (ky t).1,.str (ky t).2]
def nK(t:α):List Key:=[.inl (ky t).1,.inr (ky t).2]
def pN:Option α->Dt
 |none=>.non
 |some h=>nD ky h
def cfT(cf:CF α):T:=.dcT (cf.map fun p=>(nK ky p.1,pN ky p.2))
def cfD(cf:CF α):Dt:=.dcT (cf.map fun p=>nK ky p.1) (cf.map fun p=>pN ky p.2)
def sT(cf:CF α)(q:Dt)(J5:List α)(h:Dt):De:=[some (.leaf (cfD ky cf)),some (.leaf q),some (.lst (J5.map (nD ky))),some (.leaf h)]
def sR(st:Dt)(f1 f2:J9)(F0:Hp)(cf:CF α)(x4 x6 q O:Option T):De:=[some (.leaf st),some (.fn f1 F0),some (.fn f2 F0),some (cfT ky cf),x4,some (.lst ((ks cf).map (nD ky))),x6,q,O]
def sS(st:Dt)(f1 f2:J9)(F0:Hp)(cf:CF α)(x4:Option T):De:=[some (.leaf st),some (.fn f1 F0),some (.fn f2 F0),some (cfT ky cf),x4,none,none,none,none]
variable{ky}(hk:∀a b,ky a=ky b->a=b)
theorem nN(hk:∀a b,ky a=ky b->a=b){a b:α}(h:nK ky a=nK ky b):a=b:=by unfold nK at h;simp only[List.cons.injEq,qy3.injEq,qu8.injEq,and_true]at h;exact hk a b (Prod.ext h.1 h.2)
theorem pi(cf:CF α):(cfT ky cf).d=some (cfD ky cf):=by unfold cfT T.d;dsimp only;rw[qc3,qc3];rfl
include hk
theorem g7(t:α):∀cf:CF α,db (cf.map fun p=>nK ky p.1) (cf.map fun p=>pN ky p.2) (nK ky t)=(look cf t).map (pN ky)
 |[]=>rfl
 |p::cf=>by
  simp only[qa5,db];unfold look;by_cases h:p.1=t
  .rw[if_pos (by rw[h]),zc3 (by simpa using h)];rfl
  .rw[if_neg fun z=>h (nN hk z),qt5 (by simpa using h),g7 t cf];rfl
omit hk in
theorem wP(cf:CF α)(t:α):(look cf t).isSome=decide (t∈ks cf):=by unfold look ks;rw[qk8,qi2,List.find?_isSome];simp
variable{f1 f2:J9}{F0:Hp}{G:Orc}{st:Dt}
theorem g8(t:α)(q:Option α):∀{cf:CF α},t∉ks cf->iq (cf.map fun p=>(nK ky p.1,pN ky p.2)) (nK ky t) (pN ky q)=(cf++[(t,q)]).map fun p=>(nK ky p.1,pN ky p.2)
 |[],_=>rfl
 |p::cf,h=>by have h:t∉p.1::ks cf:=h;rw[qa5,iq,if_neg fun z=>h (by rw[nN hk z];exact .head _),g8 t q fun z=>h (.tail _ z)];rfl
theorem pj{t:α}:∀{cf:CF α},t∈ks cf->(∀p∈cf,p.2=none)->iq (cf.map fun p=>(nK ky p.1,pN ky p.2)) (nK ky t) .non=cf.map fun p=>(nK ky p.1,pN ky p.2)
 |[],h,_=>by cases h
 |p::cf,h,O=>by
  rw[qa5,iq];by_cases e:p.1=t
  .rw[if_pos (by rw[e]),O p (.head _)];rfl
  .rw[if_neg fun z=>e (nN hk z),pj ((qb0.mp (show t∈p.1::ks cf from h)).resolve_left fun z=>e z.symm) fun q Y=>O q (.tail _ Y)]
theorem si{cf:CF α}(h:(ks cf).Nodup):((cf.map fun p=>(nK ky p.1,pN ky p.2)).map (·.1)).Nodup:=by
 have:((ks cf).map (nK ky)).Nodup:=by rw[qi9,qn7];exact qq3 (fun {a b}(z:a≠b) e=>z (nN hk e)) h
 rw[qc3];unfold ks at this;rw[qc3]at this;exact this
omit hk in
theorem fF(cf:CF α):(ks cf).length=cf.length:=qa1 ..
theorem wQ {cf:CF α} {h t:α} (Y:(ks cf).Nodup) (Z:cf.length<100000) :
  RT1 (sR ky st f1 f2 F0 cf x4 x6 (some (.leaf (nD ky h))) (some (.leaf (nD ky t))))=some (.nx (sR ky st f1 f2 F0 (fm h cf t) x4 x6 (some (.leaf (nD ky h))) (some (.leaf (nD ky t))))):=by
 have O:wo (vB 8) (vB 3) (sR ky st f1 f2 F0 cf x4 x6 (some (.leaf (nD ky h))) (some (.leaf (nD ky t))))=some (!decide (t∈ks cf)):=by unfold wo;rw[show vB 8 (sR ky st f1 f2 F0 cf x4 x6 (some (.leaf (nD ky h))) (some (.leaf (nD ky t))))=some (nD ky t)from rfl,show vB 3 (sR ky st f1 f2 F0 cf x4 x6 (some (.leaf (nD ky h))) (some (.leaf (nD ky t))))=some (cfD ky cf)from pi cf];show some (!(db (cf.map fun p=>nK ky p.1) (cf.map fun p=>pN ky p.2) (nK ky t)).isSome)=_;rw[g7 hk,qk8,wP]
 unfold RT1;by_cases q:t∈ks cf
 .rw[decide_eq_true q]at O;rw[t9 O,show fm h cf t=cf from if_pos q];rfl
 .rw[decide_eq_false q]at O;rw[zm O,show fm h cf t=cf++[(t,some h)]from if_neg q,aW (AO (i:=3) (kd:=nD ky t) (k:=nK ky t) (d:=pN ky (some h)) (l:=cf.map fun p=>(nK ky p.1,pN ky p.2)) rfl rfl rfl rfl (by rw[qa1];lia) (si hk Y)),g8 hk t (some h) q];refine(qI (i:=5) (l:=(ks cf).map (nD ky)) (d:=nD ky t) rfl rfl (by rw[qa1,fF];lia)).trans ?_;unfold sR;rw[d8,qf0 (f:=nD ky)];rfl
omit hk in
theorem nO{h t:α}{cf:CF α}(q:(ks cf).Nodup):(ks (fm h cf t)).Nodup:=by obtain⟨_,_,_,h3,_⟩:=c6 h [t] cf;exact h3 q
omit hk in
theorem lm(h t:α)(cf:CF α):(fm h cf t).length<=cf.length+1:=by unfold fm;split<;>simp
theorem pk {h:α}:∀ (ts:List α) (cf:CF α) (q:Option T),(ks cf).Nodup->cf.length+ts.length<100000→
  ∃O,cu (ap 8) RT1 (ts.map (nD ky)) (sR ky st f1 f2 F0 cf x4 x6 (some (.leaf (nD ky h))) q)=some (.nx (sR ky st f1 f2 F0 (cK h cf ts) x4 x6 (some (.leaf (nD ky h))) O))
 |[],cf,q,_,_=>⟨q,rfl⟩
 |t::ts,cf,q,Y,Z=>by rw[qf4]at Z;obtain⟨O,e⟩:=pk ts (fm h cf t) (some (.leaf (nD ky t))) (nO Y) (by have:=lm h t cf;lia);refine⟨O,?_⟩;rw[qa5,bC rfl (wQ hk Y (by lia))];exact e
omit hk in
theorem CL(cf:CF α)(t:α):(cG cf t).length<=cf.length+1:=by unfold cG;split<;>simp
omit hk in
theorem AQ{cf:CF α}{t:α}(Y:(ks cf).Nodup):(ks (cG cf t)).Nodup:=by
 unfold cG;split
 .exact Y
 .rename_i q;rw[d8];refine ql0.mpr ⟨Y,by simp[ks],fun a Z b O=>?_⟩;simp[ks]at O;subst O;rintro rfl;exact q Z
omit hk in
theorem zn{cf:CF α}{t:α}(q:∀p∈cf,p.2=none):∀p∈cG cf t,p.2=none:=fun p hp=>by
 unfold cG at hp;split at hp
 .exact q p hp
 .rcases qj4.mp hp with z|z
  .exact q p z
  .cases qb6.mp z;rfl
include hk in
theorem ud{x4:Option T}{cf:CF α}{t:α}(Y:(ks cf).Nodup)(O:∀p∈cf,p.2=none)(Z:cf.length<100000):RT0 (sS ky st f1 f2 F0 cf (some (.leaf (nD ky t))))=some (.nx (sS ky st f1 f2 F0 (cG cf t) (some (.leaf (nD ky t))))):=by
 unfold RT0;rw[AO (i:=3) (kd:=nD ky t) (k:=nK ky t) (d:=.non) (l:=cf.map fun p=>(nK ky p.1,pN ky p.2)) rfl rfl rfl rfl (by rw[qa1];lia) (si hk Y)];unfold cG;split
 .rename_i q;rw[pj hk q O];rfl
 .rename_i q;rw[show(Dt.non)=pN ky (none:Option α)from rfl,g8 hk t none q];rfl
theorem mE:∀ (ss:List α) (cf:CF α) (x4:Option T),(ks cf).Nodup->(∀ p∈cf,p.2=none)->cf.length+ss.length<100000→
  ∃q,cu (ap 4) RT0 (ss.map (nD ky)) (sS ky st f1 f2 F0 cf x4)=some (.nx (sS ky st f1 f2 F0 (ss.foldl cG cf) q))
 |[],cf,x4,_,_,_=>⟨x4,rfl⟩
 |t::ss,cf,x4,Y,O,Z=>by rw[qf4]at Z;obtain⟨q,e⟩:=mE ss (cG cf t) (some (.leaf (nD ky t))) (AQ Y) (zn O) (by have:=CL cf t;lia);refine⟨q,?_⟩;rw[qa5,bC rfl (ud hk Y O (by lia) (x4:=x4))];exact e
end
section
variable{α:Type}[DecidableEq α]{ky:α->Int×Str}(hk:∀a b,ky a=ky b->a=b){f1 f2:J9}{F0:Hp}{G:Orc}{st:Dt}
def RN2(G:Orc):De->Option Out:=(aw (aF 7 (toT (toD (d2 aq (vB 5) (vB 6))))) (aw (oK (fun i j=>i+j) 6 (kD (.int 1))) (aw (sIf (dL (toD (vCl G 2 (ae (vL 7) al)))) cQ bJ) (dD (fIt (toD (vCl G 1 (ae (vL 7) al)))) (ap 8) RT1))))
def RNf(G:Orc):Dt->J9->J9->Hp->Option T:=oS 9 ((aw (aF 3 nz) (aw (dD (fIt (vL 0)) (ap 4) RT0) (aw (aF 5 (ao ir (ae (vB 3) al))) (aw (aF 6 (toT (kD (.int 0)))) (aw (bz RTc (RN2 G) 100000) (bB (toT (kD .non)))))))))
include hk
theorem AR {x4:Option T} {U:List α} {beh:α->List α} (hU:∀ t∈U,∀ u∈beh t,u∈U) (hUl:U.length<=10000) (hbl:∀ t∈U,(beh t).length<=1000) (h1:∀ t∈U,G f1 F0 [nD ky t]=some (.lst ((beh t).map (nD ky)))) (h2:∀ t∈U,G f2 F0 [nD ky t]=some (.leaf (.bl false))) :
  ∀(n:Nat)(cf:CF α)(k:Nat)(x7 Y:Option T),(ks cf).Nodup->(∀t∈ks cf,t∈U)->k<=cf.length->U.length<n+k→
   ∃ δ,bz RTc (RN2 G) n (sR ky st f1 f2 F0 cf x4 (some (.leaf (.int k))) x7 Y)=some (.nx δ)
 |0,cf,k,x7,Y,nd,hc,hk0,hn=>by have:=cJ nd hc;rw[fF]at this;lia
 |n+1,cf,k,x7,Y,nd,hc,hk0,hn=>by
  have hcl:cf.length<=10000:=by have:=cJ nd hc;rw[fF]at this;lia
  have O:RTc (sR ky st f1 f2 F0 cf x4 (some (.leaf (.int k))) x7 Y)=some (decide ((k:Int)<cf.length)):=by refine CK (x:=.int k) rfl (y:=.int (cf.length:Nat)) ?_ rfl;show some (Dt.int (((ks cf).map (nD ky)).length:Nat))=_;rw[qa1,fF]
  cases q:cf[k]? with
  |none=>have:=qh4.mp q;rw[decide_eq_false (by lia)]at O;exact⟨_,nJ O⟩
  |some x=>
   obtain⟨h,pq⟩:=x;have hkl:=(gX q).1;have Z:h∈U:=hc h (fQ q);rw[decide_eq_true (by lia)]at O
   have s1:aF 7 (toT (toD (d2 aq (vB 5) (vB 6)))) (sR ky st f1 f2 F0 cf x4 (some (.leaf (.int k))) x7 Y)=some (.nx (sR ky st f1 f2 F0 cf x4 (some (.leaf (.int k))) (some (.leaf (nD ky h))) Y)):=by
    refine(bD (t:=.leaf (nD ky h)) ?_).trans rfl;show((aq (.lst ((ks cf).map (nD ky))) (.int k)).bind T.d).map T.leaf=_;rw[fO,bG,qb1];have:(ks cf)[k]?=some h:=by unfold ks;rw[qb1,q];rfl
    rw[this];rfl
   have s2:oK (fun i j=>i+j) 6 (kD (.int 1)) (sR ky st f1 f2 F0 cf x4 (some (.leaf (.int k))) (some (.leaf (nD ky h))) Y)=some (.nx (sR ky st f1 f2 F0 cf x4 (some (.leaf (.int ((k+1:Nat):Int)))) (some (.leaf (nD ky h))) Y)):=by show some (Out.nx _)=some (Out.nx _);rw[show((k+1:Nat):Int)=(k:Int)+1 by lia];rfl
   have tf:dL (toD (vCl G 2 (ae (vL 7) al))) (sR ky st f1 f2 F0 cf x4 (some (.leaf (.int ((k+1:Nat):Int)))) (some (.leaf (nD ky h))) Y)=some false:=by show(((G f2 F0 [nD ky h]).bind T.d).bind tm)=_;rw[h2 h Z];rfl
   obtain⟨e,p1,p2,p3,p4⟩:=c6 h (beh h) cf;obtain⟨y8,hpE⟩:=pk hk (st:=st) (f1:=f1) (f2:=f2) (F0:=F0) (x4:=x4) (x6:=some (.leaf (.int ((k+1:Nat):Int)))) (h:=h) (beh h) cf Y nd (by have:=hbl h Z;lia)
   have body:RN2 G (sR ky st f1 f2 F0 cf x4 (some (.leaf (.int k))) x7 Y)=some (.nx (sR ky st f1 f2 F0 (cK h cf (beh h)) x4 (some (.leaf (.int ((k+1:Nat):Int)))) (some (.leaf (nD ky h))) y8)):=by unfold RN2;rw[aW s1,aW s2,aW (by rw[t9 tf];rfl)];show((((G f1 F0 [nD ky h]).bind T.d).bind itD).bind fun ds=>cu (ap 8) RT1 ds (sR ky st f1 f2 F0 cf x4 (some (.leaf (.int ((k+1:Nat):Int)))) (some (.leaf (nD ky h))) Y))=_;rw[h1 h Z];exact hpE
   rw[i7 O body];exact AR hU hUl hbl h1 h2 n (cK h cf (beh h)) (k+1) (some (.leaf (nD ky h))) y8 (p3 nd) (iw hc (hU h Z)) (by rw[p1,qc4];lia) (by lia)
omit hk in
theorem wR{P:α->Prop}:∀(ss:List α)(cf:CF α),(ks cf).Nodup->(∀t∈ks cf,P t)->(∀t∈ss,P t)->(ks (ss.foldl cG cf)).Nodup/\∀t∈ks (ss.foldl cG cf),P t
 |[],cf,O,h,_=>⟨O,h⟩
 |s::ss,cf,O,h,Y=>by
  refine wR ss (cG cf s) (AQ O) (fun t q=>?_) fun t q=>Y t (.tail _ q)
  unfold cG at q;split at q
  .exact h t q
  .rw[d8]at q;rcases qj4.mp q with z|z
   .exact h t z
   .simp[ks]at z;rw[z];exact Y s (.head _)
theorem CM {U J4:List α} {beh:α->List α} (hU:∀ t∈U,∀ u∈beh t,u∈U) (hUl:U.length<=9000) (O:∀ t∈U,(beh t).length<=1000) (hs:∀ t∈J4,t∈U) (hsl:J4.length<=10000)
  (h1:∀t∈U,G f1 F0 [nD ky t]=some (.lst ((beh t).map (nD ky)))) (h2:∀t∈U,G f2 F0 [nD ky t]=some (.leaf (.bl false))):RNf G (.lst (J4.map (nD ky))) f1 f2 F0=some (.leaf .non):=by
 obtain⟨q,e⟩:=mE hk (st:=.lst (J4.map (nD ky))) (f1:=f1) (f2:=f2) (F0:=F0) J4 [] none (by simp[ks]) (by simp) (by simp;lia);have Z:dD (fIt (vL 0)) (ap 4) RT0 (sS ky (.lst (J4.map (nD ky))) f1 f2 F0 [] none)=some (.nx (sS ky (.lst (J4.map (nD ky))) f1 f2 F0 (J4.foldl cG []) q)):=e;obtain⟨nd,hc⟩:=wR (P:=(· ∈ U)) J4 [] (by simp[ks]) (by simp[ks]) hs;obtain⟨δ,Y⟩:=AR hk (st:=.lst (J4.map (nD ky))) (x4:=q) hU (by lia) O h1 h2 100000 (J4.foldl cG []) 0 none none nd hc (qi3 _) (by lia);generalize J4.foldl cG []=cf at Z Y
 have e3:aF 5 (ao ir (ae (vB 3) al)) (sS ky (.lst (J4.map (nD ky))) f1 f2 F0 cf q)=some (.nx (sR ky (.lst (J4.map (nD ky))) f1 f2 F0 cf q none none none)):=by refine(bD (t:=.lst ((ks cf).map (nD ky))) ?_).trans rfl;unfold ao ae;rw[show vB 3 (sS ky (.lst (J4.map (nD ky))) f1 f2 F0 cf q)=some (cfD ky cf)from pi _];show some (T.lst ((cf.map fun p=>nK ky p.1).map k5))=_;unfold ks;rw[qc3,qc3];rfl
 unfold RNf oS
 rw[show(aw (aF 3 nz) (aw (dD (fIt (vL 0)) (ap 4) RT0) (aw (aF 5 (ao ir (ae (vB 3) al))) (aw (aF 6 (toT (kD (.int 0)))) (aw (bz RTc (RN2 G) 100000) (bB (toT (kD .non)))))))) (deR 9 (.lst (J4.map (nD ky))) f1 f2 F0)=some (.rt (.leaf .non))by show aw _ _ (some (.leaf (.lst (J4.map (nD ky))))::some (.fn f1 F0)::some (.fn f2 F0)::qg3 6 none)=_;rw[aW (δ':=sS ky (.lst (J4.map (nD ky))) f1 f2 F0 [] none) (bD rfl),aW Z,aW e3,aW (δ':=sR ky (.lst (J4.map (nD ky))) f1 f2 F0 cf q (some (.leaf (.int ((0:Nat):Int)))) none none) (bD rfl),aW Y];rfl]
end
end L2
local macro_rules | `(tactic| walk_at "d") => `(tactic| simp -implicitDefEqProofs only [L2.wI, L2.EU, L2.cZ, L2.cE, L2.Eu, L2.bJ, L2.aF, L2.bB, L2.gE, L2.ij, L2.g5, L2.g6, L2.kB_d, L2.wK, L2.p9, L2.oB, L2.oK, L2.lH, L2.toT, L2.toD, L2.T.d, L2.kD, L2.vL, L2.vB, L2.d2, L2.tB2, L2.dL, L2.hZ, L2.jA, L2.Ew, L2.BL, L2.Ev, L2.al, L2.ae, L2.vTup_d, L2.nE, L2.cR, L2.EV, L2.f8, L2.ao, L2.ma, L2.EW, L2.vSl, L2.l9, L2.iR, L2.fK, L2.zW, L2.oJ, L2.lG, L2.fIt, L2.dq, L2.ap, L2.dC, L2.cg, L2.gAdd_i, L2.atI_0, L2.atI_1, L2.atI_2, L2.atI_3, L2.atI_4, L2.r9, L2.Ep, L2.Er, L2.EX, L2.EY, L2.eqF_s, L2.eqF_i, qk1, zi2, qk2, List.any_nil, L2.gSub_i, L2.Cc, L2.gMul_r, L2.jy, L2.ET, L2.gMod_w, L2.gCmp_i, L2.Cb, L2.qD, L2.gNe_ss, L2.rH, L2.fO, L2.wz, L2.gLen_l, L2.gLen_t, L2.Es, L2.itD_l, L2.itD_t, L2.truD_b, L2.asB_b, L2.Et, qa5, qu5, qf4, zd6, qv2, qx3, qg3, qo2, qi5, qs7, qp0, qa2, Option.bind_none, ql1, Option.map_none, qr0, Option.join_none, Nat.reduceAdd, Nat.reduceSub, Nat.reduceLeDiff, zi3, zi4, eq_self, Int.reduceNeg, Int.reduceLE, if_true, if_false, ite_true, ite_false, qe6, decide_true, decide_false, zh2, zf5, qs6, qk3, zi5, zd5, qs3, za4, qu3, zf2, String.reduceBEq, reduceCtorEq])
local macro_rules | `(tactic| walk_at "k") => `(tactic| simp -implicitDefEqProofs only [L2.wI, L2.EU, L2.cZ, L2.cE, L2.Eu, L2.bJ, L2.aF, L2.bB, L2.gE, L2.ij, L2.g5, L2.g6, L2.kB_d, L2.wK, L2.p9, L2.oB, L2.oK, L2.lH, L2.toT, L2.toD, L2.T.d, L2.kD, L2.vL, L2.vB, L2.d2, L2.tB2, L2.dL, L2.hZ, L2.jA, L2.Ew, L2.BL, L2.Ev, L2.al, L2.ae, L2.vTup_d, L2.nE, L2.cR, L2.EV, L2.f8, L2.ao, L2.ma, L2.EW, L2.vSl, L2.l9, L2.iR, L2.fK, L2.zW, L2.oJ, L2.lG, L2.fIt, L2.dq, L2.ap, L2.dC, L2.cg, L2.gAdd_i, L2.atI_0, L2.atI_1, L2.atI_2, L2.atI_3, L2.atI_4, L2.r9, L2.Ep, L2.Er, L2.EX, L2.EY, L2.eqF_s, L2.eqF_i, qk1, zi2, qk2, List.any_nil, L2.gSub_i, L2.Cc, L2.gMul_r, L2.jy, L2.ET, L2.gMod_w, L2.gCmp_i, L2.Cb, L2.qD, L2.gNe_ss, L2.rH, L2.fO, L2.wz, L2.gLen_l, L2.gLen_t, L2.Es, L2.itD_l, L2.itD_t, L2.truD_b, L2.asB_b, L2.Et, qa5, qu5, qf4, zd6, qv2, qx3, qg3, qo2, qi5, qs7, qp0, qa2, Option.bind_none, ql1, Option.map_none, qr0, Option.join_none, Nat.reduceAdd, Nat.reduceSub, Nat.reduceLeDiff, zi3, zi4, eq_self, Int.reduceNeg, Int.reduceLE, if_true, if_false, ite_true, ite_false, qe6, decide_true, decide_false, zh2, zf5, qs6, qk3, zi5, zd5, qs3, za4, qu3, zf2, String.reduceBEq, reduceCtorEq, L2.Ce, L2.yO, L2.xt, L2.yP, L2.Ah, L2.yQ, L2.Ai, L2.Cf, L2.Cg, L2.Aj, L2.Ch, L2.Ci, L2.Ak, L2.Cj, L2.Dh, L2.Ck, L2.Di, L2.Ey, L2.Ez, L2.Dj, L2.yR, L2.Cl, L2.xu, L2.yS, L2.Al, L2.yT, L2.Am, L2.Cm, L2.Cn, L2.An, L2.xw, L2.Ao, L2.xx, L2.xy, L2.yU, L2.xz, L2.yV, L2.Ap, L2.Aq, L2.yW, L2.yX, L2.Co, L2.yY, L2.xA, L2.Ar, L2.yZ, L2.As, L2.Cp, L2.Cq, L2.At, L2.Au, L2.Dk, L2.Av, L2.zb, L2.Aw, L2.Ax, L2.Cr, L2.Dl, L2.Dm, L2.Cs, L2.zd, L2.Ct, L2.ze, L2.xB, L2.zf, L2.Ay, L2.Az, L2.Cu, L2.Cv, L2.AA, L2.AB, L2.Dn, L2.AC, L2.zg, L2.AD, L2.Cw, L2.AE, L2.Do, L2.Dp, L2.Cy, L2.Cz, L2.EA, L2.CA, L2.AF, L2.CB, L2.Dq, L2.CC, L2.Dr, L2.EB, L2.Ds, L2.EC, L2.AG, L2.CD, L2.Du, L2.Dv, L2.AH, L2.Dw, L2.AI, L2.zh, L2.AJ, L2.CG, L2.AK, L2.CH, L2.Dx, L2.Dy])
namespace P44
open PySem L2
theorem qJ(n:Nat)(r:Rw):y85 [.int n,r.d]=some (.leaf (.tup ((r.outs n).map dI))):=by cases r<;>kernel_rfl
def dW(J0:List Rw):Dt:=.lst (J0.mapIdx fun k r=>.tup ((r.outs k).map dI))
theorem kf(c s:Dt)(J0:List Rw)(h:J0.length<=1000):dg [.tup [c,s,dR J0]]=some (.lst (J0.mapIdx fun k r=>.tup ((r.outs k).map dI))):=by
 unfold dg;walk_at "k";unfold mh dR;walk_at "k"
 rw[ll (h:=fun k r=>.tup ((r.outs k).map dI)) 0 fun k a=>⟨_,rfl,by unfold q130;walk_at "k";rw[qJ];walk_at "k"⟩]
 walk_at "k";rw[cR (by rw[List.length_mapIdx];lia)];walk_at "k";simp
theorem pp(r:Rw):z52 [r.d]=some (.leaf (match r.sets with|some x=>.str x|none=>.non)):=by cases r<;>kernel_rfl
theorem wS(r:Rw):yK [r.d]=some (.leaf (.tup (r.atoms.map Atm.d))):=by cases r<;>kernel_rfl
theorem ix(q:Option T):∀(O:List Atm)(J5:List Str)(x2:Option T),J5.length+O.length<=10->∃y,cu (ap 2) q86 (O.map Atm.d) [q,some (.lst (J5.map .str)),x2]=some (.nx [q,some (.lst (((nms O).foldl ib J5).map .str)),y])
 |[],J5,x2,_=>⟨x2,rfl⟩
 |.vl i::O,J5,x2,h=>by obtain⟨y,e⟩:=ix q O J5 (some (.leaf (.int i))) (by simp at h ⊢;lia);refine⟨y,?_⟩;rw[qa5,bC (δ1:=[q,some (.lst (J5.map .str)),some (.leaf (.int i))]) (δ2:=[q,some (.lst (J5.map .str)),some (.leaf (.int i))]) rfl (by unfold q86;walk_at "k"<;>rfl)];exact e
 |.nm x::O,J5,x2,h=>by
  have Z:J5.length<10:=by simp at h;lia
  obtain⟨y,e⟩:=ix q O (ib J5 x) (some (.leaf (.str x))) (by
   have:(ib J5 x).length<=J5.length+1:=by unfold ib;split<;>simp
   simp at h ⊢;lia)
  refine⟨y,?_⟩;rw[qa5,bC (δ1:=[q,some (.lst (J5.map .str)),some (.leaf (.str x))]) (δ2:=[q,some (.lst ((ib J5 x).map .str)),some (.leaf (.str x))]) rfl ?_]
  .exact e
  .unfold q86 ib;walk_at "k";rw[gIn_strs];walk_at "k";by_cases Y:x∈J5
   .rw[j9 (by simp[Y]),if_pos Y];rfl
   .rw[j8 (by simp[Y]),if_neg Y,lg rfl];walk_at "k";rw[f8 (by rw[qa1];lia)];simp
theorem pr(r:Rw):z51 [r.d]=some (.lst (r.reads.map .str)):=by
 have q:r.atoms.length<=2:=by cases r<;>simp[Rw.atoms]
 obtain⟨y,e⟩:=ix (some (.leaf r.d)) r.atoms [] none (by simp;lia);unfold z51;walk_at "k";rw[wS];walk_at "k";rw[show([]:List Dt)=([]:List Str).map .str from rfl,e];walk_at "k";rfl
theorem ue(r:Rw)(l:List Str):bK (ap 0) y50 (vL 0) [none,some (.leaf r.d)] (l.map .str)=some ((l.filter fun b=>decide (r.sets≠some b)).map .str):=
 b7 fun b _=>⟨[some (.leaf (.str b)),some (.leaf r.d)],rfl,by
  unfold y50;walk_at "k";rw[pp];walk_at "k";cases q:r.sets with
  |none=>walk_at "k";rw[show gEq true (Dt.str b) Dt.non=some (.leaf (.bl true))from rfl];simp[asB]
  |some x=>
   walk_at "k";by_cases h:b=x
   .simp[h]
   .have:¬ x=b:=fun z=>h z.symm
    simp[h,this],fun _=>rfl⟩
theorem ln(r:Rw)(x1:Option T):∀(q:List (List Str))(J5:List Str)(x3:Option T),J5.length+(q.map qo1).sum<=1000->∃y,cu (ap 3) y49 (q.map dS) [some (.leaf r.d),x1,some (.lst (J5.map .str)),x3]=some (.nx [some (.leaf r.d),x1,some (.lst ((J5++jQ r q).map .str)),y])
 |[],J5,x3,_=>⟨x3,by unfold jQ;simp[cu]⟩
 |l::q,J5,x3,h=>by
  simp only[qa5,qt1]at h;have O:=qd0 (fun b=>decide (r.sets≠some b)) l;obtain⟨y,e⟩:=ln r x1 q (J5++l.filter fun b=>decide (r.sets≠some b)) (some (.leaf (dS l))) (by rw[qc4];lia);refine⟨y,?_⟩;rw[qa5,bC (δ1:=[some (.leaf r.d),x1,some (.lst (J5.map .str)),some (.leaf (dS l))]) (δ2:=[some (.leaf r.d),x1,some (.lst ((J5++l.filter fun b=>decide (r.sets≠some b)).map .str)),some (.leaf (dS l))]) rfl ?_]
  .rw[e];unfold jQ;simp
  .unfold y49;rw[EF (l:=J5.map .str) (m:=(l.filter fun b=>decide (r.sets≠some b)).map .str) rfl (wG (ds:=l.map .str) rfl (ue r l) (by rw[qa1];lia)),zj (by rw[qa1,qa1];lia)];simp
theorem wT(r:Rw)(q:List (List Str))(h:(q.map qo1).sum<=60):q20 [r.d,.lst (q.map dS)]=some (.lst ((NA r q).map .str)):=by
 have O:=r.reads_len
 have hl:(jQ r q).length<=(q.map qo1).sum:=by
  clear h O;induction q with
  |nil=>simp[jQ]
  |cons l q Y=>have Z:=qd0 (fun b=>decide (r.sets≠some b)) l;unfold jQ at Y ⊢;simp only[List.flatMap_cons,qc4,qa5,qt1];lia
 obtain⟨y,e⟩:=ln r (some (.leaf (.lst (q.map dS)))) q r.reads none (by lia);unfold q20;walk_at "k";rw[pr];walk_at "k";rw[e];walk_at "k";rw[jR (by rw[qc4];lia)];rfl
theorem pv(J0:List Rw)(n:Nat)(r:Rw)(h:J0[n]?=some r):y21 [dR J0,.int n]=some (.lst ((r.outs n).map dI)):=by
 have e:aq (dR J0) (.int n)=some (.leaf r.d):=by unfold dR;rw[wz,bG,qb1,h];rfl
 cases r<;>(unfold y21;simp only[Rw.d]at e;walk_at "k";repeat (rw[e];walk_at "k"))<;>rfl
def sv(r:Rw):Dt:=match r.sets with|some x=>.str x|none=>.non
theorem ug(r:Rw):y30 [r.d]=some (.leaf (sv r)):=by cases r<;>(unfold y30 sv;simp only[Rw.d,Rw.sets];walk_at "k")<;>rfl
theorem jC:∀q:List Atm,bK (ap 0) q82 (vL 0) [none] (q.map Atm.d)=some ((nms q).map .str)
 |[]=>rfl
 |.nm x::q=>by rw[qa5];unfold bK;rw[jC q];rfl
 |.vl i::q=>by rw[qa5];unfold bK;rw[jC q];rfl
theorem qK(r:Rw):z17 [r.d]=some (.lst ((nms r.atoms).map .str)):=by have q:(nms r.atoms).length<=2:=qb9 (ka _) (by cases r<;>simp[Rw.atoms]);have e:=jC r.atoms;cases r<;>(simp only[Rw.atoms,List.map]at e q ⊢;unfold z17;simp only[Rw.d];walk_at "k";first|rw[e]|skip)<;>(try walk_at "k")<;>(try rw[cR (by rw[qa1];lia)])<;>rfl
theorem wU{J3:List (List Str)}(q:∀l∈J3,l.length<=12):∀js:List Nat,((js.map fun j=>J3.getD j []).map qo1).sum<=12*js.length
 |[]=>qi3 _
 |j::js=>by
  have O:=wU q js
  have:(J3.getD j []).length<=12:=by
   rw[qa6];cases h:J3[j]? with
   |none=>simp
   |some l=>exact q l (qd3 h)
  simp only[qa5,qt1,qf4];lia
variable{i:Nat}{r:Rw}
section
variable{P:Dt}{J0:List Rw}{B:List Str}{J3:List (List Str)}
theorem nQ(h:J0[i]?=some r):aq (dW J0) (.int i)=some (.leaf (.tup ((r.outs i).map dI))):=by unfold dW;rw[fO,bG,List.getElem?_mapIdx,h];rfl
theorem CN(h:J0[i]?=some r):aq (dR J0) (.int i)=some (.leaf r.d):=by unfold dR;rw[wz,bG,qb1,h];rfl
theorem CO{l:List Str}(h:J3[i]?=some l):aq (dF J3) (.int i)=some (.leaf (dS l)):=by unfold dF;rw[fO,bG,qb1,h];rfl
theorem uh (O:J0[i]?=some r) (hs:∀ l∈J3,l.length<=12) (hj:∀ j∈r.outs i,j<J3.length) (y4 Z:Option T) :
  ao q20 (ae (toD (d2 aq (vB 1) (vB 5))) (ae (toD (br [none,some 3] (fIt (toD (d2 aq (vB 2) (vB 5)))) (ap 0) cg z77)) al)) [some (.leaf P),some (.leaf (dR J0)),some (.leaf (dW J0)),some (.lst (J3.map dS)),y4,some (.leaf (.int i)),Z]=some (.lst ((nw J0 J3 i).map .str)):=by
 walk_at "k";rw[CN O,nQ O];walk_at "k"
 rw[bO (h:=fun j=>dS (J3.getD j [])) fun j Y=>⟨[some (.leaf (dI j)),some (.lst (J3.map dS))],rfl,rfl,by have q:=hj j Y;unfold z77 dI;walk_at "k";rw[bG,qb1,qj6 q,nI (m:=J3[j]) (by simp[q])];rfl⟩]
 walk_at "k";have ho:=r.outs_len i;rw[cR (by rw[qa1];lia)];walk_at "k";have e:(r.outs i).map (fun j=>dS (J3.getD j []))=((r.outs i).map fun j=>J3.getD j []).map dS:=by rw[qc3];rfl
 rw[e,wT r _ (qb9 (wU hs _) (by lia))];unfold nw;rw[O]
def sl(P:Dt)(J0:List Rw)(J3:List (List Str))(c:Bool)(q x6:Option T):De:=[some (.leaf P),some (.leaf (dR J0)),some (.leaf (dW J0)),some (.lst (J3.map dS)),some (.leaf (.bl c)),q,x6]
theorem zo {l:List Str} (hr:J0[i]?=some r) (Y:J3[i]?=some l) (hs:∀ l∈J3,l.length<=12) (hj:∀ j∈r.outs i,j<J3.length) (c:Bool) (x6:Option T) :
  ∃q c' Z,y77 (sl P J0 J3 c (some (.leaf (dI i))) x6)=some (.nx (sl P J0 q c' (some (.leaf (dI i))) Z))∧((nw J0 J3 i=l/\q=J3/\c'=c)∨(nw J0 J3 i≠l/\q=J3.set i (nw J0 J3 i)/\c'=true)):=by
 have h1:aF 6 (toT (toD (ao q20 (ae (toD (d2 aq (vB 1) (vB 5))) (ae (toD (br [none,some 3] (fIt (toD (d2 aq (vB 2) (vB 5)))) (ap 0) cg z77)) al))))) (sl P J0 J3 c (some (.leaf (dI i))) x6)=some (.nx (sl P J0 J3 c (some (.leaf (dI i))) (some (.leaf (dS (nw J0 J3 i)))))):=by exact bD ((congrArg (fun z:Option T=>(z.bind T.d).map T.leaf) (uh (P:=P) hr hs hj (some (.leaf (.bl c))) x6)).trans rfl)
 have h2:tB2 (gEq true) (vB 6) (toD (d2 aq (vB 3) (vB 5))) (sl P J0 J3 c (some (.leaf (dI i))) (some (.leaf (dS (nw J0 J3 i)))))=some (!decide (nw J0 J3 i=l)):=by unfold sl;walk_at "k";have:=CO Y;unfold dF at this;unfold dI;rw[this];walk_at "k";unfold dS;rw[pf];rfl
 unfold y77;rw[aW h1];by_cases O:nw J0 J3 i=l
 .refine⟨J3,c,some (.leaf (dS (nw J0 J3 i))),?_,.inl ⟨O,rfl,rfl⟩⟩;rw[decide_eq_true O]at h2;rw[t9 h2];rfl
 .have hi:i<(J3.map dS).length:=by rw[qa1];exact(gX Y).1
  refine⟨J3.set i (nw J0 J3 i),true,some (.leaf (dS (nw J0 J3 i))),?_,.inr ⟨O,rfl,rfl⟩⟩;rw[decide_eq_false O]at h2;rw[zm h2,aW (AM (k:=i) (d:=dS (nw J0 J3 i)) rfl rfl rfl hi),bD rfl];unfold sl;rw[List.map_set];rfl
theorem pass (hB:∀ (i:Nat) (r:Rw) (b:Str),J0[i]?=some r->b∈r.reads->b∈B) (hO:∀ (i:Nat) (r:Rw) (j:Nat),J0[i]?=some r->j∈r.outs i->j<J0.length) (hb:B.length<=12) :
  ∀(js:List Nat)(J3:List (List Str))(c:Bool)(x5 x6:Option T),Fnd J0 B J3->(∀j∈js,j<J0.length)→
  ∃O c' y5 y6,cu (ap 5) y77 (js.map dI) (sl P J0 J3 c x5 x6)=some (.nx (sl P J0 O c' y5 y6))/\Fnd J0 B O∧tot J3<=tot O/\(c'=true->c=true∨tot J3<tot O)/\(c'=false->c=false/\O=J3/\∀j∈js,∀l,J3[j]?=some l->nw J0 J3 j=l)
 |[],J3,c,x5,x6,F,_=>⟨J3,c,x5,x6,rfl,F,nL _,.inl,fun h=>⟨h,rfl,fun j hj=>by cases hj⟩⟩
 |j::js,J3,c,x5,x6,F,hj=>by
  have hjl:=hj j (.head _);have hr:J0[j]?=some J0[j]:=by simp[hjl]
  have hlt:j<J3.length:=by rw[F.len];exact hjl
  have hl:J3[j]?=some J3[j]:=by simp[hlt]
  have hs:∀l∈J3,l.length<=12:=fun l hl=>by obtain⟨i,h⟩:=qm8 hl;exact qb9 (F.short h) hb
  obtain⟨found1,c1,z6,e1,q1⟩:=zo (P:=P) hr hl hs (fun k hk=>by rw[F.len];exact hO j _ k hr hk) c x6
  have F1:Fnd J0 B found1:=by
   rcases q1 with ⟨_,rfl,_⟩|⟨_,rfl,_⟩
   .exact F
   .exact F.step hB hjl
  obtain⟨Y,c2,y5,y6,e2,F2,t2,q2,q3⟩:=pass hB hO hb js found1 c1 (some (.leaf (dI j))) z6 F1 fun k hk=>hj k (.tail _ hk)
  refine⟨Y,c2,y5,y6,?_,F2,?_,?_,?_⟩
  .rw[qa5,bC rfl e1];exact e2
  .rcases q1 with ⟨_,rfl,_⟩|⟨ne,rfl,_⟩
   .exact t2
   .exact qb9 (qi8 (F.more hl ne)) t2
  .intro h;rcases q1 with ⟨_,rfl,rfl⟩|⟨ne,rfl,_⟩
   .exact q2 h
   .exact .inr (qc2 (F.more hl ne) t2)
  .intro h;obtain⟨h1,h2,h3⟩:=q3 h;rcases q1 with ⟨q,rfl,rfl⟩|⟨ne,rfl,rfl⟩
   .refine⟨h1,h2,fun k hk l Z=>?_⟩;rcases qb0.mp hk with rfl|hk
    .rw[hl]at Z;cases Z;exact q
    .exact h3 k hk l Z
   .cases h1
theorem loop (hB:∀ (i:Nat) (r:Rw) (b:Str),J0[i]?=some r->b∈r.reads->b∈B) (hO:∀ (i:Nat) (r:Rw) (j:Nat),J0[i]?=some r->j∈r.outs i->j<J0.length) (hb:B.length<=12) (hn:J0.length<=1000) :
  ∀(m:Nat)(J3:List (List Str))(Z x6:Option T),Fnd J0 B J3->J0.length*B.length+2<=m+tot J3→
  ∃q y5 y6,bz q117 y76 m (sl P J0 J3 true Z x6)=some (.nx (sl P J0 q false y5 y6))/\Fnd J0 B q/\Fix J0 q
 |0,J3,Z,x6,F,hm=>by have:=F.tot_le;lia
 |m+1,J3,Z,x6,F,hm=>by
  obtain⟨O,c1,y5,y6,e1,F1,t1,q1,q2⟩:=pass (P:=P) hB hO hb ((qb2 J0.length).map fun i=>J0.length-1-i) J3 false Z x6 F fun j hj=>by obtain⟨i,hi,rfl⟩:=qc5.mp hj;have:=qb5.mp hi;lia
  have hb1:y76 (sl P J0 J3 true Z x6)=some (.nx (sl P J0 O c1 y5 y6)):=by unfold y76;rw[aW (δ':=sl P J0 J3 false Z x6) (bD rfl)];show(tN [.int (((J0.map Rw.d).length:Int)-1),.int (-1),.int (-1)]).bind _=_;rw[qa1,ua hn,qa2];exact e1
  rw[i7 rfl hb1];cases c1 with
  |true=>
   rcases q1 rfl with h|h
   .cases h
   .obtain⟨Y,z5,z6,e2,F2,x2⟩:=loop hB hO hb hn m O y5 y6 F1 (by lia);exact⟨Y,z5,z6,e2,F2,x2⟩
  |false=>
   obtain⟨_,rfl,q3⟩:=q2 rfl
   have hm2:∃m',m=m'+1:=by have:=F1.tot_le;exact⟨m-1,by lia⟩
   obtain⟨m',rfl⟩:=hm2;refine⟨O,y5,y6,nJ rfl,F1,fun i l hl=>?_⟩;have hi:i<J0.length:=by rw[<- F1.len];exact(gX hl).1
   exact q3 i (qc5.mpr ⟨J0.length-1-i,qb5.mpr (by lia),by lia⟩) l hl
end
theorem pw:∀ds:List Dt,bK (ap 0) cg q32 [none] ds=some (ds.map fun _=>.lst [])
 |[]=>rfl
 |d::ds=>by unfold bK ap;rw[qa2];show((q32 [some (.leaf d)]).bind fun y=>(bK (ap 0) cg q32 [none] ds).bind fun r=>some (y::r))=_;rw[pw ds,show q32 [some (.leaf d)]=some (.lst [])by unfold q32;walk_at "k"];rfl
variable{s:Dt}{J0:List Rw}
theorem qL {c:Dt} {B:List Str} (hB:∀ (i:Nat) (r:Rw) (b:Str),J0[i]?=some r->b∈r.reads->b∈B) (hO:∀ (i:Nat) (r:Rw) (j:Nat),J0[i]?=some r->j∈r.outs i->j<J0.length) (O:B.length<=12) (q:J0.length<=1000) :
  ∃J3,z28 [.tup [c,s,dR J0]]=some (.lst (J3.map dS))/\Fnd J0 B J3/\Fix J0 J3:=by
 have Y:J0.length*B.length<=1000*12:=Nat.mul_le_mul q O;obtain⟨J3,y5,y6,e,F,x⟩:=loop (P:=.tup [c,s,dR J0]) hB hO O q 100000 _ none none Fnd.start (by lia);refine⟨J3,?_,F,x⟩;unfold z28;refine ke ?_
 have Z:aF 2 (toT (toD (ao dg (ae (vL 0) al)))) [some (.leaf (.tup [c,s,dR J0])),some (.leaf (dR J0)),none,none,none,none,none]=some (.nx [some (.leaf (.tup [c,s,dR J0])),some (.leaf (dR J0)),some (.leaf (dW J0)),none,none,none,none]):=by refine bD ?_;show(((dg [.tup [c,s,dR J0]]).bind T.d).map T.leaf)=_;rw[kf c s J0 q];rfl
 have s3:aF 3 (br [none] (fIt (vB 1)) (ap 0) cg q32) [some (.leaf (.tup [c,s,dR J0])),some (.leaf (dR J0)),some (.leaf (dW J0)),none,none,none,none]=some (.nx [some (.leaf (.tup [c,s,dR J0])),some (.leaf (dR J0)),some (.leaf (dW J0)),some (.lst ((J0.map fun _=>[]).map dS)),none,none,none]):=by refine bD ?_;show((bK (ap 0) cg q32 [none] (J0.map Rw.d)).bind fun ys=>if ys.length<=qb4 then some (T.lst ys)else none)=_;rw[pw,qa2,if_pos (small (by simp;lia)),qc3,qc3];rfl
 show aw _ _ [some (.leaf (.tup [c,s,dR J0])),none,none,none,none,none,none]=_;rw[aW (bD rfl)];show aw _ _ [some (.leaf (.tup [c,s,dR J0])),some (.leaf (dR J0)),none,none,none,none,none]=_;rw[aW Z,aW s3,aW (δ':=sl (.tup [c,s,dR J0]) J0 (J0.map fun _=>[]) true none none) (bD rfl),aW e];rfl
theorem zq(l:List Nat)(x:Nat):((l.map dI).any fun y=>eqF y (dI x))=decide (x∈l):=by
 rw[qi2,zb5];constructor
 .rintro⟨y,q,e⟩;obtain⟨z,O,rfl⟩:=qc5.mp q;have:(z:Int)=x:=by simpa[dI,eqF] using e
  have:z=x:=by lia
  subst this;exact decide_eq_true O
 .intro h;exact⟨dI x,qc5.mpr ⟨x,of_decide_eq_true h,rfl⟩,by simp[dI,eqF]⟩
theorem px(l:List Nat):(l.map dI).all cT=true:=by rw[qj7];intro y q;obtain⟨z,O,rfl⟩:=qc5.mp q;rfl
variable{l:List Nat}
theorem gIn_ints{neg:Bool}{x:Nat}:bU neg (dI x) (.lst (l.map dI))=some (.leaf (.bl (if neg then !decide (x∈l)else decide (x∈l)))):=by
 show gIn neg (dI x) (.lst (l.map dI))=_;unfold gIn
 have:inD (dI x) (.lst (l.map dI))=some (decide (x∈l)):=by show(if cT (dI x)&&(l.map dI).all cT then some ((l.map dI).any fun y=>eqF y (dI x))else none)=_;rw[px,zq];rfl
 rw[this];rfl
def kpD(k:Nat×List Str):Dt:=.tup [dI k.1,.tup (k.2.map .str)]
def cdD(bg:List Str)(ks:List (Nat×List Str)):Dt:=.tup [.tup (bg.map .str),.tup (ks.map kpD)]
theorem kg(b:Dt)(ks:List (Nat×List Str))(h:ks.length<=1000):y12 [.tup [b,.tup (ks.map kpD)]]=some (.lst ((ks.map (·.1)).map dI)):=by unfold y12;walk_at "k";rw[bO (h:=fun p:Nat×List Str=>dI p.1) fun p hp=>⟨_,rfl,rfl,by unfold q97 kpD;walk_at "k"⟩];walk_at "k";rw[cR (by rw[qa1];lia),qc3];walk_at "k";rfl
abbrev kcD(b:Dt)(ks:List (Nat×List Str)):Dt:=.tup [b,.tup (ks.map kpD)]
abbrev pcD(c s:Dt)(J0:List Rw):Dt:=.tup [c,s,dR J0]
def iy(J0:List Rw)(i:Nat):List Nat:=match J0[i]? with
 |some r=>r.outs i
 |none=>[]
theorem sj(h:J0[i]?=some r):iy J0 i=r.outs i:=by unfold iy;rw[h]
def stay(J0:List Rw)(l:List Nat):List Nat:=l.filter fun i=>(iy J0 i).any fun j=>decide (j∈l)
theorem mF:∀bs:List Bool,jM (bs.map .bl)=some bs
 |[]=>rfl
 |b::bs=>by rw[qa5];unfold jM;rw[mF bs];rfl
theorem wV(l js:List Nat):bK (ap 0) cg y37 [none,some (.leaf (.lst (l.map dI)))] (js.map dI)=some ((js.map fun j=>decide (j∈l)).map .bl):=by
 have:=bO (f:=dI) (h:=fun j=>Dt.bl (decide (j∈l))) (bb:=ap 0) (ft:=cg) (fe:=y37) (δ:=[none,some (.leaf (.lst (l.map dI)))]) (l:=js) fun j _=>⟨[some (.leaf (dI j)),some (.leaf (.lst (l.map dI)))],rfl,rfl,by unfold y37;show(bU false (dI j) (.lst (l.map dI))).bind T.d=_;rw[gIn_ints];rfl⟩
 rw[this,qc3];rfl
theorem ui(J0:List Rw)(l:List Nat)(i:Nat)(hi:i<J0.length):q17 [some (.leaf (dI i)),some (.leaf (dW J0)),some (.leaf (.lst (l.map dI)))]=some ((iy J0 i).any fun j=>decide (j∈l)):=by
 have q:J0[i]?=some J0[i]:=by simp[hi]
 have e:=nQ q;have O:((J0[i]).outs i).length<=2:=Rw.outs_len _ _;unfold q17;rw[show dI i=Dt.int (i:Nat)from rfl];walk_at "k";rw[e];walk_at "k";rw[wV,qa2,cR (by simp;lia)];walk_at "k";unfold oH;dsimp only;rw[mF,sj q];walk_at "k";simp[List.any_map,Function.comp_def]
theorem uj(J0:List Rw)(l:List Nat)(q:∀i∈l,i<J0.length):bK (ap 0) q17 (vL 0) [none,some (.leaf (dW J0)),some (.leaf (.lst (l.map dI)))] (l.map dI)=some ((stay J0 l).map dI):=b7 fun i hi=>⟨_,rfl,ui J0 l i (q i hi),fun _=>rfl⟩
variable{c:De->Option Bool}{g:De->Option Out}{n:Nat}{δ:De}
theorem EG{δ2:De}(h:c δ=some true)(q:g δ=some (.nx δ2)):bz c g (n+1) δ=bz c g n δ2:=by rw[bz,h,qa2,if_pos rfl,q];rfl
theorem EH(h:c δ=some false):bz c g (n+1) δ=some (.nx δ):=by rw[bz,h,qa2,if_neg (by decide)]
theorem lp(h:i∈stay J0 l):i∈l:=(qd4.mp h).1
theorem lq(J0:List Rw)(l:List Nat):(stay J0 l).length<=l.length:=qd0 _ _
theorem wW(h:¬ (stay J0 l).length<l.length):stay J0 l=l:=by have:=lq J0 l;exact(qo3 (p:=fun i=>(iy J0 i).any fun j=>decide (j∈l))).eq_of_length (by unfold stay at *;lia)
theorem wX (J0:List Rw) (l:List Nat) (Y:∀ i∈l,i<J0.length) (Z:l.length<=1000) (x1 x3 x4:Option T) :
  q37 [some (.leaf (dW J0)),x1,some (.leaf (.lst (l.map dI))),x3,x4]=some (.nx [some (.leaf (dW J0)),x1,some (.leaf (.lst ((stay J0 l).map dI))),some (.leaf (.bl (decide ((stay J0 l).length<l.length)))),some (.leaf (.lst ((stay J0 l).map dI)))]):=by
 have O:=uj J0 l Y;have hs:=lq J0 l
 have q:toD (br [none,some 0,some 2] (fIt (vB 2)) (ap 0) q17 (vL 0)) [some (.leaf (dW J0)),x1,some (.leaf (.lst (l.map dI))),x3,x4]=some (.lst ((stay J0 l).map dI)):=by show T.d =<< ((bK (ap 0) q17 (vL 0) [none,some (.leaf (dW J0)),some (.leaf (.lst (l.map dI)))] (l.map dI)).bind mkL)=_;rw[O,qa2,cR (by rw[qa1];lia)];rfl
 have s1:aF 4 (toT (toD (br [none,some 0,some 2] (fIt (vB 2)) (ap 0) q17 (vL 0)))) [some (.leaf (dW J0)),x1,some (.leaf (.lst (l.map dI))),x3,x4]=some (.nx [some (.leaf (dW J0)),x1,some (.leaf (.lst (l.map dI))),x3,some (.leaf (.lst ((stay J0 l).map dI)))]):=by unfold aF toT;rw[q];rfl
 unfold q37;rw[cZ,s1,cE];walk_at "k";simp
theorem lr (J0:List Rw) (hn:J0.length<=500) (x1:Option T):∀ (f:Nat) (l:List Nat) (x4:Option T),l.length<f->(∀ i∈l,i<J0.length)->l.Nodup->l.length<=1000→
  ∃(E:List Nat)(Y:Option T),bz z49 q37 (f+1) [some (.leaf (dW J0)),x1,some (.leaf (.lst (l.map dI))),some (.leaf (.bl true)),x4]=some (.nx [some (.leaf (dW J0)),x1,some (.leaf (.lst (E.map dI))),some (.leaf (.bl false)),Y])/\stay J0 E=E/\E.Nodup/\(∀i∈E,i∈l)/\∀C:Nat->Prop,(∀i,C i->i∈l)->(∀i,C i->∃j∈iy J0 i,C j)->∀i,C i->i∈E
 |0,l,x4,h,_,_,_=>absurd h (ze2 _)
 |f+1,l,x4,h,hl,nd,h1=>by
  have hb:=wX J0 l hl h1 x1 (some (.leaf (.bl true))) x4;have hc:z49 [some (.leaf (dW J0)),x1,some (.leaf (.lst (l.map dI))),some (.leaf (.bl true)),x4]=some true:=rfl;have hs:=lq J0 l
  have keep:∀C:Nat->Prop,(∀i,C i->i∈l)->(∀i,C i->∃j∈iy J0 i,C j)->∀i,C i->i∈stay J0 l:=fun C q O i hi=>by obtain⟨j,hj,Z⟩:=O i hi;refine qd4.mpr ⟨q i hi,?_⟩;rw[zb5];exact⟨j,hj,decide_eq_true (q j Z)⟩
  rw[EG hc hb];by_cases z:(stay J0 l).length<l.length
  .rw[decide_eq_true z];obtain⟨E,Y,e,g1,g2,g3,g4⟩:=lr J0 hn x1 f (stay J0 l) (some (.leaf (.lst ((stay J0 l).map dI)))) (by lia) (fun i hi=>hl i (lp hi)) (nd.sublist qo3) (by lia);exact⟨E,Y,e,g1,g2,fun i hi=>lp (g3 i hi),fun C q O=>g4 C (keep C q O) O⟩
  .rw[decide_eq_false z];have hf:=wW z;refine⟨stay J0 l,_,EH rfl,by rw[hf];exact hf,nd.sublist qo3,fun i hi=>lp hi,keep⟩
theorem qM (J0:List Rw) (l:List Nat) (Z:J0.length<=500) (O:∀ i∈l,i<J0.length) (q:l.Nodup) :
  ∃E:List Nat,z26 [dW J0,.lst (l.map dI)]=some (.leaf (.lst (E.map dI)))/\stay J0 E=E/\E.Nodup/\(∀i∈E,i∈l)/\∀C:Nat->Prop,(∀i,C i->i∈l)->(∀i,C i->∃j∈iy J0 i,C j)->∀i,C i->i∈E:=by
 have h1:l.length<=J0.length:=by
  have:=cJ q (m:=qb2 J0.length) fun x Y=>qb5.mpr (O x Y)
  simpa using this
 obtain⟨E,y4,e,g⟩:=lr J0 Z (some (.leaf (.lst (l.map dI)))) 99999 l none (by lia) O q (by lia);refine⟨E,?_,g⟩;unfold z26;walk_at "k";rw[show(100000:Nat)=99999+1 from rfl,e];walk_at "k"
variable{fa fb:De->Option Dt}{x y:Dt}
theorem bj{g:Dt->Dt->Option T}(h1:fa δ=some x)(h2:fb δ=some y):d2 g fa fb δ=g x y:=by unfold d2;rw[h1,h2];rfl
theorem ax{f:De->Option T}{t:T}(h:f δ=some t):toD f δ=t.d:=by unfold toD;rw[h];rfl
variable{ds:List Dt}
theorem c7{src:List (Option Nat)}{fi:De->Option (List Dt)}{bb:Dt->De->Option De}{ft:De->Option Bool}{fe:De->Option Dt}{ys:List Dt}(h1:fi δ=some ds)(h2:bK bb ft fe (dC src δ) ds=some ys)(h3:ys.length<=1000000):br src fi bb ft fe δ=some (.lst ys):=by unfold br;rw[h1,qa2,h2,qa2,if_pos (small h3)]
variable{f:De->Option Dt}
theorem bL{F:List Dt->Option T}(h:f δ=some x):ao F (ae f al) δ=F [x]:=by unfold ao ae al;rw[h];rfl
theorem cr{F:List Dt->Option T}{g:De->Option Dt}(h:f δ=some x)(h2:g δ=some y):ao F (ae f (ae g al)) δ=F [x,y]:=by unfold ao ae al;rw[h,h2];rfl
theorem uk(kept:List Nat)(n:Nat):bK (ap 0) q62 (vL 0) [none,some (.leaf (.lst (kept.map dI)))] ((qb2 n).map dI)=some (((qb2 n).filter fun i=>!decide (i∈kept)).map dI):=b7 fun j _=>⟨[some (.leaf (dI j)),some (.leaf (.lst (kept.map dI)))],rfl,by unfold q62;show((bU true (dI j) (.lst (kept.map dI))).bind asB)=_;rw[gIn_ints];rfl,fun _=>rfl⟩
theorem nR(n:Nat)(h:n<=1000000):fB [.int n]=some ((qb2 n).map dI):=by rw[lb (by lia)];unfold eY dI;simp
theorem zr{E kept:List Nat}(Y:stay J0 E=E)(hk:∀i∈E,i∉kept)(hf:∀(i j:Nat),j∈iy J0 i->j<=i->j∈kept)(hl:∀i∈E,i<J0.length):E=[]:=by
 have O:∀(d i:Nat),J0.length<=i+d->i∉E:=fun d=>by
  induction d with
  |zero=>exact fun i h z=>absurd (hl i z) (by lia)
  |succ d ih=>
   intro i h z;have hz:=z;rw[<- Y]at z;obtain⟨j,Z,e⟩:=zb5.mp (qd4.mp z).2;have q:j∈E:=of_decide_eq_true e;by_cases c:j<=i
   .exact hk j q (hf i j Z c)
   .exact ih j (by lia) q
 cases E with
 |nil=>rfl
 |cons a l=>exact absurd (.head _) (O J0.length a (by lia))
variable{b:Dt}
theorem zt{c:Dt}{ks:List (Nat×List Str)}(hn:J0.length<=500)(Y:ks.length<=1000)(hf:∀(i j:Nat),j∈iy J0 i->j<=i->j∈ks.map (·.1)):y34 [pcD c s J0,kcD b ks]=some (.leaf .non):=by
 have ek:=kg b ks Y;have ew:=kf c s J0 (by lia);generalize ks.map (·.1)=kept at ek hf ⊢;have nd0:((qb2 J0.length).filter fun i=>!decide (i∈kept)).Nodup:=qv6.sublist qo3
 have q:∀i,i∈(qb2 J0.length).filter (fun i=>!decide (i∈kept))↔i<J0.length/\i∉kept:=fun i=>by rw[qd4,qb5];simp
 obtain⟨E,ee,hE,Z,O,maxE⟩:=qM J0 ((qb2 J0.length).filter fun i=>!decide (i∈kept)) hn (fun i hi=>((q i).mp hi).1) nd0
 have lE:E.length<=J0.length:=by
  have:=cJ Z (m:=qb2 J0.length) fun x hx=>qb5.mpr ((q x).mp (O x hx)).1
  simpa using this
 have hE0:E=[]:=zr hE (fun i hi=>((q i).mp (O i hi)).2) hf fun i hi=>((q i).mp (O i hi)).1
 subst hE0;unfold y34;walk_at "k";rw[show y12 [kcD b ks]=_ from ek];walk_at "k";rw[show dg [pcD c s J0]=_ from ew];walk_at "k"
 rw[List.length_mapIdx,nR _ (by lia),qa2,uk,qa2,cR (by rw[qa1];exact qb9 (qd0 _ _) (by simp;lia))]
 walk_at "k";rw[show z26 [.lst (J0.mapIdx fun k r=>.tup ((r.outs k).map dI)),.lst (((qb2 J0.length).filter fun i=>!decide (i∈kept)).map dI)]=_ from ee];rfl
theorem cF{fs:De->Option (List Dt)}{d:Dt}(h1:f δ=some d)(h2:fs δ=some ds):ae f fs δ=some (d::ds):=by unfold ae;rw[h1,qa2,h2];rfl
theorem nS{fs:De->Option (List Dt)}(h:fs δ=some ds)(q:ds.length<=1000):bW fs δ=some (.leaf (.tup ds)):=by unfold bW;rw[h];exact if_pos (small (by lia))
theorem iz{d:Dt}(h:f δ=some d):toT f δ=some (.leaf d):=by unfold toT;rw[h];rfl
theorem lu{F:List Dt->Option T}{g h:De->Option Dt}{z:Dt}(h1:f δ=some x)(h2:g δ=some y)(h3:h δ=some z):ao F (ae f (ae g (ae h al))) δ=F [x,y,z]:=by unfold ao;rw[cF h1 (cF h2 (cF h3 (show al δ=some []from rfl)))];rfl
theorem dRt{m:Nat}{t:T}(h:g (ds.map (fun d=>some (T.leaf d))++qg3 (m-ds.length) none)=some (.rt t)):cj m g ds=some t:=by rw[wI,h];rfl
variable{g1:De->Option Out}
theorem EI{r:De->Option Out}{t:T}(h:c δ=some true)(h1:g1 δ=some (.rt t)):aw (sIf c g1 bJ) r δ=some (.rt t):=by rw[cZ,ij,h,g5,h1];rfl
theorem lv{r:De->Option Out}(h:c δ=some false):aw (sIf c g1 bJ) r δ=r δ:=by rw[cZ,ij,h,g6];rfl
theorem bH{g:Dt->Dt->Option T}{b:Bool}(h1:fa δ=some x)(h2:fb δ=some y)(h:g x y=some (.leaf (.bl b))):tB2 g fa fb δ=some b:=by unfold tB2;rw[bj h1 h2,h];rfl
theorem eR{f:De->Option T}{t:T}(h:f δ=some t):bB f δ=some (.rt t):=by unfold bB;rw[h];rfl
def fnB:Rw->Bool
 |.fin _=>true
 |_=>false
theorem wY(P C:Option T)(kept:List Nat)(k:Nat)(r:Rw)(h:(fnB r&&!decide (k∈kept))=false):z39 [P,C,some (.leaf (.lst (kept.map dI))),some (.leaf (dI k)),some (.leaf r.d)]=some (.nx [P,C,some (.leaf (.lst (kept.map dI))),some (.leaf (dI k)),some (.leaf r.d)]):=by
 unfold z39;cases r<;>(simp only[Rw.d];walk_at "k")<;>try rfl
 rw[gIn_ints];walk_at "k";have:k∈kept:=by simpa[fnB] using h
 simp[this];rfl
theorem wZ(P C:Option T)(kept:List Nat):∀(O:List Rw)(k:Nat)(x3 x4:Option T),(∀(i:Nat)(r:Rw),O[i]?=some r->fnB r=true->k+i∈kept)->∃Z Y,cu (fX 2 (aX (ap 3) (aX (ap 4) eL))) z39 (e8 k (O.map Rw.d)) [P,C,some (.leaf (.lst (kept.map dI))),x3,x4]=some (.nx [P,C,some (.leaf (.lst (kept.map dI))),Z,Y])
 |[],k,x3,x4,_=>⟨x3,x4,rfl⟩
 |r::O,k,x3,x4,h=>by
  obtain⟨Z,Y,e⟩:=wZ P C kept O (k+1) (some (.leaf (dI k))) (some (.leaf r.d)) fun i q hi hq=>by
   have:=h (i+1) q hi hq
   rwa [show k+1+i=k+(i+1)by lia]
  refine⟨Z,Y,?_⟩
  have hc:(fnB r&&!decide (k∈kept))=false:=by
   cases hr:fnB r with
   |false=>rfl
   |true=>have:k∈kept:=h 0 r rfl hr;simp[this]
  have hb:=wY P C kept k r hc;show((z39 [P,C,some (.leaf (.lst (kept.map dI))),some (.leaf (dI k)),some (.leaf r.d)]).bind _)=_;rw[hb];exact e
theorem CP {c:Dt} {ks:List (Nat×List Str)} (q:ks.length<=1000) (hk:∀ (i:Nat) (r:Rw),J0[i]?=some r->fnB r=true->i∈ks.map (·.1)) :
  y40 [pcD c s J0,kcD b ks]=some (.leaf .non):=by
 unfold y40;walk_at "k";rw[show y12 [kcD b ks]=_ from kg b ks q];walk_at "k";unfold mh dR;walk_at "k"
 obtain⟨O,Y,e⟩:=wZ (some (.leaf (pcD c s J0))) (some (.leaf (kcD b ks))) (ks.map (·.1)) J0 0 none none fun i r h1 h2=>by rw[Nat.zero_add];exact hk i r h1 h2
 rw[e];rfl
structure Hd where
 x:Str
 n:Int
 b:Bool
def hdD(h:Hd):Dt:=.tup [.str h.x,.int h.n,.bl h.b]
theorem sk{α:Type}(f:α->Dt)(cs ss:List α)(q:cs.length+ss.length<=1000):mB (.tup (cs.map f)) (.tup (ss.map f))=some (.leaf (.tup ((cs++ss).map f))):=by
 cases cs with
 |nil=>rfl
 |cons a cs=>
  cases ss with
  |nil=>rw[qn2];rfl
  |cons b ss=>show(if((a::cs).map f).length+((b::ss).map f).length<=qb4/\(a::cs).map f≠[]/\(b::ss).map f≠[]then _ else none)=_;rw[if_pos ⟨by rw[qa1,qa1];exact small (by lia),by simp,by simp⟩,qf0];rfl
theorem pz(cs ss:List Hd)(R:Dt)(q:cs.length+ss.length<=1000):q16 [.tup [.tup (cs.map hdD),.tup (ss.map hdD),R]]=some (.lst ((((cs++ss).filter fun h=>!h.b).map (·.x)).map .str)):=by
 unfold q16;walk_at "k";rw[sk hdD cs ss q];walk_at "k"
 rw[b7 (h:=fun h:Hd=>Dt.str h.x) (p:=fun h=>!h.b) fun h _=>⟨_,rfl,by
  unfold z85 hdD;walk_at "k"
  try rfl,fun _=>by unfold z86 hdD;walk_at "k"⟩]
 walk_at "k";rw[cR (by rw[qa1];exact qb9 (qd0 _ _) (by rw[qc4];lia)),qc3];walk_at "k";rfl
abbrev pgD(cs ss:List Hd)(J0:List Rw):Dt:=.tup [.tup (cs.map hdD),.tup (ss.map hdD),dR J0]
def jD(kept:List Nat)(J0:List Rw):List Dt:=J0.mapIdx fun k r=>.lst (((r.outs k).filter fun w=>!decide (w∈kept)).map dI)
theorem z142(kept outs:List Nat)(q:outs.length<=10):q63 [some (.leaf (.tup (outs.map dI))),some (.leaf (.lst (kept.map dI)))]=some (.lst ((outs.filter fun w=>!decide (w∈kept)).map dI)):=by
 unfold q63;walk_at "k"
 rw[b7 (h:=dI) (p:=fun w=>!decide (w∈kept)) fun w O=>⟨_,rfl,by unfold z91;walk_at "k";rw[gIn_ints];rfl,fun _=>rfl⟩]
 walk_at "k";rw[cR (by rw[qa1];exact qb9 (qd0 _ _) (by lia))];walk_at "k"
theorem w4(c s b:Dt)(J0:List Rw)(ks:List (Nat×List Str))(h:J0.length<=1000)(hk:ks.length<=1000):y20 [.tup [c,s,dR J0],.tup [b,.tup (ks.map kpD)]]=some (.lst (jD (ks.map (·.1)) J0)):=by unfold y20;walk_at "k";rw[kg b ks hk];walk_at "k";rw[kf c s J0 h];walk_at "k";unfold jD;rw[qy9,qy9,bO (h:=fun p:Rw×Nat=>Dt.lst (((p.1.outs p.2).filter fun w=>!decide (w∈ks.map (·.1))).map dI)) fun p hp=>⟨_,rfl,rfl,z142 _ _ (qb9 (Rw.outs_len _ _) (by decide))⟩];walk_at "k";rw[cR (by rw[qa1,List.length_zipIdx];lia)];walk_at "k"
def ms:Mrk->Str
 |.fresh=>"fresh"|.seen=>"seen"|.safe=>"safe"|.spoilt=>"spoilt"
theorem nT:∀{a b:Mrk},ms a=ms b->a=b:=fun {a b} h=>by cases a<;>cases b<;>first|rfl|(exfalso;revert h;unfold ms;decide +kernel)
theorem EJ(a b:Mrk):decide (ms a=ms b)=decide (a=b):=by rw[decide_eq_decide];exact⟨nT,fun h=>by rw[h]⟩
theorem EK(r:Rw)(nm:Str)(x:Option T):tB2 (bU false) (toD (d2 aq (vB 1) (kD (.int 0)))) (toD (bW (ae (kD (.str "load")) (ae (kD (.str "take")) al)))) [x,some (.leaf r.d),some (.leaf (.str nm))]=some (match r with|.load _ _=>true|.take _ _ _=>true|_=>false):=by cases r<;>simp only[Rw.d]<;>walk_at "k"
theorem EL(r:Rw)(nm:Str)(x:Option T):tB2 (bU false) (toD (d2 aq (vB 1) (kD (.int 0)))) (toD (bW (ae (kD (.str "store")) (ae (kD (.str "lay")) al)))) [x,some (.leaf r.d),some (.leaf (.str nm))]=some (match r with|.store _ _=>true|.lay _ _ _=>true|_=>false):=by cases r<;>simp only[Rw.d]<;>walk_at "k"
theorem EM(r:Rw)(nm:Str)(x:Option T):tB2 (gEq false) (toD (d2 aq (vB 1) (kD (.int 0)))) (kD (.str "store")) [x,some (.leaf r.d),some (.leaf (.str nm))]=some (match r with|.store _ _=>true|_=>false):=by cases r<;>simp only[Rw.d]<;>walk_at "k"
theorem nU(a b:Mrk)(x y:Option T):tB2 (gEq false) (vB 0) (kD (.str (ms b))) [some (.leaf (.str (ms a))),x,y]=some (decide (a=b)):=by rw[<- EJ];rfl
theorem sq(m:Mrk)(r:Rw)(nm:Str):q30 [.str (ms m),r.d,.str nm]=some (.leaf (.str (ms (mb m r nm)))):=by
 have Y:d4 (tB2 (gEq false) (vB 0) (kD eO)) (d4 (tB2 (bU false) (toD (d2 aq (vB 1) (kD (.int 0)))) (toD (bW (ae (kD (.str "load")) (ae (kD (.str "take")) al))))) (tB2 (gEq false) (toD (d2 aq (vB 1) (kD (.int 2)))) (vB 2))) [some (.leaf (.str (ms m))),some (.leaf r.d),some (.leaf (.str nm))]=some (decide (m=.fresh)&&r.gets nm):=by
  rw[jA,show tB2 (gEq false) (vB 0) (kD eO) [some (.leaf (.str (ms m))),some (.leaf r.d),some (.leaf (.str nm))]=_ from nU m .fresh _ _];cases decide (m=.fresh)
  .rfl
  .rw[g5,jA,EK];cases r<;>rfl
 have q:d4 (tB2 (gEq false) (vB 0) (kD eO)) (d4 (tB2 (gEq false) (toD (d2 aq (vB 1) (kD (.int 0)))) (kD (.str "store"))) (tB2 (gEq false) (toD (d2 aq (vB 1) (kD (.int 1)))) (vB 2))) [some (.leaf (.str (ms m))),some (.leaf r.d),some (.leaf (.str nm))]=some (decide (m=.fresh)&&r.stores nm):=by
  rw[jA,show tB2 (gEq false) (vB 0) (kD eO) [some (.leaf (.str (ms m))),some (.leaf r.d),some (.leaf (.str nm))]=_ from nU m .fresh _ _];cases decide (m=.fresh)
  .rfl
  .rw[g5,jA,EM];cases r<;>rfl
 have O:d4 (tB2 (gEq false) (vB 0) (kD k9)) (d4 (tB2 (bU false) (toD (d2 aq (vB 1) (kD (.int 0)))) (toD (bW (ae (kD (.str "store")) (ae (kD (.str "lay")) al))))) (tB2 (gEq false) (toD (d2 aq (vB 1) (kD (.int 1)))) (vB 2))) [some (.leaf (.str (ms m))),some (.leaf r.d),some (.leaf (.str nm))]=some (decide (m=.seen)&&r.puts nm):=by
  rw[jA,show tB2 (gEq false) (vB 0) (kD k9) [some (.leaf (.str (ms m))),some (.leaf r.d),some (.leaf (.str nm))]=_ from nU m .seen _ _];cases decide (m=.seen)
  .rfl
  .rw[g5,jA,EL];cases r<;>rfl
 unfold q30;rw[wI];show wH (aw _ _ [some (.leaf (.str (ms m))),some (.leaf r.d),some (.leaf (.str nm))])=_;rw[cZ,ij,Y];cases h1:(decide (m=.fresh)&&r.gets nm)with
 |true=>
  have:m=.fresh/\r.gets nm=true:=by simpa using h1
  rw[this.1];simp only[mb,this.2,if_true];rfl
 |false=>
  rw[g6,bJ,cE,cZ,ij,q];cases h2:(decide (m=.fresh)&&r.stores nm)with
  |true=>
   have:m=.fresh/\r.stores nm=true:=by simpa using h2
   rw[this.1]at h1 ⊢;simp only[decide_true,qk3]at h1;simp only[mb,this.2,h1,if_true,qe6,if_false];rfl
  |false=>
   rw[g6,bJ,cE,cZ,ij,O];cases h3:(decide (m=.seen)&&r.puts nm)with
   |true=>
    have:m=.seen/\r.puts nm=true:=by simpa using h3
    rw[this.1];simp only[mb,this.2,if_true];rfl
   |false=>
    rw[g6,bJ,cE];cases m with
    |fresh=>simp only[decide_true,qk3]at h1 h2;simp only[mb,h1,h2,qe6,if_false];rfl
    |seen=>simp only[decide_true,qk3]at h3;simp only[mb,h3,qe6,if_false];rfl
    |safe=>rfl
    |spoilt=>rfl
def eF(t:Nat×Mrk):Dt:=.tup [dI t.1,.str (ms t.2)]
theorem f9(h:J0[i]?=some r):aq (dR J0) (dI i)=some (.leaf r.d):=by unfold dR dI;rw[wz,bG,qb1,h];rfl
theorem CQ{kept:List Nat}(h:J0[i]?=some r):aq (.lst (jD kept J0)) (dI i)=some (.leaf (.lst (((r.outs i).filter fun w=>!decide (w∈kept)).map dI))):=by unfold jD dI;rw[fO,bG,List.getElem?_mapIdx,h];rfl
theorem w6(t:Nat×Mrk):aq (eF t) (.int 0)=some (.leaf (dI t.1)):=by unfold eF;walk_at "k"
theorem AS(t:Nat×Mrk):aq (eF t) (.int 1)=some (.leaf (.str (ms t.2))):=by unfold eF;walk_at "k"
theorem EN{a b:Mrk}:decide (ms a=ms b)=decide (a=b):=by rw[decide_eq_decide];exact⟨nT,fun h=>by rw[h]⟩
theorem ul{nm:Str}{t:Nat×Mrk}(h:t.1<J0.length):ia 3 cA [.str nm,dR J0] [eF t]=some (.leaf (.bl (ub J0 nm t))):=by
 have q:J0[t.1]?=some J0[t.1]:=gQ h;unfold ia
 show(match cA [some (.leaf (eF t)),some (.leaf (.str nm)),some (.leaf (dR J0))]with
  |some (.rt t)=>some t|some (.nx _)=>some (.leaf .non)|_=>none)=_
 have e:cA [some (.leaf (eF t)),some (.leaf (.str nm)),some (.leaf (dR J0))]=some (.rt (.leaf (.bl (ub J0 nm t)))):=by unfold cA;walk_at "k";rw[AS,w6];walk_at "k";rw[f9 q];walk_at "k";rw[sq];unfold i4;walk_at "k";unfold ub;simp only[q];rw[<- EN];rfl
 rw[e]
theorem zu{kept:List Nat}{nm:Str}{t:Nat×Mrk}(h:t.1<J0.length):ia 5 cz [.str nm,dR J0,.lst (jD kept J0)] [eF t]=some (.lst ((ph J0 kept nm t).map eF)):=by
 have q:J0[t.1]?=some J0[t.1]:=gQ h;unfold ia
 show(match cz [some (.leaf (eF t)),none,some (.leaf (.str nm)),some (.leaf (dR J0)),some (.leaf (.lst (jD kept J0)))]with
  |some (.rt t)=>some t|some (.nx _)=>some (.leaf .non)|_=>none)=_
 have e:cz [some (.leaf (eF t)),none,some (.leaf (.str nm)),some (.leaf (dR J0)),some (.leaf (.lst (jD kept J0)))]=some (.rt (.lst ((ph J0 kept nm t).map eF))):=by
  unfold cz;walk_at "k";rw[AS,w6];walk_at "k";rw[f9 q];walk_at "k";rw[sq];unfold nA;walk_at "k";unfold ph;simp only[q];generalize O:mb t.2 J0[t.1] nm=m;by_cases e:m=.safe
  .rw[j8 (by simp[e,ms]),if_pos e];walk_at "k"
  .rw[j9 (by simp only[decide_eq_false_iff_not];exact fun z=>e (nT (b:=.safe) z)),if_neg e];walk_at "k";rw[w6];walk_at "k";rw[CQ q];walk_at "k";rw[bO (h:=fun w:Nat=>eF (w,m)) fun w _=>⟨_,rfl,rfl,by unfold z74 eF;walk_at "k"⟩];walk_at "k";rw[cR (by rw[qa1];exact qb9 (qd0 _ _) (qb9 (Rw.outs_len _ _) (by decide))),qc3];walk_at "k";rfl
 rw[e]
abbrev w8(kept:List Nat)(t:Nat×Mrk):Prop:=t.2=.fresh∨t.2=.seen/\t.1∉kept
theorem w9{kept:List Nat}{nm:Str}(hp:∀(i:Nat)(r:Rw),J0[i]?=some r->r.puts nm=true->i∈kept){t:Nat×Mrk}(q:w8 kept t):ub J0 nm t=false:=by
 unfold ub;split
 .rfl
 .rename_i r e;refine decide_eq_false fun z=>?_
  rcases uc z with z|⟨z,O⟩
  .rcases q with h|⟨h,_⟩<;>rw[h]at z<;>cases z
  .rcases q with h|⟨_,h⟩
   .rw[h]at z;cases z
   .exact h (hp _ r e O)
theorem xa{kept:List Nat}{nm:Str}(hp:∀(i:Nat)(r:Rw),J0[i]?=some r->r.puts nm=true->i∈kept){t u:Nat×Mrk}(O:w8 kept t)(Y:u∈ph J0 kept nm t):w8 kept u:=by
 obtain⟨r,e,g1,_,Z,g4⟩:=wO Y;have:=w9 hp O;unfold ub at this;rw[e]at this;unfold w8;rw[g4];cases q:mb t.2 r nm with
 |fresh=>exact .inl rfl
 |seen=>exact .inr ⟨rfl,Z⟩
 |safe=>exact absurd q g1
 |spoilt=>exact absurd q (of_decide_eq_false this)
def ky(t:Nat×Mrk):Int×Str:=((t.1:Int),ms t.2)
theorem CS(a b:Nat×Mrk)(h:ky a=ky b):a=b:=by unfold ky at h;simp only[Prod.mk.injEq]at h;exact Prod.ext (by lia) (nT h.2)
def Un(n:Nat):List (Nat×Mrk):=(qb2 n).flatMap fun k=>[(k,.fresh),(k,.seen),(k,.safe),(k,.spoilt)]
theorem mem_Un{t:Nat×Mrk}:t∈Un n↔t.1<n:=by
 unfold Un;rw[List.mem_flatMap];constructor
 .rintro⟨k,hk,h⟩;have hk:=qb5.mp hk;simp at h;rcases h with rfl|rfl|rfl|rfl<;>exact hk
 .intro h;refine⟨t.1,qb5.mpr h,?_⟩;obtain⟨k,m⟩:=t;cases m<;>simp
theorem CT(n:Nat):(Un n).length=4*n:=by
 unfold Un;induction n with
 |zero=>rfl
 |succ n q=>rw[ze3,List.flatMap_append,qc4,q];simp;lia
def kps(kp:List (Nat×List Str)):List Nat:=kp.map (·.1)
def plain(cs ss:List Hd):List Str:=((cs++ss).filter fun h=>!h.b).map (·.x)
def sl8(P C:Dt)(nm:Str)(x3 x4 q:Option T):De:=[some (.leaf P),some (.leaf C),some (.leaf (.str nm)),x3,x4,none,none,q]
theorem qN {cs ss:List Hd} {b:Dt} {kp:List (Nat×List Str)} {nm:Str} (hl:cs.length+ss.length<=1000) (h:nm∈plain cs ss) (hr:J0.length<=1000) (hr0:0<J0.length) (hk:kp.length<=1000) (O:∀ k∈kps kp,k<J0.length) (hO:∀ (k:Nat) (r:Rw) (w:Nat),J0[k]?=some r->w∈r.outs k->w<J0.length) (hp:∀ (i:Nat) (r:Rw),J0[i]?=some r->r.puts nm=true->i∈kps kp) :
  y61 [pgD cs ss J0,kcD b kp,.str nm]=some (.leaf .non):=by
 unfold y61;refine ke ?_;show aw _ _ (sl8 (pgD cs ss J0) (kcD b kp) nm none none none)=_
 have t1:tB2 (bU true) (vB 2) (toD (ao q16 (ae (vL 0) al))) (sl8 (pgD cs ss J0) (kcD b kp) nm none none none)=some false:=by unfold sl8;walk_at "k";rw[pz cs ss _ hl];walk_at "k";rw[gIn_strs];simp only[if_true];rw[show(((cs++ss).filter fun h=>!h.b).map (·.x))=plain cs ss from rfl,decide_eq_true h];rfl
 have t3:aF 4 (toT (toD (ao y20 (ae (vL 0) (ae (vL 1) al))))) (sl8 (pgD cs ss J0) (kcD b kp) nm (some (.leaf (dR J0))) none none)=some (.nx (sl8 (pgD cs ss J0) (kcD b kp) nm (some (.leaf (dR J0))) (some (.leaf (.lst (jD (kps kp) J0)))) none)):=by refine(bD (t:=.leaf (.lst (jD (kps kp) J0))) ?_).trans rfl;show(((y20 [pgD cs ss J0,kcD b kp]).bind T.d).map T.leaf)=_;show(((y20 [pcD _ _ J0,kcD b kp]).bind T.d).map T.leaf)=_;rw[w4 _ _ _ J0 kp hr hk];rfl
 rw[aW (by rw[t9 t1];rfl),aW (δ':=sl8 (pgD cs ss J0) (kcD b kp) nm (some (.leaf (dR J0))) none none) (bD rfl),aW t3];show aw _ _ (sl8 (pgD cs ss J0) (kcD b kp) nm (some (.leaf (dR J0))) (some (.leaf (.lst (jD (kps kp) J0)))) none)=_
 have f0:z76 (sl8 (pgD cs ss J0) (kcD b kp) nm (some (.leaf (dR J0))) (some (.leaf (.lst (jD (kps kp) J0)))) none)=some (.lst ((i8 (kps kp)).map (nD ky))):=by unfold z76 sl8;walk_at "k";rw[kg b kp hk];walk_at "k";rw[qB (small (by simp;lia))];walk_at "k";rw[show(Dt.int 0::(kp.map (fun x=>x.1)).map dI)=(0::kps kp).map dI from rfl,bO (h:=fun k:Nat=>eF (k,.fresh)) fun k _=>⟨_,rfl,rfl,by unfold q115 eF eO;walk_at "k";rfl⟩];walk_at "k";rw[cR (by unfold kps;simp;lia)];unfold i8;rw[qc3];rfl
 have fr:fRt [2,3,4] [2,3] ["place","mark","name","rows","inner"] ["place","name","rows"] cz cA z76 q75 (sl8 (pgD cs ss J0) (kcD b kp) nm (some (.leaf (dR J0))) (some (.leaf (.lst (jD (kps kp) J0)))) none)=some (.leaf .non):=by
  refine vK (d0:=.lst ((i8 (kps kp)).map (nD ky))) (a:=[.str nm,dR J0,.lst (jD (kps kp) J0)]) (b:=[.str nm,dR J0]) f0 rfl rfl fun f1 f2 F0 Y=>?_
  refine CM (ky:=ky) CS (U:=(Un J0.length).filter fun t=>decide (w8 (kps kp) t)) (J4:=i8 (kps kp)) (beh:=ph J0 (kps kp) nm) (fun t q u hu=>?_) (qb9 (qd0 _ _) (by rw[CT];lia)) (fun t q=>?_) (fun t q=>?_) (by unfold i8 kps;simp;lia) (fun t q=>?_) fun t q=>?_
  .obtain⟨r,e,_,g,_⟩:=wO hu;exact qd4.mpr ⟨mem_Un.mpr (hO _ r _ e g),decide_eq_true (xa hp (of_decide_eq_true (qd4.mp q).2) hu)⟩
  .unfold ph;split
   .simp
   .split
    .simp
    .rw[qa1];exact qb9 (qd0 _ _) (qb9 (Rw.outs_len _ _) (by decide))
  .obtain⟨k,Z,rfl⟩:=qc5.mp q;refine qd4.mpr ⟨mem_Un.mpr ?_,decide_eq_true (.inl rfl)⟩;rcases qb0.mp Z with rfl|z
   .exact hr0
   .exact O k z
  .rw[vH];exact zu (mem_Un.mp (qd4.mp q).1)
  .rw[vI Y];refine(ul (mem_Un.mp (qd4.mp q).1)).trans ?_;rw[w9 hp (of_decide_eq_true (qd4.mp q).2)]
 rw[aW (bD fr)];rfl
def kI(j:Nat):Key:=.inl (j:Int)
theorem qO{a j:Nat}(z:kI a=kI j):a=j:=by unfold kI at z;have:=qy3.inj z;lia
def pD:Option Nat->Dt
 |none=>.non
 |some h=>dI h
def cfT(cf:CF Nat):T:=.dct (cf.map fun p=>(kI p.1,pD p.2))
def cfD(cf:CF Nat):Dt:=.dct (cf.map fun p=>kI p.1) (cf.map fun p=>pD p.2)
theorem pi(cf:CF Nat):(cfT cf).d=some (cfD cf):=by unfold cfT T.d;dsimp only;rw[qc3,qc3];rfl
theorem g7(t:Nat):∀cf:CF Nat,db (cf.map fun p=>kI p.1) (cf.map fun p=>pD p.2) (kI t)=(look cf t).map pD
 |[]=>rfl
 |p::cf=>by
  simp only[qa5,db];unfold look;by_cases h:p.1=t
  .rw[if_pos (by rw[h]),zc3 (by simpa using h)];rfl
  .rw[if_neg fun z=>h (qO z),qt5 (by simpa using h),g7 t cf];rfl
theorem EO(cf:CF Nat)(t:Nat){q:Option Nat}(h:look cf t=some q):aq (cfD cf) (dI t)=some (.leaf (pD q)):=by show(db (cf.map fun p=>kI p.1) (cf.map fun p=>pD p.2) (kI t)).map T.leaf=_;rw[g7,h];rfl
theorem wP(cf:CF Nat)(t:Nat):(look cf t).isSome=decide (t∈ks cf):=by unfold look ks;rw[qk8,qi2,List.find?_isSome];simp
theorem EQ(cf:CF Nat)(t:Nat):bU true (dI t) (cfD cf)=some (.leaf (.bl (!decide (t∈ks cf)))):=by show some (T.leaf (.bl (!(db (cf.map fun p=>kI p.1) (cf.map fun p=>pD p.2) (kI t)).isSome)))=_;rw[g7,qk8,wP]
def sT(cf:CF Nat)(q:Dt)(J5:List Nat)(h:Dt):De:=[some (.leaf (cfD cf)),some (.leaf q),some (.lst (J5.map dI)),some (.leaf h)]
variable{cf:CF Nat}
theorem zw {Y:Dt}:∀ {t:Nat} {O:List Nat},Tr cf t O->∀ (n:Nat) (J5:List Nat),O.length<n->J5.length+O.length<100000→
  bz z115 z75 n (sT cf Y J5 (dI t))=some (.nx (sT cf Y (J5++O) .non)):=by
 intro t O tr
 have one:∀(t:Nat)(J5:List Nat)(q:Option Nat),look cf t=some q->J5.length<100000->z75 (sT cf Y J5 (dI t))=some (.nx (sT cf Y (J5++[t]) (pD q))):=by
  intro t J5 q hq Z;unfold z75
  rw[aW (qI (l:=J5.map dI) (d:=dI t) rfl rfl (by rw[qa1];lia)),bD (t:=.leaf (pD q)) (by show((aq (cfD cf) (dI t)).bind T.d).map T.leaf=_;rw[EO cf t hq];rfl)]
  unfold sT;rw[qf0];rfl
 induction tr with
 |@one t h=>intro n J5 hn Z;obtain⟨n,rfl⟩:∃m,n=m+2:=⟨n-2,by simp at hn;lia⟩;rw[i7 rfl (one t J5 none h (by lia))];exact nJ rfl
 |@more t p r h r' ih=>intro n J5 hn Z;obtain⟨n,rfl⟩:∃m,n=m+1:=⟨n-1,by lia⟩;rw[i7 rfl (one t J5 (some p) h (by simp at Z;lia))];have:=ih n (J5++[t]) (by simp at hn;lia) (by simp at Z ⊢;lia);rw[show pD (some p)=dI p from rfl,this,qk9];rfl
theorem um{t:Nat}{q:List Nat}(O:Tr cf t q)(Y:q.length<10000):z50 [cfD cf,dI t]=some (.lst (q.reverse.map dI)):=by unfold z50;refine ke ?_;show aw _ _ [some (.leaf (cfD cf)),some (.leaf (dI t)),none,none]=_;rw[aW (bD (t:=.lst []) (by rw[nE];show((some []).bind mkL)=_;rw[qa2,cR (by simp)])),aW (δ':=sT cf (dI t) [] (dI t)) (bD rfl),aW (zw O 100000 [] (by lia) (by simp;lia)),qx3];show some (Out.rt (.lst (q.map dI).reverse))=_;rw[List.map_reverse]
variable{f1 f2:J9}{F0:Hp}{G:Orc}
def sR(st:Dt)(f1 f2:J9)(F0:Hp)(cf:CF Nat)(x4 x6 q O:Option T):De:=[some (.leaf st),some (.fn f1 F0),some (.fn f2 F0),some (cfT cf),x4,some (.lst ((ks cf).map dI)),x6,q,O]
theorem g8(t:Nat)(q:Option Nat):∀{cf:CF Nat},t∉ks cf->iq (cf.map fun p=>(kI p.1,pD p.2)) (kI t) (pD q)=(cf++[(t,q)]).map fun p=>(kI p.1,pD p.2)
 |[],_=>rfl
 |p::cf,h=>by have h:t∉p.1::ks cf:=h;rw[qa5,iq,if_neg fun z=>h (by rw[qO z];exact .head _),g8 t q fun z=>h (.tail _ z)];rfl
theorem si(h:(ks cf).Nodup):((cf.map fun p=>(kI p.1,pD p.2)).map (·.1)).Nodup:=by
 have:((ks cf).map kI).Nodup:=by rw[qi9,qn7];exact qq3 (fun {a b}(z:a≠b) e=>z (qO e)) h
 rw[qc3];unfold ks at this;rw[qc3]at this;exact this
theorem fF(cf:CF Nat):(ks cf).length=cf.length:=qa1 ..
variable{st:Dt}{x4 x6:Option T}{h:Nat}
theorem wQ {t:Nat} (Y:(ks cf).Nodup) (Z:cf.length<100000) :
  z66 G (sR st f1 f2 F0 cf x4 x6 (some (.leaf (dI h))) (some (.leaf (dI t))))=some (.nx (sR st f1 f2 F0 (fm h cf t) x4 x6 (some (.leaf (dI h))) (some (.leaf (dI t))))):=by
 have O:tB2 (bU true) (vB 8) (vB 3) (sR st f1 f2 F0 cf x4 x6 (some (.leaf (dI h))) (some (.leaf (dI t))))=some (!decide (t∈ks cf)):=bH (x:=dI t) rfl (pi cf) (EQ cf t);unfold z66;by_cases q:t∈ks cf
 .rw[decide_eq_true q]at O;rw[t9 O,show fm h cf t=cf from if_pos q];rfl
 .rw[decide_eq_false q]at O;rw[zm O,show fm h cf t=cf++[(t,some h)]from if_neg q,aW (AN (i:=3) (kd:=dI t) (k:=kI t) (d:=pD (some h)) (l:=cf.map fun p=>(kI p.1,pD p.2)) rfl rfl rfl rfl (by rw[qa1];lia) (si Y)),g8 t (some h) q];refine(qI (i:=5) (l:=(ks cf).map dI) (d:=dI t) rfl rfl (by rw[qa1,fF];lia)).trans ?_;unfold sR;rw[d8,qf0 (f:=dI)];rfl
theorem nO{t:Nat}(q:(ks cf).Nodup):(ks (fm h cf t)).Nodup:=by obtain⟨_,_,_,h3,_⟩:=c6 h [t] cf;exact h3 q
theorem lm(h t:Nat)(cf:CF Nat):(fm h cf t).length<=cf.length+1:=by unfold fm;split<;>simp
theorem pk:∀ (ts:List Nat) (cf:CF Nat) (q:Option T),(ks cf).Nodup->cf.length+ts.length<100000→
  ∃O,cu (ap 8) (z66 G) (ts.map dI) (sR st f1 f2 F0 cf x4 x6 (some (.leaf (dI h))) q)=some (.nx (sR st f1 f2 F0 (cK h cf ts) x4 x6 (some (.leaf (dI h))) O))
 |[],cf,q,_,_=>⟨q,rfl⟩
 |t::ts,cf,q,Y,Z=>by rw[qf4]at Z;obtain⟨O,e⟩:=pk ts (fm h cf t) (some (.leaf (dI t))) (nO Y) (by have:=lm h t cf;lia);refine⟨O,?_⟩;rw[qa5,bC rfl (wQ Y (by lia))];exact e
noncomputable def bfI(beh:Nat->List Nat)(fit:Nat->Bool):Nat->CF Nat->Nat->Option (Nat×CF Nat)
 |0,_,_=>none
 |n+1,cf,k=>match cf[k]? with
  |none=>none
  |some (h,_)=>if fit h then some (h,cf)else bfI beh fit n (cK h cf (beh h)) (k+1)
variable{beh:Nat->List Nat}{fit:Nat->Bool}{U:List Nat}
theorem pA {J4:List Nat} (hU:∀ t∈U,∀ u∈beh t,u∈U) (Z:∃ t,Rch beh J4 t/\fit t=true):∀ (n:Nat) (cf:CF Nat) (k:Nat),BI beh fit J4 cf k->(∀ t∈ks cf,t∈U)->k<=cf.length->U.length<n+k→
  ∃h O k',bfI beh fit n cf k=some (h,O)/\BI beh fit J4 O k'/\(∀t∈ks O,t∈U)/\fit h=true/\h∈ks O
 |0,cf,k,B,Y,hk,hn=>by have:=cJ B.nd Y;rw[fF]at this;lia
 |n+1,cf,k,B,Y,hk,hn=>by
  unfold bfI;cases q:cf[k]? with
  |none=>
   have:=qh4.mp q;have e:k=cf.length:=by lia
   subst e;obtain⟨t,h1,h2⟩:=Z;rw[B.none h1]at h2;cases h2
  |some x=>
   obtain⟨h,p⟩:=x;dsimp only;cases hf:fit h with
   |true=>exact⟨h,cf,k,rfl,B,Y,hf,fQ q⟩
   |false=>have hk':=(gX q).1;obtain⟨e,h1,_⟩:=c6 h (beh h) cf;exact pA hU Z n _ (k+1) (B.step q hf) (iw Y (hU h (Y h (fQ q)))) (by rw[h1,qc4];lia) (by lia)
theorem AT {st:Dt} {x4:Option T} (hU:∀ t∈U,∀ u∈beh t,u∈U) (hUl:U.length<=10000) (hbl:∀ t∈U,(beh t).length<=1000) (h1:∀ t∈U,((G f1 F0 [dI t]).bind T.d).bind itD=some ((beh t).map dI)) (h2:∀ t∈U,G f2 F0 [dI t]=some (.leaf (.bl (fit t)))) :
  ∀(n:Nat)(cf:CF Nat)(k:Nat)(x7 O:Option T)(h:Nat)(Z:CF Nat),(ks cf).Nodup->(∀t∈ks cf,t∈U)->bfI beh fit n cf k=some (h,Z)→
   ∀c,z50 [cfD Z,dI h]=some c->bz (B4 G) (z67 G) n (sR st f1 f2 F0 cf x4 (some (.leaf (.int k))) x7 O)=some (.rt c)
 |0,cf,k,x7,O,h,Z,nd,hc,Y=>by cases Y
 |n+1,cf,k,x7,O,h',Z,nd,hc,Y=>by
  intro c ht
  have hcl:cf.length<=10000:=by have:=cJ nd hc;rw[fF]at this;lia
  have test:B4 G (sR st f1 f2 F0 cf x4 (some (.leaf (.int k))) x7 O)=some (decide ((k:Int)<cf.length)):=by refine bH (x:=.int k) rfl (y:=.int (cf.length:Nat)) ?_ rfl;show some (Dt.int (((ks cf).map dI).length:Nat))=_;rw[qa1,fF]
  unfold bfI at Y;cases q:cf[k]? with
  |none=>rw[q]at Y;cases Y
  |some x=>
   obtain⟨h,pq⟩:=x;rw[q]at Y;dsimp only at Y;have hkl:=(gX q).1;have hhU:h∈U:=hc h (fQ q);rw[decide_eq_true (by lia)]at test
   have s1:aF 7 (toT (toD (d2 aq (vB 5) (vB 6)))) (sR st f1 f2 F0 cf x4 (some (.leaf (.int k))) x7 O)=some (.nx (sR st f1 f2 F0 cf x4 (some (.leaf (.int k))) (some (.leaf (dI h))) O)):=by
    refine(bD (t:=.leaf (dI h)) ?_).trans rfl;show((aq (.lst ((ks cf).map dI)) (.int k)).bind T.d).map T.leaf=_;rw[fO,bG,qb1];have:(ks cf)[k]?=some h:=by unfold ks;rw[qb1,q];rfl
    rw[this];rfl
   have s2:oK (fun i j=>i+j) 6 (kD (.int 1)) (sR st f1 f2 F0 cf x4 (some (.leaf (.int k))) (some (.leaf (dI h))) O)=some (.nx (sR st f1 f2 F0 cf x4 (some (.leaf (.int ((k+1:Nat):Int)))) (some (.leaf (dI h))) O)):=by show some (Out.nx _)=some (Out.nx _);rw[show((k+1:Nat):Int)=(k:Int)+1 by lia];rfl
   have tf:dL (toD (vCl G 2 (ae (vL 7) al))) (sR st f1 f2 F0 cf x4 (some (.leaf (.int ((k+1:Nat):Int)))) (some (.leaf (dI h))) O)=some (fit h):=by show(((G f2 F0 [dI h]).bind T.d).bind tm)=_;rw[h2 h hhU];rfl
   cases hf:fit h with
   |true=>rw[hf]at Y tf;cases Y;refine wN test ?_;unfold z67;rw[aW s1,aW s2];refine wF ?_;rw[zm tf];show((cfT cf).d.bind fun d=>bB (ao z50 (ae (vL 3) (ae (vL 7) al))) ((sR st f1 f2 F0 cf x4 (some (.leaf (.int ((k+1:Nat):Int)))) (some (.leaf (dI h'))) O).set 3 (some (.leaf d))))=_;rw[pi,qa2];exact eR ht
   |false=>
    rw[hf]at Y tf;simp only[qe6,if_false]at Y;obtain⟨e,p1,p2,p3,p4⟩:=c6 h (beh h) cf;obtain⟨y8,hpE⟩:=pk (G:=G) (st:=st) (f1:=f1) (f2:=f2) (F0:=F0) (x4:=x4) (x6:=some (.leaf (.int ((k+1:Nat):Int)))) (h:=h) (beh h) cf O nd (by have:=hbl h hhU;lia)
    have body:z67 G (sR st f1 f2 F0 cf x4 (some (.leaf (.int k))) x7 O)=some (.nx (sR st f1 f2 F0 (cK h cf (beh h)) x4 (some (.leaf (.int ((k+1:Nat):Int)))) (some (.leaf (dI h))) y8)):=by unfold z67;rw[aW s1,aW s2,aW (by rw[t9 tf];rfl)];show((((G f1 F0 [dI h]).bind T.d).bind itD).bind fun ds=>cu (ap 8) (z66 G) ds (sR st f1 f2 F0 cf x4 (some (.leaf (.int ((k+1:Nat):Int)))) (some (.leaf (dI h))) O))=_;rw[h1 h hhU];exact hpE
    rw[i7 test body];exact AT hU hUl hbl h1 h2 n (cK h cf (beh h)) (k+1) (some (.leaf (dI h))) y8 h' Z (p3 nd) (iw hc (hU h hhU)) Y c ht
theorem CU {s0:Nat} (hU:∀ t∈U,∀ u∈beh t,u∈U) (hUl:U.length<=9000) (Z:∀ t∈U,(beh t).length<=1000) (hs:s0∈U) (hx:∃ t,Rch beh [s0] t/\fit t=true) :
  ∃ (t:Nat) (O:List Nat),Wy beh fit [s0] t O/\fit t=true/\O.length<=9001/\∀(G:Orc)(f1 f2:J9)(F0:Hp),(∀t∈U,((G f1 F0 [dI t]).bind T.d).bind itD=some ((beh t).map dI))->(∀t∈U,G f2 F0 [dI t]=some (.leaf (.bl (fit t))))→
      q93 G (.lst [dI s0]) f1 f2 F0=some (.lst (O.reverse.map dI)):=by
 have B0:BI beh fit [s0] [(s0,none)] 0:=BI.start (J4:=[s0])
 have h0:∀t∈ks [(s0,(none:Option Nat))],t∈U:=fun t Y=>by
  have:t=s0:=by simpa[ks] using Y
  rw[this];exact hs
 obtain⟨t,cf,k',e,B,hc,hf,Y⟩:=pA hU hx 100000 [(s0,none)] 0 B0 h0 (qi3 _) (by lia);obtain⟨i,q,eq⟩:=jB Y;obtain⟨O,tr,wy,hl⟩:=B.trace i t q eq;have hi:=(gX eq).1
 have hcl:cf.length<=9000:=by have:=cJ B.nd hc;rw[fF]at this;lia
 refine⟨t,O,wy,hf,by lia,fun G f1 f2 F0 g1 g2=>?_⟩;have hw:=AT (st:=.lst [dI s0]) (x4:=some (.leaf (dI s0))) hU (by lia) Z g1 g2 100000 [(s0,none)] 0 none none t cf (by simp[ks]) h0 e _ (um tr (by lia))
 have hg:∀{g:De->Option Out}{r:T},g (deR 9 (.lst [dI s0]) f1 f2 F0)=some (.rt r)->oS 9 g (.lst [dI s0]) f1 f2 F0=some r:=fun {g r} z=>by unfold oS;rw[z]
 unfold q93;refine hg ?_
 have e2:dD (fIt (vL 0)) (ap 4) (q85 G) [some (.leaf (.lst [dI s0])),some (.fn f1 F0),some (.fn f2 F0),some (.dct []),none,none,none,none,none]=some (.nx [some (.leaf (.lst [dI s0])),some (.fn f1 F0),some (.fn f2 F0),some (cfT [(s0,none)]),some (.leaf (dI s0)),none,none,none,none]):=by show cu (ap 4) (q85 G) [dI s0] [some (.leaf (.lst [dI s0])),some (.fn f1 F0),some (.fn f2 F0),some (.dct []),none,none,none,none,none]=_;rw[bC rfl (by unfold q85;exact AN (kd:=dI s0) (k:=kI s0) (d:=.non) (l:=[]) rfl rfl rfl rfl (by simp) (by simp))];rfl
 show aw _ _ [some (.leaf (.lst [dI s0])),some (.fn f1 F0),some (.fn f2 F0),none,none,none,none,none,none]=_;rw[aW (bD rfl)];show aw _ _ [some (.leaf (.lst [dI s0])),some (.fn f1 F0),some (.fn f2 F0),some (.dct []),none,none,none,none,none]=_;rw[aW e2,aW (δ':=sR (.lst [dI s0]) f1 f2 F0 [(s0,none)] (some (.leaf (dI s0))) none none none) (bD rfl),aW (δ':=sR (.lst [dI s0]) f1 f2 F0 [(s0,none)] (some (.leaf (dI s0))) (some (.leaf (.int ((0:Nat):Int)))) none none) (bD rfl)];exact wF hw
end P44
namespace P44
open PySem L2
variable{i x j s0:Nat}{L:List Nat}
section
variable{J0:List Rw}{b:Str}
def jZ(J0:List Rw)(b:Str)(t:Nat):List Nat:=match J0[t]? with
 |some r=>if r.sets=some b then []else r.outs t
 |none=>[]
def pB(J0:List Rw)(b:Str)(t:Nat):Bool:=match J0[t]? with
 |some r=>decide (b∈r.reads)
 |none=>false
theorem sr{t u:Nat}(h:u∈jZ J0 b t):∃r,J0[t]?=some r/\r.sets≠some b/\u∈r.outs t:=by
 unfold jZ at h;split at h
 .rename_i r e;split at h
  .cases h
  .exact⟨r,e,by assumption,h⟩
 .cases h
theorem uo(h:Needs J0 i b):∀s,Rch (jZ J0 b) [s] i->∃t,Rch (jZ J0 b) [s] t/\pB J0 b t=true:=by
 induction h with
 |here q Y=>intro s O;refine⟨_,O,?_⟩;unfold pB;rw[q];exact decide_eq_true Y
 |on q h1 Z _ ih=>intro s O;refine ih s (.more O ?_);unfold jZ;rw[q];dsimp only;rw[if_neg h1];exact Z
theorem CV(h:j<L.length):(L++[x]).getD j 0=L.getD j 0:=by rw[qa6,qa6,qc6 h]
theorem gd_r(h:j=L.length):(L++[x]).getD j 0=x:=by subst h;simp[qa6]
structure Way(J0:List Rw)(b:Str)(s0:Nat)(W:List Nat):Prop where
 len:∃n,W.length=n+1/\pB J0 b (W.getD n 0)=true
 hd:W.getD 0 0=s0
 nx:∀k,k+1<W.length->W.getD (k+1) 0∈jZ J0 b (W.getD k 0)
theorem CW{t:Nat}{fit:Nat->Bool}{q:List Nat}(h:Wy (jZ J0 b) fit [s0] t q):(∃n,q.reverse.length=n+1/\q.reverse.getD n 0=t)/\q.reverse.getD 0 0=s0/\∀k,k+1<q.reverse.length->q.reverse.getD (k+1) 0∈jZ J0 b (q.reverse.getD k 0):=by
 induction h with
 |@one t h=>rw[qb6.mp h];exact⟨⟨0,rfl,rfl⟩,rfl,fun k hk=>absurd hk (by simp)⟩
 |@more t p r h _ w Z=>
  obtain⟨⟨n,O,Y⟩,h2,h3⟩:=Z;rw[qq4];generalize r.reverse=L at*
  refine⟨⟨n+1,by simp[O],gd_r O.symm⟩,by rw[CV (by lia)];exact h2,fun k hk=>?_⟩;rw[qc4]at hk;have hk:k+1<L.length+1:=hk;rw[CV (show k<L.length by lia)];by_cases z:k+1=L.length
  .rw[gd_r z,show k=n by lia,Y];exact h
  .rw[CV (by lia)];exact h3 k (by lia)
theorem uq{t:Nat}(h:t<J0.length):((ia 4 bE [.str b,dR J0,dW J0] [dI t]).bind T.d).bind itD=some ((jZ J0 b t).map dI):=by
 have q:J0[t]?=some J0[t]:=gQ h;generalize J0[t]=r at q
 have e:bE [some (.leaf (dI t)),some (.leaf (.str b)),some (.leaf (dR J0)),some (.leaf (dW J0))]=some (.rt (if r.sets=some b then .lst []else .leaf (.tup ((r.outs t).map dI)))):=by
  have O:=ax (t:=.leaf r.d) ((bj (δ:=[some (.leaf (dI t)),some (.leaf (.str b)),some (.leaf (dR J0)),some (.leaf (dW J0))]) (fa:=vB 2) (fb:=vB 0) (x:=dR J0) (y:=dI t) rfl rfl).trans (f9 q));have Y:=ax ((bL (F:=z52) O).trans (pp r))
  have c3:tB2 (gEq false) (toD (ao z52 (ae (toD (d2 aq (vB 2) (vB 0))) al))) (vB 1) [some (.leaf (dI t)),some (.leaf (.str b)),some (.leaf (dR J0)),some (.leaf (dW J0))]=some (decide (r.sets=some b)):=by
   refine bH (x:=match r.sets with|some x=>.str x|none=>.non) (Y.trans (by cases r.sets<;>rfl)) (y:=.str b) rfl ?_;cases hs:r.sets with
   |none=>rfl
   |some x=>rw[qD];congr 3;simp
  have Z:d2 aq (vB 3) (vB 0) [some (.leaf (dI t)),some (.leaf (.str b)),some (.leaf (dR J0)),some (.leaf (dW J0))]=some (.leaf (.tup ((r.outs t).map dI))):=(bj (x:=dW J0) (y:=dI t) rfl rfl).trans (nQ q);unfold bE;refine eR ?_;rw[Ev,c3];by_cases z:r.sets=some b
  .rw[decide_eq_true z,g5,if_pos z,nE];show((some []).bind mkL)=_;rw[qa2,cR (by simp)]
  .rw[decide_eq_false z,g6,Z,if_neg z]
 unfold ia
 show(((match bE [some (.leaf (dI t)),some (.leaf (.str b)),some (.leaf (dR J0)),some (.leaf (dW J0))]with
  |some (.rt t)=>some t|some (.nx _)=>some (.leaf .non)|_=>none).bind T.d).bind itD)=_
 rw[e];unfold jZ;rw[q];dsimp only;by_cases z:r.sets=some b
 .rw[if_pos z,if_pos z];rfl
 .rw[if_neg z,if_neg z];rfl
theorem zy{t:Nat}(h:t<J0.length):ia 3 bN [.str b,dR J0] [dI t]=some (.leaf (.bl (pB J0 b t))):=by
 have q:J0[t]?=some J0[t]:=gQ h;generalize J0[t]=r at q
 have e:bN [some (.leaf (dI t)),some (.leaf (.str b)),some (.leaf (dR J0))]=some (.rt (.leaf (.bl (pB J0 b t)))):=by have O:=ax (t:=.leaf r.d) ((bj (δ:=[some (.leaf (dI t)),some (.leaf (.str b)),some (.leaf (dR J0))]) (fa:=vB 2) (fb:=vB 0) (x:=dR J0) (y:=dI t) rfl rfl).trans (f9 q));have Y:=ax ((bL (F:=z51) O).trans (pr r));unfold bN;refine eR ((bj (x:=.str b) rfl Y).trans (gIn_strs.trans ?_));unfold pB;rw[q];rfl
 unfold ia
 show(match bN [some (.leaf (dI t)),some (.leaf (.str b)),some (.leaf (dR J0))]with
  |some (.rt t)=>some t|some (.nx _)=>some (.leaf .non)|_=>none)=_
 rw[e]
theorem CY {c s:Dt} {s0:Nat} (hn:J0.length<=500) (hs:s0<J0.length) (hO:∀ (i:Nat) (r:Rw) (j:Nat),J0[i]?=some r->j∈r.outs i->j<J0.length) (hN:Needs J0 s0 b) :
  ∃W:List Nat,y16 [pcD c s J0,dI s0,.str b]=some (.lst (W.map dI))/\Way J0 b s0 W/\W.length<=9001:=by
 obtain⟨t,ws,wy,ft,hl,Z⟩:=CU (s0:=s0) (U:=qb2 J0.length) (beh:=jZ J0 b) (fit:=pB J0 b)
  (fun t _ u Y=>by obtain⟨r,e,_,ho⟩:=sr Y;exact qb5.mpr (hO t r u e ho))
  (by simp;lia)
  (fun t _=>by
   unfold jZ;split
   .split
    .simp
    .exact qb9 (Rw.outs_len _ _) (by decide)
   .simp)
  (qb5.mpr hs) (uo hN s0 (.one (.head _)))
 obtain⟨⟨n,e1,e2⟩,h2,h3⟩:=CW wy;refine⟨ws.reverse,?_,⟨⟨n,e1,by rw[e2];exact ft⟩,h2,h3⟩,by rw[List.length_reverse];exact hl⟩;have ew:=kf c s J0 (by lia);unfold y16;refine ke ?_;show aw _ _ [some (.leaf (pcD c s J0)),some (.leaf (dI s0)),some (.leaf (.str b)),none,none,none,none]=_;rw[aW (bD rfl)];show aw _ _ [some (.leaf (pcD c s J0)),some (.leaf (dI s0)),some (.leaf (.str b)),some (.leaf (dR J0)),none,none,none]=_
 rw[aW (bD (t:=.leaf (dW J0)) (by show(((dg [pcD c s J0]).bind T.d).map T.leaf)=_;rw[show dg [pcD c s J0]=_ from ew];rfl))]
 refine eR ?_;refine vK (d0:=.lst [dI s0]) (a:=[.str b,dR J0,dW J0]) (b:=[.str b,dR J0]) ?_ rfl rfl fun f1 f2 F0 O=>?_
 .unfold q67;refine(ax (t:=.lst [dI s0]) ?_).trans rfl;rw[nE];show((some [dI s0]).bind mkL)=_;rw[qa2,cR (by simp)]
 .refine Z _ f1 f2 F0 (fun t q=>?_) fun t q=>?_
  .rw[vH];exact uq (qb5.mp q)
  .rw[vI O];exact zy (qb5.mp q)
end
variable{neg:Bool}
theorem gIn_strT{l:List Str}{x:Str}:bU neg (.str x) (.tup (l.map .str))=some (.leaf (.bl (if neg then !decide (x∈l)else decide (x∈l)))):=by rw[Er (by rw[eQ];rfl),sh]
def plD(p:Nat×List Str×Bool):Dt:=.tup [dI p.1,.tup (p.2.1.map .str),.bl p.2.2]
def lsD(b:Str)(W:List Nat)(bg:Bool):Dt:=.tup [.str "lost",.str b,.lst (W.map dI),.bl bg]
structure Lost(J0:List Rw)(p:Nat×List Str×Bool)(b:Str)(W:List Nat):Prop where
 out:b∉p.2.1
 way:Way J0 b p.1 W
 len:W.length<=9001
variable{J3:List (List Str)}{bg:List Str}
section
variable{c s:Dt}{J0:List Rw}{x1 x2 x3:Option T}
def dls(P:Dt)(x1 x2 x3:Option T)(p:Nat×List Str×Bool)(q:Option T):De:=[some (.leaf P),x1,x2,x3,some (.leaf (dI p.1)),some (.leaf (.tup (p.2.1.map .str))),some (.leaf (.bl p.2.2)),q]
theorem su (hn:J0.length<=500) (hO:∀ (i:Nat) (r:Rw) (j:Nat),J0[i]?=some r->j∈r.outs i->j<J0.length) (p:Nat×List Str×Bool) (hp:p.1<J0.length):∀ (l:List Str) (O:Option T),(∀ b∈l,Needs J0 p.1 b)→
  ((∀b∈l,b∈p.2.1)/\∃y,cu (ap 7) q12 (l.map .str) (dls (pcD c s J0) x1 x2 x3 p O)=some (.nx (dls (pcD c s J0) x1 x2 x3 p y)))∨
  ∃b∈l,∃W,Lost J0 p b W/\cu (ap 7) q12 (l.map .str) (dls (pcD c s J0) x1 x2 x3 p O)=some (.rt (.leaf (lsD b W p.2.2)))
 |[],O,_=>.inl ⟨fun b Y=>(by cases Y),O,rfl⟩
 |b::l,O,h=>by
  have Z:tB2 (bU true) (vB 7) (vB 5) (dls (pcD c s J0) x1 x2 x3 p (some (.leaf (.str b))))=some (!decide (b∈p.2.1)):=bH (x:=.str b) (y:=.tup (p.2.1.map .str)) rfl rfl gIn_strT;by_cases Y:b∈p.2.1
  .have e0:q12 (dls (pcD c s J0) x1 x2 x3 p (some (.leaf (.str b))))=some (.nx (dls (pcD c s J0) x1 x2 x3 p (some (.leaf (.str b))))):=by unfold q12;rw[ij,Z,decide_eq_true Y];rfl
   have step:cu (ap 7) q12 ((b::l).map .str) (dls (pcD c s J0) x1 x2 x3 p O)=cu (ap 7) q12 (l.map .str) (dls (pcD c s J0) x1 x2 x3 p (some (.leaf (.str b)))):=bC (δ1:=dls (pcD c s J0) x1 x2 x3 p (some (.leaf (.str b)))) rfl e0;rw[step];rcases su hn hO p hp l (some (.leaf (.str b))) (fun d q=>h d (.tail _ q))with ⟨h1,y,e⟩|⟨d,q,W,L,e⟩
   .refine .inl ⟨fun d q=>?_,y,e⟩;rcases qb0.mp q with rfl|q
    .exact Y
    .exact h1 d q
   .exact .inr ⟨d,.tail _ q,W,L,e⟩
  .obtain⟨W,ew,wy,hl⟩:=CY (c:=c) (s:=s) hn hp hO (h b (.head _));refine .inr ⟨b,.head _,W,⟨Y,wy,hl⟩,?_⟩
   have e0:q12 (dls (pcD c s J0) x1 x2 x3 p (some (.leaf (.str b))))=some (.rt (.leaf (lsD b W p.2.2))):=by unfold q12;rw[ij,Z,decide_eq_false Y];show bB _ (dls (pcD c s J0) x1 x2 x3 p (some (.leaf (.str b))))=_;refine eR (nS (cF rfl (cF rfl (cF (ax (t:=.lst (W.map dI)) ?_) (cF rfl rfl)))) (by simp));exact(show ao (y16) (ae (vL 0) (ae (vL 4) (ae (vL 7) al))) (dls (pcD c s J0) x1 x2 x3 p (some (.leaf (.str b))))=y16 [pcD c s J0,dI p.1,.str b]from rfl).trans ew
   show((q12 (dls (pcD c s J0) x1 x2 x3 p (some (.leaf (.str b))))).bind _)=_;rw[e0];rfl
theorem pC {B:List Str} (F:Fnd J0 B J3) (hn:J0.length<=500) (hO:∀ (i:Nat) (r:Rw) (j:Nat),J0[i]?=some r->j∈r.outs i->j<J0.length):∀ (ps:List (Nat×List Str×Bool)) (x4 x5 x6 O:Option T),(∀ p∈ps,p.1<J0.length)→
  ((∀p∈ps,∀l,J3[p.1]?=some l->∀b∈l,b∈p.2.1)/\∃y4 y5 y6 y7,cu (fX 3 (aX (ap 4) (aX (ap 5) (aX (ap 6) eL)))) q13 (ps.map plD) [some (.leaf (pcD c s J0)),x1,some (.leaf (dF J3)),x3,x4,x5,x6,O]=some (.nx [some (.leaf (pcD c s J0)),x1,some (.leaf (dF J3)),x3,y4,y5,y6,y7]))∨
  ∃p∈ps,∃b W,(∃l,J3[p.1]?=some l/\b∈l)/\Lost J0 p b W/\cu (fX 3 (aX (ap 4) (aX (ap 5) (aX (ap 6) eL)))) q13 (ps.map plD) [some (.leaf (pcD c s J0)),x1,some (.leaf (dF J3)),x3,x4,x5,x6,O]=some (.rt (.leaf (lsD b W p.2.2)))
 |[],x4,x5,x6,O,_=>.inl ⟨fun p hp=>(by cases hp),x4,x5,x6,O,rfl⟩
 |p::ps,x4,x5,x6,O,h=>by
  have hp:=h p (.head _);obtain⟨l,hl⟩:∃l,J3[p.1]?=some l:=⟨J3[p.1]'(by rw[F.len];exact hp),by simp⟩
  have e2:fIt (toD (d2 aq (vB 2) (vB 4))) (dls (pcD c s J0) x1 (some (.leaf (dF J3))) x3 p O)=some (l.map .str):=by
   unfold fIt
   rw[ax (t:=.leaf (dS l)) ((bj (x:=dF J3) (y:=dI p.1) rfl rfl).trans (by unfold dF dI;rw[fO,bG,qb1,hl];rfl))]
   rfl
  have e3:q13 (dls (pcD c s J0) x1 (some (.leaf (dF J3))) x3 p O)=cu (ap 7) q12 (l.map .str) (dls (pcD c s J0) x1 (some (.leaf (dF J3))) x3 p O):=by unfold q13 dD;rw[e2];rfl
  rcases su (c:=c) (s:=s) (x1:=x1) (x2:=some (.leaf (dF J3))) (x3:=x3) hn hO p hp l O (fun b hb=>F.nd p.1 l b hl hb)with ⟨h1,y,e⟩|⟨b,hb,W,L,e⟩
  .have step:cu (fX 3 (aX (ap 4) (aX (ap 5) (aX (ap 6) eL)))) q13 ((p::ps).map plD) [some (.leaf (pcD c s J0)),x1,some (.leaf (dF J3)),x3,x4,x5,x6,O]=cu (fX 3 (aX (ap 4) (aX (ap 5) (aX (ap 6) eL)))) q13 (ps.map plD) (dls (pcD c s J0) x1 (some (.leaf (dF J3))) x3 p y):=bC (δ1:=dls (pcD c s J0) x1 (some (.leaf (dF J3))) x3 p O) rfl (e3.trans e);rw[step];rcases pC F hn hO ps (some (.leaf (dI p.1))) (some (.leaf (.tup (p.2.1.map .str)))) (some (.leaf (.bl p.2.2))) y (fun q Z=>h q (.tail _ Z))with ⟨g1,y4,y5,y6,y7,g2⟩|⟨q,Z,b,W,g1,g2,g3⟩
   .refine .inl ⟨fun q Z l' Y b hb=>?_,y4,y5,y6,y7,g2⟩;rcases qb0.mp Z with rfl|Z
    .rw[hl]at Y;cases Y;exact h1 b hb
    .exact g1 q Z l' Y b hb
   .exact .inr ⟨q,.tail _ Z,b,W,g1,g2,g3⟩
  .refine .inr ⟨p,.head _,b,W,⟨l,hl,hb⟩,L,?_⟩;show((q13 (dls (pcD c s J0) x1 (some (.leaf (dF J3))) x3 p O)).bind _)=_;rw[e3,e];rfl
def lL(bg:List Str)(ks:List (Nat×List Str)):List (Nat×List Str×Bool):=(0,bg,true)::ks.map fun k=>(k.1,k.2,false)
theorem sw {B:List Str} {ks:List (Nat×List Str)} (F:Fnd J0 B J3) (Z:z28 [pcD c s J0]=some (.lst (J3.map dS))) (Y:J0.length<=500) (h0:0<J0.length) (hO:∀ (i:Nat) (r:Rw) (j:Nat),J0[i]?=some r->j∈r.outs i->j<J0.length) (hk:∀ k∈ks,k.1<J0.length) (hkl:ks.length<=900) :
  (q21 [pcD c s J0,kcD (.tup (bg.map .str)) ks]=some (.leaf .non)/\∀p∈lL bg ks,∀l,J3[p.1]?=some l->∀b∈l,b∈p.2.1)∨
  ∃p∈lL bg ks,∃b W,(∃l,J3[p.1]?=some l/\b∈l)/\Lost J0 p b W/\q21 [pcD c s J0,kcD (.tup (bg.map .str)) ks]=some (.leaf (lsD b W p.2.2)):=by
 have q:∀o,cu (fX 3 (aX (ap 4) (aX (ap 5) (aX (ap 6) eL)))) q13 ((lL bg ks).map plD) [some (.leaf (pcD c s J0)),some (.leaf (kcD (.tup (bg.map .str)) ks)),some (.leaf (dF J3)),some (.leaf (.lst ((lL bg ks).map plD))),none,none,none,none]=o->q21 [pcD c s J0,kcD (.tup (bg.map .str)) ks]=wH (ld o (bB (toT (kD .non)))):=fun o ho=>by unfold q21;walk_at "k";rw[show z28 [pcD c s J0]=_ from Z];walk_at "k";rw[bO (h:=fun k:Nat×List Str=>plD (k.1,k.2,false)) fun k _=>⟨_,rfl,rfl,by unfold y90 kpD;walk_at "k";rfl⟩];walk_at "k";rw[cR (by rw[qa1];lia)];walk_at "k";rw[r9 (by simp;lia)];walk_at "k";rw[show Dt.tup [Dt.int 0,Dt.tup (List.map Dt.str bg),Dt.bl true]=plD (0,bg,true)from rfl,show List.map (fun k:Nat×List Str=>plD (k.1,k.2,false)) ks=(ks.map fun k=>(k.1,k.2,false)).map plD by rw[qc3];rfl,<- qa5];show wH (ld (cu _ q13 ((lL bg ks).map plD) _) _)=_;rw[<- ho];rfl
 rcases pC (c:=c) (s:=s) (x1:=some (.leaf (kcD (.tup (bg.map .str)) ks))) (x3:=some (.leaf (.lst ((lL bg ks).map plD)))) F Y hO (lL bg ks) none none none none (fun p hp=>by
  rcases qb0.mp hp with rfl|hp
  .exact h0
  .obtain⟨k,O,rfl⟩:=qc5.mp hp;exact hk k O)with ⟨h1,y4,y5,y6,y7,e⟩|⟨p,hp,b,W,h1,h2,e⟩
 .exact .inl ⟨q _ e,h1⟩
 .exact .inr ⟨p,hp,b,W,h1,h2,q _ e⟩
end
variable{l:List Nat}
theorem i9:gEq neg (.lst (l.map dI)) (.lst [])=some (.leaf (.bl (if neg then !decide (l=[])else decide (l=[])))):=by rw[pd (px l) rfl];cases l<;>rfl
theorem xb{α:Type}(l:List α):oH (fun bs=>bs.all id) [.lst (l.map fun _=>Dt.bl true)]=some (.leaf (.bl true)):=by
 have e:∀l:List α,jM (l.map fun _=>Dt.bl true)=some (l.map fun _=>true):=fun l=>by
  induction l with
  |nil=>rfl
  |cons a l q=>rw[qa5,jM,q];rfl
 unfold oH;dsimp only;rw[e];simp
theorem iA{k:Nat}(h:k<l.length):aq (.lst (l.map dI)) (.int k)=some (.leaf (dI (l.getD k 0))):=by rw[fO,bG,qb1,gQ h,qa6,gQ h];rfl
theorem zA{n:Nat}(h:l.length=n+1):aq (.lst (l.map dI)) (.int (-1))=some (.leaf (dI (l.getD n 0))):=by rw[fO];unfold atI ixN;rw[qa1,h,if_neg (by lia),if_pos (by lia)];show(((l.map dI)[(-1+((n+1:Nat):Int)).toNat]?)).map T.leaf=_;rw[show(-1+((n+1:Nat):Int)).toNat=n by lia,qb1,gQ (by lia),qa6,gQ (by lia)];rfl
variable{g:De->Option Bool}{δ:De}{a:Bool}
theorem orE{f:De->Option Bool}{b:Bool}(h1:f δ=some a)(h2:g δ=some b):fOr f g δ=some (a||b):=by
 rw[Ew,h1];cases a with
 |true=>rfl
 |false=>exact h2
theorem mG:∀l:List Str,deeps (l.map .str)=0
 |[]=>by simp[deeps]
 |x::l=>by rw[qa5,deeps,mG l];simp[hX]
theorem mH:∀q:List (List Str),deeps (q.map fun l=>.tup (l.map .str))<=1
 |[]=>by simp[deeps]
 |l::q=>by have:=mH q;rw[qa5,deeps];simp only[hX,mG];lia
theorem xc(q:List (List Str))(h:q≠[]):gEq false (.lst (q.map fun l=>.tup (l.map .str))) (.lst [])=some (.leaf (.bl false)):=by
 cases q with
 |nil=>exact absurd rfl h
 |cons a q=>have O:=mH (a::q);refine jz (b:=false) ?_;rw[qa5]at O ⊢;show(if cmpbs (_::_) []&&decide (deeps _<=59)then some (peqs (_::_) [])else none)=_;rw[if_pos (by rw[decide_eq_true (by lia)];simp[cmpbs])];simp[peqs]
variable{C fd:Dt}{bo:Bool}{x6:Option T}
section
variable{J0:List Rw}{bg:List Str}{ks:List (Nat×List Str)}{b:Str}{W:List Nat}
def dlo(J0:List Rw)(C fd:Dt)(b:Str)(W:List Nat)(bo:Bool)(x6 q:Option T):De:=[some (.leaf (dR J0)),some (.leaf C),some (.leaf fd),some (.leaf (.str b)),some (.leaf (.lst (W.map dI))),some (.leaf (.bl bo)),x6,q]
theorem ur(w:Way J0 b s0 W)(hn:J0.length<=500)(k:Nat)(hk:k+1<W.length):y27 (dlo J0 C fd b W bo x6 (some (.leaf (dI k))))=some (.nx (dlo J0 C fd b W bo x6 (some (.leaf (dI k))))):=by
 obtain⟨r,q,hs,ho⟩:=sr (w.nx k hk);have O:toD (d2 aq (vB 4) (vB 7)) (dlo J0 C fd b W bo x6 (some (.leaf (dI k))))=some (dI (W.getD k 0)):=ax (t:=.leaf _) ((bj (x:=.lst (W.map dI)) (y:=dI k) rfl rfl).trans (iA (by lia)))
 have Z:toD (d2 aq (vB 4) (toD (d2 cq (vB 7) (kD (.int 1))))) (dlo J0 C fd b W bo x6 (some (.leaf (dI k))))=some (dI (W.getD (k+1) 0)):=by refine ax (t:=.leaf _) ((bj (x:=.lst (W.map dI)) (y:=.int ((k+1:Nat):Int)) rfl ?_).trans (iA hk));show some (Dt.int ((k:Int)+1))=_;rw[show((k+1:Nat):Int)=(k:Int)+1 by lia]
 have c3:=ax ((cr (F:=y21) (f:=vL 0) (δ:=dlo J0 C fd b W bo x6 (some (.leaf (dI k)))) (x:=dR J0) rfl O).trans (pv J0 _ r q));have c4:toD (d2 aq (vB 0) (toD (d2 aq (vB 4) (vB 7)))) (dlo J0 C fd b W bo x6 (some (.leaf (dI k))))=some r.d:=ax (t:=.leaf _) ((bj (x:=dR J0) rfl O).trans (f9 q));have Y:=ax ((bL (F:=y30) c4).trans (ug r));unfold y27;rw[ij,orE (a:=false) (bH Z c3 (gIn_ints.trans (by rw[decide_eq_true ho];rfl))) (b:=false) (bH Y (y:=.str b) rfl ?_)]
 .rfl
 .unfold sv;cases h:r.sets with
  |none=>rfl
  |some x=>show gEq false (.str x) (.str b)=_;rw[qD,decide_eq_false fun z=>hs (by rw[h,z])]
theorem mI(w:Way J0 b s0 W)(Y:J0.length<=500):∀(js:List Nat)(q:Option T),(∀j∈js,j+1<W.length)->∃O,cu (ap 7) y27 (js.map dI) (dlo J0 C fd b W bo x6 q)=some (.nx (dlo J0 C fd b W bo x6 O))
 |[],q,_=>⟨q,rfl⟩
 |j::js,q,h=>by
  obtain⟨O,e⟩:=mI w Y js (some (.leaf (dI j))) fun i hi=>h i (.tail _ hi)
  refine⟨O,?_⟩;rw[qa5,bC (δ1:=dlo J0 C fd b W bo x6 (some (.leaf (dI j)))) rfl (ur w Y j (h j (.head _)))];exact e
theorem mJ {C fd:Dt} {bo:Bool} {l:List Str} {O:List (List Str)} (w:Way J0 b s0 W) (hb:b∉l) (hn:J0.length<=500) (hl:W.length<=9001) :
  (aw (sIf (fOr (tB2 (gEq false) (vB 6) (toD (bX al))) (fOr (tB2 (bU false) (vB 3) (toD (d2 aq (vB 6) (kD (.int 0))))) (tB2 (bU true) (vB 3) (toD (ao z17 (ae (toD (d2 aq (vB 0) (toD (d2 aq (vB 4) (toD (lG (kD (.int 1)))))))) al)))))) cQ bJ)
  (aw (dD (dq fB (ae (toD (d2 fu (toD (ao cL (ae (vB 4) al))) (kD (.int 1)))) al)) (ap 7) y27)
  (bB (toT (kD (.bl true)))))) (dlo J0 C fd b W bo (some (.leaf (.lst ((l::O).map fun l=>.tup (l.map .str))))) none)=some (.rt (.leaf (.bl true))):=by
 obtain⟨n,q,Z⟩:=w.len
 obtain⟨r,hr,Y⟩:∃r,J0[W.getD n 0]?=some r/\b∈r.reads:=by
  unfold pB at Z;split at Z
  .rename_i r e;exact⟨r,e,of_decide_eq_true Z⟩
  .cases Z
 generalize hδ:dlo J0 C fd b W bo (some (.leaf (.lst ((l::O).map fun l=>.tup (l.map .str))))) none=δ;have b6:vB 6 δ=some (.lst ((l::O).map fun l=>.tup (l.map .str))):=by rw[<- hδ];rfl
 have b3:vB 3 δ=some (.str b):=by rw[<- hδ];rfl
 have b4:vB 4 δ=some (.lst (W.map dI)):=by rw[<- hδ];rfl
 have c0:vB 0 δ=some (dR J0):=by rw[<- hδ];rfl
 have c1:=ax (t:=.leaf _) ((bj (g:=aq) b4 (y:=.int (-1)) (fb:=toD (lG (kD (.int 1)))) rfl).trans (zA q));have c2:=ax (t:=.leaf _) ((bj (g:=aq) c0 c1).trans (f9 hr));have c3:=ax ((bL (F:=z17) c2).trans (qK r));have c4:toD (d2 aq (vB 6) (kD (.int 0))) δ=some (.tup (l.map .str)):=ax (t:=.leaf _) ((bj b6 (y:=.int ((0:Nat):Int)) rfl).trans (by rw[fO,bG];rfl))
 have t3:tB2 (bU true) (vB 3) (toD (ao z17 (ae (toD (d2 aq (vB 0) (toD (d2 aq (vB 4) (toD (lG (kD (.int 1)))))))) al))) δ=some false:=bH b3 c3 (gIn_strs.trans (by
  have:b∈nms r.atoms:=by unfold Rw.reads at Y;exact onces_mem.mp Y
  rw[decide_eq_true this];rfl))
 rw[cZ,ij,orE (bH b6 (y:=.lst []) rfl (xc (l::O) (by simp))) (orE (bH (b:=false) b3 c4 (gIn_strT.trans (by simp[hb]))) t3)];show ld (some (.nx δ)) _=_;rw[cE,cZ]
 have c5:dq fB (ae (toD (d2 fu (toD (ao cL (ae (vB 4) al))) (kD (.int 1)))) al) δ=some ((qb2 n).map dI):=by
  have:toD (d2 fu (toD (ao cL (ae (vB 4) al))) (kD (.int 1))) δ=some (.int (n:Nat)):=by
   refine ax (t:=.leaf _) ((bj (ax (t:=.leaf (.int (W.length:Nat))) ((bL b4).trans ?_)) (y:=.int 1) rfl).trans ?_)
   .show some (T.leaf (.int ((W.map dI).length:Nat)))=_;rw[qa1]
   .show some (T.leaf (.int ((W.length:Int)-1)))=_;rw[q,show((n+1:Nat):Int)-1=(n:Int)by lia]
  unfold dq;rw[cF this (show al δ=some []from rfl),qa2,nR n (by lia)]
 obtain⟨y7,e⟩:=mI (C:=C) (fd:=fd) (bo:=bo) (x6:=some (.leaf (.lst ((l::O).map fun l=>.tup (l.map .str))))) w hn (qb2 n) none (fun j hj=>by have:=qb5.mp hj;lia);unfold dD;rw[c5,qa2,<- hδ,e];rfl
end
theorem zB{l:List (Nat×List Str)}{w:Dt}(q:aq w (.int 0)=some (.leaf (dI s0))):bK (fX 2 (aX (ap 0) (aX (ap 1) eL))) q28 (vL 1) [none,none,some (.leaf w)] (l.map kpD)=some (((l.filter fun k=>decide ((k.1:Int)=(s0:Int))).map (·.2)).map fun l=>.tup (l.map .str)):=by
 have:=b7 (f:=kpD) (h:=fun k=>Dt.tup (k.2.map .str)) (p:=fun k:Nat×List Str=>decide ((k.1:Int)=(s0:Int))) (bb:=fX 2 (aX (ap 0) (aX (ap 1) eL))) (ft:=q28) (fe:=vL 1) (δ:=[none,none,some (.leaf w)]) (l:=l) fun k _=>⟨[some (.leaf (dI k.1)),some (.leaf (.tup (k.2.map .str))),some (.leaf w)],rfl,by unfold q28;exact bH (x:=dI k.1) rfl (ax (t:=.leaf (dI s0)) ((bj (x:=w) (y:=.int 0) rfl rfl).trans q)) Cb,fun _=>rfl⟩
 rw[this,qc3];rfl
variable{J0:List Rw}{b:Str}
theorem qP{ks:List (Nat×List Str)}{p:Nat×List Str×Bool}{W:List Nat}(hn:J0.length<=500)(hkl:ks.length<=900)(O:(ks.map (·.1)).Nodup)(hp:p∈lL bg ks)(L:Lost J0 p b W):z25 [dR J0,kcD (.tup (bg.map .str)) ks,lsD b W p.2.2]=some (.leaf (.bl true)):=by
 obtain⟨n,hn1,_⟩:=L.way.len;have hl:=L.len
 have hw:aq (.lst (W.map dI)) (.int 0)=some (.leaf (dI p.1)):=by rw[<- L.way.hd];exact iA (k:=0) (by lia)
 unfold z25;generalize hC:kcD (.tup (bg.map .str)) ks=C;refine dRt ?_;generalize Y:lsD b W p.2.2=fd;show aw _ _ [some (.leaf (dR J0)),some (.leaf C),some (.leaf fd),none,none,none,none,none]=_
 have t0:fOr (tB2 (gEq true) (toD (ao cL (ae (vB 2) al))) (kD (.int 4))) (fOr (hZ (dL (toD (fK "str" (toD (d2 aq (vB 2) (kD (.int 1)))))))) (fOr (hZ (dL (toD (fK "list" (toD (d2 aq (vB 2) (kD (.int 2)))))))) (tB2 (gEq false) (toD (d2 aq (vB 2) (kD (.int 2)))) (toD (bX al))))) [some (.leaf (dR J0)),some (.leaf C),some (.leaf fd),none,none,none,none,none]=some false:=by subst Y;refine orE (a:=false) rfl (orE (a:=false) rfl (orE (a:=false) rfl ((bH (x:=.lst (W.map dI)) (y:=.lst []) rfl rfl i9).trans ?_)));rw[decide_eq_false (show ¬ W=[]by rintro rfl;cases hn1)];rfl
 rw[lv t0]
 have s1:oB (toD (vSl (vB 2) (iR (kD (.int 1))) l9)) (fX 3 (aX (ap 3) (aX (ap 4) (aX (ap 5) eL)))) [some (.leaf (dR J0)),some (.leaf C),some (.leaf fd),none,none,none,none,none]=some (.nx (dlo J0 C fd b W p.2.2 none none)):=by subst Y;rfl
 rw[cZ,s1,cE]
 have t1:fOr (hZ (dL (toD (ao (oH fun bs=>bs.all id) (ae (toD (br [none] (fIt (vB 4)) (ap 0) cg q50)) al))))) (hZ (dL (toD (fK "bool" (vB 5))))) (dlo J0 C fd b W p.2.2 none none)=some false:=by
  have a2:bK (ap 0) cg q50 [none] (W.map dI)=some (W.map fun _=>.bl true):=bO fun j _=>⟨[some (.leaf (dI j))],rfl,rfl,rfl⟩
  have a3:=ax (c7 (src:=[none]) (fi:=fIt (vB 4)) (δ:=dlo J0 C fd b W p.2.2 none none) rfl a2 (by rw[qa1];lia));have a4:=ax ((bL a3).trans (xb W));refine orE (a:=false) ?_ rfl;unfold hZ dL;rw[a4];rfl
 rw[lv t1]
 have s2:aF 6 (toT (toD (br [none,none,some 4] (fIt (toD (d2 aq (vB 1) (kD (.int 1))))) (fX 2 (aX (ap 0) (aX (ap 1) eL))) q28 (vL 1)))) (dlo J0 C fd b W p.2.2 none none)=some (.nx (dlo J0 C fd b W p.2.2 (some (.leaf (.lst (((ks.filter fun k=>decide ((k.1:Int)=(p.1:Int))).map (·.2)).map fun l=>.tup (l.map .str))))) none)):=by
  unfold aF toT
  rw[ax (c7 (src:=[none,none,some 4]) (ds:=ks.map kpD) (by subst hC;rfl) (zB (w:=.lst (W.map dI)) hw) (by rw[qa1,qa1];exact qb9 (qd0 _ _) (by lia)))]
  rfl
 rw[cZ,s2,cE,cZ];rcases qb0.mp hp with rfl|hp
 .have s3:sIf (dL (vB 5)) (aF 6 (toT (toD (br [none,some 4] (fIt (toD (bX (ae (toD (d2 aq (vB 1) (kD (.int 0)))) al)))) (ap 0) y36 (vL 0))))) bJ (dlo J0 C fd b W true (some (.leaf (.lst (((ks.filter fun k=>decide ((k.1:Int)=((0:Nat):Int))).map (·.2)).map fun l=>.tup (l.map .str))))) none)=some (.nx (dlo J0 C fd b W true (some (.leaf (.lst ([bg].map fun l=>.tup (l.map .str))))) none)):=by
   have cc:bK (ap 0) y36 (vL 0) [none,some (.leaf (.lst (W.map dI)))] ([bg].map fun l=>Dt.tup (l.map .str))=some ([bg].map fun l=>.tup (l.map .str)):=bO fun l _=>⟨[some (.leaf (.tup (l.map .str))),some (.leaf (.lst (W.map dI)))],rfl,by unfold y36;exact bH (ax (t:=.leaf (dI 0)) ((bj (x:=.lst (W.map dI)) (y:=.int 0) rfl rfl).trans hw)) (y:=.int 0) rfl rfl,rfl⟩
   show aF 6 _ _=_;unfold aF toT;rw[ax (c7 (src:=[none,some 4]) (ds:=[bg].map fun l=>Dt.tup (l.map .str)) (by subst hC;rfl) cc (by simp))];rfl
  rw[s3,cE];exact mJ L.way L.out hn hl
 .obtain⟨k,hk,rfl⟩:=qc5.mp hp
  have fe:ks.filter (fun q=>decide ((q.1:Int)=(k.1:Int)))=[k]:=by
   have key:∀l:List (Nat×List Str),(l.map (·.1)).Nodup->k∈l->l.filter (fun q=>decide ((q.1:Int)=(k.1:Int)))=[k]:=fun l=>by
    induction l with
    |nil=>intro _ h;cases h
    |cons a l ih=>
     intro O Z;rw[qa5,qh3]at O;rcases qb0.mp Z with rfl|Z
     .rw[qt2 (by simp),List.filter_eq_nil_iff.mpr fun q hq z=>O.1 (qc5.mpr ⟨q,hq,by have:=of_decide_eq_true z;lia⟩)]
     .rw[qt3 (fun z=>O.1 (qc5.mpr ⟨k,Z,by have:=of_decide_eq_true z;lia⟩)),ih O.2 Z]
   exact key ks O hk
  rw[fe];show ld (some (.nx (dlo J0 C fd b W false (some (.leaf (.lst ([k.2].map fun l=>.tup (l.map .str))))) none))) _=_;rw[cE];exact mJ L.way L.out hn hl
theorem fR{α β:Type}(f:α->β)(l:List α)(k:Nat)(h:k<l.length)(d:α):atI (l.map f) (k:Int)=some (f (l.getD k d)):=by unfold atI ixN;rw[if_pos (by lia),qa1,if_pos (by lia)];simp[h]
theorem g9(ns:List Int)(k:Nat):y1 [.lst (ns.map .int),.int k]=some (.leaf (.int (ns.getD k 0))):=by
 unfold y1;walk_at "d";by_cases h:k<ns.length
 .rw[j8 (by simpa using h)];walk_at "d";rw[fR Dt.int ns k h 0];rfl
 .rw[j9 (by simpa using h)];walk_at "d";simp[List.getD,show ns.length<=k by lia]
theorem mK(q:Option T)(k:Nat)(hk:k<=1000):∀(ds:List Nat)(f n:Int)(x4:Option T),-1000000000<=n->n<=10000000000->(∀j∈ds,j<=100)->∃Y O y,cu (ap 4) z72 (ds.map dI) [q,some (.leaf (.int k)),some (.leaf (.int f)),some (.leaf (.int n)),x4]=some (.nx [q,some (.leaf (.int k)),some (.leaf (.int Y)),some (.leaf (.int O)),y])
 |[],f,n,x4,_,_,_=>⟨f,n,x4,rfl⟩
 |j::ds,f,n,x4,h0,h1,Z=>by
  have hj0:=Z j (.head _);have a0:=ql4 (n*n+69621*n+(j:Int)) (show(2147483629:Int)≠0 by decide);have a1:=qi6 (n*n+69621*n+(j:Int)) (show(0:Int)<2147483629 by decide);generalize hu:(n*n+69621*n+(j:Int))%2147483629=u at a0 a1;have b0:=ql4 (u*16807+7919*(j:Int)+(k:Int)) (show(2147483587:Int)≠0 by decide);have b1:=qi6 (u*16807+7919*(j:Int)+(k:Int)) (show(0:Int)<2147483587 by decide);generalize hv:(u*16807+7919*(j:Int)+(k:Int))%2147483587=v at b0 b1;obtain⟨Y,O,y,e⟩:=mK q k hk ds (f*2147483587+v) v (some (.leaf (dI j))) (by lia) (by lia) fun i hi=>Z i (.tail _ hi)
  refine⟨Y,O,y,?_⟩;rw[qa5,bC (δ1:=[q,some (.leaf (.int k)),some (.leaf (.int f)),some (.leaf (.int n)),some (.leaf (dI j))]) (δ2:=[q,some (.leaf (.int k)),some (.leaf (.int (f*2147483587+v))),some (.leaf (.int v)),some (.leaf (dI j))]) rfl ?_]
  .exact e
  .unfold z72 dI;walk_at "d";rw[Cc (i:=n) (j:=n) (by lia) (by lia)];walk_at "d";rw[hu,hv]
theorem dn{i j:Int}(q:0<j)(h1:j<10000000000000):ei (.int i) (.int j)=some (.leaf (.int (i/j))):=if_pos ⟨q,by lia⟩
theorem zC(c:Int)(k:Nat)(hk:k<=1000):∃v:Int,z46 [.int c,.int k]=some (.leaf (.int v)):=by
 have Z:=ql4 c (show(2147483629:Int)≠0 by decide);have c1:=qi6 c (show(0:Int)<2147483629 by decide);obtain⟨q,n',y,e⟩:=mK (some (.leaf (.int c))) k hk (qb2 15) 0 (c%2147483629+48271*(k:Int)+11) none (by lia) (by lia) fun j O=>by have:=qb5.mp O;lia
 have Y:eY 0 15=(qb2 15).map dI:=by unfold eY dI;simp
 refine⟨q,?_⟩;unfold z46;walk_at "d";rw[wC (by decide),qa2,show(15:Int).toNat=15 from rfl,Y,e];walk_at "d"
theorem nV(ns:List Int)(k:Nat)(hk:k<=1000):∃v:Int,z16 [.lst (ns.map .int),.int k]=some (.leaf (.int v)):=by
 unfold z16;walk_at "d";rw[show(Dt.int 0)=.int ((0:Nat):Int)from rfl,g9];walk_at "d";by_cases h:ns.getD 0 0%2=0
 .rw[j8 (by simpa using h)];walk_at "d";rw[g9];exact⟨_,rfl⟩
 .rw[j9 (by simpa using h)];walk_at "d";rw[g9];walk_at "d";obtain⟨v,e⟩:=zC (ns.getD k 0) k hk;rw[e];exact⟨_,rfl⟩
theorem jS(x1:Option T):∀(zs:List Nat)(n:Int)(done:List Nat)(x3:Option T),(∀z∈zs,0<z/\z<10000000000000)->done.length+zs.length<=100->∃(q:Int)(ds:List Nat)(y:Option T),cu (ap 3) y53 (zs.map dI) [some (.leaf (.int n)),x1,some (.lst (done.map dI)),x3]=some (.nx [some (.leaf (.int q)),x1,some (.lst ((done++ds).map dI)),y])/\ds.length=zs.length/\∀(i d z:Nat),ds[i]?=some d->zs[i]?=some z->d<z
 |[],n,done,x3,_,_=>⟨n,[],x3,by simp[cu],rfl,fun i d z h=>by simp at h⟩
 |z::zs,n,done,x3,Y,O=>by
  obtain⟨h0,h1⟩:=Y z (.head _);have m0:=ql4 n (show(z:Int)≠0 by lia);have m1:=qi6 n (show(0:Int)<z by lia);obtain⟨d,hd⟩:∃d:Nat,n%(z:Int)=(d:Int):=⟨(n%(z:Int)).toNat,by lia⟩;obtain⟨q,ds,y,e,el,Z⟩:=jS x1 zs (n/z) (done++[d]) (some (.leaf (dI z))) (fun w hw=>Y w (.tail _ hw)) (by simp at O ⊢;lia);refine⟨q,d::ds,y,?_,by simp[el],fun i d' z' h1 h2=>?_⟩
  .rw[qa5,bC (δ1:=[some (.leaf (.int n)),x1,some (.lst (done.map dI)),some (.leaf (dI z))]) (δ2:=[some (.leaf (.int (n/z))),x1,some (.lst ((done++[d]).map dI)),some (.leaf (dI z))]) rfl ?_]
   .rw[e];simp
   .unfold y53 dI;walk_at "d";rw[lg rfl];walk_at "d";rw[jy (by lia),hd];walk_at "d";rw[f8 (by rw[qa1];simp at O;lia)];walk_at "d";rw[dn (by lia) (by lia)];walk_at "d";simp[dI]
  .cases i with
   |zero=>simp at h1 h2;subst h1 h2;lia
   |succ i=>exact Z i d' z' (by simpa using h1) (by simpa using h2)
theorem fS(n:Int)(zs:List Nat)(Y:∀z∈zs,0<z/\z<10000000000000)(hl:zs.length<=50):∃ds:List Nat,z9 [.int n,.lst (zs.map dI)]=some (.lst (ds.map dI))/\ds.length=zs.length/\∀(i d z:Nat),ds[i]?=some d->zs[i]?=some z->d<z:=by obtain⟨Z,ds,y,e,O,q⟩:=jS (some (.leaf (.lst (zs.map dI)))) zs n [] none Y (by simp;lia);refine⟨ds,?_,O,q⟩;unfold z9;walk_at "d";rw[show([]:List Dt)=([]:List Nat).map dI from rfl,e];walk_at "d"
def letters:Str:="abcdefghijklmnopqrstuvwxyz"
theorem pE:letters.length=26:=by decide +kernel
def sgN(i:Nat):Nat:=letters.cps.toList.getD i 0
theorem xf(i:Nat)(h1:i<26):aq (.str letters) (.int i)=some (.leaf (.str ⟨#[sgN i]⟩)):=by
 have q:letters.cps.toList.length=26:=by decide +kernel
 rw[wA (by rw[pE];exact small (by decide)),bG,gQ (by lia)];unfold sgN;rw[qa6,gQ (by lia)];rfl
theorem zD:∀i<26,∀j<26,sgN i=sgN j->i=j:=by decide +kernel
theorem CZ:∀i<26,qg9 letters ⟨#[sgN i]⟩ 0 letters.length 1=[i]:=by decide +kernel
theorem ut(i:Nat)(h:i<26):fz (.str letters) [.str ⟨#[sgN i]⟩]=some (.leaf (.int i)):=by unfold fz;dsimp only;rw[CZ i h];rfl
def wd(base:List Nat)(e:Nat):Str:=⟨(base++[sgN e]).toArray⟩
theorem xg(base:List Nat)(e:Nat):(wd base e).length=base.length+1:=by show((base++[sgN e]).toArray).size=_;simp
variable{base:List Nat}
theorem C0(hi:i<26)(q:j<26)(h:wd base i=wd base j):i=j:=by have e:=congrArg (fun s:Str=>s.cps.toList) h;simp only[wd]at e;have e:=List.append_cancel_left e;exact zD i hi j q (by simpa using e)
theorem pF:∀(l m:List Nat),(qb2 l.length).filterMap (fun i=>(l++m)[i]?)=l
 |[],m=>rfl
 |a::l,m=>by rw[qf4,zc0,qr4];simp only[qv2,qo2,List.filterMap_map];congr 1;exact pF l m
theorem C3:∀n<10,qj1.Str.strSliceIndices none (some (-1)) 1 (n+1)=qb2 n:=by decide +kernel
theorem C4(base:List Nat)(e:Nat)(h:base.length<10):gSl (.str (wd base e)) none (some (-1))=some (.leaf (.str ⟨base.toArray⟩)):=by
 have O:=xg base e;unfold gSl;dsimp only;rw[if_pos (small (by lia))];unfold Txt.slice;rw[O,C3 _ h,if_neg (by simp)];have:=pF base [sgN e]
 have q:(qb2 base.length).filterMap (fun i=>(wd base e).cps[i]?)=base:=by refine Eq.trans ?_ this;congr 1;funext i;unfold wd;simp
 rw[q]
theorem zE(base:List Nat)(e:Nat)(h:base.length<10):aq (.str (wd base e)) (.int (-1))=some (.leaf (.str ⟨#[sgN e]⟩)):=by
 rw[wA (by rw[xg];exact small (by lia))];have:(wd base e).cps.toList=base++[sgN e]:=by unfold wd;simp
 rw[this];unfold atI ixN;rw[if_neg (by decide),if_pos (by simp;lia)];simp only[qa2,qc4,qp2];rw[show((-1:Int)+((base.length+1:Nat):Int)).toNat=base.length by lia];simp
theorem C5(base:List Nat)(e:Nat)(h:base.length<10):cq (.str ⟨base.toArray⟩) (.str ⟨#[sgN e]⟩)=some (.leaf (.str (wd base e))):=by rw[Ca (small (by show base.toArray.size+1<=_;simp;lia))];congr 3;show(⟨base.toArray++#[sgN e]⟩:Str)=_;unfold wd;simp
variable{n m:Dt}{x4:Option T}
theorem uu {fd:List Str} {e:Nat} (h:base.length<10) (q:e<26) :
  q45 [some (.leaf n),some (.leaf m),some (.leaf (.str letters)),some (.lst (fd.map .str)),x4,some (.leaf (.str (wd base e)))]=some (.nx [some (.leaf n),some (.leaf m),some (.leaf (.str letters)),some (.lst (fd.map .str)),x4,some (.leaf (.str (wd base ((e+1)%26))))]):=by
 unfold q45;walk_at "d";rw[show(-(1:Int))=-1 from rfl,zE base e h];walk_at "d";rw[C4 base e h,ut e q];walk_at "d";rw[show((e:Int)+1)%26=(((e+1)%26:Nat):Int)by lia,xf _ (qw4 _ (by decide))];walk_at "d";rw[C5 _ _ h];walk_at "d"
theorem uv{fd:List Str}{w:Str}:y25 [some (.leaf n),some (.leaf m),some (.leaf (.str letters)),some (.lst (fd.map .str)),x4,some (.leaf (.str w))]=some (decide (w∈fd)):=by unfold y25;walk_at "d";rw[gIn_strs];rfl
theorem AU {n m:Dt} {fd:List Str} {x4:Option T} {e0:Nat} (h:base.length<10) (hf:fd.length<=12):∀ (d s O:Nat),s+d=13->d<O->(∀ t,t<s->wd base ((e0+t)%26)∈fd)→
  ∃e,e<26/\wd base e∉fd/\bz y25 q45 O [some (.leaf n),some (.leaf m),some (.leaf (.str letters)),some (.lst (fd.map .str)),x4,some (.leaf (.str (wd base ((e0+s)%26))))]=some (.nx [some (.leaf n),some (.leaf m),some (.leaf (.str letters)),some (.lst (fd.map .str)),x4,some (.leaf (.str (wd base e)))])
 |0,s,O,hs,_,Z=>by
  exfalso
  have hl:((qb2 s).map fun t=>wd base ((e0+t)%26)).length<=fd.length:=cJ (by
   rw[qi9,qn7];refine qy7.mpr fun i j hi hj hij q=>?_
   simp only[qn5]at hi hj;simp only[List.getElem_range]at q;have:=C0 (qw4 _ (by decide)) (qw4 _ (by decide)) q;lia) fun x Y=>by
   obtain⟨t,ht,rfl⟩:=qc5.mp Y;exact Z t (qb5.mp ht)
  simp at hl;lia
 |d+1,s,0,hs,hfu,Z=>by lia
 |d+1,s,O+1,hs,hfu,Z=>by
  have hC:=uv (n:=n) (m:=m) (fd:=fd) (x4:=x4) (w:=wd base ((e0+s)%26));by_cases Y:wd base ((e0+s)%26)∈fd
  .obtain ⟨e,h1,h2,h3⟩:=AU (n:=n) (m:=m) (x4:=x4) (e0:=e0) h hf d (s+1) O (by lia) (by lia) fun t ht=>by
    by_cases q:t=s
    .rw[q];exact Y
    .exact Z t (by lia)
   refine⟨e,h1,h2,?_⟩;rw[decide_eq_true Y]at hC;show((y25 _).bind fun b=>_)=_;rw[hC,qa2,if_pos rfl,uu h (qw4 _ (by decide)),qa2];dsimp only;rw[show((e0+s)%26+1)%26=(e0+(s+1))%26 by lia];exact h3
  .refine⟨_,qw4 _ (by decide),Y,?_⟩;rw[decide_eq_false Y]at hC;show((y25 _).bind fun b=>_)=_;rw[hC];rfl
theorem hJ(k:Nat):eY 0 k=(qb2 k).map dI:=by unfold eY dI;simp
theorem C6{ds:List Nat}(O:ds.length=7)(q:∀i,0<i->i<7->ds.getD i 0<26)(i:Nat)(hi:i<6):y45 [some (.leaf (dI i)),some (.leaf (.str letters)),some (.leaf (.lst (ds.map dI)))]=some (.str ⟨#[sgN (ds.getD (1+i) 0)]⟩):=by unfold y45;walk_at "d";unfold dI;walk_at "d";rw[show(1:Int)+(i:Int)=((1+i:Nat):Int)by lia,fR (fun j:Nat=>Dt.int (j:Int)) ds (1+i) (by lia) 0];walk_at "d";rw[xf _ (q (1+i) (by lia) (by lia))];walk_at "d"
theorem uw(n:Int)(m:Dt)(fd:List Str)(hf:fd.length<=12)(x4 x5:Option T):∃(n':Int)(w:Str)(y4:Option T),w∉fd/\q44 [some (.leaf (.int n)),some (.leaf m),some (.leaf (.str letters)),some (.lst (fd.map .str)),x4,x5]=some (.nx [some (.leaf (.int n')),some (.leaf m),some (.leaf (.str letters)),some (.lst ((fd++[w]).map .str)),y4,some (.leaf (.str w))]):=by
 obtain⟨ds,e,el,ed⟩:=fS n [6,26,26,26,26,26,26] (by intro z hz;simp at hz;lia) (by simp);have hl:ds.length=7:=el
 have Y:∀i,i<7->ds[i]?=some (ds.getD i 0):=fun i hi=>by rw[qa6,gQ (by lia)];rfl
 have h0:ds.getD 0 0<6:=ed 0 _ 6 (Y 0 (by lia)) rfl
 have hd:∀i,0<i->i<7->ds.getD i 0<26:=fun i hi hi7=>ed i _ 26 (Y i hi7) (by
  have q:i=1∨i=2∨i=3∨i=4∨i=5∨i=6:=by lia
  rcases q with rfl|rfl|rfl|rfl|rfl|rfl<;>rfl)
 generalize hd0:ds.getD 0 0=d0 at h0;have he0:=hd (1+d0) (by lia) (by lia);generalize O:(qb2 d0).map (fun i=>sgN (ds.getD (1+i) 0))=base;have hbl:base.length=d0:=by rw[<- O];simp
 have Z:((qb2 (d0+1)).map fun i=>sgN (ds.getD (1+i) 0))=base++[sgN (ds.getD (1+d0) 0)]:=by rw[ze3,qf0,O];rfl
 obtain⟨e',h1,h2,h3⟩:=AU (n:=.int (n/1853494656)) (m:=m) (fd:=fd) (x4:=some (.leaf (.lst (ds.map dI)))) (base:=base) (e0:=ds.getD (1+d0) 0) (by lia) hf 13 0 100000 (by lia) (by lia) (fun t ht=>by lia);rw[Nat.add_zero,Nat.mod_eq_of_lt he0]at h3;refine⟨n/1853494656,wd base e',some (.leaf (.lst (ds.map dI))),h2,?_⟩;have ec:=bO (bb:=ap 0) (ft:=cg) (fe:=y45) (δ:=[none,some (.leaf (.str letters)),some (.leaf (.lst (ds.map dI)))]) (f:=dI) (h:=fun i=>.str ⟨#[sgN (ds.getD (1+i) 0)]⟩) (l:=qb2 (d0+1)) fun i hi=>⟨_,rfl,rfl,C6 hl hd i (by have:=qb5.mp hi;lia)⟩
 have es:(qb2 (d0+1)).map (fun i=>Dt.str ⟨#[sgN (ds.getD (1+i) 0)]⟩)=sgD (base++[sgN (ds.getD (1+d0) 0)]):=by rw[<- Z];unfold sgD;rw[qc3];rfl
 rw[es]at ec
 have hx0:(ds.map dI)[0]?=some (.int (d0:Int)):=by rw[qb1,Y 0 (by lia),hd0];rfl
 unfold q44;walk_at "d";rw[show Dt.lst [.int 6,.int 26,.int 26,.int 26,.int 26,.int 26,.int 26]=.lst (([6,26,26,26,26,26,26]:List Nat).map dI)from rfl,e];walk_at "d";rw[hx0];walk_at "d";rw[show(1:Int)+(d0:Int)=((d0+1:Nat):Int)by lia,lb (by lia),qa2,hJ,ec,qa2,cR (by unfold sgD;simp;lia)];walk_at "d";rw[show qa0 ""=("":Str)from rfl,wJ (by simp;lia)];walk_at "d";rw[qC (show l7 26 6=true by decide +kernel)];walk_at "d";rw[show(6:Int)*26^(6:Int).toNat=1853494656 from by decide +kernel,dn (by decide) (by decide)];walk_at "d";rw[show(⟨(base++[sgN (ds.getD (1+d0) 0)]).toArray⟩:Str)=wd base (ds.getD (1+d0) 0)from rfl,h3];walk_at "d";rw[lg rfl];walk_at "d";rw[f8 (by rw[qa1];lia)];walk_at "d";simp
theorem pG(m:Nat)(hm:m<=12):∀(d O:Nat)(n:Int)(fd:List Str)(x4 Y:Option T),fd.length+d=m->d<O->fd.Nodup->∃(B:List Str)(n':Int)(y4 y5:Option T),B.Nodup/\B.length=m/\bz q25 q44 O [some (.leaf (.int n)),some (.leaf (.int m)),some (.leaf (.str letters)),some (.lst (fd.map .str)),x4,Y]=some (.nx [some (.leaf (.int n')),some (.leaf (.int m)),some (.leaf (.str letters)),some (.lst (B.map .str)),y4,y5])
 |d,0,n,fd,x4,Y,h1,h2,nd=>by lia
 |d,O+1,n,fd,x4,Y,h1,h2,nd=>by
  have Z:q25 [some (.leaf (.int n)),some (.leaf (.int m)),some (.leaf (.str letters)),some (.lst (fd.map .str)),x4,Y]=some (decide (fd.length<m)):=by
   unfold q25;walk_at "d";rw[qa1];congr 1;by_cases q:fd.length<m
   .rw[decide_eq_true q,decide_eq_true (by lia)]
   .rw[decide_eq_false q,decide_eq_false (by lia)]
  cases d with
  |zero=>refine⟨fd,n,x4,Y,nd,by lia,?_⟩;rw[decide_eq_false (by lia)]at Z;show((q25 _).bind fun b=>_)=_;rw[Z];rfl
  |succ d=>
   obtain⟨n',w,y4,hw,e⟩:=uw n (.int m) fd (by lia) x4 Y
   obtain⟨B,n2,z4,z5,ndB,hB,e2⟩:=pG m hm d O n' (fd++[w]) y4 (some (.leaf (.str w))) (by simp;lia) (by lia) (by rw[ql0];exact⟨nd,by simp,fun a ha c hc q=>hw (by rw[qb6.mp hc]at q;exact q▸ha)⟩)
   refine⟨B,n2,z4,z5,ndB,hB,?_⟩;rw[decide_eq_true (by lia)]at Z;show((q25 _).bind fun b=>_)=_;rw[Z,qa2,if_pos rfl,e,qa2];exact e2
theorem pH(n:Int)(m:Nat)(q:m<=12):∃B:List Str,q29 [.int n,.int m]=some (.lst (B.map .str))/\B.length=m/\B.Nodup:=by obtain⟨B,n',y4,Z,O,Y,e⟩:=pG m q m 100000 n [] none none (by simp) (by lia) qy4;refine⟨B,?_,Y,O⟩;unfold q29;walk_at "d";rw[show qa0 "abcdefghijklmnopqrstuvwxyz"=letters from rfl,show([]:List Dt)=([]:List Str).map .str from rfl,e];walk_at "d"
theorem pw41:jV (.int 2) (.int 41)=some (.leaf (.int 2199023255552)):=by rw[qC (by decide +kernel)];rfl
theorem qQ:wide=1099511627776:=nC
theorem xh{th:List Str}{k:Nat}(h:k<th.length):atI (th.map Dt.str) (k:Int)=some (.str (th.getD k "")):=fR Dt.str th k h ""
def ceH(th:List Str)(q:Int)(k:Nat):Hd:=⟨th.getD k "",q%1099511627776,decide (q/1099511627776%2=1)⟩
def shH(th:List Str)(q:Int)(k:Nat):Hd:=⟨th.getD (8+k) "",1+q%8,decide (q/8%2=1)⟩
theorem lw (Y x2 x3 x4 x8:Option T) (th:List Str) (hth:th.length=12):∀ (ks:List Nat) (done:List Hd) (q:Int) (x7:Option T),(∀ k∈ks,k<12)->done.length+ks.length<=100→
  ∃(hs:List Hd)(O:Int)(y7:Option T),cu (ap 7) y63 (ks.map dI) [Y,some (.leaf (.int q)),x2,x3,x4,some (.leaf (dS th)),some (.lst (done.map hdD)),x7,x8]=some (.nx [Y,some (.leaf (.int O)),x2,x3,x4,some (.leaf (dS th)),some (.lst ((done++hs).map hdD)),y7,x8])/\hs.map (·.x)=ks.map (fun k=>th.getD k "")/\∀h∈hs,0<=h.n/\h.n<1099511627776
 |[],done,q,x7,_,_=>⟨[],q,x7,by simp[cu],rfl,fun h Z=>by cases Z⟩
 |k::ks,done,q,x7,hk,hl=>by
  have hk0:=hk k (.head _);obtain⟨hs,O,y7,e,e1,e2⟩:=lw Y x2 x3 x4 x8 th hth ks (done++[ceH th q k]) (q/2199023255552) (some (.leaf (dI k))) (fun j hj=>hk j (.tail _ hj)) (by simp at hl ⊢;lia);refine⟨ceH th q k::hs,O,y7,?_,by simp only[qa5,e1];rfl,fun h Z=>?_⟩
  .rw[qa5,bC (δ1:=[Y,some (.leaf (.int q)),x2,x3,x4,some (.leaf (dS th)),some (.lst (done.map hdD)),some (.leaf (dI k)),x8]) (δ2:=[Y,some (.leaf (.int (q/2199023255552))),x2,x3,x4,some (.leaf (dS th)),some (.lst ((done++[ceH th q k]).map hdD)),some (.leaf (dI k)),x8]) rfl ?_]
   .rw[e,qk9];rfl
   .unfold y63 dI dS;walk_at "d";rw[lg rfl];walk_at "d";rw[xh (by lia)];walk_at "d";rw[qQ,dn (by decide) (by decide)];walk_at "d";rw[f8 (by rw[qa1];simp at hl;lia)];walk_at "d";rw[pw41];walk_at "d";rw[dn (by decide) (by decide)];walk_at "d";rw[qf0];rfl
  .rcases qb0.mp Z with rfl|Z
   .exact⟨ql4 _ (by decide),qi6 _ (by decide)⟩
   .exact e2 h Z
theorem ja (Y x2 x3 x4 x6:Option T) (th:List Str) (hth:th.length=12):∀ (ks:List Nat) (done:List Hd) (q:Int) (x7:Option T),(∀ k∈ks,k<4)->done.length+ks.length<=100→
  ∃(hs:List Hd)(O:Int)(y7:Option T),cu (ap 7) z64 (ks.map dI) [Y,some (.leaf (.int q)),x2,x3,x4,some (.leaf (dS th)),x6,x7,some (.lst (done.map hdD))]=some (.nx [Y,some (.leaf (.int O)),x2,x3,x4,some (.leaf (dS th)),x6,y7,some (.lst ((done++hs).map hdD))])/\hs.map (·.x)=ks.map (fun k=>th.getD (8+k) "")/\∀h∈hs,1<=h.n/\h.n<=8
 |[],done,q,x7,_,_=>⟨[],q,x7,by simp[cu],rfl,fun h Z=>by cases Z⟩
 |k::ks,done,q,x7,hk,hl=>by
  have hk0:=hk k (.head _);have m0:=ql4 q (show(8:Int)≠0 by decide);have m1:=qi6 q (show(0:Int)<8 by decide);obtain⟨hs,O,y7,e,e1,e2⟩:=ja Y x2 x3 x4 x6 th hth ks (done++[shH th q k]) (q/16) (some (.leaf (dI k))) (fun j hj=>hk j (.tail _ hj)) (by simp at hl ⊢;lia);refine⟨shH th q k::hs,O,y7,?_,by simp only[qa5,e1];rfl,fun h Z=>?_⟩
  .rw[qa5,bC (δ1:=[Y,some (.leaf (.int q)),x2,x3,x4,some (.leaf (dS th)),x6,some (.leaf (dI k)),some (.lst (done.map hdD))]) (δ2:=[Y,some (.leaf (.int (q/16))),x2,x3,x4,some (.leaf (dS th)),x6,some (.leaf (dI k)),some (.lst ((done++[shH th q k]).map hdD))]) rfl ?_]
   .rw[e,qk9];rfl
   .unfold z64 dI dS;walk_at "d";rw[lg rfl];walk_at "d";rw[show(8:Int)+(k:Int)=((8+k:Nat):Int)by lia,xh (by lia)];walk_at "d";rw[dn (by decide) (by decide)];walk_at "d";rw[f8 (by rw[qa1];simp at hl;lia)];walk_at "d";rw[dn (by decide) (by decide)];walk_at "d";rw[qf0];rfl
  .rcases qb0.mp Z with rfl|Z
   .exact⟨by show 1<=1+q%8;lia,by show 1+q%8<=8;lia⟩
   .exact e2 h Z
structure Wld(B:List Str)(cs ss:List Hd):Prop where
 b0:0<B.length
 b1:B.length<=12
 nd:B.Nodup
 c1:cs.length<=8
 s1:ss.length<=4
 hn:((cs++ss).map (·.x)).Nodup
 cn:∀h∈cs,0<=h.n/\h.n<1099511627776
 sn:∀h∈ss,1<=h.n/\h.n<=8
def wD(B:List Str)(cs ss:List Hd)(rest:Int):Dt:=.tup [dS B,.tup (cs.map hdD),.tup (ss.map hdD),.int rest]
theorem xi(ns:List Int):∃(B:List Str)(cs ss:List Hd)(rest:Int),z21 [.lst (ns.map .int)]=some (.leaf (wD B cs ss rest))/\Wld B cs ss:=by
 obtain⟨v3,e3⟩:=nV ns 3 (by lia);obtain⟨v2,e2⟩:=nV ns 2 (by lia);obtain⟨v1,e1⟩:=nV ns 1 (by lia);obtain⟨ds,ed,el,hd⟩:=fS v3 [9,5,12] (by intro z hz;simp at hz;lia) (by simp);have hl:ds.length=3:=el
 obtain⟨a,b,c,rfl⟩:∃a b c,ds=[a,b,c]:=by
  match ds,hl with
  |[a,b,c],_=>exact⟨a,b,c,rfl⟩
 have ha:a<9:=hd 0 a 9 rfl rfl;have hb:b<5:=hd 1 b 5 rfl rfl;have hc:c<12:=hd 2 c 12 rfl rfl;obtain⟨k,hk,ek⟩:=qF (ns.getD 0 0/2) (n:=3) (by decide)
 obtain⟨vt,et⟩:∃vt:Int,∃j:Nat,z16 [.lst (ns.map .int),.int j]=some (.leaf (.int vt))/\atI [Dt.int 1,Dt.int 1,Dt.int 2] (k:Int)=some (.int j):=by
  have q:k=0∨k=1∨k=2:=by lia
  rcases q with rfl|rfl|rfl
  .exact⟨v1,1,e1,rfl⟩
  .exact⟨v1,1,e1,rfl⟩
  .exact⟨v2,2,e2,rfl⟩
 obtain⟨j,et,ej⟩:=et;obtain⟨th,en,Z,ndt⟩:=pH vt 12 (by lia);obtain⟨B,eB,hB,ndB⟩:=pH v2 (1+c) (by lia);obtain⟨cs,n1,y7,ec,hc1,hc2⟩:=lw (some (.leaf (.lst (ns.map .int)))) (some (.leaf (.int a))) (some (.leaf (.int b))) (some (.leaf (.int c))) none th Z (qb2 a) [] (v3/540) none (fun k hk=>by have:=qb5.mp hk;lia) (by simp;lia);obtain⟨ss,n2,z7,es,O,hs2⟩:=ja (some (.leaf (.lst (ns.map .int)))) (some (.leaf (.int a))) (some (.leaf (.int b))) (some (.leaf (.int c))) (some (.lst (cs.map hdD))) th Z (qb2 b) [] n1 y7 (fun k hk=>by have:=qb5.mp hk;lia) (by simp;lia);have lc:cs.length=a:=by have:=congrArg qo1 hc1;simpa using this
 have ls:ss.length=b:=by have:=congrArg qo1 O;simpa using this
 refine⟨B,cs,ss,n2,?_,⟨by lia,by lia,ndB,by lia,by lia,?_,hc2,hs2⟩⟩
 .have e3':z16 [.lst (ns.map .int),.int 3]=some (.leaf (.int v3)):=e3;have e2':z16 [.lst (ns.map .int),.int 2]=some (.leaf (.int v2)):=e2;have c0':y1 [.lst (ns.map .int),.int 0]=some (.leaf (.int (ns.getD 0 0))):=g9 ns 0;have en':q29 [.int vt,.int 12]=some (.lst (th.map .str)):=en;have ed':z9 [.int v3,.lst [.int 9,.int 5,.int 12]]=some (.lst [.int a,.int b,.int c]):=ed;have ek':ns.getD 0 0/2%3=(k:Int):=ek;unfold z21;walk_at "d";rw[e3'];walk_at "d";rw[ed'];walk_at "d";unfold oR aX eL;walk_at "d";simp only[qv7,if_true];walk_at "d";rw[dn (by decide) (by decide)];walk_at "d";rw[c0'];walk_at "d";rw[dn (by decide) (by decide)];walk_at "d";rw[ek',ej];walk_at "d";rw[et];walk_at "d";rw[en'];walk_at "d";rw[lb (by lia),qa2,hJ];rw[show(Dt.lst (th.map .str))=dS th from rfl,show(([]:List Dt))=([]:List Hd).map hdD from rfl,ec];walk_at "d";rw[lb (by lia),qa2,hJ];rw[show(([]:List Dt))=([]:List Hd).map hdD from rfl,es];walk_at "d";rw[e2'];walk_at "d";rw[show(1:Int)+(c:Int)=((1+c:Nat):Int)by lia,eB];walk_at "d";rfl
 .rw[qf0,hc1,O]
  have e:(qb2 a).map (fun k=>th.getD k "")++(qb2 b).map (fun k=>th.getD (8+k) "")=((qb2 a)++(qb2 b).map (8 + ·)).map (fun k=>th.getD k ""):=by rw[qf0,qc3];rfl
  rw[e,qi9,qn7]
  have nd2:((qb2 a)++(qb2 b).map (8 + ·)).Nodup:=by
   rw[ql0];refine⟨qv6,?_,fun x Y y hy q=>?_⟩
   .rw[qi9,qn7];exact qq3 (fun {a b}(z:a≠b) q=>z (Nat.add_left_cancel q)) qv6
   .have:=qb5.mp Y;obtain⟨w,_,rfl⟩:=qc5.mp hy;lia
  refine List.Pairwise.imp_of_mem (fun {x y} Y hy (z:x≠y) q=>z ?_) nd2
  have lt:∀x,x∈(qb2 a)++(qb2 b).map (8 + ·)->x<12:=fun x Y=>by
   rcases qj4.mp Y with h|h
   .have:=qb5.mp h;lia
   .obtain⟨w,hw,rfl⟩:=qc5.mp h;have:=qb5.mp hw;lia
  have hx2:=lt x Y;have hy2:=lt y hy;rw[qa6,qa6,gQ (by lia),gQ (by lia)]at q;exact(List.getElem_inj ndt).mp (by simpa using q)
local macro_rules | `(tactic| walk_at "l") => `(tactic| simp only [zi4, zi3, Int.reduceSub, decide_true, decide_false, qs3, za4, Bool.or_self, zi5, zd5, zh2, zf5, Int.reduceToNat, ql1, qa2])
def AtB(B:List Str)(a:Atm):Prop:=∀x,a=.nm x->x∈B
theorem nW{B:List Str}{v:Nat}(Y:B.length<=100)(O:j<B.length+1):∃a:Atm,AtB B a/\((cq (.lst (B.map .str)) (.lst [.int v])).bind T.d).bind (fun x=>aq x (.int j))=some (.leaf a.d):=by
 rw[qB (small (by simp;lia))];show ∃a:Atm,AtB B a/\aq (.lst (B.map .str++[.int v])) (.int j)=some (.leaf a.d);rw[fO,bG];by_cases h:j<B.length
 .refine⟨.nm (B.getD j ""),fun x q=>?_,?_⟩
  .cases q;rw[qa6,gQ h];exact qr2 _
  .rw[qc6 (by simpa using h),qb1,qj6 h,qa6,qj6 h];rfl
 .refine⟨.vl v,fun x q=>(by cases q),?_⟩;rw[qd6 (by simpa using h)];have:j-(B.map Dt.str).length=0:=by simp;lia
  rw[this];rfl
theorem pI(xs:List (Option T)):∀(zs:List Nat)(n:Int)(O:Option T),(∀z∈zs,0<z/\z<10000000000000)->xs.length=13->∀r,∃(Y:Int)(y:Option T),cu (ap 14) z53 (zs.map dI) (some (.leaf (.int n))::(xs++O::r))=some (.nx (some (.leaf (.int Y))::(xs++y::r)))
 |[],n,O,_,_,r=>⟨n,O,rfl⟩
 |z::zs,n,O,Z,hx,r=>by
  obtain⟨h0,h1⟩:=Z z (.head _);obtain⟨Y,y,e⟩:=pI xs zs (n/z) (some (.leaf (dI z))) (fun w hw=>Z w (.tail _ hw)) hx r;refine⟨Y,y,?_⟩;rw[qa5,bC (δ1:=some (.leaf (.int n))::(xs++some (.leaf (dI z))::r)) (δ2:=some (.leaf (.int (n/z)))::(xs++some (.leaf (dI z))::r)) ?_ ?_]
  .exact e
  .unfold ap;rw[qp0,List.set_append_right _ _ (by lia)];rw[show 13-xs.length=0 by lia];rfl
  .have q:(some (T.leaf (Dt.int n))::(xs++some (T.leaf (dI z))::r))[14]?=some (some (.leaf (dI z))):=by rw[qi5,gR (by lia),show 13-xs.length=0 by lia];rfl
   unfold z53 aF toT toD d2 vB;simp only[q,qo2,qa2,T.d];unfold dI;rw[dn (by lia) (by lia)];rfl
def RwB(B:List Str)(many:Nat)(r:Rw):Prop:=(∀a∈r.atoms,AtB B a)/\∀g,(∃a,r=.iff a g)∨r=.go g->g<many
theorem C7(n:Nat):qv [.int 1,.int n]=some (.leaf (.int ((max 1 n:Nat):Int))):=by
 show some (T.leaf (Dt.int (if(1:Int)<n then(n:Int)else 1)))=_;by_cases h:1<n
 .rw[if_pos (by lia)];congr 3;lia
 .rw[if_neg (by lia)];congr 3;lia
theorem pJ:∀cs:List Hd,deeps (cs.map hdD)<=5
 |[]=>by simp[deeps]
 |h::cs=>by have:=pJ cs;simp only[qa5,deeps,hdD,hX]at this ⊢;lia
theorem jT(cs:List Hd):gEq true (.tup (cs.map hdD)) (.tup [])=some (.leaf (.bl (!cs.isEmpty))):=by
 rw[jz (b:=peqs (cs.map hdD) []) (Em (by have:=pJ cs;rw[decide_eq_true (by lia)];cases cs<;>simp[cmpbs]))]
 cases cs<;>rfl
variable{cs:List Hd}{c:Nat}
theorem sx(h:c<cs.length):∃(x:Str)(n:Int)(t:Bool),atI (cs.map hdD) (c:Int)=some (.tup [.str x,.int n,.bl t]):=by rw[bG,qb1,gQ h];exact⟨(cs[c]).x,(cs[c]).n,(cs[c]).b,rfl⟩
theorem C8(n rest:Int)(B:List Str)(cs ss:List Hd)(many:Nat)(W:Wld B cs ss)(hm:0<many)(hm2:many<=100):∃r:Rw,q53 [.int n,wD B cs ss rest,.int many]=some (.leaf r.d)/\RwB B many r:=by
 have b0:=W.b0;have b1:=W.b1;have c1:=W.c1;have s1:=W.s1;obtain⟨ds,ed,el,hd⟩:=fS n [11,B.length,max 1 cs.length,max 1 ss.length,8,many] (by intro z hz;simp at hz;lia) (by simp);have hl:ds.length=6:=el
 obtain⟨k,x,c,f,sg,g,rfl⟩:∃k x c f sg g,ds=[k,x,c,f,sg,g]:=by
  match ds,hl with
  |[k,x,c,f,sg,g],_=>exact⟨k,x,c,f,sg,g,rfl⟩
 have hk:k<11:=hd 0 _ _ rfl rfl;have hx:x<B.length:=hd 1 _ _ rfl rfl;have hc:c<max 1 cs.length:=hd 2 _ _ rfl rfl;have hf:f<max 1 ss.length:=hd 3 _ _ rfl rfl;have hs:sg<8:=hd 4 _ _ rfl rfl;have hg:g<many:=hd 5 _ _ rfl rfl;have ed':z9 [.int n,.lst [.int 11,.int B.length,.int ((max 1 cs.length:Nat):Int),.int ((max 1 ss.length:Nat):Int),.int 8,.int many]]=some (.lst [.int k,.int x,.int c,.int f,.int sg,.int g]):=ed
 obtain⟨n1,y14,e1⟩:=pI [some (.leaf (.tup [.lst (B.map .str),.tup (cs.map hdD),.tup (ss.map hdD),.int rest])),some (.leaf (.int many)),some (.leaf (.lst (B.map .str))),some (.leaf (.tup (cs.map hdD))),some (.leaf (.tup (ss.map hdD))),some (.leaf (.int rest)),some (.leaf (.lst [.int 11,.int B.length,.int ((max 1 cs.length:Nat):Int),.int ((max 1 ss.length:Nat):Int),.int 8,.int many])),some (.leaf (.int k)),some (.leaf (.int x)),some (.leaf (.int c)),some (.leaf (.int f)),some (.leaf (.int sg)),some (.leaf (.int g))] [11,B.length,max 1 cs.length,max 1 ss.length,8,many] n none (by intro z hz;simp at hz;lia) rfl [none,none,none,none]
 have e1':cu (ap 14) z53 [.int 11,.int B.length,.int ((max 1 cs.length:Nat):Int),.int ((max 1 ss.length:Nat):Int),.int 8,.int many] [some (.leaf (.int n)),some (.leaf (.tup [.lst (B.map .str),.tup (cs.map hdD),.tup (ss.map hdD),.int rest])),some (.leaf (.int many)),some (.leaf (.lst (B.map .str))),some (.leaf (.tup (cs.map hdD))),some (.leaf (.tup (ss.map hdD))),some (.leaf (.int rest)),
  some (.leaf (.lst [.int 11,.int B.length,.int ((max 1 cs.length:Nat):Int),.int ((max 1 ss.length:Nat):Int),.int 8,.int many])),some (.leaf (.int k)),some (.leaf (.int x)),some (.leaf (.int c)),some (.leaf (.int f)),some (.leaf (.int sg)),some (.leaf (.int g)),none,none,none,none,none]=some (.nx [some (.leaf (.int n1)),some (.leaf (.tup [.lst (B.map .str),.tup (cs.map hdD),.tup (ss.map hdD),.int rest])),some (.leaf (.int many)),some (.leaf (.lst (B.map .str))),some (.leaf (.tup (cs.map hdD))),some (.leaf (.tup (ss.map hdD))),some (.leaf (.int rest)),
  some (.leaf (.lst [.int 11,.int B.length,.int ((max 1 cs.length:Nat):Int),.int ((max 1 ss.length:Nat):Int),.int 8,.int many])),some (.leaf (.int k)),some (.leaf (.int x)),some (.leaf (.int c)),some (.leaf (.int f)),some (.leaf (.int sg)),some (.leaf (.int g)),y14,none,none,none,none]):=e1
 obtain⟨ds2,ed2,el2,hd2⟩:=fS n1 [B.length+1,1099511627776,B.length+1,1099511627776] (by intro z hz;simp at hz;lia) (by simp);have hl2:ds2.length=4:=el2
 obtain⟨p,q,u,v,rfl⟩:∃p q u v,ds2=[p,q,u,v]:=by
  match ds2,hl2 with
  |[p,q,u,v],_=>exact⟨p,q,u,v,rfl⟩
 have hp:p<B.length+1:=hd2 0 _ _ rfl rfl;have hu:u<B.length+1:=hd2 2 _ _ rfl rfl
 have ed2':z9 [.int n1,.lst [.int ((B.length:Int)+1),.int wide,.int ((B.length:Int)+1),.int wide]]=some (.lst [.int p,.int q,.int u,.int v]):=by rw[qQ];exact ed2
 obtain⟨one,ho,eo⟩:=nW (B:=B) (v:=q) (j:=p) (by lia) hp;obtain⟨oth,ht,et⟩:=nW (B:=B) (v:=v) (j:=u) (by lia) hu;have Z:=xh (th:=B) (k:=x) hx;clear ed el hd e1 ed2 el2 hd2;unfold q53 wD;walk_at "k";unfold fX oR aX eL;walk_at "k";simp only[qv7,if_true];walk_at "k";unfold dS;walk_at "k";simp only[qa1,C7];walk_at "k";rw[ed'];walk_at "k";simp only[qv7,if_true];walk_at "k";rw[e1'];walk_at "k";simp only[qa1];rw[ed2'];walk_at "k";rw[eo];walk_at "k";rw[et];walk_at "k"
 obtain⟨sgn,esg,_⟩:=yN (x:=qa0 "+-*<=&|^") (i:=(sg:Int)) (by decide +kernel) (by lia) (by
  have:(qa0 "+-*<=&|^").length=8:=by decide +kernel
  lia)
 have Y:∀r:Rw,r.atoms=[one]->∀a∈r.atoms,AtB B a:=fun r e a ha=>by rw[e]at ha;rw[qb6.mp ha];exact ho
 have atB2:∀r:Rw,r.atoms=[one,oth]->∀a∈r.atoms,AtB B a:=fun r e a ha=>by
  rw[e]at ha;rcases qb0.mp ha with rfl|ha
  .exact ho
  .rw[qb6.mp ha];exact ht
 have atB0:∀r:Rw,r.atoms=[]->∀a∈r.atoms,AtB B a:=fun r e a ha=>by rw[e]at ha;cases ha
 have fin:∀r:Rw,(∀g,¬ ((∃a,r=.iff a g)∨r=.go g))->∀g,(∃a,r=.iff a g)∨r=.go g->g<many:=fun r h g z=>absurd z (h g)
 have k11:k=0∨k=1∨k=2∨k=3∨k=4∨k=5∨k=6∨k=7∨k=8∨k=9∨k=10:=by lia
 rcases k11 with q0|q0|q0|q0|q0|q0|q0|q0|q0|q0|q0
 .have O:(k:Int)=0:=by lia
  rw[O]
  repeat (first|walk_at "l"|walk_at "k"|rw[Z])
  exact⟨.copy _ one,rfl,Y _ rfl,fin _ (by simp)⟩
 .have O:(k:Int)=1:=by lia
  rw[O]
  repeat (first|walk_at "l"|walk_at "k"|rw[Z]|rw[esg])
  exact⟨.op _ _ one oth,rfl,atB2 _ rfl,fin _ (by simp)⟩
 .have O:(k:Int)=2:=by lia
  rw[O];cases hcs:cs.isEmpty with
  |true=>
   repeat (first|walk_at "l"|walk_at "k"|rw[Z]|rw[jT,hcs])
   exact⟨.copy _ one,rfl,Y _ rfl,fin _ (by simp)⟩
  |false=>
   obtain⟨cx,_,_,ecx⟩:=sx (cs:=cs) (c:=c) (by cases cs<;>simp at hcs hc ⊢;lia)
   repeat (first|walk_at "l"|walk_at "k"|rw[Z]|rw[jT,hcs]|rw[ecx])
   exact⟨.load _ cx,rfl,atB0 _ rfl,fin _ (by simp)⟩
 .have O:(k:Int)=3:=by lia
  rw[O];cases hcs:cs.isEmpty with
  |true=>
   repeat (first|walk_at "l"|walk_at "k"|rw[Z]|rw[jT,hcs])
   exact⟨.copy _ one,rfl,Y _ rfl,fin _ (by simp)⟩
  |false=>
   obtain⟨cx,_,_,ecx⟩:=sx (cs:=cs) (c:=c) (by cases cs<;>simp at hcs hc ⊢;lia)
   repeat (first|walk_at "l"|walk_at "k"|rw[Z]|rw[jT,hcs]|rw[ecx])
   exact⟨.store cx one,rfl,Y _ rfl,fin _ (by simp)⟩
 .have O:(k:Int)=4:=by lia
  rw[O];cases hss:ss.isEmpty with
  |true=>
   repeat (first|walk_at "l"|walk_at "k"|rw[Z]|rw[jT,hss])
   exact⟨.copy _ one,rfl,Y _ rfl,fin _ (by simp)⟩
  |false=>
   obtain⟨fx,_,_,efx⟩:=sx (cs:=ss) (c:=f) (by cases ss<;>simp at hss hf ⊢;lia)
   repeat (first|walk_at "l"|walk_at "k"|rw[Z]|rw[jT,hss]|rw[efx])
   exact⟨.take _ fx one,rfl,Y _ rfl,fin _ (by simp)⟩
 .have O:(k:Int)=5:=by lia
  rw[O];cases hss:ss.isEmpty with
  |true=>
   repeat (first|walk_at "l"|walk_at "k"|rw[Z]|rw[jT,hss])
   exact⟨.copy _ one,rfl,Y _ rfl,fin _ (by simp)⟩
  |false=>
   obtain⟨fx,_,_,efx⟩:=sx (cs:=ss) (c:=f) (by cases ss<;>simp at hss hf ⊢;lia)
   repeat (first|walk_at "l"|walk_at "k"|rw[Z]|rw[jT,hss]|rw[efx])
   exact⟨.lay fx one oth,rfl,atB2 _ rfl,fin _ (by simp)⟩
 .have O:(k:Int)=6:=by lia
  rw[O]
  repeat (first|walk_at "l"|walk_at "k"|rw[Z])
  exact⟨.hear _,rfl,atB0 _ rfl,fin _ (by simp)⟩
 .have O:(k:Int)=7:=by lia
  rw[O]
  repeat (first|walk_at "l"|walk_at "k"|rw[Z])
  exact⟨.say one,rfl,Y _ rfl,fin _ (by simp)⟩
 .have O:(k:Int)=8:=by lia
  rw[O]
  repeat (first|walk_at "l"|walk_at "k"|rw[Z])
  exact⟨.iff one g,rfl,Y _ rfl,fun g' h=>by rcases h with ⟨a,h⟩|h<;>cases h;exact hg⟩
 .have O:(k:Int)=9:=by lia
  rw[O]
  repeat (first|walk_at "l"|walk_at "k"|rw[Z])
  exact⟨.go g,rfl,atB0 _ rfl,fun g' h=>by rcases h with ⟨a,h⟩|h<;>cases h;exact hg⟩
 .have O:(k:Int)=10:=by lia
  rw[O]
  repeat (first|walk_at "l"|walk_at "k"|rw[Z])
  exact⟨.fin one,rfl,Y _ rfl,fin _ (by simp)⟩
variable{bb:Dt->De->Option De}{fe:De->Option Dt}
theorem mL{α β:Type}{f:α->Dt}{h:β->Dt}{P:β->Prop}:∀{l:List α},(∀a∈l,∃ δ1 y,bb (f a) δ=some δ1/\fe δ1=some (h y)/\P y)->∃ys:List β,bK bb cg fe δ (l.map f)=some (ys.map h)/\ys.length=l.length/\∀y∈ys,P y
 |[],_=>⟨[],rfl,rfl,fun y hy=>by cases hy⟩
 |a::l,q=>by
  obtain⟨δ1,y,h1,h2,h3⟩:=q a qd8;obtain⟨ys,e,Y,hp⟩:=mL (l:=l) fun e Z=>q e (qd2 _ Z)
  refine⟨y::ys,?_,by simp[Y],fun z O=>?_⟩
  .rw[qa5];unfold bK;rw[h1,qa2];show((fe δ1).bind fun y=>_)=_;rw[h2,qa2,e];rfl
  .rcases qb0.mp O with rfl|O
   .exact h3
   .exact hp z O
def many(ns:List Int):Nat:=max 1 (min (ns.length-5) 31)
def xj(ns:List Int):Int:=if(31:Int)<(ns.length:Int)-5 then 31 else(ns.length:Int)-5
theorem C9(ns:List Int):yz [.int ((ns.length:Int)-5),.int (1+30)]=some (.leaf (.int (xj ns))):=rfl
theorem zF(ns:List Int):qv [.int 1,.int (xj ns)]=some (.leaf (.int (many ns))):=by show some (T.leaf (Dt.int (if(1:Int)<xj ns then xj ns else 1)))=_;congr 3;unfold many xj;split<;>split<;>lia
variable{ss:List Hd}
theorem ER{q:Dt}{ns:List Int}(O:q=.lst (ns.map .int)){B:List Str}{rest:Int}(W:Wld B cs ss)(k:Nat)(hk:k<100)(m:Nat)(hm:0<m)(Y:m<=100):∃r:Rw,z37 [some (.leaf (dI k)),some (.leaf q),some (.leaf (wD B cs ss rest)),some (.leaf (.int m))]=some r.d/\RwB B m r:=by subst O;obtain⟨v,Z⟩:=nV ns (6+k) (by lia);obtain⟨r,er,hr⟩:=C8 v rest B cs ss m W hm Y;refine⟨r,?_,hr⟩;unfold z37 dI;walk_at "d";rw[show(6:Int)+(k:Int)=((6+k:Nat):Int)by lia,Z];walk_at "d";rw[er];rfl
variable{r:Rw}
theorem RwB.outs{B:List Str}{m:Nat}(h:RwB B m r)(hi:i+1<m)(q:j∈r.outs i):j<m:=by
 cases r<;>simp[Rw.outs]at q<;>first|lia|skip
 .rcases q with rfl|rfl
  .exact h.2 _ (.inl ⟨_,rfl⟩)
  .exact hi
 .subst q;exact h.2 _ (.inr rfl)
theorem RwB.reads{B:List Str}{m:Nat}(h:RwB B m r)(O:b∈r.reads):b∈B:=by
 have O:=onces_mem.mp O
 have Y:∀l:List Atm,(∀a∈l,AtB B a)->b∈nms l->b∈B:=fun l=>by
  induction l with
  |nil=>intro _ z;cases z
  |cons a l ih=>
   intro q z;cases a with
   |nm x=>
    rcases qb0.mp z with rfl|z
    .exact q _ (.head _) _ rfl
    .exact ih (fun a Z=>q a (.tail _ Z)) z
   |vl i=>exact ih (fun a Z=>q a (.tail _ Z)) z
 exact Y _ h.1 O
structure Prg(B:List Str)(J0:List Rw):Prop where
 l0:0<J0.length
 l1:J0.length<=31
 hB:∀(i:Nat)(r:Rw)(b:Str),J0[i]?=some r->b∈r.reads->b∈B
 hO:∀(i:Nat)(r:Rw)(j:Nat),J0[i]?=some r->j∈r.outs i->j<J0.length
theorem zG(ns:List Int):∃(B:List Str)(cs ss:List Hd)(rest:Int)(J0:List Rw),z21 [.lst (ns.map .int)]=some (.leaf (wD B cs ss rest))/\y35 [.lst (ns.map .int),.int 30]=some (.leaf (pgD cs ss J0))/\Wld B cs ss/\Prg B J0:=by
 obtain⟨B,cs,ss,rest,ew,W⟩:=xi ns;have hm:0<many ns:=by unfold many;lia
 have hm2:many ns<=31:=by unfold many;lia
 have b1:=W.b1
 obtain⟨J0,er,el,hr⟩:=mL (bb:=ap 0) (fe:=z37) (δ:=[none,some (.leaf (.lst (ns.map .int))),some (.leaf (wD B cs ss rest)),some (.leaf (.int (many ns)))]) (f:=dI) (h:=Rw.d) (P:=RwB B (many ns)) (l:=qb2 (many ns-1)) fun k hk=>by have hk:=qb5.mp hk;obtain⟨r,e,h⟩:=ER (ns:=ns) (rest:=rest) rfl W k (by lia) (many ns) hm (by lia);exact⟨_,r,rfl,e,h⟩
 have el:J0.length=many ns-1:=by simpa using el
 obtain⟨ds,ed,eld,hd⟩:=fS rest [2,many ns,B.length+1,1099511627776] (by intro z hz;simp at hz;lia) (by simp);have hl:ds.length=4:=eld
 obtain⟨Z,g,bx,O,rfl⟩:∃Z g bx O,ds=[Z,g,bx,O]:=by
  match ds,hl with
  |[Z,g,bx,O],_=>exact⟨Z,g,bx,O,rfl⟩
 have hla:Z<2:=hd 0 _ _ rfl rfl;have hg:g<many ns:=hd 1 _ _ rfl rfl;have hbx:bx<B.length+1:=hd 2 _ _ rfl rfl
 have ed':z9 [.int rest,.lst [.int 2,.int (many ns),.int ((B.length:Int)+1),.int wide]]=some (.lst [.int Z,.int g,.int bx,.int O]):=by rw[qQ];exact ed
 obtain⟨at1,ha,ea⟩:=nW (B:=B) (v:=O) (j:=bx) (by lia) hbx
 obtain⟨last,elast,Y⟩:∃last:Rw,atI [Dt.tup [.str "end",at1.d],.tup [.str "go",.int g]] (Z:Int)=some last.d/\((∃a,AtB B a/\last=.fin a)∨(∃g,g<many ns/\last=.go g)):=by
  have q:Z=0∨Z=1:=by lia
  rcases q with rfl|rfl
  .exact⟨.fin at1,rfl,.inl ⟨at1,ha,rfl⟩⟩
  .exact⟨.go g,rfl,.inr ⟨g,hg,rfl⟩⟩
 have hlb:RwB B (many ns) last:=by
  rcases Y with ⟨a,h,rfl⟩|⟨g,h,rfl⟩
  .exact⟨fun b hb=>by rw[qb6.mp hb];exact h,fun g z=>by simp at z⟩
  .exact⟨fun b hb=>(by cases hb),fun g' z=>by simp at z;rw[<- z];exact h⟩
 have hlo:∀i j,j∈last.outs i->j<many ns:=fun i j hj=>by
  rcases Y with ⟨a,h,rfl⟩|⟨g,h,rfl⟩
  .cases hj
  .rw[qb6.mp hj];exact h
 refine⟨B,cs,ss,rest,J0++[last],ew,?_,W,⟨by simp,by simp;lia,fun i r b h hb=>?_,fun i r j h hj=>?_⟩⟩
 .unfold y35;walk_at "d";rw[ew];walk_at "d";simp only[qa1];rw[C9];walk_at "d";rw[zF];walk_at "d";rw[show((many ns:Nat):Int)-1=((many ns-1:Nat):Int)by lia,lb (by lia),qa2,hJ,er,qa2,cR (by rw[qa1];lia)];walk_at "d";unfold wD;walk_at "d";unfold dS;walk_at "d";simp only[qa1];rw[ed'];walk_at "d";unfold oR aX eL;walk_at "d";simp only[qv7,if_true];walk_at "d";rw[lg rfl];walk_at "d";rw[ea];walk_at "d";rw[elast];walk_at "d";rw[f8 (by rw[qa1];lia)];walk_at "d";unfold pgD dR;rw[qf0];rfl
 .by_cases hi:i<J0.length
  .rw[qc6 hi]at h;exact(hr r (qd3 h)).reads hb
  .rw[gR (by lia)]at h;have:=qd3 h;rw[qb6.mp this]at hb;exact hlb.reads hb
 .rw[qc4,qp2];by_cases hi:i<J0.length
  .rw[qc6 hi]at h;have:=(hr r (qd3 h)).outs (i:=i) (j:=j) (by lia) hj;lia
  .rw[gR (by lia)]at h;have:=qd3 h;rw[qb6.mp this]at hj;have:=hlo i j hj;lia
variable{P:Dt}
theorem lx:∀(l:List Str)(x2 x3:Option T),(∀nm∈l,y61 [P,C,.str nm]=some (.leaf .non))->∃q O,cu (ap 2) q42 (l.map .str) [some (.leaf P),some (.leaf C),x2,x3]=some (.nx [some (.leaf P),some (.leaf C),q,O])
 |[],x2,x3,_=>⟨x2,x3,rfl⟩
 |nm::l,x2,x3,h=>by
  have b:q42 [some (.leaf P),some (.leaf C),some (.leaf (.str nm)),x3]=some (.nx [some (.leaf P),some (.leaf C),some (.leaf (.str nm)),some (.leaf .non)]):=by unfold q42;rw[aW ((bD (t:=.leaf .non) (iz (ax (t:=.leaf .non) ((lu (x:=P) (y:=C) (z:=.str nm) rfl rfl rfl).trans (h nm (.head _)))))).trans rfl)];rfl
  obtain⟨q,O,e⟩:=lx l (some (.leaf (.str nm))) (some (.leaf .non)) fun n Y=>h n (.tail _ Y)
  refine⟨q,O,?_⟩;rw[qa5,bC (δ1:=[some (.leaf P),some (.leaf C),some (.leaf (.str nm)),x3]) rfl b];exact e
structure Inp(cs ss:List Hd)(J0:List Rw)(B:List Str)(ks:List (Nat×List Str)):Prop where
 P:Prg B J0
 hb:B.length<=12
 hh:cs.length+ss.length<=1000
 hk:∀k∈ks,k.1<J0.length
 hkl:ks.length<=900
 ends:∀(i:Nat)(r:Rw),J0[i]?=some r->fnB r=true->i∈ks.map (·.1)
 back:∀(i j:Nat),j∈iy J0 i->j<=i->j∈ks.map (·.1)
 puts:∀nm∈plain cs ss,∀(i:Nat)(r:Rw),J0[i]?=some r->r.puts nm=true->i∈ks.map (·.1)
section
variable{cs ss:List Hd}{J0:List Rw}{B bg:List Str}{ks:List (Nat×List Str)}
theorem xk(I:Inp cs ss J0 B ks):z38 [pgD cs ss J0,kcD (.tup (bg.map .str)) ks]=some (.leaf .non):=by
 have h1:=I.P.l1;have h2:=I.hh;have h3:=I.hkl
 have e0:fIt (toD (ao q16 (ae (vL 0) al))) [some (.leaf (pgD cs ss J0)),some (.leaf (kcD (.tup (bg.map .str)) ks)),none,none]=some ((plain cs ss).map .str):=by unfold fIt;rw[ax ((bL (x:=pgD cs ss J0) rfl).trans (pz cs ss _ (by lia)))];rfl
 obtain⟨O,Y,e⟩:=lx (P:=pgD cs ss J0) (C:=kcD (.tup (bg.map .str)) ks) (plain cs ss) none none (fun nm q=>qN (b:=.tup (bg.map .str)) (kp:=ks) (by lia) q (by lia) I.P.l0 (by lia) (fun k hk=>by obtain⟨p,hp,rfl⟩:=qc5.mp hk;exact I.hk p hp) I.P.hO (I.puts nm q))
 unfold z38;refine dRt ?_;show aw _ _ [some (.leaf (pgD cs ss J0)),some (.leaf (kcD (.tup (bg.map .str)) ks)),none,none]=_;rw[cZ,wK,e0,qa2,e];rfl
theorem pK(I:Inp cs ss J0 B ks){d:Dt}(h:q21 [pgD cs ss J0,kcD (.tup (bg.map .str)) ks]=some (.leaf d)):z31 [pgD cs ss J0,kcD (.tup (bg.map .str)) ks]=some (.leaf d):=by
 have hn:=I.P.l1;have Y:=I.hkl;have O:y40 [pgD cs ss J0,kcD (.tup (bg.map .str)) ks]=some (.leaf .non):=CP (c:=.tup (cs.map hdD)) (s:=.tup (ss.map hdD)) (b:=.tup (bg.map .str)) (J0:=J0) (ks:=ks) (by lia) I.ends;have Z:y34 [pgD cs ss J0,kcD (.tup (bg.map .str)) ks]=some (.leaf .non):=zt (c:=.tup (cs.map hdD)) (s:=.tup (ss.map hdD)) (b:=.tup (bg.map .str)) (J0:=J0) (ks:=ks) (by lia) (by lia) I.back;have es:=xk (bg:=bg) I;generalize pgD cs ss J0=P at*
 generalize kcD (.tup (bg.map .str)) ks=C at*
 have st:∀(F:List Dt->Option T)(d:Dt)(x:Option T),F [P,C]=some (.leaf d)->aF 2 (toT (toD (ao F (ae (vL 0) (ae (vL 1) al))))) [some (.leaf P),some (.leaf C),x]=some (.nx [some (.leaf P),some (.leaf C),some (.leaf d)]):=fun F d x h=>(bD (t:=.leaf d) (iz (ax (t:=.leaf d) ((cr (x:=P) (y:=C) rfl rfl).trans h)))).trans rfl
 have q:∀g:De->Option Out,sIf (tB2 (gIs false) (vB 2) (kD .non)) g bJ [some (.leaf P),some (.leaf C),some (.leaf .non)]=g [some (.leaf P),some (.leaf C),some (.leaf .non)]:=fun g=>rfl
 unfold z31;refine dRt ?_;show aw _ _ [some (.leaf P),some (.leaf C),none]=_;rw[aW (st _ _ _ O),cZ,q,st _ _ _ Z,cE,cZ,q,st _ _ _ es,cE,cZ,q,st _ _ _ h,cE];rfl
theorem ly{d:Dt}(h:z31 [P,C]=some (.leaf d))(q:rH d=bo):z40 [P,C]=some (.leaf (.bl bo)):=by subst q;unfold z40;exact dRt (eR ((bj (ax ((cr (x:=P) (y:=C) rfl rfl).trans h)) (y:=.non) rfl).trans rfl))
end
theorem zH(a n:Nat)(h:a<=n)(q:n<=1000000):qa [dI a,.int n]=some (((qb2 (n-a)).map fun k=>a+k).map dI):=by
 show qa [.int a,.int n]=_;unfold qa;have h1:gi (a:Int)=true:=by unfold gi;simp;lia
 have h2:gi (n:Int)=true:=by unfold gi;simp;lia
 dsimp only;rw[h1,h2,za5,if_pos rfl];unfold eY dI;rw[show((n:Int)-a).toNat=n-a by lia,qc3];rfl
def bkL(J0:List Rw)(q:Nat):List Nat:=((qb2 (J0.length-q)).map fun k=>q+k).filter fun k=>decide (q∈iy J0 k)
theorem Db(q:j∈iy J0 i)(h:j<=i)(hi:i<J0.length):bkL J0 j≠[]:=fun z=>by have:i∈bkL J0 j:=qd4.mpr ⟨qc5.mpr ⟨i-j,qb5.mpr (by lia),by lia⟩,decide_eq_true q⟩;rw[z]at this;cases this
theorem zI(J0:List Rw)(a:Nat):bK (ap 0) z41 (vL 0) [none,some (.leaf (dR J0)),some (.leaf (dI a))] (((qb2 (J0.length-a)).map fun k=>a+k).map dI)=some ((bkL J0 a).map dI):=
 b7 fun k hk=>⟨[some (.leaf (dI k)),some (.leaf (dR J0)),some (.leaf (dI a))],rfl,by
  obtain⟨d,O,rfl⟩:=qc5.mp hk;have O:=qb5.mp O;have q:J0[a+d]?=some (J0[a+d]'(by lia)):=by simp
  unfold z41;refine(bH (x:=dI a) rfl (ax ((cr (x:=dR J0) (y:=dI (a+d)) rfl rfl).trans (pv J0 _ _ q))) gIn_ints).trans ?_;rw[sj q];rfl,fun _=>rfl⟩
def plB(N:List Str):Rw->Bool
 |.store c _=>decide (c∈N)
 |.lay f _ _=>decide (f∈N)
 |_=>false
variable{f:De->Option Dt}{N:List Str}
theorem xl(h:f δ=some r.d)(O:vB 2 δ=some (dS N)):d4 (tB2 (bU false) (toD (d2 aq f (kD (.int 0)))) (toD (bW (ae (kD (.str "store")) (ae (kD (.str "lay")) al))))) (tB2 (bU false) (toD (d2 aq f (kD (.int 1)))) (vB 2)) δ=some (plB N r):=by
 obtain⟨kd,Z,Y⟩:∃kd:Str,aq r.d (.int 0)=some (.leaf (.str kd))/\decide (kd∈(["store","lay"]:List Str))=(match r with|.store _ _=>true|.lay _ _ _=>true|_=>false):=by cases r<;>exact⟨_,rfl,by kernel_rfl⟩
 have q:=bH (fa:=toD (d2 aq f (kD (.int 0)))) (fb:=toD (bW (ae (kD (.str "store")) (ae (kD (.str "lay")) al)))) (y:=.tup ((["store","lay"]:List Str).map .str)) (ax (t:=.leaf (.str kd)) ((bj h (y:=.int 0) rfl).trans Z)) rfl (gIn_strT (neg:=false) (l:=["store","lay"]));simp only[qe6,if_false]at q;rw[Y]at q;unfold d4;rw[q,qa2];cases r with
 |store c a=>exact bH (x:=.str c) (y:=dS N) (ax (t:=.leaf (.str c)) ((bj h (y:=.int 1) rfl).trans rfl)) O gIn_strs
 |lay f a b=>exact bH (x:=.str f) (y:=dS N) (ax (t:=.leaf (.str f)) ((bj h (y:=.int 1) rfl).trans rfl)) O gIn_strs
 |_=>rfl
def plS(q:Option T)(J0:List Rw)(N:List Str)(J5:List Nat)(x4 O:Option T):De:=[q,some (.leaf (dR J0)),some (.leaf (dS N)),some (.lst (J5.map dI)),x4,O]
theorem qR (q:Option T) {N:List Str} {J5:List Nat} {a:Nat} (Y:Option T) (O:J0[a]?=some r) (hn:J0.length<=1000) (hl:J5.length<=1000) :
  ∃y5,y41 (plS q J0 N J5 (some (.leaf (dI a))) Y)=some (.nx (plS q J0 N (J5++if(fnB r||(!decide (bkL J0 a=[])||plB N r))=true then [a]else []) (some (.leaf (dI a))) y5)):=by
 have ha:=(gX O).1;refine⟨some (.leaf (.lst ((bkL J0 a).map dI))),?_⟩
 have s1:aF 5 (toT (toD (br [none,some 1,some 4] (dq qa (ae (vL 4) (ae (toD (ao cL (ae (vB 1) al))) al))) (ap 0) z41 (vL 0)))) (plS q J0 N J5 (some (.leaf (dI a))) Y)=some (.nx (plS q J0 N J5 (some (.leaf (dI a))) (some (.leaf (.lst ((bkL J0 a).map dI)))))):=
  (bD (t:=.leaf (.lst ((bkL J0 a).map dI))) (iz (ax (c7 (src:=[none,some 1,some 4]) (ds:=((qb2 (J0.length-a)).map fun k=>a+k).map dI) (by
   unfold plS dR;walk_at "k";rw[qa1,zH a _ (by lia) (by lia)]) (zI J0 a) (by
   rw[qa1];exact qb9 (qd0 _ _) (by simp;lia)))))).trans rfl
 generalize hδ:plS q J0 N J5 (some (.leaf (dI a))) (some (.leaf (.lst ((bkL J0 a).map dI))))=δ at s1;have Z:toD (d2 aq (vB 1) (vB 4)) δ=some r.d:=ax (t:=.leaf r.d) ((bj (x:=dR J0) (y:=dI a) (by rw[<- hδ];rfl) (by rw[<- hδ];rfl)).trans (f9 O))
 obtain⟨kd,k1,k2⟩:∃kd:Str,aq r.d (.int 0)=some (.leaf (.str kd))/\decide (kd="end")=fnB r:=by cases r<;>exact⟨_,rfl,by kernel_rfl⟩
 have c2:tB2 (gEq false) (toD (d2 aq (toD (d2 aq (vB 1) (vB 4))) (kD (.int 0)))) (kD (.str "end")) δ=some (fnB r):=bH (ax (t:=.leaf (.str kd)) ((bj Z (y:=.int 0) rfl).trans k1)) (y:=.str "end") rfl (by rw[<- k2];exact qD);have c3:=bH (δ:=δ) (fa:=vB 5) (fb:=toD (bX al)) (x:=.lst ((bkL J0 a).map dI)) (y:=.lst []) (by rw[<- hδ];rfl) rfl (i9 (neg:=true));have c4:=xl (N:=N) Z (by rw[<- hδ];rfl);unfold y41;rw[cZ,s1,cE,ij,orE c2 (orE c3 c4)];simp only[if_true];cases hc:(fnB r||(!decide (bkL J0 a=[])||plB N r))with
 |true=>rw[g5,lg (l:=J5.map dI) (by rw[<- hδ];rfl),show vL 4 δ=some (dI a)by rw[<- hδ];rfl,qa2,f8 (by rw[qa1];lia),<- hδ];unfold plS;simp
 |false=>rw[g6,<- hδ];simp[bJ]
def plQ(N:List Str)(J0:List Rw)(a:Nat):Bool:=match J0[a]? with
 |some r=>fnB r||(!decide (bkL J0 a=[])||plB N r)
 |none=>false
theorem pL (O:Option T) {N:List Str} (hn:J0.length<=100):∀ (js J5:List Nat) (x4 q:Option T),(∀ j∈js,j<J0.length)->J5.length+js.length<=1000→
  ∃y4 Y,cu (ap 4) y41 (js.map dI) (plS O J0 N J5 x4 q)=some (.nx (plS O J0 N (J5++js.filter (plQ N J0)) y4 Y))
 |[],J5,x4,q,_,_=>⟨x4,q,by simp[cu]⟩
 |j::js,J5,x4,q,hj,hl=>by
  have Z:=hj j (.head _);have hr:J0[j]?=some J0[j]:=by simp[Z]
  rw[qf4]at hl;obtain⟨Y,e1⟩:=qR O (N:=N) (J5:=J5) q hr (by lia) (by lia);obtain⟨z4,z5,e2⟩:=pL O hn js (J5++if(fnB J0[j]||(!decide (bkL J0 j=[])||plB N J0[j]))=true then [j]else []) (some (.leaf (dI j))) Y (fun k hk=>hj k (.tail _ hk)) (by split<;>simp<;>lia);refine⟨z4,z5,?_⟩;rw[qa5,bC (δ1:=plS O J0 N J5 (some (.leaf (dI j))) q) rfl e1,e2]
  have:plQ N J0 j=(fnB J0[j]||(!decide (bkL J0 j=[])||plB N J0[j])):=by unfold plQ;rw[hr]
  cases hc:(fnB J0[j]||(!decide (bkL J0 j=[])||plB N J0[j]))with
  |true=>rw[qt2 (this.trans hc)];simp
  |false=>rw[qt3 (by rw[this,hc];simp)];simp
structure Plc(cs ss:List Hd)(J0:List Rw)(P:List Nat):Prop where
 nd:P.Nodup
 l:P.length<=J0.length
 lt:∀a∈P,a<J0.length
 ends:∀(i:Nat)(r:Rw),J0[i]?=some r->fnB r=true->i∈P
 back:∀(i j:Nat),j∈iy J0 i->j<=i->j∈P
 puts:∀nm∈plain cs ss,∀(i:Nat)(r:Rw),J0[i]?=some r->r.puts nm=true->i∈P
theorem ux (hh:cs.length+ss.length<=1000) (hn:J0.length<=100) (hO:∀ (i:Nat) (r:Rw) (j:Nat),J0[i]?=some r->j∈r.outs i->j<J0.length) :
  ∃P:List Nat,y38 [pgD cs ss J0]=some (.lst (P.map dI))/\Plc cs ss J0 P:=by
 have nd:((qb2 J0.length).filter (plQ (plain cs ss) J0)).Nodup:=qv6.sublist qo3;have hl:=qd0 (plQ (plain cs ss) J0) (qb2 J0.length);obtain⟨y4,y5,eg⟩:=pL (some (.leaf (pgD cs ss J0))) (N:=plain cs ss) hn (qb2 J0.length) [] none none (fun j O=>qb5.mp O) (by simp;lia);refine⟨(qb2 J0.length).filter (plQ (plain cs ss) J0),?_,nd,by simpa using hl,fun a ha=>qb5.mp (qd4.mp ha).1,fun i r Y hf=>?_,fun i j O h=>?_,fun nm hm i r Y hp=>?_⟩
 .unfold y38;refine dRt ?_;show aw _ _ [some (.leaf (pgD cs ss J0)),none,none,none,none,none]=_;rw[aW (bD (t:=.leaf (dR J0)) (iz (ax (t:=.leaf (dR J0)) ((bj (x:=pgD cs ss J0) (y:=.int 2) rfl rfl).trans rfl))))];show aw _ _ [some (.leaf (pgD cs ss J0)),some (.leaf (dR J0)),none,none,none,none]=_
  have a1:fIt (toD (d2 mB (toD (d2 aq (vB 0) (kD (.int 0)))) (toD (d2 aq (vB 0) (kD (.int 1)))))) [some (.leaf (pgD cs ss J0)),some (.leaf (dR J0)),none,none,none,none]=some ((cs++ss).map hdD):=by unfold fIt;rw[ax (t:=.leaf (.tup ((cs++ss).map hdD))) ((bj (x:=.tup (cs.map hdD)) (y:=.tup (ss.map hdD)) (ax (t:=.leaf (.tup (cs.map hdD))) ((bj (x:=pgD cs ss J0) (y:=.int 0) rfl rfl).trans rfl)) (ax (t:=.leaf (.tup (ss.map hdD))) ((bj (x:=pgD cs ss J0) (y:=.int 1) rfl rfl).trans rfl))).trans (sk hdD cs ss hh))];rfl
  have a2:=ax (c7 (src:=[none]) (bb:=ap 0) (ft:=z54) (fe:=y86) a1 (ys:=(plain cs ss).map .str) (by
   unfold plain;rw[qc3];exact b7 fun h _=>⟨[some (.leaf (hdD h))],rfl,by unfold z54 hdD;cases h.b<;>rfl,fun _=>rfl⟩) (by
   unfold plain;rw[qa1,qa1];exact qb9 (qd0 _ _) (by simp;lia)))
  rw[aW (bD (t:=.leaf (dS (plain cs ss))) (iz a2)),aW (δ':=plS (some (.leaf (pgD cs ss J0))) J0 (plain cs ss) [] none none) rfl,cZ,wK]
  have c5:dq fB (ae (toD (ao cL (ae (vB 1) al))) al) (plS (some (.leaf (pgD cs ss J0))) J0 (plain cs ss) [] none none)=some ((qb2 J0.length).map dI):=by unfold plS dR;walk_at "k";rw[qa1,nR _ (by lia)]
  rw[c5,qa2,eg,cE,qx3];rfl
 .refine qd4.mpr ⟨qb5.mpr (gX Y).1,?_⟩;unfold plQ;rw[Y];simp[hf]
 .have hi:i<J0.length:=by
   unfold iy at O;cases q:J0[i]? with
   |none=>rw[q]at O;cases O
   |some r=>exact(gX q).1
  have Z:j<J0.length:=by lia
  refine qd4.mpr ⟨qb5.mpr Z,?_⟩;unfold plQ;rw[show J0[j]?=some J0[j]by simp[Z]];simp[Db O h hi]
 .refine qd4.mpr ⟨qb5.mpr (gX Y).1,?_⟩;unfold plQ;rw[Y]
  have:plB (plain cs ss) r=true:=by
   cases r with
   |store c a=>exact decide_eq_true (by rw[of_decide_eq_true hp];exact hm)
   |lay f a b=>exact decide_eq_true (by rw[of_decide_eq_true hp];exact hm)
   |_=>cases hp
  simp[this]
variable{ds:List Dt}
theorem xm{fs:De->Option (List Dt)}(h:fs δ=some ds)(q:ds.length<=1000):toD (bX fs) δ=some (.lst ds):=ax (t:=.lst ds) (by rw[nE,h,qa2,cR (by lia)])
theorem Dc{fs:De->Option (List Dt)}(h:fs δ=some ds)(q:ds.length<=1000):toD (bW fs) δ=some (.tup ds):=ax (t:=.leaf (.tup ds)) (nS h q)
variable{fa fb:De->Option Dt}
theorem nX{l m:List Dt}(h1:fa δ=some (.lst l))(h2:fb δ=some (.lst m))(q:l.length+m.length<=1000):toD (d2 cq fa fb) δ=some (.lst (l++m)):=ax (t:=.lst (l++m)) ((bj h1 h2).trans (r9 (by lia)))
theorem nY{a b:Nat}(h1:fa δ=some (dI a))(h2:fb δ=some (dI b))(h:c=a+b):toD (d2 cq fa fb) δ=some (dI c):=ax (t:=.leaf (dI c)) ((bj h1 h2).trans (by rw[h];exact congrArg (fun z:Int=>some (T.leaf (.int z))) (Int.natCast_add a b).symm))
theorem kh{l:List Dt}(h:f δ=some (.lst l))(q:l.length<=1000):dq fB (ae (toD (ao cL (ae f al))) al) δ=some ((qb2 l.length).map dI):=by unfold dq;rw[cF (ax (t:=.leaf (dI l.length)) ((bL h).trans rfl)) (show al δ=some []from rfl),qa2];exact nR l.length (by lia)
theorem xn{x:Dt}(h:f δ=some x)(h2:itD x=some ds):fIt f δ=some ds:=by unfold fIt;rw[h];exact h2
theorem gdm{α:Type}{l:List α}{k:Nat}{d:α}(h:k<l.length):l.getD k d∈l:=by rw[qa6,gQ h];exact qr2 _
variable{G:De->Option Out}
theorem seqF{F:De->Option Dt}{t:T}{d e:Dt}{r:Option Out}(q:δ[i]?=some (some t))(O:t.d=some d)(h:F (δ.set i (some (.leaf d)))=some e)(k:G ((δ.set i (some (.leaf d))).set j (some (.leaf e)))=r):aw (p9 i (aF j (toT F))) G δ=r:=by rw[cZ];unfold p9;rw[q];dsimp only;rw[O,qa2,bD (iz h)];exact k
theorem andF{f:De->Option Bool}(h1:f δ=some a)(h2:a=true->g δ=some false):d4 f g δ=some false:=by
 unfold d4;rw[h1,qa2];cases a with
 |true=>exact h2 rfl
 |false=>rfl
theorem zJ{g:De->Option T}{t:T}(h1:f δ=some (.bl true))(h2:g δ=some t):tp f g δ=some t:=by unfold tp;rw[h1];exact h2
theorem jE{F:De->Option Dt}{d:Dt}{r:Option Out}(h:F δ=some d)(k:G (δ.set i (some (.leaf d)))=r):aw (aF i (toT F)) G δ=r:=by rw[aW (bD (iz h))];exact k
theorem lz{T:List (List Str)}{k:Nat}(h:k<T.length):aq (.lst (T.map dS)) (dI k)=some (.leaf (dS (T.getD k []))):=by unfold dI;rw[fO,fR dS T k h []];rfl
def mkK(P:List Nat)(T:List (List Str)):List (Nat×List Str):=(qb2 P.length).map fun k=>(P.getD k 0,T.getD (k+1) [])
theorem nZ(P:List Nat)(T:List (List Str))(O:T.length=P.length+1)(hp:P.length<=100):z20 [.lst (P.map dI),.lst (T.map dS)]=some (.leaf (cdD (T.getD 0 []) (mkK P T))):=by
 unfold z20;refine dRt (eR ?_);show bW _ [some (.leaf (.lst (P.map dI))),some (.leaf (.lst (T.map dS)))]=_
 have q:bK (ap 0) cg z69 [none,some (.leaf (.lst (P.map dI))),some (.leaf (.lst (T.map dS)))] ((qb2 (P.map dI).length).map dI)=some ((mkK P T).map kpD):=by
  unfold mkK;rw[qc3,qa1]
  exact bO fun k hk=>⟨[some (.leaf (dI k)),some (.leaf (.lst (P.map dI))),some (.leaf (.lst (T.map dS)))],rfl,rfl,by have hk:=qb5.mp hk;unfold z69;exact Dc (cF (ax (t:=.leaf (dI (P.getD k 0))) ((bj (x:=.lst (P.map dI)) (y:=dI k) rfl rfl).trans (iA hk))) (cF (ax (t:=.leaf (.tup ((T.getD (k+1) []).map .str))) ((bL (x:=dS (T.getD (k+1) [])) (ax (t:=.leaf _) ((bj (x:=.lst (T.map dS)) (y:=dI (k+1)) rfl (nY (a:=k) (b:=1) rfl rfl rfl)).trans (lz (by lia))))).trans rfl)) rfl)) (by simp)⟩
 exact nS (cF (ax (t:=.leaf (.tup ((T.getD 0 []).map .str))) ((bL (x:=dS (T.getD 0 [])) (ax (t:=.leaf _) ((bj (x:=.lst (T.map dS)) (y:=dI 0) rfl rfl).trans (lz (by lia))))).trans rfl)) (cF (ax (t:=.leaf (.tup ((mkK P T).map kpD))) ((bL (x:=.lst ((mkK P T).map kpD)) (ax (c7 (src:=[none,some 0,some 1]) (kh (l:=P.map dI) rfl (by simp;lia)) q (by simp[mkK];lia)))).trans rfl)) rfl)) (by simp)
theorem mM{α β:Type}{f:α->Dt}{h:β->Dt}{R:α->β->Prop}:∀{l:List α},(∀a∈l,∃ δ1 y,bb (f a) δ=some δ1/\fe δ1=some (h y)/\R a y)->∃ys:List β,bK bb cg fe δ (l.map f)=some (ys.map h)/\ys.length=l.length/\∀(i:Nat)(a:α)(y:β),l[i]?=some a->ys[i]?=some y->R a y
 |[],_=>⟨[],rfl,rfl,fun i a y h=>by simp at h⟩
 |a::l,q=>by
  obtain⟨δ1,y,h1,h2,h3⟩:=q a qd8;obtain⟨ys,e,Z,hp⟩:=mM (l:=l) fun e Y=>q e (qd2 _ Y)
  refine⟨y::ys,?_,by simp[Z],fun i b z hi O=>?_⟩
  .rw[qa5];unfold bK;rw[h1,qa2];show((fe δ1).bind fun y=>_)=_;rw[h2,qa2,e];rfl
  .cases i with
   |zero=>cases hi;cases O;exact h3
   |succ i=>exact hp i b z hi O
theorem zK(l:List Str)(n:Int)(B:List Str)(hl:l.length<=12)(hB:B.length<=12):∃m:List Str,y46 [dS l,.int n,.lst (B.map .str)]=some (.lst (m.map .str))/\m.length<=100/\∀b∈l,b∈m:=by
 have hf:=qd0 (fun k:Nat=>decide (n/((k+1:Nat):Int)%3=0)) (qb2 B.length)
 have O:bK (ap 0) q74 q72 [none,some (.leaf (.int n)),some (.leaf (.lst (B.map .str)))] ((qb2 (B.map Dt.str).length).map dI)=some ((((qb2 B.length).filter fun k=>decide (n/((k+1:Nat):Int)%3=0)).map fun k=>B.getD k "").map .str):=by
  rw[qc3,qa1]
  exact b7 fun k hk=>⟨[some (.leaf (dI k)),some (.leaf (.int n)),some (.leaf (.lst (B.map .str)))],rfl,by
   have hk:=qb5.mp hk;unfold q74;exact bH (x:=.int (n/((k+1:Nat):Int)%3)) (y:=.int 0) (ax (t:=.leaf (.int (n/((k+1:Nat):Int)%3))) ((bj (x:=.int (n/((k+1:Nat):Int))) (y:=.int 3) (ax (t:=.leaf (.int (n/((k+1:Nat):Int)))) ((bj (x:=.int n) (y:=dI (k+1)) rfl (nY (a:=k) (b:=1) rfl rfl rfl)).trans (dn (by lia) (by lia)))) rfl).trans (jy (by decide)))) rfl rfl,fun _=>by
   have hk:=qb5.mp hk;unfold q72
   exact ax (t:=.leaf (.str (B.getD k ""))) ((bj (x:=.lst (B.map .str)) (y:=dI k) rfl rfl).trans (by unfold dI;rw[fO,fR Dt.str B k hk ""];rfl))⟩
 obtain⟨z,ez,hz⟩:∃z:List Str,gSl (.lst [.str "zz"]) none (some (n%2))=some (.lst (z.map .str))/\z.length<=1:=by
  refine⟨((["zz"]:List Str).drop (HT.sIx 1 0 none)).take (HT.sIx 1 1 (some (n%2))-HT.sIx 1 0 none),?_,?_⟩
  .show some (T.lst (qc ((["zz"]:List Str).map Dt.str) none (some (n%2))))=_;unfold qc;rw[List.map_take,List.map_drop];rfl
  .rw[qv0,zb4];simp;lia
 have Z:(((qb2 B.length).filter fun k=>decide (n/((k+1:Nat):Int)%3=0)).map fun k=>B.getD k "").length<=12:=by rw[qa1];rw[qn5]at hf;lia
 generalize ((qb2 B.length).filter fun k=>decide (n/((k+1:Nat):Int)%3=0)).map (fun k=>B.getD k "")=q at O Z
 refine⟨fw (dZ (l++q++z)),?_,by have:=jv (l++q++z);rw[(du _).length_eq];rw[qc4,qc4]at this;lia,fun b Y=>sortS_mem.mpr (onces_mem.mpr (qh0 _ (qh0 _ Y)))⟩
 unfold y46;refine dRt ?_;show aw _ _ [some (.leaf (dS l)),some (.leaf (.int n)),some (.leaf (.lst (B.map .str))),none]=_;refine jE (d:=.lst (((l++q++z)).map .str)) ?_ ?_
 .rw[qf0,qf0];refine nX (nX (l:=l.map .str) rfl (ax (c7 (src:=[none,some 1,some 2]) (kh (l:=B.map .str) rfl (by simp;lia)) O (by simp;lia))) (by simp;lia)) (ax (t:=.lst (z.map .str)) ?_) (by simp;lia);unfold vSl l9 iR;rw[xm (ds:=[.str "zz"]) rfl (by simp),ax (t:=.leaf (.int (n%2))) ((bj (x:=.int n) (y:=.int 2) rfl rfl).trans (jy (by decide)))];exact ez
 .exact eR ((bL (x:=.lst ((l++q++z).map .str)) rfl).trans (jR (by simp;lia)))
section
variable{cs ss:List Hd}{J0:List Rw}{B:List Str}{P:List Nat}{T J3:List (List Str)}
theorem xp{P:List Nat}:(qb2 P.length).map (fun k=>P.getD k 0)=P:=by
 apply qu2;intro i;rw[qb1];by_cases h:i<P.length
 .simp[h]
 .simp[h]
theorem jb:(mkK P T).map (·.1)=P:=by unfold mkK;rw[qc3];exact xp
theorem Df(p:Prg B J0)(O:B.length<=12)(q:cs.length+ss.length<=1000)(Q:Plc cs ss J0 P):Inp cs ss J0 B (mkK P T):=by
 have h1:=p.l1;have h2:=Q.l;refine⟨p,O,q,fun k hk=>Q.lt _ ?_,by unfold mkK;simp;lia,?_,?_,?_⟩
 .rw[<- jb (P:=P) (T:=T)];exact qc5.mpr ⟨k,hk,rfl⟩
 .rw[jb];exact Q.ends
 .rw[jb];exact Q.back
 .rw[jb];exact Q.puts
theorem pM{q:Nat×List Str×Bool}(h:q∈lL (T.getD 0 []) (mkK P T)):∃i,i<P.length+1/\q=((0::P).getD i 0,T.getD i [],decide (i=0)):=by
 rcases qb0.mp h with rfl|h
 .exact⟨0,by lia,rfl⟩
 .obtain⟨k,hk,rfl⟩:=qc5.mp h;obtain⟨i,hi,rfl⟩:=qc5.mp hk;exact⟨i+1,by have:=qb5.mp hi;lia,by simp⟩
theorem xq(h:i<P.length+1):((0::P).getD i 0,T.getD i [],decide (i=0))∈lL (T.getD 0 []) (mkK P T):=by
 cases i with
 |zero=>exact .head _
 |succ i=>exact .tail _ (qc5.mpr ⟨(P.getD i 0,T.getD (i+1) []),qc5.mpr ⟨i,qb5.mpr (by lia),rfl⟩,by simp⟩)
theorem lA(I:Inp cs ss J0 B (mkK P T))(F:Fnd J0 B J3)(Y:z28 [pgD cs ss J0]=some (.lst (J3.map dS)))(h:∀i,i<P.length+1->∀b∈J3.getD ((0::P).getD i 0) [],b∈T.getD i []):z31 [pgD cs ss J0,cdD (T.getD 0 []) (mkK P T)]=some (.leaf .non):=by
 have h1:=I.P.l1;rcases sw (c:=.tup (cs.map hdD)) (s:=.tup (ss.map hdD)) (bg:=T.getD 0 []) F Y (by lia) I.P.l0 I.P.hO I.hk I.hkl with ⟨e,_⟩|⟨q,Z,b,W,⟨l,hl,O⟩,L,e⟩
 .exact pK I e
 .obtain⟨i,hi,rfl⟩:=pM Z;exact absurd (h i hi b (by rw[qa6,hl];exact O)) L.1
theorem uy (I:Inp cs ss J0 B (mkK P T)) (nd:P.Nodup) (F:Fnd J0 B J3) (en:z28 [pgD cs ss J0]=some (.lst (J3.map dS))) {k:Nat} {x:Str} (hk:k<P.length+1) (hx:x∈J3.getD ((0::P).getD k 0) []) (O:x∉T.getD k []) (h:∀ i,i<P.length+1->∀ b∈J3.getD ((0::P).getD i 0) [],b∈T.getD i []∨(i=k/\b=x)) :
  ∃W:List Nat,z31 [pgD cs ss J0,cdD (T.getD 0 []) (mkK P T)]=some (.leaf (lsD x W (decide (k=0))))/\z25 [dR J0,cdD (T.getD 0 []) (mkK P T),lsD x W (decide (k=0))]=some (.leaf (.bl true))/\0<W.length/\W.getD 0 0=(0::P).getD k 0:=by
 have h1:=I.P.l1;rcases sw (c:=.tup (cs.map hdD)) (s:=.tup (ss.map hdD)) (bg:=T.getD 0 []) F en (by lia) I.P.l0 I.P.hO I.hk I.hkl with ⟨e,g⟩|⟨q,hq,b,W,⟨l,hl,hb⟩,L,e⟩
 .exfalso
  have Y:(0::P).getD k 0<J0.length:=by
   cases k with
   |zero=>exact I.P.l0
   |succ k=>refine I.hk (P.getD k 0,T.getD (k+1) []) (qc5.mpr ⟨k,qb5.mpr (by lia),rfl⟩)
  have Z:∀j,j<J0.length->J3[j]?=some (J3.getD j []):=fun j hj=>by
   have:j<J3.length:=by rw[F.len];exact hj
   simp[this]
  exact O (g _ (xq hk) _ (Z _ Y) x hx)
 .obtain⟨i,hi,rfl⟩:=pM hq;have hb2:=(h i hi b (by rw[qa6,hl];exact hb)).resolve_left L.1;obtain⟨rfl,rfl⟩:=hb2;refine⟨W,pK I e,qP (by lia) I.hkl (by rw[jb];exact nd) hq L,?_,L.way.hd⟩;obtain⟨n,e1,_⟩:=L.way.len;lia
end
theorem xr{i:Int}{n:Nat}(h1:fa δ=some (.int i))(h2:fb δ=some (dI n))(q:0<n):∃k,k<n/\toD (d2 fC fa fb) δ=some (dI k):=by have O:=ql4 i (show(n:Int)≠0 by lia);have Y:=qi6 i (show(0:Int)<n by lia);refine⟨(i%(n:Int)).toNat,by lia,ax (t:=.leaf (dI _)) ((bj h1 h2).trans ((jy (by lia)).trans ?_))⟩;unfold dI;rw[show((i%(n:Int)).toNat:Int)=i%(n:Int)by lia]
noncomputable def lwS(ns:List Int)(cs ss:List Hd)(J0:List Rw)(B:List Str)(P:List Nat)(J3 D:List (List Str))(n7:Int)(M:List (List Str))(S:List Nat)(O Y q Z x14:Option T):De:=[some (.leaf (.lst (ns.map .int))),some (.leaf (pgD cs ss J0)),some (.leaf (dS B)),some (.leaf (.lst (P.map dI))),some (.leaf (dF J3)),some (.leaf (.lst (D.map dS))),some (.leaf (cdD (D.getD 0 []) (mkK P D))),some (.leaf (.int n7)),some (.leaf (.lst (M.map dS))),some (.leaf (.lst (S.map dI))),O,Y,q,Z,x14]
theorem main(ns:List Int)(h:ns.length<=63):r8 [.lst (ns.map .int)]=some (.leaf (.bl true)):=by
 obtain⟨B,cs,ss,rest,J0,ew,ep,W,p⟩:=zG ns;have w1:=W.c1;have w2:=W.s1;have w3:=W.b1;have l1:=p.l1;obtain⟨P,epl,Q⟩:=ux (cs:=cs) (ss:=ss) (by lia) (by lia) p.hO;have ql:=Q.l;obtain⟨J3,en,F,_⟩:=qL (c:=.tup (cs.map hdD)) (s:=.tup (ss.map hdD)) p.hB p.hO w3 (by lia);have c4:y1 [.lst (ns.map .int),.int 4]=some (.leaf (.int (ns.getD 4 0))):=g9 ns 4;have c5:y1 [.lst (ns.map .int),.int 5]=some (.leaf (.int (ns.getD 5 0))):=g9 ns 5;generalize ns.getD 4 0=n4 at c4;generalize ns.getD 5 0=n5 at c5
 have fg:∀j,j<J0.length->J3[j]?=some (J3.getD j [])/\(J3.getD j []).length<=12:=fun j hj=>by
  have:j<J3.length:=by rw[F.len];exact hj
  have e:J3[j]?=some (J3.getD j []):=by simp[this]
  exact⟨e,qb9 (F.short e) w3⟩
 have p0:∀j∈0::P,j<J0.length:=fun j hj=>by
  rcases qb0.mp hj with rfl|hj
  .exact p.l0
  .exact Q.lt j hj
 obtain⟨D,hD⟩:∃D:List (List Str),D=(0::P).map fun j=>J3.getD j []:=⟨_,rfl⟩
 have lD:D.length=P.length+1:=by rw[hD];simp
 have gD:∀i,i<P.length+1->D.getD i []=J3.getD ((0::P).getD i 0) []:=fun i hi=>by rw[hD,qa6,qb1,qa6 (l:=0::P),qj6 (by simpa using hi)];rfl
 have sD:∀i,i<P.length+1->(D.getD i []).length<=12:=fun i hi=>by rw[gD i hi];exact(fg _ (p0 _ (gdm (by simpa using hi)))).2
 have inp:∀T,Inp cs ss J0 B (mkK P T):=fun T=>Df p w3 (by lia) Q
 have eD:=lA (inp D) F en fun i hi b hb=>by rw[gD i hi];exact hb
 unfold r8;refine dRt ?_;show aw _ _ (some (.leaf (.lst (ns.map .int)))::qg3 14 none)=_;refine jE (d:=pgD cs ss J0) (ax (t:=.leaf _) ((cr (x:=.lst (ns.map .int)) (y:=.int 30) rfl rfl).trans ep)) ?_;refine jE (d:=dS B) (ax (t:=.leaf (dS B)) ((bj (x:=wD B cs ss rest) (y:=.int 0) (ax (t:=.leaf _) ((bL (x:=.lst (ns.map .int)) rfl).trans ew)) rfl).trans rfl)) ?_;refine jE (d:=.lst (P.map dI)) (ax (t:=.lst (P.map dI)) ((bL (x:=pgD cs ss J0) rfl).trans epl)) ?_;refine jE (d:=dF J3) (ax (t:=.lst (J3.map dS)) ((bL (x:=pgD cs ss J0) rfl).trans en)) ?_
 have e5:bK (ap 0) cg B5 [none,some (.leaf (dF J3))] ((0::P).map dI)=some (D.map dS):=by
  rw[hD,qc3]
  exact bO fun j hj=>⟨[some (.leaf (dI j)),some (.leaf (dF J3))],rfl,rfl,by unfold B5;exact ax (t:=.lst ((J3.getD j []).map .str)) ((bL (x:=dS (J3.getD j [])) (ax (t:=.leaf (dS (J3.getD j []))) ((bj (x:=dF J3) (y:=dI j) rfl rfl).trans (lz (by rw[F.len];exact p0 j hj))))).trans rfl)⟩
 refine jE (d:=.lst (D.map dS)) (ax (c7 (src:=[none,some 4]) (ds:=(0::P).map dI) (xn (nX (l:=[dI 0]) (m:=P.map dI) (xm (cF rfl rfl) (by simp)) rfl (by simp;lia)) rfl) e5 (by simp;lia))) ?_;refine jE (d:=cdD (D.getD 0 []) (mkK P D)) (ax (t:=.leaf _) ((cr (x:=.lst (P.map dI)) (y:=.lst (D.map dS)) rfl rfl).trans (nZ P D lD (by lia)))) ?_;have t6:∀ δ:De,vL 1 δ=some (pgD cs ss J0)->vL 6 δ=some (cdD (D.getD 0 []) (mkK P D))->fOr (tB2 (gIs true) (toD (ao z31 (ae (vL 1) (ae (vL 6) al)))) (kD .non)) (tB2 (nj true) (toD (ao z40 (ae (vL 1) (ae (vL 6) al)))) (kD (.bl true))) δ=some false:=fun δ h1 h6=>orE (a:=false) (b:=false) (bH (ax (t:=.leaf .non) ((cr h1 h6).trans eD)) (y:=.non) rfl rfl) (bH (ax (t:=.leaf (.bl true)) ((cr h1 h6).trans (ly eD rfl))) (y:=.bl true) rfl rfl)
 rw[lv (t6 _ rfl rfl)];obtain⟨n7,h7⟩:∃n7,n4*69621%2147483629=n7:=⟨_,rfl⟩;refine jE (d:=.int n7) (ax (t:=.leaf _) ((bj (x:=.int (n4*69621)) (y:=.int 2147483629) (ax (t:=.leaf (.int (n4*69621))) ((bj (x:=.int n4) (y:=.int 69621) (ax (t:=.leaf _) ((cr (x:=.lst (ns.map .int)) (y:=.int 4) rfl rfl).trans c4)) rfl).trans (by walk_at "d"))) rfl).trans ((jy (by decide)).trans (by rw[h7])))) ?_
 obtain⟨M,eM,lM,rM⟩:=mM (bb:=ap 0) (fe:=B6) (δ:=[none,some (.leaf (dS B)),some (.leaf (.lst (D.map dS))),some (.leaf (.int n7))]) (f:=dI) (h:=dS) (R:=fun k m=>m.length<=100/\∀b∈D.getD k [],b∈m) (l:=qb2 (D.map dS).length) fun k hk=>by
  have hk:k<P.length+1:=by have:=qb5.mp hk;simpa[lD] using this
  obtain⟨m,em,hm⟩:=zK (D.getD k []) (n7/((k+2:Nat):Int)) B (sD k hk) w3;refine⟨[some (.leaf (dI k)),some (.leaf (dS B)),some (.leaf (.lst (D.map dS))),some (.leaf (.int n7))],m,rfl,?_,hm⟩;unfold B6;exact ax (t:=.lst (m.map .str)) ((lu (x:=dS (D.getD k [])) (y:=.int (n7/((k+2:Nat):Int))) (z:=.lst (B.map .str)) (ax (t:=.leaf _) ((bj (x:=.lst (D.map dS)) (y:=dI k) rfl rfl).trans (lz (by lia)))) (ax (t:=.leaf (.int (n7/((k+2:Nat):Int)))) ((bj (x:=.int n7) (y:=dI (k+2)) rfl (nY (a:=k) (b:=2) rfl rfl rfl)).trans (dn (by lia) (by lia)))) rfl).trans em)
 have lM:M.length=P.length+1:=by rw[lM];simp[lD]
 have gM:∀i,i<P.length+1->∀b∈J3.getD ((0::P).getD i 0) [],b∈M.getD i []:=fun i hi b hb=>by refine(rM i i (M.getD i []) (qr5 (by simpa[lD] using hi)) (by simp[lM,hi])).2 b ?_;rw[gD i hi];exact hb
 have sM:∀i,i<P.length+1->(M.getD i []).length<=100:=fun i hi=>(rM i i (M.getD i []) (qr5 (by simpa[lD] using hi)) (by simp[lM,hi])).1
 have eMf:=lA (inp M) F en gM;refine jE (d:=.lst (M.map dS)) (ax (c7 (src:=[none,some 2,some 5,some 7]) (kh (l:=D.map dS) rfl (by simp;lia)) eM (by simp;lia))) ?_;have eC:=nZ P M lM (by lia);have t8:∀ δ:De,vL 1 δ=some (pgD cs ss J0)->vL 3 δ=some (.lst (P.map dI))->vL 8 δ=some (.lst (M.map dS))->toD (ao z40 (ae (vL 1) (ae (toD (ao z20 (ae (vL 3) (ae (vL 8) al)))) al))) δ=some (.bl true):=fun δ h1 h3 h8=>ax (t:=.leaf (.bl true)) ((cr h1 (ax (t:=.leaf _) ((cr h3 h8).trans eC))).trans (ly eMf rfl))
 rw[lv (bH (t8 _ rfl rfl rfl) (y:=.bl true) rfl rfl)];obtain⟨S,hS⟩:∃S:List Nat,S=(qb2 (D.map dS).length).filter fun k=>!decide (D.getD k []=[]):=⟨_,rfl⟩
 have e9:bK (ap 0) B7 (vL 0) [none,some (.leaf (.lst (D.map dS)))] ((qb2 (D.map dS).length).map dI)=some (S.map dI):=by
  rw[hS]
  exact b7 fun k hk=>⟨[some (.leaf (dI k)),some (.leaf (.lst (D.map dS)))],rfl,by
   have hk:k<D.length:=by simpa using qb5.mp hk
   unfold B7;exact bH (x:=dS (D.getD k [])) (y:=.lst (([]:List Str).map .str)) (ax (t:=.leaf _) ((bj (x:=.lst (D.map dS)) (y:=dI k) rfl rfl).trans (lz hk))) rfl (pf (neg:=true)),fun _=>rfl⟩
 have lSl:S.length<=100:=by rw[hS];exact qb9 (qd0 _ _) (by simp[lD];lia)
 refine jE (d:=.lst (S.map dI)) (ax (c7 (src:=[none,some 5]) (kh (l:=D.map dS) rfl (by simp;lia)) e9 (by simp;lia))) ?_;show aw _ _ (lwS ns cs ss J0 B P J3 D n7 M S none none none none none)=_;by_cases z:S=[]
 .exact EI (bH (x:=.lst (S.map dI)) (y:=.lst []) rfl rfl ((i9 (neg:=false)).trans (by rw[z];rfl))) rfl
 rw[lv (bH (x:=.lst (S.map dI)) (y:=.lst []) (b:=false) rfl rfl ((i9 (neg:=false)).trans (by simp[z])))];have cell5:∀ δ:De,vL 0 δ=some (.lst (ns.map .int))->toD (ao y1 (ae (vL 0) (ae (kD (.int 5)) al))) δ=some (.int n5):=fun δ h0=>ax (t:=.leaf (.int n5)) ((cr h0 (y:=.int 5) rfl).trans c5)
 obtain⟨j,hj,ej⟩:=xr (fa:=toD (ao y1 (ae (vL 0) (ae (kD (.int 5)) al)))) (fb:=toD (ao cL (ae (vB 9) al))) (δ:=lwS ns cs ss J0 B P J3 D n7 M S none none none none none) (n:=S.length) (cell5 _ rfl) (ax (t:=.leaf (dI S.length)) ((bL (x:=.lst (S.map dI)) rfl).trans (by rw[<- qa1 (f:=dI)];rfl))) (List.length_pos_iff.mpr z);obtain⟨k,hk⟩:∃k,k=S.getD j 0:=⟨_,rfl⟩
 have kS:k∈S:=by rw[hk];exact gdm hj
 have kk:k<P.length+1/\D.getD k []≠[]:=by rw[hS]at kS;obtain⟨a,b⟩:=qd4.mp kS;exact⟨by have:=qb5.mp a;simpa[lD] using this,by simpa using b⟩
 refine jE (d:=dI k) (ax (t:=.leaf (dI k)) ((bj (x:=.lst (S.map dI)) rfl ej).trans (by rw[hk];exact iA hj))) ?_;show aw _ _ (lwS ns cs ss J0 B P J3 D n7 M S (some (.leaf (dI k))) none none none none)=_;have e55:toD (d2 aq (vB 5) (vB 10)) (lwS ns cs ss J0 B P J3 D n7 M S (some (.leaf (dI k))) none none none none)=some (dS (D.getD k [])):=ax (t:=.leaf _) ((bj (x:=.lst (D.map dS)) (y:=dI k) rfl rfl).trans (lz (by lia)));obtain⟨j2,hj2,ej2⟩:=xr (fa:=toD (d2 ei (toD (ao y1 (ae (vL 0) (ae (kD (.int 5)) al)))) (kD (.int 60)))) (fb:=toD (ao cL (ae (toD (d2 aq (vB 5) (vB 10))) al))) (δ:=lwS ns cs ss J0 B P J3 D n7 M S (some (.leaf (dI k))) none none none none) (i:=n5/60) (n:=(D.getD k []).length) (ax (t:=.leaf (.int (n5/60))) ((bj (x:=.int n5) (y:=.int 60) (cell5 _ rfl) rfl).trans (dn (by decide) (by decide)))) (ax (t:=.leaf (dI (D.getD k []).length)) ((bL e55).trans (by rw[<- qa1 (f:=Dt.str)];rfl))) (List.length_pos_iff.mpr kk.2);obtain⟨x,hx⟩:∃x,x=(D.getD k []).getD j2 "":=⟨_,rfl⟩
 have xD:x∈D.getD k []:=by rw[hx];exact gdm hj2
 refine jE (d:=.str x) (ax (t:=.leaf (.str x)) ((bj e55 ej2).trans (by unfold dS dI;rw[fO,fR Dt.str _ j2 hj2 "",hx];rfl))) ?_
 show aw _ _ (lwS ns cs ss J0 B P J3 D n7 M S (some (.leaf (dI k))) (some (.leaf (.str x))) none none none)=_;obtain⟨T2,hT2⟩:∃T2:List (List Str),T2=M.set k ((M.getD k []).filter fun b=>!decide (b=x)):=⟨_,rfl⟩;have lT2:T2.length=P.length+1:=by rw[hT2];simpa using lM
 have gT2:∀i,i<P.length+1->T2.getD i []=if i=k then(M.getD k []).filter (fun b=>!decide (b=x))else M.getD i []:=fun i hi=>by
  rw[hT2,qa6,List.getElem?_set];by_cases q:k=i
  .subst q;simp[lM,hi]
  .rw[if_neg q,if_neg (fun w=>q w.symm),qa6]
 obtain⟨Wy,ef,el,hW0,hW⟩:=uy (x:=x) (inp T2) Q.nd F en kk.1 (by rw[<- gD k kk.1];exact xD) (by rw[gT2 k kk.1,if_pos rfl];simp) (fun i hi b hb=>by
  have hm:=gM i hi b hb;rw[gT2 i hi];by_cases q:i=k
  .rw[if_pos q];by_cases q2:b=x
   .exact .inr ⟨q,q2⟩
   .exact .inl (qd4.mpr ⟨by rw[<- q];exact hm,by simpa using q2⟩)
  .rw[if_neg q];exact .inl hm)
 rw[aW (δ':=lwS ns cs ss J0 B P J3 D n7 M S (some (.leaf (dI k))) (some (.leaf (.str x))) (some (.lst (M.map dS))) none none) ((bD (t:=.lst (M.map dS)) ((bL (F:=oI) (x:=.lst (M.map dS)) rfl).trans rfl)).trans rfl)]
 have e12:bK (ap 0) B8 (vL 0) [none,some (.leaf (.str x))] ((M.getD k []).map .str)=some (((M.getD k []).filter fun b=>!decide (b=x)).map .str):=b7 fun b _=>⟨[some (.leaf (.str b)),some (.leaf (.str x))],rfl,by unfold B8;exact bH (x:=.str b) (y:=.str x) rfl rfl (jz (neg:=true) (b:=decide (b=x)) rfl),fun _=>rfl⟩
 rw[aW (AM (l:=M.map dS) (k:=k) (d:=dS ((M.getD k []).filter fun b=>!decide (b=x))) rfl rfl (ax (t:=.lst (((M.getD k []).filter fun b=>!decide (b=x)).map .str)) (c7 (src:=[none,some 11]) (xn (ax (t:=.leaf (dS (M.getD k []))) ((bj (x:=.lst (M.map dS)) (y:=dI k) rfl rfl).trans (lz (by lia)))) rfl) e12 (by rw[qa1];exact qb9 (qd0 _ _) (by have:=sM k kk.1;lia)))) (by rw[qa1];lia))]
 rw[<- List.map_set,<- hT2];show aw _ _ (lwS ns cs ss J0 B P J3 D n7 M S (some (.leaf (dI k))) (some (.leaf (.str x))) (some (.lst (T2.map dS))) none none)=_;have eT2:=nZ P T2 lT2 (by lia);have eh:=ly ef (bo:=false) rfl;refine seqF (t:=.lst (T2.map dS)) (d:=.lst (T2.map dS)) (e:=cdD (T2.getD 0 []) (mkK P T2)) rfl rfl (ax (t:=.leaf _) ((cr (x:=.lst (P.map dI)) (y:=.lst (T2.map dS)) rfl rfl).trans eT2)) ?_;show aw _ _ (lwS ns cs ss J0 B P J3 D n7 M S (some (.leaf (dI k))) (some (.leaf (.str x))) (some (.leaf (.lst (T2.map dS)))) (some (.leaf (cdD (T2.getD 0 []) (mkK P T2)))) none)=_;refine jE (d:=lsD x Wy (decide (k=0))) (ax (t:=.leaf _) ((cr (x:=pgD cs ss J0) (y:=cdD (T2.getD 0 []) (mkK P T2)) rfl rfl).trans ef)) ?_;show aw _ _ (lwS ns cs ss J0 B P J3 D n7 M S (some (.leaf (dI k))) (some (.leaf (.str x))) (some (.leaf (.lst (T2.map dS)))) (some (.leaf (cdD (T2.getD 0 []) (mkK P T2)))) (some (.leaf (lsD x Wy (decide (k=0))))))=_
 rw[lv (orE (a:=false) (b:=false) rfl (orE (a:=false) (b:=false) (bH (x:=.str "lost") (y:=.str "lost") rfl rfl (by kernel_rfl)) (by unfold hZ dL;rw[ax (t:=.leaf (.bl true)) ((lu (x:=dR J0) (y:=cdD (T2.getD 0 []) (mkK P T2)) (z:=lsD x Wy (decide (k=0))) (ax (t:=.leaf (dR J0)) ((bj (x:=pgD cs ss J0) (y:=.int 2) rfl rfl).trans rfl)) rfl rfl).trans el)];rfl)))]
 rw[lv (orE (a:=false) (b:=false) (bH (x:=.str x) (y:=.str x) rfl rfl ((jz (neg:=true) (b:=decide (x=x)) rfl).trans (by simp))) (orE (a:=false) (b:=false) (bH (x:=.bl (decide (k=0))) (y:=.bl (decide (k=0))) rfl (ax (t:=.leaf (.bl (decide (k=0)))) ((bj (x:=dI k) (y:=.int 0) rfl rfl).trans (by show some (T.leaf (.bl (decide ((k:Int)=0))))=_;rw[show decide ((k:Int)=0)=decide (k=0)from decide_eq_decide.mpr (by lia)]))) (by cases decide (k=0)<;>rfl)) ?_))]
 .refine eR (zJ (ax (t:=.leaf (.bl true)) ((bj (x:=.bl false) (y:=.bl false) (ax (t:=.leaf (.bl false)) ((cr (x:=pgD cs ss J0) (y:=cdD (T2.getD 0 []) (mkK P T2)) rfl rfl).trans eh)) rfl).trans rfl)) ((bj (y:=.bl true) (t8 _ ?_ ?_ ?_) rfl).trans rfl))
  .rfl
  .rfl
  .rfl
 .refine andF (a:=decide ((0:Int)<k)) rfl fun hk0=>?_
  have hk0:=of_decide_eq_true hk0;obtain⟨k,rfl⟩:∃q,k=q+1:=⟨k-1,by lia⟩
  .have hk3:k<P.length:=by lia
   refine bH (x:=dI (Wy.getD 0 0)) (y:=dI (P.getD k 0)) (ax (t:=.leaf (dI (Wy.getD 0 0))) ((bj (x:=.lst (Wy.map dI)) (y:=.int ((0:Nat):Int)) (ax (t:=.leaf (.lst (Wy.map dI))) ((bj (x:=lsD x Wy (decide (k+1=0))) (y:=.int 2) rfl rfl).trans rfl)) rfl).trans (iA hW0))) (ax (t:=.leaf (dI (P.getD k 0))) ((bj (x:=.lst (P.map dI)) (y:=dI k) rfl (ax (t:=.leaf (dI k)) ((bj (x:=dI (k+1)) (y:=.int 1) rfl rfl).trans (by show some (T.leaf (.int (((k+1:Nat):Int)-1)))=_;unfold dI;rw[show((k+1:Nat):Int)-1=(k:Int)by lia])))).trans (iA hk3))) ?_
   rw[hW];show gEq true (dI (P.getD k 0)) (dI (P.getD k 0))=_;exact(jz (neg:=true) (b:=decide (((P.getD k 0:Nat):Int)=(P.getD k 0:Nat))) rfl).trans (by simp)
def n6(K:xA9):Sp:=fun vs H Q _=>∃(a:J9)(q:List Int),vs=[.ref a]/\SqL K H a (q.map V.int)/\q.length<=63/\rO H/\∀H',Q (.bl true) H'
variable{K:xA9}
theorem Dg{vs:List V}{H:Hp}{Q:VK}{E:XK}(h:n6 K vs H Q E):spD K 1 r8 vs H Q E:=by
 obtain⟨a,O,rfl,Y,Z,hO,q⟩:=h;refine⟨H,[.lst (O.map .int)],.leaf (.bl true),Same.refl H,rfl,?_,main O Z,fun v H' F' S st o _=>?_⟩
 .simp only[Reps,Rep];exact⟨_,[],rfl,⟨a,_,rfl,Y,Reps.map (fun _=>fW) O⟩,rfl⟩
 .have o:Rep K F' (.bl true) v:=o;simp only[Rep]at o;subst o;exact q H'
variable{h:Heap}
theorem all_mk{l:xT9}{w:Ja}{mg:Str->Option Value}{fa:J9}(X:K.In h)(G:h.Ns qc0 mg)(hfa:mg "law"=some (.ref fa))
 (a0:AtF K "_law_cell_at" z34)
 (a1:AtF K "_law_code" q24)
 (a2:AtF K "_law_exits" q55)
 (a3:AtF K "_law_read_by" q34)
 (a4:AtF K "_law_set_by" z47)
 (a5:AtF K "_law_whole" y28)
 (a6:AtF K "_law_is_lost" q5)
 (a7:AtF K "_law_more" y24)
 (a8:AtF K "_law_places" y15)
 (a9:AtF K "_law_rich" q47)
 (a10:AtF K "_law_big" z45)
 (a11:AtF K "_law_digits" y47)
 (a12:AtF K "_law_row" q36)
 (a13:AtF K "_law_names" q27)
 (a14:AtF K "_law_world" z15)
 (a15:AtF K "_law_program" y9)
 (a16:AtF K "kept_rows" q66)
 (a17:AtF K "end_fault" y39)
 (a18:AtF K "gives" q91)
 (a19:AtF K "atoms" z90)
 (a20:AtF K "reads" y60)
 (a21:AtF K "needed_ahead" z18)
 (a22:AtF K "ways_of" z84)
 (a23:AtF K "ways" gJ)
 (a24:AtF K "needed" y42)
 (a25:AtF K "traced" z62)
 (a26:AtF K "route" q60)
 {cc27 Pt27:J9} (a27:AtC K "way_to_reading" z8 cc27 Pt27) (hd27:xJ9 K cc27 Pt27=true) (to27:mN K "way_to_reading"=some (Pt27,kj "way_to_reading" (bh z8)))
 (a28:AtF K "lost_fault" z35)
 (a29:AtF K "endless_rows" q18)
 (a30:AtF K "ring_fault" y18)
 (a31:AtF K "plain_names" z48)
 (a32:AtF K "inner_ways" y26)
 (a33:AtF K "mark_behind" y19)
 (a34:AtF K "route" y44)
 {cc35 Pt35:J9} (a35:AtC K "spoilt" y13 cc35 Pt35) (hd35:xJ9 K cc35 Pt35=true) (to35:mN K "spoilt"=some (Pt35,kj "spoilt" (bh y13)))
 (a36:AtF K "spoil_fault" q31)
 (a37:AtF K "fault" y51)
 (a38:AtF K "holds" q92)
 (a39:AtF K "law" cN)
 (z_all:xB9 K qc0 "all"=some none)
 (z_any:xB9 K qc0 "any"=some none)
 (z_bool:xB9 K qc0 "bool"=some none)
 (z_enumerate:xB9 K qc0 "enumerate"=some none)
 (z_int:xB9 K qc0 "int"=some none)
 (z_isinstance:xB9 K qc0 "isinstance"=some none)
 (z_len:xB9 K qc0 "len"=some none)
 (z_list:xB9 K qc0 "list"=some none)
 (z_max:xB9 K qc0 "max"=some none)
 (z_min:xB9 K qc0 "min"=some none)
 (z_range:xB9 K qc0 "range"=some none)
 (z_reversed:xB9 K qc0 "reversed"=some none)
 (z_set:xB9 K qc0 "set"=some none)
 (z_sorted:xB9 K qc0 "sorted"=some none)
 (z_str:xB9 K qc0 "str"=some none)
 (z_tuple:xB9 K qc0 "tuple"=some none)
 {d_A:J9} {o_A:Obj} {m_A:Nat} {t0_A:Tok} {t1_A:Tok} {t2_A:Tok} {t3_A:Tok} {t4_A:Tok} {t5_A:Tok} {t6_A:Tok} {t7_A:Tok} {Z:J9} {a1_A:J9} {O:J9} {a3_A:J9} {a4_A:J9} {Y:J9} {a6_A:J9} {q:J9} (b_A:xB9 K qc0 "ATOM_PLACES"=some (some (.ref d_A))) (l_A:K.lookup d_A=some o_A) (e_A:o_A.ExactDict) (f_A:o_A.data=.dict #[⟨qk4 w.params "copy",.str "copy" t0_A,.ref Z⟩,⟨qk4 w.params "op",.str "op" t1_A,.ref a1_A⟩,⟨qk4 w.params "store",.str "store" t2_A,.ref O⟩,⟨qk4 w.params "take",.str "take" t3_A,.ref a3_A⟩,⟨qk4 w.params "lay",.str "lay" t4_A,.ref a4_A⟩,⟨qk4 w.params "say",.str "say" t5_A,.ref Y⟩,⟨qk4 w.params "if",.str "if" t6_A,.ref a6_A⟩,⟨qk4 w.params "end",.str "end" t7_A,.ref q⟩] m_A) (z_A:(d_A==qh6)=false)
 {o0_A:Obj} {i0_A:Array Value} {m0_A:Nat} (l0_A:K.lookup Z=some o0_A) (e0_A:o0_A.cls=.type "tuple") (f0_A:o0_A.data=.seq i0_A m0_A) (r0_A:Vals [V.int 2,V.int 3] i0_A.toList)
 {o1_A:Obj} {i1_A:Array Value} {m1_A:Nat} (l1_A:K.lookup a1_A=some o1_A) (e1_A:o1_A.cls=.type "tuple") (f1_A:o1_A.data=.seq i1_A m1_A) (r1_A:Vals [V.int 3,V.int 5] i1_A.toList)
 {o2_A:Obj} {i2_A:Array Value} {m2_A:Nat} (l2_A:K.lookup O=some o2_A) (e2_A:o2_A.cls=.type "tuple") (f2_A:o2_A.data=.seq i2_A m2_A) (r2_A:Vals [V.int 2,V.int 3] i2_A.toList)
 {o3_A:Obj} {i3_A:Array Value} {m3_A:Nat} (l3_A:K.lookup a3_A=some o3_A) (e3_A:o3_A.cls=.type "tuple") (f3_A:o3_A.data=.seq i3_A m3_A) (r3_A:Vals [V.int 3,V.int 4] i3_A.toList)
 {o4_A:Obj} {i4_A:Array Value} {m4_A:Nat} (l4_A:K.lookup a4_A=some o4_A) (e4_A:o4_A.cls=.type "tuple") (f4_A:o4_A.data=.seq i4_A m4_A) (r4_A:Vals [V.int 2,V.int 4] i4_A.toList)
 {o5_A:Obj} {i5_A:Array Value} {m5_A:Nat} (l5_A:K.lookup Y=some o5_A) (e5_A:o5_A.cls=.type "tuple") (f5_A:o5_A.data=.seq i5_A m5_A) (r5_A:Vals [V.int 1,V.int 2] i5_A.toList)
 {o6_A:Obj} {i6_A:Array Value} {m6_A:Nat} (l6_A:K.lookup a6_A=some o6_A) (e6_A:o6_A.cls=.type "tuple") (f6_A:o6_A.data=.seq i6_A m6_A) (r6_A:Vals [V.int 1,V.int 2] i6_A.toList)
 {o7_A:Obj} {i7_A:Array Value} {m7_A:Nat} (l7_A:K.lookup q=some o7_A) (e7_A:o7_A.cls=.type "tuple") (f7_A:o7_A.data=.seq i7_A m7_A) (r7_A:Vals [V.int 1,V.int 2] i7_A.toList)
 {u_D:Value} (b_D:xB9 K qc0 "FRESH"=some (some u_D)) (r_D:RelV (.str "fresh") u_D)
 {u_F:Value} (b_F:xB9 K qc0 "SAFE"=some (some u_F)) (r_F:RelV (.str "safe") u_F)
 {u_E:Value} (b_E:xB9 K qc0 "SEEN"=some (some u_E)) (r_E:RelV (.str "seen") u_E)
 {d_B:J9} {o_B:Obj} {i_B:Array Value} {m_B:Nat} (b_B:xB9 K qc0 "SETTING"=some (some (.ref d_B))) (l_B:K.lookup d_B=some o_B) (e_B:o_B.cls=.type "tuple") (f_B:o_B.data=.seq i_B m_B) (r_B:Vals [V.str "copy",V.str "op",V.str "load",V.str "take",V.str "hear"] i_B.toList)
 {u_C:Value} (b_C:xB9 K qc0 "SPOILT"=some (some u_C)) (r_C:RelV (.str "spoilt") u_C)
 (zIS:t5 K=true)
 (kd_str:e7 K "str")
 (kd_bool:e7 K "bool")
 (kd_int:e7 K "int")
 (kd_list:e7 K "list")
 (kd_tuple:e7 K "tuple")
 : ∃fd:qp9,(∀(s:qa4)(v:Value),za2 s fd ⟨[v],[]⟩ [("_law_script",v)])/\∀base:Heap,K.In base->base.Ns qc0 mg->qk mg base->FnOk l.prog w K mg base CX0 9 fa fd ["_law_script"] (n6 K):=by
 obtain⟨f39,oc39,od39,an39,sl39,kV39,dc39,pm39,cd39,ct39,a39,l39,c39,k39⟩:=a39;have e:=hfa.symm.trans (xI9 X G a39);cases e;have T:Txt l.prog w K mg:={n_all:=xD9 X G z_all,n_any:=xD9 X G z_any,n_bool:=xD9 X G z_bool,n_enumerate:=xD9 X G z_enumerate,n_int:=xD9 X G z_int,n_isinstance:=xD9 X G z_isinstance,n_len:=xD9 X G z_len,n_list:=xD9 X G z_list,n_max:=xD9 X G z_max,n_min:=xD9 X G z_min,n_range:=xD9 X G z_range,n_reversed:=xD9 X G z_reversed,n_set:=xD9 X G z_set,n_sorted:=xD9 X G z_sorted,n_str:=xD9 X G z_str,n_tuple:=xD9 X G z_tuple,g_A:=yr [("copy",t0_A,.ref Z,.ref Z),("op",t1_A,.ref a1_A,.ref a1_A),("store",t2_A,.ref O,.ref O),("take",t3_A,.ref a3_A,.ref a3_A),("lay",t4_A,.ref a4_A,.ref a4_A),("say",t5_A,.ref Y,.ref Y),("if",t6_A,.ref a6_A,.ref a6_A),("end",t7_A,.ref q,.ref q)] (xI9 X G b_A) l_A e_A f_A z_A (show(["copy","op","store","take","lay","say","if","end"]:List Str).Nodup by decide +kernel) (by simp[RelV]) (fun F=>yt (.cons (dG l0_A e0_A f0_A r0_A (by decide) (by simp[Reps,Rep])) (.cons (dG l1_A e1_A f1_A r1_A (by decide) (by simp[Reps,Rep])) (.cons (dG l2_A e2_A f2_A r2_A (by decide) (by simp[Reps,Rep])) (.cons (dG l3_A e3_A f3_A r3_A (by decide) (by simp[Reps,Rep])) (.cons (dG l4_A e4_A f4_A r4_A (by decide) (by simp[Reps,Rep])) (.cons (dG l5_A e5_A f5_A r5_A (by decide) (by simp[Reps,Rep])) (.cons (dG l6_A e6_A f6_A r6_A (by decide) (by simp[Reps,Rep])) (.cons (dG l7_A e7_A f7_A r7_A (by decide) (by simp[Reps,Rep])) .nil))))))))),g_D:=iV ⟨_,xI9 X G b_D,r_D⟩,g_F:=iV ⟨_,xI9 X G b_F,r_F⟩,g_E:=iV ⟨_,xI9 X G b_E,r_E⟩,g_B:=vz (xI9 X G b_B) l_B e_B f_B r_B (by decide) (fun F=>by simp[Reps,Rep]),g_C:=iV ⟨_,xI9 X G b_C,r_C⟩,is:=zIS,k_str:=kd_str,k_bool:=kd_bool,k_int:=kd_int,k_list:=kd_list,k_tuple:=kd_tuple};refine⟨xC9 "law" "law" (cB cN) (bh cN) (aa cN) .none kV39 dc39 pm39 an39 cd39 ct39,fun s v=>.of_eq rfl,fun base kb _ bm=>?_⟩;have y10:=y116 (base:=base) T (a0.df X G fun _ _ _ _ _ _=>el2 fun _ _=>rfl);have q40:=z131 (base:=base) T (a1.df X G fun _ _ _ _ _ _=>el2 fun _ _=>rfl);have y33:=y129 (base:=base) T (a2.df X G fun _ _ _ _ _ _=>el2 fun _ _=>rfl);have q59:=z118 (base:=base) T (a3.df X G fun _ _ _ _ _ _=>el1 fun _=>rfl);have q73:=y119 (base:=base) T (a4.df X G fun _ _ _ _ _ _=>el1 fun _=>rfl);have q79:=q126 (base:=base) T (a5.df X G fun _ _ _ _ _ _=>el1 fun _=>rfl);have y64:=z117 T (a6.df X G fun _ _ _ _ _ _=>el3 fun _ _ _=>rfl) y33 q59 q73 q79;have q87:=z133 (base:=base) T (a7.df X G fun _ _ _ _ _ _=>el3 fun _ _ _=>rfl);have y69:=y120 T (a8.df X G fun _ _ _ _ _ _=>el1 fun _=>rfl) y33;have y87:=q134 (base:=base) T (a9.df X G fun _ _ _ _ _ _=>el2 fun _ _=>rfl);have y31:=y136 T (a10.df X G fun _ _ _ _ _ _=>el2 fun _ _=>rfl) y10 y87;have z11:=q124 (base:=base) T (a11.df X G fun _ _ _ _ _ _=>el2 fun _ _=>rfl);have y96:=q136 T (a12.df X G fun _ _ _ _ _ _=>el3 fun _ _ _=>rfl) z11;have y55:=y126 T (a13.df X G fun _ _ _ _ _ _=>el2 fun _ _=>rfl) z11;have q35:=z128 T (a14.df X G fun _ _ _ _ _ _=>el1 fun _=>rfl) y31 y10 z11 y55;have z61:=q116 T (a15.df X G fun _ _ _ _ _ _=>el2 fun _ _=>rfl) y31 z11 y96 q35
 have z14:=z134 (base:=base) T (a16.df X G fun _ _ _ _ _ _=>el1 fun _=>rfl);have z89:=q133 T (a17.df X G fun _ _ _ _ _ _=>el2 fun _ _=>rfl) z14;have z78:=q139 (base:=base) T (a18.df X G fun _ _ _ _ _ _=>el1 fun _=>rfl);have y124:=y140 (base:=base) T (a19.df X G fun _ _ _ _ _ _=>el1 fun _=>rfl);have y78:=z139 T (a20.df X G fun _ _ _ _ _ _=>el1 fun _=>rfl) y124;have y59:=y115 T (a21.df X G fun _ _ _ _ _ _=>el2 fun _ _=>rfl) z78 y78;have y106:=q137 (base:=base) T (a22.df X G fun _ _ _ _ _ _=>el2 fun _ _=>rfl);have h_ways:=q142 T (a23.df X G fun _ _ _ _ _ _=>el1 fun _=>rfl) y106;have q65:=y137 T (a24.df X G fun _ _ _ _ _ _=>el1 fun _=>rfl) y59 h_ways;have q114:=z138 (base:=base) T (a25.df X G fun _ _ _ _ _ _=>el2 fun _ _=>rfl);have z121:=z140 T (a26.df X G fun _ _ _ _ _ _=>el3 fun _ _ _=>rfl) q114;have q51:=q112 T (a27.df X G fun _ _ _ _ _ _=>el3 fun _ _ _=>rfl) (TabB.mk' kb hd27 bm) (rW rfl to27) z78 y78 z121 h_ways;have z79:=q129 T (a28.df X G fun _ _ _ _ _ _=>el2 fun _ _=>rfl) q65 q51;have z63:=y118 (base:=base) T (a29.df X G fun _ _ _ _ _ _=>el2 fun _ _=>rfl);have q81:=z129 T (a30.df X G fun _ _ _ _ _ _=>el2 fun _ _=>rfl) z63 z14 h_ways;have z30:=z124 (base:=base) T (a31.df X G fun _ _ _ _ _ _=>el1 fun _=>rfl);have y79:=y127 T (a32.df X G fun _ _ _ _ _ _=>el2 fun _ _=>rfl) z14 h_ways;have y48:=q125 (base:=base) T (a33.df X G fun _ _ _ _ _ _=>el3 fun _ _ _=>rfl);have y95:=z136 (base:=base) T (a34.df X G fun _ _ _ _ _ _=>el3 fun _ _ _=>rfl);have q113:=q138 T (a35.df X G fun _ _ _ _ _ _=>el3 fun _ _ _=>rfl) (TabB.mk' kb hd35 bm) (rW rfl to35) y79 z14 y48 z30 y95;have y71:=y121 T (a36.df X G fun _ _ _ _ _ _=>el2 fun _ _=>rfl) z30 q113;have q64:=q140 T (a37.df X G fun _ _ _ _ _ _=>el2 fun _ _=>rfl) z89 z79 q81 y71;have q78:=y139 T (a38.df X G fun _ _ _ _ _ _=>el2 fun _ _=>rfl) q64;exact(B9 T (mX (st:=cN) l39 c39 k39) y10 q40 y64 q87 y69 z61 q35 q64 q78 q65).imp fun vs H Q E z=>Dg z
theorem EZ{ts:List J9}(X:K.In h)(Y:∀P∈ts,h.get? P=some (xK9 #[])){cc0 q:J9}(a0:AtC K "way_to_reading" z8 cc0 q)(hd0:xJ9 K cc0 q=true)(n0:K.lookup q=none)(m0:q∈ts){Z O:J9}(a1:AtC K "spoilt" y13 Z O)(hd1:xJ9 K Z O=true)(n1:K.lookup O=none)(m1:O∈ts)(e:dA K=[(q,kj "way_to_reading" (bh z8)),(O,kj "spoilt" (bh y13))])(ne:q≠O):TabsIn K h:=TabsIn.two X e ne n0 n1 hd0 hd1 (Y _ m0) (Y _ m1)
theorem walk {l:xT9} {q:qc9} {loose:List Str} {XP:(Str->Option Value)->Heap->Prop} {YP:Ja->Heap->Prop} {d:DefRec} {K:Params->xA9} (Y:l.most=some 63) (O:d.params.defaults=[])
  (hY:∀(w:Ja)(h:Heap),YP w h->(K w.params).In h) (hT:∀(w:Ja)(h:Heap),YP w h->TabsIn (K w.params) h)
  (F:∀(w:Ja)(mg:Str->Option Value)(fa:J9)(h:Heap),(K w.params).In h->h.Ns qc0 mg->mg d.name=some (.ref fa)→
   ∃fd:qp9,(∀(s:qa4)(u:Value),za2 s fd ⟨[u],[]⟩ [("_law_script",u)])/\∀base:Heap,(K w.params).In base->base.Ns qc0 mg->qk mg base->FnOk l.prog w (K w.params) mg base CX0 9 fa fd ["_law_script"] (n6 (K w.params))) :
  PySem.W.WalkO q loose XP YP l.row.toRowW d [] (fun f vs=>PySem.call f vs):=
 L2.Ej (n:=63) (k:=9) (x:="_law_script") (CX:=fun _=>CX0) (sp:=fun w=>n6 (K w.params)) Y (by decide) O ⟨rfl,by decide,by decide⟩ hY hT F (fun _ _ a ns hl hO Z=>⟨a,ns,rfl,Z,hl,hO,fun _=>rfl⟩) fun _ _ _ _ _ z=>z
end P44
open PySem PySem.W PyProof.Rows
local macro_rules | `(tactic| walk_at "f") => `(tactic| (refine' L2.AtF.mk ?za ?zl ?zc ?zk; (case za => k_is); (case zl => k_is); (case zc => k_is); (case zk => k_is)))
local macro_rules | `(tactic| walk_at "c") => `(tactic| (refine' L2.AtC.mk ?za ?zl ?zc ?zk ?zx ?zp; (case za => k_is); (case zl => k_is); (case zc => k_is); (case zk => k_is); (case zx => k_is); (case zp => exact rfl)))
set_option maxRecDepth 100000 in
set_option maxHeartbeats 0 in
theorem PySem.Challenge.cw_dimhouse_k44_all_places_hold_holds : PySem.Challenge.rw_dimhouse_k44_all_places_hold.Holds := by
 w_on;o_law
 refine holds_open (q:=P44.seen) (loose:=[PySem.Str.ofString "ATOM_PLACES"]) (Xt:=fun s=>xlAt P44.seen [] s&&recOk (zh7 (zf1 PySem.Challenge.rw_dimhouse_k44_all_places_hold.row)) s) (XP:=XL P44.seen []) (Yf:=Hook.obs P44.hook) (Ya:=Hook.val P44.hook) (YP:=Hook.says P44.hook) (N:=3042) ?hl (Hook.of P44.hook) (Hook.keeps P44.hook) (fun s e=>xl_of s (qv8.mp e).1) XL.keeps (by rfl) (by rfl) (by rfl) (fun s e=>recFacts_of (qv8.mp e).2) (by rfl) (by first | assumption | decide +kernel) (by decide +kernel) ⟨rfl,rfl,rfl,rfl,rfl,by decide +kernel⟩ ?hw ?hc
 case hl=>exact LeftO.of_split "special-get-raises" fun w=>P44.map_two (P44.run_false w) (P44.run_true w)
 case hw=>w_witness2
 delta P44.hook
 k_fill
 refine P44.walk (l:=PySem.Challenge.rw_dimhouse_k44_all_places_hold) rfl rfl (fun w h Y=>PySem.W.km_in_of Y) ?T ?F
 case T =>
  intro w h Y;refine' P44.EZ (PySem.W.km_in_of Y) (PySem.W.km_tabs_of Y) ?a0 ?hd0 ?n0 ?m0 ?a1 ?hd1 ?n1 ?m1 ?e ?ne
  (case a0=>walk_at "c")
  (case hd0=>kernel_rfl)
  (case n0=>kernel_rfl)
  (case m0=>simp)
  (case a1=>walk_at "c")
  (case hd1=>kernel_rfl)
  (case n1=>kernel_rfl)
  (case m1=>simp)
  (case e=>kernel_rfl)
  (case ne=>decide)
 case F =>
  intro w mg fa h KX G Z;refine' P44.all_mk KX G Z ?a0 ?a1 ?a2 ?a3 ?a4 ?a5 ?a6 ?a7 ?a8 ?a9 ?a10 ?a11 ?a12 ?a13 ?a14 ?a15 ?a16 ?a17 ?a18 ?a19 ?a20 ?a21 ?a22 ?a23 ?a24 ?a25 ?a26 ?a27 ?hd27 ?to27 ?a28 ?a29 ?a30 ?a31 ?a32 ?a33 ?a34 ?a35 ?hd35 ?to35 ?a36 ?a37 ?a38 ?a39 ?z_all ?z_any ?z_bool ?z_enumerate ?z_int ?z_isinstance ?z_len ?z_list ?z_max ?z_min ?z_range ?z_reversed ?z_set ?z_sorted ?z_str ?z_tuple ?b_A ?l_A ?e_A ?f_A ?z_A ?l0_A ?e0_A ?f0_A ?r0_A ?l1_A ?e1_A ?f1_A ?r1_A ?l2_A ?e2_A ?f2_A ?r2_A ?l3_A ?e3_A ?f3_A ?r3_A ?l4_A ?e4_A ?f4_A ?r4_A ?l5_A ?e5_A ?f5_A ?r5_A ?l6_A ?e6_A ?f6_A ?r6_A ?l7_A ?e7_A ?f7_A ?r7_A ?b_D ?r_D ?b_F ?r_F ?b_E ?r_E ?b_B ?l_B ?e_B ?f_B ?r_B ?b_C ?r_C ?zIS ?kd_str ?kd_bool ?kd_int ?kd_list ?kd_tuple
  (case a0=>walk_at "f")
  (case a1=>walk_at "f")
  (case a2=>walk_at "f")
  (case a3=>walk_at "f")
  (case a4=>walk_at "f")
  (case a5=>walk_at "f")
  (case a6=>walk_at "f")
  (case a7=>walk_at "f")
  (case a8=>walk_at "f")
  (case a9=>walk_at "f")
  (case a10=>walk_at "f")
  (case a11=>walk_at "f")
  (case a12=>walk_at "f")
  (case a13=>walk_at "f")
  (case a14=>walk_at "f")
  (case a15=>walk_at "f")
  (case a16=>walk_at "f")
  (case a17=>walk_at "f")
  (case a18=>walk_at "f")
  (case a19=>walk_at "f")
  (case a20=>walk_at "f")
  (case a21=>walk_at "f")
  (case a22=>walk_at "f")
  (case a23=>walk_at "f")
  (case a24=>walk_at "f")
  (case a25=>walk_at "f")
  (case a26=>walk_at "f")
  (case a27=>walk_at "c")
  (case hd27=>kernel_rfl)
  (case to27=>kernel_rfl)
  (case a28=>walk_at "f")
  (case a29=>walk_at "f")
  (case a30=>walk_at "f")
  (case a31=>walk_at "f")
  (case a32=>walk_at "f")
  (case a33=>walk_at "f")
  (case a34=>walk_at "f")
  (case a35=>walk_at "c")
  (case hd35=>kernel_rfl)
  (case to35=>kernel_rfl)
  (case a36=>walk_at "f")
  (case a37=>walk_at "f")
  (case a38=>walk_at "f")
  (case a39=>walk_at "f")
  (case z_all | z_any | z_bool | z_enumerate | z_int | z_isinstance | z_len | z_list | z_max | z_min | z_range | z_reversed | z_set | z_sorted | z_str | z_tuple | b_A | l_A=>k_is)
  (case e_A=>exact ⟨rfl,rfl,rfl⟩)
  (case f_A=>rfl)
  (case z_A=>rfl)
  (case l0_A=>k_is)
  (case e0_A=>rfl)
  (case f0_A=>rfl)
  (case r0_A=>exact (.cons ⟨_,rfl⟩ (.cons ⟨_,rfl⟩ .nil)))
  (case l1_A=>k_is)
  (case e1_A=>rfl)
  (case f1_A=>rfl)
  (case r1_A=>exact (.cons ⟨_,rfl⟩ (.cons ⟨_,rfl⟩ .nil)))
  (case l2_A=>k_is)
  (case e2_A=>rfl)
  (case f2_A=>rfl)
  (case r2_A=>exact (.cons ⟨_,rfl⟩ (.cons ⟨_,rfl⟩ .nil)))
  (case l3_A=>k_is)
  (case e3_A=>rfl)
  (case f3_A=>rfl)
  (case r3_A=>exact (.cons ⟨_,rfl⟩ (.cons ⟨_,rfl⟩ .nil)))
  (case l4_A=>k_is)
  (case e4_A=>rfl)
  (case f4_A=>rfl)
  (case r4_A=>exact (.cons ⟨_,rfl⟩ (.cons ⟨_,rfl⟩ .nil)))
  (case l5_A=>k_is)
  (case e5_A=>rfl)
  (case f5_A=>rfl)
  (case r5_A=>exact (.cons ⟨_,rfl⟩ (.cons ⟨_,rfl⟩ .nil)))
  (case l6_A=>k_is)
  (case e6_A=>rfl)
  (case f6_A=>rfl)
  (case r6_A=>exact (.cons ⟨_,rfl⟩ (.cons ⟨_,rfl⟩ .nil)))
  (case l7_A=>k_is)
  (case e7_A=>rfl)
  (case f7_A=>rfl)
  (case r7_A=>exact (.cons ⟨_,rfl⟩ (.cons ⟨_,rfl⟩ .nil)))
  (case b_D=>k_is)
  (case r_D=>exact ⟨_,rfl⟩)
  (case b_F=>k_is)
  (case r_F=>exact ⟨_,rfl⟩)
  (case b_E=>k_is)
  (case r_E=>exact ⟨_,rfl⟩)
  (case b_B | l_B=>k_is)
  (case e_B=>rfl)
  (case f_B=>rfl)
  (case r_B=>exact (.cons ⟨_,rfl⟩ (.cons ⟨_,rfl⟩ (.cons ⟨_,rfl⟩ (.cons ⟨_,rfl⟩ (.cons ⟨_,rfl⟩ .nil))))))
  (case b_C=>k_is)
  (case r_C=>exact ⟨_,rfl⟩)
  (case zIS=>kernel_rfl)
  (case kd_str=>exact fun d O=>by cases d<;>first | (cases O;done) | k_is | rfl)
  (case kd_bool=>exact fun d O=>by cases d<;>first | (cases O;done) | k_is | rfl)
  (case kd_int=>exact fun d O=>by cases d<;>first | (cases O;done) | k_is | rfl)
  (case kd_list=>exact fun d O=>by cases d<;>first | (cases O;done) | k_is | rfl)
  (case kd_tuple=>exact fun d O=>by cases d<;>first | (cases O;done) | k_is | rfl)
