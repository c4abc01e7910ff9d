import PyProof.Rows.All
import KE.KNest
import Wide.All
import OpenK.AllK
import Wide.FinOn
import Lean
import PyProof.EqAt
import PyProof.EqKinds
import PyProof.TupleCall
import PySem.Challenge.RW_dimhouse_k53_thinned
open Array renaming length_toList→qe2,getElem?_eq_getElem→qg6,getElem?_eq_none→qo1,getElem?_toList→qo7,toList_append→qw0,toList_push→qz3
open Bool renaming and_eq_true→qb2,false_ne_true→qb4,false_eq_true→qe7,eq_iff_iff→qi4,or_eq_true→qi7,not_eq_true'→qj2,true_and→qj3,and_true→qn5,and_eq_true_iff→qp7,and_false→qt4,and_eq_false_imp→qt8,or_eq_false_iff→qu6,or_false→qu7,and_self→za3,false_and→zf3,false_or→zh1,true_or→zi2
open Classical renaming byContradiction→qx7
open False renaming elim→qg5
open ForInStep renaming yield→qo6
open Int renaming toNat_natCast→qd8,emod_nonneg→ze6
open Lean renaming maxHeartbeats→qp1,maxRecDepth→qq5
open List renaming length_map→qa1,map_cons→qa5,mem_singleton→qa6,mem_cons→qa9,getElem?_map→qb3,size_toArray→qb6,length_append→qb7,length_cons→qc2,mem_append_right→qc3,map_map→qc4,getD_eq_getElem?_getD→qc5,range→qc7,getElem?_append_left→qc8,mem_of_getElem?→qd0,mem_map→qd2,mem_cons_of_mem→qd3,mem_append→qd6,length_filter_le→qd7,mem_range→qe1,getElem?_append_right→qe3,mem_cons_self→qe6,map_append→qe9,replicate→qf3,getElem?_set_self→qf5,mem_append_left→qf6,append_nil→qg2,lookup_cons→qg3,getElem?_eq_none_iff→qg7,mem_filter→qg9,not_mem_nil→qh3,pairwise_cons→qh5,nodup_cons→qi5,foldl_cons→qi6,append_assoc→qj1,map_nil→qj5,all_eq_true→qj7,getElem?_of_mem→qj9,getElem?_replicate→qk0,all_cons→qk1,any_cons→qk2,getElem?_cons_succ→qk3,length_range→qk8,nodup_append→qk9,length_replicate→ql8,length_singleton→ql9,filter_sublist→qn6,find?_cons→qo5,getElem?_zip_eq_some→qq0,length_take→qq2,length→qq7,set_cons_zero→qr6,set_cons_succ→qr7,sum_cons→qs1,nil_append→qs2,find?_cons_of_neg→qs4,reverse_cons→qt1,nodup_nil→qt5,length_drop→qu2,ext_getElem→qu3,eq_nil_of_length_eq_zero→qu4,filterMap_cons→qv4,of_mem_zip→qv7,length_nil→qv8,map_congr_left→qw1,length_eraseIdx_of_lt→qw7,nodup_iff_pairwise_ne→qw8,mem_filterMap→qx1,mem_of_find?_eq_some→qx8,mapIdx_eq_zipIdx_map→qy0,getElem?_eq_getElem→qy1,getElem?_take_of_lt→qy4,take_sublist→qy5,pairwise_map→qz4,ext_getElem?→qz6,idxOf_lt_length_iff→qz7,pairwise_mergeSort→za7,length_eq_zero_iff→zb1,getElem?_cons_zero→zb3,map_drop→zb4,cons_append→zb5,getElem_mem→zb6,mapIdx_cons→zb7,any_eq_true→zb8,take_of_length_le→zc3,pairwise_lt_range→zc4,find?_cons_of_pos→zc6,drop_of_length_le→zc7,getElem?_eq_none→ze5,map_take→zh5,all_nil→zi4,map→zi7,Perm→zj3
open List.Pairwise renaming nil→qp3,imp→qs9
open List.Perm renaming refl→qx9
open List.Sublist renaming refl→qt3
open Nat renaming le_trans→qb5,lt_of_lt_of_le→qb9,ne_of_lt→qc0,zero_le→qh8,lt_succ_of_lt→qi1,le_of_lt→qi8,ne_of_gt→ql6,lt_irrefl→qn4,lt_succ_self→qn8,not_lt_zero→qo8,le_refl→qq6,le_of_lt_succ→qt2,lt_trans→qx3,lt_of_le_of_lt→qx4,not_lt→qy7,mod_lt→qz5,le_succ→za6,sub_self→zi5
open Ne renaming symm→qo4
open Option renaming bind_some→qa2,isSome_map→qk7,map_some→qm6,join_some→qq3,isSome_iff_exists→qr0,bind_eq_some_iff→qr3,map_eq_some_iff→qs3
open Option.some renaming inj→qd4,injEq→qs5
open PyProof.Rows renaming slot_tuple_getitem→qf8,callWith_type1→qh1,envOfC→qy3,subscriptTail_builtinR→zc1,AllBare→zc9,IntsAre→zf8,subscriptTail→zh0
open PyProof.Rows.F renaming plain_set_update_loop→qr9,entry_set_update_loop→zb0
open PySem renaming wpAny_pure→qa3,Shared→qa4,starEach→qb0,sizeLine→qb1,mainGlobals→qc1,Program→qc6,wpAny_newObj_type→qd1,Around→qd5,wpAny_callSpecial?_slot→qe4,wpAny_call_entry→qf0,wpAny_setState_of→qf1,bootBuiltins→qf2,rawInt→qf7,SetTable→qg1,cellsFrom→qg8,compareOp→qh0,wpAny_bind→qh4,behindInMarks→qh7,sysModules→qh9,wpAny_holding→qi3,Arguments→qi9,foldedSetIterable→qj0,wpAny_setField→qj4,Builtin→qj6,wpAny_typeNameOfWhole_keyiter→qj8,wpAny_mono→qk6,backTo→ql0,wpAny_ite_split→ql2,binaryOp→ql7,builtinLookup_eq_fast→qm0,firstArgMember→qm3,assignEach→qm7,wpAny_passesOwn→qm8,wpAny_typeNameOf_keyiter→qn0,scanBound→qn1,swapsWith→qn7,wpAny_askSetting→qn9,wpAny_Call_Name_kw→qo2,NameKind→qo3,codeAny_builtin→qo9,FuncData→qp2,codeAny→qp6,codeAmong→qp8,wpAny_fieldsOf→qq1,wpAny_isInstance→qq4,codeAny_mono→qq9,tupleKind_room_in1→qr5,wpAny_attempt→qr8,typeLookup_type→qs0,wpAny_truthy_bool→qs6,wpAny_field→qs7,sliceBounds→qs8,fits_of_scanBound→qt0,wpAny_seqItems→qt6,wpAny_typeOf→qt7,noFill_tuple_add→qu1,plainId_quiet→qv0,builtinsNs→qv2,wpAny_rule→qv3,wpAny_execs_nil→qv5,letOwnedTupleGo→qv6,wpAny_specialOf→qv9,pyNext→qw9,wpAny_pyIter_tuple→qx0,concat_meets→qx2,wpAny_pyIter_list→qy2,wpAny_comprehension_free→qy6,wpAny_pyIter_slot→qz0,wpAny_dictEntries→qz1,sizeLine_eq→qz8,BindsTo→qz9,seq_tuple_add→za0,getItem→za1,attributeBase→za2,wpAny_of_eq→za4,wpAny_handled→za5,setField→za8,relayAll→za9,setNext→zb2,wpAny_pyNext_range_end→zb9,wpAny_pyIter_rangeiter→zc0,codeAny_compStart_list→zc2,TriplesOk→zc8,storeName→zd0,wpAny_storeName_local→zd1,wpAny_isTrue_Compare1→zd2,assign→zd3,holding→zd4,Keyword→zd5,InCallC→zd6,codeAny_call_function→zd7,wpAny_dictEpoch→ze1,wpAny_isOneOf_keyiter→ze2,pickOrder→ze3,wpAny_updateSeq→ze4,typeLookup→ze7,closureFor→ze9,compPost→zf0,setEntries→zf1,IsPart→zf4,isSubtype_stop→zf5,isSubtype_type→zf6,IsRangeIter→zf7,subscripted→zf9,keywordEach→zg0,valueAt→zg1,wpAny_throw→zg3,tupleKind→zg5,wpAny_standAt→zg6,swapsWithSole→zg7,swappedStores→zg8,bindArgs→zg9,newExc→zh2,raiseNew→zh3,wpAny_call→zh6,callerA→zh7,setsByText→zh8,pyIter→zi0,name_of_addr→zi1,newTuple→zi6,treeTable→zi8,PassesOwn→zj1,DictEntry→zj2
open PySem.Around renaming under_plainId→qm5
open PySem.AutoSeq1 renaming wpAny_loadPart'→qr2
open PySem.Builtin.Dict renaming showsAll→ze0
open PySem.Builtin.Dict_items renaming ownsTuple→qu9
open PySem.Builtin.List renaming listExtendWith→qh2,listLengthHint→ql1,listSameRef→qn2,listTooLong→qr1,listItems→zc5
open PySem.Builtin.Range renaming rangeSize→qc9,rangeFitsLong→qw3
open PySem.Builtin.Slice renaming slicePlaces→qm1,sliceAdjust→qp9,sliceApplied→qw5
open PySem.Builtin.SmallTypes renaming nextOf→qm2
open PySem.Builtin.Str renaming occurrences→qr4
open PySem.Builtin.Tuple renaming tupleExact→qm9,tupleItemsOf→qw6
open PySem.Calls renaming Name_function_global→qw4
open PySem.F renaming slot_dict_keyiterator_next→qi2,slot_tuple_iterator_next→ql5,called_set→qp0,args_dict_keyiterator_next_1→qt9,entry_dict_keyiterator_next→qu5,args_tuple_iterator_next_1→qu8,entry_tuple_iterator_next→qw2
open PySem.Heap renaming get?_push_size→qa7,lt_size→qa8,get?_update_self→qe5,size_push→qf9,get?_push_of_some→ql3,get?_update_other→ql4,SameBut→qn3,ExtBut→zg2
open PySem.Heap.SameBut renaming update→qe8
open PySem.NameKind renaming free→qd9
open PySem.Obj renaming data_mapFields→qe0,isFreed_of_fields→qi0,mapSeq→qo0,cls_mapFields→qp4,mapFields→qp5
open PySem.PassesOwn renaming never→qb8
open PySem.PyData renaming keyHash→qk4
open PySem.SeqAt renaming EqAt→qg4,RcAt→qy8,RcNeAt→zd9
open PySem.SeqAt.EqAt renaming of_refs→qx5,same→zd8
open PySem.SeqAt.RcAt renaming lists_lengths→qy9
open PySem.SetTable renaming below→qg0,grown→qm4,insertAt→qz2
open PySem.Shared renaming TypeIs→zh4
open PySem.Str renaming ofString→qa0,length→ze8
open PySem.Value renaming ref→qf4,none→qh6,type→qk5,bool→qv1,isStrOf→zg4,int→zi9,str→zj0
open PySem.W.OpenRow renaming toRowW→zf2
open PySem.W.RowW renaming records→zh9
open PySem.pickOrder renaming go→zi3
open Sum renaming inr→qu0,inl→qx6
open True renaming intro→qq8
set_option Elab.async false
set_option linter.all false
namespace P53
open PySem PySem.W PyProof.Rows
section
local macro_rules | `(tactic| o_head $_) => `(tactic| exact (by assumption : ∀ p : Prop, p) _)
set_option maxRecDepth 100000 in
set_option maxHeartbeats 0 in
def pre(q:∀p:Prop,p):PySem.Challenge.rw_dimhouse_k53_thinned.row.Holds:=by k_head
end
def seen:qc6:={PySem.Challenge.pw_dimhouse_k53_thinned with main:={PySem.Challenge.pw_dimhouse_k53_thinned.main with body:=[1,2,3,4,6,7,8,9,10,11,12,14,15,16,17,18,19,20,21,22,24,25,26,27,28,29,30,31,33,34,35,36,37,38,40,41,42,43,44,45,46,47,48,49,50].filterMap fun i=>PySem.Challenge.pw_dimhouse_k53_thinned.main.body[i]?}}
noncomputable abbrev hook:Hook:=kmHook P53.pre.heap_1 [2,3,15,17,18,20,21,22,25,26,27,29,30,32,33,34,36,37,39,40,41,42,43,44,45,46,47,48,49,50,51,53,54,56,57,58,60,61,63,64,65,67,68,70,71,72,75,76,77,80,81,82,85,86,87,90,91,92,95,96,97,99,100,102,103,104,107,108,109,111,112,114,115,116,119,120,121,124,125,126,128,129,131,132,133,135,136,138,139,140,143,144,145,147,148,150,151,152,154,155,157,158,159,162,163,164,166,167,169,170,171,174,175,176,179,180,181,183,184,186,187,188,190,191,193,194,195,197,198,200,201,202,204,205,207,208,209,211,212,214,215,216,218,219,221,222,223,225,226,228,229,230,233,234,235,237,238,240,241,242,245,246,247,250,251,252,255,256,257,259,260,262,263] (fun _=>by kernel_rfl) [134,105]
theorem map_two {α β γ:Type} {x:Option α} {f:α→β} {g:α→γ} {a:β} {b:γ} (h:x.map f=some a) (h':x.map g=some b):x.map (fun s=>(f s,g s))=some (a,b):=by
  cases x with
  |none=>cases h
  |some s=>simp only[qm6,qs5]at h h' ⊢;rw[h,h']
set_option maxRecDepth 100000 in
set_option maxHeartbeats 0 in
theorem run_false(w:World):(fencedOpening zi8 PySem.Challenge.rw_dimhouse_k53_thinned.row.prog w 2974).map (fun s₀=>(topFrom zi8 PySem.Challenge.rw_dimhouse_k53_thinned.row.prog (w.withFollow "special-get-raises" false) 2974 s₀).map (fun s=>(openSeen seen [PySem.Str.ofString "ATOM_PLACES"] (importedModules PySem.Challenge.rw_dimhouse_k53_thinned.row.prog.main.body) (fun s=>xlAt seen [] s&&recOk (zh9 (zf2 PySem.Challenge.rw_dimhouse_k53_thinned.row)) s) true s,Hook.obs hook s)))=some (some (openGood seen [PySem.Str.ofString "ATOM_PLACES"],Hook.val hook (w.withFollow "special-get-raises" false))):=by kernel_rfl
set_option maxRecDepth 100000 in
set_option maxHeartbeats 0 in
theorem run_true(w:World):(fencedOpening zi8 PySem.Challenge.rw_dimhouse_k53_thinned.row.prog w 2974).map (fun s₀=>(topFrom zi8 PySem.Challenge.rw_dimhouse_k53_thinned.row.prog (w.withFollow "special-get-raises" true) 2974 s₀).map (fun s=>(openSeen seen [PySem.Str.ofString "ATOM_PLACES"] (importedModules PySem.Challenge.rw_dimhouse_k53_thinned.row.prog.main.body) (fun s=>xlAt seen [] s&&recOk (zh9 (zf2 PySem.Challenge.rw_dimhouse_k53_thinned.row)) s) true s,Hook.obs hook s)))=some (some (openGood seen [PySem.Str.ofString "ATOM_PLACES"],Hook.val hook (w.withFollow "special-get-raises" true))):=by kernel_rfl
end P53
set_option maxRecDepth 100000
set_option maxHeartbeats 4000000
set_option compiler.extract_closed false
open PySem.W renaming Frag→xA9,nsIn→xB9,fnOf→xC9,kia_one→xD9,keepIn→xE9,fnX→xF9,mg_none_of→xG9,codeIn→xH9,mg_of→xI9,codeHdIn→xJ9,tabObj→xK9,kitOne→xL9,kitx_dict→xM9,CodeHd→xN9,instObj→xO9,methodObj→xP9,kitx_list→xQ9,cellsFrom_some→xR9,codeHd_of_K→xS9,OpenLaw→xT9
open PySem renaming Addr→J9,World→Ja,Stmt→Jb,Expr→Jc,Scope→Jd
noncomputable section
theorem bS{α β:Type _}{o:Option α}{f:α->Option β}{b:β}(h:o.bind f=some b):∃a,o=some a/\f a=some b:=qr3.mp h
def mS{α β:Type _}{o:Option α}{f:α->β}{b:β}(h:o.map f=some b):∃a,o=some a/\f a=b:=qs3.mp h
theorem gX{α:Type _}{l:List α}{i:Nat}{a:α}(h:l[i]?=some a):∃z:i<l.length,l[i]=a:=List.getElem?_eq_some_iff.mp h
open PySem PySem.Spec PyProof.Rows in abbrev gN := @List.getElem?_set_ne
open PySem PySem.Spec PyProof.Rows in abbrev gP := @Heap.get?_push_of_some
open PySem PySem.Spec PyProof.Rows in abbrev wB := @wpAny_bind
open PySem PySem.Spec PyProof.Rows in abbrev gR := @List.getElem?_append_right
open PySem PySem.Spec PyProof.Rows in abbrev gQ := @List.getElem?_eq_getElem
open PySem PySem.Spec PyProof.Rows in abbrev nL := @Nat.le_refl
set_option maxRecDepth 100000
namespace L2
open PySem PySem.Spec PyProof.Rows
abbrev Key:=Sum Int Str
def kL:Key->Value->Bool
 |.inl k,v=>Value.isInt k v
 |.inr x,v=>zg4 x v
def keyH(w:Ja):Key->Int
 |.inl k=>hashInt k
 |.inr x=>hashStr w x
def cz:∀{k:Key}{v:Value},kL k v=true->(∃i t,k=qx6 i/\v=zi9 i t)∨(∃x t,k=qu0 x/\v=zj0 x t)
 |.inl i,v,h=>by obtain⟨t,e⟩:=Value.isInt_shape (k:=i) (v:=v) h;exact .inl ⟨i,t,rfl,e⟩
 |.inr x,v,h=>by obtain⟨t,e⟩:=Value.isStrOf_shape (x:=x) (v:=v) h;exact .inr ⟨x,t,rfl,e⟩
def tu(i:Int)(t:Tok):kL (.inl i) (.int i t)=true:=by simp[kL,Value.isInt]
def tw(x:Str)(t:Tok):kL (.inr x) (.str x t)=true:=by simp[kL,zg4]
def A2(a b:Int):decide ((qx6 a:Key)=qx6 b)=(a==b):=by
 by_cases e:a=b
 .subst e;simp
 .have h:¬ (qx6 a:Key)=qx6 b:=fun q=>e (qx6.inj q)
  rw[decide_eq_false h];exact(beq_eq_false_iff_ne.mpr e).symm
def A3(a b:Str):decide ((qu0 a:Key)=qu0 b)=decide (a=b):=by
 by_cases e:a=b
 .subst e;simp
 .have h:¬ (qu0 a:Key)=qu0 b:=fun q=>e (qu0.inj q)
  rw[decide_eq_false h,decide_eq_false e]
def A4(a:Int)(b:Str):decide ((qx6 a:Key)=qu0 b)=false:=decide_eq_false (fun q=>nomatch q)
def A5(a:Str)(b:Int):decide ((qu0 a:Key)=qx6 b)=false:=decide_eq_false (fun q=>nomatch q)
noncomputable def ca(prog:qc6)(w:Ja):PySem.KeyKind prog w Key where
 is:=kL
 hash:=keyH w
 inj:=fun v a b W O=>by
  rcases cz W with ⟨i,t,rfl,rfl⟩|⟨x,t,rfl,rfl⟩
  .rcases cz O with ⟨j,u,rfl,e⟩|⟨y,u,rfl,e⟩
   .injection e with q _;rw[q]
   .exact nomatch e
  .rcases cz O with ⟨j,u,rfl,e⟩|⟨y,u,rfl,e⟩
   .exact nomatch e
   .injection e with q _;rw[q]
 byValue:=fun k v h=>by rcases cz h with ⟨i,t,rfl,rfl⟩|⟨x,t,rfl,rfl⟩<;>rfl
 pyHash:=fun L h=>by
  rcases cz L with ⟨i,t,rfl,rfl⟩|⟨x,t,rfl,rfl⟩
  .exact wpAny_pyHash_int h
  .exact wpAny_pyHash_str h
 eqBool:=fun Y L h=>by
  rcases cz Y with ⟨i,t,rfl,rfl⟩|⟨x,t,rfl,rfl⟩
  .rcases cz L with ⟨j,u,rfl,rfl⟩|⟨y,u,rfl,rfl⟩
   .rw[A2]at h;exact wpAny_eqBool_int h
   .rw[A4]at h;exact qg4.int_str i t y u _ _ _ _ h
  .rcases cz L with ⟨j,u,rfl,rfl⟩|⟨y,u,rfl,rfl⟩
   .rw[A5]at h;exact qg4.str_int x t j u _ _ _ _ h
   .rw[A3]at h;exact wpAny_eqBool_str h
 «strs»:=fun k x t v h=>by
  rcases cz h with ⟨i,u,rfl,e⟩|⟨y,u,rfl,e⟩
  .exact nomatch e
  .injection e with q _;subst q;cases v<;>rfl
def oG(prog:qc6)(w:Ja)(i:Int)(t:Tok):(ca prog w).is (.inl i) (.int i t)=true:=tu i t
def gO(prog:qc6)(w:Ja)(x:Str)(t:Tok):(ca prog w).is (.inr x) (.str x t)=true:=tw x t
inductive V where
 |non|bl (b:Bool)|int (i:Int)|str (x:Str)|byt (b:Array UInt8)|flt (b:UInt64)|ref (a:J9)|ty (n:String)
 deriving DecidableEq
noncomputable def RelV:V->Value->Prop
 |.non,u=>u=qh6
 |.bl b,u=>u=qv1 b
 |.int i,u=>∃t,u=zi9 i t
 |.str x,u=>∃t,u=zj0 x t
 |.byt b,u=>∃t,u=Value.bytes b t
 |.flt b,u=>∃t,u=Value.float b t
 |.ref a,u=>u=qf4 a
 |.ty n,u=>u=qk5 n
abbrev Vals:List V->List Value->Prop:=Paired RelV
variable{xs:List V}{us:List Value}
def Vals.length(r:Vals xs us):xs.length=us.length:=Paired.length r
theorem Vals.get:∀{xs:List V}{us:List Value}{i:Nat}{x:V},Vals xs us->xs[i]?=some x->∃u,us[i]?=some u/\RelV x u
 |_,_,_,_,.nil,e=>by simp at e
 |_,_,0,_,.cons r _,e=>by simp at e;subst e;exact⟨_,rfl,r⟩
 |_,_,i+1,x,.cons _ t,e=>by obtain⟨u,h1,h2⟩:=Vals.get (i:=i) (x:=x) t (by simpa using e);exact⟨u,by simpa using h1,h2⟩
variable{u:Value}
theorem Vals.set{x:V}(r:RelV x u):∀{xs:List V}{us:List Value}(i:Nat),Vals xs us->Vals (xs.set i x) (us.set i u)
 |_,_,_,.nil=>.nil
 |_,_,0,.cons _ t=>.cons r t
 |_,_,i+1,.cons q t=>.cons q (Vals.set r i t)
theorem Vals.append:∀{xs ys:List V}{us q:List Value},Vals xs us->Vals ys q->Vals (xs++ys) (us++q)
 |_,_,_,_,.nil,s=>s
 |_,_,_,_,.cons r t,s=>.cons r (Vals.append t s)
def Vals.take:∀{xs:List V}{us:List Value}(n:Nat),Vals xs us->Vals (xs.take n) (us.take n)
 |_,_,0,_=>.nil
 |_,_,_+1,.nil=>.nil
 |_,_,n+1,.cons r t=>.cons r (Vals.take n t)
def Vals.drop:∀{xs:List V}{us:List Value}(n:Nat),Vals xs us->Vals (xs.drop n) (us.drop n)
 |_,_,0,r=>r
 |_,_,_+1,.nil=>.nil
 |_,_,n+1,.cons _ t=>Vals.drop n t
def RelO:Option V->Option Value->Prop
 |some v,some u=>RelV v u
 |none,none=>True
 |_,_=>False
def KV{κ:Type}:List (κ×V)->List (κ×Value)->Prop:=Paired fun(p:κ×V)(q:κ×Value)=>p.1=q.1/\RelV p.2 q.2
def kV:Key->V
 |.inl i=>.int i
 |.inr x=>.str x
inductive HO where
 |lst (xs:List V)
 |tup (xs:List V)
 |dK (J6:List (Key×V))|dT (J6:List (List Key×V))
 |set (S:Int->Bool) (n:Nat)
 |ins (C dx:J9) (fs:List (Str×V))
 |own (x:J9)
 |xd (fs:List (Str×V))
 |met (f x:J9)
 |rng (lo hi:Int)
 |frz (o:Obj) (u:HO)
 |tbl (ps:Array Value)
 |code (q:Str)
 |ctab (qs:List ((Nat×Nat)×Str))
 |ext (φ:Heap->Prop)
abbrev Hp:=J9->Option HO
def upd(H:Hp)(a:J9)(o:HO):Hp:=fun b=>if b=a then some o else H b
variable{H:Hp}{a:J9}{o:HO}
def bq:upd H a o a=some o:=by unfold upd;rw[if_pos rfl]
variable{b:J9}
def aQ(h:b≠a):upd H a o b=H b:=by unfold upd;rw[if_neg h]
theorem Dg{u:HO}(h:H a=some o)(h':H b=some u)(d:o≠u):a≠b:=by intro e;subst e;rw[h]at h';exact d (qd4 h')
def cC(h:H a=some o)(h':H b=none):a≠b:=by intro e;subst e;rw[h]at h';cases h'
section
variable(P:qc6)(w:Ja)
noncomputable def ObjOk(H:Hp)(h:Heap)(a:J9):HO->Prop
 |.lst xs=>xs.length<=qb1/\∃(J8:List Value)(n:Nat),Vals xs J8/\h.get? a=some {cls:=.type "list",data:=.seq J8.toArray n}
 |.tup xs=>xs.length<=qb1/\∃J8:List Value,Vals xs J8/\IsTup h a J8.toArray
 |.dK J6=>J6.length<=qb1/\(a==qh9)=false/\∃vs,KV J6 vs/\h.DictOf (ca P w) a vs
 | .dT J6=>J6.length<=qb1/\(a==qh9)=false/\∃xs:List (List Key×J9×Value),
     Paired (fun(p:List Key×V)(q:List Key×J9×Value)=>p.1=q.1/\H q.2.1=some (.tup (p.1.map kV))/\RelV p.2 q.2.2) J6 xs∧
     ∃o es ep,h.get? a=some o/\o.ExactDict/\o.data=.dict es ep/\es.toList=xs.map (entryOfKey (zg5 (ca P w)))/\(xs.map (·.1)).Nodup
 |.set S n=>h.SetOf (intKind P w) a S n
 |.ins C dx fs=>H dx=some (.own a)/\fs.length<=1000/\dx≠a/\h.get? a=some (xO9 C dx)∧∃mA,h.Ns1 dx mA/\(∀f,RelO (fs.lookup f) (mA f))/\PySem.Within mA (fs.map (·.1))
 |.own _=>∃o,h.get? a=some o
 |.xd fs=>∃mA,h.Ns1 a mA/\∀f,RelO (fs.lookup f) (mA f)
 |.rng lo hi=>∃t u v,h.get? a=some {cls:=.type "range",data:=.fields #[.int lo t,.int hi u,.int 1 v]}
 |.frz o u=>h.get? a=some o/\ObjOk H h a u
 |.tbl ps=>h.get? a=some {cls:=.none,data:=.fields ps}
 |.code q=>h.CodeRec (.ref a) q
 |.ctab qs=>∃ps:Array Value,h.get? a=some {cls:=.none,data:=.fields ps}/\zc8 ps.toList/\∀(pos:Pos)(q:Str)(v:Value),((pos.line,pos.col),q)∈qs->qp8 pos ps.toList=some v->∃c o,v=.ref c/\H c=some (.frz o (.code q))
 |.met f x=>h.get? a=some (xP9 (.ref f) (.ref x))
 |.ext φ=>φ h/\(∃o,h.get? a=some o)/\∀h1 h2:Heap,φ h1->(∀o,h1.get? a=some o->h2.get? a=some o)->φ h2
def HOk(H:Hp)(h:Heap):Prop:=∀a o,H a=some o->ObjOk P w H h a o
end
section
variable{P:qc6}{w:Ja}{H H':Hp}{h h':Heap}{a:J9}{o:HO}
def ObjOk.lt(x:ObjOk P w H h a o):a<h.objs.size:=by
 cases o with
 |lst xs=>obtain⟨_,_,_,_,e⟩:=x;exact qa8 e
 |tup xs=>obtain⟨_,_,_,p⟩:=x;exact p.lt
 |dK J6=>obtain⟨_,_,_,_,o,_,_,e,_⟩:=x;exact qa8 e
 |dT J6=>obtain⟨_,_,_,_,o,_,_,e,_⟩:=x;exact qa8 e
 |set S n=>obtain⟨o,_,_,_,e,_⟩:=x;exact qa8 e
 |ins C dx fs=>obtain⟨_,_,_,e,_⟩:=x;exact qa8 e
 |own y=>obtain⟨_,e⟩:=x;exact qa8 e
 |xd fs=>obtain⟨_,⟨_,_,_,e,_⟩,_⟩:=x;exact qa8 e
 |rng lo hi=>obtain⟨_,_,_,e⟩:=x;exact qa8 e
 |frz ob u=>obtain⟨e,_⟩:=x;exact qa8 e
 |tbl ps=>exact qa8 (show h.get? a=some _ from x)
 |code q=>obtain⟨c,o,vs,t,e,g,_⟩:=x;cases e;exact qa8 g
 |ctab qs=>obtain⟨ps,g,_⟩:=x;exact qa8 g
 |met f y=>exact qa8 (show h.get? a=some _ from x)
 |ext φ=>obtain⟨_,⟨_,e⟩,_⟩:=x;exact qa8 e
theorem Paired.mapP{α β:Type}{F G:α->β->Prop}:∀{L:List α}{q:List β},Paired F L q->(∀a b,F a b->G a b)->Paired G L q
 |_,_,.nil,_=>.nil
 |_,_,.cons r t,f=>.cons (f _ _ r) (Paired.mapP t f)
theorem ObjOk.stay (x:ObjOk P w H h a o) (k:∀ b u,(b=a∨H b=some (.own a))->h.get? b=some u->h'.get? b=some u)
  (ho:∀b,H b=some (.own a)->H' b=some (.own a)) (ht:∀b xs,H b=some (.tup xs)->H' b=some (.tup xs)) (L:∀b ob q,H b=some (.frz ob (.code q))->H' b=some (.frz ob (.code q))):ObjOk P w H' h' a o:=by
 induction o with
 |lst xs=>obtain⟨z,J8,n,r,e⟩:=x;exact⟨z,J8,n,r,k _ _ (.inl rfl) e⟩
 |tup xs=>obtain⟨z,J8,r,ob,e,c⟩:=x;exact⟨z,J8,r,ob,k _ _ (.inl rfl) e,c⟩
 |dK J6=>obtain⟨z,y,vs,r,ob,es,ep,e,c⟩:=x;exact⟨z,y,vs,r,ob,es,ep,k _ _ (.inl rfl) e,c⟩
 |dT J6=>obtain⟨z,y,xs,r,ob,es,ep,e,c⟩:=x;exact⟨z,y,xs,Paired.mapP r fun p q z=>⟨z.1,ht _ _ z.2.1,z.2.2⟩,ob,es,ep,k _ _ (.inl rfl) e,c⟩
 |set S n=>obtain⟨ob,es,ep,t,e,c⟩:=x;exact⟨ob,es,ep,t,k _ _ (.inl rfl) e,c⟩
 |ins C dx fs=>obtain⟨d,z,Y,e,mA,⟨od,es,ep,e2,c⟩,r⟩:=x;exact⟨ho _ d,z,Y,k _ _ (.inl rfl) e,mA,⟨od,es,ep,k _ _ (.inr d) e2,c⟩,r⟩
 |own y=>obtain⟨ob,e⟩:=x;exact⟨ob,k _ _ (.inl rfl) e⟩
 |xd fs=>obtain⟨mA,⟨od,es,ep,e,c⟩,r⟩:=x;exact⟨mA,⟨od,es,ep,k _ _ (.inl rfl) e,c⟩,r⟩
 |rng lo hi=>obtain⟨t,u,v,e⟩:=x;exact⟨t,u,v,k _ _ (.inl rfl) e⟩
 |frz ob u ih=>obtain⟨e,q⟩:=x;exact⟨k _ _ (.inl rfl) e,ih q⟩
 |tbl ps=>have e:h.get? a=some {cls:=.none,data:=.fields ps}:=x;show h'.get? a=some {cls:=.none,data:=.fields ps};exact k a _ (.inl rfl) e
 |code q=>obtain⟨c,o,vs,t,e,g,r⟩:=x;cases e;exact⟨a,o,vs,t,rfl,k a _ (.inl rfl) g,r⟩
 |ctab qs=>obtain⟨ps,g,Z,O⟩:=x;exact⟨ps,k a _ (.inl rfl) g,Z,fun pos q v h1 h2=>let ⟨c,ob,e,g⟩:=O pos q v h1 h2;⟨c,ob,e,L c ob q g⟩⟩
 |met f y=>have e:h.get? a=some (xP9 (.ref f) (.ref y)):=x;show h'.get? a=some (xP9 (.ref f) (.ref y));exact k a _ (.inl rfl) e
 |ext φ=>obtain⟨p,⟨o,e⟩,st⟩:=x;exact⟨st _ _ p fun o q=>k _ _ (.inl rfl) q,⟨o,k _ _ (.inl rfl) e⟩,st⟩
def HOk.lt(x:HOk P w H h)(e:H a=some o):a<h.objs.size:=(x a o e).lt
def HOk.fresh(x:HOk P w H h)(e:h.objs.size<=a):H a=none:=by
 cases q:H a with
 |none=>rfl
 |some u=>exact absurd (qb9 (x.lt q) e) (qn4 _)
theorem HOk.kept(x:HOk P w H h)(k:∀b u,h.get? b=some u->h'.get? b=some u):HOk P w H h':=fun a o e=>(x a o e).stay (fun b u _ q=>k b u q) (fun _ q=>q) (fun _ _ q=>q) fun _ _ _ q=>q
theorem HOk.laid(x:HOk P w H h)(k:∀b u,h.get? b=some u->h'.get? b=some u)(hp:h.objs.size<=a)(new:ObjOk P w (upd H a o) h' a o):HOk P w (upd H a o) h':=fun b u e=>by
 have L:=x.fresh hp;by_cases O:b=a
 .subst O;rw[bq]at e;cases e;exact new
 .rw[aQ O]at e;exact(x b u e).stay (fun c v _ q=>k c v q) (fun c q=>by rw[aQ (cC q L)];exact q) (fun c xs q=>by rw[aQ (cC q L)];exact q) fun c ob xs q=>by rw[aQ (cC q L)];exact q
end
def Rd(H:Hp)(a:J9)(u:HO):Prop:=H a=some u∨∃o,H a=some (.frz o u)
def Rd.of{u:HO}(h:H a=some u):Rd H a u:=.inl h
variable{P:qc6}{w:Ja}{h:Heap}
def Rd.ok{u:HO}(r:Rd H a u)(x:HOk P w H h):ObjOk P w H h a u:=by
 rcases r with r|⟨o,r⟩
 .exact x a u r
 .obtain⟨_,q⟩:=x a _ r;exact q
def Mut:Option HO->Prop
 |some (.lst _)=>True
 |some (.dK _)=>True
 |some (.dT _)=>True
 |some (.set _ _)=>True
 |some (.ins _ _ _)=>True
 |some (.ext _)=>True
 |_=>False
section
variable{P:qc6}{w:Ja}{H:Hp}{h h':Heap}{x e:J9}{o':HO}
theorem HOk.write (ok:HOk P w H h) (W:Mut (H x)) (he:e=x∨H e=some (.own x)) (k:∀ b u,b≠e->h.get? b=some u->h'.get? b=some u) (heo:∃ u,h'.get? e=some u)
  (new:ObjOk P w (upd H x o') h' x o'):HOk P w (upd H x o') h':=fun b u q=>by
 have O:∀c y,H c=some (.own y)->c≠x:=fun c y r z=>by subst z;rw[r]at W;exact W
 have Z:∀c xs,H c=some (.tup xs)->c≠x:=fun c xs r z=>by subst z;rw[r]at W;exact W
 have Y:∀c ob xs,H c=some (.frz ob (.code xs))->c≠x:=fun c ob xs r z=>by subst z;rw[r]at W;exact W
 by_cases hb:b=x
 .subst hb;rw[bq]at q;cases q;exact new
 .rw[aQ hb]at q;by_cases L:b=e
  .have q':H b=some (.own x):=by
    rcases he with z|z
    .exact absurd (L.trans z) hb
    .rw[L];exact z
   rw[q]at q';cases q'
   obtain⟨v,hv⟩:=heo;exact⟨v,by rw[L];exact hv⟩
  .refine(ok b u q).stay (fun c v hc r=>k c v ?_ r) (fun c r=>by rw[aQ (O c b r)];exact r) (fun c xs r=>by rw[aQ (Z c xs r)];exact r) fun c ob xs r=>by rw[aQ (Y c ob xs r)];exact r
   rcases hc with rfl|hc
   .exact L
   .rintro rfl;rcases he with z|z
    .exact O c b hc z
    .rw[hc]at z;cases z;exact hb rfl
end
structure Un(fs ex:List J9)(H H':Hp)(h h':Heap):Prop where
 keep:∀b o,h.get? b=some o->H b=none->b∉fs->b∉ex->h'.get? b=some o
 slot:∀b o,h.get? b=some o->H b=none->b∈fs->b∉ex->∃sl,h'.get? b=some {o with slots:=sl}
 free:∀b o,h.get? b=some o->H b=none->b∉ex->H' b=none
 there:∀b o,h.get? b=some o->b∉ex->∃o',h'.get? b=some o'
 tups:∀b xs,H b=some (.tup xs)->H' b=some (.tup xs)
 frzs:∀b o u,H b=some (.frz o u)->H' b=some (.frz o u)
 tbls:∀b ps,H b=some (.tbl ps)->∃more,H' b=some (.tbl (ps++more))
 cts:∀b qs,H b=some (.ctab qs)->H' b=some (.ctab qs)
section
variable{fs fs' ex ex':List J9}{H H1 H2:Hp}{h h1 h2 h':Heap}{a x e:J9}{o:HO}
theorem Un.any(u:Un fs ex H H1 h h1){ob:Obj}(q:h.get? b=some ob)(n:H b=none)(O:b∉ex):∃sl,h1.get? b=some {ob with slots:=sl}:=by
 by_cases L:b∈fs
 .exact u.slot b ob q n L O
 .exact⟨ob.slots,u.keep b ob q n L O⟩
theorem Un.kept(k:∀b u,h.get? b=some u->h'.get? b=some u):Un fs ex H H h h':=⟨fun b ob q _ _ _=>k b ob q,fun b ob q _ _ _=>⟨ob.slots,k b ob q⟩,fun _ _ _ n _=>n,fun b ob q _=>⟨ob,k b ob q⟩,fun _ _ q=>q,fun _ _ _ q=>q,fun _ ps q=>⟨#[],by rw[q];simp⟩,fun _ _ q=>q⟩
def Un.refl:Un fs ex H H h h:=Un.kept fun _ _ q=>q
theorem Un.laid(k:∀b u,h.get? b=some u->h'.get? b=some u)(hp:h.objs.size<=a)(L:H a=none):Un fs ex H (upd H a o) h h' where
 keep:=fun b u q _ _ _=>k b u q
 slot:=fun b u q _ _ _=>⟨u.slots,k b u q⟩
 free:=fun b u q n _=>by rw[aQ (qc0 (qb9 (qa8 q) hp))];exact n
 there:=fun b u q _=>⟨u,k b u q⟩
 tups:=fun b xs q=>by rw[aQ (cC q L)];exact q
 frzs:=fun b u xs q=>by rw[aQ (cC q L)];exact q
 tbls:=fun b ps q=>⟨#[],by rw[aQ (cC q L),q];simp⟩
 cts:=fun b qs q=>by rw[aQ (cC q L)];exact q
theorem Un.write(W:Mut (H x))(he:e=x∨H e=some (.own x))(k:∀b u,b≠e->h.get? b=some u->h'.get? b=some u)(Y:∃u,h'.get? e=some u):Un fs ex H (upd H x o) h h':=by
 have hx:∀b,H b=none->b≠x:=fun b n z=>by subst z;rw[n]at W;exact W
 have Z:∀b,H b=none->b≠e:=fun b n z=>by
  subst z;rcases he with r|r
  .exact hx b n r
  .rw[n]at r;cases r
 have O:∀b u,H b=some u->¬ Mut (some u)->b≠x:=fun b u q nm z=>by subst z;rw[q]at W;exact nm W
 refine⟨fun b u q n _ _=>k b u (Z b n) q,fun b u q n _ _=>⟨u.slots,k b u (Z b n) q⟩,fun b u q n _=>by rw[aQ (hx b n)];exact n,fun b u q _=>?_,fun b xs q=>by rw[aQ (O b _ q fun z=>z)];exact q,fun b u xs q=>by rw[aQ (O b _ q fun z=>z)];exact q,fun b ps q=>⟨#[],by rw[aQ (O b _ q fun z=>z),q];simp⟩,fun b xs q=>by rw[aQ (O b _ q fun z=>z)];exact q⟩
 by_cases L:b=e
 .subst L;exact Y
 .exact⟨u,k b u L q⟩
end
def trk(h:Heap)(H:Hp):List J9:=(qc7 h.objs.size).filter fun a=>(H a).isSome
def lY(h:Heap)(H:Hp):Heap:=PySem.W.hideAll h (trk h H)
def tz(h:Heap)(H:Hp):(lY h H).objs.size=h.objs.size:=PySem.W.hideAll_size _ _
theorem uY{o:Obj}(e:h.get? b=some o)(n:H b=none):(lY h H).get? b=some o:=PySem.W.hideAll_get _ e fun L=>by have q:(H b).isSome=true:=(qg9.mp L).2;rw[n]at q;simp at q
def yg{o:Obj}(e:(lY h H).get? b=some o):h.get? b=some o/\H b=none:=by
 have L:h.get? b=some o:=PySem.W.of_hideAll (trk h H) e;refine⟨L,?_⟩;cases q:H b with
 |none=>rfl
 |some x=>have O:b∈trk h H:=qg9.mpr ⟨qe1.mpr (qa8 L),by simp[q]⟩;have z:(lY h H).get? b=none:=PySem.W.hideAll_none (trk h H) O;rw[z]at e;cases e
def yh(g h:Heap)(L:J9):List (J9×Obj):=(qc7 h.objs.size).filterMap fun a=>if a=L∨(g.get? a).isSome=true then none else(h.get? a).map fun o=>(a,o)
def rest(g h:Heap)(L d:J9):List (J9×Obj):=(yh g h L).filter fun p=>decide (p.1≠d)
def nestNames:List Str:=["way_to_reading","spoilt"]
def kM(x:Str)(ss:List Jb):List ((Nat×Nat)×Str):=ss.filterMap fun st=>match st with
 |.FunctionDef name _ _ _ _ _ _ _ _ pos=>some ((pos.line,pos.col),x++".<locals>."++name)
 |_=>none
noncomputable def nj(K:xA9)(x:Str):Option (J9×List ((Nat×Nat)×Str)):=match PySem.W.tabIn K x with
 |some (_,P)=>(match xB9 K qc1 x with
  |some (some (.ref f))=>(match K.lookup f with
   |some o=>(match o.data with
    |.func fd=>(match fd.body with
     |.stmts b=>some (P,kM x b)
     |_=>none)
    |_=>none)
   |none=>none)
  |_=>none)
 |none=>none
def dL(K:xA9):List (J9×List ((Nat×Nat)×Str)):=nestNames.filterMap (nj K)
structure Mod(K:xA9)(mg:Str->Option Value)(base:Heap):Prop where
 kin:K.In base
 glob:base.Ns qc1 mg
 blt:∃mb,base.Ns qv2 mb/\∀x:Str,x≠"__name__"->mb x=qf2 x
 nolimit:base.NoLimit
structure Cx where
 prog:qc6
 w:Ja
 K:xA9
 mg:Str->Option Value
 base:Heap
 A:qd5
 N:List Str
 s₀:qa4
 H₀:Hp
 env:Env
 outer:List Env
 stack:List Env
 ex:List J9
 fn:Str->Bool
 calm:Bool
 pn:List (J9×Obj)
 xe:Value->qa4->Prop
def frs(l:List Env):List J9:=l.filterMap (·.frame)
abbrev Cx.fs(X:Cx):List J9:=frs X.outer
def Vis(sc:Jd)(x:Str):Prop:=sc.names.lookup x=some .local∨sc.names.lookup x=some .cell∨sc.names.lookup x=some .free
def Loc(sc:Jd)(x:Str):Prop:=sc.names.lookup x=some .local∨sc.names.lookup x=some .cell
noncomputable def Look(env:Env)(h:Heap)(m:Str->Option Value)(x:Str)(u:Value):Prop:=(env.kindOf x=some .local/\m x=some u)∨((env.kindOf x=some .cell∨env.kindOf x=some .free)/\∃c,env.cells.lookup x=some c/\h.IsCell c (some u))
structure Cx.Ok(X:Cx):Prop where
 mod:Mod X.K X.mg X.base
 kind:X.env.scope.kind=.function
 glob:X.env.globals=qc1
 blt:X.env.builtins=qv2
 above:X.s₀.heap.objs.size<=X.env.locals
 inj:∀x y c,X.env.cells.lookup x=some c->X.env.cells.lookup y=some c->x=y
 has:∀x,(X.env.kindOf x=some .cell∨X.env.kindOf x=some .free)->∃c,X.env.cells.lookup x=some c
 cab:∀x c,X.fn x=true->X.env.cells.lookup x=some c->X.s₀.heap.objs.size<=c
 hd:X.calm=true->X.A.handled=none
 frames:X.A.frames=some X.stack
 stk:X.stack=X.outer∨(X.stack=X.env::X.outer/\X.env.frame=some X.env.locals)
 exf:∀b∈X.ex,b≠X.env.locals/\∀x c,X.env.cells.lookup x=some c->c≠b
 bs:∀b o,X.base.get? b=some o->X.s₀.heap.get? b=some o/\X.H₀ b=none
 bsz:X.base.objs.size<=X.s₀.heap.objs.size
 noex:∀b o,X.base.get? b=some o->b∉X.ex
 exfs:∀b∈X.ex,b∉X.fs
 funs:X.s₀.heap.FunFrames X.base X.outer
 frf:∀b∈X.fs,X.H₀ b=none
 tb:∀p∈dL X.K,X.H₀ p.1=some (.ctab p.2)
structure Inv(X:Cx)(J1:List (J9×Obj))(σ:List (Option V))(H:Hp)(s:qa4):Prop where
 ok:X.Ok
 os:s.os=X.s₀.os
 bare:zc9 s.gens
 base:Un X.fs X.ex X.H₀ H X.s₀.heap s.heap
 loc:∃m,s.heap.Ns X.env.locals m/\∀(i:Nat)(x:Str)(v:V),X.N[i]?=some x->σ[i]?=some (some v)->Vis X.env.scope x->∃u,RelV v u/\Look X.env s.heap m x u
 cell:∀x c,X.env.cells.lookup x=some c->∃v,s.heap.IsCell c v
 free:H X.env.locals=none
 freeC:∀x c,X.env.cells.lookup x=some c->H c=none
 pin:∀p∈X.pn++J1,s.heap.get? p.1=some p.2/\H p.1=none/\p.1≠X.env.locals/\p.1∉X.fs/\∀v,p.2.data≠.cell v
 hok:HOk X.prog X.w H s.heap
 len:σ.length=X.N.length
variable{g':Array GenState}{t' i j:Nat}{d':Drawn}{ch:List J9}{it:J9}{N:List Str}{x:Str}{M:Model}{A:qd5}{E:Value->qa4->Prop}{v:V}{Q:Unit->qa4->Prop}{s':qa4}
section
variable{X:Cx}{J1:List (J9×Obj)}{σ:List (Option V)}{H H':Hp}{s:qa4}{h':Heap}
theorem Cx.Ok.nofr(ok:X.Ok){o:Obj}(e:X.base.get? b=some o):b∉X.fs:=fun q=>by have:=(ok.funs.mem q).1;rw[e]at this;cases this
theorem Inv.bs(I:Inv X J1 σ H s):∀b o,X.base.get? b=some o->s.heap.get? b=some o/\H b=none:=fun b o e=>⟨I.base.keep b o (I.ok.bs b o e).1 (I.ok.bs b o e).2 (I.ok.nofr e) (I.ok.noex b o e),I.base.free b o (I.ok.bs b o e).1 (I.ok.bs b o e).2 (I.ok.noex b o e)⟩
theorem Inv.bk(I:Inv X J1 σ H s):∀b o,X.base.get? b=some o->s.heap.get? b=some o:=fun b o e=>(I.bs b o e).1
def Inv.mod(I:Inv X J1 σ H s):Mod X.K X.mg X.base:=I.ok.mod
def Inv.kIn(I:Inv X J1 σ H s):X.K.In s.heap:=I.ok.mod.kin.keeps I.bk
def Inv.fr(I:Inv X J1 σ H s):∃m,Fr X.base X.env.locals s.heap m:=
 let ⟨m,hn,_⟩:=I.loc
 ⟨m,hn,I.bk,qb5 I.ok.bsz I.ok.above⟩
def Inv.lt(I:Inv X J1 σ H s):X.env.locals<s.heap.objs.size:=let ⟨_,hn,_⟩:=I.loc;hn.lt
theorem Inv.sz(I:Inv X J1 σ H s):X.s₀.heap.objs.size<=s.heap.objs.size:=qb5 I.ok.above (qi8 I.lt)
theorem Inv.nofs(I:Inv X J1 σ H s)(h:s.heap.objs.size<=a):a∉X.fs:=fun L=>by obtain⟨_,o,q,_⟩:=I.ok.funs.mem L;exact absurd (qb9 (qa8 q) (qb5 I.sz h)) (qn4 _)
theorem Inv.cne(I:Inv X J1 σ H s):∀x c,X.env.cells.lookup x=some c->c≠X.env.locals:=fun x c e z=>by obtain⟨v,o,O,W⟩:=I.cell x c e;obtain⟨m,⟨o',es,ep,q,L,_⟩,_⟩:=I.loc;rw[z,q]at O;cases O;rw[L]at W;cases W
def Inv.funs(I:Inv X J1 σ H s):s.heap.FunFrames X.base X.outer:=by
 have all:∀(l:List Env),(∀b∈frs l,b∈X.fs)->X.s₀.heap.FunFrames X.base l->s.heap.FunFrames X.base l:=by
  intro l;induction l with
  |nil=>intro _ _;trivial
  |cons env r ih=>
   intro Y Z;obtain⟨hk,⟨L,o,q,hn,ho,hd⟩,hr⟩:=Z;have W:L∈X.fs:=Y L (by unfold frs;rw[qv4,q];exact qe6);obtain⟨sl,e⟩:=I.base.slot L o ho (I.ok.frf L W) W fun z=>I.ok.exfs L z W
   exact⟨hk,⟨L,_,q,hn,e,hd⟩,ih (fun b O=>Y b (by unfold frs;rw[qv4,q];exact qd3 _ O)) hr⟩
 exact all X.outer (fun _ O=>O) I.ok.funs
def Inv.stack(I:Inv X J1 σ H s):s.heap.FunFrames X.base X.stack:=by
 rcases I.ok.stk with e|⟨e,L⟩
 .rw[e];exact I.funs
 .rw[e];obtain⟨m,q,_⟩:=I.loc;refine .cons (by rw[I.ok.kind];decide) L q ?_ I.funs;exact Heap.get?_none_of_le (qb5 I.ok.bsz I.ok.above)
def Inv.stkSub(I:Inv X J1 σ H s):∀b∈frs X.stack,b∈X.env.locals::X.fs:=fun b q=>by
 rcases I.ok.stk with e|⟨e,L⟩
 .rw[e]at q;exact qd3 _ q
 .rw[e]at q;unfold frs at q;rw[qv4,L]at q;exact q
def Inv.stkFree(I:Inv X J1 σ H s):∀b∈frs X.stack,H b=none:=fun b q=>by
 rcases qa9.mp (I.stkSub b q)with e|q
 .rw[e];exact I.free
 .obtain⟨_,o,L,_⟩:=I.ok.funs.mem q;exact I.base.free b o L (I.ok.frf b q) fun z=>I.ok.exfs b z q
def Inv.step(I:Inv X J1 σ H s)
 (W:∀b∈ch,(b∈X.ex∨X.s₀.heap.objs.size<=b)/\b≠X.env.locals/\(∀x c,X.env.cells.lookup x=some c->c≠b)/\∀p∈X.pn++J1,p.1≠b)
 (keep:∀b o,b≠X.env.locals->b∉X.fs->b∉ch->s.heap.get? b=some o->H b=none->h'.get? b=some o)
 (slot:∀b o,b≠X.env.locals->b∈X.fs->b∉ch->s.heap.get? b=some o->H b=none->∃sl,h'.get? b=some {o with slots:=sl}) (free:∀b o,b∉ch->s.heap.get? b=some o->H b=none->H' b=none)
 (there:∀b o,b∉ch->s.heap.get? b=some o->∃o',h'.get? b=some o')
 (tups:∀b xs,H b=some (.tup xs)->H' b=some (.tup xs)) (frzs:∀b o u,H b=some (.frz o u)->H' b=some (.frz o u)) (tbls:∀b ps,H b=some (.tbl ps)->∃more,H' b=some (.tbl (ps++more))) (cts:∀b qs,H b=some (.ctab qs)->H' b=some (.ctab qs))
 (ns:∀m,s.heap.Ns X.env.locals m->h'.Ns X.env.locals m) (hok:HOk X.prog X.w H' h') (hg:zc9 g') :
  Inv X J1 σ H' {s with heap:=h',gens:=g',drawn:=d',toks:=t'}:=by
 have neL:∀b o,X.s₀.heap.get? b=some o->b≠X.env.locals:=fun b o e=>qc0 (qb9 (qa8 e) I.ok.above)
 have Z:∀b o,X.s₀.heap.get? b=some o->b∉X.ex->b∉ch:=fun b o e L hb=>by
  rcases(W b hb).1 with z|z
  .exact L z
  .exact absurd (qb9 (qa8 e) z) (qn4 _)
 have O:∀x c,X.env.cells.lookup x=some c->∀v,s.heap.IsCell c v->h'.IsCell c v:=fun x c e v ⟨o,ho,hd⟩=>by
  have Y:c∉ch:=fun z=>(W c z).2.2.1 x c e rfl
  by_cases hc:c∈X.fs
  .obtain⟨sl,q⟩:=slot c o (I.cne x c e) hc Y ho (I.freeC x c e);exact⟨_,q,hd⟩
  .exact⟨o,keep c o (I.cne x c e) hc Y ho (I.freeC x c e),hd⟩
 refine⟨I.ok,I.os,hg,⟨fun b o e n hb L=>?_,fun b o e n hb L=>?_,fun b o e n L=>?_,fun b o e L=>?_,fun b xs e=>tups b xs (I.base.tups b xs e),fun b o xs e=>frzs b o xs (I.base.frzs b o xs e),fun b ps e=>?_,fun b qs e=>cts b qs (I.base.cts b qs e)⟩,?_,fun x c e=>?_,?_,fun x c e=>?_,fun p hp=>?_,hok,I.len⟩
 .exact keep b o (neL b o e) hb (Z b o e L) (I.base.keep b o e n hb L) (I.base.free b o e n L)
 .obtain⟨sl,e1⟩:=I.base.slot b o e n hb L;obtain⟨sl',e2⟩:=slot b _ (neL b o e) hb (Z b o e L) e1 (I.base.free b o e n L);exact⟨sl',e2⟩
 .obtain⟨o',e1⟩:=I.base.there b o e L;exact free b o' (Z b o e L) e1 (I.base.free b o e n L)
 .obtain⟨o',e1⟩:=I.base.there b o e L;exact there b o' (Z b o e L) e1
 .obtain⟨m1,e1⟩:=I.base.tbls b ps e;obtain⟨m2,e2⟩:=tbls b _ e1;exact⟨m1++m2,by rw[e2,Array.append_assoc]⟩
 .obtain⟨m,hn,hl⟩:=I.loc;refine⟨m,ns m hn,fun i x v e1 e2 e3=>?_⟩;obtain⟨u,r,l⟩:=hl i x v e1 e2 e3;refine⟨u,r,?_⟩;rcases l with l|⟨k,c,e,z⟩
  .exact .inl l
  .exact .inr ⟨k,c,e,O x c e _ z⟩
 .obtain⟨v,z⟩:=I.cell x c e;exact⟨v,O x c e v z⟩
 .obtain⟨m,⟨o,_,_,ho,_⟩,_⟩:=I.loc;exact free _ o (fun z=>(W _ z).2.1 rfl) ho I.free
 .obtain⟨v,o,ho,hd⟩:=I.cell x c e;exact free c o (fun z=>(W c z).2.2.1 x c e rfl) ho (I.freeC x c e)
 .obtain⟨e,n,ne,nf,d⟩:=I.pin p hp;have Y:p.1∉ch:=fun z=>(W p.1 z).2.2.2 p hp rfl
  exact⟨keep p.1 p.2 ne nf Y e n,free p.1 p.2 Y e n,ne,nf,d⟩
theorem Inv.un(I:Inv X J1 σ H s)(u:Un X.fs [] H H' s.heap h')(O:HOk X.prog X.w H' h'):Inv X J1 σ H' {s with heap:=h',toks:=t'}:=by
 obtain⟨m,⟨o,es,ep,Z,r⟩,_⟩:=id I.loc;obtain⟨sl,hL⟩:=u.any Z I.free (by simp)
 exact I.step (g':=s.gens) (d':=s.drawn) (ch:=[]) (fun _ z=>nomatch z) (fun b o _ W _ e n=>u.keep b o e n W (by simp)) (fun b o _ W _ e n=>u.slot b o e n W (by simp)) (fun b o _ e n=>u.free b o e n (by simp)) (fun b o _ e=>u.there b o e (by simp)) u.tups u.frzs u.tbls u.cts (fun m' hm=>by
  obtain⟨o',Y,L,q,r'⟩:=hm;rw[Z]at q;cases q
  exact⟨_,Y,L,hL,r'⟩) O I.bare
theorem Inv.call{ch:List J9}(I:Inv X J1 σ H s)(u:Un (frs X.stack) ch H H' s.heap h')(Y:HOk X.prog X.w H' h')(hg:zc9 g')
 (O:∀b∈ch,(b∈X.ex∨X.s₀.heap.objs.size<=b)/\b≠X.env.locals/\(∀x c,X.env.cells.lookup x=some c->c≠b)/\∀p∈X.pn++J1,p.1≠b) :
  Inv X J1 σ H' {s with heap:=h',gens:=g',drawn:=d',toks:=t'}:=by
 obtain⟨m,⟨o,es,ep,ho,r⟩,_⟩:=id I.loc;obtain⟨sl,hL⟩:=u.any ho I.free fun z=>(O _ z).2.1 rfl
 exact I.step (ch:=ch) O (fun b o hL hb q e n=>u.keep b o e n (fun z=>(qa9.mp (I.stkSub b z)).elim hL hb) q) (fun b o _ _ q e n=>u.any e n q) (fun b o q e n=>u.free b o e n q) (fun b o q e=>u.there b o e q) u.tups u.frzs u.tbls u.cts (fun m' hm=>by
  obtain⟨o',Z,W,L,r'⟩:=hm;rw[ho]at L;cases L
  exact⟨_,Z,W,hL,r'⟩) Y hg
theorem Inv.turned(I:Inv X J1 σ H s)(k:∀b o,b≠it->s.heap.get? b=some o->h'.get? b=some o)(hn:H it=none)(W:it≠X.env.locals)
 (h1:it∈X.ex∨X.s₀.heap.objs.size<=it) (h2:∀x c,X.env.cells.lookup x=some c->c≠it) (h3:∀p∈X.pn++J1,p.1≠it):Inv X J1 σ H {s with heap:=h',toks:=t'}:=by
 have O:∀b u,H b=some u->b≠it:=fun b u e z=>by rw[z,hn]at e;cases e
 refine I.step (g':=s.gens) (d':=s.drawn) (ch:=[it]) (fun b hb=>?_) (fun b o _ _ L e _=>k b o (fun z=>L (by simp[z])) e) (fun b o _ _ L e _=>⟨o.slots,k b o (fun z=>L (by simp[z])) e⟩) (fun _ _ _ _ n=>n)
  (fun b o L e=>⟨o,k b o (fun z=>L (by simp[z])) e⟩) (fun _ _ e=>e) (fun _ _ _ e=>e) (fun b ps e=>⟨#[],by rw[e];simp⟩) (fun _ _ e=>e) (fun m Z=>?_) (fun b u e=>?_) I.bare
 .have e:b=it:=by simpa using hb
  subst e;exact⟨h1,W,h2,h3⟩
 .obtain⟨o,es,ep,Y,r⟩:=Z;exact⟨o,es,ep,k _ o (qo4 W) Y,r⟩
 .refine(I.hok b u e).stay (fun c v L q=>k c v ?_ q) (fun _ q=>q) (fun _ _ q=>q) fun _ _ _ q=>q
  rcases L with z|z
  .rw[z];exact O b u e
  .exact O c _ z
theorem Inv.tok(I:Inv X J1 σ H s)(t:Nat):Inv X J1 σ H {s with toks:=t}:=I.un (h':=s.heap) (t':=t) Un.refl I.hok
theorem Inv.kept(I:Inv X J1 σ H s)(k:∀b u,s.heap.get? b=some u->h'.get? b=some u):Inv X J1 σ H {s with heap:=h',toks:=t'}:=I.un (Un.kept k) (I.hok.kept k)
theorem Inv.laid (I:Inv X J1 σ H s) (k:∀ b u,s.heap.get? b=some u->h'.get? b=some u) (hp:s.heap.objs.size<=a) (new:ObjOk X.prog X.w (upd H a o) h' a o) :
  Inv X J1 σ (upd H a o) {s with heap:=h',toks:=t'}:=I.un (Un.laid k hp (I.hok.fresh hp)) (I.hok.laid k hp new)
theorem Inv.write{x e:J9}(I:Inv X J1 σ H s)(O:Mut (H x))(L:e=x∨H e=some (.own x))(k:∀b u,b≠e->s.heap.get? b=some u->h'.get? b=some u)(q:∃u,h'.get? e=some u)(new:ObjOk X.prog X.w (upd H x o) h' x o):Inv X J1 σ (upd H x o) {s with heap:=h',toks:=t'}:=I.un (Un.write O L k q) (I.hok.write O L k q new)
theorem Inv.weak{q:List (Option V)}(I:Inv X J1 σ H s)(L:q.length=σ.length)(w:∀(i:Nat) v,q[i]?=some (some v)->σ[i]?=some (some v)):Inv X J1 q H s:=⟨I.ok,I.os,I.bare,I.base,let ⟨m,hn,hl'⟩:=I.loc;⟨m,hn,fun i x v O W Y=>hl' i x v O (w i v W) Y⟩,I.cell,I.free,I.freeC,I.pin,I.hok,L.trans I.len⟩
theorem Inv.pins_of{q:List (J9×Obj)}(I:Inv X J1 σ H s)(h:∀p∈q,s.heap.get? p.1=some p.2/\H p.1=none/\p.1≠X.env.locals/\p.1∉X.fs/\∀v,p.2.data≠.cell v):Inv X q σ H s:=⟨I.ok,I.os,I.bare,I.base,I.loc,I.cell,I.free,I.freeC,fun p hp=>(qd6.mp hp).elim (fun z=>I.pin p (qf6 _ z)) (h p),I.hok,I.len⟩
theorem oH(O:N.Nodup)(a:N[i]?=some x)(b:N[j]?=some x):i=j:=by obtain⟨h1,L⟩:=gX a;obtain⟨h2,q⟩:=gX b;exact(List.getElem_inj O).mp (L.trans q.symm)
def l9(I:Inv X J1 σ H s)(hN:X.N.Nodup)(hi:X.N[i]?=some x)(Z:Loc X.env.scope x)(r:RelV v u)
 (h:∀s',Inv X J1 (σ.set i (some v)) H s'->(∃a,qn3 a s.heap s'.heap/\(a=X.env.locals∨X.env.cells.lookup x=some a))->Q () s') (hf:X.fn x=true∨X.env.scope.names.lookup x=some .local:=by first|exact .inl rfl|exact .inr rfl|assumption):wpAny M A (zd0 X.env x u) Q E s:=by
 obtain⟨m,hn,hl⟩:=id I.loc;have hcls:(X.env.scope.kind==.class||(X.env.scope.kind==.module&&X.env.locals != X.env.globals))=false:=by rw[I.ok.kind];rfl
 have hiσ:i<σ.length:=by rw[I.len];exact(gX hi).1
 have cne:=I.cne
 have O:∀{a:J9}{h':Heap},(∃o,s.heap.get? a=some o/\H a=none)->qn3 a s.heap h'->HOk X.prog X.w H h':=fun {a h'} ha L b ob e=>by
  obtain⟨_,_,hfree⟩:=ha;refine(I.hok b ob e).stay (fun c w' Y q=>(L.2 c ?_).trans q) (fun _ q=>q) (fun _ _ q=>q) fun _ _ _ q=>q
  rintro rfl;rcases Y with rfl|Y
  .rw[hfree]at e;cases e
  .rw[hfree]at Y;cases Y
 rcases Z with hk|hk
 .refine zd1 hk hn (fun h' hn' L=>?_) hcls;obtain⟨oL,_,_,hoL,_⟩:=id hn;refine h _ ⟨I.ok,I.os,I.bare,⟨fun b o e n hb Z=>?_,fun b o e n hb Z=>?_,I.base.free,fun b o e Z=>?_,I.base.tups,I.base.frzs,I.base.tbls,I.base.cts⟩,⟨_,hn',fun j y v' W e2 e3=>?_⟩,fun y c e=>?_,I.free,I.freeC,fun p hp=>?_,O ⟨oL,hoL,I.free⟩ L,by simpa using I.len⟩ ⟨_,L,.inl rfl⟩
  .exact(L.2 b (qc0 (qb9 (qa8 e) I.ok.above))).trans (I.base.keep b o e n hb Z)
  .obtain⟨sl,W⟩:=I.base.slot b o e n hb Z;exact⟨sl,(L.2 b (qc0 (qb9 (qa8 e) I.ok.above))).trans W⟩
  .obtain⟨o',W⟩:=I.base.there b o e Z;exact⟨o',(L.2 b (qc0 (qb9 (qa8 e) I.ok.above))).trans W⟩
  .by_cases hj:j=i
   .subst hj;rw[hi]at W;cases W
    rw[qf5 hiσ]at e2;cases e2;exact⟨u,r,.inl ⟨hk,by simp⟩⟩
   .rw[gN (qo4 hj)]at e2;obtain⟨u',r',q⟩:=hl j y v' W e2 e3;refine⟨u',r',?_⟩;rcases q with ⟨k,e⟩|⟨k,c,e,z⟩
    .refine .inl ⟨k,?_⟩;have:y≠x:=fun e=>hj (oH hN W (e▸hi))
     simp[this,e]
    .exact .inr ⟨k,c,e,z.sameBut L (cne y c e)⟩
  .obtain⟨w',z⟩:=I.cell y c e;exact⟨w',z.sameBut L (cne y c e)⟩
  .obtain⟨e,n,ne,nf,d⟩:=I.pin p hp;exact⟨(L.2 p.1 ne).trans e,n,ne,nf,d⟩
 .have hfn:X.fn x=true:=by
   rcases hf with z|z
   .exact z
   .rw[z]at hk;cases hk
  obtain⟨c,Y⟩:=I.ok.has x (.inl hk);obtain⟨w',z⟩:=I.cell x c Y;refine wpAny_storeName_cell I.ok.kind hk Y z (fun h' hc' L=>?_);obtain⟨oc,hoc,hocd⟩:=id z;refine h {s with heap:=h'} ⟨I.ok,I.os,I.bare,⟨fun b o e n hb Z=>?_,fun b o e n hb Z=>?_,I.base.free,fun b o e Z=>?_,I.base.tups,I.base.frzs,I.base.tbls,I.base.cts⟩,⟨m,hn.sameBut L (qo4 (cne x c Y)),fun j y v' W e2 e3=>?_⟩,fun y c' e=>?_,I.free,I.freeC,fun p hp=>?_,O ⟨oc,hoc,I.freeC x c Y⟩ L,by simpa using I.len⟩ ⟨c,L,.inr Y⟩
  .exact(L.2 b (qc0 (qb9 (qa8 e) (I.ok.cab x c hfn Y)))).trans (I.base.keep b o e n hb Z)
  .obtain⟨sl,W⟩:=I.base.slot b o e n hb Z;exact⟨sl,(L.2 b (qc0 (qb9 (qa8 e) (I.ok.cab x c hfn Y)))).trans W⟩
  .obtain⟨o',W⟩:=I.base.there b o e Z;exact⟨o',(L.2 b (qc0 (qb9 (qa8 e) (I.ok.cab x c hfn Y)))).trans W⟩
  .by_cases hj:j=i
   .subst hj;rw[hi]at W;cases W
    rw[qf5 hiσ]at e2;cases e2;exact⟨u,r,.inr ⟨.inl hk,c,Y,hc'⟩⟩
   .rw[gN (qo4 hj)]at e2;obtain⟨u',r',q⟩:=hl j y v' W e2 e3;refine⟨u',r',?_⟩;rcases q with q|⟨k,c',e,z'⟩
    .exact .inl q
    .refine .inr ⟨k,c',e,z'.sameBut L ?_⟩;rintro rfl;exact hj (oH hN W (I.ok.inj _ _ _ e Y▸hi))
  .by_cases hcc:c'=c
   .subst hcc;exact⟨_,hc'⟩
   .obtain⟨w2,z2⟩:=I.cell y c' e;exact⟨w2,z2.sameBut L hcc⟩
  .obtain⟨e,n,ne,nf,d⟩:=I.pin p hp;refine⟨(L.2 p.1 ?_).trans e,n,ne,nf,d⟩;intro q;rw[q,hoc]at e;have q':oc=p.2:=qd4 e;exact d w' (by rw[<- q'];exact hocd)
def iV(I:Inv X J1 σ H s)(L:X.N.Nodup)(hi:X.N[i]?=some x)(W:Loc X.env.scope x)(r:RelV v u)
 (h:∀s',Inv X J1 (σ.set i (some v)) H s'->Q () s') (q:X.fn x=true∨X.env.scope.names.lookup x=some .local:=by first|exact .inl rfl|exact .inr rfl|assumption):wpAny M A (zd0 X.env x u) Q E s:=
 l9 I L hi W r (fun s' O _=>h s' O) q
theorem Inv.call'(I:Inv X J1 σ H s)(W:s'.os=s.os)(u:Un (frs X.stack) ch H H' s.heap s'.heap)(L:HOk X.prog X.w H' s'.heap)(O:zc9 s'.gens)
 (q:∀b∈ch,(b∈X.ex∨X.s₀.heap.objs.size<=b)/\b≠X.env.locals/\(∀x c,X.env.cells.lookup x=some c->c≠b)/\∀p∈X.pn++J1,p.1≠b):Inv X J1 σ H' s':=by
 obtain⟨h',g',d',t',o'⟩:=s';have e:o'=s.os:=W;subst e;exact I.call (g':=g') (t':=t') (d':=d') u L O q
end
abbrev XK:=Value->Option J9->Hp->Prop
abbrev St:=List (Option V)
abbrev VK:=V->Hp->Prop
abbrev TE:=St->Hp->VK->Prop
abbrev TT:=St->Hp->(Bool->Hp->Prop)->Prop
abbrev TA:=St->Hp->(List V->Hp->Prop)->Prop
structure Ends where
 nx:St->Hp->Prop
 rt:VK
 bk:St->Hp->Prop:=fun _ _=>False
 ct:St->Hp->Prop:=fun _ _=>False
abbrev TS:=Ends->St->Hp->Prop
def EP(X:Cx)(J1:List (J9×Obj))(σ:St)(Q:VK)(u:Value)(s':qa4):Prop:=∃v H',Inv X J1 σ H' s'/\RelV v u/\Q v H'
def TP(X:Cx)(J1:List (J9×Obj))(σ:St)(Q:Bool->Hp->Prop)(b:Bool)(s':qa4):Prop:=∃H',Inv X J1 σ H' s'/\Q b H'
def AP(X:Cx)(J1:List (J9×Obj))(σ:St)(Q:List V->Hp->Prop)(us:List Value)(s':qa4):Prop:=∃vs H',Inv X J1 σ H' s'/\Vals vs us/\Q vs H'
noncomputable def SP(X:Cx)(J1:List (J9×Obj))(D:Ends)(f:Flow)(s':qa4):Prop:=
 match f with
 |.next=>∃q H',Inv X J1 q H' s'/\D.nx q H'
 |.brk=>∃q H',Inv X J1 q H' s'/\D.bk q H'
 |.cont=>∃q H',Inv X J1 q H' s'/\D.ct q H'
 |.ret u=>∃v q H',Inv X J1 q H' s'/\RelV v u/\D.rt v H'
def PE(X:Cx)(e:Jc)(t:TE):Prop:=∀(J1:List (J9×Obj))(s:qa4)(σ:St)(H:Hp)(Q:VK),Inv X J1 σ H s->t σ H Q->wpAny (model X.prog X.w) X.A (eval e X.env) (EP X J1 σ Q) X.xe s
noncomputable def PT(X:Cx)(e:Jc)(t:TT):Prop:=∀(J1:List (J9×Obj))(s:qa4)(σ:St)(H:Hp)(Q:Bool->Hp->Prop),Inv X J1 σ H s->t σ H Q->wpAny (model X.prog X.w) X.A (isTrue e X.env (eval e X.env)) (TP X J1 σ Q) X.xe s
noncomputable def PW(X:Cx)(e:Jc)(t:TT):Prop:=∀(q:Sem Value)(J1:List (J9×Obj))(s:qa4)(σ:St)(H:Hp)(Q:Bool->Hp->Prop),Inv X J1 σ H s->t σ H Q->wpAny (model X.prog X.w) X.A (isTrue e X.env q) (TP X J1 σ Q) X.xe s
variable{X:Cx}{e:Jc}
def PW.pt{t:TT}(h:PW X e t):PT X e t:=h _
noncomputable def PA(X:Cx)(es:List Jc)(t:TA):Prop:=∀(pos:Pos)(J1:List (J9×Obj))(s:qa4)(σ:St)(H:Hp)(Q:List V->Hp->Prop),Inv X J1 σ H s->t σ H Q->wpAny (model X.prog X.w) X.A (spliced (ql0 pos (qb0 es X.env))) (AP X J1 σ Q) X.xe s
def PS(X:Cx)(st:Jb)(t:TS):Prop:=∀(J1:List (J9×Obj))(s:qa4)(σ:St)(H:Hp)(D:Ends),Inv X J1 σ H s->t D σ H->wpAny (model X.prog X.w) X.A (exec st X.env) (SP X J1 D) X.xe s
def PSs(X:Cx)(st:List Jb)(t:TS):Prop:=∀(J1:List (J9×Obj))(s:qa4)(σ:St)(H:Hp)(D:Ends),Inv X J1 σ H s->t D σ H->wpAny (model X.prog X.w) X.A (execs st X.env) (SP X J1 D) X.xe s
variable{s:qa4}
theorem thn{α:Type}{t:Sem α}{Q q:α->qa4->Prop}(h:wpAny M A t Q E s)(L:∀a s,Q a s->q a s):wpAny M A t q E s:=qk6 h L fun _ _ x=>x
variable{J1:List (J9×Obj)}{σ:St}{R:V->V->Hp->Prop}{c:Jc}
section
variable{X:Cx}
theorem bin{a b:Jc}{ta tb:TE}(ha:PE X a ta)(hb:PE X b tb)(I:Inv X J1 σ H s)(h:ta σ H fun x H1=>tb σ H1 fun y H2=>R x y H2)
 {α:Type} {Q:α->qa4->Prop} {f:Value->Value->Sem α}
 (hf:∀v u O x y H2,Inv X J1 σ H2 O->RelV x v->RelV y u->R x y H2->wpAny (model X.prog X.w) X.A (f v u) Q X.xe O) :
  wpAny (model X.prog X.w) X.A (eval a X.env) (fun v q=>wpAny (model X.prog X.w) X.A (eval b X.env) (fun u L=>wpAny (model X.prog X.w) X.A (f v u) Q X.xe L) X.xe q) X.xe s:=by
 refine thn (ha J1 s σ H _ I h) fun v s1 ⟨x,H1,W,r1,q1⟩=>?_
 refine thn (hb J1 s1 σ H1 _ W q1) fun u O ⟨y,H2,Z,Y,q2⟩=>?_
 exact hf v u O x y H2 Z r1 Y q2
def iW(i:Nat):TE:=fun σ H Q=>∃v,σ[i]?=some (some v)/\Q v H
def tC(v:V):TE:=fun _ H Q=>Q v H
theorem A6{pos:Pos}(hN:X.N[i]?=some x)(hv:Vis X.env.scope x)(W:(x==("__debug__":Str))=false:=by decide)(O:(x==("__classdict__":Str))=false:=by decide):PE X (.Name x pos) (iW i):=by
 intro J1 s σ H Q I h;obtain⟨v,e,h⟩:=h;obtain⟨m,hn,Z⟩:=I.loc;obtain⟨u,r,l⟩:=Z i x v hN e hv;have L:EP X J1 σ Q u s:=⟨v,H,I,r,h⟩;rcases l with ⟨hk,hm⟩|⟨hk,c,Y,q⟩
 .exact wpAny_Name (wpAny_loadName_local I.ok.kind hk hn hm L) W
 .rcases hk with hk|hk
  .exact wpAny_Name (wpAny_loadName_cell I.ok.kind hk Y q L) W
  .exact wpAny_Name (wpAny_loadName_free I.ok.kind hk Y q L O) W
theorem A7{i j pos}:PE X (.Constant (.int i) j pos) (tC (.int i)):=fun _ _ _ H _ I h=>wpAny_Constant_int ⟨.int i,H,I.tok _,⟨_,rfl⟩,h⟩
theorem Dh{b j pos}:PE X (.Constant (.bool b) j pos) (tC (.bl b)):=fun _ _ _ H _ I h=>Constant_bool ⟨.bl b,H,I,rfl,h⟩
theorem A8{j pos}:PE X (.Constant .none j pos) (tC .non):=fun _ _ _ H _ I h=>Constant_none ⟨.non,H,I,rfl,h⟩
theorem A9{x j pos}:PE X (.Constant (.str x) j pos) (tC (.str x)):=fun _ _ _ H _ I h=>Calls.Constant_str ⟨.str x,H,I.tok _,⟨_,rfl⟩,h⟩
def Gl(X:Cx)(x:Str):Prop:=X.env.kindOf x=some .globalImplicit
def nn{pos:Pos}{Q:Value->qa4->Prop}(I:Inv X J1 σ H s)(O:Gl X x)(q:X.mg x=some u)(h:Q u s)
 (L:(x==("__debug__":Str))=false:=by decide):wpAny (model X.prog X.w) X.A (eval (.Name x pos) X.env) Q E s:=
 qw4 I.ok.kind O (Calls.loadGlobal_global (by rw[I.ok.glob];exact I.mod.glob.keeps I.bk) q h) L
theorem gT{pos:Pos}{Q:Value->qa4->Prop}(I:Inv X J1 σ H s)(Y:Gl X x)(q:X.mg x=none)(W:qf2 x=some u)(h:Q u s)
 (O:x≠"__name__":=by decide) (L:(x==("__debug__":Str))=false:=by decide):wpAny (model X.prog X.w) X.A (eval (.Name x pos) X.env) Q E s:=by
 obtain⟨mb,h1,h2⟩:=I.mod.blt;exact qw4 I.ok.kind Y (Calls.loadGlobal_builtin (by rw[I.ok.glob];exact I.mod.glob.keeps I.bk) q (by rw[I.ok.blt];exact h1.keeps I.bk) ((h2 x O).trans W) h) L
theorem yi{pos:Pos}(O:Gl X x)(q:X.mg x=some u)(r:RelV v u)(L:(x==("__debug__":Str))=false:=by decide):PE X (.Name x pos) (tC v):=fun _ _ _ H _ I h=>nn I O q ⟨v,H,I,r,h⟩ L
theorem yj{pos:Pos}(Y:Gl X x)(q:X.mg x=none)(W:qf2 x=some u)(r:RelV v u)(O:x≠"__name__":=by decide)(L:(x==("__debug__":Str))=false:=by decide):PE X (.Name x pos) (tC v):=fun _ _ _ H _ I h=>gT I Y q W ⟨v,H,I,r,h⟩ O L
variable{a b:Jc}{ta tb:TE}{pos:Pos}
noncomputable def PC(X:Cx)(O:CmpOp)(a b:Jc)(t:TE):Prop:=
 ∀(J1:List (J9×Obj))(s:qa4)(σ:St)(H:Hp)(Q:VK),Inv X J1 σ H s->t σ H Q→
  wpAny (model X.prog X.w) X.A (eval a X.env) (fun v q=>wpAny (model X.prog X.w) X.A (eval b X.env) (fun u L=>wpAny (model X.prog X.w) X.A (qh0 O v u) (EP X J1 σ Q) X.xe L) X.xe q) X.xe s
def tB(t:TE):TT:=fun σ H Q=>t σ H fun x H1=>∃c,x=.bl c/\Q c H1
theorem Ba{q:CmpOp}{t:TE}(h:PC X q a b t)(h1:qh7 q b=false:=by first|exact nobehind _ (by decide) (by decide)|rfl):PE X (.Compare a [q] [b] pos) t:=fun J1 s σ H Q I L=>wpAny_Compare1 (h J1 s σ H Q I L) h1
theorem np{L:CmpOp}{t:TE}(h:PC X L a b t)(h1:qh7 L b=false:=by first|exact nobehind _ (by decide) (by decide)|rfl):PT X (.Compare a [L] [b] pos) (tB t):=by intro J1 s σ H Q I W;refine zd2 (thn (h J1 s σ H _ I W) fun v s1 h1=>thn h1 fun u s2 h2=>thn h2 fun c Z ⟨x,H1,O,Y,q1⟩=>?_) h1;obtain⟨d,rfl,q⟩:=q1;cases Y;exact qs6 ⟨H1,O,q⟩
variable{tA tB':TT}{rest:List Jc}
def tAnd(t u:TT):TT:=fun σ H Q=>t σ H fun c H1=>if c=true then u σ H1 Q else Q false H1
def tOr(t u:TT):TT:=fun σ H Q=>t σ H fun c H1=>if c=true then Q true H1 else u σ H1 Q
def tNot(t:TT):TT:=fun σ H Q=>t σ H fun c H1=>Q (!c) H1
def yk(q:PT X a tA):PW X (.BoolOp .And [a] pos) tA:=by
 intro L J1 s σ H Q I h;refine isTrue_and (thn (q J1 s σ H Q I h) fun c s1 e=>?_);cases c with
 |true=>exact isTrue_and_nil e
 |false=>exact e
def Bb(q:PT X a tA):PW X (.BoolOp .Or [a] pos) tA:=by
 intro L J1 s σ H Q I h;refine isTrue_or (thn (q J1 s σ H Q I h) fun c s1 e=>?_);cases c with
 |false=>exact isTrue_or_nil e
 |true=>exact e
theorem Bc(L:PT X a tA)(W:PW X (.BoolOp .And (b::rest) pos) tB'):PW X (.BoolOp .And (a::b::rest) pos) (tAnd tA tB'):=by
 intro O J1 s σ H Q I h;refine isTrue_and (thn (L J1 s σ H _ I h) fun c s1 ⟨H1,q,q1⟩=>?_);cases c with
 |true=>exact W O J1 s1 σ H1 Q q q1
 |false=>exact⟨H1,q,q1⟩
theorem Di(L:PT X a tA)(W:PW X (.BoolOp .Or (b::rest) pos) tB'):PW X (.BoolOp .Or (a::b::rest) pos) (tOr tA tB'):=by
 intro O J1 s σ H Q I h;refine isTrue_or (thn (L J1 s σ H _ I h) fun c s1 ⟨H1,q,q1⟩=>?_);cases c with
 |true=>exact⟨H1,q,q1⟩
 |false=>exact W O J1 s1 σ H1 Q q q1
theorem Bd(q:PT X a tA):PT X (.UnaryOp .Not a pos) (tNot tA):=by intro J1 s σ H Q I h;exact isTrue_not (q J1 s σ H (fun c H1=>Q (!c) H1) I h)
def tIf(t:TT)(ta tb:TE):TE:=fun σ H Q=>t σ H fun c H1=>if c=true then ta σ H1 Q else tb σ H1 Q
def uZ(W:PT X c tA)(L:PE X a ta)(O:PE X b tb):PE X (.IfExp c a b pos) (tIf tA ta tb):=by
 intro J1 s σ H Q I h;refine wpAny_IfExp (thn (W J1 s σ H _ I h) fun d s1 ⟨H1,q,q1⟩=>?_);cases d with
 |true=>exact L J1 s1 σ H1 Q q q1
 |false=>exact O J1 s1 σ H1 Q q q1
end
noncomputable def SqL(K:xA9)(H:Hp)(a:J9)(xs:List V):Prop:=Rd H a (.lst xs)∨∃(o:Obj)(J8:Array Value)(n:Nat),K.lookup a=some o/\o.cls=.type "list"/\o.dict=none/\o.data=.seq J8 n/\J8.size<=qb1/\Vals xs J8.toList
noncomputable def SqT(K:xA9)(H:Hp)(a:J9)(xs:List V):Prop:=H a=some (.tup xs)∨∃(o:Obj)(J8:Array Value)(n:Nat),K.lookup a=some o/\o.cls=.type "tuple"/\o.data=.seq J8 n/\J8.size<=qb1/\Vals xs J8.toList
noncomputable def absV:Value->Option V
 |.none=>some .non
 |.bool b=>some (.bl b)
 |.int i _=>some (.int i)
 |.str x _=>some (.str x)
 |.bytes b _=>some (.byt b)
 |.float b _=>some (.flt b)
 |.ref a=>some (.ref a)
 |.type n=>some (.ty n)
 |_=>none
def RelV.abs{x:V}(r:RelV x u):absV u=some x:=by
 cases x with
 |non=>cases r;rfl
 |bl _=>cases r;rfl
 |int _=>obtain⟨t,rfl⟩:=r;rfl
 |str _=>obtain⟨t,rfl⟩:=r;rfl
 |byt _=>obtain⟨t,rfl⟩:=r;rfl
 |flt _=>obtain⟨t,rfl⟩:=r;rfl
 |ref _=>cases r;rfl
 |ty _=>cases r;rfl
variable{y:V}
def RelV.inj{x:V}(r:RelV x u)(q:RelV y u):x=y:=qd4 (r.abs.symm.trans q.abs)
def Vals.inj:∀{xs ys:List V}{us:List Value},Vals xs us->Vals ys us->xs=ys
 |_,_,_,.nil,.nil=>rfl
 |_,_,_,.cons r t,.cons q t'=>by rw[r.inj q,Vals.inj t t']
variable{K:xA9}
section
variable{X:Cx}{J1:List (J9×Obj)}{σ:St}{H:Hp}{s:qa4}{a:J9}{xs ys:List V}
def SqL.of(h:H a=some (.lst xs)):SqL K H a xs:=.inl (.inl h)
def SqT.of(h:H a=some (.tup xs)):SqT K H a xs:=.inl h
theorem Inv.list(I:Inv X J1 σ H s)(h:SqL X.K H a xs):∃J8:List Value,Vals xs J8/\PlainL s.heap a J8.toArray/\xs.length<=qb1:=by
 rcases h with h|⟨o,J8,n,hk,O,L,q,W,r⟩
 .obtain⟨z,J8,n,r,e⟩:=h.ok I.hok;exact⟨J8,r,⟨_,n,e,rfl,rfl,rfl⟩,z⟩
 .refine⟨J8.toList,r,⟨o,n,I.kIn a o hk,O,L,by simpa using q⟩,?_⟩;have e:=r.length;simp only[qe2]at e;lia
theorem Inv.tuple(I:Inv X J1 σ H s)(h:SqT X.K H a xs):∃J8:List Value,Vals xs J8/\IsTup s.heap a J8.toArray/\xs.length<=qb1:=by
 rcases h with h|⟨o,J8,n,hk,L,q,O,r⟩
 .obtain⟨z,J8,r,p⟩:=(Rd.of h).ok I.hok;exact⟨J8,r,p,z⟩
 .refine⟨J8.toList,r,⟨o,I.kIn a o hk,L,n,by simpa using q⟩,?_⟩;have e:=r.length;simp only[qe2]at e;lia
def Inv.list_inj(I:Inv X J1 σ H s)(h:SqL X.K H a xs)(h':SqL X.K H a ys):xs=ys:=by
 obtain⟨J8,r,⟨o,n,e,_,_,d⟩,_⟩:=I.list h;obtain⟨its',O,⟨o',W,q,_,_,d'⟩,_⟩:=I.list h';rw[e]at q;cases q
 rw[d]at d';injection d' with L _;have:J8=its':=by simpa using congrArg Array.toList L
 subst this;exact r.inj O
def Inv.tuple_inj(I:Inv X J1 σ H s)(h:SqT X.K H a xs)(h':SqT X.K H a ys):xs=ys:=by
 obtain⟨J8,r,⟨o,e,_,n,d⟩,_⟩:=I.tuple h;obtain⟨its',O,⟨o',q,_,W,d'⟩,_⟩:=I.tuple h';rw[e]at q;cases q
 rw[d]at d';injection d' with L _;have:J8=its':=by simpa using congrArg Array.toList L
 subst this;exact r.inj O
end
abbrev Cx.wish(X:Cx)(E:Value->qa4->Prop):Cx:={X with xe:=E}
abbrev Cx.nox(X:Cx):Cx:=X.wish fun _ _=>False
theorem Cx.Ok.wish(ok:X.Ok)(E:Value->qa4->Prop):(X.wish E).Ok:=⟨ok.mod,ok.kind,ok.glob,ok.blt,ok.above,ok.inj,ok.has,ok.cab,ok.hd,ok.frames,ok.stk,ok.exf,ok.bs,ok.bsz,ok.noex,ok.exfs,ok.funs,ok.frf,ok.tb⟩
theorem Cx.Ok.unwish(ok:(X.wish E).Ok):X.Ok:=⟨ok.mod,ok.kind,ok.glob,ok.blt,ok.above,ok.inj,ok.has,ok.cab,ok.hd,ok.frames,ok.stk,ok.exf,ok.bs,ok.bsz,ok.noex,ok.exfs,ok.funs,ok.frf,ok.tb⟩
section
variable{X:Cx}{J1:List (J9×Obj)}{σ:St}{H:Hp}{s:qa4}{E:Value->qa4->Prop}
theorem Inv.wish(I:Inv X J1 σ H s)(E:Value->qa4->Prop):Inv (X.wish E) J1 σ H s:=⟨I.ok.wish E,I.os,I.bare,I.base,I.loc,I.cell,I.free,I.freeC,I.pin,I.hok,I.len⟩
theorem Inv.unwish(I:Inv (X.wish E) J1 σ H s):Inv X J1 σ H s:=⟨I.ok.unwish,I.os,I.bare,I.base,I.loc,I.cell,I.free,I.freeC,I.pin,I.hok,I.len⟩
def SP.unwish{D:Ends}{f:Flow}(h:SP (X.wish E) J1 D f s'):SP X J1 D f s':=by
 cases f with
 |next=>obtain⟨L,H',I,q⟩:=h;exact⟨L,H',I.unwish,q⟩
 |brk=>obtain⟨L,H',I,q⟩:=h;exact⟨L,H',I.unwish,q⟩
 |cont=>obtain⟨L,H',I,q⟩:=h;exact⟨L,H',I.unwish,q⟩
 |ret u=>obtain⟨v,L,H',I,r,q⟩:=h;exact⟨v,L,H',I.unwish,r,q⟩
theorem PSs.nox{st:List Jb}{t:TS}(h:PSs X.nox st t):PSs X st t:=fun J1 s σ H D I L=>qk6 (h J1 s σ H D (I.wish _) L) (fun _ _ q=>q.unwish) fun _ _ z=>qg5 z
end
variable{tc:TT}
section
variable{X:Cx}{st:Jb}{rest:List Jb}{t u:TS}{e:Jc}{te:TE}{pos:Pos}
def Dj:TS:=fun D σ H=>D.nx σ H
def tSeq(t u:TS):TS:=fun D σ H=>t {D with nx:=u D} σ H
def yl:PSs X [] Dj:=fun _ _ σ H _ I h=>qv5 ⟨σ,H,I,h⟩
def iX(h1:PS X st t)(h2:PSs X rest u):PSs X (st::rest) (tSeq t u):=by
 intro J1 s σ H D I h;refine wpAny_execs_cons (thn (h1 J1 s σ H {D with nx:=u D} I h) fun f s1 q=>?_);cases f with
 |next=>obtain⟨L,H',O,q⟩:=q;exact h2 J1 s1 L H' D O q
 |ret v=>exact q
 |brk=>exact q
 |cont=>exact q
def ra(h1:PS X st t):PSs X [st] t:=by
 intro J1 s σ H D I h;refine wpAny_execs_cons (thn (h1 J1 s σ H D I h) fun f s1 q=>?_);cases f with
 |next=>exact qv5 q
 |ret v=>exact q
 |brk=>exact q
 |cont=>exact q
def Be:TS:=fun D σ H=>D.bk σ H
def u0:PS X (.Break pos) Be:=fun _ _ σ H _ I h=>wpAny_Break ⟨σ,H,I,h⟩
def Inv.quiet(I:Inv X J1 σ H s):interactive X.env=false:=by simp[interactive,I.ok.kind]
def Dk(te:TE):TS:=fun D σ H=>te σ H fun _ H1=>D.nx σ H1
theorem re(O:PE X e te)(q:qn7 e none pos.line X.env=pure false:=by rfl):PS X (.Expr e pos) (Dk te):=by intro J1 s σ H D I h;exact wpAny_Expr_any (thn (O J1 s σ H _ I h) fun v s1 ⟨x,H1,L,W,q1⟩=>⟨σ,H1,L,q1⟩) I.quiet q
def tRet(te:TE):TS:=fun D σ H=>te σ H D.rt
theorem p5(O:PE X e te):PS X (.Return (some e) pos) (tRet te):=by intro J1 s σ H D I h;exact wpAny_Return_some (thn (O J1 s σ H _ I h) fun v s1 ⟨x,H1,q,L,q1⟩=>⟨x,σ,H1,q,L,q1⟩)
def tIfS(c:TT)(t u:TS):TS:=fun D σ H=>c σ H fun b H1=>if b=true then t D σ H1 else u D σ H1
theorem Dl{a b:List Jb}(W:PT X c tc)(L:PSs X a t)(O:PSs X b u):PS X (.If c a b pos) (tIfS tc t u):=by
 intro J1 s σ H D I h;refine wpAny_If (thn (W J1 s σ H _ I h) fun d s1 ⟨H1,q,q1⟩=>?_);cases d with
 |true=>exact L J1 s1 σ H1 D q q1
 |false=>exact O J1 s1 σ H1 D q q1
end
abbrev TG:=V->St->Hp->(St->Hp->Prop)->Prop
abbrev TGs:=List V->St->Hp->(St->Hp->Prop)->Prop
noncomputable def PG(X:Cx)(q:Jc)(t:TG):Prop:=
 ∀(J1:List (J9×Obj))(s:qa4)(σ:St)(H:Hp)(v:V)(u:Value)(Q:St->Hp->Prop),Inv X J1 σ H s->RelV v u->t v σ H Q→
  wpAny (model X.prog X.w) X.A (zd3 q X.env u) (fun _ s'=>∃L H',Inv X J1 L H' s'/\Q L H') X.xe s
noncomputable def PGs(X:Cx)(ts:List Jc)(t:TGs):Prop:=
 ∀(J1:List (J9×Obj))(s:qa4)(σ:St)(H:Hp)(vs:List V)(us:List Value)(Q:St->Hp->Prop),Inv X J1 σ H s->Vals vs us->t vs σ H Q→
  wpAny (model X.prog X.w) X.A (assignInOrder ((qm7 ts X.env).map (·.2)) us) (fun _ s'=>∃q H',Inv X J1 q H' s'/\Q q H') X.xe s
abbrev Bf:=V->V->V->Hp->(Hp->Prop)->Prop
noncomputable def PSet(X:Cx)(t:Bf):Prop:=
 ∀(J1:List (J9×Obj))(s:qa4)(σ:St)(H:Hp)(o i v:V)(q L u:Value)(Q:Hp->Prop),Inv X J1 σ H s->RelV o q->RelV i L->RelV v u->t o i v H Q→
  wpAny (model X.prog X.w) X.A (setItem q L u) (fun _ s'=>∃H',Inv X J1 σ H' s'/\Q H') X.xe s
abbrev TIp:=V->V->Hp->VK->Prop
noncomputable def PIp(X:Cx)(q:Operator)(t:TIp):Prop:=
 ∀(J1:List (J9×Obj))(s:qa4)(σ:St)(H:Hp)(x y:V)(v u:Value)(Q:VK),Inv X J1 σ H s->RelV x v->RelV y u->t x y H Q→
  wpAny (model X.prog X.w) X.A (inplaceOp q v u) (EP X J1 σ Q) X.xe s
variable{es:List Jc}{n:Nat}{tg:Jc}{te:TE}{g:TG}{pos':Pos}
section
variable{X:Cx}{pos:Pos}
def kN(i:Nat):TG:=fun v σ H Q=>Q (σ.set i (some v)) H
theorem rf(O:X.N.Nodup)(hi:X.N[i]?=some x)(W:Loc X.env.scope x)(L:X.fn x=true∨X.env.scope.names.lookup x=some .local:=by first|exact .inl rfl|exact .inr rfl|assumption):PG X (.Name x pos) (kN i):=by intro J1 s σ H v u Q I r h;exact wpAny_assign_Name (iV I O hi W r (fun s' q=>⟨_,H,q,h⟩) L)
def gNil:TGs:=fun vs σ H Q=>vs=[]/\Q σ H
def Dm(t:TG)(u:TGs):TGs:=fun vs σ H Q=>∃v r,vs=v::r/\t v σ H fun q H'=>u r q H' Q
theorem ym:PGs X [] gNil:=by intro J1 s σ H vs us Q I r h;obtain⟨e,h⟩:=h;subst e;cases r;exact assignInOrder_nil ⟨σ,H,I,h⟩
def u1{t:TG}{u:TGs}(h1:PG X e t)(h2:PGs X es u)
 (L:(qm7 (e::es) X.env).map (·.2)=zd3 e X.env::(qm7 es X.env).map (·.2):=by rfl):PGs X (e::es) (Dm t u):=by
 intro J1 s σ H vs us Q I r h;obtain⟨v,Z,W,h⟩:=h;subst W;cases r with
 |cons r Y=>rw[L];refine assignInOrder_cons (thn (h1 J1 s σ H _ _ _ I r h) fun _ s1 ⟨q,H1,O,q1⟩=>?_);exact h2 J1 s1 q H1 _ _ Q O Y q1
def gTup(K:xA9)(n:Nat)(t:TGs):TG:=fun v σ H Q=>∃a xs,v=.ref a/\SqT K H a xs/\xs.length=n/\t xs σ H Q
def Bg{k:Nat}{t:TGs}(hc:X.calm=true)(h:PGs X es t)
 (hn:(qm7 es X.env).length=n:=by rfl) (q:(qm7 es X.env).findIdx? (·.1)=none:=by rfl):PG X (.Tuple es k pos) (gTup X.K n t):=by
 intro J1 s σ H v u Q I r L;obtain⟨a,xs,Z,hq,W,L⟩:=L;subst Z;cases r;obtain⟨J8,O,ht,hz⟩:=I.tuple hq;refine assign_Tuple_tuple (I.ok.hd hc) ht (by simp[hn,<- W,O.length]) q fun h' hx=>?_
 have Y:Inv X J1 σ H {s with heap:=h'}:=I.kept (t':=s.toks) fun b o e=>hx b o (qc0 (qa8 e)) e
 exact h J1 _ σ H xs _ Q Y (by simpa using O) L
def gSub(to ti:TE)(t:Bf):TG:=fun v σ H Q=>to σ H fun o H1=>ti σ H1 fun i H2=>t o i v H2 fun q=>Q σ q
def Bh {o i:Jc} {to ti:TE} {t:Bf} (ho:PE X o to) (hi:PE X i ti) (O:PSet X t)
  (ha:∀v,zd3 (.Subscript o i pos) X.env v=(do
   let q <- zd4 [v] (eval o X.env);let L <- zd4 [v,q] (eval i X.env)
   standAt pos
   zd4 [v,q,L] (setItem q L v)
   release [v,q,L] []):=by intro _;rfl):PG X (.Subscript o i pos) (gSub to ti t):=by
 intro J1 s σ H v u Q I r h;rw[ha];refine wB (qi3 (thn (ho J1 s σ H _ I h) fun q s1 ⟨x,H1,I1,Z,q1⟩=>?_));refine wB (qi3 (thn (hi J1 s1 σ H1 _ I1 q1) fun L s2 ⟨y,H2,Y,W,q2⟩=>?_));refine wB (zg6 (wB (qi3 (thn (O J1 s2 σ H2 x y v q L u _ Y Z W r q2) fun _ s3 ⟨H3,I3,q3⟩=>?_))));exact wpAny_release ⟨σ,H3,I3,q3⟩
def yn(te:TE)(g:TG):TS:=fun D σ H=>te σ H fun x H1=>g x σ H1 D.nx
theorem u2(W:PE X e te)(hg:PG X tg g)(L:zg7 [tg] e pos.line X.env=pure false:=by rfl)(Y:zg8 [tg] e X.env=pure none:=by rfl)
 (h1:(qm7 [tg] X.env).map (·.2)=[zd3 tg X.env]:=by rfl):PS X (.Assign [tg] e pos) (yn te g):=by
 intro J1 s σ H D I h;refine wpAny_Assign_stores (thn (W J1 s σ H _ I h) fun v s1 ⟨x,H1,O,Z,q1⟩=>?_) L Y;rw[h1];exact thn (hg J1 s1 σ H1 x v _ O Z q1) fun _ s2 q=>q
theorem Bi (Z:X.N.Nodup) (hi:X.N[i]?=some x) (hx:Loc X.env.scope x) (W:PE X e te) (q:qn7 e (some (.Name x pos')) pos.line X.env=pure false:=by rfl) (Y:X.fn x=true∨X.env.scope.names.lookup x=some .local:=by first | exact .inl rfl | exact .inr rfl | assumption) :
  PS X (.Assign [.Name x pos'] e pos) (yn te (kN i)):=by
 intro J1 s σ H D I h;refine wpAny_Assign_Name (thn (W J1 s σ H _ I h) fun v s1 ⟨y,H1,L,r1,q1⟩=>?_) q;exact iV L Z hi hx r1 (fun s2 O=>⟨_,H1,O,q1⟩) Y
def tAug(i:Nat)(te:TE)(ti:TIp):TS:=fun D σ H=>∃x,σ[i]?=some (some x)/\te σ H fun y H1=>ti x y H1 fun z H2=>D.nx (σ.set i (some z)) H2
theorem Bj {O:Operator} {ti:TIp} (hN:X.N.Nodup) (hi:X.N[i]?=some x) (W:Loc X.env.scope x) (he:PE X e te) (ho:PIp X O ti) (hf:X.fn x=true∨X.env.scope.names.lookup x=some .local:=by first | exact .inl rfl | exact .inr rfl | assumption) :
  PS X (.AugAssign (.Name x pos') O e pos) (tAug i te ti):=by
 intro J1 s σ H D I h;obtain⟨v,e1,h⟩:=h;obtain⟨m,hn,hl⟩:=I.loc;have Y:Vis X.env.scope x:=by rcases W with k|k;exact .inl k;exact .inr (.inl k)
 obtain⟨u,r,l⟩:=hl i x v hi e1 Y;refine wpAny_AugAssign_Name ?_
 have Z:wpAny (model X.prog X.w) X.A (eval e X.env) (fun w L=>wpAny (model X.prog X.w) X.A (inplaceOp O u w) (fun r s₃=>wpAny (model X.prog X.w) X.A (zd0 X.env x r) (fun _=>SP X J1 D .next) X.xe s₃) X.xe L) X.xe s:=by
  refine thn (he J1 s σ H _ I h) fun w s1 ⟨y,H1,I1,r1,q1⟩=>?_
  refine thn (ho J1 s1 σ H1 v y u w _ I1 r r1 q1) fun z s2 ⟨zv,H2,I2,r2,q2⟩=>?_
  exact iV I2 hN hi W r2 (fun s3 I3=>⟨_,H2,I3,q2⟩) hf
 rcases l with ⟨hk,hm⟩|⟨hk,c,hc,q⟩
 .exact wpAny_loadName_local I.ok.kind hk hn hm Z
 .rcases hk with hk|hk
  .exact wpAny_loadName_cell I.ok.kind hk hc q Z
  .rcases W with k|k
   .have:X.env.scope.names.lookup x=some .free:=hk;rw[k]at this;cases this
   .have:X.env.scope.names.lookup x=some .free:=hk;rw[k]at this;cases this
def ipI(f:Int->Int->Int):TIp:=fun x y H Q=>∃i j,x=.int i/\y=.int j/\Q (.int (f i j)) H
theorem Bk:PIp X .Add (ipI fun i j=>i+j):=by intro J1 s σ H x y v u Q I W O h;obtain⟨i,j,L,Y,q⟩:=h;subst L;subst Y;obtain⟨t,rfl⟩:=W;obtain⟨t',rfl⟩:=O;exact iadd_int ⟨.int _,H,I.tok _,⟨_,rfl⟩,q⟩
end
variable{body:List Jb}{tb:TS}
section
variable{X:Cx}{pos:Pos}
noncomputable def Bl(c:TT)(tb:TS):TS:=fun D σ H=>∃W:Nat->St->Hp->Prop,(∃m,W m σ H)/\∀m σ H,W m σ H→
 c σ H fun b H1=>if b=true then ∃N:St->Hp->Prop,(∀q H',N q H'->∃L,L<m/\W L q H')/\tb {D with nx:=N,ct:=N,bk:=D.nx} σ H1 else D.nx σ H1
theorem u3(hp:zj1 (model X.prog X.w) X.A X.env X.xe)(hc:PT X c tc)(hb:PSs X body tb):PS X (.While c body [] pos) (Bl tc tb):=by
 intro J1 s σ H D I h;obtain⟨W,⟨m0,w0⟩,Y⟩:=h;refine wpAny_While (codeAny_whileLoop (fun n s'=>∃O H',Inv X J1 O H' s'/\W n O H') ?_ m0 ⟨σ,H,I,w0⟩);rintro n s1 ⟨L,H1,I1,w1⟩;refine qm8 hp (thn (hc J1 s1 L H1 _ I1 (Y n L H1 w1)) fun b s2 ⟨H2,I2,q2⟩=>?_);cases b with
 |true=>
  obtain⟨N,hN,q2⟩:=q2;rw[if_pos rfl];refine qm8 hp (thn (hb J1 s2 L H2 _ I2 q2) fun f s3 q3=>?_);cases f with
  |next=>obtain⟨q,Z,I3,n3⟩:=q3;obtain⟨m',hm,w3⟩:=hN q Z n3;exact⟨m',hm,q,Z,I3,w3⟩
  |cont=>obtain⟨q,Z,I3,n3⟩:=q3;obtain⟨m',hm,w3⟩:=hN q Z n3;exact⟨m',hm,q,Z,I3,w3⟩
  |brk=>exact q3
  |ret v=>exact q3
 |false=>rw[if_neg qb4];exact qv5 ⟨L,H2,I2,q2⟩
end
structure It where
 go:Nat->Hp->Prop
 yld:Nat->Hp->V->Hp->Prop
 stop:Nat->Hp->Prop
def iu(X:Cx)(J1:List (J9×Obj))(H:Hp)(b:J9):Prop:=H b=none/\b≠X.env.locals/\b∉X.fs/\(b∈X.ex∨X.s₀.heap.objs.size<=b)/\(∀x c,X.env.cells.lookup x=some c->c≠b)/\∀p∈X.pn++J1,p.1≠b
def Inv.fpOk{H':Hp}(I:Inv X J1 σ H s)(L:s.heap.objs.size<=b)(O:H' b=none):iu X J1 H' b:=by
 refine⟨O,ql6 (qb9 I.lt L),I.nofs L,.inr (qb5 I.sz L),fun x c e z=>?_,fun p hp z=>?_⟩
 .obtain⟨v,q⟩:=I.cell x c e;exact absurd (qb9 q.lt (by rw[z];exact L)) (qn4 _)
 .exact absurd (qb9 (qa8 (I.pin p hp).1) (by rw[z];exact L)) (qn4 _)
structure Turn(P:qc6)(w:Ja)(K:xA9)(tg:Jc)(J:It)(fp:List J9)(it:J9)(tn:Nat->Heap->Prop):Prop where
 mem:it∈fp
 obj:∀i h,tn i h->∀b∈fp,∃o,h.get? b=some o/\∀v,o.data≠.cell v
 keep:∀i h h',tn i h->(∀b∈fp,∀o,h.get? b=some o->h'.get? b=some o)->tn i h'
 item:∀(X:Cx),X.prog=P->X.w=w->X.K=K->X.calm=true->∀(i:Nat)(J1:List (J9×Obj))(s:qa4)(σ:St)(H:Hp)(E:Value->qa4->Prop),Inv X J1 σ H s->(∀b∈fp,iu X J1 H b)->tn i s.heap->J.go i H→
  wpAny (model P w) X.A (qw9 (.ref it)) (fun r s1=>∃u,r=some u∧wpAny (model P w) X.A (qv6 tg (.ref it) u) (fun _ s2=>∃x H',Inv X J1 σ H' s2/\RelV x u/\J.yld i H x H'/\tn (i+1) s2.heap/\∀b∈fp,H' b=none) E s1) E s
 done:∀(X:Cx),X.prog=P->X.w=w->X.K=K->X.calm=true->∀(i:Nat)(J1:List (J9×Obj))(s:qa4)(σ:St)(H:Hp)(E:Value->qa4->Prop),Inv X J1 σ H s->(∀b∈fp,iu X J1 H b)->tn i s.heap->J.stop i H→
  wpAny (model P w) X.A (qw9 (.ref it)) (fun r s1=>r=none/\Inv X J1 σ H s1) E s
 self:∀(A:qd5)(i:Nat)(s:qa4)(Q E:Value->qa4->Prop),tn i s.heap->Q (.ref it) s->wpAny (model P w) A (zi0 (.ref it)) Q E s
abbrev TI:=St->Hp->(It->Hp->Prop)->Prop
noncomputable def PIE(X:Cx)(J1:List (J9×Obj))(σ:St)(tg:Jc)(R:It->Hp->Prop)(q:Value)(L:qa4):Prop:=∃(it:J9)(fp:List J9)(O:Nat->Heap->Prop)(J:It)(H':Hp),q=.ref it/\Inv X J1 σ H' L/\Turn X.prog X.w X.K tg J fp it O/\O 0 L.heap/\(∀b∈fp,iu X J1 H' b)/\R J H'
noncomputable def PI(X:Cx)(tg iter:Jc)(wi:TI):Prop:=
 ∀(J1:List (J9×Obj))(s:qa4)(σ:St)(H:Hp)(R:It->Hp->Prop),Inv X J1 σ H s->wi σ H R→
  wpAny (model X.prog X.w) X.A (eval iter X.env) (fun v s1=>wpAny (model X.prog X.w) X.A (zi0 v) (PIE X J1 σ tg R) X.xe s1) X.xe s
theorem ma{o:Obj}{n:String}{vs:Array Value}(Y:s.heap.get? it=some o)(O:o.cls=.type n)(L:o.data=.fields vs)
 (W:["enumerate","zip","dict_itemiterator","dict_reverseitemiterator","odict_iterator","itertools.zip_longest","itertools.pairwise"].contains n=false) (q:Q () s):wpAny M A (qv6 tg (.ref it) u) Q E s:=by
 unfold qv6
 cases tg<;>first
  |exact qa3 q
  | (cases u<;>first
      |exact qa3 q
      | (refine wB (wpAny_load Y ?_)
         rw[O,L];show wpAny M A (if(["enumerate","zip","dict_itemiterator","dict_reverseitemiterator","odict_iterator","itertools.zip_longest","itertools.pairwise"].contains n&&vs[0]?==some (qf7 _))=true then _ else _) Q E s;rw[if_neg (by intro h;rw[W,zf3]at h;cases h)];exact qa3 q))
def Itl(K:xA9)(a:J9):It:=⟨fun i H=>∃xs x,SqL K H a xs/\xs[i]?=some x,fun i H x H'=>H'=H/\∀xs,SqL K H a xs->xs[i]?=some x,fun i H=>∃xs,SqL K H a xs/\xs.length<=i⟩
def Itt(K:xA9)(a:J9):It:=⟨fun i H=>∃xs x,SqT K H a xs/\xs[i]?=some x,fun i H x H'=>H'=H/\∀xs,SqT K H a xs->xs[i]?=some x,fun i H=>∃xs,SqT K H a xs/\xs.length<=i⟩
def Itr(lo:Int)(n:Nat):It:=⟨fun i _=>i<n,fun i H x H'=>H'=H/\x=.int (lo+i),fun i _=>n<=i⟩
def tD(a it:J9):Turn P w K tg (Itl K a) [it] it (fun i h=>h.IsListIter it a i) where
 mem:=by simp
 obj:=fun i h st b q=>by
  have e:b=it:=by simpa using q
  subst e;obtain⟨o,e,c,d⟩:=st;exact⟨o,e,fun v z=>by rw[d]at z;cases z⟩
 keep:=fun i h h' st k=>st.at fun o e=>k it (by simp) o e
 item:=by
  intro X hP hw Y hc i J1 s σ H E I W st hg;subst hP hw Y;obtain⟨xs,x,O,hx⟩:=hg;obtain⟨J8,rv,p,hz⟩:=I.list O;obtain⟨u,hu,ru⟩:=rv.get hx;obtain⟨f0,f1,f2,f3,f4,Z⟩:=W it (by simp);refine wpAny_pyNext_list_item st p.isList (x:=u) (by simpa using hu) fun h' L sb=>?_
  have I1:Inv X J1 σ H {s with heap:=h'}:=I.turned (t':=s.toks) (fun b o q e=>(sb.2 b q).trans e) f0 f1 f3 f4 Z;obtain⟨o,e,c,d⟩:=id L;exact⟨u,rfl,ma (s:={s with heap:=h'}) e c d (by decide) ⟨x,H,I1,ru,⟨rfl,fun ys hy=>by rw[I.list_inj hy O];exact hx⟩,L,fun b q=>(W b q).1⟩⟩
 done:=by intro X hP hw Y hc i J1 s σ H E I W st hg;subst hP hw Y;obtain⟨xs,O,hx⟩:=hg;obtain⟨J8,rv,p,hz⟩:=I.list O;obtain⟨f0,f1,f2,f3,f4,Z⟩:=W it (by simp);have hl:=rv.length;exact wpAny_pyNext_list_end (I.ok.hd hc) st p.isList (by simp;lia) fun h' eb=>⟨rfl,I.turned (t':=s.toks) (fun b o q e=>eb b o q e) f0 f1 f3 f4 Z⟩
 self:=fun _ _ _ _ _ st h=>wpAny_pyIter_listiter st h
def p6(a it:J9):Turn P w K tg (Itt K a) [it] it (fun i h=>h.IsTupleIter it a i) where
 mem:=by simp
 obj:=fun i h st b q=>by
  have e:b=it:=by simpa using q
  subst e;obtain⟨o,e,c,d⟩:=st;exact⟨o,e,fun v z=>by rw[d]at z;cases z⟩
 keep:=fun i h h' st k=>st.at fun o e=>k it (by simp) o e
 item:=by
  intro X hP hw Y hc i J1 s σ H E I W st hg;subst hP hw Y;obtain⟨xs,x,O,hx⟩:=hg;obtain⟨J8,rv,p,hz⟩:=I.tuple O;obtain⟨u,hu,ru⟩:=rv.get hx;obtain⟨f0,f1,f2,f3,f4,Z⟩:=W it (by simp);refine wpAny_pyNext_tuple_item st (show s.heap.IsTuple a J8.toArray from p) (x:=u) (by simpa using hu) fun h' L sb=>?_
  have I1:Inv X J1 σ H {s with heap:=h'}:=I.turned (t':=s.toks) (fun b o q e=>(sb.2 b q).trans e) f0 f1 f3 f4 Z;obtain⟨o,e,c,d⟩:=id L;exact⟨u,rfl,ma (s:={s with heap:=h'}) e c d (by decide) ⟨x,H,I1,ru,⟨rfl,fun ys hy=>by rw[I.tuple_inj hy O];exact hx⟩,L,fun b q=>(W b q).1⟩⟩
 done:=by intro X hP hw Y hc i J1 s σ H E I W st hg;subst hP hw Y;obtain⟨xs,O,hx⟩:=hg;obtain⟨J8,rv,p,hz⟩:=I.tuple O;obtain⟨f0,f1,f2,f3,f4,Z⟩:=W it (by simp);have hl:=rv.length;exact wpAny_pyNext_tuple_end (I.ok.hd hc) st (show s.heap.IsTuple a J8.toArray from p) (by simp;lia) fun h' eb=>⟨rfl,I.turned (t':=s.toks) (fun b o q e=>eb b o q e) f0 f1 f3 f4 Z⟩
 self:=fun _ _ _ _ _ st h=>wpAny_pyIter_tupleiter st h
theorem p7{w:Ja}(it:J9)(lo:Int)(n:Nat):Turn P w K tg (Itr lo n) [it] it (fun i h=>zf7 h it (lo+(i:Nat)*1) ((n:Int)-(i:Nat)) 1) where
 mem:=by simp
 obj:=fun i h st b q=>by
  have e:b=it:=by simpa using q
  subst e
  exact⟨_,st,fun v z=>by have z':Data.fields _=Data.cell v:=z;cases z'⟩
 keep:=fun i h h' st k=>k it (by simp) _ st
 item:=by
  intro X hP hw Y hc i J1 s σ H E I O st hg;subst hP hw Y;obtain⟨f0,f1,f2,f3,f4,Z⟩:=O it (by simp);have W:=Walks.range (prog:=X.prog) (w:=X.w) (I.ok.hd hc) it lo 1 n;refine W.item i s _ _ hg st fun v h' tk hv L kk=>?_
  obtain⟨t,rfl⟩:=hv;have I1:Inv X J1 σ H {s with heap:=h',toks:=tk}:=I.turned (fun b o q e=>kk b o (by simpa using q) e) f0 f1 f3 f4 Z;refine⟨_,rfl,ma (s:={s with heap:=h',toks:=tk}) (n:="range_iterator") L rfl rfl (by decide) ⟨.int (lo+i),H,I1,⟨t,?_⟩,⟨rfl,rfl⟩,L,fun b q=>(O b q).1⟩⟩;rw[Int.mul_one]
 done:=by intro X hP hw Y hc i J1 s σ H E I O st hg;subst hP hw Y;obtain⟨f0,f1,f2,f3,f4,Z⟩:=O it (by simp);exact zb9 (I.ok.hd hc) st (by have:n<=i:=hg;lia) fun h' eb=>⟨rfl,I.turned (t':=s.toks) (fun b o q e=>eb b o q e) f0 f1 f3 f4 Z⟩
 self:=fun _ _ _ _ _ st h=>zc0 st h
variable{l:Jc}{tl:TE}{fp:List J9}
section
variable{X:Cx}{tg:Jc}
def Dn(K:xA9)(tl:TE):TI:=fun σ H R=>tl σ H fun x H1=>∃a,x=.ref a/\(∃xs,SqL K H1 a xs)/\R (Itl K a) H1
def iTup(K:xA9)(tl:TE):TI:=fun σ H R=>tl σ H fun x H1=>∃a,x=.ref a/\(∃xs,SqT K H1 a xs)/\R (Itt K a) H1
def rg(O:PE X l tl):PI X tg l (Dn X.K tl):=by
 intro J1 s σ H R I h;refine thn (O J1 s σ H _ I h) fun v s1 ⟨x,H1,L,Z,q1⟩=>?_
 obtain⟨a,e,⟨xs,Y⟩,q⟩:=q1;subst e;cases Z;obtain⟨J8,rv,p,hz⟩:=L.list Y;refine qy2 p.isList ?_;refine⟨s1.heap.objs.size,[s1.heap.objs.size],_,_,H1,rfl,L.kept (t':=s1.toks) fun b o e=>gP _ e,tD a _,⟨_,qa7 _ rfl,rfl,rfl⟩,fun b W=>?_,q⟩;have e:b=s1.heap.objs.size:=by simpa using W
 subst e;exact L.fpOk (nL _) (L.hok.fresh (nL _))
def u4(O:PE X l tl):PI X tg l (iTup X.K tl):=by
 intro J1 s σ H R I h;refine thn (O J1 s σ H _ I h) fun v s1 ⟨x,H1,L,Z,q1⟩=>?_
 obtain⟨a,e,⟨xs,Y⟩,q⟩:=q1;subst e;cases Z;obtain⟨J8,rv,p,hz⟩:=L.tuple Y;refine qx0 (show s1.heap.IsTuple a J8.toArray from p) ?_;refine⟨s1.heap.objs.size,[s1.heap.objs.size],_,_,H1,rfl,L.kept (t':=s1.toks) fun b o e=>gP _ e,p6 a _,⟨_,qa7 _ rfl,rfl,rfl⟩,fun b W=>?_,q⟩;have e:b=s1.heap.objs.size:=by simpa using W
 subst e;exact L.fpOk (nL _) (L.hok.fresh (nL _))
theorem u5{R:It->Hp->Prop}{lo hi:Int}{t u v:Tok}{tk:Nat}(I:Inv X J1 σ H s)(h1:-(2^62)<=lo)(h2:lo<2^62)(h3:-(2^62)<=hi)(W:hi<2^62)
 (q:R (Itr lo (hi-lo).toNat) H):wpAny (model X.prog X.w) X.A (zi0 (.ref s.heap.objs.size)) (PIE X J1 σ tg R) E {s with heap:=s.heap.push {cls:=.type "range",data:=.fields #[.int lo t,.int hi u,.int 1 v]},toks:=tk}:=by
 refine wpAny_pyIter_range (IsRange.new ..) (small_one h1 h2 h3 W) ?_;have L:Inv X J1 σ H {s with heap:=s.heap.push {cls:=.type "range",data:=.fields #[.int lo t,.int hi u,.int 1 v]},toks:=tk}:=I.kept fun b o e=>gP _ e
 refine⟨(s.heap.push {cls:=.type "range",data:=.fields #[.int lo t,.int hi u,.int 1 v]}).objs.size,[(s.heap.push {cls:=.type "range",data:=.fields #[.int lo t,.int hi u,.int 1 v]}).objs.size],_,_,H,rfl,L.kept (t':=tk) fun b o e=>gP _ e,p7 _ lo (hi-lo).toNat,?_,fun b Y=>?_,q⟩
 .have O:lo+((0:Nat):Int)*1=lo:=by simp
  have Z:(((hi-lo).toNat:Nat):Int)-((0:Nat):Int)=qc9 lo hi 1:=by rw[rangeSize_one];split<;>lia
  show zf7 _ _ (lo+((0:Nat):Int)*1) ((((hi-lo).toNat:Nat):Int)-((0:Nat):Int)) 1;rw[O,Z];exact qa7 _ rfl
 .have e:b=(s.heap.push {cls:=.type "range",data:=.fields #[.int lo t,.int hi u,.int 1 v]}).objs.size:=by simpa using Y
  subst e;exact L.fpOk (nL _) (L.hok.fresh (nL _))
def Ad(ta:TA):TI:=fun σ H R=>ta σ H fun vs H1=>∃j:Int,vs=[.int j]/\-(2^62)<=j/\j<2^62/\R (Itr 0 j.toNat) H1
theorem tE{a:Jc}{ta:TA}{p pos:Pos}(hg:Gl X "range")(Z:X.mg "range"=none)(Y:PA X [a] ta)(L:qb0 [a] X.env=[(false,eval a X.env)]:=by rfl):PI X tg (.Call (.Name "range" p) [a] [] pos) (Ad ta):=by
 intro J1 s σ H R I h;refine Call_ (gT I hg Z boot_range (qh1 (thn (Y pos J1 s σ H _ I h) fun us s1 ⟨vs,H1,O,r1,q1⟩=>?_) L rfl));obtain⟨j,e,q1,q2,q⟩:=q1;subst e;cases r1 with
 |cons r W=>cases W;obtain⟨t,rfl⟩:=r;exact call_range_1 (u5 O (by lia) (by lia) q1 q2 (by simpa using q))
noncomputable def tFor(wi:TI)(g:TG)(tb:TS):TS:=fun D σ H=>wi σ H fun J H1=>∃W:Nat->Nat->St->Hp->Prop,(∃m,W 0 m σ H1)/\∀i m σ H,W i m σ H→ (J.stop i H/\D.nx σ H)∨(J.go i H/\∃N:St->Hp->Prop,(∀q H',N q H'->∃O,O<m/\W (i+1) O q H')/\∀x H',J.yld i H x H'->g x σ H' fun L H2=>tb {D with nx:=N,ct:=N,bk:=D.nx} L H2)
def jz(fp:List J9)(h:Heap):List (J9×Obj):=fp.filterMap fun b=>(h.get? b).map fun o=>(b,o)
def dZ{o:Obj}(q:b∈fp)(e:h.get? b=some o):(b,o)∈jz fp h:=qx1.mpr ⟨b,q,by rw[e];rfl⟩
def tF{p:J9×Obj}(hp:p∈jz fp h):p.1∈fp/\h.get? p.1=some p.2:=by
 obtain⟨b,O,e⟩:=qx1.mp hp;cases q:h.get? b with
 |none=>rw[q]at e;cases e
 |some o=>rw[q]at e;have L:(b,o)=p:=qd4 e;subst L;exact⟨O,q⟩
theorem Inv.pinned(I:Inv X J1 σ H s)(W:∀b∈fp,iu X J1 H b)(O:∀b∈fp,∃o,s.heap.get? b=some o/\∀v,o.data≠.cell v):Inv X (J1++jz fp s.heap) σ H s:=
 I.pins_of fun p hp=>(qd6.mp hp).elim (fun z=>I.pin p (qc3 _ z)) fun z=>by
  obtain⟨L,e⟩:=tF z;obtain⟨f0,f1,f2,_⟩:=W p.1 L;obtain⟨o,q,d⟩:=O p.1 L;rw[e]at q;cases q
  exact⟨e,f0,f1,f2,d⟩
theorem Inv.unpinned{q:List (J9×Obj)}(I:Inv X (J1++q) σ H s):Inv X J1 σ H s:=I.pins_of fun p hp=>I.pin p (qc3 _ (qf6 _ hp))
theorem Bm{iter:Jc}{wi:TI}{pos:Pos}(hp:zj1 (model X.prog X.w) X.A X.env X.xe)(hc:X.calm=true)(hi:PI X tg iter wi)(hg:PG X tg g)(hb:PSs X body tb)
 (hs:∀x,qj0 iter X.env x=pure x:=by intro _;rfl):PS X (.For tg iter body [] pos) (tFor wi g tb):=by
 intro J1 s σ H D I h;refine wpAny_For (thn (hi J1 s σ H _ I h) fun v s1 h1=>thn h1 fun itv s2 h2=>?_) hs;obtain⟨it,fp,tn,J,H2,e,I2,T,st2,f2,W,⟨m0,w0⟩,turn⟩:=h2;subst e
 -- what stays true of the iterator's objects through the loop
 have L:∀{H':Hp},(∀b∈fp,H' b=none)->∀b∈fp,iu X J1 H' b:=fun hn b hb=>⟨hn b hb,(f2 b hb).2⟩
 refine codeAny_forLoop_any (fun n s'=>∃i Y H',Inv X J1 Y H' s'/\tn i s'.heap/\(∀b∈fp,H' b=none)/\W i n Y H') ?_ m0 ⟨0,σ,H2,I2,st2,fun b hb=>(f2 b hb).1,w0⟩;rintro n s3 ⟨i,O,H3,I3,st3,fr3,w3⟩;rcases turn i n O H3 w3 with ⟨stop,qn⟩|⟨go,N,hN,step⟩
 .refine qm8 hp (thn (T.done X rfl rfl rfl hc i J1 s3 O H3 X.xe I3 (L fr3) st3 stop) fun r s4 ⟨hr,I4⟩=>?_);subst hr;exact qv5 ⟨O,H3,I4,qn⟩
 .refine qm8 hp (thn (T.item X rfl rfl rfl hc i J1 s3 O H3 X.xe I3 (L fr3) st3 go) fun r s4 ⟨u,hr,h4⟩=>?_);subst hr;refine qm8 hp (thn h4 fun _ s5 ⟨x,H5,I5,r5,y5,st5,fr5⟩=>?_);have I5':=I5.pinned (L fr5) (T.obj _ _ st5);refine qm8 hp (thn (hg _ s5 O H5 x u _ I5' r5 (step x H5 y5)) fun _ s6 ⟨σ6,H6,I6,q6⟩=>?_);refine qm8 hp (thn (hb _ s6 σ6 H6 _ I6 q6) fun f s7 q7=>?_)
  have Z:∀{q:St}{H7:Hp},Inv X (J1++jz fp s5.heap) q H7 s7->N q H7->∃m,m<n/\∃i Y H',Inv X J1 Y H' s7/\tn i s7.heap/\(∀b∈fp,H' b=none)/\W i m Y H':=fun {q H7} I7 n7=>by obtain⟨m',hm,w7⟩:=hN q H7 n7;refine⟨m',hm,i+1,q,H7,I7.unpinned,T.keep _ _ _ st5 fun b hb o e=>(I7.pin (b,o) (qc3 _ (qc3 _ (dZ hb e)))).1,fun b hb=>?_,w7⟩;obtain⟨o,e,d⟩:=T.obj _ _ st5 b hb;exact(I7.pin (b,o) (qc3 _ (qc3 _ (dZ hb e)))).2.1
  cases f with
  |next=>obtain⟨q,H7,I7,n7⟩:=q7;exact Z I7 n7
  |cont=>obtain⟨q,H7,I7,n7⟩:=q7;exact Z I7 n7
  |brk=>obtain⟨q,H7,I7,q7⟩:=q7;exact⟨q,H7,I7.unpinned,q7⟩
  |ret v=>obtain⟨x7,q,H7,I7,r7,q7⟩:=q7;exact⟨x7,q,H7,I7.unpinned,r7,q7⟩
end
abbrev R2:=V->V->Hp->VK->Prop
noncomputable def OpR(X:Cx)(f:Value->Value->Sem Value)(r:R2):Prop:=
 ∀(J1:List (J9×Obj))(s:qa4)(σ:St)(H:Hp)(x y:V)(v u:Value)(Q:VK),Inv X J1 σ H s->RelV x v->RelV y u->r x y H Q→
  wpAny (model X.prog X.w) X.A (f v u) (EP X J1 σ Q) X.xe s
noncomputable def UnR(X:Cx)(f:Value->Sem Value)(r:V->Hp->VK->Prop):Prop:=
 ∀(J1:List (J9×Obj))(s:qa4)(σ:St)(H:Hp)(x:V)(v:Value)(Q:VK),Inv X J1 σ H s->RelV x v->r x H Q→
  wpAny (model X.prog X.w) X.A (f v) (EP X J1 σ Q) X.xe s
noncomputable def fC(X:Cx)(f:Value)(r:List V->Hp->VK->Prop):Prop:=
 ∀(J1:List (J9×Obj))(s:qa4)(σ:St)(H:Hp)(xs:List V)(us:List Value)(Q:VK),Inv X J1 σ H s->Vals xs us->r xs H Q→
  wpAny (model X.prog X.w) X.A (call f us) (EP X J1 σ Q) X.xe s
noncomputable def TruR(X:Cx)(r:V->Hp->(Bool->Hp->Prop)->Prop):Prop:=
 ∀(J1:List (J9×Obj))(s:qa4)(σ:St)(H:Hp)(x:V)(v:Value)(Q:Bool->Hp->Prop),Inv X J1 σ H s->RelV x v->r x H Q→
  wpAny (model X.prog X.w) X.A (truthy v) (TP X J1 σ Q) X.xe s
def tOp(r:R2)(ta tb:TE):TE:=fun σ H Q=>ta σ H fun x H1=>tb σ H1 fun y H2=>r x y H2 Q
def tUn(r:V->Hp->VK->Prop)(ta:TE):TE:=fun σ H Q=>ta σ H fun x H1=>r x H1 Q
def rI(C:Int->Int->Prop)(g:Int->Int->V):R2:=fun x y H Q=>∃i j,x=.int i/\y=.int j/\C i j/\Q (g i j) H
def rI0(g:Int->Int->V):R2:=fun x y H Q=>∃i j,x=.int i/\y=.int j/\Q (g i j) H
def rU(g:Int->V):V->Hp->VK->Prop:=fun x H Q=>∃i,x=.int i/\Q (g i) H
variable{f:Value->Value->Sem Value}{r:R2}
section
variable{X:Cx}{a b c:Jc}{ta tb tc:TE}{pos:Pos}
def Bn(ha:PE X a ta)(hb:PE X b tb)(I:Inv X J1 σ H s)
 (h:ta σ H fun x H1=>tb σ H1 fun y H2=>R x y H2) {Q:Value->qa4->Prop} 
 (hf:∀v u O x y H2,Inv X J1 σ H2 O->RelV x v->RelV y u->R x y H2->wpAny (model X.prog X.w) X.A (f v u) Q X.xe O) :
  wpAny (model X.prog X.w) X.A (eval a X.env) (fun v q=>wpAny (model X.prog X.w) X.A (eval b X.env) (fun u L=>wpAny (model X.prog X.w) X.A (f v u) Q X.xe L) X.xe q) X.xe s:=by
 refine thn (ha J1 s σ H _ I h) fun v s1 ⟨x,H1,W,r1,q1⟩=>?_
 refine thn (hb J1 s1 σ H1 _ W q1) fun u O ⟨y,H2,Z,Y,q2⟩=>?_
 exact hf v u O x y H2 Z r1 Y q2
theorem Do{L:Operator}(W:OpR X (ql7 L) r)(Y:PE X a ta)(hb:PE X b tb):PE X (.BinOp a L b pos) (tOp r ta tb):=by intro J1 s σ H Q I h;exact wpAny_BinOp (Bn Y hb I h fun v u s2 x y H2 O Z ry q=>W J1 s2 σ H2 x y v u Q O Z ry q)
theorem Dp{q:UnaryOp}{r:V->Hp->VK->Prop}(O:UnR X (unaryOp q) r)(W:PE X a ta):PE X (.UnaryOp q a pos) (tUn r ta):=by intro J1 s σ H Q I h;exact UnaryOp_ (thn (W J1 s σ H _ I h) fun v s1 ⟨x,H1,L,Y,q1⟩=>O J1 s1 σ H1 x v Q L Y q1)
def opI{C:Int->Int->Prop}{g:Int->Int->Int}
 (L:∀(i j:Int)(t u:Tok)(s:qa4)(Q E:Value->qa4->Prop),C i j->Q (.int (g i j) s.toks) {s with toks:=s.toks+1}->wpAny (model X.prog X.w) X.A (f (.int i t) (.int j u)) Q E s) :
  OpR X f (rI C fun i j=>.int (g i j)):=by
 intro J1 s σ H x y v u Q I O Y h;obtain⟨i,j,rfl,rfl,W,q⟩:=h;obtain⟨t,rfl⟩:=O;obtain⟨t',rfl⟩:=Y;exact L i j t t' s _ _ W ⟨.int (g i j),H,I.tok _,⟨_,rfl⟩,q⟩
def opI0{g:Int->Int->Int}
 (L:∀(i j:Int)(t u:Tok)(s:qa4)(Q E:Value->qa4->Prop),Q (.int (g i j) s.toks) {s with toks:=s.toks+1}->wpAny (model X.prog X.w) X.A (f (.int i t) (.int j u)) Q E s) :
  OpR X f (rI0 fun i j=>.int (g i j)):=by
 intro J1 s σ H x y v u Q I O W h;obtain⟨i,j,rfl,rfl,q⟩:=h;obtain⟨t,rfl⟩:=O;obtain⟨t',rfl⟩:=W;exact L i j t t' s _ _ ⟨.int (g i j),H,I.tok _,⟨_,rfl⟩,q⟩
def Bo{g:Int->Int->Bool}
 (L:∀(i j:Int)(t u:Tok)(s:qa4)(Q E:Value->qa4->Prop),Q (.bool (g i j)) s->wpAny (model X.prog X.w) X.A (f (.int i t) (.int j u)) Q E s) :
  OpR X f (rI0 fun i j=>.bl (g i j)):=by
 intro J1 s σ H x y v u Q I O W h;obtain⟨i,j,rfl,rfl,q⟩:=h;obtain⟨t,rfl⟩:=O;obtain⟨t',rfl⟩:=W;exact L i j t t' s _ _ ⟨.bl (g i j),H,I,rfl,q⟩
def Bp(i j:Int):Prop:=0<=j/\j<=1000000/\i.natAbs<2^64
def CMul(i j:Int):Prop:=(-(2^64)<i/\i<2^64)∨(-(2^64)<j/\j<2^64)
def CMul.ok{i j:Int}(h:CMul i j):IntMulOk i j:=by
 rcases h with ⟨h1,h2⟩|⟨h1,h2⟩
 .exact .of_left (intBits_le_64 h1 h2)
 .exact .of_right (intBits_le_64 h1 h2)
def Bq:OpR X (ql7 .Add) (rI0 fun i j=>.int (i+j)):=opI0 fun _ _ _ _ _ _ _ q=>add_int q
def jA:OpR X (ql7 .Sub) (rI0 fun i j=>.int (i-j)):=opI0 fun _ _ _ _ _ _ _ q=>sub_int q
theorem d9:OpR X (ql7 .Mult) (rI CMul fun i j=>.int (i*j)):=opI fun _ _ _ _ _ _ _ L q=>mul_int q L.ok
theorem bU:OpR X (ql7 .Mod) (rI (fun _ j=>0<j) fun i j=>.int (i%j)):=opI fun i j _ _ _ _ _ L q=>by have h1:(0:Int)<j:=L;exact mod_int' (by lia) (by rw[Int.fmod_eq_emod_of_nonneg i (by lia)];exact q)
theorem u6:OpR X (ql7 .Pow) (rI Bp fun i j=>.int (i^j.toNat)):=opI fun _ _ _ _ _ _ _ L q=>pow_int_small L.1 L.2.1 L.2.2 q
def unI {f:Value->Sem Value} {g:Int->Int}
  (L:∀(i:Int)(t:Tok)(s:qa4)(Q E:Value->qa4->Prop),Q (.int (g i) s.toks) {s with toks:=s.toks+1}->wpAny (model X.prog X.w) X.A (f (.int i t)) Q E s) :
  UnR X f (rU fun i=>.int (g i)):=by
 intro J1 s σ H x v Q I O h;obtain⟨i,rfl,q⟩:=h;obtain⟨t,rfl⟩:=O;exact L i t s _ _ ⟨.int (g i),H,I.tok _,⟨_,rfl⟩,q⟩
def Br:UnR X (unaryOp .USub) (rU fun i=>.int (-i)):=unI fun _ _ _ _ _ q=>neg_int q
end
noncomputable def Bs:V->V->Bool
 |.non,.non=>true|.non,.int _=>true|.int _,.non=>true|.non,.bl _=>true|.bl _,.non=>true|.non,.str _=>true|.str _,.non=>true
 |.int _,.int _=>true|.bl _,.bl _=>true|.str _,.str _=>true|.byt _,.byt _=>true
 |.int _,.str _=>true|.str _,.int _=>true|.bl _,.str _=>true|.str _,.bl _=>true
 |_,_=>false
def rEq:R2:=fun x y H Q=>Bs x y=true/\Q (.bl (decide (x=y))) H
def rNe:R2:=fun x y H Q=>Bs x y=true/\Q (.bl (!decide (x=y))) H
def rh{i j:Int}:decide (V.int i=V.int j)=(i==j):=by rw[qi4];simp
def u7{i j:Bool}:decide (V.bl i=V.bl j)=(i==j):=by rw[qi4];simp
def rj{i j:Str}:decide (V.str i=V.str j)=(i==j):=by rw[qi4];simp
theorem rk{i j:Array UInt8}:decide (V.byt i=V.byt j)=(i.toList==j.toList):=by rw[qi4];cases i;cases j;simp
section
variable{X:Cx}{a b c:Jc}{ta tb tc:TE}{pos:Pos}
theorem bF{Q:VK}{k k':Bool}(I:Inv X J1 σ H s)(q:Q (.bl k) H)(e:k=k'):EP X J1 σ Q (.bool k') s:=by subst e;exact⟨.bl k,H,I,rfl,q⟩
def Dq:OpR X (qh0 .Eq) rEq:=by
 intro J1 s σ H x y v u Q I Y L h;obtain⟨O,q⟩:=h;cases x with
 |non=>
  cases Y;cases y with
  |non=>cases L;exact PySem.EqNone.eq_none_none (bF I q (by simp))
  |bl j=>cases L;exact PySem.EqNone.eq_none_bool (bF I q (by simp))
  |int j=>obtain⟨t',rfl⟩:=L;exact PySem.EqNone.eq_none_int (bF I q (by simp))
  |str j=>obtain⟨t',rfl⟩:=L;exact PySem.EqNone.eq_none_str (bF I q (by simp))
  |_=>exact absurd (show false=true from O) qb4
 |bl i=>
  cases Y;cases y with
  |non=>cases L;exact PySem.EqNone.eq_bool_none (bF I q (by simp))
  |bl j=>cases L;exact eq_bool (bF I q u7)
  |str j=>obtain⟨t',rfl⟩:=L;exact PySem.EqMixed.eq_bool_str (bF I q (by simp))
  |_=>exact absurd (show false=true from O) qb4
 |int i=>
  obtain⟨t,rfl⟩:=Y;cases y with
  |non=>cases L;exact PySem.EqNone.eq_int_none (bF I q (by simp))
  |int j=>obtain⟨t',rfl⟩:=L;exact eq_int (bF I q rh)
  |str j=>obtain⟨t',rfl⟩:=L;exact PySem.EqMixed.eq_int_str (bF I q (by simp))
  |_=>exact absurd (show false=true from O) qb4
 |str i=>
  obtain⟨t,rfl⟩:=Y;cases y with
  |non=>cases L;exact PySem.EqNone.eq_str_none (bF I q (by simp))
  |bl j=>cases L;exact PySem.EqMixed.eq_str_bool (bF I q (by simp))
  |int j=>obtain⟨t',rfl⟩:=L;exact PySem.EqMixed.eq_str_int (bF I q (by simp))
  |str j=>obtain⟨t',rfl⟩:=L;exact eq_str (bF I q rj)
  |_=>exact absurd (show false=true from O) qb4
 |byt i=>
  obtain⟨t,rfl⟩:=Y;cases y with
  |byt j=>obtain⟨t',rfl⟩:=L;exact PySem.W.eq_bytes (bF I q rk)
  |_=>exact absurd (show false=true from O) qb4
 |_=>cases y<;>exact absurd (show false=true from O) qb4
def Dr:OpR X (qh0 .NotEq) rNe:=by
 intro J1 s σ H x y v u Q I Y L h;obtain⟨O,q⟩:=h;cases x with
 |non=>
  cases Y;cases y with
  |non=>cases L;exact PySem.EqNone.ne_none_none (bF I q (by simp))
  |bl j=>cases L;exact PySem.EqNone.ne_none_bool (bF I q (by simp))
  |int j=>obtain⟨t',rfl⟩:=L;exact PySem.EqNone.ne_none_int (bF I q (by simp))
  |str j=>obtain⟨t',rfl⟩:=L;exact PySem.EqNone.ne_none_str (bF I q (by simp))
  |_=>exact absurd (show false=true from O) qb4
 |bl i=>
  cases Y;cases y with
  |non=>cases L;exact PySem.EqNone.ne_bool_none (bF I q (by simp))
  |bl j=>cases L;exact ne_bool (bF I q (congrArg not u7))
  |str j=>obtain⟨t',rfl⟩:=L;exact PySem.EqMixed.ne_bool_str (bF I q (by simp))
  |_=>exact absurd (show false=true from O) qb4
 |int i=>
  obtain⟨t,rfl⟩:=Y;cases y with
  |non=>cases L;exact PySem.EqNone.ne_int_none (bF I q (by simp))
  |int j=>obtain⟨t',rfl⟩:=L;exact ne_int (bF I q (congrArg not rh))
  |str j=>obtain⟨t',rfl⟩:=L;exact PySem.EqMixed.ne_int_str (bF I q (by simp))
  |_=>exact absurd (show false=true from O) qb4
 |str i=>
  obtain⟨t,rfl⟩:=Y;cases y with
  |non=>cases L;exact PySem.EqNone.ne_str_none (bF I q (by simp))
  |bl j=>cases L;exact PySem.EqMixed.ne_str_bool (bF I q (by simp))
  |int j=>obtain⟨t',rfl⟩:=L;exact PySem.EqMixed.ne_str_int (bF I q (by simp))
  |str j=>obtain⟨t',rfl⟩:=L;exact ne_str (bF I q (congrArg not rj))
  |_=>exact absurd (show false=true from O) qb4
 |byt i=>
  obtain⟨t,rfl⟩:=Y;cases y with
  |byt j=>obtain⟨t',rfl⟩:=L;exact PySem.W.ne_bytes (bF I q (congrArg not rk))
  |_=>exact absurd (show false=true from O) qb4
 |_=>cases y<;>exact absurd (show false=true from O) qb4
def md:OpR X (qh0 .Lt) (rI0 fun i j=>.bl (decide (i<j))):=Bo fun _ _ _ _ _ _ _ q=>lt_int q
def Ds:OpR X (qh0 .LtE) (rI0 fun i j=>.bl (decide (i<=j))):=Bo fun _ _ _ _ _ _ _ q=>le_int q
def u8:OpR X (qh0 .Gt) (rI0 fun i j=>.bl (decide (j<i))):=Bo fun _ _ _ _ _ _ _ q=>gt_int q
theorem tG:OpR X (qh0 .In) (fun x y H Q=>∃i j,x=.str i/\y=.str j/\Q (.bl (!(qr4 j i 0 j.length 1).isEmpty)) H):=by intro J1 s σ H x y v u Q I L O h;obtain⟨i,j,rfl,rfl,q⟩:=h;obtain⟨t,rfl⟩:=L;obtain⟨t',rfl⟩:=O;exact in_str (bF I q rfl)
def kO:OpR X (qh0 .Is) (fun x y H Q=>y=.non/\Q (.bl (decide (x=.non))) H):=by
 intro J1 s σ H x y v u Q I L O h;obtain⟨rfl,q⟩:=h;cases O;refine is_none_gen (bF I q ?_)
 cases x<;>first
  |(cases L;rfl)
  |(obtain⟨t,rfl⟩:=L;rfl)
def nq:OpR X (qh0 .IsNot) (fun x y H Q=>y=.non/\Q (.bl (!decide (x=.non))) H):=by
 intro J1 s σ H x y v u Q I L O h;obtain⟨rfl,q⟩:=h;cases O;refine isnot_none_gen (bF I q ?_)
 cases x<;>first
  |(cases L;rfl)
  |(obtain⟨t,rfl⟩:=L;rfl)
def OpR.or{W:R2}(h:OpR X f r)(h':OpR X f W):OpR X f (fun x y H Q=>r x y H Q∨W x y H Q):=by
 intro J1 s σ H x y v u Q I L O q;rcases q with q|q
 .exact h J1 s σ H x y v u Q I L O q
 .exact h' J1 s σ H x y v u Q I L O q
def aR(b:Jc){q:CmpOp}(h:q≠.In:=by decide)(h2:q≠.NotIn:=by decide):qh7 q b=false:=by
 have L:(q==CmpOp.In)=false:=by cases q<;>first|rfl|exact absurd rfl h
 have O:(q==CmpOp.NotIn)=false:=by cases q<;>first|rfl|exact absurd rfl h2
 cases b<;>simp[qh7,L,O]
theorem rl{L:CmpOp}(W:OpR X (qh0 L) r)(Y:PE X a ta)(hb:PE X b tb)(Z:qh7 L b=false):PE X (.Compare a [L] [b] pos) (tOp r ta tb):=by intro J1 s σ H Q I h;exact wpAny_Compare1 (Bn Y hb I h fun v u s2 x y H2 O rx ry q=>W J1 s2 σ H2 x y v u Q O rx ry q) Z
def Du(t:TE):TT:=fun σ H Q=>t σ H fun x H'=>∃k,x=.bl k/\Q k H'
theorem nr{q:CmpOp}(ho:OpR X (qh0 q) r)(ha:PE X a ta)(Y:PE X b tb)(W:qh7 q b=false):PT X (.Compare a [q] [b] pos) (Du (tOp r ta tb)):=by
 intro J1 s σ H Q I h
 refine zd2 (thn (ha J1 s σ H _ I h) fun v s1 ⟨x,H1,I1,Z,q1⟩=>thn (Y J1 s1 σ H1 _ I1 q1) fun u s2 ⟨y,H2,O,L,q2⟩=>thn (ho J1 s2 σ H2 x y v u _ O Z L q2) fun c s3 ⟨z,H3,I3,r3,k,e,q3⟩=>?_) W
 subst e;cases r3;exact qs6 ⟨H3,I3,q3⟩
noncomputable def Bt(K:xA9)(x:V)(H:Hp)(k:Bool):Prop:=
 match x with
 |.non=>k=false
 |.bl b=>k=b
 |.int i=>k=(i != 0)
 |.str y=>y.length<=qb1/\k=((y.length:Int) != 0)
 |.byt y=>y.size<=qb1/\k=((y.size:Int) != 0)
 |.ref p=>(∃xs,SqL K H p xs/\k=!xs.isEmpty)∨(∃xs,SqT K H p xs/\k=!xs.isEmpty)∨∃J6,H p=some (.dK J6)/\k=!J6.isEmpty
 |_=>False
theorem p8{κ:Type}{J6:List (κ×V)}{vs:List (κ×Value)}(r:KV J6 vs):(!vs.isEmpty)=!J6.isEmpty:=by cases r<;>rfl
def kP{J8:List Value}(r:Vals xs J8):(!J8.toArray.isEmpty)=!xs.isEmpty:=by cases r<;>simp
def jB:(qb1:Nat)<2^63:=by rw[qz8];decide
def Bu:TruR X (fun x H Q=>∃k,Bt X.K x H k/\Q k H):=by
 intro J1 s σ H x v Q I rx h;obtain⟨k,e,q⟩:=h;have hl:=jB;have hs:qb1=16777216:=qz8;cases x with
 |non=>cases rx;have e':k=false:=e;subst e';exact truthy_none ⟨H,I,q⟩
 |bl b=>cases rx;have e':k=b:=e;subst e';exact qs6 ⟨H,I,q⟩
 |int i=>obtain⟨t,rfl⟩:=rx;have e':k=(i != 0):=e;subst e';exact PySem.P.truthy_int ⟨H,I,q⟩
 |str y=>obtain⟨t,rfl⟩:=rx;obtain⟨hy,e'⟩:y.length<=qb1/\k=((y.length:Int) != 0):=e;subst e';exact PySem.P.truthy_str (by lia) ⟨H,I.tok _,q⟩
 |byt y=>obtain⟨t,rfl⟩:=rx;obtain⟨hy,e'⟩:y.size<=qb1/\k=((y.size:Int) != 0):=e;subst e';exact PySem.W.truthy_bytes (by lia) ⟨H,I.tok _,q⟩
 |ref p=>
  cases rx;have e':(∃xs,SqL X.K H p xs/\k=!xs.isEmpty)∨(∃xs,SqT X.K H p xs/\k=!xs.isEmpty)∨∃J6,H p=some (.dK J6)/\k=!J6.isEmpty:=e;rcases e' with ⟨xs,hx,e'⟩|⟨xs,hx,e'⟩|⟨J6,hx,e'⟩
  .subst e';obtain⟨J8,r,pl,hz⟩:=I.list hx;have hlen:=r.length;exact wpAny_truthy_list pl.isList (by simp only[qb6];lia) ⟨H,I.tok _,by rw[kP r];exact q⟩
  .subst e';obtain⟨J8,r,pl,hz⟩:=I.tuple hx;have hlen:=r.length;exact truthy_tuple pl (by simp only[qb6];lia) ⟨H,I.tok _,by rw[kP r];exact q⟩
  .subst e';obtain⟨hz,hS,vs,r,m⟩:J6.length<=qb1/\(p==qh9)=false/\∃vs,KV J6 vs/\s.heap.DictOf (ca X.prog X.w) p vs:=I.hok p _ hx;have hlen:J6.length=vs.length:=Paired.length r;exact wpAny_truthy_dict hS m (by lia) ⟨H,I.tok _,by rw[p8 r];exact q⟩
 |_=>exact(show False from e).elim
theorem u9 (W:PE X a ta) (O:∀ q,isTrue a X.env q=(do let v <- q;standAt a.pos;zd4 [v] (truthy v))) :
  PT X a (fun σ H Q=>ta σ H fun x H'=>∃k,Bt X.K x H' k/\Q k H'):=by
 intro J1 s σ H Q I h;exact isTrue_plain (thn (W J1 s σ H _ I h) fun v s1 ⟨x,H1,L,Y,q1⟩=>Bu J1 s1 σ H1 x v Q L Y q1) (O _)
theorem p9:OpR X (ql7 .Add) (fun x y H Q=>∃i j,x=.str i/\y=.str j/\i.length+j.length<=qb1/\Q (.str (i++j)) H):=by intro J1 s σ H x y v u Q I O W h;obtain⟨i,j,rfl,rfl,L,q⟩:=h;obtain⟨t,rfl⟩:=O;obtain⟨t',rfl⟩:=W;exact add_str (fun t' tk=>⟨.str (i++j),H,I.tok _,⟨_,rfl⟩,q⟩) L
def iY{x:V}(r:Vals [x] us):∃u,us=[u]/\RelV x u:=by
 cases r with
 |cons L q=>cases q;exact⟨_,rfl,L⟩
def Dv{x:V}(r:Vals [x,y] us):∃u w',us=[u,w']/\RelV x u/\RelV y w':=by
 cases r with
 |cons L q=>
  cases q with
  |cons W O=>cases O;exact⟨_,_,rfl,L,W⟩
noncomputable def LenV(K:xA9)(x:V)(H:Hp)(n:Nat):Prop:=
 match x with
 |.str y=>y.length<=qb1/\n=y.length
 |.byt y=>y.size<=qb1/\n=y.size
 |.ref p=>(∃xs,SqL K H p xs/\n=xs.length)∨∃xs,SqT K H p xs/\n=xs.length
 |_=>False
def bB:fC X (.builtin "len") (fun xs H Q=>∃x n,xs=[x]/\LenV X.K x H n/\Q (.int n) H):=by
 intro J1 s σ H xs us Q I r h;obtain⟨x,n,rfl,e,q⟩:=h;obtain⟨u,rfl,rx⟩:=iY r;have hl:=jB;have hs:qb1=16777216:=qz8;cases x with
 |str y=>obtain⟨t,rfl⟩:=rx;obtain⟨hy,e'⟩:y.length<=qb1/\n=y.length:=e;subst e';exact len_str (by lia) ⟨.int _,H,I.tok _,⟨_,rfl⟩,q⟩
 |byt y=>obtain⟨t,rfl⟩:=rx;obtain⟨hy,e'⟩:y.size<=qb1/\n=y.size:=e;subst e';exact PySem.W.len_bytes (by lia) ⟨.int _,H,I.tok _,⟨_,rfl⟩,q⟩
 |ref p=>
  cases rx;have e':(∃xs,SqL X.K H p xs/\n=xs.length)∨∃xs,SqT X.K H p xs/\n=xs.length:=e;rcases e' with ⟨xs,hx,e'⟩|⟨xs,hx,e'⟩
  .subst e';obtain⟨J8,r',pl,hz⟩:=I.list hx;have hlen:=r'.length;exact Calls.call_len_list pl.isList (by simp only[qb6];lia) ⟨.int xs.length,H,I.tok _,⟨_,by simp only[qb6];rw[hlen]⟩,q⟩
  .subst e';obtain⟨J8,r',pl,hz⟩:=I.tuple hx;have hlen:=r'.length;exact len_tuple pl (by simp only[qb6];lia) ⟨.int xs.length,H,I.tok _,⟨_,by simp only[qb6];rw[hlen]⟩,q⟩
 |_=>exact(show False from e).elim
end
structure ObjM(h:Heap)(x dx C:J9)(mA:Str->Option Value):Prop where
 obj:h.get? x=some (xO9 C dx)
 ns:h.Ns1 dx mA
 ne:dx≠x
variable{dx:J9}{mA:Str->Option Value}
def tH(n:h.Ns1 dx mA):∃od,h.get? dx=some od/\∀name,PySem.W.lookIn name od=some (mA name):=by
 obtain⟨o,es,ep,Z,hd,hk,_,hm⟩:=n;refine⟨o,Z,fun name=>?_⟩;have e:=hm name;unfold nsFind findBy at e;rw[<- Array.find?_toList]at e;unfold PySem.W.lookIn;rw[hd];dsimp only;split
 .rename_i y q;rw[q]at e;exact congrArg some e
 .rename_i q;rw[q]at e
  have a:es.toList.any (·.refKey)=false:=by rw[List.any_eq_false];intro y O;obtain⟨z,t,L⟩:=hk y (Array.mem_toList_iff.mp O);simp[zj2.refKey,L]
  have Y:¬ es.toList.any (·.refKey)=true:=by rw[a];exact qb4
  rw[if_neg Y];exact congrArg some e
variable{C:J9}
theorem ObjM.look{x:J9}(I:ObjM h x dx C mA):∃od,PySem.W.InstAt h x (xO9 C dx) C (some od)/\∀name,PySem.W.lookIn name od=some (mA name):=
 let ⟨od,ho,hl⟩:=tH I.ns
 ⟨od,⟨I.obj,rfl,rfl,ho⟩,hl⟩
section
variable{prog:qc6}{w:Ja}{A:qd5}{E:Value->qa4->Prop}{s:qa4}{K:xA9}{x dx C f:J9}{mA:Str->Option Value}{name:Str}{v:Value}
end
def RelO.some_of{o:Option Value}(r:RelO (some v) o):∃u,o=some u/\RelV v u:=by
 cases o with
 |none=>exact(show False from r).elim
 |some u=>exact⟨u,rfl,r⟩
section
variable{P:qc6}{w:Ja}{H H':Hp}{h h':Heap}{a C dx:J9}{fs fs':List (Str×V)}
theorem yo(L:HOk P w H h)(e:H a=some (.ins C dx fs)):∃mA,ObjM h a dx C mA/\(∀f,RelO (fs.lookup f) (mA f))/\PySem.Within mA (fs.map (·.1))/\fs.length<=1000/\H dx=some (.own a):=by obtain⟨d,z,O,ob,mA,n,r,q⟩:=(show ObjOk P w H h a (.ins C dx fs)from L a _ e);exact⟨mA,⟨ob,n,O⟩,r,q,z,d⟩
end
structure Cls(K:xA9)(C:J9):Prop where
 pg:PySem.W.plainGet K C Str.empty=true
 hd:PySem.W.hasDictIn K C=true
 po:PySem.W.plainOver K C=true
 sa:PySem.W.findIn K (.ref C) "__setattr__"=some (some (.builtin "object.__setattr__"))
def Cls.get(c:Cls K C)(f:Str):PySem.W.plainGet K C f=true:=c.pg
section
variable{X:Cx}{J1:List (J9×Obj)}{σ:St}{H:Hp}{s:qa4}{a C dx:J9}{fs:List (Str×V)}{f:Str}{v:V}{A:qd5}{E:Value->qa4->Prop}
end
section
variable{X:Cx}{o e value:Jc}{f:Str}{pos pos' tpos:Pos}{ta tv:TE}
end
section
variable{X:Cx}{J1:List (J9×Obj)}{σ:St}{H:Hp}{s:qa4}{A:qd5}{E Q:Value->qa4->Prop}{c:Value}{b:Bool}
inductive TyOf(K:xA9)(H:Hp):V->Value->Prop where
 |non:TyOf K H .non (.type "NoneType")
 |bl (x:Bool):TyOf K H (.bl x) (.type "bool")
 |int (i:Int):TyOf K H (.int i) (.type "int")
 |str (x:Str):TyOf K H (.str x) (.type "str")
 |flt (x:UInt64):TyOf K H (.flt x) (.type "float")
 |lst {a:J9} {xs:List V} (e:H a=some (.lst xs)):TyOf K H (.ref a) (.type "list")
 |frz {a:J9} {o:Obj} {xs:List V} (e:H a=some (.frz o (.lst xs))):TyOf K H (.ref a) (.type "list")
 |tup {a:J9} {xs:List V} (e:H a=some (.tup xs)):TyOf K H (.ref a) (.type "tuple")
 |dK {a:J9} {J6:List (Key×V)} (e:H a=some (.dK J6)):TyOf K H (.ref a) (.type "dict")
 |dT {a:J9} {J6:List (List Key×V)} (e:H a=some (.dT J6)):TyOf K H (.ref a) (.type "dict")
 | ins {a C dx:J9} {fs:List (Str×V)} (e:H a=some (.ins C dx fs)) (cl:Cls K C) (ha:PySem.W.findIn K (.ref C) "__class__"=some (some (.builtin "object.__class__")))
     (hn:PySem.W.specialIn K (.builtin "object.__class__") "__get__"=some (some (.builtin "getset_descriptor.__get__"))) (htk:PySem.W.takesIn K (.builtin "object.__class__")=some true)
     (hm:PySem.W.mroIn K C (.type "object")=some true):TyOf K H (.ref a) (.ref C)
theorem ic {x:V} {t:Value} (I:Inv X J1 σ H s) (L:RelV x u) (ty:TyOf X.K H x t) (e:xL9 X.K t c=some b) (h:∀ tk,Q (.bool b) {s with toks:=tk}) :
  wpAny (model X.prog X.w) A (call (.builtin "isinstance") [u,c]) Q E s:=by
 cases ty with
 |non=>cases (show u=qh6 from L);exact xD9 PySem.W.kitx_none I.kIn qq8 e (fun z=>nomatch z) h
 |bl y=>cases (show u=qv1 y from L);exact xD9 PySem.W.kitx_bool I.kIn qq8 e (fun z=>nomatch z) h
 |int i=>obtain⟨t,q⟩:=(show ∃t,u=zi9 i t from L);cases q;exact xD9 PySem.W.kitx_int I.kIn qq8 e (fun z=>nomatch z) h
 |str y=>obtain⟨t,q⟩:=(show ∃t,u=zj0 y t from L);cases q;exact xD9 PySem.W.kitx_str I.kIn qq8 e (fun z=>nomatch z) h
 |flt y=>obtain⟨t,q⟩:=(show ∃t,u=Value.float y t from L);cases q;exact xD9 PySem.W.kitx_float I.kIn qq8 e (fun z=>nomatch z) h
 |@lst a xs Y=>cases (show u=qf4 a from L);obtain⟨_,_,n,_,h1⟩:=(show ObjOk X.prog X.w H s.heap a (.lst xs)from I.hok a _ Y);exact xD9 xQ9 I.kIn ⟨_,h1,rfl⟩ e (fun z=>nomatch z) h
 |@frz a ob xs Y=>cases (show u=qf4 a from L);obtain⟨_,_,_,n,_,h1⟩:=(show ObjOk X.prog X.w H s.heap a (.frz ob (.lst xs))from I.hok a _ Y);exact xD9 xQ9 I.kIn ⟨_,h1,rfl⟩ e (fun z=>nomatch z) h
 |@tup a xs Y=>cases (show u=qf4 a from L);obtain⟨_,_,_,p⟩:=(show ObjOk X.prog X.w H s.heap a (.tup xs)from I.hok a _ Y);obtain⟨o,h1,h2,_⟩:=p;exact xD9 PySem.W.kitx_tuple I.kIn ⟨o,h1,h2⟩ e (fun z=>nomatch z) h
 |@dK a J6 Y=>cases (show u=qf4 a from L);obtain⟨_,_,vs,_,p⟩:=(show ObjOk X.prog X.w H s.heap a (.dK J6)from I.hok a _ Y);obtain⟨o,es,ep,h1,h2,_⟩:=p;exact xD9 xM9 I.kIn ⟨o,h1,h2.1⟩ e (fun z=>nomatch z) h
 |@dT a J6 Y=>cases (show u=qf4 a from L);obtain⟨_,_,xs,_,o,es,ep,h1,h2,_⟩:=(show ObjOk X.prog X.w H s.heap a (.dT J6)from I.hok a _ Y);exact xD9 xM9 I.kIn ⟨o,h1,h2.1⟩ e (fun z=>nomatch z) h
 |@ins a C dx fs Y cl ha hn Z hm=>cases (show u=qf4 a from L);obtain⟨mA,O,_⟩:=yo I.hok Y;obtain⟨od,J,_⟩:=O.look;exact xD9 (PySem.W.kitx_own (cl.get _) cl.hd ha hn Z hm) I.kIn J e (fun z=>nomatch z) h
end
structure Room(k:Nat)(A:qd5):Prop where
 hd:A.handled=none
 dp:A.depth+3*k+5<recursionLimit
 un:A.units+16*k+200<cLine
theorem Room.mono{k:Nat}(r:Room k A)(h:j<=k):Room j A:=⟨r.hd,by have:=r.dp;lia,by have:=r.un;lia⟩
theorem Room.deeper{k:Nat}(r:Room (k+1) A)(env:Env):Room k (A.deeper env):=⟨r.hd,by have:=r.dp;show A.depth+1+3*k+5<_;lia,by have:=r.un;show A.units+3+16*k+200<_;lia⟩
def Room.depth{k:Nat}(r:Room k A):A.depth<recursionLimit:=by have:=r.dp;lia
def Room.units{k:Nat}(r:Room k A):A.units+64<cLine:=by have:=r.un;lia
def tNil:TA:=fun _ H Q=>Q [] H
def Dw(ta:TE)(q:TA):TA:=fun σ H Q=>ta σ H fun x H1=>q σ H1 fun xs H2=>Q (x::xs) H2
section
variable{X:Cx}{e:Jc}{es:List Jc}{te:TE}{t:TA}{pos:Pos}
def gU:PA X [] tNil:=fun _ _ _ _ H Q I h=>Calls.spliced_nil ⟨[],H,I,.nil,h⟩
theorem dM(Z:PE X e te)(L:PA X es t)(q:qb0 (e::es) X.env=(false,eval e X.env)::qb0 es X.env:=by rfl):PA X (e::es) (Dw te t):=by intro pos J1 s σ H Q I h;rw[q];show wpAny _ _ (spliced ((false,eval e X.env)::ql0 pos (qb0 es X.env))) _ _ s;refine Calls.spliced_cons (thn (Z J1 s σ H _ I h) fun u s1 ⟨x,H1,O,r1,q1⟩=>?_);exact thn (L pos J1 s1 σ H1 _ O q1) fun us s2 ⟨xs,H2,Y,W,q2⟩=>⟨x::xs,H2,Y,.cons r1 W,q2⟩
def tTup(t:TA):TE:=fun σ H Q=>t σ H fun xs H1=>xs.length<=qb1/\∀p,H1 p=none->Q (.ref p) (upd H1 p (.tup xs))
def tLst(t:TA):TE:=fun σ H Q=>t σ H fun xs H1=>xs.length<=qb1/\∀p,H1 p=none->Q (.ref p) (upd H1 p (.lst xs))
theorem Bv{x1}(h:PA X es t):PE X (.Tuple es x1 pos) (tTup t):=by intro J1 s σ H Q I W;refine wpAny_Tuple_spliced (thn (h pos J1 s σ H _ I W) fun us s1 ⟨xs,H1,L,r,z,q⟩=>⟨by rw[<- r.length];exact z,?_⟩);have O:H1 s1.heap.objs.size=none:=L.hok.fresh (nL _);refine⟨.ref s1.heap.objs.size,upd H1 s1.heap.objs.size (.tup xs),L.laid (t':=s1.toks) (fun b u e=>gP _ e) (nL _) ?_,rfl,q _ O⟩;exact⟨z,us,r,⟨_,qa7 _ rfl,rfl,_,rfl⟩⟩
theorem Bw(h:PA X es t):PE X (.List es pos) (tLst t):=by intro J1 s σ H Q I W;refine wpAny_List_spliced (thn (h pos J1 s σ H _ I W) fun us s1 ⟨xs,H1,L,r,z,q⟩=>⟨by rw[<- r.length];exact z,?_⟩);have O:H1 s1.heap.objs.size=none:=L.hok.fresh (nL _);refine⟨.ref s1.heap.objs.size,upd H1 s1.heap.objs.size (.lst xs),L.laid (t':=s1.toks) (fun b u e=>gP _ e) (nL _) ?_,rfl,q _ O⟩;exact⟨z,us,0,r,qa7 _ rfl⟩
end
abbrev Sp:=List V->Hp->VK->XK->Prop
abbrev CXT:=List Env->Hp->qa4->XK->Value->qa4->Prop
structure Env0(P:qc6)(w:Ja)(K:xA9)(mg:Str->Option Value)(base:Heap)(A:qd5)(outer:List Env)(s:qa4)(H:Hp):Prop where
 frames:A.frames=some outer
 mod:Mod K mg base
 bs:∀b o,base.get? b=some o->s.heap.get? b=some o/\H b=none
 bsz:base.objs.size<=s.heap.objs.size
 funs:s.heap.FunFrames base outer
 frf:∀b∈frs outer,H b=none
 hok:HOk P w H s.heap
 bare:zc9 s.gens
 tb:∀p∈dL K,H p.1=some (.ctab p.2)
def CE(outer:List Env)(P:qc6)(w:Ja)(H:Hp)(s:qa4)(Q:VK)(u:Value)(s':qa4):Prop:=∃v H',s'.os=s.os/\zc9 s'.gens/\Un (frs outer) [] H H' s.heap s'.heap/\HOk P w H' s'.heap/\RelV v u/\Q v H'
def CR(CX:CXT)(outer:List Env)(P:qc6)(w:Ja)(H:Hp)(s:qa4)(Q:VK)(E:XK)(r:Result)(s':qa4):Prop:=
 match r with
 |.ok (.ret u)=>CE outer P w H s Q u s'
 |.ok _=>False
 |.error e=>CX outer H s E e s'
structure FnOk(P:qc6)(w:Ja)(K:xA9)(mg:Str->Option Value)(base:Heap)(CX:CXT)(k:Nat)(f:J9)(fd:qp2)(ps:List Str)(sp:Sp):Prop where
 len:∀vs H Q E,sp vs H Q E->vs.length=ps.length
 run:∀(A:qd5)(outer:List Env)(s:qa4)(H:Hp)(args:Args)(us:List Value)(vs:List V)(Q:VK)(E:XK),Room k A->Env0 P w K mg base A outer s H->qz9 s fd args (ps.zip us)->Vals vs us->sp vs H Q E→
  qp6 (model P w) A (.call (.ref f) args) (CR CX outer P w H s Q E) s
variable{mg:Str->Option Value}{base:Heap}{CX:CXT}{fd:qp2}{ps:List Str}{sp:Sp}
def FnOk.imp{k:Nat}{f:J9}{O:Sp}(F:FnOk P w K mg base CX k f fd ps sp)
 (h:∀vs H Q E,O vs H Q E->sp vs H Q E):FnOk P w K mg base CX k f fd ps O:=
 ⟨fun vs H Q E q=>F.len vs H Q E (h _ _ _ _ q),fun A outer s H L us vs Q E Y Z hb hv W=>F.run A outer s H L us vs Q E Y Z hb hv (h _ _ _ _ W)⟩
section
variable{X:Cx}{J1:List (J9×Obj)}{σ:St}{H:Hp}{s s':qa4}
theorem Inv.env0(I:Inv X J1 σ H s):Env0 X.prog X.w X.K X.mg X.base X.A X.stack s H:=⟨I.ok.frames,I.ok.mod,I.bs,qb5 I.ok.bsz I.sz,I.stack,I.stkFree,I.hok,I.bare,fun p hp=>I.base.cts _ _ (I.ok.tb p hp)⟩
theorem Inv.after{Q:VK}(I:Inv X J1 σ H s)(h:CE X.stack X.prog X.w H s Q u s'):EP X J1 σ Q u s':=by obtain⟨v,H',os,L,un,O,r,q⟩:=h;obtain⟨Y,g,d,t,W⟩:=s';obtain rfl:W=s.os:=os;exact⟨v,H',I.call (h':=Y) (g':=g) (d':=d) (t':=t) (ch:=[]) un O L (fun b z=>absurd z (by simp)),r,q⟩
end
def vc(sp:Sp)(dvs:List V)(E:XK)(t:TA):TE:=fun σ H Q=>t σ H fun vs H1=>sp (vs++dvs) H1 Q E
def Binds(K:xA9)(fd:qp2)(ps:List Str)(ds:List Value):Prop:=∀(s:qa4)(us:List Value),K.In s.heap->(us++ds).length=ps.length->qz9 s fd ⟨us,[]⟩ (ps.zip (us++ds))
theorem Binds.all(h:∀us:List Value,us.length=ps.length->zg9 fd ⟨us,[]⟩=pure (ps.zip us)):Binds K fd ps []:=fun s us _ q=>by rw[qg2]at q ⊢;exact .of_eq (h us q)
def qa(CX:CXT)(X:Cx)(E:XK):Prop:=∀(J1:List (J9×Obj))(σ:St)(H:Hp)(s:qa4)(e:Value)(s':qa4),Inv X J1 σ H s->CX X.stack H s E e s'->X.xe e s'
variable{vs:List V}
section
variable{X:Cx}{CX:CXT}{k:Nat}{f C:J9}{fd:qp2}{ps:List Str}{sp:Sp}{dvs:List V}{ds:List Value}{E:XK}{x m:Str}{p pos apos:Pos}{e o:Jc}{es:List Jc}{ta:TE}{t:TA}
theorem Bx{Q:VK}(F:FnOk X.prog X.w X.K X.mg X.base CX k f fd ps sp)(W:Room k X.A)(Z:Binds X.K fd ps ds)(Y:Vals dvs ds)(hx:qa CX X E)
 (I:Inv X J1 σ H s) (r:Vals vs us) (h:sp (vs++dvs) H Q E):wpAny (model X.prog X.w) X.A (call (.ref f) us) (EP X J1 σ Q) X.xe s:=by
 have L:Vals (vs++dvs) (us++ds):=r.append Y;have O:(us++ds).length=ps.length:=by rw[<- L.length];exact F.len _ _ _ _ h
 refine zh6 (qq9 (F.run X.A X.stack s H ⟨us,[]⟩ (us++ds) (vs++dvs) Q E W I.env0 (Z s us I.kIn O) L h) fun r s' q=>?_);cases r with
 |error e=>exact hx J1 σ H s e s' I q
 |ok fl=>
  cases fl with
  |ret u=>exact I.after q
  |next=>exact qg5 q
  |brk=>exact qg5 q
  |cont=>exact qg5 q
theorem yp (F:FnOk X.prog X.w X.K X.mg X.base CX k f fd ps sp) (Z:Room k X.A) (hg:Gl X x) (hm:X.mg x=some (.ref f)) (hk:xE9 X.K (.ref f)=true) (hb:Binds X.K fd ps ds) (hd:Vals dvs ds) (hx:qa CX X E)
  (ha:PA X (e::es) t) (O:(x==("__debug__":Str))=false:=by decide) (he:qb0 (e::es) X.env=(false,eval e X.env)::qb0 es X.env:=by rfl) (L:(ql0 pos (qb0 es X.env)).any (·.1)=false:=by rfl) :
  PE X (.Call (.Name x p) (e::es) [] pos) (vc sp dvs E t):=by
 intro J1 s σ H Q I h;refine qo2 (nn I hg hm ?_ O);refine PySem.W.callWith_K (h₀:=X.base) I.ok.mod.kin hk (thn (ha pos J1 s σ H _ I h) fun us s1 ⟨vs,H1,Y,r,q⟩=>⟨Y.kIn,?_⟩) he L;exact Bx F Z hb hd hx Y r q
end
section
variable{X:Cx}{CX:CXT}{k:Nat}{f C:J9}{fd:qp2}{ps ks:List Str}{sp:Sp}{E:XK}{x m:Str}{p pos apos kpos:Pos}{e o:Jc}{es:List Jc}{kws:List zd5}{te ta:TE}{t tk:TA}{nm:Option Str}
variable{g:List Value->List Value->List Value}{gV:List V->List V->List V}
end
structure FnScope(N P:List Str)(sc:Jd):Prop where
 kind:sc.kind=.function
 co:sc.isCoroutine=false
 gen:sc.isGenerator=false
 nd:N.Nodup
 pre:N.take P.length=P
 par:∀x∈P,sc.names.lookup x=some .local∨sc.names.lookup x=some .cell
 nofree:∀y∈sc.names,y.2≠.free
variable{kindOf:Str->Option qo3}
theorem me:∀{binds:List (Str×Value)}{m:Str->Option Value},(∀v,(x,v)∉binds)->bindL kindOf binds m x=m x
 |[],_,_=>rfl
 |(n,v)::r,m,h=>by
  unfold bindL;rw[me fun w hw=>h w (qd3 _ hw)];split
  .have:x≠n:=by rintro rfl;exact h v qe6
   simp[this]
  .rfl
theorem mf:∀{binds:List (Str×Value)}{m:Str->Option Value},(∀v,(x,v)∉binds)->bindC kindOf binds m x=m x
 |[],_,_=>rfl
 |(n,v)::r,m,h=>by
  unfold bindC;rw[mf fun w hw=>h w (qd3 _ hw)];split
  .rfl
  .have:x≠n:=by rintro rfl;exact h v qe6
   simp[this]
theorem jC {v:Value}:∀ {P:List Str} {vs:List Value} {i:Nat} {m:Str->Option Value},P.Nodup->P[i]?=some x->vs[i]?=some v->kindOf x=some .local→
  bindL kindOf (P.zip vs) m x=some v
 |[],_,_,_,_,h,_,_=>by simp at h
 |_::_,[],_,_,_,_,h,_=>by simp at h
 |p::P,w::vs,0,m,nd,h1,h2,hk=>by
  simp at h1 h2;subst h1;subst h2
  show bindL kindOf ((p,w)::P.zip vs) m p=_;unfold bindL;rw[me fun v hv=>(qi5.mp nd).1 (qv7 hv).1,if_pos hk];simp
 |p::P,w::vs,i+1,m,nd,h1,h2,hk=>by show bindL kindOf ((p,w)::P.zip vs) m x=_;unfold bindL;exact jC (i:=i) (qi5.mp nd).2 (by simpa using h1) (by simpa using h2) hk
theorem jD {v:Value}:∀ {P:List Str} {vs:List Value} {i:Nat} {m:Str->Option Value},P.Nodup->P[i]?=some x->vs[i]?=some v->kindOf x≠some .local→
  bindC kindOf (P.zip vs) m x=some v
 |[],_,_,_,_,h,_,_=>by simp at h
 |_::_,[],_,_,_,_,h,_=>by simp at h
 |p::P,w::vs,0,m,nd,h1,h2,hk=>by
  simp at h1 h2;subst h1;subst h2
  show bindC kindOf ((p,w)::P.zip vs) m p=_;unfold bindC;rw[mf fun v hv=>(qi5.mp nd).1 (qv7 hv).1,if_neg hk];simp
 |p::P,w::vs,i+1,m,nd,h1,h2,hk=>by show bindC kindOf ((p,w)::P.zip vs) m x=_;unfold bindC;exact jD (i:=i) (qi5.mp nd).2 (by simpa using h1) (by simpa using h2) hk
def start(N:List Str)(vs:List V):St:=vs.map some++qf3 (N.length-vs.length) none
noncomputable def kQ(CX:CXT)(P:qc6)(w:Ja)(K:xA9)(mg:Str->Option Value)(base:Heap)(N:List Str)(qual:Str)(scope:Jd)(f:J9)(L:Value)(A:qd5)(outer:List Env)(s:qa4)(H:Hp)(E:XK):Cx where
 prog:=P
 w:=w
 K:=K
 mg:=mg
 base:=base
 A:=A.deeper (qy3 qual scope s.heap.objs.size f L)
 N:=N
 s₀:=s
 H₀:=H
 env:=qy3 qual scope s.heap.objs.size f L
 outer:=outer
 stack:=qy3 qual scope s.heap.objs.size f L::outer
 ex:=[]
 calm:=true
 fn:=fun _=>true
 pn:=[]
 xe:=fun e s'=>wpAny (model P w) (A.deeper (qy3 qual scope s.heap.objs.size f L)) (leaving (qy3 qual scope s.heap.objs.size f L) e) (fun _ q=>CX outer H s E e q) (fun O q=>CX outer H s E O q) s'
theorem iZ{sc:Jd}(h:sc.names.lookup x=some .cell):∃c,(qg8 n sc.names []).lookup x=some c:=by have q:=xR9 sc.names n [] (.inl h);exact qr0.mp q
variable{qual:Str}{scope:Jd}
def tI{f:J9}{Y:Value}{outer:List Env}{s1:qa4}{E:XK} 
 (S:FnScope N ps scope) (hd:A.handled=none) (e0:Env0 P w K mg base A outer s H) (hl:vs.length=ps.length) (r:Vals vs us)
 (x:zd6 s s.heap.objs.size (bindL (qy3 qual scope s.heap.objs.size f Y).kindOf (ps.zip us) fun _=>none) (qg8 (s.heap.objs.size+1) scope.names []) (bindC (qy3 qual scope s.heap.objs.size f Y).kindOf (ps.zip us) fun _=>none) s1) :
  Inv (kQ CX P w K mg base N qual scope f Y A outer s H E) [] (start N vs) H s1:=by
 have hpl:ps.length<=N.length:=by have:=congrArg qq7 S.pre;rw[qq2]at this;lia
 obtain⟨h1,tk,rfl,hk⟩:=x.done;have O:∀b:J9,b∉(kQ CX P w K mg base N qual scope f Y A outer s H E).ex:=fun b z=>absurd (show b∈([]:List J9)from z) (by simp)
 refine⟨⟨e0.mod,S.kind,rfl,rfl,nL _,fun y z c h1 h2=>?_,fun y L=>?_,fun y c _ h=>?_,fun _=>hd,qd5.frames_deeper e0.frames,.inr ⟨rfl,rfl⟩,fun b z=>absurd z (O b),e0.bs,e0.bsz,fun b _ _=>O b,fun b z=>absurd z (O b),e0.funs,e0.frf,e0.tb⟩,rfl,e0.bare,Un.kept hk,⟨_,x.toInCall.ns,fun i y v h1 h2 h3=>?_⟩,fun y c h=>⟨_,x.cell y c h⟩,e0.hok.fresh (qq6 _),fun y c h=>?_,fun p hp=>absurd (show p∈([]:List (J9×Obj))from hp) (by simp),e0.hok.kept hk,?_⟩
 .exact zi1 x.apart (PySem.mem_of_lookup h1) (PySem.mem_of_lookup h2)
 .have L:scope.names.lookup y=some .cell∨scope.names.lookup y=some .free:=L;rcases L with L|L
  .exact iZ L
  .exact absurd rfl (S.nofree _ (PySem.mem_of_lookup L))
 .exact qi8 (x.above y c (PySem.mem_of_lookup h))
 .have hi:i<vs.length:=by
   unfold start at h2;by_cases hi:i<vs.length
   .exact hi
   .rw[qe3 (by simpa using hi)]at h2;rw[qk0]at h2;split at h2<;>cases h2
  have ha:vs[i]?=some v:=by
   unfold start at h2;rw[qc8 (by simpa using hi),qb3]at h2;cases e:vs[i]? with
   |none=>rw[e]at h2;cases h2
   |some a=>rw[e]at h2;cases h2;rfl
  obtain⟨u,Z,rv⟩:=r.get ha
  have hp:ps[i]?=some y:=by rw[<- S.pre,qy4 (by lia)];exact h1
  have W:ps.Nodup:=by rw[<- S.pre];exact S.nd.sublist (qy5 _ _)
  refine⟨u,rv,?_⟩;rcases S.par y (qd0 hp)with k|k
  .exact .inl ⟨k,jC W hp Z k⟩
  .obtain⟨c,e⟩:=iZ (n:=s.heap.objs.size+1) k;refine .inr ⟨.inl k,c,e,?_⟩;have q:=x.cell y c e;rw[jD W hp Z (by show scope.names.lookup y≠_;rw[k];decide)]at q;exact q
 .exact e0.hok.fresh (qi8 (x.above y c (PySem.mem_of_lookup h)))
 .unfold start;show _=N.length;rw[qb7,qa1,ql8];lia
def Ae{k:Nat}{f:J9}{name:Str}{params:qi9}{dV kV doc pm cdv ct oc:Value}{an od:Option J9}
 {osl:Array (Option Value)} (lk:K.lookup f=some ⟨oc,od,.func (xC9 name qual params body scope dV kV doc pm an cdv ct),osl⟩) (hcd:xH9 K cdv qual=true) (S:FnScope N ps scope)
 (len:∀vs H Q E,sp vs H Q E->vs.length=ps.length)
 (Y:∀(A:qd5)(outer:List Env)(s:qa4)(H:Hp)(vs:List V)(Q:VK)(E:XK),Room k (A.deeper (qy3 qual scope s.heap.objs.size f cdv))->sp vs H Q E→
 ∃t,PSs (kQ CX P w K mg base N qual scope f cdv A outer s H E) body t/\t {nx:=fun _ H'=>Q .non H',rt:=Q} (start N vs) H) :
  FnOk P w K mg base CX (k+1) f (xC9 name qual params body scope dV kV doc pm an cdv ct) ps sp:=by
 refine⟨len,fun A outer s H args us vs Q E hr e0 hb r hsp=>?_⟩;have hl:=len _ _ _ _ hsp;have KX:K.In s.heap:=e0.mod.kin.keeps fun b o e=>(e0.bs b o e).1
 have lim:s.heap.NoLimit:=e0.mod.nolimit.keeps fun b o e=>(e0.bs b o e).1
 have O:∀y∈ps.zip us,scope.names.lookup y.1=some .local∨(scope.names.lookup y.1=some .cell/\((qg8 (s.heap.objs.size+1) scope.names []).lookup y.1).isSome=true):=fun⟨n,v⟩ hy=>by
  rcases S.par n (qv7 hy).1 with q|q
  .exact .inl q
  .exact .inr ⟨q,xR9 _ _ _ (.inl q)⟩
 refine zd7 hr.depth (KX _ _ lk) rfl S.co S.gen rfl (PySem.W.codeRec_of KX hcd) (hb _ _ _ _ ?_);refine wpAny_newFunctionEnv_cells S.kind O fun env he s1 x=>?_
 subst he;refine⟨lim.keeps x.toInCall.keep,codeAny_func ?_⟩;obtain⟨t,ht,hq⟩:=Y A outer s H vs Q E (hr.deeper _) hsp;have I:Inv (kQ CX P w K mg base N qual scope f cdv A outer s H E) [] (start N vs) H s1:=tI S hr.hd e0 hl r x;refine qk6 (ht [] s1 (start N vs) H _ I hq) (fun fl s' Z=>?_) fun e s' Z=>Z
 have fin:∀{L:St}{H':Hp}{v:V}{u:Value},Inv (kQ CX P w K mg base N qual scope f cdv A outer s H E) [] L H' s'->RelV v u->Q v H'->CE outer P w H s Q u s':=fun {L H' v u} J rv q=>⟨v,H',J.os,J.bare,J.base,J.hok,rv,q⟩
 cases fl with
 |ret u=>obtain⟨v,L,H',J,rv,q⟩:=Z;exact fin J rv q
 |next=>obtain⟨L,H',J,q⟩:=Z;exact fin (v:=V.non) (u:=qh6) J rfl q
 |brk=>obtain⟨_,_,_,q⟩:=Z;exact qg5 q
 |cont=>obtain⟨_,_,_,q⟩:=Z;exact qg5 q
section
variable{X:Cx}{x:Str}{p pos:Pos}{e:Jc}{es:List Jc}{t:TA}{id T:String}{r:List V->Hp->VK->Prop}
def tCB(r:List V->Hp->VK->Prop)(t:TA):TE:=fun σ H Q=>t σ H fun vs H1=>r vs H1 Q
theorem vd (hc:fC X (.builtin id) r) (hg:Gl X x) (Z:X.mg x=none) (hv:qf2 x=some (.builtin id)) (Y:PA X (e::es) t) (hn:x≠"__name__":=by decide) (L:(x==("__debug__":Str))=false:=by decide)
  (W:qb0 (e::es) X.env=(false,eval e X.env)::qb0 es X.env:=by rfl) (q:(ql0 pos (qb0 es X.env)).any (·.1)=false:=by rfl):PE X (.Call (.Name x p) (e::es) [] pos) (tCB r t):=by
 intro J1 s σ H Q I h;refine qo2 (gT I hg Z hv ?_ hn L);exact PyProof.Rows.callWith_builtin1 (thn (Y pos J1 s σ H _ I h) fun us s1 ⟨vs,H1,O,r1,q1⟩=>hc J1 s1 σ H1 vs us Q O r1 q1) W q
theorem tJ (hc:fC X (.type T) r) (hg:Gl X x) (Z:X.mg x=none) (hv:qf2 x=some (.type T)) (Y:PA X (e::es) t) (hn:x≠"__name__":=by decide) (L:(x==("__debug__":Str))=false:=by decide)
  (W:qb0 (e::es) X.env=(false,eval e X.env)::qb0 es X.env:=by rfl) (q:(ql0 pos (qb0 es X.env)).any (·.1)=false:=by rfl):PE X (.Call (.Name x p) (e::es) [] pos) (tCB r t):=by
 intro J1 s σ H Q I h;refine qo2 (gT I hg Z hv ?_ hn L);exact qh1 (thn (Y pos J1 s σ H _ I h) fun us s1 ⟨vs,H1,O,r1,q1⟩=>hc J1 s1 σ H1 vs us Q O r1 q1) W q
end
end L2
namespace HT
open PySem PyProof.Rows
section
open PySem.SeqAt
open PySem.AutoSeq1 (wpAny_loadPart')
open PySem.MeetsSeq PySem.MeetsSeq2 PySem.MeetsSeq3
end
variable{Q:Value->qa4->Prop}{vu:Value}{lo hi:Option Int}
section
variable{prog:qc6}{w:Ja}{A:qd5}{E:Value->qa4->Prop}{s:qa4}
theorem Ey{t b:J9}{vs q:List Value}(ht:IsTup s.heap t vs.toArray)(hb:IsTup s.heap b q.toArray)(hv:vs≠[])
 (h1:q=[]->Q (.ref t) s) (h2:q≠[]->Q (.ref s.heap.objs.size) {s with heap:=s.heap.push {cls:=.type "tuple",data:=.seq (vs++q).toArray}})
 (hsz:vs.length+q.length<=qb1):wpAny (model prog w) A (ql7 .Add (.ref t) (.ref b)) Q E s:=by
 obtain⟨⟨cls,dd,data,sl⟩,ho,hc,n,hd⟩:=id ht;obtain⟨⟨cls2,Y,data2,O⟩,L,W,n2,Z⟩:=id hb;simp only at hc hd W Z;subst hc hd W Z;have e:vs.toArray++q.toArray=(vs++q).toArray:=by simp
 by_cases hw:q=[]
 .exact qx2 ⟨_,ho,rfl⟩ ⟨_,L,rfl⟩ qu1 za0 PySem.F.slot_tuple_add PySem.F.entry_tuple_add (PySem.F.args_tuple_add_2 _ _)
   (tuple_addW1 t b vs.toArray q.toArray n n2 dd Y sl O (by simpa using hv) (by simp[hw])) ⟨ho,L,h1 hw⟩
 .refine qx2 ⟨_,ho,rfl⟩ ⟨_,L,rfl⟩ qu1 za0 PySem.F.slot_tuple_add PySem.F.entry_tuple_add (PySem.F.args_tuple_add_2 _ _)
   (tuple_addW2 t b vs.toArray q.toArray n n2 dd Y sl O (by simpa using hv) (by simpa using hw) (by rw[qb6,qb6];exact hsz)) ⟨ho,L,?_⟩
  rw[e];exact h2 hw
def sIx(n d:Nat):Option Int->Nat
 |none=>d
 |some v=>if v<0 then(v+(n:Int)).toNat else min v.toNat n
def Dx(n d:Nat):sIx n d none=d:=rfl
theorem Ez(n d k:Nat):sIx n d (some (k:Int))=min k n:=by show(if(k:Int)<0 then((k:Int)+(n:Int)).toNat else min (k:Int).toNat n)=min k n;rw[if_neg (by lia),qd8]
def By(n d:Nat)(L:d<=n)(o:Option Int):sIx n d o<=n:=by
 cases o with
 |none=>exact L
 |some v=>
  show(if v<0 then(v+(n:Int)).toNat else min v.toNat n)<=n;by_cases q:v<0
  .rw[if_pos q];lia
  .rw[if_neg q];exact Nat.min_le_right _ _
theorem rm(v:Int)(n d:Nat):(if v<0 then max (v+(n:Int)) 0 else min v (n:Int))=((sIx n d (some v):Nat):Int):=by
 show(if v<0 then max (v+(n:Int)) 0 else min v (n:Int))=(((if v<0 then(v+(n:Int)).toNat else min v.toNat n):Nat):Int);by_cases q:v<0
 .simp only[if_pos q];lia
 .simp only[if_neg q];lia
theorem qb(lo hi:Option Int)(n:Nat):qp9 lo hi 1 (n:Int)=(((sIx n 0 lo:Nat):Int),((sIx n n hi:Nat):Int)):=by
 have h1:¬ ((1:Int)<0):=by lia
 unfold qp9;simp only[h1,if_false];refine Prod.ext ?_ ?_
 .cases lo with
  |none=>rfl
  |some v=>exact rm v n 0
 .cases hi with
  |none=>rfl
  |some v=>exact rm v n n
def qc(i j:Nat):qm1 (i:Int) (j:Int) 1=j-i:=by
 unfold qm1;have h1:(1:Int) > 0:=by lia
 simp only[h1,if_true,Int.ediv_one];split<;>lia
theorem kR{v:Value}{o:Option Int}{Q:Option Int->qa4->Prop}(p:zf4 v o)(h:Q o s):wpAny (model prog w) A (qj6.Slice.slicePartIndex v) Q E s:=by
 cases p with
 |none=>exact slicePart_none h
 |int i t=>exact slicePart_int h
theorem fU{sl:J9}{vl:Value}{n:Nat}{Q:Int×Int×Nat->qa4->Prop}(O:s.heap.IsSliceOf sl vl vu .none)(W:zf4 vl lo)(Z:zf4 vu hi)
 (h:Q (((sIx n 0 lo:Nat):Int),1,sIx n n hi-sIx n 0 lo) s):wpAny (model prog w) A (qw5 (.ref sl) (pure (n:Int))) Q E s:=by
 obtain⟨os,q,Y,L⟩:=id O;unfold qw5 qj6.Slice.sliceFields;refine wB (wB (qs7 q L (x:=vl) rfl (wB (qs7 q L (x:=vu) rfl (wB (qs7 q L (x:=.none) rfl (qa3 ?_)))))));refine wB (slicePart_none ?_);show wpAny _ _ (if((1:Int)==0)=true then _ else _) _ _ s;rw[if_neg (by decide)];refine wB (kR W (wB (kR Z (wB (qa3 ?_)))));show wpAny _ _ (match qp9 lo hi 1 (n:Int)with|(lo,hi)=>pure (lo,(1:Int),qm1 lo hi 1)) _ _ s;rw[qb lo hi n];show wpAny _ _ (pure (((sIx n 0 lo:Nat):Int),(1:Int),qm1 ((sIx n 0 lo:Nat):Int) ((sIx n n hi:Nat):Int) 1)) _ _ s;rw[qc];exact qa3 h
theorem ve(xs:Array Value)(i k:Nat):((qc7 k).filterMap fun(m:Nat)=>xs[((i:Int)+(m:Int)*1).toNat]?).toArray=((xs.toList.drop i).take k).toArray:=by
 have e:(fun(m:Nat)=>xs[((i:Int)+(m:Int)*1).toNat]?)=fun m=>xs[i+m]?:=by
  funext m;have:((i:Int)+(m:Int)*1).toNat=i+m:=by lia
  rw[this]
 rw[e];have:=pick_run xs i k;rw[List.filterMap_map]at this;have q:((fun x=>xs[x]?) ∘ fun x=>i+x)=fun m=>xs[i+m]?:=rfl
 rw[q]at this;rw[this]
theorem rn{t sl:J9}{L:Array Value}{vl:Value}(W:IsTup s.heap t L)(hs:s.heap.IsSliceOf sl vl vu .none)(pl:zf4 vl lo)(pu:zf4 vu hi)
 (hw:¬ (sIx L.size 0 lo=0/\sIx L.size L.size hi=L.size))
 (h:Q (.ref s.heap.objs.size) {s with heap:=s.heap.push {cls:=.type "tuple",data:=.seq ((L.toList.drop (sIx L.size 0 lo)).take (sIx L.size L.size hi-sIx L.size 0 lo)).toArray}})
 (hsz:L.size<=qb1):wpAny (model prog w) A (za1 (.ref t) (.ref sl)) Q E s:=by
 have O:sizeOk (.seq ((L.toList.drop (sIx L.size 0 lo)).take (sIx L.size L.size hi-sIx L.size 0 lo)).toArray):=by show((L.toList.drop (sIx L.size 0 lo)).take (sIx L.size L.size hi-sIx L.size 0 lo)).toArray.size<=qb1;rw[qb6,qq2,qu2,qe2];lia
 have hj:sIx L.size L.size hi<=L.size:=By _ _ (nL _) hi;obtain⟨os,hos,Y,hds⟩:=id hs;have Z:s.TypeIs (.ref sl) "slice":=⟨os,hos,Y⟩;unfold za1
 try with_reducible refine qi3 ?_
 first|refine wB (qa3 ?_)|skip
 refine wB (wpAny_sequenceKey W.typeIs (by decide) ?_)
 refine wB (qe4 (name:=qa0 "__getitem__") W.typeIs qf8
  (qf0 qf8 W.typeIs entry_tuple_getitem ?_ (args_tuple_getitem _ _)))
 show wpAny _ _ (qw6 (.ref t) >>= _) _ _ s;refine wB (tupleItemsOf_ W ?_);refine wB (qt7 Z ?_);rw[if_pos (by decide)];refine wB (fU hs pl pu ?_)
 have hno:¬ ((((sIx L.size 0 lo:Nat):Int)==0&&(1:Int)==1&&(sIx L.size L.size hi-sIx L.size 0 lo)==L.size)=true):=by intro q;rw[qb2,qb2]at q;have q1:((sIx L.size 0 lo:Nat):Int)=0:=eq_of_beq q.1.1;have q2:sIx L.size L.size hi-sIx L.size 0 lo=L.size:=eq_of_beq q.2;exact hw ⟨by lia,by lia⟩
 show wpAny _ _ (if(((sIx L.size 0 lo:Nat):Int)==0&&(1:Int)==1&&(sIx L.size L.size hi-sIx L.size 0 lo)==L.size)=true then _ else _) _ _ s;rw[if_neg hno,ve]
 first
  |exact wB (m:=qm9 _) (qd1 (qa3 ⟨_,rfl,qa3 h⟩) O)
  |exact wB (m:=qm9 _) (qd1 (wB (qa3 (qa3 ⟨_,rfl,qa3 h⟩))) O)
  |exact wB (wB (m:=qm9 _) (qd1 (qa3 (qa3 ⟨_,rfl,qa3 h⟩)) O))
  |exact wB (wB (m:=qm9 _) (qd1 (qa3 ⟨_,rfl,qa3 h⟩) O))
end
end HT
namespace L2
open PySem PySem.Spec PyProof.Rows
abbrev TO:=St->Hp->(Option Int->Hp->Prop)->Prop
noncomputable def PO(X:Cx)(e:Option Jc)(t:TO):Prop:=
 ∀(J1:List (J9×Obj))(s:qa4)(σ:St)(H:Hp)(Q:Option Int->Hp->Prop),Inv X J1 σ H s->t σ H Q→
  wpAny (model X.prog X.w) X.A (evalPart e X.env) (fun u s'=>∃o H',Inv X J1 σ H' s'/\zf4 u o/\Q o H') X.xe s
def yq:TO:=fun _ H Q=>Q none H
def Dy(t:TE):TO:=fun σ H Q=>t σ H fun x H1=>∃i,x=.int i/\Q (some i) H1
def qd{ns:List Int}:∀{us:List Value},Vals (ns.map V.int) us->zf8 us ns:=by
 induction ns with
 |nil=>intro us r;rw[qj5]at r;cases r;exact .nil
 |cons n ns q=>
  intro us r;rw[qa5]at r;cases r with
  |cons O L=>obtain⟨t,e⟩:=O;subst e;exact .cons n t (q L)
variable{r:V->Option Int->Option Int->Hp->VK->Prop}
section
variable{X:Cx}{e:Jc}{te:TE}{lo hi:Option Jc}{tl th:TO}{pos p2:Pos}
def yr:PO X none yq:=by intro J1 s σ H Q I h;rw[evalPart_none];exact qa3 ⟨none,H,I,.none,h⟩
def yt(h:PE X e te):PO X (some e) (Dy te):=by
 intro J1 s σ H Q I O;rw[evalPart_some];refine thn (h J1 s σ H _ I O) fun u s1 ⟨x,H1,L,W,q1⟩=>?_
 obtain⟨i,rfl,q⟩:=q1;obtain⟨t,rfl⟩:=W;exact⟨some i,H1,L,.int i t,q⟩
noncomputable def SlR(X:Cx)(r:V->Option Int->Option Int->Hp->VK->Prop):Prop:=
 ∀(J1:List (J9×Obj))(s:qa4)(σ:St)(H:Hp)(x:V)(v vl vu:Value)(lo hi:Option Int)(sl:J9)(Q:VK),Inv X J1 σ H s->RelV x v->s.heap.IsSliceOf sl vl vu .none->zf4 vl lo->zf4 vu hi->r x lo hi H Q→
  ∃T id,ze7 (.type T) "__getitem__"=pure (some (.builtin id))/\s.TypeIs v T/\wpAny (model X.prog X.w) X.A (za1 v (.ref sl)) (EP X J1 σ Q) X.xe s
theorem SlR.or{Z:V->Option Int->Option Int->Hp->VK->Prop}(h:SlR X r)(h':SlR X Z):SlR X (fun x lo hi H Q=>r x lo hi H Q∨Z x lo hi H Q):=by
 intro J1 s σ H x v vl vu lo hi sl Q I W L Y O q;rcases q with q|q
 .exact h J1 s σ H x v vl vu lo hi sl Q I W L Y O q
 .exact h' J1 s σ H x v vl vu lo hi sl Q I W L Y O q
def tSl(r:V->Option Int->Option Int->Hp->VK->Prop)(te:TE)(tl th:TO):TE:=fun σ H Q=>te σ H fun x H1=>tl σ H1 fun l H2=>th σ H2 fun u q=>r x l u q Q
theorem oI(hr:SlR X r)(he:PE X e te)(hl:PO X lo tl)(hu:PO X hi th):PE X (.Subscript e (.Slice lo hi none p2) pos) (tSl r te tl th):=by
 intro J1 s σ H Q I h;refine Subscript_ (thn (he J1 s σ H _ I h) fun v s1 ⟨x,H1,I1,Y,q1⟩=>?_);refine wpAny_Slice (thn (hl J1 s1 σ H1 _ I1 q1) fun vl Z ⟨l,H2,W,pl,q2⟩=>thn (hu J1 Z σ H2 _ W q2) fun vu L ⟨u,O,I3,pu,q3⟩=>?_);rw[evalPart_none];refine qa3 ?_;have I4:Inv X J1 σ O {L with heap:=L.heap.push {cls:=.type "slice",data:=.fields #[vl,vu,.none]}}:=I3.kept (t':=L.toks) fun b ob q=>gP _ q
 obtain⟨T,id,hT,ht,hg⟩:=hr J1 {L with heap:=L.heap.push {cls:=.type "slice",data:=.fields #[vl,vu,.none]}} σ O x v vl vu l u L.heap.objs.size Q I4 Y (Heap.IsSliceOf.new ..) pl pu q3;show wpAny (model X.prog X.w) X.A (zh0 e (.Slice lo hi none p2) v (.ref L.heap.objs.size)) (EP X J1 σ Q) X.xe {L with heap:=L.heap.push {cls:=.type "slice",data:=.fields #[vl,vu,.none]}};exact tail_any (ops:=[.ref L.heap.objs.size,v]) ht hT hg (by with_unfolding_all rfl)
def oJ(xs:List V)(lo hi:Option Int):List V:=(xs.drop (HT.sIx xs.length 0 lo)).take (HT.sIx xs.length xs.length hi-HT.sIx xs.length 0 lo)
theorem jX(xs:List V)(lo hi:Option Int):(oJ xs lo hi).length<=xs.length:=by unfold oJ;rw[qq2,qu2];lia
noncomputable def rSlT(K:xA9):V->Option Int->Option Int->Hp->VK->Prop:=fun x lo hi H Q=>∃a xs,x=.ref a/\SqT K H a xs∧¬ (HT.sIx xs.length 0 lo=0/\HT.sIx xs.length xs.length hi=xs.length)/\∀p,H p=none->Q (.ref p) (upd H p (.tup (oJ xs lo hi)))
def Bz:SlR X (rSlT X.K):=by
 intro J1 s σ H x v vl vu lo hi sl Q I rx Y pl pu h;obtain⟨a,xs,rfl,hx,Z,q⟩:=h;cases rx;obtain⟨J8,r,W,O⟩:=I.tuple hx;have L:J8.toArray.size=xs.length:=by rw[qb6];exact r.length.symm
 refine⟨"tuple",_,qf8.lookup,W.typeIs,?_⟩;refine HT.rn W Y pl pu (by rw[L];exact Z) ?_ (by rw[L];exact O);rw[L];refine⟨.ref s.heap.objs.size,_,I.laid (t':=s.toks) (o:=.tup (oJ xs lo hi)) (fun b ob q=>gP _ q) (nL _) ?_,rfl,q _ (I.hok.fresh (nL _))⟩;exact⟨qb5 (jX xs lo hi) O,_,(r.drop (HT.sIx xs.length 0 lo)).take (HT.sIx xs.length xs.length hi-HT.sIx xs.length 0 lo),IsTup.new _ _⟩
noncomputable def Af(K:xA9):R2:=fun x y H Q=>∃a b xs ys,x=.ref a/\y=.ref b/\SqT K H a xs/\SqT K H b ys/\xs≠[]/\xs.length+ys.length<=qb1∧(ys=[]->Q (.ref a) H)/\(ys≠[]->∀p,H p=none->Q (.ref p) (upd H p (.tup (xs++ys))))
def Vals.nil_iff{xs:List V}{us:List Value}(r:Vals xs us):us=[]↔xs=[]:=by
 cases r with
 |nil=>simp
 |cons _ _=>simp
theorem yu:OpR X (ql7 .Add) (Af X.K):=by intro J1 s σ H x y v u Q I Z ry h;obtain⟨a,b,xs,ys,rfl,rfl,ha,hb,hx,Y,q1,q2⟩:=h;cases Z;cases ry;obtain⟨J8,O,p1,_⟩:=I.tuple ha;obtain⟨W,L,p2,_⟩:=I.tuple hb;refine HT.Ey p1 p2 (fun z=>hx (O.nil_iff.mp z)) (fun z=>⟨.ref a,H,I,rfl,q1 (L.nil_iff.mp z)⟩) (fun z=>?_) (by rw[<- O.length,<- L.length];exact Y);refine⟨.ref s.heap.objs.size,_,I.laid (t':=s.toks) (o:=.tup (xs++ys)) (fun b ob q=>gP _ q) (nL _) ?_,rfl,q2 (fun w=>z (L.nil_iff.mpr w)) _ (I.hok.fresh (nL _))⟩;exact⟨by rw[qb7];exact Y,_,O.append L,IsTup.new _ _⟩
end
def ixN(n:Nat)(i:Int):Option Nat:=if 0<=i then(if i<n then some i.toNat else none)else if -(n:Int)<=i then some (i+n).toNat else none
def atI{α:Type}(xs:List α)(i:Int):Option α:=(ixN xs.length i).bind fun j=>xs[j]?
variable{n j:Nat}{i:Int}
def rp(h:ixN n i=some j):seqIndex? i n=some j/\j<n/\-(n:Int)<=i/\i<n:=by
 unfold ixN at h;by_cases q:0<=i
 .rw[if_pos q]at h;by_cases h1:i<n
  .rw[if_pos h1]at h;have e:i.toNat=j:=qd4 h;exact⟨by rw[seqIndex_of q h1,e],by lia,by lia,h1⟩
  .rw[if_neg h1]at h;cases h
 .rw[if_neg q]at h;by_cases h1:-(n:Int)<=i
  .rw[if_pos h1]at h;have e:(i+n).toNat=j:=qd4 h;exact⟨by rw[seqIndex_neg (by lia) h1,e],by lia,h1,by lia⟩
  .rw[if_neg h1]at h;cases h
theorem nu{α:Type}{xs:List α}{v:α}(h:atI xs i=some v):∃j,seqIndex? i xs.length=some j/\xs[j]?=some v/\j<xs.length/\-(xs.length:Int)<=i/\i<xs.length:=by
 unfold atI at h;cases e:ixN xs.length i with
 |none=>rw[e]at h;cases h
 |some j=>rw[e]at h;obtain⟨h1,h2,h3,q⟩:=rp e;exact⟨j,h1,h,h2,h3,q⟩
def yv{α:Type}{xs:List α}{v:α}(h:xs[j]?=some v):atI xs (j:Int)=some v:=by
 have q:j<xs.length:=(gX h).1
 have e:ixN xs.length (j:Int)=some j:=by unfold ixN;rw[if_pos (by lia),if_pos (by lia)];simp
 unfold atI;rw[e];exact h
def rq(b:Jc):Prop:=∀o i,zf9 b false o i=operate [o,i] (za1 o i)
noncomputable def IxR(X:Cx)(r:R2):Prop:=
 ∀(value q:Jc)(J1:List (J9×Obj))(s:qa4)(σ:St)(H:Hp)(x y:V)(v u:Value)(Q:VK),Inv X J1 σ H s->RelV x v->RelV y u->r x y H Q→
  zf9 q false v u=operate [v,u] (za1 v u)->wpAny (model X.prog X.w) X.A (zh0 value q v u) (EP X J1 σ Q) X.xe s
noncomputable def MtR(X:Cx)(id:String)(r:V->List V->Hp->VK->Prop):Prop:=
 ∀(J1:List (J9×Obj))(s:qa4)(σ:St)(H:Hp)(x:V)(xs:List V)(v:Value)(us:List Value)(Q:VK),Inv X J1 σ H s->RelV x v->Vals xs us->r x xs H Q→
  wpAny (model X.prog X.w) X.A (call (.builtin id) (v::us)) (EP X J1 σ Q) X.xe s
variable{J1:List (J9×Obj)}{σ:St}{H:Hp}{s:qa4}{p:J9}{J8 its':List Value}{A:qd5}{y x:V}{u v:Value}
section
variable{X:Cx}{a b:Jc}{ta tb:TE}{pos:Pos}
def IxR.or{r Z:R2}(h:IxR X r)(h':IxR X Z):IxR X (fun x y H Q=>r x y H Q∨Z x y H Q):=by
 intro value L J1 s σ H x y v u Q I W Y q O;rcases q with q|q
 .exact h value L J1 s σ H x y v u Q I W Y q O
 .exact h' value L J1 s σ H x y v u Q I W Y q O
theorem Dz{r:R2}(O:IxR X r)(Y:PE X a ta)(hb:PE X b tb)(L:rq b):PE X (.Subscript a b pos) (tOp r ta tb):=by intro J1 s σ H Q I h;exact Subscript_ (Bn Y hb I h fun v u s2 x y H2 W Z ry q=>O a b J1 s2 σ H2 x y v u Q W Z ry q (L _ _))
def rIxL(K:xA9):R2:=fun x y H Q=>∃p xs i v,x=.ref p/\y=.int i/\SqL K H p xs/\atI xs i=some v/\Q v H
def rIxT(K:xA9):R2:=fun x y H Q=>∃p xs i v,x=.ref p/\y=.int i/\SqT K H p xs/\atI xs i=some v/\Q v H
def rIxS:R2:=fun x y H Q=>∃z i c,x=.str z/\y=.int i/\z.length<=qb1/\atI z.cps.toList i=some c/\Q (.str ⟨#[c]⟩) H
def ix_list:IxR X (rIxL X.K):=by
 intro value slice J1 s σ H x y v u Q I rx ry h hs;obtain⟨p,xs,i,z,rfl,rfl,hq,he,q⟩:=h;cases rx;obtain⟨t,rfl⟩:=ry;obtain⟨J8,r,pl,hz⟩:=I.list hq;obtain⟨j,h1,h2,h3,h4,h5⟩:=nu he;obtain⟨w,ew,rw'⟩:=r.get h2;have hl:=r.length;have hn:=jB;have fin:EP X J1 σ Q w s:=⟨z,H,I,rw',q⟩;by_cases h0:0<=i
 .have hj:i.toNat=j:=by rw[seqIndex_of h0 h5]at h1;exact qd4 h1
  exact item_listR pl.isList h0 (by lia) (by rw[hj];simpa using ew) fin hs
 .have hj:(i+(J8.toArray.size:Int)).toNat=j:=by rw[seqIndex_neg (by lia) h4]at h1;rw[qb6,<- hl];exact qd4 h1
  exact zc1 (x:=w) pl.isList.typeIs slot_list_getitem.lookup
   (wpAny_getItem_list_neg (Q:=fun r s'=>r=w/\EP X J1 σ Q r s') pl.isList (by lia) (by rw[qb6]<;>lia) (by lia) (by rw[hj];simpa using ew) ⟨rfl,fin⟩) hs
def ix_tup:IxR X (rIxT X.K):=by
 intro value slice J1 s σ H x y v u Q I rx ry h hs;obtain⟨p,xs,i,z,rfl,rfl,hq,he,q⟩:=h;cases rx;obtain⟨t,rfl⟩:=ry;obtain⟨J8,r,pl,hz⟩:=I.tuple hq;obtain⟨j,h1,h2,h3,h4,h5⟩:=nu he;obtain⟨w,ew,rw'⟩:=r.get h2;have hl:=r.length;have hn:=jB;have fin:EP X J1 σ Q w s:=⟨z,H,I,rw',q⟩
 exact zc1 (x:=w) pl.typeIs slot_tuple_getitem.lookup
  (getItem_tuple (j:=j) (Q:=fun r s'=>r=w/\EP X J1 σ Q r s') pl (by lia) (by lia) (by rw[qb6,<- hl];exact h1) (by simpa using ew) ⟨rfl,fin⟩) hs
def BA:IxR X rIxS:=by
 intro value slice J1 s σ H x y v u Q I rx ry h hs;obtain⟨z,i,c,rfl,rfl,hz,he,q⟩:=h;obtain⟨t,rfl⟩:=rx;obtain⟨t',rfl⟩:=ry;obtain⟨j,h1,h2,h3,h4,h5⟩:=nu he;have hl:z.cps.toList.length=z.length:=by simp[ze8]
 rw[hl]at h1 h4 h5;have hn:=jB
 exact tail_any (typeIs_str s z t) slot_str_getitem.lookup (getItem_str (c:=c) (by have e1:decide (i < -(2^63:Int))=false:=decide_eq_false (by lia);have e2:decide (i ≥ 2^63)=false:=decide_eq_false (by lia);rw[e1,e2,qu7]) (by rw[h1];simpa using h2) ⟨.str ⟨#[c]⟩,H,I.tok _,⟨_,rfl⟩,q⟩) hs
def rIx(K:xA9):R2:=fun x y H Q=>rIxL K x y H Q∨rIxT K x y H Q∨rIxS x y H Q
def BB:IxR X (rIx X.K):=ix_list.or (ix_tup.or BA)
theorem qe(J8:List Value)(n j:Nat)(u:Value):qo0 (·.setIfInBounds j u) {cls:=.type "list",data:=.seq J8.toArray n}={cls:=.type "list",data:=.seq (J8.set j u).toArray n}:=by simp[qo0]
def Inv.lst {xs:List V} (I:Inv X J1 σ H s) (h:H p=some (.lst xs)) :
  ∃(J8:List Value)(n:Nat),Vals xs J8/\s.heap.get? p=some {cls:=.type "list",data:=.seq J8.toArray n}/\xs.length<=qb1:=by
 obtain⟨z,J8,n,r,e⟩:=I.hok p _ h;exact⟨J8,n,r,e,z⟩
def Inv.lstUpd{xs ys:List V}{L:Nat}{f:Obj->Obj}(I:Inv X J1 σ H s)(h:H p=some (.lst xs))
 (Z:s.heap.get? p=some {cls:=.type "list",data:=.seq J8.toArray n}) (O:f {cls:=.type "list",data:=.seq J8.toArray n}={cls:=.type "list",data:=.seq its'.toArray L}) (r:Vals ys its') (Y:ys.length<=qb1) (t:Nat) :
  Inv X J1 σ (upd H p (.lst ys)) {s with heap:=s.heap.update p f,toks:=t}:=by
 have e:(s.heap.update p f).get? p=some {cls:=.type "list",data:=.seq its'.toArray L}:=by rw[qe5 f Z (by rw[O]<;>rfl),O]
 refine I.write (x:=p) (e:=p) (by rw[h];trivial) (.inl rfl) (fun b u W q=>(ql4 _ _ (qo4 W)).trans q) ⟨_,e⟩ ?_;exact⟨Y,its',L,r,e⟩
def DC:V->V->V->Hp->(Hp->Prop)->Prop:=fun o i v H Q=>∃p xs k j,o=.ref p/\i=.int k/\H p=some (.lst xs)/\ixN xs.length k=some j/\Q (upd H p (.lst (xs.set j v)))
def vf:PSet X DC:=by
 intro J1 s σ H o i v ov iv u Q I ro ri rv h;obtain⟨p,xs,k,j,rfl,rfl,hp,hj,q⟩:=h;cases ro;obtain⟨t,rfl⟩:=ri;obtain⟨J8,n,r,ho,hz⟩:=I.lst hp;obtain⟨h1,h2,h3,h4⟩:=rp hj;have hl:=r.length;have hn:=jB
 have I':Inv X J1 σ (upd H p (.lst (xs.set j v))) {s with heap:=s.heap.update p (qo0 (·.setIfInBounds j u))}:=I.lstUpd hp ho (qe J8 n j u) (r.set rv j) (by rw[List.length_set];exact hz) s.toks
 by_cases h0:0<=k
 .have hk:k.toNat=j:=by rw[seqIndex_of h0 h4]at h1;exact qd4 h1
  exact PySem.W.ki_setAt ho h0 (by lia) (by rw[qb6,<- hl];exact h4) (by rw[hk];exact⟨_,I',q⟩)
 .have hk:(k+(J8.toArray.size:Int)).toNat=j:=by rw[seqIndex_neg (by lia) h3]at h1;rw[qb6,<- hl];exact qd4 h1
  exact PySem.W.ki_setBack ho (by lia) (by rw[qb6,<- hl];exact h3) (by lia) (by rw[hk];exact⟨_,I',q⟩)
theorem nv(lo hi:Option Int)(n:Nat):(qs8 lo hi none n).1=((HT.sIx n 0 lo:Nat):Int)/\(qs8 lo hi none n).2.1=((HT.sIx n n hi:Nat):Int)/\(qs8 lo hi none n).2.2=1:=by
 refine⟨?_,?_,rfl⟩
 .cases lo with
  |none=>simp[qs8,HT.sIx]
  |some i=>
   simp only[qs8,HT.sIx,Option.getD_none,show(1:Int) > 0 by decide,if_true];by_cases h:i<0
   .simp only[h,if_true]<;>lia
   .simp only[h,if_false]<;>lia
 .cases hi with
  |none=>simp[qs8,HT.sIx]
  |some i=>
   simp only[qs8,HT.sIx,Option.getD_none,show(1:Int) > 0 by decide,if_true];by_cases h:i<0
   .simp only[h,if_true]<;>lia
   .simp only[h,if_false]<;>lia
theorem lZ(J8:List Value)(lo hi:Option Int):slicePick J8.toArray lo hi none=((J8.drop (HT.sIx J8.length 0 lo)).take (HT.sIx J8.length J8.length hi-HT.sIx J8.length 0 lo)).toArray:=by obtain⟨h1,h2,h3⟩:=nv lo hi J8.toArray.size;unfold slicePick;rw[h1,h2,h3];simp only[sliceRange_one,pick_run,qb6]<;>rfl
def rSlL(K:xA9):V->Option Int->Option Int->Hp->VK->Prop:=fun x lo hi H Q=>∃a xs,x=.ref a/\SqL K H a xs/\∀p,H p=none->Q (.ref p) (upd H p (.lst (oJ xs lo hi)))
theorem yw:SlR X (rSlL X.K):=by intro J1 s σ H x v vl vu lo hi sl Q I rx W pl Z h;obtain⟨a,xs,rfl,hx,q⟩:=h;cases rx;obtain⟨J8,r,O,Y⟩:=I.list hx;have L:=r.length;refine⟨"list",_,slot_list_getitem.lookup,O.isList.typeIs,?_⟩;refine wpAny_getItem_list_slice O.isList W pl Z .none (by simp) ?_ (by rw[qb6]<;>lia);rw[lZ,<- L];refine⟨.ref s.heap.objs.size,_,I.laid (t':=s.toks) (o:=.lst (oJ xs lo hi)) (fun b ob q=>gP _ q) (nL _) ?_,rfl,q _ (I.hok.fresh (nL _))⟩;exact⟨qb5 (jX xs lo hi) Y,_,0,(r.drop (HT.sIx xs.length 0 lo)).take (HT.sIx xs.length xs.length hi-HT.sIx xs.length 0 lo),qa7 _ rfl⟩
def iy:V->Bool
 |.non=>true
 |.bl _=>true
 |.int _=>true
 |.str _=>true
 |_=>false
def eqV:V->V->Bool
 |.non,.non=>true
 |.bl a,.bl b=>a==b
 |.bl a,.int b=>(if a then 1 else 0)==b
 |.int a,.bl b=>a==(if b then 1 else 0)
 |.int a,.int b=>a==b
 |.str a,.str b=>a==b
 |_,_=>false
def jE(O:RelV y u)(q:RelV x v)(W:iy y=true)(L:iy x=true):qg4 A s u v (eqV y x):=by
 cases y with
 |non=>
  cases O;cases x with
  |non=>cases q;exact zd8 _
  |bl b=>cases q;exact qg4.none_bool b
  |int b=>obtain⟨t,rfl⟩:=q;exact qg4.none_int b t
  |str b=>obtain⟨t,rfl⟩:=q;exact qg4.none_str b t
  |_=>exact absurd (show false=true from L) qb4
 |bl a=>
  cases O;cases x with
  |non=>cases q;exact qg4.bool_none a
  |bl b=>cases q;exact qg4.bool_bool a b
  |int b=>obtain⟨t,rfl⟩:=q;exact qg4.bool_int a b t
  |str b=>obtain⟨t,rfl⟩:=q;exact qg4.bool_str a b t
  |_=>exact absurd (show false=true from L) qb4
 |int a=>
  obtain⟨t',rfl⟩:=O;cases x with
  |non=>cases q;exact qg4.int_none a t'
  |bl b=>cases q;exact qg4.int_bool a t' b
  |int b=>obtain⟨t,rfl⟩:=q;exact qg4.int_int a t' b t
  |str b=>obtain⟨t,rfl⟩:=q;exact qg4.int_str a t' b t
  |_=>exact absurd (show false=true from L) qb4
 |str a=>
  obtain⟨t',rfl⟩:=O;cases x with
  |non=>cases q;exact qg4.str_none a t'
  |bl b=>cases q;exact qg4.str_bool a t' b
  |int b=>obtain⟨t,rfl⟩:=q;exact qg4.str_int a t' b t
  |str b=>obtain⟨t,rfl⟩:=q;exact qg4.str_str a t' b t
  |_=>exact absurd (show false=true from L) qb4
 |_=>exact absurd (show false=true from W) qb4
def eqU(x:V)(u:Value):Bool:=match u with
 |.none=>eqV .non x
 |.bool b=>eqV (.bl b) x
 |.int i _=>eqV (.int i) x
 |.str z _=>eqV (.str z) x
 |_=>false
def vg(r:RelV y u)(f:iy y=true):eqU x u=eqV y x:=by
 cases y with
 |non=>cases r;rfl
 |bl b=>cases r;rfl
 |int i=>obtain⟨t,rfl⟩:=r;rfl
 |str z=>obtain⟨t,rfl⟩:=r;rfl
 |_=>exact absurd (show false=true from f) qb4
theorem i4:∀{xs:List V}{us:List Value},Vals xs us->xs.all iy=true->us.any (eqU x)=xs.any fun y=>eqV y x
 |_,_,.nil,_=>rfl
 |y::xs,u::us,.cons r t,f=>by rw[qk1,qb2]at f;rw[qk2,qk2,vg r f.1,i4 t f.2]
theorem gW(O:RelV x v)(L:iy x=true):∀{xs:List V}{us:List Value},Vals xs us->xs.all iy=true->∀u∈us,qg4 A s u v (eqU x u)
 |_,_,.nil,_=>fun u q=>by cases q
 |y::xs,u::us,.cons r t,f=>fun W q=>by
  rw[qk1,qb2]at f;rcases qa9.mp q with rfl|q
  .rw[vg r f.1];exact jE r O f.1 L
  .exact gW O L t f.2 W q
def inV(x:V)(xs:List V):Bool:=xs.any fun y=>eqV y x
def rIn(K:xA9)(neg:Bool):R2:=fun x y H Q=>∃p xs,y=.ref p/\(SqL K H p xs∨SqT K H p xs)/\iy x=true/\xs.all iy=true/\Q (.bl (if neg then !inV x xs else inV x xs)) H
def tK:OpR X (qh0 .In) (rIn X.K false):=by
 intro J1 s σ H x y v u Q I Z ry h;obtain⟨p,xs,rfl,L,Y,fs,q⟩:=h;cases ry;rcases L with L|L
 .obtain⟨J8,r,W,hz⟩:=I.list L;refine SeqAt.in_listAt (eqU x) W.isList (fun w O=>gW Z Y r fs w (by simpa using O)) ⟨.bl _,H,I,rfl,?_⟩;rw[show J8.toArray.any (eqU x)=J8.any (eqU x)by simp,i4 r fs];exact q
 .obtain⟨J8,r,W,hz⟩:=I.tuple L;refine SeqAt.in_tupleAt (eqU x) W (fun w O=>gW Z Y r fs w (by simpa using O)) ⟨.bl _,H,I,rfl,?_⟩;rw[show J8.toArray.any (eqU x)=J8.any (eqU x)by simp,i4 r fs];exact q
def ny:OpR X (qh0 .NotIn) (rIn X.K true):=by
 intro J1 s σ H x y v u Q I Z ry h;obtain⟨p,xs,rfl,L,Y,fs,q⟩:=h;cases ry;rcases L with L|L
 .obtain⟨J8,r,W,hz⟩:=I.list L;refine SeqAt.notIn_listAt (eqU x) W.isList (fun w O=>gW Z Y r fs w (by simpa using O)) ⟨.bl _,H,I,rfl,?_⟩;rw[show J8.toArray.any (eqU x)=J8.any (eqU x)by simp,i4 r fs];exact q
 .obtain⟨J8,r,W,hz⟩:=I.tuple L;refine SeqAt.notIn_tupleAt (eqU x) W (fun w O=>gW Z Y r fs w (by simpa using O)) ⟨.bl _,H,I,rfl,?_⟩;rw[show J8.toArray.any (eqU x)=J8.any (eqU x)by simp,i4 r fs];exact q
theorem nz:OpR X (qh0 .NotIn) (fun x y H Q=>∃i j,x=.str i/\y=.str j/\Q (.bl (!(!(qr4 j i 0 j.length 1).isEmpty))) H):=by intro J1 s σ H x y v u Q I L O h;obtain⟨i,j,rfl,rfl,q⟩:=h;obtain⟨t,rfl⟩:=L;obtain⟨t',rfl⟩:=O;exact notIn_str ⟨.bl _,H,I,rfl,q⟩
theorem bD:fC X (.type "tuple") (fun xs H Q=>∃p ys,xs=[.ref p]/\((SqL X.K H p ys/\∀l,H l=none->Q (.ref l) (upd H l (.tup ys)))∨(SqT X.K H p ys/\Q (.ref p) H))):=by
 intro J1 s σ H xs us Q I r h;obtain⟨p,ys,rfl,h⟩:=h;obtain⟨u,rfl,rx⟩:=iY r;cases rx;rcases h with ⟨L,q⟩|⟨L,q⟩
 .obtain⟨J8,O,W,Z⟩:=I.list L;have hlen:=O.length;refine call_tuple_list W.isList (fun h' kp=>?_) (by simp only[qb6]<;>lia);have Y:Inv X J1 σ H {s with heap:=h'}:=I.kept (t':=s.toks) kp
  have I2:Inv X J1 σ (upd H h'.objs.size (.tup ys)) {s with heap:=h'.push {cls:=.type "tuple",data:=.seq J8.toArray}}:=Y.laid (t':=s.toks) (fun b o e=>gP _ e) (nL _) (show ObjOk X.prog X.w _ _ _ (.tup ys)from⟨Z,J8,O,IsTup.new _ _⟩)
  exact⟨.ref h'.objs.size,_,I2,rfl,q _ (Y.hok.fresh (nL _))⟩
 .obtain⟨J8,O,W,Z⟩:=I.tuple L;exact call_tuple_same W ⟨.ref p,H,I,rfl,q⟩
noncomputable def tyV(K:xA9)(T:String)(x:V)(H:Hp):Prop:=match x with
 |.str _=>T="str"
 |.int _=>T="int"
 |.ref p=>(T="list"/\∃xs,SqL K H p xs)∨(T="tuple"/\∃o,K.lookup p=some o/\o.cls=.type "tuple"/\o.dict=none)∨(T="dict"/\((∃J6,H p=some (.dK J6))∨∃J6,H p=some (.dT J6)))∨(T="set"/\∃S n,H p=some (.set S n))
 |_=>False
def BC {T:String} (I:Inv X J1 σ H s) (r:RelV x v) (ty:tyV X.K T x H) :
  s.TypeIs v T/\∀a,v=.ref a->∃ob,s.heap.get? a=some ob/\ob.dict=none:=by
 cases x with
 |str z=>obtain⟨t,rfl⟩:=r;cases (show T="str" from ty);exact⟨typeIs_str s z t,fun _ e=>nomatch e⟩
 |int i=>obtain⟨t,rfl⟩:=r;cases (show T="int" from ty);exact⟨typeIs_int s i t,fun _ e=>nomatch e⟩
 |ref p=>
  cases r;rcases ty with ⟨rfl,xs,W⟩|⟨rfl,o,hk,Y,q⟩|⟨rfl,hk⟩|⟨rfl,S,n,hk⟩
  .obtain⟨J8,_,O,_⟩:=I.list W;refine⟨O.isList.typeIs,fun a e=>?_⟩;cases e;obtain⟨o,n,e,c,q,_⟩:=O;exact⟨o,e,q⟩
  .refine⟨⟨o,I.kIn p o hk,Y⟩,fun a e=>?_⟩;cases e;exact⟨o,I.kIn _ o hk,q⟩
  .have z:∃o,s.heap.get? p=some o/\o.ExactDict:=by
    rcases hk with ⟨J6,hk⟩|⟨J6,hk⟩
    .obtain⟨_,_,_,_,o,_,_,e,ex,_⟩:=I.hok p _ hk;exact⟨o,e,ex⟩
    .obtain⟨_,_,_,_,o,_,_,e,ex,_⟩:=I.hok p _ hk;exact⟨o,e,ex⟩
   obtain⟨o,e,ex⟩:=z;refine⟨⟨o,e,ex.1⟩,fun a L=>?_⟩;cases L;exact⟨o,e,ex.2.1⟩
  .obtain⟨o,_,_,_,e,ex,_⟩:=I.hok p _ hk;refine⟨⟨o,e,ex.1⟩,fun a L=>?_⟩;cases L;exact⟨o,e,ex.2.1⟩
 |_=>exact qg5 ty
def tBM(K:xA9)(T:String)(r:V->List V->Hp->VK->Prop)(to:TE)(t:TA):TE:=fun σ H Q=>to σ H fun x H1=>tyV K T x H1/\t σ H1 fun xs H2=>r x xs H2 Q
variable{o e:Jc}{es:List Jc}{to:TE}{t:TA}{name:Str}{apos cpos:Pos}{T id:String}{r:V->List V->Hp->VK->Prop}
theorem vh (pa:PlainAttrs T) (slot:Slot T name id) (Y:typeOf (.builtin id)=pure (.type "method_descriptor")) (hm:MtR X id r) (ho:PE X o to) (ha:PA X (e::es) t)
  (L:za2 o name X.env (eval o X.env)=eval o X.env:=by rfl)
  (W:((ql0 cpos (qb0 (e::es) X.env)).all (fun x=>!x.1)&&(backToKw cpos (zg0 [] X.env)).all (fun x=>x.1.isSome)
   && decide ((e::es).length+([]:List zd5).length+(if([]:List zd5).isEmpty then 0 else 1)<30))=true:=by rfl)
  (O:(apos.endLine==cpos.line)=true:=by rfl) (hs:qb0 (e::es) X.env=(false,eval e X.env)::qb0 es X.env:=by rfl) (q:(ql0 cpos (qb0 es X.env)).any (·.1)=false:=by rfl) :
  PE X (.Call (.Attribute o name apos) (e::es) [] cpos) (tBM X.K T r to t):=by
 intro J1 s σ H Q I h;refine wpAny_Call_method_late L W O rfl (thn (ho J1 s σ H _ I h) fun v s1 ⟨x,H1,I1,Z,ty,q1⟩=>?_);obtain⟨h1,h2⟩:=BC I1 Z ty;refine⟨T,id,pa,slot,Y,h1,h2,?_⟩;have hA:=ha cpos J1 s1 σ H1 _ I1 q1;rw[hs]at hA ⊢;refine Calls.callWith_builtin (by show(false||(ql0 cpos (qb0 es X.env)).any (·.1))=false;rw[q]<;>rfl) (Calls.evalArgs_plain ?_);exact thn hA fun us s2 ⟨vs,H2,I2,r2,q2⟩=>hm J1 s2 σ H2 x vs v us Q I2 Z r2 q2
/- xs.append(e),list.index on a module's tuple .. are MtR facts of 06m -/
end
noncomputable def MtM(X:Cx)(id:String)(r:V->List V->Hp->VK->Prop):Prop:=
 ∀(J1:List (J9×Obj))(s:qa4)(σ:St)(H:Hp)(x:V)(xs:List V)(v:Value)(us:List Value)(Q:VK),Inv X J1 σ H s->RelV x v->Vals xs us->r x xs H Q→
  wpAny (model X.prog X.w) X.A (call (.builtin id) (v::us)) (EP X J1 σ Q) X.xe s
def Vals.one:∀{x:V}{us:List Value},Vals [x] us->∃u,us=[u]/\RelV x u
 |_,_,.cons r .nil=>⟨_,rfl,r⟩
variable{t':Nat}
section
variable{X:Cx}{J1:List (J9×Obj)}{σ:St}{H:Hp}{s:qa4}{l b:J9}{xs ys zs:List V}
def Inv.lset{f:Array Value->Array Value}(I:Inv X J1 σ H s)(hH:H l=some (.lst xs))
 (e:s.heap.get? l=some {cls:=.type "list",data:=.seq J8.toArray n}) (O:f J8.toArray=its'.toArray) (Y:Vals ys its') (Z:ys.length<=qb1) :
  Inv X J1 σ (upd H l (.lst ys)) {s with heap:=s.heap.update l (qo0 f),toks:=t'}:=by
 have q:=PySem.IsL.update e f;rw[O]at q;refine I.write (x:=l) (e:=l) (by rw[hH];exact trivial) (.inl rfl) (fun b' u W L=>(ql4 s.heap (qo0 f) (qo4 W)).trans L) ⟨_,q⟩ ?_;exact⟨Z,its',_,Y,q⟩
def Inv.lnew (I:Inv X J1 σ H s) (L:Vals ys J8) (O:ys.length<=qb1) :
  Inv X J1 σ (upd H s.heap.objs.size (.lst ys)) {s with heap:=s.heap.push {cls:=.type "list",data:=.seq J8.toArray},toks:=t'}:=
 I.laid (fun _ _ q=>gP _ q) (nL _) ⟨O,J8,0,L,qa7 _ rfl⟩
def Inv.fresh(I:Inv X J1 σ H s):H s.heap.objs.size=none:=I.hok.fresh (nL _)
theorem Inv.lstM(I:Inv X J1 σ H s)(q:H l=some (.lst xs)):xs.length<=qb1/\∃(J8:List Value)(n:Nat),Vals xs J8/\xs.length=J8.length/\s.heap.get? l=some {cls:=.type "list",data:=.seq J8.toArray n}:=by obtain⟨z,J8,n,r,e⟩:=I.hok l _ q;exact⟨z,J8,n,r,r.length,e⟩
def vi(h:n<=qb1):qr1 n=false:=by unfold qr1;exact decide_eq_false (by lia)
end
section
variable{X:Cx}
def yx:V->List V->Hp->VK->Prop:=fun x vs H Q=>∃l xs y,x=.ref l/\vs=[y]/\H l=some (.lst xs)/\xs.length<qb1/\Q .non (upd H l (.lst (xs++[y])))
theorem jF:MtM X "list.append" yx:=by intro J1 s σ H x vs v us Q I Y W h;obtain⟨l,xs,y,rfl,rfl,L,hz,q⟩:=h;cases Y;obtain⟨u,rfl,O⟩:=W.one;obtain⟨z,J8,n,r,Z,e⟩:=I.lstM L;refine call_meets F.slot_list_append ⟨_,e,rfl⟩ F.entry_list_append (F.args_list_append_2 _ _) (PySem.list_append l J8.toArray n u (by rw[qb6];lia)) ⟨e,?_⟩;refine⟨.non,_,I.lset (its':=J8++[u]) L e (by simp) (r.append (.cons O .nil)) ?_,rfl,q⟩;rw[qb7,ql9];lia
def yy:V->List V->Hp->VK->Prop:=fun x vs H Q=>∃l b xs zs,x=.ref l/\vs=[.ref b]/\H l=some (.lst xs)/\H b=some (.lst zs)/\xs.length+zs.length<=qb1/\Q .non (upd H l (.lst (xs++zs)))
def tM:MtM X "list.extend" yy:=by
 intro J1 s σ H x vs v us Q I rx rv h;obtain⟨l,b,xs,zs,rfl,rfl,Y,hB,hz,q⟩:=h;cases rx;obtain⟨u,rfl,ru⟩:=rv.one;cases ru;obtain⟨z,J8,n,r,hl,e⟩:=I.lstM Y;obtain⟨z2,L,n2,Z,hl2,e2⟩:=I.lstM hB;have W:J8.toArray.size+L.toArray.size<=qb1:=by rw[qb6,qb6];lia
 have O:¬ (!J8.toArray.isEmpty&&qr1 (J8.toArray.size+L.toArray.size))=true:=by rw[vi W,qt4];exact qb4
 refine call_meets F.slot_list_extend ⟨_,e,rfl⟩ F.entry_list_extend (F.args_list_extend_2 _ _)
  (AutoSeq1.list_extend_list_list_0 l J8.toArray n b L.toArray n2 O (by rw[qb6];lia) (by lia)) ⟨e,e2,?_⟩
 refine⟨.non,_,I.lset (its':=J8++L) Y e (by simp) (r.append Z) ?_,rfl,q⟩;rw[qb7];lia
end
section
variable{prog:qc6}{w:Ja}{A:qd5}{E:Value->qa4->Prop}{s:qa4}
end
section
variable{X:Cx}
end
variable{o:Option V}
section
variable{κ:Type}[DecidableEq κ]
def fV(J6:List (κ×V))(k:κ):Option V:=(J6.find? fun kv=>decide (kv.1=k)).map (·.2)
def gl(J6:List (κ×V))(k:κ)(v:V):List (κ×V):=if(J6.any fun kv=>decide (kv.1=k))=true then J6.map (fun kv=>if kv.1=k then(kv.1,v)else kv)else J6++[(k,v)]
def i5{p:κ×V}{r:List (κ×V)}{k:κ}(e:p.1=k):fV (p::r) k=some p.2:=by simp[fV,qo5,e]
def gY{p:κ×V}{r:List (κ×V)}{k:κ}(e:¬ p.1=k):fV (p::r) k=fV r k:=by simp[fV,qo5,e]
def oK(k:κ):∀J6:List (κ×V),(J6.any fun kv=>decide (kv.1=k))=(fV J6 k).isSome
 |[]=>rfl
 |p::r=>by
  rw[qk2];by_cases e:p.1=k
  .simp only[i5 e,decide_eq_true e,zi2,Option.isSome_some]
  .rw[gY e,decide_eq_false e,zh1];exact oK k r
def jY(J6:List (κ×V))(k:κ)(v:V):(gl J6 k v).length<=J6.length+1:=by
 unfold gl;split
 .rw[qa1];lia
 .rw[qb7,qc2,qv8];lia
def RelO.isSome_eq{u:Option Value}(r:RelO o u):o.isSome=u.isSome:=by
 cases o with
 |none=>cases u with
  |none=>rfl
  |some _=>exact(show False from r).elim
 |some _=>cases u with
  |none=>exact(show False from r).elim
  |some _=>rfl
theorem RelO.getD{u:Option Value}{d:V}{d':Value}(r:RelO o u)(rd:RelV d d'):RelV (o.getD d) (u.getD d'):=by
 cases o with
 |none=>cases u with
  |none=>exact rd
  |some _=>exact(show False from r).elim
 |some _=>cases u with
  |none=>exact(show False from r).elim
  |some _=>exact r
def KV.val{J6:List (κ×V)}{vs:List (κ×Value)}(r:KV J6 vs)(k:κ):RelO (fV J6 k) (zg1 vs k):=by
 unfold KV at r;induction r with
 |nil=>exact qq8
 |@cons p q ps qs h t O=>
  obtain⟨h1,h2⟩:=h;by_cases e:p.1=k
  .have L:q.1=k:=h1.symm.trans e;have b:zg1 (q::qs) k=some q.2:=by simp[zg1,qo5,L]
   rw[i5 e,b];exact h2
  .have L:¬ q.1=k:=fun z=>e (h1.trans z)
   have b:zg1 (q::qs) k=zg1 qs k:=by simp[zg1,qo5,L]
   rw[gY e,b];exact O
theorem KV.any{J6:List (κ×V)}{vs:List (κ×Value)}(r:KV J6 vs)(k:κ):(J6.any fun kv=>decide (kv.1=k))=vs.any fun kv=>decide (kv.1=k):=by
 unfold KV at r;induction r with
 |nil=>rfl
 |cons h t q=>rw[qk2,qk2,q,h.1]
def KV.repl {J6:List (κ×V)} {vs:List (κ×Value)} (r:KV J6 vs) (k:κ) (O:RelV y u) :
  KV (J6.map fun kv=>if kv.1=k then(kv.1,y)else kv) (vs.map fun kv=>if kv.1=k then(kv.1,u)else kv):=by
 unfold KV at r ⊢;induction r with
 |nil=>exact .nil
 |@cons p q ps qs h t L=>
  rw[qa5,qa5];refine .cons ?_ L;obtain⟨h1,h2⟩:=h;by_cases e:p.1=k
  .rw[if_pos e,if_pos (h1.symm.trans e)];exact⟨h1,O⟩
  .rw[if_neg e,if_neg (fun z=>e (h1.trans z))];exact⟨h1,h2⟩
theorem KV.put{J6:List (κ×V)}{vs:List (κ×Value)}(r:KV J6 vs)(k:κ)(q:RelV y u):KV (gl J6 k y) (stored vs k u):=by
 unfold gl stored;rw[r.any k];by_cases e:(vs.any fun kv=>decide (kv.1=k))=true
 .rw[if_pos e,if_pos e];exact r.repl k q
 .rw[if_neg e,if_neg e];exact Paired.snoc r ⟨rfl,q⟩
theorem KV.length{J6:List (κ×V)}{vs:List (κ×Value)}(r:KV J6 vs):J6.length=vs.length:=Paired.length r
end
variable{P:qc6}{w:Ja}
def kS{k:Key}(r:RelV (kV k) u):(ca P w).is k u=true:=by
 cases k with
 |inl i=>obtain⟨t,e⟩:=(show ∃t,u=zi9 i t from r);subst e;exact oG P w i t
 |inr x=>obtain⟨t,e⟩:=(show ∃t,u=zj0 x t from r);subst e;exact gO P w x t
def mh:∀{ks:List Key}{us:List Value},Vals (ks.map kV) us->ItemsAre (ca P w) ks us
 |[],_,r=>by rw[qj5]at r;cases r;exact .nil
 |k::ks,_,r=>by
  rw[qa5]at r;cases r with
  |cons h t=>exact .cons (kS h) (mh t)
abbrev KT(H:Hp):List (List Key×V)->List (List Key×J9×Value)->Prop:=Paired fun p q=>p.1=q.1/\H q.2.1=some (.tup (p.1.map kV))/\RelV p.2 q.2.2
variable{J6:List (List Key×V)}{xs:List (List Key×J9×Value)}
def KT.val(r:KT H J6 xs)(k:List Key):RelO (fV J6 k) ((atKey xs k).map (·.2)):=by
 induction r with
 |nil=>exact qq8
 |@cons p q ps qs h t O=>
  obtain⟨h1,_,h2⟩:=h;by_cases e:p.1=k
  .have L:q.1=k:=h1.symm.trans e;have b:atKey (q::qs) k=some q.2:=by simp[atKey,qo5,L]
   rw[i5 e,b];exact h2
  .have L:¬ q.1=k:=fun z=>e (h1.trans z)
   have b:atKey (q::qs) k=atKey qs k:=by simp[atKey,qo5,L]
   rw[gY e,b];exact O
def KT.repl (r:KT H J6 xs) (k:List Key) (O:RelV y u) :
  KT H (J6.map fun kv=>if kv.1=k then(kv.1,y)else kv) (xs.map (putAt k u)):=by
 induction r with
 |nil=>exact .nil
 |@cons p q ps qs h t L=>
  rw[qa5,qa5];refine .cons ?_ L;obtain⟨h1,h2,h3⟩:=h;unfold putAt;by_cases e:p.1=k
  .rw[if_pos e,if_pos (h1.symm.trans e)];exact⟨h1,h2,O⟩
  .rw[if_neg e,if_neg (fun z=>e (h1.trans z))];exact⟨h1,h2,h3⟩
variable{b:J9}
def KT.put (r:KT H J6 xs) (k:List Key) (O:H b=some (.tup (k.map kV))) (L:RelV y u) :
  KT H (gl J6 k y) (storedH xs k b u):=by
 have e:(J6.any fun kv=>decide (kv.1=k))=(atKey xs k).isSome:=by rw[oK,(r.val k).isSome_eq,qk7]
 unfold gl storedH;rw[e];by_cases q:(atKey xs k).isSome=true
 .rw[if_pos q,if_pos q];exact r.repl k L
 .rw[if_neg q,if_neg q];exact Paired.snoc r ⟨rfl,O,L⟩
variable{H':Hp}
theorem KT.keeps(r:KT H J6 xs)(q:∀b ys,H b=some (.tup ys)->H' b=some (.tup ys)):KT H' J6 xs:=Paired.mapP r fun _ _ z=>⟨z.1,q _ _ z.2.1,z.2.2⟩
section
variable{P:qc6}{w:Ja}{H:Hp}{h:Heap}{a:J9}
def Ag{u:HO}(ok:HOk P w H h)(e:Rd H a u):ObjOk P w H h a u:=e.ok ok
theorem mi{J6:List (Key×V)}(ok:HOk P w H h)(e:Rd H a (.dK J6)):J6.length<=qb1/\(a==qh9)=false/\∃vs,KV J6 vs/\h.DictOf (ca P w) a vs:=show ObjOk P w H h a (.dK J6)from Ag ok e
theorem DD{J6:List (Key×V)}(ok:HOk P w H h)(e:H a=some (.dK J6)):J6.length<=qb1/\(a==qh9)=false/\∃vs,KV J6 vs/\h.DictOf (ca P w) a vs:=mi ok (.inl e)
theorem kT{ks:List Key}(ok:HOk P w H h)(e:H a=some (.tup (ks.map kV))):(zg5 (ca P w)).is h ks a:=by obtain⟨_,J8,r,o,h1,h2,n,h3⟩:=(show ObjOk P w H h a (.tup (ks.map kV))from ok a _ e);exact⟨o,J8.toArray,n,h1,h2,h3,by simpa using mh r⟩
def oM (ok:HOk P w H h) (e:Rd H a (.dT J6)):J6.length<=qb1/\(a==qh9)=false∧
  ∃xs,KT H J6 xs/\h.DictOfH (zg5 (ca P w)) a xs:=by
 obtain⟨z,y,xs,r,o,es,ep,h1,h2,h3,Y,Z⟩:=(show ObjOk P w H h a (.dT J6)from Ag ok e);refine⟨z,y,xs,r,o,es,ep,h1,h2,h3,Y,fun x L=>?_,Z⟩
 have all:∀{l:List (List Key×V)}{m:List (List Key×J9×Value)},KT H l m->∀x∈m,(zg5 (ca P w)).is h x.1 x.2.1:=by
  intro l m q;induction q with
  |nil=>intro x L;exact nomatch L
  |@cons p q ps qs O t W=>
   intro x L;rcases qa9.mp L with e|L
   .subst e;exact kT ok (by rw[<- O.1];exact O.2.1)
   .exact W x L
 exact all r x L
theorem DE(ok:HOk P w H h)(e:H a=some (.dT J6)):J6.length<=qb1/\(a==qh9)=false∧∃xs,KT H J6 xs/\h.DictOfH (zg5 (ca P w)) a xs:=oM ok (.inl e)
end
def DGet(H:Hp)(a:J9)(y:V)(r:Option V):Prop:=(∃J6 k,Rd H a (.dK J6)/\y=kV k/\r=fV J6 k)∨∃J6 k b,Rd H a (.dT J6)/\y=.ref b/\H b=some (.tup (k.map kV))/\r=fV J6 k
noncomputable def DPut(H:Hp)(a:J9)(y v:V)(H':Hp):Prop:=
 (∃J6 k,H a=some (.dK J6)/\y=kV k/\J6.length<qb1/\H'=upd H a (.dK (gl J6 k v)))∨
 ∃J6 k b,H a=some (.dT J6)/\y=.ref b/\H b=some (.tup (k.map kV))/\J6.length<qb1/\H'=upd H a (.dT (gl J6 k v))
variable{a:J9}
theorem DGet.k{J6:List (Key×V)}{k:Key}(e:H a=some (.dK J6)):DGet H a (kV k) (fV J6 k):=.inl ⟨J6,k,.inl e,rfl,rfl⟩
theorem DGet.t{k:List Key}(e:H a=some (.dT J6))(q:H b=some (.tup (k.map kV))):DGet H a (.ref b) (fV J6 k):=.inr ⟨J6,k,b,.inl e,rfl,q,rfl⟩
theorem DPut.k{J6:List (Key×V)}{k:Key}{v:V}(e:H a=some (.dK J6))(q:J6.length<qb1):DPut H a (kV k) v (upd H a (.dK (gl J6 k v))):=.inl ⟨J6,k,e,rfl,q,rfl⟩
theorem DPut.t {k:List Key} {v:V} (e:H a=some (.dT J6)) (L:H b=some (.tup (k.map kV))) (q:J6.length<qb1) :
  DPut H a (.ref b) v (upd H a (.dT (gl J6 k v))):=.inr ⟨J6,k,b,e,rfl,L,q,rfl⟩
variable{Q:Value->qa4->Prop}{h':Heap}
section
variable{X:Cx}{J1:List (J9×Obj)}{σ:St}{H:Hp}{s:qa4}{a:J9}{y v:V}{u r:Value}{o:Option V}{A:qd5}{E:Value->qa4->Prop}
theorem Inv.big(I:Inv X J1 σ H s):qh9<s.heap.objs.size:=by have h:qc1<s.heap.objs.size:=(I.mod.glob.keeps I.bk).lt;exact qx3 (by decide) h
theorem tN (hu:A.units+1<cLine) (I:Inv X J1 σ H s) (g:DGet H a y (some v)) (ry:RelV y u) (h:∀ O s',Inv X J1 σ H s'->RelV v O->Q O s') :
  wpAny (model X.prog X.w) A (za1 (.ref a) u) Q E s:=by
 rcases g with ⟨J6,k,e,ey,l⟩|⟨J6,k,b,e,ey,eb,l⟩
 .subst ey;obtain⟨z,hd,vs,L,Y⟩:=mi I.hok e;obtain⟨O,W,q⟩:=RelO.some_of (v:=v) (o:=zg1 vs k) (by rw[l];exact L.val k);exact wpAny_getItem_of (kS ry) Y.mapOf W (h O _ (I.tok _) q)
 .subst ey;cases (show u=qf4 b from ry);obtain⟨z,hd,xs,L,Y⟩:=oM I.hok e;obtain⟨O,W,q⟩:=RelO.some_of (v:=v) (o:=(atKey xs k).map (·.2)) (by rw[l];exact L.val k);obtain⟨p,hp,Z⟩:=mS W;refine wpAny_getItem_heap (qr5 hu) (kT I.hok eb) Y hp ?_;rw[Z];exact h O _ (I.tok _) q
theorem d_in (hu:A.units+1<cLine) (I:Inv X J1 σ H s) (g:DGet H a y o) (Z:RelV y u) (h:∀ s',Inv X J1 σ H s'->Q (.bool o.isSome) s') :
  wpAny (model X.prog X.w) A (qh0 .In u (.ref a)) Q E s:=by
 rcases g with ⟨J6,k,e,Y,l⟩|⟨J6,k,b,e,Y,eb,l⟩
 .subst Y;obtain⟨z,W,vs,L,O⟩:=mi I.hok e;refine wpAny_in_of (kS Z) W O.mapOf ?_;rw[<- (L.val k).isSome_eq,<- l];exact h _ (I.tok _)
 .subst Y;cases (show u=qf4 b from Z);obtain⟨z,W,xs,L,O⟩:=oM I.hok e;refine wpAny_in_heap (qr5 hu) (kT I.hok eb) W O ?_;have q:=(L.val k).isSome_eq;rw[qk7]at q;rw[<- q,<- l];exact h _ (I.tok _)
theorem yz (hu:A.units+1<cLine) (I:Inv X J1 σ H s) (g:DGet H a y o) (Z:RelV y u) (h:∀ s',Inv X J1 σ H s'->Q (.bool (!o.isSome)) s') :
  wpAny (model X.prog X.w) A (qh0 .NotIn u (.ref a)) Q E s:=by
 rcases g with ⟨J6,k,e,Y,l⟩|⟨J6,k,b,e,Y,eb,l⟩
 .subst Y;obtain⟨z,W,vs,L,O⟩:=mi I.hok e;refine wpAny_notIn_of (kS Z) W O.mapOf ?_;rw[<- (L.val k).isSome_eq,<- l];exact h _ (I.tok _)
 .subst Y;cases (show u=qf4 b from Z);obtain⟨z,W,xs,L,O⟩:=oM I.hok e;refine wpAny_notIn_heap (qr5 hu) (kT I.hok eb) W O ?_;have q:=(L.val k).isSome_eq;rw[qk7]at q;rw[<- q,<- l];exact h _ (I.tok _)
theorem rz {ob:HO} (I:Inv X J1 σ H s) (Y:Mut (H a)) (L:qn3 a s.heap h') (W:∃ q,h'.get? a=some q) (new:ObjOk X.prog X.w (upd H a ob) h' a ob) :
  Inv X J1 σ (upd H a ob) {s with heap:=h',toks:=t'}:=
 I.write (x:=a) (e:=a) Y (.inl rfl) (fun b q O z=>(L.2 b O).trans z) W new
theorem BD {J6:List (Key×V)} {vs:List (Key×Value)} (z:J6.length<=qb1) (L:(a==qh9)=false) (q:KV J6 vs) (O:h'.DictOf (ca P w) a vs) :
  ObjOk P w H' h' a (.dK J6):=⟨z,L,vs,q,O⟩
theorem tP {Q:Unit->qa4->Prop} (hu:A.units+1<cLine) (I:Inv X J1 σ H s) (g:DPut H a y v H') (ry:RelV y u) (rv:RelV v r) (h:∀ s',Inv X J1 σ H' s'->Q () s') :
  wpAny (model X.prog X.w) A (setItem (.ref a) u r) Q E s:=by
 rcases g with ⟨J6,k,e,ey,l,Z⟩|⟨J6,k,b,e,ey,eb,l,Z⟩
 .subst ey Z;obtain⟨z,hd,vs,L,dd⟩:=DD I.hok e;have hz:vs.length<=qb1:=by rw[<- L.length];exact z
  have hl:(gl J6 k v).length<=qb1:=by have:=jY J6 k v;lia
  refine wpAny_setItem_pairs (hsz:=hz) (kS ry) dd fun h' O Y=>h _ ?_
  have he:∃q,h'.get? a=some q:=let ⟨q,_,_,W,_⟩:=O;⟨q,W⟩;exact rz I (by rw[e];exact qq8) Y he (BD hl hd (L.put k rv) O)
 .subst ey Z;cases (show u=qf4 b from ry);obtain⟨z,hd,xs,L,dd⟩:=DE I.hok e;have hz:xs.length<=qb1:=by rw[<- Paired.length L];exact z
  have hl:(gl J6 k v).length<=qb1:=by have:=jY J6 k v;lia
  refine wpAny_setItem_heap (hsz:=hz) (qr5 hu) (kT I.hok eb) dd fun h' O Y=>h _ ?_
  obtain⟨q,es,ep,W,h2,h3,h4,_,h5⟩:=O;refine rz I (by rw[e];exact qq8) Y ⟨q,W⟩ ⟨hl,hd,_,(L.put k eb rv).keeps fun c ys ec=>?_,q,es,ep,W,h2,h3,h4,h5⟩;rw[aQ (Dg ec e (fun z=>nomatch z))];exact ec
end
section
variable{X:Cx}{J1:List (J9×Obj)}{σ:St}{H:Hp}{s:qa4}{a:J9}{J6:List (Key×V)}{k:Key}{u:Value}{A:qd5}{E:Value->qa4->Prop}
end
def tQ(i:Jc):Prop:=∀q L,zf9 i false q L=operate [q,L] (za1 q L)
def rA{prog:qc6}{E:Value->qa4->Prop}{env:Env}{value q:Jc}{pos:Pos}{T id:String} 
 (hl:ze7 (.type T) "__getitem__"=pure (some (.builtin id))) (hs:tQ q)
 (h:wpAny (model prog w) A (eval value env) (fun o O=>wpAny (model prog w) A (eval q env) (fun i s₂=>s₂.TypeIs o T/\wpAny (model prog w) A (za1 o i) Q E s₂) E O) E s) :
  wpAny (model prog w) A (eval (.Subscript value q pos) env) Q E s:=by
 refine Subscript_ (qk6 h (fun o O Y=>qk6 Y (fun i s₂ L=>?_) fun _ _ x=>x) fun _ _ x=>x);obtain⟨Z,L⟩:=L;unfold zh0;refine wB ?_;rw[getitemInPython_of_ne Z.not_modules];refine wB (qv9 Z hl ?_)
 have W:wpAny (model prog w) A (zf9 q false o i) (fun r s₃=>wpAny (model prog w) A (letTemporaryGo value o r >>= fun _=>pure r) Q E s₃) E s₂:=by rw[hs o i];exact wpAny_operating (qk6 L (fun r s₃ h₃=>wB (wpAny_letTemporaryGo (qa3 h₃))) fun _ _ x=>x)
 first
  |exact qa3 (wB W)
  |exact wB (qa3 (wB W))
  |exact wB W
def oN{X:Cx}(I:Inv X J1 σ H s)(g:DGet H a y o):s.TypeIs (.ref a) "dict":=by
 rcases g with ⟨J6,k,e,_,_⟩|⟨J6,k,b,e,_,_,_⟩
 .obtain⟨_,_,vs,_,q⟩:=mi I.hok e;exact q.typeIs
 .obtain⟨_,_,xs,_,q⟩:=oM I.hok e;exact q.typeIs
def DF(td ty:TE):TE:=fun σ H Q=>td σ H fun x H1=>ty σ H1 fun y H2=>∃a v,x=.ref a/\DGet H2 a y (some v)/\Q v H2
def tDIn(ty td:TE):TE:=fun σ H Q=>ty σ H fun y H1=>td σ H1 fun x H2=>∃a o,x=.ref a/\DGet H2 a y o/\Q (.bl o.isSome) H2
def rB(ty td:TE):TE:=fun σ H Q=>ty σ H fun y H1=>td σ H1 fun x H2=>∃a o,x=.ref a/\DGet H2 a y o/\Q (.bl (!o.isSome)) H2
def DH(td ty tv:TE):TS:=fun D σ H=>tv σ H fun v H1=>td σ H1 fun x H2=>ty σ H2 fun y L=>∃a q,x=.ref a/\DPut L a y v q/\D.nx σ q
section
variable{X:Cx}{o i e value:Jc}{pos pos' tpos:Pos}{td ty tv:TE}
theorem rC(hu:X.A.units+1<cLine)(ho:PE X o td)(hi:PE X i ty)(O:tQ i):PE X (.Subscript o i pos) (DF td ty):=by intro J1 s σ H Q I h;refine rA PySem.F.slot_dict_getitem.lookup O (thn (ho J1 s σ H _ I h) fun u s1 ⟨x,H1,Z,W,q1⟩=>thn (hi J1 s1 σ H1 _ Z q1) fun iv s2 ⟨y,H2,L,Y,a,v,ex,g,q2⟩=>?_);subst ex;obtain rfl:u=qf4 a:=W;exact⟨oN L g,tN hu L g Y fun w' s3 I3 q=>⟨v,H2,I3,q,q2⟩⟩
def vj(Z:X.A.units+1<cLine)(hi:PE X i ty)(Y:PE X o td):PC X .In i o (tDIn ty td):=by
 intro J1 s σ H Q I h;refine thn (hi J1 s σ H _ I h) fun iv s1 ⟨y,H1,q,ry,q1⟩=>thn (Y J1 s1 σ H1 _ q q1) fun u s2 ⟨x,H2,O,rx,a,W,ex,g,q2⟩=>?_
 subst ex;obtain rfl:u=qf4 a:=rx;exact d_in Z O g ry fun s3 L=>⟨.bl W.isSome,H2,L,rfl,q2⟩
def mj(Z:X.A.units+1<cLine)(hi:PE X i ty)(Y:PE X o td):PC X .NotIn i o (rB ty td):=by
 intro J1 s σ H Q I h;refine thn (hi J1 s σ H _ I h) fun iv s1 ⟨y,H1,q,ry,q1⟩=>thn (Y J1 s1 σ H1 _ q q1) fun u s2 ⟨x,H2,O,rx,a,W,ex,g,q2⟩=>?_
 subst ex;obtain rfl:u=qf4 a:=rx;exact yz Z O g ry fun s3 L=>⟨.bl (!W.isSome),H2,L,rfl,q2⟩
theorem rD (hu:X.A.units+1<cLine) (ho:PE X o td) (hi:PE X i ty) (hv:PE X value tv) (q:qn7 value (some (.Subscript o i pos')) pos.line X.env=pure false) :
  PS X (.Assign [.Subscript o i pos'] value pos) (DH td ty tv):=by
 intro J1 s σ H D I h;refine wpAny_Assign_Subscript (thn (hv J1 s σ H _ I h) fun r s1 ⟨v,H1,I1,O,q1⟩=>thn (ho J1 s1 σ H1 _ I1 q1) fun u Z ⟨x,H2,L,W,q2⟩=>thn (hi J1 Z σ H2 _ L q2) fun iv s3 ⟨y,H3,I3,Y,a,H4,ex,g,q3⟩=>?_) q;subst ex;obtain rfl:u=qf4 a:=W;exact tP hu I3 g Y O fun s4 I4=>⟨σ,H4,I4,q3⟩
end
theorem vk(h:Heap)(q:qh9<h.objs.size):ObjOk P w H (h.push {cls:=.type "dict",data:=.dict #[]}) h.objs.size (.dK []):=⟨qh8 _,beq_eq_false_iff_ne.mpr (qo4 (qc0 q)),[],.nil,Heap.DictOf.new h⟩
theorem vm(h:Heap)(q:qh9<h.objs.size):ObjOk P w H (h.push {cls:=.type "dict",data:=.dict #[]}) h.objs.size (.dT []):=⟨qh8 _,beq_eq_false_iff_ne.mpr (qo4 (qc0 q)),[],.nil,_,#[],0,qa7 _ rfl,⟨rfl,rfl,rfl⟩,rfl,rfl,qt5⟩
def BE:TE:=fun _ H Q=>∀p,H p=none->Q (.ref p) (upd H p (.dK []))
def BF:TE:=fun _ H Q=>∀p,H p=none->Q (.ref p) (upd H p (.dT []))
section
variable{X:Cx}{pos:Pos}
theorem vn:PE X (.Dict [] [] pos) BE:=fun J1 s σ H Q I h=>wpAny_Dict_empty ⟨.ref s.heap.objs.size,_,I.laid (a:=s.heap.objs.size) (o:=.dK []) (t':=s.toks) (fun _ _ q=>gP _ q) (nL _) (vk s.heap I.big),rfl,h _ (I.hok.fresh (nL _))⟩
theorem vo:PE X (.Dict [] [] pos) BF:=fun J1 s σ H Q I h=>wpAny_Dict_empty ⟨.ref s.heap.objs.size,_,I.laid (a:=s.heap.objs.size) (o:=.dT []) (t':=s.toks) (fun _ _ q=>gP _ q) (nL _) (vm s.heap I.big),rfl,h _ (I.hok.fresh (nL _))⟩
end
section
variable{X:Cx}{J1:List (J9×Obj)}{σ:St}{H:Hp}{s:qa4}{a:J9}{y d:V}{u r:Value}{o:Option V}{A:qd5}{E:Value->qa4->Prop}
end
section
variable{X:Cx}{o e f:Jc}{apos cpos:Pos}{td ty tx:TE}
end
section
variable{X:Cx}{J1:List (J9×Obj)}{σ:St}{H:Hp}{s:qa4}{a:J9}{J6:List (Key×V)}{A:qd5}{E:Value->qa4->Prop}
end
section
variable{X:Cx}{J1:List (J9×Obj)}{σ:St}{H:Hp}{s:qa4}{a:J9}{y:V}{u:Value}{A:qd5}{E:Value->qa4->Prop}
end
end L2
namespace Att
open PySem PySem.W PySem.Calls PyProof.Rows
variable{P:Params}{h:Heap}
def ko:∀(ns:List Int)(vs:List Value),WellAll P h vs (ns.map WData.int)->zf8 vs ns:=by
 intro ns;induction ns with
 |nil=>intro vs w;rw[qj5]at w;cases w;exact .nil
 |cons n ns q=>
  intro vs w;rw[qa5]at w;cases w with
  |cons a b=>cases a;exact .cons _ _ (q _ b)
variable{l:OpenLaw}{n:Nat}
def tR(hn:l.most=some n){args:List WData}{O:List Value}
 (L:l.row.toRowW.claim.pre args=true) (hwl:WellAll P h O args) :
  ∃a vs ns,O=[qf4 a]/\args=[WData.list (ns.map WData.int)]/\h.get? a=some {cls:=.type "list",data:=.seq vs.toArray}/\zf8 vs ns/\ns.length<=n:=by
 have hsh:WShape.hasAll [] args [.list .int]=true:=(pre_splitW L).1;have hc:l.pre.holds [] {args:=args}=true:=(pre_splitW L).2;obtain⟨d,r,rfl,h1,h2⟩:=hasAllW_cons hsh;obtain rfl:=hasAllW_nil h2;obtain⟨xs,rfl,h3⟩:=hasW_list h1;obtain⟨ns,rfl⟩:=items_int h3
 have W:ns.length<=n:=by
  unfold OpenLaw.pre at hc
  have Z:(WTm.not (.lt (.lit (.int (n:Int))) (.len (.arg 0)))).holds [] {args:=[.list (ns.map .int)]}=true:=by have Z:=(holds_andW hc).1;rw[hn]at Z;exact Z
  have h5:=condW_of Z (w_not (w_lt w_lit (w_len_list (w_arg rfl))));rw[qa1]at h5;refine Nat.le_of_not_lt fun q=>?_
  have q':(n:Int)<((ns.length:Nat):Int):=by lia
  first
   |(rw[decide_eq_true q']at h5;exact absurd h5 (by decide))
   |(simp at h5;lia)
 cases hwl with
 |cons w1 w2=>
  cases w2;cases w1 with
  |list ho Y=>exact⟨_,_,ns,rfl,rfl,ho,ko ns _ Y,W⟩
def tT(l:OpenLaw)(args:List WData):l.row.toRowW.claim.post args (.bool true) args=true:=
 postW_of (r:=l.row.toRowW) (X:=(true==true))
  (show WShape.has [] (.bool true) .bool=true by first|rfl|decide|simp[WShape.has,WShape.arms,WShape.armsAll])
  (show(WTm.eq .res (.lit (.bool true))).value [] {args:=args,res:=some (.bool true),after:=args}=some (.bool (true==true))from w_eq_bool (w_res rfl) w_lit) rfl
theorem Ah{q:qc6}{loose:List Str}{XP:(Str->Option Value)->Heap->Prop}{YP:Ja->Heap->Prop}{d:DefRec}
 (hn:l.most=some n) (hdf:d.params.defaults=[])
 (call:∀(w:Ja)(s₀ L:qa4)(mg mb:Str->Option Value)(fa:J9)(o:Obj)(pm cd doc:Value)(a:J9)(vs:List Value)(ns:List Int),
 Ground q loose [] XP w s₀ mg mb L.heap->YP w L.heap→
 L.heap.get? fa=some o->o.data=.func (docDef d.name d.params d.body d.scope pm cd doc)->L.heap.CodeRec cd d.name->mg d.name=some (.ref fa)→
 L.heap.get? a=some {cls:=.type "list",data:=.seq vs.toArray}->zf8 vs ns->ns.length<=n->L.gens=#[]→
 qp6 (model l.prog w) zh7 (.call (.ref fa) ⟨[.ref a],[]⟩) (fun r s'=>r=.ok (.ret (.bool true))/\OldK L.heap s'.heap/\s'.os=L.os/\zc9 s'.gens) L) :
  WalkO q loose XP YP l.row.toRowW d [] (fun f vs=>PySem.call f vs):=by
 intro w s₀ L mg mb G Y fa o pm cd doc dV kV ho hd hcd hD hmg hg args vals as Z hlay hrd hwl hlo;obtain rfl:dV=.none:=Dflts.none hD hdf;obtain rfl:kV=.none:=Dflts.noKw hD;obtain⟨a,vs,ns,rfl,rfl,W,O,hlen⟩:=tR hn Z hwl;refine enter_call (qq9 (call w s₀ L mg mb fa o pm cd doc a vs ns G Y ho (fd_plain hd) hcd hmg W O hlen hg) fun r s' hq=>?_);obtain⟨rfl,h2,h3,h4⟩:=hq;exact⟨.inl ⟨.bool true,.bool true,[],rfl,fun _=>rfl,.bool true,tT l _,fun _=>⟨qp3,fun _ hm=>(nomatch hm)⟩⟩,h2,h3,h4⟩
section
variable{prog:qc6}{w:Ja}{A:qd5}{E:Value->qa4->Prop}{s:qa4}{K:Frag}
end
end Att
namespace L2
open PySem PySem.Spec PyProof.Rows
def ml:∀{vs:List Value}{ns:List Int},zf8 vs ns->Vals (ns.map V.int) vs
 |_,_,.nil=>.nil
 |_,_,.cons n t h=>.cons ⟨t,rfl⟩ (ml h)
end L2
/- THE LAST THEOREM (shape;LID,My.* are yours):
   My.Adr: a structure of the addresses that your layer names (classes,functions);My.Txt K t: a structure (Prop) of the equations over K;
   My.txt_mk:{K} {implicit addresses ..} (e1:nsIn K qc1 "law"=some (some (.ref f))) (e2:K.lookup f=some ⟨oc,od,.func (fnOf "law" "law" params body scope dV kV doc pm an cdv ct),sl⟩) (e3:codeIn K cdv "law"=true) ..:∃t,My.Txt K t
(the tactic k_is has no namespace: write k_is) -/
namespace L2
open PySem PySem.Spec PyProof.Rows
def cK(s:Jb):qi9:=match s with
 |.FunctionDef _ a _ _ _ _ _ _ _ _=>a
 |_=>{posonlyargs:=[],args:=[],vararg:=none,kwonlyargs:=[],kw_defaults:=[],kwarg:=none,defaults:=[]}
def bi(s:Jb):List Jb:=match s with
 |.FunctionDef _ _ b _ _ _ _ _ _ _=>b
 |_=>[]
def ac(s:Jb):Jd:=match s with
 |.FunctionDef _ _ _ _ _ _ sc _ _ _=>sc
 |_=>{kind:=.function,names:=[],isGenerator:=false,isCoroutine:=false}
abbrev CX0:CXT:=fun _ _ _ _ _ _=>False
abbrev E0:XK:=fun _ _ _=>False
variable{X:Cx}
def DI:qa CX0 X E0:=fun _ _ _ _ _ _ _ h=>h.elim
structure Fun(K:xA9)(x qual:Str)(st:Jb)(f:J9)(fd:qp2):Prop where
 ex:∃(oc:Value)(od:Option J9)(kV doc pm:Value)(an:Option J9)(cdv ct:Value)(osl:Array (Option Value)),fd=xC9 x qual (cK st) (bi st) (ac st) .none kV doc pm an cdv ct/\K.lookup f=some ⟨oc,od,.func fd,osl⟩/\xH9 K cdv qual=true
 kp:xE9 K (.ref f)=true
variable{x qual:Str}{st:Jb}{f:J9}{fd:qp2}{N ps:List Str}{sp:Sp}{oc doc pm cdv:Value}{od an:Option J9}{osl:Array (Option Value)}
section
variable{P:qc6}{w:Ja}{K:xA9}{mg:Str->Option Value}{base:Heap}
theorem Fun.ok{k:Nat}(F:Fun K x qual st f fd)(S:FnScope N ps (ac st))(len:∀vs H Q E,sp vs H Q E->vs.length=ps.length)
 (L:∀(cdv:Value)(A:qd5)(outer:List Env)(s:qa4)(H:Hp)(vs:List V)(Q:VK)(E:XK),Room k (A.deeper (qy3 qual (ac st) s.heap.objs.size f cdv))->sp vs H Q E→
 ∃t,PSs (kQ CX0 P w K mg base N qual (ac st) f cdv A outer s H E).nox (bi st) t/\t {nx:=fun _ H'=>Q .non H',rt:=Q} (start N vs) H):FnOk P w K mg base CX0 (k+1) f fd ps sp:=by
 obtain⟨oc,od,kV,doc,pm,an,cdv,ct,osl,rfl,Y,O⟩:=F.ex;refine Ae Y O S len fun A outer s H vs Q E Z W=>?_
 obtain⟨t,h,q⟩:=L cdv A outer s H vs Q E Z W;exact⟨t,h.nox,q⟩
def Fun.binds(F:Fun K x qual st f fd)
 (h:∀(kV doc pm:Value)(an:Option J9)(cdv ct:Value)(us:List Value),us.length=ps.length->zg9 (xC9 x qual (cK st) (bi st) (ac st) .none kV doc pm an cdv ct) ⟨us,[]⟩=pure (ps.zip us)):Binds K fd ps []:=by
 obtain⟨oc,od,kV,doc,pm,an,cdv,ct,osl,rfl,L,q⟩:=F.ex;exact .all (h kV doc pm an cdv ct)
theorem nA{kV ct:Value}(l:K.lookup f=some ⟨oc,od,.func (xC9 x qual (cK st) (bi st) (ac st) .none kV doc pm an cdv ct),osl⟩)(c:xH9 K cdv qual=true)(k:xE9 K (.ref f)=true):Fun K x qual st f (xC9 x qual (cK st) (bi st) (ac st) .none kV doc pm an cdv ct):=⟨⟨oc,od,kV,doc,pm,an,cdv,ct,osl,rfl,l,c⟩,k⟩
end
variable{A:qd5}
theorem jZ{k:Nat}(q:Room k A):A.units+1<cLine:=qx4 (Nat.add_le_add_left (by decide:1<=64) _) q.units
section
variable{X:Cx}
end
def Same(H H':Hp):Prop:=∀b o,H b=some o->H' b=some o
def Same.refl(H:Hp):Same H H:=fun _ _ h=>h
variable{H:Hp}
def Same.trans{H1 H2:Hp}(a:Same H H1)(b:Same H1 H2):Same H H2:=fun c o h=>b c o (a c o h)
variable{H':Hp}
def Same.free(e:Same H H'){l:J9}(h:H' l=Option.none):H l=Option.none:=by
 cases q:H l with
 |none=>rfl
 |some o=>rw[e l o q]at h;cases h
variable{K:xA9}{a:J9}{xs:List V}
def Same.seq(e:Same H H')(h:SqL K H a xs):SqL K H' a xs:=by
 rcases h with (h|⟨o,h⟩)|h
 .exact .inl (.inl (e _ _ h))
 .exact .inl (.inr ⟨o,e _ _ h⟩)
 .exact .inr h
section
variable{κ:Type}[DecidableEq κ]
end
set_option maxRecDepth 100000
set_option maxHeartbeats 4000000
def eJ:∀(names:List (Str×qo3))(n:Nat)(J5:List (Str×J9)),qg8 n names J5=qg8 n names []++J5
 |[],_,_=>rfl
 |(x,k)::r,n,J5=>by
  unfold qg8;split
  .rw[eJ r (n+1) ((x,n)::J5),eJ r (n+1) [(x,n)],qj1];rfl
  .exact eJ r n J5
def eh{α:Type}:∀{l m:List (Str×α)},(l++m).lookup x=(l.lookup x).or (m.lookup x)
 |[],m=>by simp
 |(k,v)::l,m=>by
  rw[zb5,qg3,qg3];cases x==k with
  |true=>rfl
  |false=>exact eh
variable{n:Str}{Q:Unit->qa4->Prop}{c:J9}
section
variable{M:Model}{A:qd5}{E:Value->qa4->Prop}{s₀ s:qa4}{m cm:Str->Option Value}{env:Env}{cs:List (Str×J9)}
theorem stLX{v:Value}(x:zd6 s₀ env.locals m cs cm s)(hk:env.scope.kind=.function)(Y:env.kindOf n=some .local)
 (h:∀s',zd6 s₀ env.locals (fun y=>if y=n then some v else m y) cs cm s'->Q () s'):wpAny M A (zd0 env n v) Q E s:=by
 refine zd1 Y x.toInCall.ns (fun h' L q=>h _ ⟨⟨?_,L,fun b o e=>?_,x.toInCall.fresh⟩,fun k c O=>?_,x.apart,x.above⟩) (by rw[hk];rfl)
 .obtain⟨W,tk,rfl⟩:=x.toInCall.same;exact⟨h',_,rfl⟩
 .exact q.extBut b o (qc0 (qb9 (qa8 e) x.toInCall.fresh)) (x.toInCall.keep b o e)
 .exact(x.cell k c O).sameBut q (ql6 (x.above k c (PySem.mem_of_lookup O)))
theorem stCX{v:Value}(x:zd6 s₀ env.locals m cs cm s)(hk:env.scope.kind=.function)(hl:env.kindOf n=some .cell)
 (Y:cs.lookup n=some c) (Z:env.cells.lookup n=some c)
 (h:∀s',zd6 s₀ env.locals m cs (fun y=>if y=n then some v else cm y) s'->Q () s'):wpAny M A (zd0 env n v) Q E s:=by
 have W:=x.above n c (PySem.mem_of_lookup Y);refine wpAny_storeName_cell hk hl Z (x.cell n c Y) fun h' hc' L=>h _ ⟨⟨?_,x.toInCall.ns.sameBut L (qc0 W),fun b o e=>?_,x.toInCall.fresh⟩,fun k c' q=>?_,x.apart,x.above⟩
 .obtain⟨h₁,tk,rfl⟩:=x.toInCall.same;exact⟨h',_,rfl⟩
 .exact L.extBut b o (qc0 (qx3 (qb9 (qa8 e) x.toInCall.fresh) W)) (x.toInCall.keep b o e)
 .by_cases O:k=n
  .subst O;rw[Y]at q;cases q
   simpa using hc'
  .rw[if_neg O];exact(x.cell k c' q).sameBut L fun e=>O (zi1 x.apart (PySem.mem_of_lookup q) (e▸PySem.mem_of_lookup Y))
theorem gZ (f:Str×Value->PUnit->Sem (ForInStep PUnit)) (hf:∀ n v u,f (n,v) u=(do zd0 env n v;pure (.yield ⟨⟩))) (hk:env.scope.kind=.function) (L:∀ n c,cs.lookup n=some c->env.cells.lookup n=some c) :
  ∀(binds:List (Str×Value))(m cm:Str->Option Value)(s:qa4)(Q:PUnit->qa4->Prop),zd6 s₀ env.locals m cs cm s→
   (∀x∈binds,env.kindOf x.1=some .local∨(env.kindOf x.1=some .cell/\(cs.lookup x.1).isSome=true))→
   (∀s',zd6 s₀ env.locals (bindL env.kindOf binds m) cs (bindC env.kindOf binds cm) s'->Q ⟨⟩ s')->wpAny M A (forIn binds ⟨⟩ f) Q E s
 |[],m,cm,s,Q,x,_,h=>by rw[List.forIn_nil];exact qa3 (h s x)
 |(n,v)::r,m,cm,s,Q,x,q,h=>by
  rw[List.forIn_cons,hf];have hr:∀y∈r,env.kindOf y.1=some .local∨(env.kindOf y.1=some .cell/\(cs.lookup y.1).isSome=true):=fun y hy=>q y (qd3 _ hy)
  rcases q (n,v) qe6 with Y|⟨Y,hc⟩
  .refine wB (wB (stLX x hk Y fun s' x'=>qa3 (gZ f hf hk L r _ _ s' Q x' hr fun W O=>h W ?_)));unfold bindL bindC;rw[if_pos Y,if_pos Y];exact O
  .obtain⟨c,hc⟩:=qr0.mp hc;have Z:¬ env.kindOf n=some .local:=by rw[Y];decide
   refine wB (wB (stCX x hk Y hc (L n c hc) fun s' x'=>qa3 (gZ f hf hk L r _ _ s' Q x' hr fun W O=>h W ?_)));unfold bindL bindC;rw[if_neg Z,if_neg Z];exact O
end
variable{E:Value->qa4->Prop}{s:qa4}{scope:Jd}
theorem yA{M:Model}{L:J9}{cl:List (Str×J9)}{binds:List (Str×Value)}{O:Option J9}{code:Value}{q:J9}{Q:Env->qa4->Prop}
 (hk:scope.kind=.function)
 (W:∀x∈binds,scope.names.lookup x.1=some .local∨(scope.names.lookup x.1=some .cell/\((qg8 (s.heap.objs.size+1) scope.names []).lookup x.1).isSome=true))
 (hQ:∀env,env=newEnv scope s.heap.objs.size L (qg8 (s.heap.objs.size+1) scope.names []++cl) qual O code none q→
 ∀s',zd6 s env.locals (bindL env.kindOf binds fun _=>none) (qg8 (s.heap.objs.size+1) scope.names []) (bindC env.kindOf binds fun _=>none) s'->Q env s') :
  wpAny M A (newFunctionEnv scope L cl binds qual O code none q) Q E s:=by
 simp only[newFunctionEnv,Option.isSome_none,qe7,if_false];refine wB (wpAny_alloc ?_);refine qh4 (wpAny_layCells _ (fun name Y cells=>by cases Z:Y==qo3.cell<;>simp[Z]) _ _ _ _ ?_);have ok:=cellsFrom_ok scope.names (s.heap.push {cls:=.type "frame",data:=.dict #[]}) (s.heap.objs.size+1) [] ⟨fun _ _ hm=>(nomatch hm),qp3⟩ (by rw[qf9];exact nL _);rw[qf9]at ok;rw[show({s with heap:=s.heap.push {cls:=.type "frame",data:=.dict #[]}}:qa4).heap.objs.size=s.heap.objs.size+1 from qf9 ..,eJ]
 refine wB (gZ (s₀:=s) (cs:=qg8 (s.heap.objs.size+1) scope.names []) (env:=newEnv scope s.heap.objs.size L (qg8 (s.heap.objs.size+1) scope.names []++cl) qual O code none q)
  _ (fun _ _ _=>rfl) hk (fun n c h=>by show(qg8 (s.heap.objs.size+1) scope.names []++cl).lookup n=some c;rw[eh,h];rfl) binds (fun _=>none) (fun _=>none) _ _
  ⟨⟨⟨_,_,rfl⟩,(Heap.Ns.new s.heap (.type "frame")).keeps (pushCells_keeps _ _),fun b o e=>pushCells_keeps _ _ b o (gP _ e),nL _⟩,fun n c hc=>(ok.empty n c (PySem.mem_of_lookup hc)).1,ok.apart,fun n c hm=>(ok.empty n c hm).2⟩
  W fun s' x=>qa3 (hQ _ rfl s' x))
def gm(names:List (Str×qo3))(cells:List (Str×J9)):List (Str×J9):=names.foldl (fun cs q=>if q.2==qd9 then(q.1,(cells.lookup q.1).getD 0)::cs else cs) []
variable{cells:List (Str×J9)}{env:Env}
theorem rE (Y:env.cells=cells):∀ (names:List (Str×qo3)) (J5:List (Str×J9)),(∀ x∈names,x.2=.free->∃ c,cells.lookup x.1=some c)→
  (forIn names J5 (fun(x:Str×qo3)(r:List (Str×J9))=>if(x.2==qd9)=true then(do let c <- cellOf env x.1;pure (qo6 ((x.1,c)::r)))else(pure (qo6 r):Sem _)))
   = (pure (names.foldl (fun cs O=>if O.2==qd9 then(O.1,(cells.lookup O.1).getD 0)::cs else cs) J5):Sem (List (Str×J9)))
 |[],J5,_=>rfl
 |x::r,J5,h=>by
  have W:=fun J5=>rE Y r J5 fun y Z=>h y (qd3 _ Z)
  simp only[List.forIn_cons,qi6];cases e:(x.2==qd9)with
  |false=>simp only[qe7,if_false];exact W J5
  |true=>
   obtain⟨c,L⟩:=h x qe6 (by simpa using e);have q:cellOf env x.1=pure c:=by unfold cellOf;rw[Y,L]
   simp only[if_true,q,L,Option.getD_some];exact W _
theorem iF{env:Env}(h:∀x∈scope.names,x.2=.free->∃c,env.cells.lookup x.1=some c):ze9 scope env=pure (gm scope.names env.cells):=by have:=rE (env:=env) rfl scope.names [] h;unfold ze9 gm;rw[<- this];simp only[bind_pure]
theorem mm:∀ {names:List (Str×qo3)} {J5:List (Str×J9)} {x:Str} {c:J9},(∀ y∈names,y.2=.free->∃ c,cells.lookup y.1=some c)→
  (names.foldl (fun cs L=>if L.2==qd9 then(L.1,(cells.lookup L.1).getD 0)::cs else cs) J5).lookup x=some c->(∀c,J5.lookup x=some c->cells.lookup x=some c)->cells.lookup x=some c
 |[],J5,x,c,_,h,q=>q c h
 |y::r,J5,x,c,W,h,q=>by
  simp only[qi6]at h;refine mm (fun z Y=>W z (qd3 _ Y)) h ?_;intro c' h';split at h'
  .rename_i Z;obtain⟨c0,e0⟩:=W y qe6 (by simpa using Z);rw[qg3]at h';split at h'
   .rename_i hx;have O:x=y.1:=by simpa using hx
    rw[e0]at h';subst O;rw[e0];simpa using h'
   .exact q c' h'
  .exact q c' h'
variable{names:List (Str×qo3)}
theorem g5(q:∀y∈names,y.2=.free->∃c,cells.lookup y.1=some c)(h:(gm names cells).lookup x=some c):cells.lookup x=some c:=mm q h fun c h=>by simp at h
theorem mn:∀ {names:List (Str×qo3)} {J5:List (Str×J9)} {x:Str},((x,qd9)∈names∨(J5.lookup x).isSome)→
  ((names.foldl (fun cs q=>if q.2==qd9 then(q.1,(cells.lookup q.1).getD 0)::cs else cs) J5).lookup x).isSome
 |[],J5,x,h=>by simpa using h
 |y::r,J5,x,h=>by
  simp only[qi6];refine mn ?_;rcases h with h|h
  .rcases qa9.mp h with e|h
   .subst e;right;simp[qg3]
   .exact .inl h
  .right;split
   .rw[qg3];split
    .rfl
    .exact h
   .exact h
def oO(h:(x,qd9)∈names):∃c,(gm names cells).lookup x=some c:=qr0.mp (mn (.inl h))
structure CmpScope(N:List Str)(outer scope:Jd)(M:List Str)(src:List (Option Nat)):Prop where
 kind:scope.kind=.function
 nocell:∀y∈scope.names,y.2≠.cell
 free:∀y∈scope.names,y.2=.free->outer.names.lookup y.1=some .cell∨outer.names.lookup y.1=some .free
 names:∀y∈scope.names,y.2=.local->scope.names.lookup y.1=some .local
 lf:∀y∈scope.names,y.2=.free->scope.names.lookup y.1=some .free
 len:M.length=src.length
 nd:M.Nodup
 src:∀p∈M.zip src,∀j∈p.2,N[j]?=some p.1/\(p.1,qd9)∈scope.names
def stC(src:List (Option Nat))(σ:St):St:=src.map fun o=>o.bind fun j=>(σ[j]?).join
noncomputable def cxC(X:Cx)(M:List Str)(scope:Jd)(C:J9)(s:qa4)(H:Hp)(ex:List J9):Cx:={X with N:=M,s₀:=s,H₀:=H,env:=compEnvC scope (gm scope.names X.env.cells) C X.env,outer:=X.stack,ex:=ex,fn:=fun _=>false,pn:=[],xe:=fun _ _=>False}
noncomputable def PTs(X:Cx)(ifs:List Jc)(t:TT):Prop:=
 ∀(J1:List (J9×Obj))(s:qa4)(σ:St)(H:Hp)(Q:Bool->Hp->Prop),Inv X J1 σ H s->t σ H Q→
  wpAny (model X.prog X.w) X.A (forIn ifs true fun c r=>if r=true then do let ok <- isTrue c X.env (eval c X.env);pure (qo6 ok)else pure (qo6 r)) (TP X J1 σ Q) X.xe s
def tYes:TT:=fun _ H Q=>Q true H
def yB:PTs X [] tYes:=fun J1 s σ H Q I h=>wpAny_tests_nil ⟨H,I,h⟩
theorem yC{c:Jc}{t:TT}(h:PT X c t):PTs X [c] t:=fun J1 s σ H Q I q=>wpAny_tests_one (h J1 s σ H Q I q)
def Wk(a b:St):Prop:=a.length=b.length/\∀(i:Nat) v,a[i]?=some (some v)->b[i]?=some (some v)
noncomputable def oP(src:List (Option Nat))(wi:TI)(g:TG)(tt:TT)(te:TE):TE:=fun σ H Q=>wi σ H fun J H1=>∀D,H1 D=none->∃W:Nat->Nat->Hp->Prop,(∃m,W 0 m (upd H1 D (.lst [])))/\∀i m H,W i m H→
 (J.stop i H/\Q (.ref D) H)∨(J.go i H/\∃N:Hp->Prop,(∀H',N H'->∃O,O<m/\W (i+1) O H')/\∀x H',J.yld i H x H'→
  g x (stC src σ) H' fun q H2=>Wk (stC src σ) q/\tt q H2 fun b Y=>if b=true then te q Y fun v L=>∃ys,L D=some (.lst ys)/\ys.length<qb1/\N (upd L D (.lst (ys++[v])))else N Y)
variable{w:Ja}
theorem i6{prog:qc6}{R:Result->qa4->Prop}{elt q iter:Jc}{ifs:List Jc}{pos:Pos}{it J5:Value}(I:Nat->qa4->Prop)
 (turn:∀n s,I n s->wpAny (model prog w) A (qw9 it) (fun r L=>match r with
 |none=>R (.ok .next) L
 |some v=>wpAny (model prog w) A (qv6 q it v) (fun _ O=>wpAny (model prog w) A (zd3 q env v) (fun _ W=>
 wpAny (model prog w) A (forIn ifs true fun c r=>if r=true then do let ok <- isTrue c env (eval c env);pure (qo6 ok)else pure (qo6 r)) (fun ok s₃ =>
 if ok=true then wpAny (model prog w) A (eval elt env) (fun x s₄ =>
 wpAny (model prog w) A (call (.builtin "list.append") [J5,x]) (fun _ s₅=>∃m,m<n/\I m s₅) (fun _ _=>False) s₄) (fun _ _=>False) s₃
 else ∃m,m<n/\I m s₃) (fun _ _=>False) W) (fun _ _=>False) O) (fun _ _=>False) L) (fun _ _=>False) s)
 (n:Nat) (h:I n s) :
  qp6 (model prog w) A (.compLoop (.ListComp elt [⟨q,iter,ifs,0⟩] scope pos) 0 it J5 env) R s:=by
 refine codeAny_loop rfl I (fun n s hI=>?_) n h;show wpAny _ A ((compTurn (.ListComp elt [⟨q,iter,ifs,0⟩] scope pos) 0 it J5 env).onRaise (fun x=>do noteFrame x env;theTreesLotGoes x)) _ _ s;refine wpAny_noted ?_;rw[compTurn_list];refine wB (zg6 (wB (qk6 (turn n s hI) (fun r L Y=>?_) fun _ _ h'=>h'.elim)));cases r with
 |none=>exact qa3 Y
 |some v=>
  refine wB (qk6 Y (fun _ O Z=>?_) fun _ _ h'=>h'.elim);refine wB (qk6 Z (fun _ W h₂=>wB (qk6 h₂ (fun ok s₃ h₃=>?_) fun _ _ h'=>h'.elim)) fun _ _ h'=>h'.elim);cases ok with
  |false=>exact qa3 ⟨rfl,h₃⟩
  |true=>exact wB (wB (qk6 h₃ (fun x s₄ h₄=>wB (qk6 h₄ (fun _ s₅ h₅=>qa3 (qa3 ⟨rfl,h₅⟩)) fun _ _ h'=>h'.elim)) fun _ _ h'=>h'.elim))
variable{σ:St}
section
variable{X:Cx}{elt tg iter:Jc}{ifs:List Jc}{scope:Jd}{pos:Pos}{M:List Str}{src:List (Option Nat)}{wi:TI}{g:TG}{tt:TT}{te:TE}
theorem nB(Z:∀y∈scope.names,y.2≠.cell)(h:(relabel scope env).names.lookup x=some .cell∨(relabel scope env).names.lookup x=some .free):(x,qd9)∈scope.names:=by
 have q:∀k,(relabel scope env).names.lookup x=some k->(k=.cell∨k=.free)->(x,qd9)∈scope.names:=by
  intro k hk O;have W:=PySem.mem_of_lookup hk;unfold relabel at W;obtain⟨⟨n,k0⟩,L,e⟩:=qd2.mp W;dsimp only at e;split at e
  .rename_i Y;simp only[qb2]at Y;have:k0=.free:=by simpa using Y.1.1
   subst this;cases e;exact L
  .cases e;rcases O with z|z
   .subst z;exact absurd rfl (Z _ L)
   .subst z;exact L
 rcases h with h|h
 .exact q _ h (.inl rfl)
 .exact q _ h (.inr rfl)
theorem oQ{J1:List (J9×Obj)}{s1:qa4}{fp:List J9}{m1:Str->Option Value}(S:CmpScope X.N X.env.scope scope M src)(I:Inv X J1 σ H s)(hf:∀b∈fp,iu X J1 H b)
 (hfl:∀b∈fp,b<s.heap.objs.size) (hn:s1.heap.Ns s.heap.objs.size m1) (hk:∀b o,s.heap.get? b=some o->s1.heap.get? b=some o) (hos:s1.os=s.os) (hg:s1.gens=s.gens) :
  Inv (cxC X M scope s.heap.objs.size s H fp) [] (stC src σ) H s1:=by
 have Z:∀x∈scope.names,x.2=.free->∃c,X.env.cells.lookup x.1=some c:=fun x hx O=>I.ok.has x.1 (S.free x hx O)
 have sub:∀x c,(gm scope.names X.env.cells).lookup x=some c->X.env.cells.lookup x=some c:=fun x c h=>g5 Z h
 have L:∀c v,s.heap.IsCell c v->s1.heap.IsCell c v:=fun c v ⟨o,ho,hd⟩=>⟨o,hk c o ho,hd⟩
 refine⟨⟨I.ok.mod,S.kind,I.ok.glob,I.ok.blt,nL _,fun y z c h1 h2=>I.ok.inj y z c (sub _ _ h1) (sub _ _ h2),fun x hx=>oO (nB S.nocell hx),fun x c h=>(nomatch h),I.ok.hd,I.ok.frames,.inl rfl,
  fun b Y=>⟨qc0 (hfl b Y),fun x c h=>(hf b Y).2.2.2.2.1 x c (sub _ _ h)⟩,I.bs,qb5 I.ok.bsz I.sz,fun b o e Y=>?_,fun b Y z=>?_,I.stack,I.stkFree,fun p hp=>I.base.cts _ _ (I.ok.tb p hp)⟩,
  hos,(by rw[hg];exact I.bare),Un.kept hk,⟨m1,hn,fun i x v h1 h2 h3=>?_⟩,fun x c h=>?_,I.hok.fresh (qq6 _),fun x c h=>I.freeC x c (sub _ _ h),fun p hp=>absurd hp (by simp[cxC]),I.hok.kept hk,?_⟩
 .rcases(hf b Y).2.2.2.1 with z|z
  .exact I.ok.noex b o e z
  .exact absurd (qb9 (qa8 e) (qb5 I.ok.bsz z)) (qn4 _)
 .rcases qa9.mp (I.stkSub b z)with q|q
  .exact(hf b Y).2.1 q
  .exact(hf b Y).2.2.1 q
 . -- a name taken over
   have h1:M[i]?=some x:=h1;unfold stC at h2;rw[qb3]at h2;cases hs:src[i]? with
   |none=>rw[hs]at h2;cases h2
   |some o=>
    rw[hs]at h2;simp only[qm6,qs5]at h2;cases o with
    |none=>cases h2
    |some j=>
     simp only[qa2]at h2
     have hmem:(x,some j)∈M.zip src:=by
      have:(M.zip src)[i]?=some (x,some j):=by rw[qq0];exact⟨h1,hs⟩
      exact qd0 this
     obtain⟨hN,O⟩:=S.src _ hmem j rfl
     have hσ:σ[j]?=some (some v):=by
      cases e:σ[j]? with
      |none=>rw[e]at h2;cases h2
      |some o=>rw[e]at h2;simp only[qq3]at h2;rw[h2]
     have W:=S.free _ O rfl;obtain⟨m,hm,hl⟩:=I.loc;obtain⟨u,r,l⟩:=hl j x v hN hσ (.inr W);refine⟨u,r,?_⟩
     have hloc:X.env.kindOf x≠some .local:=by show X.env.scope.names.lookup x≠_;rcases W with q|q<;>rw[q]<;>decide
     rcases l with l|⟨_,c,e,z⟩
     .exact absurd l.1 hloc
     .obtain⟨c',e'⟩:=oO (cells:=X.env.cells) O;have:=sub _ _ e';rw[e]at this;cases this;refine .inr ⟨?_,c,e',L _ _ z⟩;rcases h3 with q|q
      .exact absurd q (by
        -- a name that is free in the block is not local there
        exact(by
         intro q
         have:scope.names.lookup x=some .local:=by
          have Y:∀(names:List (Str×qo3)),(names.map fun(n,k)=>if(k==qd9&&X.env.scope.kind==.function&&X.env.kindOf n==some .cell)then(n,qo3.cell)else(n,k)).lookup x=some .local->names.lookup x=some .local:=by
           intro names;induction names with
           |nil=>intro h;simp at h
           |cons y r ih=>
            obtain⟨n,k⟩:=y;intro h;simp only[qa5]at h;by_cases hx:x=n
            .subst hx;split at h
             .simp[qg3]at h
             .simpa[qg3] using h
            .have hx':(x==n)=false:=by simpa using hx
             split at h
             .simp only[qg3,hx']at h ⊢;exact ih h
             .simp only[qg3,hx']at h ⊢;exact ih h
          exact Y _ q
         rw[S.lf _ O rfl]at this;cases this))
      .exact q
 .obtain⟨v,z⟩:=I.cell x c (sub _ _ h);exact⟨v,L _ _ z⟩
 .show(stC src σ).length=M.length;unfold stC;rw[qa1,S.len]
theorem vp (S:CmpScope X.N X.env.scope scope M src) (hc:X.calm=true) (hi:PI X tg iter wi) (hg:M.Nodup->∀ C s H ex,PG (cxC X M scope C s H ex) tg g) (ht:∀ C s H ex,PTs (cxC X M scope C s H ex) ifs tt)
  (he:∀C s H ex,PE (cxC X M scope C s H ex) elt te) (hs:∀x,qj0 iter X.env x=pure x:=by intro _;rfl) :
  PE X (.ListComp elt [⟨tg,iter,ifs,0⟩] scope pos) (oP src wi g tt te):=by
 intro J1 s σ H Q I h;rw[eval_ListComp];have hcells:∀x∈scope.names,x.2=.free->∃c,X.env.cells.lookup x.1=some c:=fun x hx hfr=>I.ok.has x.1 (S.free x hx hfr)
 refine qy6 (use:=none) rfl hs (iF hcells) S.kind S.names (thn (hi J1 s σ H _ I h) fun v s1 h1=>thn h1 fun itv s2 h2=>?_);obtain⟨it,fp,tn,J,H2,rfl,I2,T,st2,f2,hq⟩:=h2;refine qd1 ?_;have I3:Inv X J1 σ (upd H2 s2.heap.objs.size (.lst [])) {s2 with heap:=s2.heap.push {cls:=.type "list",dict:=none,data:=.seq ([]:List Value).toArray},toks:=s2.toks}:=I2.lnew (J8:=[]) (ys:=[]) (t':=s2.toks) .nil (by simp);have hD:H2 s2.heap.objs.size=none:=I2.fresh;obtain⟨W,⟨m0,w0⟩,turn⟩:=hq _ hD;generalize hDn:s2.heap.objs.size=D at*
 generalize hs3:({s2 with heap:=s2.heap.push {cls:=.type "list",dict:=none,data:=.seq ([]:List Value).toArray},toks:=s2.toks}:qa4)=Z at*
 have f3:∀b∈fp,iu X J1 (upd H2 D (.lst [])) b:=fun b L=>⟨by obtain⟨o,e,_⟩:=T.obj _ _ st2 b L;rw[aQ (by rw[<- hDn];exact qc0 (qa8 e))];exact(f2 b L).1,(f2 b L).2⟩
 have k23:∀b o,s2.heap.get? b=some o->Z.heap.get? b=some o:=fun b o e=>by rw[<- hs3];exact gP _ e
 have st3:tn 0 Z.heap:=T.keep _ _ _ st2 fun b _ o e=>k23 b o e
 have fl3:∀b∈fp,b<Z.heap.objs.size:=fun b L=>by obtain⟨o,e,_⟩:=T.obj _ _ st3 b L;exact qa8 e
 refine wpAny_newFunctionEnv S.nocell (by intro y hy;simp at hy) (fun h₁ hns₁ hsb₁=>?_) S.kind;have k34:∀b o,Z.heap.get? b=some o->h₁.get? b=some o:=fun b o e=>hsb₁.extBut b o (qc0 (qa8 e)) (gP _ e)
 generalize hs4:({Z with heap:=h₁,toks:=Z.toks+([]:List (Str×Value)).length}:qa4)=s4
 have I4:Inv (cxC X M scope Z.heap.objs.size Z (upd H2 D (.lst [])) fp) [] (stC src σ) (upd H2 D (.lst [])) s4:=by rw[<- hs4];exact oQ S I3 f3 fl3 hns₁ k34 rfl rfl
 have st4:tn 0 s4.heap:=T.keep _ _ _ st3 fun b _ o e=>by rw[<- hs4];exact k34 b o e
 generalize O:cxC X M scope Z.heap.objs.size Z (upd H2 D (.lst [])) fp=Y at*
 have hg':PG Y tg g:=by rw[<- O];exact hg S.nd _ _ _ _
 have ht':PTs Y ifs tt:=by rw[<- O];exact ht _ _ _ _
 have he':PE Y elt te:=by rw[<- O];exact he _ _ _ _
 have eP:Y.prog=X.prog:=by rw[<- O];rfl
 have eW:Y.w=X.w:=by rw[<- O];rfl
 have eK:Y.K=X.K:=by rw[<- O];rfl
 have eA:Y.A=X.A:=by rw[<- O];rfl
 have ex':Y.xe=fun _ _=>False:=by rw[<- O];rfl
 have ec:Y.calm=true:=by rw[<- O];exact hc
 have eE:Y.env=compEnvC scope (gm scope.names X.env.cells) Z.heap.objs.size X.env:=by rw[<- O];rfl
 have stat:∀{H':Hp},(∀b∈fp,H' b=none)->∀b∈fp,iu Y [] H' b:=fun hn b L=>by
  rw[<- O];refine⟨hn b L,qc0 (fl3 b L),fun z=>?_,.inl L,fun x c h=>(f3 b L).2.2.2.2.1 x c (g5 hcells h),fun p hp=>absurd hp (by simp[cxC])⟩;rcases qa9.mp (I3.stkSub b z)with q|q
  .exact(f3 b L).2.1 q
  .exact(f3 b L).2.2.1 q
 -- behind the block
 have fin:∀(H':Hp)(s':qa4),Inv Y [] (stC src σ) H' s'->Q (.ref D) H'->zf0 (model X.prog X.w) X.A X.xe none (EP X J1 σ Q) (.ref D) Z.heap.objs.size (.ok .next) s':=by
  intro H' s' J' q;rw[<- O]at J';obtain⟨m,hn,_⟩:=id J'.loc;refine⟨m,hn,fun h' sb=>⟨.ref D,H',?_,rfl,q⟩⟩;have hC:H' Z.heap.objs.size=none:=J'.free;have un:Un (frs X.stack) fp (upd H2 D (.lst [])) H' Z.heap s'.heap:=J'.base;have kC:∀b o,b≠Z.heap.objs.size->s'.heap.get? b=some o->h'.get? b=some o:=fun b o L e=>sb.extBut b o L e
  have un':Un (frs X.stack) fp (upd H2 D (.lst [])) H' Z.heap h':=
   ⟨fun b o e n L hx=>kC b o (qc0 (qa8 e)) (un.keep b o e n L hx),
    fun b o e n L hx=>by obtain⟨sl,e'⟩:=un.slot b o e n L hx;exact⟨sl,kC b _ (qc0 (qa8 e)) e'⟩,
    un.free,
    fun b o e hx=>by obtain⟨o',e'⟩:=un.there b o e hx;exact⟨o',kC b _ (qc0 (qa8 e)) e'⟩,un.tups,un.frzs,un.tbls,un.cts⟩
  have hok':HOk X.prog X.w H' h':=fun b u e=>by
   have nb:b≠Z.heap.objs.size:=fun z=>by rw[z,hC]at e;cases e
   refine(J'.hok b u e).stay (fun c v hc' q=>kC c v ?_ q) (fun _ q=>q) (fun _ _ q=>q) fun _ _ _ q=>q
   rcases hc' with z|z
   .rw[z];exact nb
   .intro w;rw[w,hC]at z;cases z
  exact I3.call' (s':={s' with heap:=h'}) (show s'.os=Z.os from J'.os) un' hok' J'.bare fun b L=>⟨(f3 b L).2.2.2.1,(f3 b L).2.1,(f3 b L).2.2.2.2.1,(f3 b L).2.2.2.2.2⟩
 have loop:∀s4':qa4,s4'=s4->qp6 (model X.prog X.w) X.A (.compLoop (.ListComp elt [⟨tg,iter,ifs,0⟩] scope pos) 0 (.ref it) (.ref D) Y.env) (zf0 (model X.prog X.w) X.A X.xe none (EP X J1 σ Q) (.ref D) Z.heap.objs.size) s4':=by
  rintro _ rfl;refine i6 (fun n s'=>∃i H',Inv Y [] (stC src σ) H' s'/\tn i s'.heap/\(∀b∈fp,H' b=none)/\W i n H') ?_ m0 ⟨0,_,I4,st4,fun b L=>(f3 b L).1,w0⟩;rintro n s5 ⟨i,H5,I5,st5,fr5,w5⟩;rcases turn i n H5 w5 with ⟨stop,qn⟩|⟨go,N,hN,step⟩
  .have:=T.done Y eP eW eK ec i [] s5 (stC src σ) H5 (fun _ _=>False) I5 (stat fr5) st5 stop;rw[eA]at this;refine thn this fun r s6 ⟨hr,I6⟩=>?_
   subst hr;exact fin H5 s6 I6 qn
  .have:=T.item Y eP eW eK ec i [] s5 (stC src σ) H5 (fun _ _=>False) I5 (stat fr5) st5 go;rw[eA]at this;refine thn this fun r s6 ⟨u,hr,h6⟩=>?_
   subst hr;refine thn h6 fun _ s7 ⟨x,H7,I7,r7,y7,st7,fr7⟩=>?_
   have I7':=I7.pinned (stat fr7) (T.obj _ _ st7);have a1:=hg' _ s7 (stC src σ) H7 x u _ I7' r7 (step x H7 y7);rw[ex',eP,eW,eA]at a1;refine thn a1 fun _ s8 ⟨σ8,H8,I8,wk8,q8⟩=>?_
   have a2:=ht' _ s8 σ8 H8 _ I8 q8;rw[ex',eP,eW,eA]at a2;refine thn a2 fun ok s9 ⟨H9,I9,q9⟩=>?_
   have again:∀{H7':Hp}{s':qa4},Inv Y ([]++jz fp s7.heap) σ8 H7' s'->N H7'->∃m,m<n/\∃i H',Inv Y [] (stC src σ) H' s'/\tn i s'.heap/\(∀b∈fp,H' b=none)/\W i m H':=fun {H7' s'} J7 n7=>by obtain⟨m',hm,w7⟩:=hN H7' n7;refine⟨m',hm,i+1,H7',J7.unpinned.weak wk8.1 wk8.2,T.keep _ _ _ st7 fun b L o e=>(J7.pin (b,o) (qc3 _ (qc3 _ (dZ L e)))).1,fun b L=>?_,w7⟩;obtain⟨o,e,d⟩:=T.obj _ _ st7 b L;exact(J7.pin (b,o) (qc3 _ (qc3 _ (dZ L e)))).2.1
   cases ok with
   |false=>exact again I9 q9
   |true=>
    have a3:=he' _ s9 σ8 H9 _ I9 q9;rw[ex',eP,eW,eA]at a3;refine thn a3 fun v s10 ⟨y,H10,I10,r10,ys,hl,hz,q10⟩=>?_
    have a4:=jF (X:=Y) _ s10 σ8 H10 (.ref D) [y] (.ref D) [v] (fun _ H'=>N H') I10 rfl (.cons r10 .nil) ⟨D,ys,y,rfl,rfl,hl,hz,q10⟩;rw[ex',eP,eW,eA]at a4;refine thn a4 fun _ s11 ⟨_,H11,I11,_,q11⟩=>?_
    exact again I11 q11
 have e4:∀c:Env,c=Y.env->qp6 (model X.prog X.w) X.A (.compStart (.ListComp elt [⟨tg,iter,ifs,0⟩] scope pos) 0 (.ref it) (.ref D) c) (zf0 (model X.prog X.w) X.A X.xe none (EP X J1 σ Q) (.ref D) Z.heap.objs.size) s4:=by rintro _ rfl;exact zc2 (loop _ rfl) (T.self _ _ _ _ _ st4 (loop _ rfl))
 exact e4 _ (by rw[eE];rfl)
end
def Its(x:Str):It:=⟨fun i _=>i<x.cps.size,fun i H v H'=>H'=H/\∃c,x.cps[i]?=some c/\v=.str ⟨#[c]⟩,fun i _=>i=x.cps.size⟩
variable{P:qc6}{tg:Jc}
theorem tU(x:Str)(t:Tok)(it:J9):Turn P w K tg (Its x) [it] it (fun i h=>h.IsStrIter it "str_ascii_iterator" x t i) where
 mem:=by simp
 obj:=fun i h st b L=>by
  have e:b=it:=by simpa using L
  subst e;obtain⟨o,e,c,d⟩:=st;exact⟨o,e,fun v z=>by rw[d]at z;cases z⟩
 keep:=fun i h h' st k=>let ⟨o,ho,r⟩:=st;⟨o,k it (by simp) o ho,r⟩
 item:=by
  intro X hP hw Y hc i J1 s σ H E I W st q;subst hP hw Y;obtain⟨f0,f1,f2,f3,f4,Z⟩:=W it (by simp);have q:i<x.cps.size:=q;refine wpAny_pyNext_ascii_item st (c:=x.cps[i]) (by simp[q]) fun h' O sb=>?_
  have I1:Inv X J1 σ H {s with heap:=h',toks:=s.toks+1}:=I.turned (t':=s.toks+1) (fun b o L e=>(sb.2 b L).trans e) f0 f1 f3 f4 Z;obtain⟨o,e,c,d⟩:=id O;exact⟨_,rfl,ma (s:={s with heap:=h',toks:=s.toks+1}) e c d (by decide) ⟨.str ⟨#[x.cps[i]]⟩,H,I1,⟨_,rfl⟩,⟨rfl,x.cps[i],by simp[q],rfl⟩,O,fun b L=>(W b L).1⟩⟩
 done:=by intro X hP hw Y hc i J1 s σ H E I W st q;subst hP hw Y;have q:i=x.cps.size:=q;obtain⟨f0,f1,f2,f3,f4,Z⟩:=W it (by simp);exact wpAny_pyNext_ascii_end (I.ok.hd hc) st (by simp[q]) fun h' eb=>⟨rfl,I.turned (t':=s.toks) (fun b o L e=>eb b o L e) f0 f1 f3 f4 Z⟩
 self:=fun _ _ _ _ _ st h=>wpAny_pyIter_striter_ascii st h
theorem tV(x:Str)(t:Tok)(it:J9):Turn P w K tg (Its x) [it] it (fun i h=>h.IsStrIter it "str_iterator" x t i) where
 mem:=by simp
 obj:=fun i h st b L=>by
  have e:b=it:=by simpa using L
  subst e;obtain⟨o,e,c,d⟩:=st;exact⟨o,e,fun v z=>by rw[d]at z;cases z⟩
 keep:=fun i h h' st k=>let ⟨o,ho,r⟩:=st;⟨o,k it (by simp) o ho,r⟩
 item:=by
  intro X hP hw Y hc i J1 s σ H E I W st q;subst hP hw Y;obtain⟨f0,f1,f2,f3,f4,Z⟩:=W it (by simp);have q:i<x.cps.size:=q;refine wpAny_pyNext_wide_item st (c:=x.cps[i]) (by simp[q]) fun h' O sb=>?_
  have I1:Inv X J1 σ H {s with heap:=h',toks:=s.toks+1}:=I.turned (t':=s.toks+1) (fun b o L e=>(sb.2 b L).trans e) f0 f1 f3 f4 Z;obtain⟨o,e,c,d⟩:=id O;exact⟨_,rfl,ma (s:={s with heap:=h',toks:=s.toks+1}) e c d (by decide) ⟨.str ⟨#[x.cps[i]]⟩,H,I1,⟨_,rfl⟩,⟨rfl,x.cps[i],by simp[q],rfl⟩,O,fun b L=>(W b L).1⟩⟩
 done:=by intro X hP hw Y hc i J1 s σ H E I W st q;subst hP hw Y;have q:i=x.cps.size:=q;obtain⟨f0,f1,f2,f3,f4,Z⟩:=W it (by simp);exact wpAny_pyNext_wide_end (I.ok.hd hc) st (by simp[q]) fun h' eb=>⟨rfl,I.turned (t':=s.toks) (fun b o L e=>eb b o L e) f0 f1 f3 f4 Z⟩
 self:=fun _ _ _ _ _ st h=>wpAny_pyIter_striter_wide st h
section
variable{X:Cx}{tg:Jc}
def iStr(tl:TE):TI:=fun σ H R=>tl σ H fun v H1=>∃x,v=.str x/\R (Its x) H1
def vq{l:Jc}{tl:TE}(Y:PE X l tl):PI X tg l (iStr tl):=by
 intro J1 s σ H R I h;refine thn (Y J1 s σ H _ I h) fun v s1 ⟨y,H1,O,r1,q1⟩=>?_
 obtain⟨x,e,q⟩:=q1;subst e;obtain⟨t,rfl⟩:=r1
 have L:∀b∈[s1.heap.objs.size],iu X J1 H1 b:=fun b Z=>by
  have e:b=s1.heap.objs.size:=by simpa using Z
  subst e;exact O.fpOk (nL _) (O.hok.fresh (nL _))
 cases W:x.cps.all (· < 128)
 .refine wpAny_pyIter_wide W ?_;exact⟨s1.heap.objs.size,[s1.heap.objs.size],_,_,H1,rfl,O.kept (t':=s1.toks) fun b o e=>gP _ e,tV x t _,⟨_,qa7 _ rfl,rfl,rfl⟩,L,q⟩
 .refine wpAny_pyIter_ascii W ?_;exact⟨s1.heap.objs.size,[s1.heap.objs.size],_,_,H1,rfl,O.kept (t':=s1.toks) fun b o e=>gP _ e,tU x t _,⟨_,qa7 _ rfl,rfl,rfl⟩,L,q⟩
def kU:∀{bs:List Bool}{us:List Value},Vals (bs.map V.bl) us->us=bs.map qv1
 |[],_,.nil=>rfl
 |b::r,_,.cons h t=>by have h:_=qv1 b:=h;rw[h,kU t];rfl
def tW{bs:List Bool}:(qc7 bs.length).map (fun i=>bs.getD i false)=bs:=by
 apply qu3
 .simp
 .intro i h1 h2;simp at h1;simp[h1]
theorem vt(hc:X.calm=true):fC X (.builtin "any") (fun xs H Q=>∃(a:J9)(bs:List Bool),xs=[.ref a]/\SqL X.K H a (bs.map V.bl)/\Q (.bl (bs.any id)) H):=by
 intro J1 s σ H xs us Q I r h;obtain⟨a,bs,rfl,hq,q⟩:=h;obtain⟨u,rfl,ru⟩:=iY r;cases ru;obtain⟨J8,Z,p,hz⟩:=I.list hq;have Y:=kU Z;subst Y
 have W:a≠s.heap.objs.size:=by obtain⟨o,n,e,_⟩:=p;exact qc0 (qa8 e)
 refine call_any_walk (qy2 p.isList ⟨s.heap.objs.size,_,_,_,_,_,fun i=>bs.getD i false,rfl,Walks.list (A:=X.A.in1) (I.ok.hd hc) _ a W (bs.map qv1).toArray,⟨⟨_,qa7 _ rfl,rfl,rfl⟩,?_⟩,?_,?_⟩)
 .obtain⟨o,ho,hr⟩:=p.isList;exact⟨o,gP _ ho,hr⟩
 .intro i v s' Q' E' L O;rw[List.getElem?_toArray,qb3]at L;cases e:bs[i]? with
  |none=>rw[e]at L;cases L
  |some b=>rw[e]at L;cases L;refine qs6 ?_;dsimp only at O;rw[qc5,e]at O;exact O
 .intro h' tk hk;refine⟨.bl _,H,I.kept (h':=h') (t':=tk) fun b o e=>hk b o (fun z=>?_) (gP _ e),rfl,?_⟩
  .have z:b=s.heap.objs.size:=by simpa using z
   subst z;exact absurd (qa8 e) (qn4 _)
  .have e:(qc7 (bs.map qv1).toArray.size).any (fun i=>bs.getD i false)=bs.any id:=by
    conv=>rhs;rw[<- tW (bs:=bs)]
    rw[List.any_map];simp
   rw[e];exact q
theorem rF{v:Value}{o:Option Int}(h:zf4 v o):∃p:Option (Int×Tok),v=partValue p/\o=p.map (·.1):=by
 cases o with
 |none=>exact⟨none,by cases h<;>rfl,rfl⟩
 |some i=>cases h;exact⟨some (i,_),rfl,rfl⟩
def rSlS:V->Option Int->Option Int->Hp->VK->Prop:=fun x lo hi H Q=>∃z,x=.str z/\z.length<=qb1/\Q (.str (Txt.slice z lo hi)) H
theorem BG:SlR X rSlS:=by intro J1 s σ H x v vl vu lo hi sl Q I Y L Z W h;obtain⟨z,rfl,O,q⟩:=h;obtain⟨t,rfl⟩:=Y;obtain⟨l,rfl,rfl⟩:=rF Z;obtain⟨u,rfl,rfl⟩:=rF W;refine⟨"str",_,F.slot_str_getitem.lookup,typeIs_str _ _ _,?_⟩;exact wpAny_getItem_str_slice (l:=l) (u:=u) (st:=none) L rfl (post_val_or_str ⟨qb5 (Txt.slice_le z _ _) O,fun t' k=>⟨.str _,H,I.tok _,⟨_,rfl⟩,q⟩⟩)
end
theorem cD:qf2 "len"=some (.builtin "len"):=by first|exact PySem.boot_len|exact PyProof.Rows.boot_len|decide +kernel
theorem BH:qf2 "any"=some (.builtin "any"):=by first|exact PySem.boot_any|exact PyProof.Rows.boot_any|decide +kernel
theorem l4:qf2 "isinstance"=some (.builtin "isinstance"):=by first|exact PySem.boot_isinstance|exact PyProof.Rows.boot_isinstance|decide +kernel
theorem BJ:qf2 "str"=some (.type "str"):=by first|exact PySem.boot_str|exact PyProof.Rows.boot_str|decide +kernel
theorem c6:qf2 "tuple"=some (.type "tuple"):=by first|exact PySem.boot_tuple|exact PyProof.Rows.boot_tuple|decide +kernel
theorem nC:qf2 "list"=some (.type "list"):=by first|exact PySem.boot_list|exact PyProof.Rows.boot_list|decide +kernel
theorem nE:qf2 "enumerate"=some (.type "enumerate"):=by first|exact PySem.boot_enumerate|exact PyProof.Rows.boot_enumerate|decide +kernel
structure OkF(P:qc6)(w:Ja)(K:xA9)(mg:Str->Option Value)(base:Heap)(x:Str)(k:Nat)(ps:List Str)(sp:Sp):Prop where
 ex:∃f fd,mg x=some (.ref f)/\xE9 K (.ref f)=true/\Binds K fd ps []/\FnOk P w K mg base CX0 k f fd ps sp
structure DefF(K:xA9)(mg:Str->Option Value)(x:Str)(st:Jb)(ps:List Str):Prop where
 ex:∃f fd,mg x=some (.ref f)/\xE9 K (.ref f)=true/\Binds K fd ps []/\Fun K x x st f fd
section
variable{P:qc6}{w:Ja}{K:xA9}{mg:Str->Option Value}{base:Heap}
theorem DefF.ok{k:Nat}(F:DefF K mg x st ps)(S:FnScope N ps (ac st))(len:∀vs H Q E,sp vs H Q E->vs.length=ps.length)
 (q:∀(f:J9)(cdv:Value)(A:qd5)(outer:List Env)(s:qa4)(H:Hp)(vs:List V)(Q:VK)(E:XK),Room k (A.deeper (qy3 x (ac st) s.heap.objs.size f cdv))->sp vs H Q E→
 ∃t,PSs (kQ CX0 P w K mg base N x (ac st) f cdv A outer s H E).nox (bi st) t/\t {nx:=fun _ H'=>Q .non H',rt:=Q} (start N vs) H):OkF P w K mg base x (k+1) ps sp:=by
 obtain⟨f,fd,h1,h2,h3,L⟩:=F.ex;exact⟨f,fd,h1,h2,h3,L.ok S len (q f)⟩
def DefF.mk'{kV ct:Value}{h:Heap}(X:K.In h)(G:h.Ns qc1 mg)
 (a:xB9 K qc1 x=some (some (.ref f)))
 (l:K.lookup f=some ⟨oc,od,.func (xC9 x x (cK st) (bi st) (ac st) .none kV doc pm an cdv ct),osl⟩) (c:xH9 K cdv x=true) (k:xE9 K (.ref f)=true)
 (q:∀(kV doc pm:Value)(an:Option J9)(cdv ct:Value)(us:List Value),us.length=ps.length->zg9 (xC9 x x (cK st) (bi st) (ac st) .none kV doc pm an cdv ct) ⟨us,[]⟩=pure (ps.zip us)):DefF K mg x st ps:=
 ⟨f,_,xI9 X G a,k,(nA l c k).binds q,nA l c k⟩
end
section
variable{X:Cx}{k:Nat}{ps:List Str}{sp:Sp}{x:Str}{p pos:Pos}{e:Jc}{es:List Jc}{t:TA}
theorem vv (F:OkF X.prog X.w X.K X.mg X.base x k ps sp) (W:Room k X.A) (hg:Gl X x) (O:PA X (e::es) t) (L:(x==("__debug__":Str))=false:=by decide)
  (Z:qb0 (e::es) X.env=(false,eval e X.env)::qb0 es X.env:=by rfl) (q:(ql0 pos (qb0 es X.env)).any (·.1)=false:=by rfl):PE X (.Call (.Name x p) (e::es) [] pos) (vc sp [] E0 t):=by
 obtain⟨f,fd,h1,h2,h3,Y⟩:=F.ex;exact yp Y W hg h1 h2 h3 .nil DI O L Z q
end
noncomputable def vw(N:List Str)(outer scope:Jd)(M:List Str)(src:List (Option Nat)):Bool:=
 (match scope.kind with|.function=>true|_=>false)&&
 scope.names.all (fun y=>decide (y.2≠.cell))&&
 scope.names.all (fun y=>!decide (y.2=.free)||(decide (outer.names.lookup y.1=some .cell)||decide (outer.names.lookup y.1=some .free)))&&
 scope.names.all (fun y=>!decide (y.2=.local)||decide (scope.names.lookup y.1=some .local))&&
 scope.names.all (fun y=>!decide (y.2=.free)||decide (scope.names.lookup y.1=some .free))&&
 decide (M.length=src.length)&&decide M.Nodup&&
 (M.zip src).all (fun p=>match p.2 with|none=>true|some j=>decide (N[j]?=some p.1)&&decide ((p.1,qd9)∈scope.names))
variable{src:List (Option Nat)}
theorem CmpScope.of{outer:Jd}{M:List Str}(h:vw N outer scope M src=true):CmpScope N outer scope M src:=by
 unfold vw at h;simp only[qb2,qj7,qi7,qj2,decide_eq_true_eq,decide_eq_false_iff_not]at h;obtain⟨⟨⟨⟨⟨⟨⟨h1,h2⟩,h3⟩,O⟩,W⟩,Y⟩,Z⟩,h8⟩:=h;refine⟨?_,h2,fun y q e=>(h3 y q).resolve_left fun z=>z e,fun y q e=>(O y q).resolve_left fun z=>z e,fun y q e=>(W y q).resolve_left fun z=>z e,Y,Z,fun p hp j L=>?_⟩
 .revert h1;cases scope.kind<;>simp
 .have:=h8 p hp;cases e:p.2 with
  |none=>rw[e]at L;cases L
  |some j'=>rw[e]at L this;cases L;simpa using this
def Plain(J:It)(xs:List V)(ok:Hp->Prop):Prop:=∀i H,ok H->(i<xs.length->J.go i H)/\(i=xs.length->J.stop i H)/\∀x H',i<xs.length->J.yld i H x H'->H'=H/\xs[i]?=some x
theorem plain_list:Plain (Itl K a) xs (fun H=>SqL K H a xs):=fun i H h=>⟨fun hi=>⟨xs,xs[i],h,by simp[hi]⟩,fun e=>⟨xs,h,by lia⟩,fun x H' _ y=>⟨y.1,y.2 xs h⟩⟩
theorem plain_tup:Plain (Itt K a) xs (fun H=>SqT K H a xs):=fun i H h=>⟨fun hi=>⟨xs,xs[i],h,by simp[hi]⟩,fun e=>⟨xs,h,by lia⟩,fun x H' _ y=>⟨y.1,y.2 xs h⟩⟩
def kW(lo:Int)(n:Nat):List V:=(qc7 n).map fun(i:Nat)=>V.int (lo+i)
def plain_range{lo:Int}{n:Nat}:Plain (Itr lo n) (kW lo n) (fun _=>True):=fun i H h=>by
 refine⟨fun hi=>?_,fun e=>?_,fun x H' hi y=>?_⟩
 .show i<n;simpa[kW] using hi
 .show n<=i;simp[kW]at e;lia
 .obtain⟨e,rfl⟩:=y;refine⟨e,?_⟩;unfold kW at hi ⊢;rw[qa1,qk8]at hi;rw[qb3,List.getElem?_range hi];rfl
def rG(x:Str):List V:=x.cps.toList.map fun c=>V.str ⟨#[c]⟩
def plain_str:Plain (Its x) (rG x) (fun _=>True):=fun i H h=>by
 refine⟨fun hi=>?_,fun e=>?_,fun v H' hi y=>?_⟩
 .show i<x.cps.size;simpa[rG] using hi
 .show i=x.cps.size;simpa[rG] using e
 .obtain⟨e,c,q,rfl⟩:=y;refine⟨e,?_⟩;unfold rG;rw[qb3,qo7,q];rfl
noncomputable def Ai(src:List (Option Nat))(g:TG)(tt:TT)(te:TE)(σ:St)(J:It)(H1:Hp)(Q:VK)(D:J9):Prop:=∃W:Nat->Nat->Hp->Prop,(∃m,W 0 m (upd H1 D (.lst [])))/\∀i m H,W i m H→
 (J.stop i H/\Q (.ref D) H)∨(J.go i H/\∃N:Hp->Prop,(∀H',N H'->∃O,O<m/\W (i+1) O H')/\∀x H',J.yld i H x H'→
  g x (stC src σ) H' fun q H2=>Wk (stC src σ) q/\tt q H2 fun b Y=>if b=true then te q Y fun v L=>∃ys,L D=some (.lst ys)/\ys.length<qb1/\N (upd L D (.lst (ys++[v])))else N Y)
variable{wi:TI}{g:TG}{te:TE}
theorem vz{tt:TT}{Q:VK}:oP src wi g tt te σ H Q=wi σ H fun J H1=>∀D,H1 D=none->Ai src g tt te σ J H1 Q D:=rfl
noncomputable def ForW(g:TG)(tb:TS)(D:Ends)(J:It)(σ:St)(H1:Hp):Prop:=∃W:Nat->Nat->St->Hp->Prop,(∃m,W 0 m σ H1)/\∀i m σ H,W i m σ H→ (J.stop i H/\D.nx σ H)∨(J.go i H/\∃N:St->Hp->Prop,(∀q H',N q H'->∃O,O<m/\W (i+1) O q H')/\∀x H',J.yld i H x H'->g x σ H' fun L H2=>tb {D with nx:=N,ct:=N,bk:=D.nx} L H2)
def yD{tb:TS}{D:Ends}:tFor wi g tb D σ H=wi σ H fun J H1=>ForW g tb D J σ H1:=rfl
variable{v:V}
theorem vA{pos:Pos}(O:Gl X x)(q:∃u,X.mg x=some u/\RelV v u)(L:(x==("__debug__":Str))=false:=by decide):PE X (.Name x pos) (tC v):=by obtain⟨u,h1,h2⟩:=q;exact yi O h1 h2 L
abbrev i7(qual:Str)(scope:Jd)(L f:J9)(cd:Value)(cl:List (Str×J9)):Env:=PySem.W.envX qual scope L f cd (qg8 (L+1) scope.names []++cl)
noncomputable def oR(CX:CXT)(P:qc6)(w:Ja)(K:xA9)(mg:Str->Option Value)(base:Heap)(N:List Str)(qual:Str)(scope:Jd)(f:J9)(q:Value)(cl:List (Str×J9))(A:qd5)(outer:List Env)(s:qa4)(H:Hp)(E:XK)(xe:Value->qa4->Prop):Cx where
 prog:=P
 w:=w
 K:=K
 mg:=mg
 base:=base
 A:=A.deeper (i7 qual scope s.heap.objs.size f q cl)
 N:=N
 s₀:=s
 H₀:=H
 env:=i7 qual scope s.heap.objs.size f q cl
 outer:=outer
 stack:=i7 qual scope s.heap.objs.size f q cl::outer
 ex:=[]
 calm:=true
 fn:=fun x=>(scope.names.lookup x != some .free)
 pn:=[]
 xe:=xe
structure ClScope(N ps fr:List Str)(sc:Jd):Prop where
 kind:sc.kind=.function
 co:sc.isCoroutine=false
 gen:sc.isGenerator=false
 nd:N.Nodup
 pre:N.take ps.length=ps
 post:N.drop (N.length-fr.length)=fr
 room:ps.length+fr.length<=N.length
 par:∀x∈ps,sc.names.lookup x=some .local∨sc.names.lookup x=some .cell
 frk:∀x∈fr,sc.names.lookup x=some .free
 all:∀x,sc.names.lookup x=some .free->x∈fr
def fD(N:List Str)(vs fs:List V):St:=vs.map some++(qf3 (N.length-vs.length-fs.length) none++fs.map some)
def gI(c:J9)(o:Obj):HO:=.frz o (.ext fun h=>h.get? c=some o)
def dq(H:Hp)(cl:List (Str×J9)):Hp:=fun b=>if b∈cl.map (·.2)then none else H b
def fW(H:Hp)(cl:List (Str×J9))(H':Hp):Hp:=fun b=>if b∈cl.map (·.2)then H b else H' b
theorem jG{n:Nat}{sc:Jd}(h:sc.names.lookup x≠some .cell)(nd:∀y∈sc.names,y.1=x->sc.names.lookup x=some y.2):(qg8 n sc.names []).lookup x=none:=by
 have L:∀(names:List (Str×qo3))(n:Nat)(J5:List (Str×J9)),(∀y∈names,y.1=x->y.2≠.cell)->J5.lookup x=none->(qg8 n names J5).lookup x=none:=fun names=>by
  induction names with
  |nil=>intro n J5 _ h;exact h
  |cons y r W=>
   intro n J5 q Y;obtain⟨a,k⟩:=y;unfold qg8;split
   .rename_i hk;refine W _ _ (fun z O=>q z (.tail _ O)) ?_;rw[qg3];cases Z:x==a with
    |false=>exact Y
    |true=>exact absurd (by simpa using hk) (q (a,k) (.head _) (beq_iff_eq.mp Z).symm)
   .exact W _ _ (fun z O=>q z (.tail _ O)) Y
 exact L sc.names n [] (fun y q e hk=>h (by rw[nd y q e,hk])) rfl
structure ClAt(H:Hp)(f:J9)(name qual:Str)(params:qi9)(body:List Jb)(scope:Jd)(cl:List (Str×J9))(fr:List Str)(fs:List V)(c':J9)(doc pm ctv:Value)(fo:Obj)(uf:HO):Prop where
 fn:H f=some (.frz fo uf)
 dat:fo.data=.func (xF9 name qual params body scope cl .none .none doc pm none (.ref c') ctv)
 cod:∃oc,H c'=some (.frz oc (.code qual))
 cel:∀x c,(x,c)∈cl->∃o u,H c=some (gI c o)/\o.data=.cell (some u)
 inj:∀x y c,cl.lookup x=some c->cl.lookup y=some c->x=y
 len:fs.length=fr.length
 val:∀(i:Nat)(x:Str)(v:V),fr[i]?=some x->fs[i]?=some v->∃c o u,cl.lookup x=some c/\H c=some (gI c o)/\o.data=.cell (some u)/\RelV v u
 nms:∀x c,cl.lookup x=some c->scope.names.lookup x=some .free
variable{b:J9}
section
variable{P:qc6}{w:Ja}{H:Hp}{h:Heap}{cl:List (Str×J9)}
def i8(q:b∈cl.map (·.2)):dq H cl b=none:=if_pos q
def bM(q:b∉cl.map (·.2)):dq H cl b=H b:=if_neg q
def mq{o:HO}(h:dq H cl b=some o):b∉cl.map (·.2)/\H b=some o:=by
 by_cases q:b∈cl.map (·.2)
 .rw[i8 q]at h;cases h
 .rw[bM q]at h;exact⟨q,h⟩
def i9(L:b∈cl.map (·.2)):∃x,(x,b)∈cl:=by obtain⟨⟨x,c⟩,q,rfl⟩:=qd2.mp L;exact⟨x,q⟩
theorem HOk.hide(ok:HOk P w H h)(O:∀x c,(x,c)∈cl->∃o u,H c=some (gI c o)/\o.data=.cell (some u)):HOk P w (dq H cl) h:=fun b u e=>by
 obtain⟨Z,e⟩:=mq e
 have L:∀c o,H c=some o->(∀ob φ,o≠.frz ob (.ext φ))->dq H cl c=some o:=fun c o q W=>by
  rw[bM fun z=>?_]
  .exact q
  .obtain⟨x,Y⟩:=i9 z;obtain⟨ob,u,g,_⟩:=O x c Y;rw[q]at g;exact W _ _ (qd4 g)
 exact(ok b u e).stay (fun _ _ _ q=>q) (fun c q=>L c _ q fun _ _ z=>nomatch z) (fun c xs q=>L c _ q fun _ _ z=>nomatch z) fun c ob xs q=>L c _ q fun _ _ z=>nomatch z
end
section
variable{CX:CXT}{P:qc6}{w:Ja}{K:xA9}{mg:Str->Option Value}{base:Heap}{N ps fr:List Str}{name qual:Str}{params:qi9}{body:List Jb}{scope:Jd}{f c':J9}{cl:List (Str×J9)}{A:qd5}{outer:List Env}{s s1:qa4}{H:Hp}{E:XK}{us:List Value}{vs fs:List V}{doc pm ctv:Value}{fo:Obj}{uf:HO}{xe:Value->qa4->Prop}
theorem qf (S:ClScope N ps fr scope) (C:ClAt H f name qual params body scope cl fr fs c' doc pm ctv fo uf) (W:∀ x,∀ y∈scope.names,y.1=x->scope.names.lookup x=some y.2) (hd:A.handled=none) (e0:Env0 P w K mg base A outer s H) (hl:vs.length=ps.length) (r:Vals vs us)
  (x:zd6 s s.heap.objs.size (bindL (i7 qual scope s.heap.objs.size f (.ref c') cl).kindOf (ps.zip us) fun _=>none) (qg8 (s.heap.objs.size+1) scope.names []) (bindC (i7 qual scope s.heap.objs.size f (.ref c') cl).kindOf (ps.zip us) fun _=>none) s1) :
  Inv (oR CX P w K mg base N qual scope f (.ref c') cl A outer s (dq H cl) E xe) [] (fD N vs fs) (dq H cl) s1:=by
 obtain⟨h1,tk,rfl,hk⟩:=x.done;have hplen:ps.length<=N.length:=qb5 (Nat.le_add_right _ _) S.room
 have own:∀y c,(qg8 (s.heap.objs.size+1) scope.names []).lookup y=some c->scope.names.lookup y=some .cell:=fun y c h=>by apply qx7;intro hn;rw[jG hn (W y)]at h;cases h
 have L:∀y c,cl.lookup y=some c->∃o u,s.heap.get? c=some o/\o.data=.cell (some u)/\c<s.heap.objs.size:=fun y c h=>by obtain⟨o,u,g,d⟩:=C.cel y c (PySem.mem_of_lookup h);have q:=(e0.hok c _ g).1;exact⟨o,u,q,d,qa8 q⟩
 have split:∀y c,(qg8 (s.heap.objs.size+1) scope.names []++cl).lookup y=some c->((qg8 (s.heap.objs.size+1) scope.names []).lookup y=some c/\s.heap.objs.size<c)∨(cl.lookup y=some c/\c<s.heap.objs.size):=fun y c h=>by
  rw[eh]at h;cases q:(qg8 (s.heap.objs.size+1) scope.names []).lookup y with
  |some d=>rw[q]at h;cases h;exact .inl ⟨rfl,x.above y _ (PySem.mem_of_lookup q)⟩
  |none=>rw[q]at h;have h:cl.lookup y=some c:=h;exact .inr ⟨h,let ⟨_,_,_,_,z⟩:=L y c h;z⟩
 have Z:∀b:J9,b∉(oR CX P w K mg base N qual scope f (.ref c') cl A outer s (dq H cl) E xe).ex:=fun b z=>absurd (show b∈([]:List J9)from z) (by simp)
 have hn:∀b,H b=none->dq H cl b=none:=fun b h=>by
  by_cases hb:b∈cl.map (·.2)
  .exact i8 hb
  .rw[bM hb];exact h
 have htb:∀p∈dL K,dq H cl p.1=some (.ctab p.2):=fun p hp=>by
  rw[bM fun z=>?_]
  .exact e0.tb p hp
  .obtain⟨x,hx⟩:=i9 z;obtain⟨o,u,g,_⟩:=C.cel x _ hx;rw[e0.tb p hp]at g;cases g
 refine⟨⟨e0.mod,S.kind,rfl,rfl,nL _,fun y z c h1 h2=>?_,fun y O=>?_,fun y c hf h=>?_,fun _=>hd,qd5.frames_deeper e0.frames,.inr ⟨rfl,rfl⟩,fun b z=>absurd z (Z b),fun b o e=>⟨(e0.bs b o e).1,hn b (e0.bs b o e).2⟩,e0.bsz,fun b _ _=>Z b,fun b z=>absurd z (Z b),e0.funs,fun b hb=>hn b (e0.frf b hb),htb⟩,rfl,e0.bare,Un.kept hk,⟨_,x.toInCall.ns,fun i y v h1 h2 h3=>?_⟩,fun y c h=>?_,hn _ (e0.hok.fresh (qq6 _)),fun y c h=>?_,fun p hp=>absurd (show p∈([]:List (J9×Obj))from hp) (by simp),(e0.hok.hide C.cel).kept hk,?_⟩
 .rcases split y c h1 with ⟨g1,Y⟩|⟨g1,Y⟩<;>rcases split z c h2 with ⟨g2,l2⟩|⟨g2,l2⟩
  .exact zi1 x.apart (PySem.mem_of_lookup g1) (PySem.mem_of_lookup g2)
  .exact absurd l2 (Nat.lt_asymm Y)
  .exact absurd Y (Nat.lt_asymm l2)
  .exact C.inj y z c g1 g2
 .have O:scope.names.lookup y=some .cell∨scope.names.lookup y=some .free:=O;show ∃c,(qg8 (s.heap.objs.size+1) scope.names []++cl).lookup y=some c;rw[eh];rcases O with O|O
  .obtain⟨c,e⟩:=iZ (n:=s.heap.objs.size+1) O;exact⟨c,by rw[e];rfl⟩
  .rw[jG (by rw[O];decide) (W y)];obtain⟨i,hi⟩:=qj9 (S.all y O);have hlt:i<fs.length:=by rw[C.len];exact(gX hi).1
   obtain⟨c,_,_,e,_⟩:=C.val i y fs[i] hi (by simp[hlt]);exact⟨c,e⟩
 .have hf:(scope.names.lookup y != some .free)=true:=hf;rcases split y c h with ⟨_,Y⟩|⟨g1,_⟩
  .exact qi8 Y
  .rw[C.nms y c g1]at hf;simp at hf
 .by_cases hi:i<vs.length
  .have ha:vs[i]?=some v:=by
    unfold fD at h2;rw[qc8 (by simpa using hi),qb3]at h2;cases e:vs[i]? with
    |none=>rw[e]at h2;cases h2
    |some a=>rw[e]at h2;cases h2;rfl
   obtain⟨u,hu,rv⟩:=r.get ha
   have hp:ps[i]?=some y:=by rw[<- S.pre,qy4 (by lia)];exact h1
   have ndP:ps.Nodup:=by rw[<- S.pre];exact S.nd.sublist (qy5 _ _)
   refine⟨u,rv,?_⟩;rcases S.par y (qd0 hp)with k|k
   .exact .inl ⟨k,jC ndP hp hu k⟩
   .obtain⟨c,e⟩:=iZ (n:=s.heap.objs.size+1) k;refine .inr ⟨.inl k,c,?_,?_⟩
    .show(qg8 (s.heap.objs.size+1) scope.names []++cl).lookup y=some c;rw[eh,e];rfl
    .have q:=x.cell y c e;rw[jD ndP hp hu (by show scope.names.lookup y≠_;rw[k];decide)]at q;exact q
  .unfold fD at h2;rw[qe3 (by simpa using hi)]at h2;rw[qa1]at h2;by_cases hj:i-vs.length<N.length-vs.length-fs.length
   .rw[qc8 (by simpa using hj),qk0]at h2;split at h2<;>cases h2
   .rw[qe3 (by simpa using hj),ql8,qb3]at h2;obtain⟨v',hv,e⟩:=mS h2;cases e;have hroom:=S.room;have hfl:=C.len
    have hfr:fr[i-vs.length-(N.length-vs.length-fs.length)]?=some y:=by rw[<- S.post,List.getElem?_drop];rw[show N.length-fr.length+(i-vs.length-(N.length-vs.length-fs.length))=i by lia];exact h1
    obtain⟨c,o,u,e1,e2,e3,e4⟩:=C.val _ y v hfr hv;refine⟨u,e4,.inr ⟨.inr (C.nms y c e1),c,?_,?_⟩⟩
    .show(qg8 (s.heap.objs.size+1) scope.names []++cl).lookup y=some c;rw[eh,jG (by rw[C.nms y c e1];decide) (W y),e1];rfl
    .exact⟨o,hk c o (e0.hok c _ e2).1,e3⟩
 .rcases split y c h with ⟨g1,_⟩|⟨g1,_⟩
  .exact⟨_,x.cell y c g1⟩
  .obtain⟨o,u,q,d,_⟩:=L y c g1;exact⟨_,o,hk c o q,d⟩
 .rcases split y c h with ⟨_,Y⟩|⟨g1,_⟩
  .exact hn _ (e0.hok.fresh (qi8 Y))
  .exact i8 (qd2.mpr ⟨(y,c),PySem.mem_of_lookup g1,rfl⟩)
 .unfold fD;show _=N.length;rw[qb7,qb7,qa1,ql8,qa1];have:=S.room;have:=C.len;lia
theorem vC {k:Nat} {args:Args} {Q:VK} (S:ClScope N ps fr scope) (C:ClAt H f name qual params body scope cl fr fs c' doc pm ctv fo uf) (ndn:∀ x,∀ y∈scope.names,y.1=x->scope.names.lookup x=some y.2) (hr:Room (k+1) A) (e0:Env0 P w K mg base A outer s H)
  (Y:qz9 s (xF9 name qual params body scope cl .none .none doc pm none (.ref c') ctv) args (ps.zip us)) (hl:vs.length=ps.length) (r:Vals vs us)
  (hbody:Room k (A.deeper (i7 qual scope s.heap.objs.size f (.ref c') cl))->∃t,PSs (oR CX P w K mg base N qual scope f (.ref c') cl A outer s (dq H cl) E fun _ _=>False) body t/\t {nx:=fun _ H'=>(∀b∈cl.map (·.2),H' b=none)->Q .non (fW H cl H'),rt:=fun v H'=>(∀b∈cl.map (·.2),H' b=none)->Q v (fW H cl H')} (fD N vs fs) (dq H cl)) :
  qp6 (model P w) A (.call (.ref f) args) (CR CX outer P w H s Q E) s:=by
 have KX:K.In s.heap:=e0.mod.kin.keeps fun b o e=>(e0.bs b o e).1
 have lim:s.heap.NoLimit:=e0.mod.nolimit.keeps fun b o e=>(e0.bs b o e).1
 have hkind:∀y∈ps.zip us,scope.names.lookup y.1=some .local∨(scope.names.lookup y.1=some .cell/\((qg8 (s.heap.objs.size+1) scope.names []).lookup y.1).isSome=true):=fun⟨n,v⟩ hy=>by
  rcases S.par n (qv7 hy).1 with q|q
  .exact .inl q
  .exact .inr ⟨q,xR9 _ _ _ (.inl q)⟩
 refine zd7 hr.depth (e0.hok f _ C.fn).1 C.dat S.co S.gen rfl (let ⟨_,z⟩:=C.cod;(e0.hok c' _ z).2) (Y _ _ _ _ ?_);refine yA S.kind hkind fun env he s1 x=>?_
 subst he;refine⟨lim.keeps x.toInCall.keep,codeAny_func ?_⟩;obtain⟨t,ht,hq⟩:=hbody (hr.deeper _);have I:Inv (oR CX P w K mg base N qual scope f (.ref c') cl A outer s (dq H cl) E fun _ _=>False) [] (fD N vs fs) (dq H cl) s1:=qf S C ndn hr.hd e0 hl r x;refine qk6 (ht [] s1 (fD N vs fs) (dq H cl) _ I hq) (fun fl s' hs=>?_) fun e s' hs=>hs.elim
 have fin:∀{σ':St}{H':Hp}{v:V}{u:Value},Inv (oR CX P w K mg base N qual scope f (.ref c') cl A outer s (dq H cl) E fun _ _=>False) [] σ' H' s'->RelV v u->((∀b∈cl.map (·.2),H' b=none)->Q v (fW H cl H'))->CE outer P w H s Q u s':=fun {σ' H' v u} J rv q=>by
  have cn:∀b,b∈cl.map (·.2)->∃o u,H b=some (gI b o)/\o.data=.cell (some u):=fun b Y=>by obtain⟨x,hx⟩:=i9 Y;exact C.cel x b hx
  have kc:∀b o,b∈cl.map (·.2)->s.heap.get? b=some o->s'.heap.get? b=some o/\H' b=none:=fun b o Y q=>by
   obtain⟨o',u,g,d⟩:=cn b Y;have hfs:b∉frs outer:=fun z=>by have:=e0.frf b z;rw[g]at this;cases this
   exact⟨J.base.keep b o q (i8 Y) hfs (fun z=>absurd (show b∈([]:List J9)from z) (by simp)),J.base.free b o q (i8 Y) (fun z=>absurd (show b∈([]:List J9)from z) (by simp))⟩
  have sin:∀{b:J9},b∈cl.map (·.2)->fW H cl H' b=H b:=fun Y=>if_pos Y
  have O:∀{b:J9},b∉cl.map (·.2)->fW H cl H' b=H' b:=fun Y=>if_neg Y
  have Z:∀(b:J9)(o:HO),H b=some o->(∀ob φ,o≠.frz ob (.ext φ))->b∉cl.map (·.2):=fun b o q hno z=>by obtain⟨ob,u,g,_⟩:=cn b z;rw[q]at g;exact hno _ _ (qd4 g)
  have q:=q fun b Y=>by obtain⟨o',u',g,d⟩:=cn b Y;exact(kc b o' Y (e0.hok b _ g).1).2
  refine⟨v,fW H cl H',J.os,J.bare,⟨fun b o q n Y hx=>?_,fun b o q n Y hx=>?_,fun b o q n hx=>?_,fun b o q hx=>?_,fun b xs q=>?_,fun b o u q=>?_,fun b ps q=>?_,fun b qs q=>?_⟩,fun b o q=>?_,rv,q⟩
  .have L:b∉cl.map (·.2):=fun z=>by obtain⟨_,_,g,_⟩:=cn b z;rw[n]at g;cases g
   exact J.base.keep b o q ((bM L).trans n) Y (fun z=>absurd (show b∈([]:List J9)from z) (by simp))
  .have L:b∉cl.map (·.2):=fun z=>by obtain⟨_,_,g,_⟩:=cn b z;rw[n]at g;cases g
   exact J.base.slot b o q ((bM L).trans n) Y (fun z=>absurd (show b∈([]:List J9)from z) (by simp))
  .have L:b∉cl.map (·.2):=fun z=>by obtain⟨_,_,g,_⟩:=cn b z;rw[n]at g;cases g
   rw[O L];exact J.base.free b o q ((bM L).trans n) (fun z=>absurd (show b∈([]:List J9)from z) (by simp))
  .exact J.base.there b o q (fun z=>absurd (show b∈([]:List J9)from z) (by simp))
  .have L:=Z b _ q fun _ _ z=>nomatch z
   rw[O L];exact J.base.tups b xs ((bM L).trans q)
  .by_cases L:b∈cl.map (·.2)
   .rw[sin L];exact q
   .rw[O L];exact J.base.frzs b o u ((bM L).trans q)
  .have L:=Z b _ q fun _ _ z=>nomatch z
   rw[O L];exact J.base.tbls b ps ((bM L).trans q)
  .have L:=Z b _ q fun _ _ z=>nomatch z
   rw[O L];exact J.base.cts b qs ((bM L).trans q)
  .by_cases L:b∈cl.map (·.2)
   .rw[sin L]at q;obtain⟨ob,u,g,d⟩:=cn b L;rw[q]at g;cases g;have e1:=(e0.hok b _ q).1;have e2:=(kc b ob L e1).1;exact⟨e2,e2,⟨ob,e2⟩,fun h1 h2 z1 z2=>z2 ob z1⟩
   .rw[O L]at q
    have up:∀c o,H' c=some o->fW H cl H' c=some o:=fun c o z=>by
     by_cases hcc:c∈cl.map (·.2)
     .obtain⟨ob,u,g,d⟩:=cn c hcc;have e1:=(e0.hok c _ g).1;rw[(kc c ob hcc e1).2]at z;cases z
     .rw[O hcc];exact z
    exact(J.hok b o q).stay (fun _ _ _ z=>z) (fun c z=>up c _ z) (fun c xs z=>up c _ z) fun c ob xs z=>up c _ z
 cases fl with
 |ret u=>obtain⟨v,σ',H',J,rv,q⟩:=hs;exact fin J rv q
 |next=>obtain⟨σ',H',J,q⟩:=hs;exact fin (v:=V.non) (u:=qh6) J rfl q
 |brk=>obtain⟨_,_,_,q⟩:=hs;exact qg5 q
 |cont=>obtain⟨_,_,_,q⟩:=hs;exact qg5 q
end
structure TabB(mg:Str->Option Value)(base:Heap)(c P:J9):Prop where
 code:xN9 base c P
 bm:∃bm ob,mg "__builtins__"=some (.ref bm)/\bm≠qv2/\base.get? bm=some ob/\ob.cls=.type "module"/\ob.dict=some qv2/\ob.data=.plain
def j1:∀{l m:List Value},zc8 l->zc8 m->zc8 (l++m)
 |[],m,_,h=>h
 |.int _ _::.int _ _::_::r,m,h,h'=>j1 (l:=r) h h'
def mr{pos:Pos}:∀{l m:List Value},zc8 l->qp8 pos (l++m)=(qp8 pos l).or (qp8 pos m)
 |[],m,_=>by simp[qp8]
 |.int a t::.int b u::c::r,m,h=>by
  have h:zc8 r:=h;show(if _ then _ else qp8 pos (r++m))=Option.or (if _ then _ else qp8 pos r) _;split
  .rfl
  .exact mr h
structure Made(H H':Hp)(lo:Nat)(f c':J9)(qual:Str)(fo:Obj):Prop where
 fn:H' f=some (.frz fo (.ext fun h=>h.get? f=some fo))
 cod:∃oc,H' c'=some (.frz oc (.code qual))
 old:∀b o,H b=some o->H' b=some o
 new:∀b o,H' b=some o->H b=some o∨(lo<=b/\H b=none)
 lof:lo<=f
section
variable{X:Cx}{J1:List (J9×Obj)}{σ:St}{H:Hp}{s:qa4}{c P:J9}{qs:List ((Nat×Nat)×Str)}{name:Str}{params:qi9}{body:List Jb}{scope:Jd}{clos:List (Str×J9)}{pos:Pos}
theorem yE{Q:Value->qa4->Prop}(I:Inv X J1 σ H s)(B:TabB X.mg X.base c P)(hcode:X.env.code=.ref c)(hP:H P=some (.ctab qs))(hq:((pos.line,pos.col),qual)∈qs)(hun:∀q,((pos.line,pos.col),q)∈qs->q=qual)(hcl:ze9 scope X.env=pure clos)
 (q:∀(f c':J9)(doc pm ctv:Value)(H':Hp)(s':qa4),Made H H' s.heap.objs.size f c' qual {cls:=.type "function",data:=.func (xF9 name qual params body scope clos .none .none doc pm none (.ref c') ctv)}->Inv X J1 σ H' s'->Q (.ref f) s') :
  wpAny (model X.prog X.w) A (makeFunction name qual params (.stmts body) scope X.env [] [] [] pos pos.line) Q E s:=by
 obtain⟨ps,hp,ht,hent⟩:=I.hok P _ hP
 have inB:∀{b:J9}{o:Obj},X.base.get? b=some o->b≠P:=fun {b o} e z=>by have:=(I.bs b o e).2;rw[z,hP]at this;cases this
 have hg:s.heap.Ns qc1 X.mg:=I.mod.glob.keeps I.bk;obtain⟨bm,ob,b1,b2,b3,b4,b5,b6⟩:=B.bm
 have hgP:qc1≠P:=by obtain⟨o,es,ep,e,_⟩:=I.mod.glob;exact inB e
 have hbG:bm≠qc1:=fun z=>by obtain⟨o,es,ep,e,hd,_⟩:=I.mod.glob;rw[z,e]at b3;cases b3;rw[hd]at b6;cases b6
 have hB:s.heap.BuiltinsAt X.mg P:=⟨bm,ob,b1,b2,hbG,inB b3,I.bk _ _ b3,b4,b5,b6⟩;have C:xN9 s.heap c P:=B.code.keeps I.bk;have lt:∀{b:J9}{o:HO},H b=some o->b<s.heap.objs.size:=fun h=>I.hok.lt h
 cases hf:qp8 pos ps.toList with
 |some cv=>
  obtain⟨c',oc,rfl,hc'⟩:=hent pos qual cv hq hf;refine PySem.W.makeFunction_hit hcl I.ok.glob hg hcode C hp ht hf hB fun ctv doc h' tk hk O=>?_
  have hfr:H h'.objs.size=none:=I.hok.fresh O
  have I2:=I.laid (a:=h'.objs.size) (o:=.frz {cls:=.type "function",data:=.func (xF9 name qual params body scope clos .none .none doc ((X.mg "__name__").getD .none) none (.ref c') ctv)} (.ext fun h=>h.get? h'.objs.size=some {cls:=.type "function",data:=.func (xF9 name qual params body scope clos .none .none doc ((X.mg "__name__").getD .none) none (.ref c') ctv)})) (t':=tk) (h':=h'.push {cls:=.type "function",data:=.func (xF9 name qual params body scope clos .none .none doc ((X.mg "__name__").getD .none) none (.ref c') ctv)}) (fun b o e=>gP _ (hk b o e)) O
   ⟨qa7 _ rfl,qa7 _ rfl,⟨_,qa7 _ rfl⟩,fun h1 h2 z1 z2=>z2 _ z1⟩
  refine q _ c' doc _ ctv _ _ ⟨bq,?_,fun b o e=>?_,fun b o e=>?_,O⟩ I2
  .refine⟨oc,?_⟩;rw[aQ (qc0 (qb9 (lt hc') O))];exact hc'
  .rw[aQ (qc0 (qb9 (lt e) O))];exact e
  .by_cases hb:b=h'.objs.size
   .exact .inr ⟨by rw[hb];exact O,by rw[hb];exact hfr⟩
   .rw[aQ hb]at e;exact .inl e
 |none=>
  refine PySem.W.makeFunction_K hcl I.ok.glob hg hcode C hp ht hf hgP hB fun c' ctv doc h' tk hx Z hlt hrec htb=>?_
  obtain⟨c2,oc,vs,t,e2,hoc,hrec2⟩:=hrec;cases e2;have hfr:H h'.objs.size=none:=I.hok.fresh (qb5 Z (qi8 hlt));have hcr:H c'=none:=I.hok.fresh Z;have hne:c'≠h'.objs.size:=qc0 hlt;generalize hfo:({cls:=.type "function",data:=.func (xF9 name qual params body scope clos .none .none doc ((X.mg "__name__").getD .none) none (.ref c') ctv)}:Obj)=fo;have hfo':(PySem.W.fnMade name qual params body scope clos doc ((X.mg "__name__").getD .none) c' ctv)=fo:=hfo;rw[hfo'];have hfree:fo.isFreed=false:=by rw[<- hfo];rfl
  have gf:(h'.push fo).get? h'.objs.size=some fo:=qa7 _ hfree;let H':Hp:=upd (upd H c' (.frz oc (.code qual))) h'.objs.size (.frz fo (.ext fun h=>h.get? h'.objs.size=some fo))
  have L:∀b o,H b=some o->H' b=some o:=fun b o e=>by show upd (upd H c' (.frz oc (.code qual))) h'.objs.size _ b=some o;rw[aQ (fun z=>by rw[z,hfr]at e;cases e),aQ (fun z=>by rw[z,hcr]at e;cases e)];exact e
  have hnew:∀b o,H' b=some o->H b=some o∨(s.heap.objs.size<=b/\H b=none):=fun b o e=>by
   by_cases h1:b=h'.objs.size
   .exact .inr ⟨by rw[h1];exact qb5 Z (qi8 hlt),by rw[h1];exact hfr⟩
   .by_cases h2:b=c'
    .exact .inr ⟨by rw[h2];exact Z,by rw[h2];exact hcr⟩
    .have e:upd (upd H c' (.frz oc (.code qual))) h'.objs.size _ b=some o:=e;rw[aQ h1,aQ h2]at e;exact .inl e
  have kp:∀b o,b≠P->s.heap.get? b=some o->(h'.push fo).get? b=some o:=fun b o hb e=>gP _ (hx b o hb e)
  have Y:H' c'=some (.frz oc (.code qual)):=by show upd (upd H c' (.frz oc (.code qual))) h'.objs.size _ c'=_;rw[aQ hne,bq]
  have un:Un X.fs [] H H' s.heap (h'.push fo):=by
   have nP:∀{b:J9},H b=none->b≠P:=fun {b} n z=>by rw[z,hP]at n;cases n
   refine⟨fun b o e n _ _=>kp b o (nP n) e,fun b o e n _ _=>⟨o.slots,by rw[kp b o (nP n) e]⟩,fun b o e n _=>?_,fun b o e _=>?_,fun b xs e=>L b _ e,fun b o u e=>L b _ e,fun b ps e=>⟨#[],by rw[L b _ e];simp⟩,fun b qs e=>L b _ e⟩
   .cases z:H' b with
    |none=>rfl
    |some w=>
     rcases hnew b w z with y|⟨y,_⟩
     .rw[n]at y;cases y
     .exact absurd (qa8 e) (qy7.mpr y)
   .by_cases hb:b=P
    .rw[hb];exact⟨_,gP _ htb⟩
    .exact⟨o,kp b o hb e⟩
  have hok:HOk X.prog X.w H' (h'.push fo):=fun b o e=>by
   by_cases h1:b=h'.objs.size
   .subst h1;have e:upd (upd H c' (.frz oc (.code qual))) h'.objs.size _ h'.objs.size=some o:=e;rw[bq]at e;cases e;exact⟨gf,gf,⟨_,gf⟩,fun h1 h2 z1 z2=>z2 _ z1⟩
   .by_cases h2:b=c'
    .subst h2;rw[Y]at e;cases e;exact⟨gP _ hoc,b,oc,vs,t,rfl,gP _ hoc,hrec2⟩
    .have eH:H b=some o:=by have e:upd (upd H c' (.frz oc (.code qual))) h'.objs.size _ b=some o:=e;rw[aQ h1,aQ h2]at e;exact e
     by_cases h3:b=P
     .subst h3;rw[hP]at eH;cases eH;refine⟨_,gP _ htb,?_,fun pos' q' v h4 h5=>?_⟩
      .rw[qw0];exact j1 ht trivial
      .rw[qw0,mr ht]at h5;cases h6:qp8 pos' ps.toList with
       |some v'=>rw[h6]at h5;cases h5;obtain⟨c2,o2,e1,e2⟩:=hent pos' q' _ h4 h6;exact⟨c2,o2,e1,L _ _ e2⟩
       |none=>
        rw[h6]at h5;have h5:qp8 pos' [qf7 pos.line,qf7 pos.col,.ref c']=some v:=h5;simp only[qf7,qp8]at h5;split at h5
        .rename_i hh;cases h5;refine⟨c',oc,rfl,?_⟩
         have e1:pos'.line=pos.line/\pos'.col=pos.col:=by simp only[qb2,beq_iff_eq]at hh;lia
         rw[e1.1,e1.2]at h4;rw[hun q' h4];exact Y
        .cases h5
     .refine(I.hok b o eH).stay (fun d u hd z=>kp d u ?_ z) (fun d z=>L d _ z) (fun d xs z=>L d _ z) fun d ob xs z=>L d _ z
      rcases hd with rfl|hd
      .exact h3
      .intro z;rw[z,hP]at hd;cases hd
  exact q _ c' doc _ ctv H' _ ⟨by show upd _ _ _ _=_;rw[bq,<- hfo],⟨oc,Y⟩,L,hnew,qb5 Z (qi8 hlt)⟩ (I.un (t':=tk) un hok)
end
section
variable{X:Cx}{K:xA9}{tg:Jc}
end
def kX(scope outer:Jd):Jd:={scope with names:=scope.names.map fun(n,k)=>if(k==.free&&outer.kind==.function&&outer.names.lookup n==some .cell)then(n,.cell)else(n,k)}
noncomputable def de(sc:Jd)(N:List Str)(i:Nat)(x:Str):Bool:=decide (N[i]?=some x)&&(decide (sc.names.lookup x=some .local)||(decide (sc.names.lookup x=some .cell)||decide (sc.names.lookup x=some .free)))&&!(x==("__debug__":Str))&&!(x==("__classdict__":Str))
def jH(sc:Jd)(x:Str):Bool:=decide (sc.names.lookup x=some .local)||decide (sc.names.lookup x=some .cell)
def aD(sc:Jd)(x:Str):Bool:=decide (sc.names.lookup x=some .globalImplicit)&&!(x==("__debug__":Str))&&!decide (x=("__name__":Str))
section
variable{sc:Jd}{N:List Str}{i:Nat}{x:Str}
theorem iG(h:de sc N i x=true):N[i]?=some x:=by unfold de at h;simp only[qb2,decide_eq_true_eq]at h;exact h.1.1.1
theorem BK(h:de sc N i x=true):Vis sc x:=by unfold de at h;simp only[qb2,qi7,decide_eq_true_eq]at h;exact h.1.1.2
theorem BL(h:de sc N i x=true):(x==("__debug__":Str))=false:=by unfold de at h;simp only[qb2,qj2]at h;exact h.1.2
theorem DJ(h:de sc N i x=true):(x==("__classdict__":Str))=false:=by unfold de at h;simp only[qb2,qj2]at h;exact h.2
theorem kY(h:jH sc x=true):Loc sc x:=by unfold jH at h;simp only[qi7,decide_eq_true_eq]at h;exact h
theorem z144(h:aD sc x=true):sc.names.lookup x=some .globalImplicit:=by unfold aD at h;simp only[qb2,decide_eq_true_eq]at h;exact h.1.1
theorem kZ(h:aD sc x=true):(x==("__debug__":Str))=false:=by unfold aD at h;simp only[qb2,qj2]at h;exact h.1.2
theorem BM(h:aD sc x=true):x≠("__name__":Str):=by unfold aD at h;simp only[qb2,qj2,decide_eq_false_iff_not]at h;exact h.2
end
def cW(X:Cx)(sc:Jd):Prop:=X.env.scope=sc
variable{i:Nat}
section
variable{X:Cx}{sc:Jd}{N:List Str}{x:Str}{pos p:Pos}
theorem pvD(i:Nat)(h:de sc N i x=true)(e1:cW X sc:=by rfl)(q:X.N=N:=by rfl):PE X (.Name x pos) (iW i):=by have e1:X.env.scope=sc:=e1;subst e1 q;exact A6 (iG h) (BK h) (BL h) (DJ h)
theorem glD(h:aD sc x=true)(e1:cW X sc:=by rfl):Gl X x:=by have e1:X.env.scope=sc:=e1;subst e1;exact z144 h
theorem rH{e:Jc}{pos':Pos}(h:de sc N i x=true)(q:jH sc x=true)(W:N.Nodup)(Z:PE X e te)(e1:cW X sc:=by rfl)(Y:X.N=N:=by rfl)(O:X.fn x=true∨X.env.scope.names.lookup x=some .local:=by exact .inl rfl)
 (L:qn7 e (some (.Name x pos')) pos.line X.env=pure false:=by rfl):PS X (.Assign [.Name x pos'] e pos) (yn te (kN i)):=by
 have e1:X.env.scope=sc:=e1;subst e1 Y;exact Bi W (iG h) (kY q) Z L O
theorem aU(h:de sc N i x=true)(q:jH sc x=true)(W:N.Nodup)(e1:cW X sc:=by rfl)(L:X.N=N:=by rfl)(O:X.fn x=true∨X.env.scope.names.lookup x=some .local:=by exact .inl rfl):PG X (.Name x pos) (kN i):=by have e1:X.env.scope=sc:=e1;subst e1 L;exact rf W (iG h) (kY q) O
def loOk(sc:Jd)(x:Str):Bool:=decide (sc.names.lookup x=some .local)
theorem dN(h:de sc N i x=true)(q:loOk sc x=true)(O:X.N.Nodup)(e1:cW X sc)(L:X.N=N:=by rfl):PG X (.Name x pos) (kN i):=by have e1:X.env.scope=sc:=e1;subst e1 L;have q:X.env.scope.names.lookup x=some .local:=of_decide_eq_true q;exact rf O (iG h) (.inl q) (.inr q)
theorem k5(h:aD sc x=true)(q:∃u,X.mg x=some u/\RelV v u)(e1:cW X sc:=by rfl):PE X (.Name x pos) (tC v):=vA (glD h e1) q (kZ h)
theorem vD{u:Value}(h:aD sc x=true)(q:X.mg x=none)(L:qf2 x=some u)(r:RelV v u)(e1:cW X sc:=by rfl):PE X (.Name x pos) (tC v):=yj (glD h e1) q L r (BM h) (kZ h)
variable{e:Jc}{es:List Jc}{t:TA}{id T:String}{r:List V->Hp->VK->Prop}{k:Nat}{ps:List Str}{sp:Sp}
theorem jI (h:aD sc x=true) (W:fC X (.builtin id) r) (O:X.mg x=none) (Y:qf2 x=some (.builtin id)) (L:PA X (e::es) t) (e1:cW X sc:=by rfl)
  (Z:qb0 (e::es) X.env=(false,eval e X.env)::qb0 es X.env:=by rfl) (q:(ql0 pos (qb0 es X.env)).any (·.1)=false:=by rfl):PE X (.Call (.Name x p) (e::es) [] pos) (tCB r t):=
 vd W (glD h e1) O Y L (BM h) (kZ h) Z q
theorem k6 (h:aD sc x=true) (W:fC X (.type T) r) (O:X.mg x=none) (Y:qf2 x=some (.type T)) (L:PA X (e::es) t) (e1:cW X sc:=by rfl)
  (Z:qb0 (e::es) X.env=(false,eval e X.env)::qb0 es X.env:=by rfl) (q:(ql0 pos (qb0 es X.env)).any (·.1)=false:=by rfl):PE X (.Call (.Name x p) (e::es) [] pos) (tCB r t):=
 tJ W (glD h e1) O Y L (BM h) (kZ h) Z q
theorem tX (h:aD sc x=true) (F:OkF X.prog X.w X.K X.mg X.base x k ps sp) (O:Room k X.A) (L:PA X (e::es) t) (e1:cW X sc:=by rfl)
  (W:qb0 (e::es) X.env=(false,eval e X.env)::qb0 es X.env:=by rfl) (q:(ql0 pos (qb0 es X.env)).any (·.1)=false:=by rfl):PE X (.Call (.Name x p) (e::es) [] pos) (vc sp [] E0 t):=
 vv F O (glD h e1) L (kZ h) W q
variable{tg a b:Jc}{ta:TA}
theorem qg(h:aD sc "range"=true)(L:X.mg "range"=none)(q:PA X [a] ta)(e1:cW X sc:=by rfl)(O:qb0 [a] X.env=[(false,eval a X.env)]:=by rfl):PI X tg (.Call (.Name "range" p) [a] [] pos) (Ad ta):=tE (glD h e1) L q O
end
section
variable{X:Cx}{M:List Str}{scope outer:Jd}{C:J9}{s:qa4}{H:Hp}{ex:List J9}{x:Str}{pos p:Pos}
theorem scC(q:cW X outer):cW (cxC X M scope C s H ex) (kX scope outer):=by have q:X.env.scope=outer:=q;subst q;rfl
end
inductive Dt where
 |non|bl (b:Bool)|int (i:Int)|str (x:Str)|tup (l:List Dt)|lst (l:List Dt)|dct (ks:List Key) (l:List Dt)|dcT (ks:List (List Key)) (l:List Dt)
mutual
noncomputable def peq:Dt->Dt->Bool
 |.non,.non=>true
 |.bl a,.bl b=>a==b
 |.bl a,.int j=>(if a then(1:Int)else 0)==j
 |.int i,.bl b=>i==(if b then(1:Int)else 0)
 |.int i,.int j=>i==j
 |.str x,.str y=>x==y
 |.tup l,.tup m=>peqs l m
 |.lst l,.lst m=>peqs l m
 |.dct ks l,.dct js m=>decide (ks=js)&&peqs l m
 |.dcT ks l,.dcT js m=>decide (ks=js)&&peqs l m
 |_,_=>false
noncomputable def peqs:List Dt->List Dt->Bool
 |[],[]=>true
 |d::l,e::m=>peq d e&&peqs l m
 |_,_=>false
end
mutual
theorem ja:∀d:Dt,peq d d=true
 |.non=>by simp[peq]
 |.bl b=>by simp[peq]
 |.int i=>by simp[peq]
 |.str x=>by simp[peq]
 |.tup l=>by simp only[peq];exact peqs_self l
 |.lst l=>by simp only[peq];exact peqs_self l
 |.dct ks l=>by simp only[peq,decide_true,qj3];exact peqs_self l
 |.dcT ks l=>by simp only[peq,decide_true,qj3];exact peqs_self l
theorem peqs_self:∀l:List Dt,peqs l l=true
 |[]=>by simp[peqs]
 |d::l=>by simp only[peqs,ja d,peqs_self l,za3]
end
mutual
noncomputable def gn:Dt->Nat
 |.tup l=>deeps l+1
 |.lst l=>deeps l+1
 |_=>0
noncomputable def deeps:List Dt->Nat
 |[]=>0
 |d::l=>max (gn d) (deeps l)
end
mutual
noncomputable def Rep(K:xA9)(H:Hp):Dt->V->Prop
 |.non,v=>v=.non
 |.bl b,v=>v=.bl b
 |.int i,v=>v=.int i
 |.str x,v=>v=.str x
 |.tup l,v=>∃a vs,v=.ref a/\SqT K H a vs/\Reps K H l vs
 |.lst l,v=>∃a vs,v=.ref a/\SqL K H a vs/\Reps K H l vs
 |.dct ks l,v=>∃a J6,v=.ref a/\Rd H a (.dK J6)/\J6.map (·.1)=ks/\Reps K H l (J6.map (·.2))
 |.dcT ks l,v=>∃a J6,v=.ref a/\Rd H a (.dT J6)/\J6.map (·.1)=ks/\Reps K H l (J6.map (·.2))
noncomputable def Reps(K:xA9)(H:Hp):List Dt->List V->Prop
 |[],vs=>vs=[]
 |d::l,vs=>∃v ws,vs=v::ws/\Rep K H d v/\Reps K H l ws
end
def Same.tup(e:Same H H')(h:SqT K H a xs):SqT K H' a xs:=by
 rcases h with h|h
 .exact .inl (e _ _ h)
 .exact .inr h
def Same.rd{u:HO}(e:Same H H')(h:Rd H a u):Rd H' a u:=by
 rcases h with h|⟨o,h⟩
 .exact .inl (e _ _ h)
 .exact .inr ⟨o,e _ _ h⟩
mutual
theorem Rep.same{K:xA9}{H H':Hp}(e:Same H H'):∀{d:Dt}{v:V},Rep K H d v->Rep K H' d v
 |.non,v,h=>h
 |.bl _,v,h=>h
 |.int _,v,h=>h
 |.str _,v,h=>h
 |.tup l,v,h=>by unfold Rep at h ⊢;obtain⟨a,vs,h1,h2,h3⟩:=h;exact⟨a,vs,h1,e.tup h2,Reps.same e h3⟩
 |.lst l,v,h=>by unfold Rep at h ⊢;obtain⟨a,vs,h1,h2,h3⟩:=h;exact⟨a,vs,h1,e.seq h2,Reps.same e h3⟩
 |.dct ks l,v,h=>by unfold Rep at h ⊢;obtain⟨a,vs,h1,h2,h3,h4⟩:=h;exact⟨a,vs,h1,e.rd h2,h3,Reps.same e h4⟩
 |.dcT ks l,v,h=>by unfold Rep at h ⊢;obtain⟨a,vs,h1,h2,h3,h4⟩:=h;exact⟨a,vs,h1,e.rd h2,h3,Reps.same e h4⟩
theorem Reps.same{K:xA9}{H H':Hp}(e:Same H H'):∀{l:List Dt}{vs:List V},Reps K H l vs->Reps K H' l vs
 |[],vs,h=>h
 |d::l,vs,h=>by unfold Reps at h ⊢;obtain⟨v,ws,h1,h2,h3⟩:=h;exact⟨v,ws,h1,Rep.same e h2,Reps.same e h3⟩
end
def Reps.length:∀{l:List Dt}{vs:List V},Reps K H l vs->vs.length=l.length
 |[],vs,h=>by unfold Reps at h;rw[h];rfl
 |d::l,vs,h=>by unfold Reps at h;obtain⟨v,q,rfl,_,h3⟩:=h;simp[Reps.length h3]
theorem Reps.get:∀{l:List Dt}{vs:List V}{i:Nat}{d:Dt},Reps K H l vs->l[i]?=some d->∃v,vs[i]?=some v/\Rep K H d v
 |[],vs,i,d,h,e=>by simp at e
 |d0::l,vs,0,d,h,e=>by unfold Reps at h;obtain⟨v,q,rfl,h2,_⟩:=h;simp at e;subst e;exact⟨v,rfl,h2⟩
 |d0::l,vs,i+1,d,h,e=>by unfold Reps at h;obtain⟨v,q,rfl,_,h3⟩:=h;obtain⟨u,L,O⟩:=Reps.get (i:=i) h3 (by simpa using e);exact⟨u,by simpa using L,O⟩
theorem Reps.append:∀{l m:List Dt}{vs q:List V},Reps K H l vs->Reps K H m q->Reps K H (l++m) (vs++q)
 |[],m,vs,q,h,h'=>by unfold Reps at h;rw[h];exact h'
 |d::l,m,vs,q,h,h'=>by unfold Reps at h;obtain⟨v,us,rfl,h2,h3⟩:=h;show Reps K H (d::(l++m)) (v::(us++q));unfold Reps;exact⟨v,_,rfl,h2,Reps.append h3 h'⟩
theorem Reps.one{d:Dt}(h:Rep K H d v):Reps K H [d] [v]:=by unfold Reps;exact⟨v,[],rfl,h,by unfold Reps;rfl⟩
def Reps.take:∀{l:List Dt}{vs:List V}(n:Nat),Reps K H l vs->Reps K H (l.take n) (vs.take n)
 |_,_,0,_=>by simp[Reps]
 |[],vs,n+1,h=>by unfold Reps at h;rw[h];simp[Reps]
 |d::l,vs,n+1,h=>by unfold Reps at h;obtain⟨v,us,rfl,h2,h3⟩:=h;show Reps K H (d::l.take n) (v::us.take n);unfold Reps;exact⟨v,_,rfl,h2,Reps.take n h3⟩
def Reps.drop:∀{l:List Dt}{vs:List V}(n:Nat),Reps K H l vs->Reps K H (l.drop n) (vs.drop n)
 |_,_,0,h=>h
 |[],vs,n+1,h=>by unfold Reps at h;rw[h];simp[Reps]
 |d::l,vs,n+1,h=>by unfold Reps at h;obtain⟨v,us,rfl,h2,h3⟩:=h;exact Reps.drop n h3
variable{u:List (Key×V)}
section
variable{X:Cx}{J1:List (J9×Obj)}{σ:St}{H:Hp}{s:qa4}{K:xA9}
theorem Inv.notBoth{ys:List V}(I:Inv X J1 σ H s)(h:SqL X.K H a xs)(h':SqT X.K H a ys):False:=by obtain⟨J8,r,O,_⟩:=I.list h;obtain⟨its',Y,pt,_⟩:=I.tuple h';obtain⟨o,n,e,W,_⟩:=O;obtain⟨o',L,q,_⟩:=pt;rw[e]at L;cases L;rw[W]at q;injection q with z;exact absurd z (by decide)
theorem DK{w:List (Key×V)}(h:Rd H a (.dK u))(h':Rd H a (.dK w)):u=w:=by rcases h with h|⟨o,h⟩<;>rcases h' with h'|⟨o',h'⟩<;>rw[h]at h'<;>cases h'<;>rfl
theorem DM{u w:List (List Key×V)}(h:Rd H a (.dT u))(h':Rd H a (.dT w)):u=w:=by rcases h with h|⟨o,h⟩<;>rcases h' with h'|⟨o',h'⟩<;>rw[h]at h'<;>cases h'<;>rfl
def kw{u:HO}(h:Rd H a u):∃o,H a=some o:=by
 rcases h with h|⟨o,h⟩
 .exact⟨_,h⟩
 .exact⟨_,h⟩
theorem Inv.kNone(I:Inv X J1 σ H s){o:Obj}(h:X.K.lookup a=some o):H a=none:=(I.bs a o (I.ok.mod.kin a o h)).2
def Inv.sqT_dK(I:Inv X J1 σ H s)(h:SqT X.K H a xs)(h':Rd H a (.dK u)):False:=by
 rcases h with h|⟨o,_,_,h,_⟩
 .rcases h' with h'|⟨o',h'⟩<;>rw[h]at h'<;>cases h'
 .obtain⟨o',e⟩:=kw h';rw[I.kNone h]at e;cases e
theorem Inv.sqT_dT(I:Inv X J1 σ H s){u:List (List Key×V)}(h:SqT X.K H a xs)(h':Rd H a (.dT u)):False:=by
 rcases h with h|⟨o,_,_,h,_⟩
 .rcases h' with h'|⟨o',h'⟩<;>rw[h]at h'<;>cases h'
 .obtain⟨o',e⟩:=kw h';rw[I.kNone h]at e;cases e
def Inv.sqL_dK(I:Inv X J1 σ H s)(h:SqL X.K H a xs)(h':Rd H a (.dK u)):False:=by
 rcases h with h|⟨o,_,_,h,_⟩
 .rcases h with h|⟨o,h⟩<;>rcases h' with h'|⟨o',h'⟩<;>rw[h]at h'<;>cases h'
 .obtain⟨o',e⟩:=kw h';rw[I.kNone h]at e;cases e
theorem Inv.sqL_dT(I:Inv X J1 σ H s){u:List (List Key×V)}(h:SqL X.K H a xs)(h':Rd H a (.dT u)):False:=by
 rcases h with h|⟨o,_,_,h,_⟩
 .rcases h with h|⟨o,h⟩<;>rcases h' with h'|⟨o',h'⟩<;>rw[h]at h'<;>cases h'
 .obtain⟨o',e⟩:=kw h';rw[I.kNone h]at e;cases e
theorem vE{w:List (List Key×V)}(h:Rd H a (.dK u))(h':Rd H a (.dT w)):False:=by rcases h with h|⟨o,h⟩<;>rcases h' with h'|⟨o',h'⟩<;>rw[h]at h'<;>cases h'
def du:Dt->Nat
 |.non=>0
 |.bl _=>1
 |.int _=>2
 |.str _=>3
 |.tup _=>4
 |.lst _=>5
 |.dct _ _=>6
 |.dcT _ _=>7
def eQ(I:Inv X J1 σ H s){d e:Dt}(h:Rep X.K H d v)(h':Rep X.K H e v):du d=du e:=by
 cases d<;>cases e<;>first
  |rfl
  |(simp only[Rep]at h h';subst h;cases h';done)
  |(simp only[Rep]at h h';obtain⟨_,_,e,_⟩:=h';rw[h]at e;cases e;done)
  |(simp only[Rep]at h h';obtain⟨_,_,e,_⟩:=h;rw[h']at e;cases e;done)
  | (simp only[Rep]at h h';obtain⟨_,_,rfl,h2,_⟩:=h;obtain⟨_,_,e,q,_⟩:=h';cases e
     first
      |exact(I.sqT_dK h2 q).elim
      |exact(I.sqT_dK q h2).elim
      |exact(I.sqT_dT h2 q).elim
      |exact(I.sqT_dT q h2).elim
      |exact(I.notBoth h2 q).elim
      |exact(I.notBoth q h2).elim
      |exact(I.sqL_dK h2 q).elim
      |exact(I.sqL_dK q h2).elim
      |exact(I.sqL_dT h2 q).elim
      |exact(I.sqL_dT q h2).elim
      |exact(vE h2 q).elim
      |exact(vE q h2).elim)
mutual
theorem nG(I:Inv X J1 σ H s):∀(d e:Dt)(v:V),Rep X.K H d v->Rep X.K H e v->peq d e=true:=fun d=>by
 match d with
 |.tup l=>
  intro e v h h';have hk:=eQ I h h';cases e<;>first|(simp[du]at hk;done)|skip
  simp only[Rep]at h h';obtain⟨a,vs,rfl,h2,h3⟩:=h;obtain⟨b,ws,e,h2',h3'⟩:=h';cases e;have:=I.tuple_inj h2 h2';subst this;simp only[peq];exact reps_inj I l _ _ h3 h3'
 |.lst l=>
  intro e v h h';have hk:=eQ I h h';cases e<;>first|(simp[du]at hk;done)|skip
  simp only[Rep]at h h';obtain⟨a,vs,rfl,h2,h3⟩:=h;obtain⟨b,ws,e,h2',h3'⟩:=h';cases e;have:=I.list_inj h2 h2';subst this;simp only[peq];exact reps_inj I l _ _ h3 h3'
 |.dct ks l=>
  intro e v h h';have hk:=eQ I h h';cases e<;>first|(simp[du]at hk;done)|skip
  simp only[Rep]at h h';obtain⟨a,vs,rfl,h2,h3,h4⟩:=h;obtain⟨b,ws,e,h2',h3',h4'⟩:=h';cases e;have:=DK h2 h2';subst this;subst h3 h3';simp only[peq,decide_true,qj3];exact reps_inj I l _ _ h4 h4'
 |.dcT ks l=>
  intro e v h h';have hk:=eQ I h h';cases e<;>first|(simp[du]at hk;done)|skip
  simp only[Rep]at h h';obtain⟨a,vs,rfl,h2,h3,h4⟩:=h;obtain⟨b,ws,e,h2',h3',h4'⟩:=h';cases e;have:=DM h2 h2';subst this;subst h3 h3';simp only[peq,decide_true,qj3];exact reps_inj I l _ _ h4 h4'
 |.non=>intro e v h h';have hk:=eQ I h h';cases e<;>first|(simp[du]at hk;done)|simp only[peq]
 |.bl b=>intro e v h h';have hk:=eQ I h h';cases e<;>first|(simp[du]at hk;done)|(simp only[Rep]at h h';rw[h]at h';cases h';exact ja _)
 |.int b=>intro e v h h';have hk:=eQ I h h';cases e<;>first|(simp[du]at hk;done)|(simp only[Rep]at h h';rw[h]at h';cases h';exact ja _)
 |.str b=>intro e v h h';have hk:=eQ I h h';cases e<;>first|(simp[du]at hk;done)|(simp only[Rep]at h h';rw[h]at h';cases h';exact ja _)
theorem reps_inj(I:Inv X J1 σ H s):∀(l m:List Dt)(vs:List V),Reps X.K H l vs->Reps X.K H m vs->peqs l m=true:=fun l=>by
 match l with
 |[]=>
  intro m vs h h';cases m with
  |nil=>simp only[peqs]
  |cons e m=>unfold Reps at h h';obtain⟨v,ws,e,_⟩:=h';rw[h]at e;cases e
 |d::l=>
  intro m vs h h';cases m with
  |nil=>unfold Reps at h h';obtain⟨v,ws,e,_⟩:=h;rw[h']at e;cases e
  |cons e m=>unfold Reps at h h';obtain⟨v,ws,rfl,h2,h3⟩:=h;obtain⟨v',ws',e',h2',h3'⟩:=h';cases e';simp only[peqs,nG I d _ _ h2 h2',reps_inj I l _ _ h3 h3',za3]
end
end
end L2
namespace L2
open PySem PySem.Spec PyProof.Rows
mutual
noncomputable def eR:Dt->Dt->Bool
 |.tup l,.tup m=>cmpbs l m
 |.lst l,.lst m=>cmpbs l m
 |d,e=>decide (du d<4)&&decide (du e<4)
noncomputable def cmpbs:List Dt->List Dt->Bool
 |d::l,e::m=>eR d e&&cmpbs l m
 |_,_=>true
end
def fX:∀{l m:List Dt}{j:Nat}{d e:Dt},cmpbs l m=true->l[j]?=some d->m[j]?=some e->eR d e=true
 |[],_,j,d,e,_,h,_=>by simp at h
 |_::_,[],j,d,e,_,_,h=>by simp at h
 |d0::l,e0::m,0,d,e,h,h1,h2=>by simp only[cmpbs,qb2]at h;simp at h1 h2;subst h1 h2;exact h.1
 |d0::l,e0::m,j+1,d,e,h,h1,h2=>by simp only[cmpbs,qb2]at h;exact fX (j:=j) h.2 (by simpa using h1) (by simpa using h2)
def g6:∀{l:List Dt}{j:Nat}{d:Dt},l[j]?=some d->gn d<=deeps l
 |[],j,d,h=>by simp at h
 |d0::l,0,d,h=>by simp at h;subst h;simp only[deeps];exact Nat.le_max_left ..
 |d0::l,j+1,d,h=>by simp only[deeps];exact qb5 (g6 (j:=j) (by simpa using h)) (Nat.le_max_right ..)
def dv(l m:List Dt)(j:Nat):Bool:=peq (l.getD j .non) (m.getD j .non)
theorem fF:∀(l m:List Dt),peqs l m=((qc7 (min l.length m.length)).all (dv l m)&&l.length==m.length)
 |[],[]=>by simp[peqs]
 |[],_::_=>by simp[peqs]
 |_::_,[]=>by simp[peqs]
 |d::l,e::m=>by
  have q:=fF l m;simp only[peqs,q,qc2];rw[show min (l.length+1) (m.length+1)=min l.length m.length+1 by lia,List.range_succ_eq_map,qk1,List.all_map];have L:dv (d::l) (e::m) 0=peq d e:=rfl
  have O:(dv (d::l) (e::m) ∘ Nat.succ)=dv l m:=by funext j;rfl
  have W:(l.length+1==m.length+1)=(l.length==m.length):=by rw[qi4];simp
  rw[L,O,W,Bool.and_assoc]
variable{K:xA9}
section
variable{X:Cx}{J1:List (J9×Obj)}{σ:St}{H:Hp}{s:qa4}
theorem dH{l:List Dt}{vs:List V}{J8:List Value}(h:Reps X.K H l vs)(r:Vals vs J8){j:Nat}(L:j<J8.length):∃d v,l[j]?=some d/\Rep X.K H d v/\RelV v J8[j]:=by
 have q:j<l.length:=by rw[<- h.length,r.length];exact L
 obtain⟨v,W,Y⟩:=h.get (i:=j) (d:=l[j]) (by simp[q]);obtain⟨u,O,Z⟩:=r.get W
 have:J8[j]=u:=by have:=gQ L;rw[this]at O;exact qd4 O
 exact⟨l[j],v,by simp[q],Y,by rw[this];exact Z⟩
theorem Aj(I:Inv X J1 σ H s):∀(n:Nat){A:qd5}{d e:Dt}{v w:V}{u u':Value},gn d<=n->A.units+n<cLine->eR d e=true->Rep X.K H d v->Rep X.K H e w->RelV v u->RelV w u'->qg4 A s u u' (peq d e):=by
 intro n;induction n with
 |zero=>
  intro A d e v w u u' hd hu L h h' r r'
  cases d<;>cases e<;>first
   |(simp only[Rep]at h h';subst h h';exact jE r r' rfl rfl)
   |(simp only[gn]at hd;lia)
   |(simp[eR,du]at L)
 |succ n ih=>
  intro A d e v w u u' hd hu L h h' r r';cases d with
  |tup l=>
   cases e with
   |tup m=>
    have h0:=h;have h0':=h';simp only[Rep]at h h';obtain⟨a,vs,rfl,h2,h3⟩:=h;obtain⟨b,ws,rfl,q,Z⟩:=h';cases r;cases r';by_cases W:a=b
    .subst W;have:=nG I _ _ _ h0 h0';rw[this];exact zd8 _
    obtain⟨J8,rv,pt,_⟩:=I.tuple h2;obtain⟨its',Y,pt',_⟩:=I.tuple q;have n1:J8.length=l.length:=by rw[<- h3.length,rv.length]
    have n2:its'.length=m.length:=by rw[<- Z.length,Y.length]
    simp only[peq];rw[fF,<- n1,<- n2];simp only[gn]at hd;simp only[eR]at L
    have key:=qy8.tuples (A:=A) (e:=dv l m) pt pt' (by lia) (fun j h1 h2=>by
     have h1':j<J8.length:=by simpa using h1
     have q:j<its'.length:=by simpa using h2
     obtain⟨d,v,g1,g2,g3⟩:=dH h3 rv h1';obtain⟨e,w,g1',g2',g3'⟩:=dH Z Y q;have:dv l m j=peq d e:=by unfold dv;rw[qc5,qc5,g1,g1'];rfl
     rw[this];have:=ih (A:=A.in1) (qb5 (g6 g1) (by lia)) (show A.units+1+n<cLine by lia) (fX L g1 g1') g2 g2' g3 g3';simpa using this)
    have key':qy8 A s (.ref a) (.ref b) ((qc7 (min J8.length its'.length)).all (dv l m)&&J8.length==its'.length):=by simpa using key
    exact qx5 W key'
   |_=>exact absurd L (by simp[eR,du])
  |lst l=>
   cases e with
   |lst m=>
    have h0:=h;have h0':=h';simp only[Rep]at h h';obtain⟨a,vs,rfl,h2,h3⟩:=h;obtain⟨b,ws,rfl,q,Z⟩:=h';cases r;cases r';by_cases W:a=b
    .subst W;have:=nG I _ _ _ h0 h0';rw[this];exact zd8 _
    obtain⟨J8,rv,pt,_⟩:=I.list h2;obtain⟨its',Y,pt',_⟩:=I.list q;have n1:J8.length=l.length:=by rw[<- h3.length,rv.length]
    have n2:its'.length=m.length:=by rw[<- Z.length,Y.length]
    simp only[peq];rw[fF,<- n1,<- n2];simp only[gn]at hd;simp only[eR]at L;by_cases O:J8.length=its'.length
    .have key:=qy8.lists (A:=A) (e:=dv l m) pt.isList pt'.isList (by simpa using O) (by lia) (fun j h1 h2=>by
      have h1':j<J8.length:=by simpa using h1
      have q:j<its'.length:=by simpa using h2
      obtain⟨d,v,g1,g2,g3⟩:=dH h3 rv h1';obtain⟨e,w,g1',g2',g3'⟩:=dH Z Y q;have:dv l m j=peq d e:=by unfold dv;rw[qc5,qc5,g1,g1'];rfl
      rw[this];have:=ih (A:=A.in1) (qb5 (g6 g1) (by lia)) (show A.units+1+n<cLine by lia) (fX L g1 g1') g2 g2' g3 g3';simpa using this)
     have e1:(J8.length==its'.length)=true:=by simpa using O
     rw[e1,qn5,show min J8.length its'.length=J8.length by lia];exact qx5 W (by simpa using key)
    .have e1:(J8.length==its'.length)=false:=by simpa using O
     rw[e1,qt4];exact qx5 W (qy9 pt.isList pt'.isList (by simpa using O) (by lia))
   |_=>exact absurd L (by simp[eR,du])
  |non=>cases e<;>first|(simp only[Rep]at h h';subst h h';exact jE r r' rfl rfl)|(simp[eR,du]at L)
  |bl b=>cases e<;>first|(simp only[Rep]at h h';subst h h';exact jE r r' rfl rfl)|(simp[eR,du]at L)
  |int b=>cases e<;>first|(simp only[Rep]at h h';subst h h';exact jE r r' rfl rfl)|(simp[eR,du]at L)
  |str b=>cases e<;>first|(simp only[Rep]at h h';subst h h';exact jE r r' rfl rfl)|(simp[eR,du]at L)
  |dct ks l=>cases e<;>(simp[eR,du]at L)
  |dcT ks l=>cases e<;>(simp[eR,du]at L)
theorem Ak (I:Inv X J1 σ H s) {A:qd5} {d e:Dt} {v w:V} {u u':Value} (hq:(∃ l m,d=.tup l/\e=.tup m)∨∃ l m,d=.lst l/\e=.lst m) (hu:A.units+gn d<cLine) (hc:eR d e=true) (h:Rep X.K H d v) (h':Rep X.K H e w) (r:RelV v u) (r':RelV w u') :
  qy8 A s u u' (peq d e)/\zd9 A s u u' (!peq d e):=by
 rcases hq with ⟨l,m,rfl,rfl⟩|⟨l,m,rfl,rfl⟩
 .simp only[Rep]at h h';obtain⟨a,vs,rfl,h2,h3⟩:=h;obtain⟨b,ws,rfl,L,Y⟩:=h';cases r;cases r';obtain⟨J8,rv,pt,_⟩:=I.tuple h2;obtain⟨its',W,O,_⟩:=I.tuple L;have n1:J8.length=l.length:=by rw[<- h3.length,rv.length]
  have n2:its'.length=m.length:=by rw[<- Y.length,W.length]
  simp only[peq];rw[fF,<- n1,<- n2];simp only[gn]at hu;simp only[eR]at hc
  have he:∀j (h1:j<J8.toArray.size)(h2:j<its'.toArray.size),qg4 A.in1 s J8.toArray[j] its'.toArray[j] (dv l m j):=fun j h1 h2=>by
   have h1':j<J8.length:=by simpa using h1
   have L:j<its'.length:=by simpa using h2
   obtain⟨d,v,g1,g2,g3⟩:=dH h3 rv h1';obtain⟨e,w,Z,g2',g3'⟩:=dH Y W L;have:dv l m j=peq d e:=by unfold dv;rw[qc5,qc5,g1,Z];rfl
   rw[this];have:=Aj I (deeps l) (A:=A.in1) (g6 g1) (show A.units+1+deeps l<cLine by lia) (fX hc g1 Z) g2 g2' g3 g3';simpa using this
  exact⟨by simpa using qy8.tuples (A:=A) (e:=dv l m) pt O (by lia) he,by simpa using zd9.tuples (A:=A) (e:=dv l m) pt O (by lia) he⟩
 .simp only[Rep]at h h';obtain⟨a,vs,rfl,h2,h3⟩:=h;obtain⟨b,ws,rfl,L,Y⟩:=h';cases r;cases r';obtain⟨J8,rv,pt,_⟩:=I.list h2;obtain⟨its',W,O,_⟩:=I.list L;have n1:J8.length=l.length:=by rw[<- h3.length,rv.length]
  have n2:its'.length=m.length:=by rw[<- Y.length,W.length]
  simp only[peq];rw[fF,<- n1,<- n2];simp only[gn]at hu;simp only[eR]at hc;by_cases q:J8.length=its'.length
  .have he:∀j (h1:j<J8.toArray.size)(h2:j<its'.toArray.size),qg4 A.in1 s J8.toArray[j] its'.toArray[j] (dv l m j):=fun j h1 h2=>by
    have h1':j<J8.length:=by simpa using h1
    have L:j<its'.length:=by simpa using h2
    obtain⟨d,v,g1,g2,g3⟩:=dH h3 rv h1';obtain⟨e,w,Z,g2',g3'⟩:=dH Y W L;have:dv l m j=peq d e:=by unfold dv;rw[qc5,qc5,g1,Z];rfl
    rw[this];have:=Aj I (deeps l) (A:=A.in1) (g6 g1) (show A.units+1+deeps l<cLine by lia) (fX hc g1 Z) g2 g2' g3 g3';simpa using this
   have e1:(J8.length==its'.length)=true:=by simpa using q
   rw[e1,qn5,show min J8.length its'.length=J8.length by lia];exact⟨by simpa using qy8.lists (A:=A) (e:=dv l m) pt.isList O.isList (by simpa using q) (by lia) he,by simpa using zd9.lists (A:=A) (e:=dv l m) pt.isList O.isList (by simpa using q) (by lia) he⟩
  .have e1:(J8.length==its'.length)=false:=by simpa using q
   rw[e1,qt4];exact⟨qy9 pt.isList O.isList (by simpa using q) (by lia),zd9.lists_lengths pt.isList O.isList (by simpa using q) (by lia)⟩
noncomputable def yF(K:xA9)(neg:Bool):R2:=fun x y H Q=>∃d e,((∃l m,d=.tup l/\e=.tup m)∨∃l m,d=.lst l/\e=.lst m)/\Rep K H d x/\Rep K H e y/\eR d e=true/\gn d<=60/\Q (.bl (if neg then !peq d e else peq d e)) H
theorem BN{k:Nat}(L:Room k X.A)(O:X.K=K):OpR X (qh0 .Eq) (yF K false):=by subst O;intro J1 s σ H x y v u Q I Z ry h;obtain⟨d,e,hq,Y,W,hc,hdp,q⟩:=h;have hu:=L.units;exact(Ak I hq (by lia) hc Y W Z ry).1 _ _ _ _ ⟨.bl (peq d e),H,I,rfl,q⟩
theorem BO{k:Nat}(L:Room k X.A)(O:X.K=K):OpR X (qh0 .NotEq) (yF K true):=by subst O;intro J1 s σ H x y v u Q I Z ry h;obtain⟨d,e,hq,Y,W,hc,hdp,q⟩:=h;have hu:=L.units;exact(Ak I hq (by lia) hc Y W Z ry).2 _ _ _ _ ⟨.bl (!peq d e),H,I,rfl,q⟩
end
end L2
namespace L2
open PySem PySem.Spec PyProof.Rows
abbrev NT(o:HO):Prop:=∀vs,o≠.tup vs
structure Step(F H F' H':Hp):Prop where
 hh:Same H H'
 ff:Same F F'
 fh:Same F' H'
 nw:∀b o,F' b=some o->F b=some o∨H b=none∨∃vs,H b=some (.tup vs)
variable{b:J9}{u:HO}
section
variable{F H F' H' F1 H1:Hp}{p:J9}{o:HO}
def Step.refl(h:Same F H):Step F H F H:=⟨Same.refl _,Same.refl _,h,fun _ _ e=>.inl e⟩
def Step.trans(a:Step F H F1 H1)(b:Step F1 H1 F' H'):Step F H F' H':=
 ⟨a.hh.trans b.hh,a.ff.trans b.ff,b.fh,fun c o e=>by
  rcases b.nw c o e with z|z|⟨vs,z⟩
  .exact a.nw c o z
  .exact .inr (.inl (a.hh.free z))
  .cases q:H c with
   |none=>exact .inr (.inl rfl)
   |some u=>have:=a.hh c u q;rw[z]at this;cases this;exact .inr (.inr ⟨vs,rfl⟩)⟩
def Same.upd(hp:H p=none):Same H (upd H p o):=fun b u e=>by rw[aQ (cC e hp)];exact e
def Step.new(h:Same F H)(hp:H p=none):Step F H (upd F p o) (upd H p o) where
 hh:=Same.upd hp
 ff:=Same.upd (h.free hp)
 fh:=fun b u e=>by
  by_cases q:b=p
  .subst q;rw[bq]at e ⊢;exact e
  .rw[aQ q]at e ⊢;exact h _ _ e
 nw:=fun b u e=>by
  by_cases q:b=p
  .subst q;exact .inr (.inl hp)
  .rw[aQ q]at e;exact .inl e
theorem Step.keepN(st:Step F H F' H')(W:F b=none)(L:H b=some u)(O:NT u:=by intro _ z;cases z):F' b=none:=by
 cases q:F' b with
 |none=>rfl
 |some o'=>
  rcases st.nw b o' q with z|z|⟨vs,z⟩
  .rw[W]at z;cases z
  .rw[L]at z;cases z
  .rw[L]at z;cases z;exact absurd rfl (O vs)
def Step.made(h:Same F H)(hp:H p=none):Step F H F (upd H p o) where
 hh:=Same.upd hp
 ff:=Same.refl _
 fh:=h.trans (Same.upd hp)
 nw:=fun b u e=>.inl e
end
inductive T where
 |leaf (d:Dt)|lst (l:List Dt)|dct (l:List (Key×Dt))|dcT (l:List (List Key×Dt))|fn (a:J9) (F0:Hp)
def T.d:T->Option Dt
 |.leaf d=>some d
 |.lst l=>some (.lst l)
 |.dct l=>some (.dct (l.map (·.1)) (l.map (·.2)))
 |.dcT l=>some (.dcT (l.map (·.1)) (l.map (·.2)))
 |.fn _ _=>none
def T.own:T->Bool
 |.leaf _|.fn _ _=>false
 |_=>true
noncomputable def Own(K:xA9)(F H:Hp):T->V->(J9->Prop)->Prop
 |.leaf d,v,_=>Rep K F d v
 |.lst l,v,S=>∃a vs,v=.ref a/\S a/\H a=some (.lst vs)/\Reps K F l vs
 |.dct l,v,S=>∃a J6,v=.ref a/\S a/\H a=some (.dK J6)/\J6.map (·.1)=l.map (·.1)/\Reps K F (l.map (·.2)) (J6.map (·.2))
 |.dcT l,v,S=>∃a J6,v=.ref a/\S a/\H a=some (.dT J6)/\J6.map (·.1)=l.map (·.1)/\Reps K F (l.map (·.2)) (J6.map (·.2))
 |.fn a F0,v,_=>v=.ref a/\Same F0 F
noncomputable def RepB(K:xA9)(F H:Hp):Dt->V->Prop
 |.lst l,v=>∃a vs,v=.ref a/\SqL K H a vs/\Reps K F l vs
 |.dct ks l,v=>∃a J6,v=.ref a/\Rd H a (.dK J6)/\J6.map (·.1)=ks/\Reps K F l (J6.map (·.2))
 |.dcT ks l,v=>∃a J6,v=.ref a/\Rd H a (.dT J6)/\J6.map (·.1)=ks/\Reps K F l (J6.map (·.2))
 |.non,v=>v=.non
 |.bl b,v=>v=.bl b
 |.int i,v=>v=.int i
 |.str x,v=>v=.str x
 |.tup l,v=>∃a vs,v=.ref a/\SqT K F a vs/\Reps K F l vs
variable{S':J9->Prop}
section
variable{K:xA9}{F H F' H':Hp}{t:T}{v:V}{d:Dt}{S:J9->Prop}
theorem Own.step(L:Same F F')(O:∀b o,S b->H b=some o->H' b=some o)(h:Own K F H t v S):Own K F' H' t v S:=by
 induction t with
 |leaf d=>exact Rep.same L h
 |lst l=>obtain⟨a,vs,e,q,h1,h2⟩:=h;exact⟨a,vs,e,q,O _ _ q h1,h2.same L⟩
 |dct l=>obtain⟨a,vs,e,q,h1,h2,h3⟩:=h;exact⟨a,vs,e,q,O _ _ q h1,h2,h3.same L⟩
 |dcT l=>obtain⟨a,vs,e,q,h1,h2,h3⟩:=h;exact⟨a,vs,e,q,O _ _ q h1,h2,h3.same L⟩
 |fn a F0=>exact⟨h.1,h.2.trans L⟩
def Own.grow(L:∀b,S b->S' b)(h:Own K F H t v S):Own K F H t v S':=by
 induction t with
 |leaf d=>exact h
 |lst l=>obtain⟨a,vs,e,q,h1⟩:=h;exact⟨a,vs,e,L _ q,h1⟩
 |dct l=>obtain⟨a,vs,e,q,h1⟩:=h;exact⟨a,vs,e,L _ q,h1⟩
 |dcT l=>obtain⟨a,vs,e,q,h1⟩:=h;exact⟨a,vs,e,L _ q,h1⟩
 |fn a F0=>exact h
def RepB.of(q:Same F H)(h:Rep K F d v):RepB K F H d v:=by
 cases d with
 |lst l=>simp only[Rep]at h;obtain⟨a,vs,e,h1,h2⟩:=h;exact⟨a,vs,e,q.seq h1,h2⟩
 |dct ks l=>simp only[Rep]at h;obtain⟨a,vs,e,h1,h2⟩:=h;exact⟨a,vs,e,q.rd h1,h2⟩
 |dcT ks l=>simp only[Rep]at h;obtain⟨a,vs,e,h1,h2⟩:=h;exact⟨a,vs,e,q.rd h1,h2⟩
 |tup l=>simp only[Rep]at h;exact h
 |_=>simp only[Rep]at h;exact h
def RepB.rep(q:Same F H)(h:RepB K F H d v):Rep K H d v:=by
 cases d with
 |lst l=>obtain⟨a,vs,e,h1,h2⟩:=h;simp only[Rep];exact⟨a,vs,e,h1,h2.same q⟩
 |dct ks l=>obtain⟨a,vs,e,h1,h2,h3⟩:=h;simp only[Rep];exact⟨a,vs,e,h1,h2,h3.same q⟩
 |dcT ks l=>obtain⟨a,vs,e,h1,h2,h3⟩:=h;simp only[Rep];exact⟨a,vs,e,h1,h2,h3.same q⟩
 |tup l=>obtain⟨a,vs,e,h1,h2⟩:=h;simp only[Rep];exact⟨a,vs,e,q.tup h1,h2.same q⟩
 |_=>simp only[Rep];exact h
def RepB.step(q:Same F F')(L:Same H H')(h:RepB K F H d v):RepB K F' H' d v:=by
 cases d with
 |lst l=>obtain⟨a,vs,e,h1,h2⟩:=h;exact⟨a,vs,e,L.seq h1,h2.same q⟩
 |dct ks l=>obtain⟨a,vs,e,h1,h2,h3⟩:=h;exact⟨a,vs,e,L.rd h1,h2,h3.same q⟩
 |dcT ks l=>obtain⟨a,vs,e,h1,h2,h3⟩:=h;exact⟨a,vs,e,L.rd h1,h2,h3.same q⟩
 |tup l=>obtain⟨a,vs,e,h1,h2⟩:=h;exact⟨a,vs,e,q.tup h1,h2.same q⟩
 |_=>exact h
def Own.repB(L:Same F H)(h:Own K F H t v S)(q:t.d=some d):RepB K F H d v:=by
 cases t with
 |leaf d=>cases q;exact RepB.of L h
 |lst l=>cases q;obtain⟨a,vs,e,_,h1,h2⟩:=h;exact⟨a,vs,e,SqL.of h1,h2⟩
 |dct l=>cases q;obtain⟨a,vs,e,_,h1,h2⟩:=h;exact⟨a,vs,e,.inl h1,h2⟩
 |dcT l=>cases q;obtain⟨a,vs,e,_,h1,h2⟩:=h;exact⟨a,vs,e,.inl h1,h2⟩
 |fn a F0=>cases q
open Classical in
def qh(F H:Hp)(S:J9->Prop):Hp:=fun b=>if S b then H b else F b
def kx(h:S b):qh F H S b=H b:=if_pos h
def g7(h:¬ S b):qh F H S b=F b:=if_neg h
def nH(q:∀b,S b->F b=none):Same F (qh F H S):=fun b o e=>by
 have:¬ S b:=fun z=>by rw[q b z]at e;cases e
 rw[g7 this];exact e
def rJ(q:Same F H):Same (qh F H S) H:=fun b o e=>by
 by_cases h:S b
 .rw[kx h]at e;exact e
 .rw[g7 h]at e;exact q _ _ e
def Own.freeze(W:∀b,S b->F b=none)(h:Own K F H t v S)(L:t.d=some d):Rep K (qh F H S) d v:=by
 have O:=nH (H:=H) W;cases t with
 |leaf d=>cases L;exact Rep.same O h
 |lst l=>cases L;obtain⟨a,vs,e,q,h1,h2⟩:=h;simp only[Rep];exact⟨a,vs,e,SqL.of (by rw[kx q];exact h1),h2.same O⟩
 |dct l=>cases L;obtain⟨a,vs,e,q,h1,h2,h3⟩:=h;simp only[Rep];exact⟨a,vs,e,.inl (by rw[kx q];exact h1),h2,h3.same O⟩
 |dcT l=>cases L;obtain⟨a,vs,e,q,h1,h2,h3⟩:=h;simp only[Rep];exact⟨a,vs,e,.inl (by rw[kx q];exact h1),h2,h3.same O⟩
 |fn a F0=>cases L
end
abbrev Ix:=Nat
abbrev De:=List (Option T)
structure Sep(K:xA9)(F H:Hp)(B:J9->Prop)(L:Ix->Option (T×V))(S:Ix->J9->Prop):Prop where
 own:∀i t v,L i=some (t,v)->Own K F H t v (S i)
 out:∀i b,S i b->F b=none/\(∃o,H b=some o/\NT o)/\B b
 dis:∀i j b,S i b->S j b->i=j
def oS(δ:De)(σ:St)(i:Nat):Option (T×V):=match δ[i]?,σ[i]? with
 |some (some t),some (some v)=>some (t,v)
 |_,_=>none
structure Fm where
 K:xA9
 F0:Hp
 H0:Hp
 S0:J9->Prop
def Fm.B(Φ:Fm)(b:J9):Prop:=Φ.H0 b=none∨Φ.S0 b
structure En(Φ:Fm)(δ:De)(σ:St)(F H:Hp):Prop where
 fh:Same F H
 prot:∀b o,Φ.H0 b=some o->¬ Φ.S0 b->H b=some o
 old:Same Φ.F0 F
 nw:∀b o,F b=some o->Φ.F0 b=some o∨Φ.B b∨∃vs,Φ.H0 b=some (.tup vs)
 len:δ.length=σ.length
 has:∀(i:Nat)(t:T),δ[i]?=some (some t)->∃v,σ[i]?=some (some v)
 sep:∃S,Sep Φ.K F H Φ.B (oS δ σ) S
variable{i j:Nat}{v:V}{p a:J9}{K:xA9}
section
variable{Φ:Fm}{δ:De}{σ:St}{F H F' H':Hp}
theorem cL{t:T}(h1:δ[i]?=some (some t))(h2:σ[i]?=some (some v)):oS δ σ i=some (t,v):=by unfold oS;rw[h1,h2]
def eS{t:T}(h:oS δ σ i=some (t,v)):δ[i]?=some (some t)/\σ[i]?=some (some v):=by
 unfold oS at h;split at h
 .rename_i L q;cases h;exact⟨L,q⟩
 .cases h
def En.fresh(e:En Φ δ σ F H)(hp:H p=none):Φ.B p:=by
 by_cases h:Φ.S0 p
 .exact .inr h
 .left;cases q:Φ.H0 p with
  |none=>rfl
  |some o=>rw[e.prot p o q h]at hp;cases hp
theorem Sep.step{B:J9->Prop}{L:Ix->Option (T×V)}{S:Ix->J9->Prop}(s:Sep K F H B L S)(st:Step F H F' H'):Sep K F' H' B L S where
 own:=fun i t v h=>(s.own i t v h).step st.ff fun b o _ e=>st.hh b o e
 out:=fun i b h=>by obtain⟨h1,⟨o,h2,q⟩,h3⟩:=s.out i b h;exact⟨st.keepN h1 h2 q,⟨o,st.hh _ _ h2,q⟩,h3⟩
 dis:=s.dis
def En.step(e:En Φ δ σ F H)(st:Step F H F' H'):En Φ δ σ F' H' where
 fh:=st.fh
 prot:=fun b o h1 h2=>st.hh _ _ (e.prot b o h1 h2)
 old:=e.old.trans st.ff
 nw:=fun b o h=>by
  rcases st.nw b o h with z|z|⟨vs,z⟩
  .exact e.nw b o z
  .exact .inr (.inl (e.fresh z))
  .cases q:Φ.H0 b with
   |none=>exact .inr (.inl (.inl q))
   |some u=>
    by_cases L:Φ.S0 b
    .exact .inr (.inl (.inr L))
    .rw[e.prot b u q L]at z;cases z;exact .inr (.inr ⟨vs,rfl⟩)
 len:=e.len
 has:=e.has
 sep:=let ⟨S,s⟩:=e.sep;⟨S,s.step st⟩
theorem En.slot(e:En Φ δ σ F H){t:T}{d:Dt}(h:δ[i]?=some (some t))(L:t.d=some d):∃v,σ[i]?=some (some v)/\RepB Φ.K F H d v:=by obtain⟨v,q⟩:=e.has i t h;obtain⟨S,s⟩:=e.sep;exact⟨v,q,(s.own i t v (cL h q)).repB e.fh L⟩
theorem En.leaf(e:En Φ δ σ F H){d:Dt}(h:δ[i]?=some (some (.leaf d))):∃v,σ[i]?=some (some v)/\Rep Φ.K F d v:=by obtain⟨v,q⟩:=e.has i _ h;obtain⟨S,s⟩:=e.sep;exact⟨v,q,s.own i _ v (cL h q)⟩
theorem eM{α:Type}{l:List (Option α)}{x y:Option α}(h:(l.set i x)[j]?=some y):(i=j/\y=x)∨(i≠j/\l[j]?=some y):=by
 by_cases q:i=j
 .subst q;left;rw[List.getElem?_set]at h;simp only[if_true]at h;split at h
  .cases h;exact⟨rfl,rfl⟩
  .cases h
 .right;rw[gN q]at h;exact⟨q,h⟩
theorem En.put(e:En Φ δ σ F H){t:T}(st:Step F H F' H')(ho:Own Φ.K F' H' t v S')(hs:∀b,S' b->F' b=none/\H b=none/\∃o,H' b=some o/\NT o)(i:Nat):En Φ (δ.set i (some t)) (σ.set i (some v)) F' H':=by
 have W:=e.step st;obtain⟨S,s⟩:=e.sep;have s':=s.step st;refine⟨W.fh,W.prot,W.old,W.nw,by simp[e.len],fun j u h=>?_,fun j b=>if j=i then S' b else S j b,?_,?_,?_⟩
 .rcases eM h with ⟨rfl,z⟩|⟨Z,z⟩
  .have hi:i<σ.length:=by rw[<- e.len];have:=(gX h).1;simpa using this
   exact⟨v,by simp[hi]⟩
  .obtain⟨w,hw⟩:=e.has j u z;exact⟨w,by rw[gN Z];exact hw⟩
 .intro j u w h;obtain⟨h1,h2⟩:=eS h;rcases eM h1 with ⟨rfl,z⟩|⟨Z,z⟩
  .rcases eM h2 with ⟨_,L⟩|⟨hn2,_⟩
   .cases z;cases L;show Own _ _ _ _ _ (fun b=>if i=i then S' b else S i b);simp only[if_true];exact ho
   .exact absurd rfl hn2
  .rcases eM h2 with ⟨L,_⟩|⟨_,L⟩
   .exact absurd L Z
   .have:¬ j=i:=fun q=>Z q.symm
    show Own _ _ _ _ _ (fun b=>if j=i then S' b else S j b);simp only[if_neg this];exact s'.own j u w (cL z L)
 .intro j b h;split at h
  .obtain⟨h1,h2,h3⟩:=hs b h;exact⟨h1,h3,e.fresh h2⟩
  .exact s'.out _ b h
 .have O:∀j b,S j b->¬ S' b:=fun j b h z=>by obtain⟨_,⟨o,h2,_⟩,_⟩:=s.out j b h;rw[(hs b z).2.1]at h2;cases h2
  intro j k b Y hk;split at Y<;>split at hk
  .rename_i q1 q2;rw[q1,q2]
  .exact absurd Y (O _ b hk)
  .exact absurd hk (O _ b Y)
  .exact s.dis _ _ b Y hk
def tY{t:T}{S:J9->Prop}(L:t.own=true)(h:Own K F H t (.ref a) S):S a:=by
 cases t with
 |leaf d=>cases L
 |lst l=>obtain⟨b,_,e,q,_⟩:=h;cases e;exact q
 |dct l=>obtain⟨b,_,e,q,_⟩:=h;cases e;exact q
 |dcT l=>obtain⟨b,_,e,q,_⟩:=h;cases e;exact q
 |fn b F0=>cases L
theorem En.poke (e:En Φ δ σ F H) {t t':T} {o:HO} (h:δ[i]?=some (some t)) (W:σ[i]?=some (some (.ref a))) (ht:t.own=true) (ho:∀ S:J9->Prop,S a->Own Φ.K F (upd H a o) t' (.ref a) S) (nt:NT o:=by intro _ z;cases z) :
  En Φ (δ.set i (some t')) σ F (upd H a o):=by
 obtain⟨S,s⟩:=e.sep;have L:S i a:=tY ht (s.own i t _ (cL h W));obtain⟨fa,⟨oa,ha,_⟩,ba⟩:=s.out _ a L;have hi:i<δ.length:=(gX h).1;refine⟨fun b u z=>?_,fun b u h1 h2=>?_,e.old,e.nw,by simp[e.len],fun j u z=>?_,S,fun j u w z=>?_,fun j b z=>?_,s.dis⟩
 .have:b≠a:=fun q=>by rw[q,fa]at z;cases z
  rw[aQ this];exact e.fh _ _ z
 .have:b≠a:=fun q=>by
   subst q;rcases ba with z|z
   .rw[z]at h1;cases h1
   .exact h2 z
  rw[aQ this];exact e.prot b u h1 h2
 .rcases eM z with ⟨rfl,_⟩|⟨Y,z⟩
  .exact⟨_,W⟩
  .exact e.has j u z
 .obtain⟨h1,h2⟩:=eS z;rcases eM h1 with ⟨rfl,O⟩|⟨Y,O⟩
  .cases O;rw[W]at h2;cases h2;exact ho _ L
  .refine(s.own j u w (cL O h2)).step (Same.refl _) fun b q Z hq=>?_
   have:b≠a:=fun y=>by subst y;exact Y (s.dis _ _ _ Z L).symm
   rw[aQ this];exact hq
 .obtain⟨h1,⟨q,h2,n2⟩,h3⟩:=s.out j b z;refine⟨h1,?_,h3⟩;by_cases y:b=a
  .subst y;exact⟨o,bq,nt⟩
  .exact⟨q,by rw[aQ y];exact h2,n2⟩
theorem En.freeze(e:En Φ δ σ F H){t:T}{d:Dt}(h:δ[i]?=some (some t))(hd:t.d=some d):∃F',En Φ (δ.set i (some (.leaf d))) σ F' H:=by
 obtain⟨S,s⟩:=e.sep;obtain⟨v,O⟩:=e.has i t h;have so:=s.own i t v (cL h O);have Y:∀b,S i b->F b=none:=fun b z=>(s.out _ b z).1
 have W:=nH (H:=H) Y;refine⟨qh F H (S i),rJ e.fh,e.prot,e.old.trans W,fun b o z=>?_,by simp[e.len],fun j u z=>?_,fun j b=>S j b/\j≠i,fun j u w z=>?_,fun j b z=>?_,fun j k b h1 h2=>s.dis _ _ b h1.1 h2.1⟩
 .by_cases Z:S i b
  .exact .inr (.inl (s.out _ b Z).2.2)
  .rw[g7 Z]at z;exact e.nw b o z
 .rcases eM z with ⟨rfl,_⟩|⟨hn,z⟩
  .exact⟨_,O⟩
  .exact e.has j u z
 .obtain⟨h1,h2⟩:=eS z;rcases eM h1 with ⟨rfl,L⟩|⟨hn,L⟩
  .cases L;rw[O]at h2;cases h2;exact so.freeze Y hd
  .refine((s.own j u w (cL L h2)).step W fun _ _ _ q=>q).grow fun b q=>⟨q,fun y=>hn y.symm⟩
 .obtain⟨h1,h2,h3⟩:=s.out j b z.1;refine⟨?_,h2,h3⟩;rw[g7 fun y=>z.2 (s.dis _ _ b z.1 y)];exact h1
end
def KO(K:xA9)(F H:Hp)(t:T)(Q:VK):Prop:=∀v H' F' S,Step F H F' H'->Own K F' H' t v S->(∀b,S b->F' b=none/\H b=none/\∃o,H' b=some o/\NT o)->Q v H'
def KL(K:xA9)(F H:Hp)(d:Dt)(Q:VK):Prop:=∀v H' F',Step F H F' H'->Rep K F' d v->Q v H'
def KB(K:xA9)(F H:Hp)(d:Dt)(Q:VK):Prop:=∀v H' F',Step F H F' H'->RepB K F' H' d v->Q v H'
section
variable{K:xA9}{F H F1 H1:Hp}{t:T}{d:Dt}{Q:VK}
theorem KO.step(k:KO K F H t Q)(st:Step F H F1 H1):KO K F1 H1 t Q:=fun v H' F' S s o q=>k v H' F' S (st.trans s) o fun b z=>⟨(q b z).1,st.hh.free (q b z).2.1,(q b z).2.2⟩
theorem KO.leaf(k:KO K F H (.leaf d) Q):KL K F H d Q:=fun v H' F' st r=>k v H' F' (fun _=>False) st r fun _ z=>z.elim
def KL.here(k:KL K F H d Q)(q:Same F H)(r:Rep K F d v):Q v H:=k v H F (Step.refl q) r
def KB.to(k:KB K F H d Q):KL K F H d Q:=fun v H' F' st r=>k v H' F' st (RepB.of st.fh r)
def KL.to(O:t.d=some d)(k:KL K F H d Q):KO K F H t Q:=fun v H' F' S st o q=>by
 refine k v H' (qh F' H' S) ⟨st.hh,st.ff.trans (nH fun b z=>(q b z).1),rJ st.fh,fun b u z=>?_⟩ (o.freeze (fun b z=>(q b z).1) O);by_cases L:S b
 .exact .inr (.inl (q b L).2.1)
 .rw[g7 L]at z;exact st.nw b u z
theorem KB.toO(q:t.d=some d)(k:KB K F H d Q):KO K F H t Q:=fun v H' F' S st o L=>k v H' F' st (o.repB st.fh q)
end
def tO(K:xA9)(f:De->Option T):TE:=fun σ H Q=>∃ Φ δ F t,Fm.K Φ=K/\En Φ δ σ F H/\f δ=some t/\KO K F H t Q
def tL(K:xA9)(f:De->Option Dt):TE:=fun σ H Q=>∃ Φ δ F d,Fm.K Φ=K/\En Φ δ σ F H/\f δ=some d/\KL K F H d Q
def tBd(K:xA9)(f:De->Option Dt):TE:=fun σ H Q=>∃ Φ δ F d,Fm.K Φ=K/\En Φ δ σ F H/\f δ=some d/\KB K F H d Q
def tTr(K:xA9)(f:De->Option Bool):TT:=fun σ H Q=>∃ Φ δ F b,Fm.K Φ=K/\En Φ δ σ F H/\f δ=some b/\∀H' F',Step F H F' H'->Q b H'
def DO(X:Cx)(e:Jc)(f:De->Option T):Prop:=PE X e (tO X.K f)
def DL(X:Cx)(e:Jc)(f:De->Option Dt):Prop:=PE X e (tL X.K f)
def DB(X:Cx)(e:Jc)(f:De->Option Dt):Prop:=PE X e (tBd X.K f)
def DT(X:Cx)(e:Jc)(f:De->Option Bool):Prop:=PT X e (tTr X.K f)
def DW(X:Cx)(e:Jc)(f:De->Option Bool):Prop:=PW X e (tTr X.K f)
variable{X:Cx}{e:Jc}{t':TE}
theorem PE.mono{t:TE}(h:PE X e t)(m:∀ σ H Q,t' σ H Q->t σ H Q):PE X e t':=fun J1 s σ H Q I q=>h J1 s σ H Q I (m _ _ _ q)
theorem PT.mono{t t':TT}(h:PT X e t)(m:∀ σ H Q,t' σ H Q->t σ H Q):PT X e t':=fun J1 s σ H Q I q=>h J1 s σ H Q I (m _ _ _ q)
theorem PW.mono{t t':TT}(h:PW X e t)(m:∀ σ H Q,t' σ H Q->t σ H Q):PW X e t':=fun L J1 s σ H Q I q=>h L J1 s σ H Q I (m _ _ _ q)
theorem PA.mono{e:List Jc}{t t':TA}(h:PA X e t)(m:∀ σ H Q,t' σ H Q->t σ H Q):PA X e t':=fun pos J1 s σ H Q I q=>h pos J1 s σ H Q I (m _ _ _ q)
variable{tg:Jc}
theorem PI.mono{t t':TI}(h:PI X tg e t)(m:∀ σ H Q,t' σ H Q->t σ H Q):PI X tg e t':=fun J1 s σ H Q I q=>h J1 s σ H Q I (m _ _ _ q)
theorem PG.mono{t t':TG}(h:PG X e t)(m:∀v σ H Q,t' v σ H Q->t v σ H Q):PG X e t':=fun J1 s σ H v u Q I r q=>h J1 s σ H v u Q I r (m _ _ _ _ q)
theorem PS.mono{e:Jb}{t t':TS}(h:PS X e t)(m:∀D σ H,t' D σ H->t D σ H):PS X e t':=fun J1 s σ H Q I q=>h J1 s σ H Q I (m _ _ _ q)
theorem PSs.mono{e:List Jb}{t t':TS}(h:PSs X e t)(m:∀D σ H,t' D σ H->t D σ H):PSs X e t':=fun J1 s σ H Q I q=>h J1 s σ H Q I (m _ _ _ q)
theorem PE.or{t:TE}(h:PE X e t)(h':PE X e t'):PE X e (fun σ H Q=>t σ H Q∨t' σ H Q):=fun J1 s σ H Q I q=>q.elim (h J1 s σ H Q I) (h' J1 s σ H Q I)
theorem PI.or{t t':TI}(h:PI X tg e t)(h':PI X tg e t'):PI X tg e (fun σ H Q=>t σ H Q∨t' σ H Q):=fun J1 s σ H Q I q=>q.elim (h J1 s σ H Q I) (h' J1 s σ H Q I)
variable{x:Str}{r:R2}{σ:St}{H:Hp}{Q:VK}{vs:List V}{n:Nat}{ds:List Dt}{ps:List Str}
section
variable{X:Cx}{e a b c:Jc}{f:De->Option T}{g fa fb fc:De->Option Dt}{pos:Pos}
def toD(f:De->Option T):De->Option Dt:=fun δ=>(f δ).bind T.d
def toT(f:De->Option Dt):De->Option T:=fun δ=>(f δ).map T.leaf
theorem DO.toL(h:DO X e f):DL X e (toD f):=PE.mono h fun σ H Q ⟨Φ,δ,F,d,O,W,L,k⟩=>by obtain⟨t,Y,q⟩:=bS L;exact⟨Φ,δ,F,t,O,W,Y,KL.to q k⟩
theorem DO.toB(h:DO X e f):DB X e (toD f):=PE.mono h fun σ H Q ⟨Φ,δ,F,d,O,W,L,k⟩=>by obtain⟨t,Y,q⟩:=bS L;exact⟨Φ,δ,F,t,O,W,Y,KB.toO q k⟩
def DL.toB(h:DL X e g):DB X e g:=PE.mono h fun σ H Q ⟨Φ,δ,F,d,L,O,q,k⟩=>⟨Φ,δ,F,d,L,O,q,k.to⟩
def DL.toO(h:DL X e g):DO X e (toT g):=PE.mono h fun σ H Q ⟨Φ,δ,F,t,O,W,q,k⟩=>by
 unfold toT at q;cases L:g δ with
 |none=>rw[L]at q;cases q
 |some d=>rw[L]at q;cases q;exact⟨Φ,δ,F,d,O,W,L,k.leaf⟩
def vL(i:Nat):De->Option Dt:=fun δ=>match δ[i]? with
 |some (some (.leaf d))=>some d
 |_=>none
def vB(i:Nat):De->Option Dt:=fun δ=>match δ[i]? with
 |some (some t)=>t.d
 |_=>none
def al(h:PE X e (iW i)):DL X e (vL i):=PE.mono h fun σ H Q ⟨Φ,δ,F,d,W,O,L,k⟩=>by
 unfold vL at L;split at L
 .rename_i q;cases L;obtain⟨v,h1,h2⟩:=O.leaf q;exact⟨v,h1,k.here O.fh (W▸h2)⟩
 .cases L
def af(h:PE X e (iW i)):DB X e (vB i):=PE.mono h fun σ H Q ⟨Φ,δ,F,d,W,O,L,k⟩=>by
 unfold vB at L;split at L
 .rename_i q;obtain⟨v,h1,h2⟩:=O.slot q L;exact⟨v,h1,k v H F (Step.refl O.fh) (W▸h2)⟩
 .cases L
def kD(d:Dt):De->Option Dt:=fun _=>some d
theorem vF{d:Dt}(h:PE X e (tC v))(r:∀F,Rep X.K F d v):DL X e (kD d):=PE.mono h fun σ H Q ⟨Φ,δ,F,d',O,L,q,k⟩=>by cases q;exact k.here L.fh (r F)
theorem ag{i:Int}{j}:DL X (.Constant (.int i) j pos) (kD (.int i)):=vF A7 fun F=>by simp only[Rep]
theorem j4{i:Bool}{j}:DL X (.Constant (.bool i) j pos) (kD (.bl i)):=vF Dh fun F=>by simp only[Rep]
def cX{j}:DL X (.Constant .none j pos) (kD .non):=vF A8 fun F=>by simp only[Rep]
def aS{j}:DL X (.Constant (.str x) j pos) (kD (.str x)):=vF A9 fun F=>by simp only[Rep]
def R2D(K:xA9)(r:R2)(g:Dt->Dt->Option T):Prop:=∀F H x y vx vy (Q:VK) t,Same F H->RepB K F H x vx->RepB K F H y vy->g x y=some t->KO K F H t Q->r vx vy H Q
def d2(g:Dt->Dt->Option T)(fa fb:De->Option Dt):De->Option T:=fun δ=>(fa δ).bind fun x=>(fb δ).bind fun y=>g x y
theorem mt{g:Dt->Dt->Option T}(hr:R2D K r g)(h:tO K (d2 g fa fb) σ H Q):tOp r (tBd K fa) (tBd K fb) σ H Q:=by obtain⟨Φ,δ,F,t,W,Y,L,k⟩:=h;unfold d2 at L;obtain⟨x,hx,L⟩:=bS L;obtain⟨y,Z,L⟩:=bS L;exact⟨Φ,δ,F,x,W,Y,hx,fun v H1 F1 st rv=>⟨Φ,δ,F1,y,W,Y.step st,Z,fun v2 H2 F2 q O=>hr F2 H2 x y v v2 Q t q.fh (rv.step q.ff q.hh) O L (k.step (st.trans q))⟩⟩
theorem ay{q:Operator}{g:Dt->Dt->Option T}(Y:OpR X (ql7 q) r)(O:R2D X.K r g)(L:DB X a fa)(W:DB X b fb):DO X (.BinOp a q b pos) (d2 g fa fb):=PE.mono (Do Y L W) fun σ H Q h=>mt O h
theorem iH{q:CmpOp}{g:Dt->Dt->Option T}(Z:OpR X (qh0 q) r)(W:R2D X.K r g)(L:DB X a fa)(Y:DB X b fb)(O:qh7 q b=false):DO X (.Compare a [q] [b] pos) (d2 g fa fb):=PE.mono (rl Z L Y O) fun σ H Q h=>mt W h
def asB:T->Option Bool
 |.leaf (.bl b)=>some b
 |_=>none
def tB2(g:Dt->Dt->Option T)(fa fb:De->Option Dt):De->Option Bool:=fun δ=>(d2 g fa fb δ).bind asB
def rK{F:Hp}{t:T}{S:J9->Prop}{b:Bool}(h:asB t=some b)(o:Own K F H t v S):v=.bl b:=by
 unfold asB at h;split at h
 .cases h;have o:Rep K F (.bl b) v:=o;simp only[Rep]at o;exact o
 .cases h
theorem bf{L:CmpOp}{g:Dt->Dt->Option T}(ho:OpR X (qh0 L) r)(O:R2D X.K r g)(ha:DB X a fa)(hb:DB X b fb)(hm:qh7 L b=false):DT X (.Compare a [L] [b] pos) (tB2 g fa fb):=PT.mono (nr ho ha hb hm) fun σ H Q ⟨Φ,δ,F,t,W,Y,q,k⟩=>by unfold tB2 at q;obtain⟨z,Z,q⟩:=bS q;refine mt O ⟨Φ,δ,F,z,W,Y,Z,fun v H' F' S st o hs=>?_⟩;exact⟨t,rK q o,k H' F' st⟩
def tZ:Dt->Option Bool
 |.non=>some false
 |.bl b=>some b
 |.int i=>some (i != 0)
 |.str x=>if x.length<=qb1 then some ((x.length:Int) != 0)else none
 |.tup l=>some (!l.isEmpty)
 |.lst l=>some (!l.isEmpty)
 |_=>none
def e7(f:De->Option Dt):De->Option Bool:=fun δ=>(f δ).bind tZ
def jb{F:Hp}{l:List Dt}(h:Reps K F l vs):l.isEmpty=vs.isEmpty:=by
 cases l with
 |nil=>unfold Reps at h;rw[h];rfl
 |cons d l=>unfold Reps at h;obtain⟨v,q,rfl,_⟩:=h;rfl
def yG{F:Hp}{d:Dt}{b:Bool}(L:Same F H)(h:RepB K F H d v)(q:tZ d=some b):Bt K v H b:=by
 cases d with
 |non=>cases h;cases q;rfl
 |bl x=>cases h;cases q;rfl
 |int x=>cases h;cases q;rfl
 |str x=>
  cases h;simp only[tZ]at q;split at q
  .cases q;exact⟨by assumption,rfl⟩
  .cases q
 |tup l=>obtain⟨a,vs,rfl,h1,h2⟩:=h;cases q;exact .inr (.inl ⟨vs,L.tup h1,by rw[jb h2]⟩)
 |lst l=>obtain⟨a,vs,rfl,h1,h2⟩:=h;cases q;exact .inl ⟨vs,h1,by rw[jb h2]⟩
 |dct ks l=>cases q
 |dcT ks l=>cases q
theorem c7(Z:DB X a fa)(Y:∀q,isTrue a X.env q=(do let v <- q;standAt a.pos;zd4 [v] (truthy v))):DT X a (e7 fa):=PT.mono (u9 Z Y) fun σ H Q ⟨Φ,δ,F,b,O,W,L,k⟩=>by unfold e7 at L;obtain⟨d,hd,L⟩:=bS L;exact⟨Φ,δ,F,d,O,W,hd,fun v H' F' st r=>⟨b,yG st.fh r L,k H' F' st⟩⟩
def t0(f:De->Option Bool):De->Option Bool:=fun δ=>(f δ).map (!·)
def fG(f g:De->Option Bool):De->Option Bool:=fun δ=>(f δ).bind fun b=>if b then g δ else some false
def fOr(f g:De->Option Bool):De->Option Bool:=fun δ=>(f δ).bind fun b=>if b then some true else g δ
variable{ta tb tc:De->Option Bool}{rest:List Jc}
theorem vG(h:DT X a ta):DT X (.UnaryOp .Not a pos) (t0 ta):=PT.mono (Bd h) fun σ H Q ⟨Φ,δ,F,b,O,W,L,k⟩=>by
 unfold t0 at L;cases q:ta δ with
 |none=>rw[q]at L;cases L
 |some c=>rw[q]at L;cases L;exact⟨Φ,δ,F,c,O,W,q,fun H' F' st=>k H' F' st⟩
def fm(h:DT X a ta):DW X (.BoolOp .And [a] pos) ta:=yk h
def vH(h:DT X a ta):DW X (.BoolOp .Or [a] pos) ta:=Bb h
theorem e8(h:DT X a ta)(h':DW X (.BoolOp .And (b::rest) pos) tb):DW X (.BoolOp .And (a::b::rest) pos) (fG ta tb):=PW.mono (Bc h h') fun σ H Q ⟨Φ,δ,F,t,O,W,L,k⟩=>by
 unfold fG at L;obtain⟨c,Z,L⟩:=bS L;refine⟨Φ,δ,F,c,O,W,Z,fun H' F' st=>?_⟩;split at L
 .rename_i q;rw[if_pos q];exact⟨Φ,δ,F',t,O,W.step st,L,fun H2 Y s2=>k H2 Y (st.trans s2)⟩
 .rename_i q;rw[if_neg q];cases L;exact k H' F' st
theorem Al(h:DT X a ta)(h':DW X (.BoolOp .Or (b::rest) pos) tb):DW X (.BoolOp .Or (a::b::rest) pos) (fOr ta tb):=PW.mono (Di h h') fun σ H Q ⟨Φ,δ,F,t,O,W,L,k⟩=>by
 unfold fOr at L;obtain⟨c,Z,L⟩:=bS L;refine⟨Φ,δ,F,c,O,W,Z,fun H' F' st=>?_⟩;split at L
 .rename_i q;rw[if_pos q];cases L;exact k H' F' st
 .rename_i q;rw[if_neg q];exact⟨Φ,δ,F',t,O,W.step st,L,fun H2 Y s2=>k H2 Y (st.trans s2)⟩
def DW.t(h:DW X a ta):DT X a ta:=h.pt
def vIf(c:De->Option Bool)(f g:De->Option T):De->Option T:=fun δ=>(c δ).bind fun b=>if b then f δ else g δ
def BP{F:Hp}{b:Bool}:Rep K F (.bl b) (.bl b):=by simp only[Rep]
def gp{F:Hp}{b:Int}:Rep K F (.int b) (.int b):=by simp only[Rep]
def jc{F:Hp}{b:Str}:Rep K F (.str b) (.str b):=by simp only[Rep]
def jd{F:Hp}:Rep K F .non .non:=by simp only[Rep]
variable{oa ob:De->Option T}
theorem rL(Y:DT X c tc)(h:DO X a oa)(h':DO X b ob):DO X (.IfExp c a b pos) (vIf tc oa ob):=PE.mono (uZ Y h h') fun σ H Q ⟨Φ,δ,F,t,O,W,L,k⟩=>by
 unfold vIf at L;obtain⟨x,Z,L⟩:=bS L;refine⟨Φ,δ,F,x,O,W,Z,fun H' F' st=>?_⟩;split at L
 .rename_i q;rw[if_pos q];exact⟨Φ,δ,F',t,O,W.step st,L,k.step st⟩
 .rename_i q;rw[if_neg q];exact⟨Φ,δ,F',t,O,W.step st,L,k.step st⟩
def oT(K:xA9)(F H:Hp):List Dt->List V->Prop
 |[],vs=>vs=[]
 |d::l,vs=>∃v q,vs=v::q/\RepB K F H d v/\oT K F H l q
def tAL(K:xA9)(f:De->Option (List Dt)):TA:=fun σ H Q=>∃ Φ δ F ds,Fm.K Φ=K/\En Φ δ σ F H/\f δ=some ds/\∀vs H' F',Step F H F' H'->Reps K F' ds vs->Q vs H'
def tAB(K:xA9)(f:De->Option (List Dt)):TA:=fun σ H Q=>∃ Φ δ F ds,Fm.K Φ=K/\En Φ δ σ F H/\f δ=some ds/\∀vs H' F',Step F H F' H'->oT K F' H' ds vs->Q vs H'
structure DA(X:Cx)(es:List Jc)(f:De->Option (List Dt)):Prop where
 len:∀ δ ds,f δ=some ds->ds.length=es.length
 pa:PA X es (tAL X.K f)
structure DAB(X:Cx)(es:List Jc)(f:De->Option (List Dt)):Prop where
 len:∀ δ ds,f δ=some ds->ds.length=es.length
 pa:PA X es (tAB X.K f)
def ak:De->Option (List Dt):=fun _=>some []
def aa(f:De->Option Dt)(g:De->Option (List Dt)):De->Option (List Dt):=fun δ=>(f δ).bind fun d=>(g δ).bind fun ds=>some (d::ds)
variable{es:List Jc}{fs:De->Option (List Dt)}
theorem mw{f:De->Option Dt}(h:∀ δ ds,fs δ=some ds->ds.length=n):∀ δ ds,aa f fs δ=some ds->ds.length=n+1:=fun δ ds q=>by unfold aa at q;obtain⟨x,O,q⟩:=bS q;obtain⟨y,L,q⟩:=bS q;cases q;simp[h δ y L]
theorem aj:DA X [] ak:=⟨fun _ _ h=>by cases h;rfl,PA.mono gU fun σ H Q ⟨Φ,δ,F,ds,O,L,q,k⟩=>by cases q;exact k [] H F (Step.refl L.fh) (by simp only[Reps])⟩
theorem aL:DAB X [] ak:=⟨fun _ _ h=>by cases h;rfl,PA.mono gU fun σ H Q ⟨Φ,δ,F,ds,O,L,q,k⟩=>by cases q;exact k [] H F (Step.refl L.fh) rfl⟩
theorem ab(h:DL X e g)(h':DA X es fs)(Y:qb0 (e::es) X.env=(false,eval e X.env)::qb0 es X.env:=by rfl):DA X (e::es) (aa g fs):=⟨mw h'.len,PA.mono (dM h h'.pa Y) fun σ H Q ⟨Φ,δ,F,ds,L,O,q,k⟩=>by unfold aa at q;obtain⟨x,hx,q⟩:=bS q;obtain⟨y,Z,q⟩:=bS q;cases q;exact⟨Φ,δ,F,x,L,O,hx,fun v H1 F1 st r=>⟨Φ,δ,F1,y,L,O.step st,Z,fun vs H2 F2 W r2=>k (v::vs) H2 F2 (st.trans W) (by simp only[Reps];exact⟨v,vs,rfl,r.same W.ff,r2⟩)⟩⟩⟩
theorem aG(h:DB X e g)(h':DAB X es fs)(Y:qb0 (e::es) X.env=(false,eval e X.env)::qb0 es X.env:=by rfl):DAB X (e::es) (aa g fs):=⟨mw h'.len,PA.mono (dM h h'.pa Y) fun σ H Q ⟨Φ,δ,F,ds,O,W,q,k⟩=>by unfold aa at q;obtain⟨x,hx,q⟩:=bS q;obtain⟨y,Z,q⟩:=bS q;cases q;exact⟨Φ,δ,F,x,O,W,hx,fun v H1 F1 st r=>⟨Φ,δ,F1,y,O,W.step st,Z,fun vs H2 F2 L r2=>k (v::vs) H2 F2 (st.trans L) ⟨v,vs,rfl,r.step L.ff L.hh,r2⟩⟩⟩⟩
def aT(f:De->Option (List Dt)):De->Option T:=fun δ=>(f δ).bind fun ds=>if ds.length<=qb1 then some (.leaf (.tup ds))else none
def bE(f:De->Option (List Dt)):De->Option T:=fun δ=>(f δ).bind fun ds=>if ds.length<=qb1 then some (.lst ds)else none
theorem aI{x1}(h:DA X es fs):DO X (.Tuple es x1 pos) (aT fs):=PE.mono (Bv h.pa) fun σ H Q ⟨Φ,δ,F,t,O,W,q,k⟩=>by
 unfold aT at q;obtain⟨ds,Y,q⟩:=bS q;split at q
 .rename_i L;cases q;refine⟨Φ,δ,F,ds,O,W,Y,fun vs H1 F1 st r=>⟨by rw[r.length];exact L,fun p hp=>?_⟩⟩;refine(k.step st).leaf _ _ _ (Step.new st.fh hp) ?_;simp only[Rep];exact⟨p,vs,rfl,SqT.of bq,r.same (Same.upd (st.fh.free hp))⟩
 .cases q
theorem gq{F:Hp}(k:KO K F H (.lst ds) Q)(q:Same F H)(r:Reps K F ds vs)(hp:H p=none):Q (.ref p) (upd H p (.lst vs)):=by
 refine k _ _ F (fun b=>b=p) (Step.made q hp) ⟨p,vs,rfl,rfl,bq,r⟩ fun b z=>?_
 subst z;exact⟨q.free hp,hp,_,bq,nofun⟩
theorem bh(h:DA X es fs):DO X (.List es pos) (bE fs):=PE.mono (Bw h.pa) fun σ H Q ⟨Φ,δ,F,t,O,W,q,k⟩=>by
 unfold bE at q;obtain⟨ds,Y,q⟩:=bS q;split at q
 .rename_i L;cases q;exact⟨Φ,δ,F,ds,O,W,Y,fun vs H1 F1 st r=>⟨by rw[r.length];exact L,fun p hp=>gq (k.step st) st.fh r hp⟩⟩
 .cases q
def CRD(K:xA9)(r:List V->Hp->VK->Prop)(g:List Dt->Option T):Prop:=∀F H ds vs (Q:VK) t,Same F H->oT K F H ds vs->g ds=some t->KO K F H t Q->r vs H Q
def am(g:List Dt->Option T)(f:De->Option (List Dt)):De->Option T:=fun δ=>(f δ).bind g
theorem vI{r:List V->Hp->VK->Prop}{g:List Dt->Option T}(L:CRD K r g)(h:tO K (am g fs) σ H Q):tCB r (tAB K fs) σ H Q:=by obtain⟨Φ,δ,F,t,O,W,q,k⟩:=h;unfold am at q;obtain⟨ds,Y,q⟩:=bS q;exact⟨Φ,δ,F,ds,O,W,Y,fun vs H1 F1 st r=>L F1 H1 ds vs Q t st.fh r q (k.step st)⟩
variable{x:Str}{p:Pos}{id Ty:String}{sc:Jd}{r:List V->Hp->VK->Prop}{gg:List Dt->Option T}
theorem bz (h:aD sc x=true) (Z:fC X (.builtin id) r) (Y:CRD X.K r gg) (W:X.mg x=none) (hv:qf2 x=some (.builtin id)) (O:DAB X (e::es) fs) (e1:cW X sc:=by rfl)
  (he:qb0 (e::es) X.env=(false,eval e X.env)::qb0 es X.env:=by rfl) (L:(ql0 pos (qb0 es X.env)).any (·.1)=false:=by rfl):DO X (.Call (.Name x p) (e::es) [] pos) (am gg fs):=
 PE.mono (jI h Z W hv O.pa e1 he L) fun σ H Q q=>vI Y q
theorem cM (h:aD sc x=true) (Z:fC X (.type Ty) r) (Y:CRD X.K r gg) (W:X.mg x=none) (hv:qf2 x=some (.type Ty)) (O:DAB X (e::es) fs) (e1:cW X sc:=by rfl)
  (he:qb0 (e::es) X.env=(false,eval e X.env)::qb0 es X.env:=by rfl) (L:(ql0 pos (qb0 es X.env)).any (·.1)=false:=by rfl):DO X (.Call (.Name x p) (e::es) [] pos) (am gg fs):=
 PE.mono (k6 h Z W hv O.pa e1 he L) fun σ H Q q=>vI Y q
def spD(K:xA9)(n:Nat)(f:List Dt->Option T):Sp:=fun vs H Q _=>∃F ds t,Same F H/\ds.length=n/\Reps K F ds vs/\f ds=some t/\KO K F H t Q
theorem ax{k:Nat}{O:List Dt->Option T}(h:aD sc x=true)(F:OkF X.prog X.w X.K X.mg X.base x k ps (spD X.K n O))(Z:Room k X.A)(W:DA X (e::es) fs)(hn:(e::es).length=n:=by rfl)(e1:cW X sc:=by rfl)
 (he:qb0 (e::es) X.env=(false,eval e X.env)::qb0 es X.env:=by rfl) (L:(ql0 pos (qb0 es X.env)).any (·.1)=false:=by rfl):DO X (.Call (.Name x p) (e::es) [] pos) (am O fs):=
 PE.mono (tX h F Z W.pa e1 he L) fun σ H Q ⟨Φ,δ,Fz,t,hK,en,q,k⟩=>by unfold am at q;obtain⟨ds,Y,q⟩:=bS q;refine⟨Φ,δ,Fz,ds,hK,en,Y,fun vs H1 F1 st r=>?_⟩;show spD X.K n O (vs++[]) H1 Q E0;rw[qg2];exact⟨F1,ds,t,st.fh,(W.len δ ds Y).trans hn,r,q,k.step st⟩
end
inductive Out where
 |nx (δ:De)|rt (t:T)|bk (δ:De)|ct (δ:De)
structure Rt(Φ:Fm)(t:T)(v:V)(F H:Hp):Prop where
 fh:Same F H
 prot:∀b o,Φ.H0 b=some o->¬ Φ.S0 b->H b=some o
 old:Same Φ.F0 F
 nw:∀b o,F b=some o->Φ.F0 b=some o∨Φ.B b∨∃vs,Φ.H0 b=some (.tup vs)
 own:∃S,Own Φ.K F H t v S/\∀b,S b->F b=none/\(∃o,H b=some o/\NT o)/\Φ.B b
def Post(Φ:Fm)(D:Ends):Out->Prop
 |.nx δ=>∀ σ F H,En Φ δ σ F H->D.nx σ H
 |.rt t=>∀v F H,Rt Φ t v F H->D.rt v H
 |.bk δ=>∀ σ F H,En Φ δ σ F H->D.bk σ H
 |.ct δ=>∀ σ F H,En Φ δ σ F H->D.ct σ H
def tS(K:xA9)(g:De->Option Out):TS:=fun D σ H=>∃ Φ δ F o,Fm.K Φ=K/\En Φ δ σ F H/\g δ=some o/\Post Φ D o
def DS1(X:Cx)(st:Jb)(g:De->Option Out):Prop:=PS X st (tS X.K g)
def DS(X:Cx)(ss:List Jb)(g:De->Option Out):Prop:=PSs X ss (tS X.K g)
variable{Φ:Fm}{δ:De}{F' H':Hp}{N:List Str}{D:Ends}{es:List Jc}{ts:List Nat}{bb:Dt->De->Option De}{J:It}{xs:List V}
section
variable{X:Cx}{st:Jb}{rest a b body:List Jb}{g g1 g2:De->Option Out}{e c tg iter:Jc}{pos:Pos}{f:De->Option T}{fd:De->Option Dt}{tc:De->Option Bool}{i:Nat}
def bV:De->Option Out:=fun δ=>some (.nx δ)
def ar(g1 g2:De->Option Out):De->Option Out:=fun δ=>(g1 δ).bind fun o=>match o with
 |.nx q=>g2 q
 |o=>some o
def bp:DS X [] bV:=PSs.mono yl fun D σ H ⟨Φ,δ,F,o,O,q,L,k⟩=>by cases L;exact k σ F H q
def aw(h:DS1 X st g):DS X [st] g:=ra h
theorem ah(h1:DS1 X st g1)(h2:DS X rest g2):DS X (st::rest) (ar g1 g2):=PSs.mono (iX h1 h2) fun D σ H ⟨Φ,δ,F,o,W,Z,L,k⟩=>by
 unfold ar at L;obtain⟨Y,h1,L⟩:=bS L;refine⟨Φ,δ,F,Y,W,Z,h1,?_⟩;cases Y with
 |nx q=>exact fun σ' F' H' O=>⟨Φ,q,F',o,W,O,L,k⟩
 |rt t=>cases L;exact k
 |bk q=>cases L;exact k
 |ct q=>cases L;exact k
def sBrk:De->Option Out:=fun δ=>some (.bk δ)
theorem vJ:DS1 X (.Break pos) sBrk:=PS.mono u0 fun D σ H ⟨Φ,δ,F,o,O,q,L,k⟩=>by cases L;exact k σ F H q
def bw(f:De->Option T):De->Option Out:=fun δ=>(f δ).map .rt
theorem En.rt{F:Hp}{t:T}{S:J9->Prop}(O:En Φ δ σ F H)(st:Step F H F' H')(o:Own Φ.K F' H' t v S)(L:∀b,S b->F' b=none/\H b=none/\∃o,H' b=some o/\NT o):Rt Φ t v F' H':=by have q:=O.step st;exact⟨q.fh,q.prot,q.old,q.nw,S,o,fun b z=>⟨(L b z).1,(L b z).2.2,O.fresh (L b z).2.1⟩⟩
theorem aM(h:DO X e f):DS1 X (.Return (some e) pos) (bw f):=PS.mono (p5 h) fun D σ H ⟨Φ,δ,F,o,L,O,q,k⟩=>by unfold bw at q;obtain⟨t,Y,q⟩:=mS q;cases q;exact⟨Φ,δ,F,t,L,O,Y,fun v H' F' S st o W=>k v F' H' (O.rt st (L▸o) W)⟩
def e9(i:Nat):De->Option Out:=fun δ=>match δ[i]? with
 |some (some t)=>some (.rt t)
 |_=>none
theorem dj(h:PE X e (iW i)):DS1 X (.Return (some e) pos) (e9 i):=PS.mono (p5 h) fun D σ H ⟨Φ,δ,F,o,Y,L,O,k⟩=>by
 unfold e9 at O;split at O
 .rename_i t q;cases O;obtain⟨v,W⟩:=L.has i t q;obtain⟨S,s⟩:=L.sep;exact⟨v,W,k v F H ⟨L.fh,L.prot,L.old,L.nw,S i,s.own i t v (cL q W),fun b z=>s.out i b z⟩⟩
 .cases O
def sIf(c:De->Option Bool)(g1 g2:De->Option Out):De->Option Out:=fun δ=>(c δ).bind fun b=>if b then g1 δ else g2 δ
theorem bL(Y:DT X c tc)(h1:DS X a g1)(h2:DS X b g2):DS1 X (.If c a b pos) (sIf tc g1 g2):=PS.mono (Dl Y h1 h2) fun D σ H ⟨Φ,δ,F,o,O,W,L,k⟩=>by
 unfold sIf at L;obtain⟨x,Z,L⟩:=bS L;refine⟨Φ,δ,F,x,O,W,Z,fun H' F' st=>?_⟩;split at L
 .rename_i q;rw[if_pos q];exact⟨Φ,δ,F',o,O,W.step st,L,k⟩
 .rename_i q;rw[if_neg q];exact⟨Φ,δ,F',o,O,W.step st,L,k⟩
def aA(i:Nat)(f:De->Option T):De->Option Out:=fun δ=>(f δ).map fun t=>.nx (δ.set i (some t))
theorem vK{sc:Jd}{pos':Pos}(h:de sc N i x=true)(Y:jH sc x=true)(nd:N.Nodup)(Z:DO X e f)(e1:cW X sc:=by rfl)(e2:X.N=N:=by rfl)(hf:X.fn x=true∨X.env.scope.names.lookup x=some .local:=by exact .inl rfl)
 (L:qn7 e (some (.Name x pos')) pos.line X.env=pure false:=by rfl):DS1 X (.Assign [.Name x pos'] e pos) (aA i f):=PS.mono (rH h Y nd Z e1 e2 hf L) fun D σ H ⟨Φ,δ,F,o,O,W,q,k⟩=>by
 unfold aA at q;obtain⟨t,ht,q⟩:=mS q;cases q;exact⟨Φ,δ,F,t,O,W,ht,fun v H' F' S st o L=>k _ F' H' (W.put st (O▸o) L i)⟩
def t4(i:Nat)(g:De->Option Out):De->Option Out:=fun δ=>match δ[i]? with
 |some (some t)=>t.d.bind fun d=>g (δ.set i (some (.leaf d)))
 |_=>none
def BQ(h:tS K (t4 i g) D σ H):tS K g D σ H:=by
 obtain⟨Φ,δ,F,o,Y,Z,L,k⟩:=h;unfold t4 at L;split at L
 .rename_i t q;obtain⟨d,W,L⟩:=bS L;obtain⟨F',O⟩:=Z.freeze q W;exact⟨Φ,_,F',o,Y,O,L,k⟩
 .cases L
def rM(h:DS1 X st g):DS1 X st (t4 i g):=PS.mono h fun D σ H q=>BQ q
noncomputable def gD(K:xA9)(ts:List Nat)(st:Dt->De->Option De):TG:=fun v σ H Q=>∃ Φ δ F d L,Fm.K Φ=K/\En Φ δ σ F H/\Rep K F d v/\st d δ=some L/\∀q,q.length=σ.length->(∀j,j∉ts->q[j]?=σ[j]?)->En Φ L q F H->Q q H
noncomputable def gsD(K:xA9)(ts:List Nat)(st:List Dt->De->Option De):TGs:=fun vs σ H Q=>∃ Φ δ F ds L,Fm.K Φ=K/\En Φ δ σ F H/\Reps K F ds vs/\st ds δ=some L/\∀q,q.length=σ.length->(∀j,j∉ts->q[j]?=σ[j]?)->En Φ L q F H->Q q H
def DG(X:Cx)(tg:Jc)(ts:List Nat)(bb:Dt->De->Option De):Prop:=PG X tg (gD X.K ts bb)
def DGs(X:Cx)(tg:List Jc)(ts:List Nat)(bb:List Dt->De->Option De):Prop:=PGs X tg (gsD X.K ts bb)
def av(i:Nat):Dt->De->Option De:=fun d δ=>some (δ.set i (some (.leaf d)))
theorem En.name{F:Hp}(q:En Φ δ σ F H){d:Dt}(r:Rep Φ.K F d v)(i:Nat):En Φ (δ.set i (some (.leaf d))) (σ.set i (some v)) F H:=q.put (Step.refl q.fh) (S':=fun _=>False) (t:=.leaf d) r (fun _ z=>z.elim) i
theorem aP(h:PG X tg (kN i)):DG X tg [i] (av i):=PG.mono h fun v σ H Q ⟨Φ,δ,F,d,O,q,L,r,W,k⟩=>by cases W;refine k _ (by simp) (fun j Y=>?_) (L.name (q▸r) i);rw[List.getElem?_set_ne fun z=>Y (by simp[z])]
def fq:List Dt->De->Option De:=fun ds δ=>if ds.isEmpty then some δ else none
def br(b:Dt->De->Option De)(bs:List Dt->De->Option De):List Dt->De->Option De:=fun ds δ=>match ds with
 |d::r=>(b d δ).bind fun δ1=>bs r δ1
 |[]=>none
def fu(n:Nat)(bs:List Dt->De->Option De):Dt->De->Option De:=fun d δ=>match d with
 |.tup ds=>if ds.length=n then bs ds δ else none
 |_=>none
def gu:DGs X [] [] fq:=fun J1 s σ H vs us Q I r q=>ym J1 s σ H vs us Q I r (by
 obtain⟨Φ,δ,F,ds,W,Y,O,rs,L,k⟩:=q;unfold fq at L;cases ds with
 |nil=>cases L;simp only[Reps]at rs;exact⟨rs,k σ rfl (fun _ _=>rfl) O⟩
 |cons d l=>cases L)
def cj{O:List Nat}{bs:List Dt->De->Option De}(h1:DG X e ts bb)(h2:DGs X es O bs)
 (hs:(qm7 (e::es) X.env).map (·.2)=zd3 e X.env::(qm7 es X.env).map (·.2):=by rfl):DGs X (e::es) (ts++O) (br bb bs):=fun J1 s σ H vs us Q I r q=>u1 h1 h2 hs J1 s σ H vs us Q I r (by
 obtain⟨Φ,δ,F,ds,Z,hK,en,rs,L,k⟩:=q;unfold br at L;cases ds with
 |nil=>cases L
 |cons d l=>simp only[Reps]at rs;obtain⟨v,ws,e,r1,r2⟩:=rs;dsimp only at L;obtain⟨δ1,hb,L⟩:=bS L;refine⟨v,ws,e,Φ,δ,F,d,δ1,hK,en,r1,hb,fun σ1 l1 k1 Y=>⟨Φ,δ1,F,l,Z,hK,Y,r2,L,fun σ2 l2 k2 W=>k σ2 (l2.trans l1) (fun j hj=>?_) W⟩⟩;rw[k2 j fun z=>hj (qc3 _ z),k1 j fun z=>hj (qf6 _ z)])
def iI{k:Nat}{bs:List Dt->De->Option De}(hc:X.calm=true)(h:DGs X es ts bs)
 (hn:(qm7 es X.env).length=n:=by rfl) (O:(qm7 es X.env).findIdx? (·.1)=none:=by rfl):DG X (.Tuple es k pos) ts (fu n bs):=PG.mono (Bg hc h hn O) fun v σ H Q ⟨Φ,δ,F,d,W,hK,Y,r,L,q⟩=>by
 unfold fu at L;split at L
 .rename_i ds;split at L
  .rename_i Z;simp only[Rep]at r;obtain⟨a,vs,e,h1,h2⟩:=r;exact⟨a,vs,e,Y.fh.tup h1,by rw[h2.length];exact Z,Φ,δ,F,ds,W,hK,Y,h2,L,q⟩
  .cases L
 .cases L
def vM(fd:De->Option Dt)(bb:Dt->De->Option De):De->Option Out:=fun δ=>(fd δ).bind fun d=>(bb d δ).map .nx
theorem BR(he:DL X e fd)(q:DG X tg ts bb)(hs:zg7 [tg] e pos.line X.env=pure false:=by rfl)(hw:zg8 [tg] e X.env=pure none:=by rfl)
 (h1:(qm7 [tg] X.env).map (·.2)=[zd3 tg X.env]:=by rfl):DS1 X (.Assign [tg] e pos) (vM fd bb):=PS.mono (u2 he q hs hw h1) fun D σ H ⟨Φ,δ,F,o,Y,Z,q,k⟩=>by
 unfold vM at q;obtain⟨d,hd,q⟩:=bS q;obtain⟨W,hb,q⟩:=mS q;cases q;exact⟨Φ,δ,F,d,Y,Z,hd,fun v H' F' st r=>⟨Φ,δ,F',d,W,Y,Z.step st,r,hb,fun L _ _ O=>k L F' H' O⟩⟩
noncomputable def rN(K:xA9)(F':Hp)(J:It)(ds:List Dt)(ok:Hp->Prop):Prop:=∀(i:Nat)(H F:Hp),ok H->Same F H->Same F' F->(i<ds.length->J.go i H)/\(i=ds.length->J.stop i H)/\∀x H',i<ds.length->J.yld i H x H'->∃d q,ds[i]?=some d/\Step F H q H'/\Rep K q d x
theorem Plain.walk{ok:Hp->Prop}(pl:Plain J xs ok)(r:Reps K F' ds xs):rN K F' J ds ok:=fun i H F q Z W=>by
 obtain⟨p1,p2,p3⟩:=pl i H q;have hl:=r.length;refine⟨fun h=>p1 (by lia),fun h=>p2 (by lia),fun x H' hi O=>?_⟩;obtain⟨rfl,hx⟩:=p3 x H' (by lia) O;have L:ds[i]?=some ds[i]:=by simp[hi]
 obtain⟨v,e,Y⟩:=r.get L;rw[hx]at e;cases e;exact⟨_,F,L,Step.refl Z,Y.same W⟩
def tIF(K:xA9)(f:De->Option (List Dt)):TI:=fun σ H R=>∃ Φ δ F ds,Fm.K Φ=K/\En Φ δ σ F H/\f δ=some ds/\∀J ok H' F',Step F H F' H'->rN K F' J ds ok->(∀H2,Same F' H2->ok H2)->R J H'
def tIB(K:xA9)(f:De->Option (List Dt)):TI:=fun σ H R=>∃ Φ δ F ds,Fm.K Φ=K/\En Φ δ σ F H/\f δ=some ds/\∀J ok H' F',Step F H F' H'->rN K F' J ds ok->(∀H2,Same H' H2->ok H2)->R J H'
def DIF(X:Cx)(tg iter:Jc)(f:De->Option (List Dt)):Prop:=PI X tg iter (tIF X.K f)
def DIB(X:Cx)(tg iter:Jc)(f:De->Option (List Dt)):Prop:=PI X tg iter (tIB X.K f)
theorem DIF.toB{fi:De->Option (List Dt)}(h:DIF X tg iter fi):DIB X tg iter fi:=PI.mono h fun σ H R ⟨Φ,δ,F,ds,q,L,Y,k⟩=>⟨Φ,δ,F,ds,q,L,Y,fun J ok H' F' st O W=>k J ok H' F' st O fun H2 s=>W H2 (st.fh.trans s)⟩
end
variable{F1 H1:Hp}
section
variable{X:Cx}{st:Jb}{rest a b body:List Jb}{g g1 g2:De->Option Out}{e c tg iter l:Jc}{pos:Pos}{f:De->Option T}{fd:De->Option Dt}{tc:De->Option Bool}{i:Nat}{fi:De->Option (List Dt)}
noncomputable def cA(bb:Dt->De->Option De)(g:De->Option Out):List Dt->De->Option Out
 |[],δ=>some (.nx δ)
 |d::r,δ=>(bb d δ).bind fun δ1=>(g δ1).bind fun o=>match o with
  |.nx δ2=>cA bb g r δ2
  |.ct δ2=>cA bb g r δ2
  |.bk δ2=>some (.nx δ2)
  |.rt t=>some (.rt t)
def dg(fi:De->Option (List Dt))(bb:Dt->De->Option De)(g:De->Option Out):De->Option Out:=fun δ=>(fi δ).bind fun ds=>cA bb g ds δ
theorem Reps.same_get{F:Hp}(r:Reps K F ds xs){x:V}(h:xs[i]?=some x):∃d,ds[i]?=some d/\Rep K F d x:=by
 have O:=r.length;have hi:i<xs.length:=(gX h).1;have q:ds[i]?=some ds[i]:=by simp[show i<ds.length by lia]
 obtain⟨v,e,L⟩:=r.get q;rw[h]at e;cases e;exact⟨_,q,L⟩
theorem rO{α:Type}{l:List α}{d:α}(h:l[i]?=some d):l.drop i=d::l.drop (i+1):=by have hi:i<l.length:=(gX h).1;rw[List.drop_eq_getElem_cons hi];congr 1;have:=(gX h).2;exact this
def Fm.at(Φ:Fm)(F1:Hp):Fm:={Φ with F0:=F1}
theorem En.back{δ':De}{q:St}{F:Hp}(L:En Φ δ σ F1 H1)(e:En (Φ.at F1) δ' q F H):En Φ δ' q F H:=⟨e.fh,e.prot,L.old.trans e.old,fun b o h=>(e.nw b o h).elim (fun z=>L.nw b o z) .inr,e.len,e.has,e.sep⟩
theorem Rt.back{F:Hp}{t:T}(q:En Φ δ σ F1 H1)(e:Rt (Φ.at F1) t v F H):Rt Φ t v F H:=⟨e.fh,e.prot,q.old.trans e.old,fun b o h=>(e.nw b o h).elim (fun z=>q.nw b o z) .inr,e.own⟩
theorem En.at(q:En Φ δ σ F1 H1):En (Φ.at F1) δ σ F1 H1:=⟨q.fh,q.prot,Same.refl _,fun b o h=>.inl h,q.len,q.has,q.sep⟩
def Post.at{o:Out}(O:En Φ δ σ F1 H1)(k:Post Φ D o):Post (Φ.at F1) D o:=by
 cases o with
 |nx L=>exact fun q F H e=>k q F H (O.back e)
 |bk L=>exact fun q F H e=>k q F H (O.back e)
 |ct L=>exact fun q F H e=>k q F H (O.back e)
 |rt t=>exact fun v F H e=>k v F H (Rt.back O e)
theorem vN{g:TG}{tb:TS}(Pv:Nat->St->Hp->Prop)(h0:Pv 0 σ H1)(L:∀i σ H,Pv i σ H->(i<n->J.go i H)/\(i=n->J.stop i H))
 (W:∀i x σ H H',i<n->Pv i σ H->J.yld i H x H'->g x σ H' fun O H2=>tb {D with nx:=Pv (i+1),ct:=Pv (i+1),bk:=D.nx} O H2) (Y:∀ σ H,Pv n σ H->D.nx σ H):ForW g tb D J σ H1:=by
 refine⟨fun i m σ H=>m=n-i/\i<=n/\Pv i σ H,⟨n,by simp,qh8 _,h0⟩,?_⟩;rintro i m σ H ⟨rfl,hi,p⟩;obtain⟨p1,p2⟩:=L i σ H p;by_cases q:i<n
 .exact .inr ⟨p1 q,Pv (i+1),fun σ' H' Z=>⟨n-(i+1),by lia,rfl,q,Z⟩,fun x H' y=>W i x σ H H' q p y⟩
 .have e:i=n:=by lia
  subst e;exact .inl ⟨p2 rfl,Y σ H p⟩
theorem cE(hp:zj1 (model X.prog X.w) X.A X.env X.xe)(hc:X.calm=true)(hi:DIF X tg iter fi)(hg:DG X tg ts bb)(hb:DS X body g)
 (hs:∀x,qj0 iter X.env x=pure x:=by intro _;rfl):DS1 X (.For tg iter body [] pos) (dg fi bb g):=PS.mono (Bm hp hc hi hg hb hs) fun D σ H ⟨Φ,δ,F,o,hK,en,hg,k⟩=>by
 unfold dg at hg;obtain⟨ds,hd,hg⟩:=bS hg;rw[yD];refine⟨Φ,δ,F,ds,hK,en,hd,fun J ok H1 F1 st1 wd ho=>?_⟩;have en1:=en.step st1;have k1:=Post.at en1 k;refine vN (n:=ds.length) (fun i Z H'=>∃W F',En (Φ.at F1) W Z F' H'/\cA bb g (ds.drop i) W=some o) ⟨δ,F1,en1.at,by simpa using hg⟩ (fun i Z H' ⟨W,F',O,_⟩=>?_) ?_ ?_
 .obtain⟨p1,p2,_⟩:=wd i H' F' (ho H' (O.old.trans O.fh)) O.fh O.old;exact⟨p1,p2⟩
 .rintro i x Z H' H'' hi ⟨W,F',O,L⟩ hy;obtain⟨_,_,p3⟩:=wd i H' F' (ho H' (O.old.trans O.fh)) O.fh O.old;obtain⟨d,F2,hd',st2,rd⟩:=p3 x H'' hi hy;rw[rO hd']at L;unfold cA at L;obtain⟨δ1,h1,L⟩:=bS L;obtain⟨o1,h2,L⟩:=bS L;refine⟨Φ.at F1,W,F2,d,δ1,hK,O.step st2,rd,h1,fun σ1 _ _ en1=>⟨Φ.at F1,δ1,F2,o1,hK,en1,h2,?_⟩⟩;cases o1 with
  |nx δ2=>exact fun σ2 F2 H2 Y=>⟨δ2,F2,Y,L⟩
  |ct δ2=>exact fun σ2 F2 H2 Y=>⟨δ2,F2,Y,L⟩
  |bk δ2=>cases L;exact fun σ2 F2 H2 Y=>k1 σ2 F2 H2 Y
  |rt t=>cases L;exact fun v F2 H2 q=>k1 v F2 H2 q
 .rintro Z H' ⟨W,F',O,L⟩;rw[List.drop_length]at L;cases L;exact k1 Z F' H' O
noncomputable def bt(c:De->Option Bool)(g:De->Option Out):Nat->De->Option Out
 |0,_=>none
 |n+1,δ=>(c δ).bind fun b=>if b then(g δ).bind fun o=>match o with
  |.nx δ2=>bt c g n δ2
  |.ct δ2=>bt c g n δ2
  |.bk δ2=>some (.nx δ2)
  |.rt t=>some (.rt t)
 else some (.nx δ)
theorem eT(n:Nat)(hp:zj1 (model X.prog X.w) X.A X.env X.xe)(hc:DT X c tc)(hb:DS X body g):DS1 X (.While c body [] pos) (bt tc g n):=PS.mono (u3 hp hc hb) fun D σ H ⟨Φ,δ,F,o,hK,en,hg,k⟩=>by
 refine⟨fun m σ' H'=>∃Y F',En Φ Y σ' F' H'/\bt tc g m Y=some o,⟨n,δ,F,en,hg⟩,?_⟩;rintro m σ' H' ⟨Y,F',en',L⟩;cases m with
 |zero=>cases L
 |succ m=>
  unfold bt at L;obtain⟨x,hx,L⟩:=bS L;refine⟨Φ,Y,F',x,hK,en',hx,fun H1 F1 st=>?_⟩;split at L
  .rename_i q;rw[if_pos q];obtain⟨o1,h2,L⟩:=bS L;refine⟨fun O H2=>∃ δ2 Z,En Φ δ2 O Z H2/\bt tc g m δ2=some o,fun O H2 z=>⟨m,qn8 m,z⟩,Φ,Y,F1,o1,hK,en'.step st,h2,?_⟩;cases o1 with
   |nx δ2=>exact fun O Z H2 W=>⟨δ2,Z,W,L⟩
   |ct δ2=>exact fun O Z H2 W=>⟨δ2,Z,W,L⟩
   |bk δ2=>cases L;exact fun O Z H2 W=>k O Z H2 W
   |rt t=>cases L;exact fun v Z H2 q=>k v Z H2 q
  .rename_i q;rw[if_neg q];cases L;exact k σ' F1 H1 (en'.step st)
def DN(x:Str):List Dt:=x.cps.toList.map fun c=>.str ⟨#[c]⟩
def k7(lo:Int)(n:Nat):List Dt:=(qc7 n).map fun(i:Nat)=>.int (lo+i)
theorem Reps.map{F:Hp}{α:Type}{f:α->Dt}{g:α->V}(h:∀x,Rep K F (f x) (g x)):∀l:List α,Reps K F (l.map f) (l.map g)
 |[]=>by simp[Reps]
 |x::l=>by simp only[qa5,Reps];exact⟨_,_,rfl,h x,Reps.map h l⟩
def itD:Dt->Option (List Dt)
 |.lst l=>some l
 |.tup l=>some l
 |.str x=>some (DN x)
 |_=>none
def fIt(f:De->Option Dt):De->Option (List Dt):=fun δ=>(f δ).bind itD
theorem ej(h:DL X l fd):DIF X tg l (fIt fd):=PI.mono (PI.or (rg h) (PI.or (u4 h) (vq h))) fun σ H R ⟨Φ,δ,F,ds,L,O,q,k⟩=>by
 unfold fIt at q;obtain⟨d,W,q⟩:=bS q;cases d with
 |lst l=>cases q;refine .inl ⟨Φ,δ,F,_,L,O,W,fun v H' F' st r=>?_⟩;simp only[Rep]at r;obtain⟨a,vs,rfl,h1,h2⟩:=r;exact⟨a,rfl,⟨vs,st.fh.seq h1⟩,k _ _ H' F' st (plain_list.walk h2) fun H2 s=>s.seq h1⟩
 |tup l=>cases q;refine .inr (.inl ⟨Φ,δ,F,_,L,O,W,fun v H' F' st r=>?_⟩);simp only[Rep]at r;obtain⟨a,vs,rfl,h1,h2⟩:=r;exact⟨a,rfl,⟨vs,st.fh.tup h1⟩,k _ _ H' F' st (plain_tup.walk h2) fun H2 s=>s.tup h1⟩
 |str x=>cases q;refine .inr (.inr ⟨Φ,δ,F,_,L,O,W,fun v H' F' st r=>?_⟩);simp only[Rep]at r;exact⟨x,r,k _ _ H' F' st (plain_str.walk (Reps.map (fun c=>jc) _)) fun _ _=>trivial⟩
 |_=>cases q
theorem bR(h:DB X l fd):DIB X tg l (fIt fd):=PI.mono (PI.or (rg h) (PI.or (u4 h) (vq h))) fun σ H R ⟨Φ,δ,F,ds,L,O,q,k⟩=>by
 unfold fIt at q;obtain⟨d,W,q⟩:=bS q;cases d with
 |lst l=>cases q;refine .inl ⟨Φ,δ,F,_,L,O,W,fun v H' F' st r=>?_⟩;obtain⟨a,vs,rfl,h1,h2⟩:=r;exact⟨a,rfl,⟨vs,h1⟩,k _ _ H' F' st (plain_list.walk h2) fun H2 s=>s.seq h1⟩
 |tup l=>cases q;refine .inr (.inl ⟨Φ,δ,F,_,L,O,W,fun v H' F' st r=>?_⟩);obtain⟨a,vs,rfl,h1,h2⟩:=r;exact⟨a,rfl,⟨vs,st.fh.tup h1⟩,k _ _ H' F' st (plain_tup.walk h2) fun H2 s=>s.tup (st.fh.tup h1)⟩
 |str x=>cases q;refine .inr (.inr ⟨Φ,δ,F,_,L,O,W,fun v H' F' st r=>?_⟩);exact⟨x,r,k _ _ H' F' st (plain_str.walk (Reps.map (fun c=>jc) _)) fun _ _=>trivial⟩
 |_=>cases q
def mx(j:Int):Bool:=decide (-(2^62)<=j)&&decide (j<2^62)
def fY:List Dt->Option (List Dt)
 |[.int j]=>if mx j then some (k7 0 j.toNat)else none
 |_=>none
def dO(r:List Dt->Option (List Dt))(f:De->Option (List Dt)):De->Option (List Dt):=fun δ=>(f δ).bind r
variable{p:Pos}{sc:Jd}{x y:Jc}{fs:De->Option (List Dt)}
def my{j:Int}(h:mx j=true):-(2^62)<=j/\j<2^62:=by unfold mx at h;simpa using h
def qi{F:Hp}(lo:Int)(n:Nat):Reps K F (k7 lo n) (kW lo n):=Reps.map (fun _=>gp) _
theorem dJ(h:aD sc "range"=true)(hm:X.mg "range"=none)(Z:DA X [x] fs)(e1:cW X sc:=by rfl)(O:qb0 [x] X.env=[(false,eval x X.env)]:=by rfl):DIF X tg (.Call (.Name "range" p) [x] [] pos) (dO fY fs):=
 PI.mono (qg h hm Z.pa e1 O) fun σ H R ⟨Φ,δ,F,ds,W,Y,q,k⟩=>by
  unfold dO at q;obtain⟨as,hd,q⟩:=bS q;refine⟨Φ,δ,F,as,W,Y,hd,fun vs H' F' st r=>?_⟩;unfold fY at q;split at q
  .rename_i j;split at q
   .rename_i L;cases q;simp only[Reps,Rep]at r;obtain⟨v,ws,rfl,rfl,rfl⟩:=r;exact⟨j,rfl,(my L).1,(my L).2,k _ _ H' F' st (plain_range.walk (qi _ _)) fun _ _=>trivial⟩
   .cases q
  .cases q
end
def dC(src:List (Option Nat))(δ:De):De:=src.map fun o=>o.bind fun j=>(δ[j]?).join
noncomputable def cb(bb:Dt->De->Option De)(ft:De->Option Bool)(fe:De->Option Dt)(δ:De):List Dt->Option (List Dt)
 |[]=>some []
 |d::r=>(bb d δ).bind fun δ1=>(ft δ1).bind fun b=>if b then(fe δ1).bind fun y=>(cb bb ft fe δ r).bind fun ys=>some (y::ys)else cb bb ft fe δ r
noncomputable def bA(src:List (Option Nat))(fi:De->Option (List Dt))(bb:Dt->De->Option De)(ft:De->Option Bool)(fe:De->Option Dt):De->Option T:=fun δ =>(fi δ).bind fun ds=>(cb bb ft fe (dC src δ) ds).bind fun ys=>if ys.length<=qb1 then some (.lst ys)else none
def bN:De->Option Bool:=fun _=>some true
def DTs(X:Cx)(ifs:List Jc)(f:De->Option Bool):Prop:=PTs X ifs (tTr X.K f)
theorem cT:DTs X [] bN:=fun J1 s σ H Q I h=>yB J1 s σ H Q I (by obtain⟨Φ,δ,F,b,O,L,q,k⟩:=h;cases q;exact k H F (Step.refl L.fh))
def fw{c:Jc}{f:De->Option Bool}(h:DT X c f):DTs X [c] f:=yC h
section
variable{X:Cx}{elt tg iter:Jc}{ifs:List Jc}{scope:Jd}{pos:Pos}{M:List Str}{src:List (Option Nat)}{fi:De->Option (List Dt)}{ft:De->Option Bool}{fe:De->Option Dt}
theorem yH(S:CmpScope X.N X.env.scope scope M src){k l:Nat}(hk:src[k]?=some (some j))(W:src[l]?=some (some j)):k=l:=by
 have nm:∀k,src[k]?=some (some j)->∃x,M[k]?=some x/\X.N[j]?=some x:=fun k h=>by
  have q:k<M.length:=by rw[S.len];exact(gX h).1
  have O:M[k]?=some M[k]:=by simp[q]
  have Y:(M.zip src)[k]?=some (M[k],some j):=by rw[qq0];exact⟨O,h⟩
  exact⟨_,O,(S.src _ (qd0 Y) j rfl).1⟩
 obtain⟨x,h1,h2⟩:=nm k hk;obtain⟨y,h3,L⟩:=nm l W;rw[h2]at L;cases L;exact(List.getElem?_inj (gX h1).1 S.nd).mp (h1.trans h3.symm)
theorem vO{k:Nat}{t:T}(h:(dC src δ)[k]?=some (some t)):∃j,src[k]?=some (some j)/\δ[j]?=some (some t):=by
 unfold dC at h;rw[qb3]at h;cases e:src[k]? with
 |none=>rw[e]at h;cases h
 |some o=>
  rw[e]at h;cases o with
  |none=>cases h
  |some j=>
   simp only[qm6,qa2,qs5]at h;refine⟨j,rfl,?_⟩;cases q:δ[j]? with
   |none=>rw[q]at h;cases h
   |some u=>rw[q]at h;simp only[qq3]at h;rw[h]
theorem yI{k:Nat}(h1:src[k]?=some (some j))(h2:σ[j]?=some (some v)):(stC src σ)[k]?=some (some v):=by unfold stC;rw[qb3,h1];simp[h2]
theorem vP{k:Nat}(h:(stC src σ)[k]?=some (some v)):∃j,src[k]?=some (some j)/\σ[j]?=some (some v):=by
 unfold stC at h;rw[qb3]at h;cases e:src[k]? with
 |none=>rw[e]at h;cases h
 |some o=>
  rw[e]at h;cases o with
  |none=>cases h
  |some j=>
   simp only[qm6,qa2,qs5]at h;refine⟨j,rfl,?_⟩;cases q:σ[j]? with
   |none=>rw[q]at h;cases h
   |some u=>rw[q]at h;simp only[qq3]at h;rw[h]
theorem En.comp{F:Hp}(S:CmpScope X.N X.env.scope scope M src)(q:En Φ δ σ F H):En Φ (dC src δ) (stC src σ) F H:=by
 refine⟨q.fh,q.prot,q.old,q.nw,by simp[dC,stC],fun k t h=>?_,?_⟩
 .obtain⟨j,h1,h2⟩:=vO h;obtain⟨v,hv⟩:=q.has j t h2;exact⟨v,yI h1 hv⟩
 .obtain⟨Z,s⟩:=q.sep;refine⟨fun k b=>∃j,src[k]?=some (some j)/\Z j b,fun k t v h=>?_,fun k b ⟨j,_,z⟩=>s.out j b z,fun k l b ⟨j,h1,z⟩⟨W,h2,Y⟩=>?_⟩
  .obtain⟨h1,h2⟩:=eS h;obtain⟨j,L,e2⟩:=vO h1;obtain⟨W,O,e4⟩:=vP h2;rw[L]at O;cases O;exact(s.own j t v (cL e2 e4)).grow fun b z=>⟨j,L,z⟩
  .have:=s.dis _ _ b z Y;subst this;exact yH S h1 h2
theorem t5{g:TG}{tt:TT}{te:TE}{D:J9}(Pv:Nat->Hp->Prop)(h0:Pv 0 (upd H1 D (.lst [])))(O:∀i H,Pv i H->(i<n->J.go i H)/\(i=n->J.stop i H))
 (Z:∀i x H H',i<n->Pv i H->J.yld i H x H'->g x (stC src σ) H' fun L H2=>Wk (stC src σ) L/\tt L H2 fun b Y=>if b=true then te L Y fun v W=>∃ys,W D=some (.lst ys)/\ys.length<qb1/\Pv (i+1) (upd W D (.lst (ys++[v])))else Pv (i+1) Y)
 (hd:∀H,Pv n H->Q (.ref D) H):Ai src g tt te σ J H1 Q D:=by
 refine⟨fun i m H=>m=n-i/\i<=n/\Pv i H,⟨n,by simp,qh8 _,h0⟩,?_⟩;rintro i m H ⟨rfl,hi,p⟩;obtain⟨p1,p2⟩:=O i H p;by_cases q:i<n
 .exact .inr ⟨p1 q,Pv (i+1),fun H' p'=>⟨n-(i+1),by lia,rfl,q,p'⟩,fun x H' y=>Z i x H H' q p y⟩
 .have e:i=n:=by lia
  subst e;exact .inl ⟨p2 rfl,hd H p⟩
theorem rP(S:CmpScope X.N X.env.scope scope M src)(hts:(ts.all fun k=>decide (src[k]?=some none))=true):∀(σ:St)(H:Hp)(Q:VK),tO X.K (bA src fi bb ft fe) σ H Q->oP src (tIB X.K fi) (gD X.K ts bb) (tTr X.K ft) (tL X.K fe) σ H Q:=fun σ H Q ⟨Φ,δ,F,t,hK,en,hf,k⟩=>by
 unfold bA at hf;obtain⟨ds,hd,hf⟩:=bS hf;obtain⟨all,ha,hf⟩:=bS hf;split at hf
 case isFalse=>cases hf
 rename_i hz;cases hf;rw[vz];refine⟨Φ,δ,F,ds,hK,en,hd,fun J ok H1 F1 st1 wd ho D hD=>?_⟩;have en1:=en.step st1;have k1:=k.step st1
 have wk:∀{σ2:St},σ2.length=(stC src σ).length->(∀j,j∉ts->σ2[j]?=(stC src σ)[j]?)->Wk (stC src σ) σ2:=fun {σ2} h1 h2=>by
  refine⟨h1.symm,fun j v hj=>?_⟩;by_cases hm:j∈ts
  .have:=qj7.mp hts j hm;have hn:src[j]?=some none:=of_decide_eq_true this;obtain⟨i,e,_⟩:=vP hj;rw[hn]at e;cases e
  .rw[h2 j hm];exact hj
 have ok':∀{F H:Hp},Step F1 H1 F H->ok H:=fun st=>ho _ st.hh
 refine t5 (n:=ds.length) (fun i H=>∃F ys done O,Step F1 H1 F H/\H D=some (.lst ys)/\F D=none/\Reps X.K F done ys/\cb bb ft fe (dC src δ) (ds.drop i)=some O/\done++O=all) ?_ ?_ ?_ ?_
 .exact⟨F1,[],[],all,Step.made st1.fh hD,bq,st1.fh.free hD,by simp[Reps],by simpa using ha,rfl⟩
 .rintro i H' ⟨F',ys,done,O,st,_⟩;obtain⟨p1,p2,_⟩:=wd i H' F' (ok' st) st.fh st.ff;exact⟨p1,p2⟩
 .rintro i x H0' H' hi ⟨F0',ys,done,O,st0,hD0,hFD0,rys0,L,W⟩ hy0;obtain⟨_,_,p3⟩:=wd i H0' F0' (ok' st0) st0.fh st0.ff;obtain⟨d,F',hd',stw,rd⟩:=p3 x H' hi hy0;have st:=st0.trans stw;have Z:H' D=some (.lst ys):=stw.hh _ _ hD0;have hFD:F' D=none:=stw.keepN hFD0 hD0;have rys:=rys0.same stw.ff;rw[rO hd']at L;unfold cb at L;obtain⟨δ1,h1,L⟩:=bS L;obtain⟨b,h2,L⟩:=bS L;refine⟨Φ,dC src δ,F',d,δ1,hK,(en1.step st).comp S,rd,h1,fun σ2 l2 k2 en2=>⟨wk l2 k2,Φ,δ1,F',b,hK,en2,h2,fun H3 F3 Y=>?_⟩⟩;have hD3:H3 D=some (.lst ys):=Y.hh _ _ Z;have hF3:F3 D=none:=Y.keepN hFD Z;dsimp only;split at L
  .rename_i q;rw[if_pos q];obtain⟨y,hy,L⟩:=bS L;obtain⟨zs,hzs,L⟩:=bS L;cases L;refine⟨Φ,δ1,F3,y,hK,en2.step Y,hy,fun v H4 F4 st4 rv=>?_⟩;have hD4:H4 D=some (.lst ys):=st4.hh _ _ hD3;have hF4:F4 D=none:=st4.keepN hF3 hD3;have s14:=(st.trans Y).trans st4;refine⟨ys,hD4,?_,F4,ys++[v],done++[y],zs,?_,bq,hF4,(rys.same (Y.ff.trans st4.ff)).append (Reps.one rv),hzs,by rw[<- W];simp⟩
   .have e1:=rys.length;have e2:all.length=done.length+(zs.length+1):=by rw[<- W];simp
    lia
   .refine⟨fun c o e=>?_,s14.ff,fun c o e=>?_,s14.nw⟩
    .rw[aQ (cC e hD)];exact s14.hh _ _ e
    .rw[aQ (cC e hF4)];exact s14.fh _ _ e
  .rename_i q;rw[if_neg q];exact⟨F3,ys,done,O,st.trans Y,hD3,hF3,rys.same Y.ff,L,W⟩
 .rintro H' ⟨F',ys,done,O,st,Z,hFD,rys,L,W⟩;rw[List.drop_length]at L;cases L;rw[qg2]at W;subst W
  exact k1 (.ref D) H' F' (fun b=>b=D) st ⟨D,ys,rfl,rfl,Z,rys⟩ fun b z=>by subst z;exact⟨hFD,hD,_,Z,nofun⟩
theorem kz(S:CmpScope X.N X.env.scope scope M src)(W:X.calm=true)(hi:DIB X tg iter fi)(hg:M.Nodup->∀C s H ex,DG (cxC X M scope C s H ex) tg ts bb)
 (Z:∀C s H ex,DTs (cxC X M scope C s H ex) ifs ft) (O:∀C s H ex,DL (cxC X M scope C s H ex) elt fe) (q:(ts.all fun k=>decide (src[k]?=some none))=true) (L:∀x,qj0 iter X.env x=pure x:=by intro _;rfl) :
  DO X (.ListComp elt [⟨tg,iter,ifs,0⟩] scope pos) (bA src fi bb ft fe):=PE.mono (vp (g:=gD X.K ts bb) (tt:=tTr X.K ft) (te:=tL X.K fe) S W hi (fun Y C s H ex=>hg Y C s H ex) (fun C s H ex=>Z C s H ex) (fun C s H ex=>O C s H ex) L) (rP S q)
end
def ce(m:Nat)(g:De->Option Out):List Dt->Option T:=fun ds=>match g (ds.map (fun d=>some (T.leaf d))++qf3 (m-ds.length) none)with
 |some (.rt t)=>some t
 |some (.nx _)=>some (.leaf .non)
 |_=>none
def fZ {F:Hp} (Z:Same F H) (r:Reps K F ds vs) :
  En ⟨K,F,H,fun _=>False⟩ (ds.map (fun d=>some (T.leaf d))++qf3 (N.length-ds.length) none) (start N vs) F H:=by
 have Y:=r.length
 have q:∀(i:Nat)(t:T),(ds.map (fun d=>some (T.leaf d))++qf3 (N.length-ds.length) none)[i]?=some (some t)->∃d v,t=T.leaf d/\vs[i]?=some v/\Rep K F d v/\(start N vs)[i]?=some (some v):=fun i t h=>by
  by_cases hi:i<ds.length
  .rw[qc8 (by simpa using hi),qb3]at h;have O:ds[i]?=some ds[i]:=by simp[hi]
   rw[O]at h;cases h;obtain⟨v,W,L⟩:=r.get O;refine⟨_,v,rfl,W,L,?_⟩;unfold start;rw[qc8 (by simp;lia),qb3,W];rfl
  .rw[qe3 (by simpa using hi)]at h;rw[qk0]at h;split at h<;>cases h
 refine⟨Z,fun b o h _=>h,Same.refl _,fun b o h=>.inl h,by simp[start,Y],fun i t h=>?_,fun _ _=>False,fun i t v h=>?_,fun _ _ z=>z.elim,fun _ _ _ z=>z.elim⟩
 .obtain⟨d,v,_,_,_,e⟩:=q i t h;exact⟨v,e⟩
 .obtain⟨h1,h2⟩:=eS h;obtain⟨d,w,rfl,_,L,e⟩:=q i t h1;rw[h2]at e;cases e;exact L
variable{st:Jb}
section
variable{P:qc6}{w:Ja}{K:xA9}{mg:Str->Option Value}{base:Heap}
def Rt.step{F:Hp}{t:T}(h:Rt ⟨K,F,H,fun _=>False⟩ t v F' H')(k:KO K F H t Q):Q v H':=by
 obtain⟨W,q,L,nw,S,o,O⟩:=h;refine k v H' F' S ⟨fun b u e=>q b u e id,L,W,fun b u e=>(nw b u e).elim .inl fun z=>.inr (z.imp (fun y=>y.elim id qg5) id)⟩ o fun b z=>?_
 obtain⟨h1,h2,h3⟩:=O b z;exact⟨h1,h3.elim id qg5,h2⟩
theorem bZ{k:Nat}{g:De->Option Out}(D:DefF K mg x st ps)(S:FnScope N ps (ac st))(hn:ps.length=n)
 (L:∀(f:J9)(cdv:Value)(A:qd5)(outer:List Env)(s:qa4)(H:Hp)(E:XK),Room k (A.deeper (qy3 x (ac st) s.heap.objs.size f cdv))->DS (kQ CX0 P w K mg base N x (ac st) f cdv A outer s H E).nox (bi st) g) :
  OkF P w K mg base x (k+1) ps (spD K n (ce N.length g)):=by
 refine D.ok S (fun vs H Q E h=>?_) (fun f cdv A outer s H vs Q E hr h=>?_)
 .obtain⟨F,ds,t,_,Y,r,_⟩:=h;rw[r.length,Y,hn]
 .obtain⟨F,ds,t,W,Y,r,O,kq⟩:=h;refine⟨_,L f cdv A outer s H E hr,?_⟩;unfold ce at O;split at O
  .rename_i t' q;cases O;exact⟨⟨K,F,H,fun _=>False⟩,_,F,_,rfl,fZ W r,q,fun v F' H' z=>z.step kq⟩
  .rename_i δ' q;cases O;exact⟨⟨K,F,H,fun _=>False⟩,_,F,_,rfl,fZ W r,q,fun Z F' H' z=>(z.rt (Step.refl z.fh) (t:=.leaf .non) (S:=fun _=>False) (jd (K:=K) (F:=F')) fun _ y=>y.elim).step kq⟩
  .cases O
theorem DQ{k:Nat}{g:De->Option Out}{f:J9}{fd:qp2}(D:Fun K x x st f fd)(S:FnScope N ps (ac st))(hn:ps.length=n)
 (L:∀(cdv:Value)(A:qd5)(outer:List Env)(s:qa4)(H:Hp)(E:XK),Room k (A.deeper (qy3 x (ac st) s.heap.objs.size f cdv))->DS (kQ CX0 P w K mg base N x (ac st) f cdv A outer s H E).nox (bi st) g) :
  FnOk P w K mg base CX0 (k+1) f fd ps (spD K n (ce N.length g)):=by
 refine D.ok S (fun vs H Q E h=>?_) (fun cdv A outer s H vs Q E hr h=>?_)
 .obtain⟨F,ds,t,_,Y,r,_⟩:=h;rw[r.length,Y,hn]
 .obtain⟨F,ds,t,W,Y,r,O,kq⟩:=h;refine⟨_,L cdv A outer s H E hr,?_⟩;unfold ce at O;split at O
  .rename_i t' q;cases O;exact⟨⟨K,F,H,fun _=>False⟩,_,F,_,rfl,fZ W r,q,fun v F' H' z=>z.step kq⟩
  .rename_i δ' q;cases O;exact⟨⟨K,F,H,fun _=>False⟩,_,F,_,rfl,fZ W r,q,fun Z F' H' z=>(z.rt (Step.refl z.fh) (t:=.leaf .non) (S:=fun _=>False) (jd (K:=K) (F:=F')) fun _ y=>y.elim).step kq⟩
  .cases O
end
def SameX(F F':Hp):Prop:=∀b o,F b=some o->(∀ob φ,o≠.frz ob (.ext φ))->F' b=some o
section
variable{K:xA9}{F F':Hp}
theorem SameX.rd(e:SameX F F')(h:Rd F a u)(h1:∀ob φ,u≠.frz ob (.ext φ))(h2:∀ φ,u≠.ext φ):Rd F' a u:=by
 rcases h with h|⟨o,h⟩
 .exact .inl (e _ _ h h1)
 .exact .inr ⟨o,e _ _ h fun ob φ z=>h2 φ (by cases z;rfl)⟩
mutual
theorem Rep.sameX(e:SameX F F'):∀{d:Dt}{v:V},Rep K F d v->Rep K F' d v
 |.non,v,h=>h
 |.bl _,v,h=>h
 |.int _,v,h=>h
 |.str _,v,h=>h
 |.tup l,v,h=>by unfold Rep at h ⊢;obtain⟨a,vs,h1,h2,h3⟩:=h;exact⟨a,vs,h1,h2.imp (fun z=>e _ _ z fun _ _ z=>nomatch z) id,Reps.sameX e h3⟩
 |.lst l,v,h=>by unfold Rep at h ⊢;obtain⟨a,vs,h1,h2,h3⟩:=h;exact⟨a,vs,h1,h2.imp (fun z=>e.rd z (fun _ _ z=>nomatch z) fun _ z=>nomatch z) id,Reps.sameX e h3⟩
 |.dct ks l,v,h=>by unfold Rep at h ⊢;obtain⟨a,vs,h1,h2,h3,h4⟩:=h;exact⟨a,vs,h1,(e.rd h2 (fun _ _ z=>nomatch z) (fun _ z=>nomatch z)),h3,Reps.sameX e h4⟩
 |.dcT ks l,v,h=>by unfold Rep at h ⊢;obtain⟨a,vs,h1,h2,h3,h4⟩:=h;exact⟨a,vs,h1,(e.rd h2 (fun _ _ z=>nomatch z) (fun _ z=>nomatch z)),h3,Reps.sameX e h4⟩
theorem Reps.sameX(e:SameX F F'):∀{l:List Dt}{vs:List V},Reps K F l vs->Reps K F' l vs
 |[],vs,h=>h
 |d::l,vs,h=>by unfold Reps at h ⊢;obtain⟨v,ws,h1,h2,h3⟩:=h;exact⟨v,ws,h1,Rep.sameX e h2,Reps.sameX e h3⟩
end
end
def deC(m:Nat)(ds caps:List Dt):De:=ds.map (fun d=>some (T.leaf d))++(qf3 (m-ds.length-caps.length) none++caps.map (fun d=>some (T.leaf d)))
def iw(m:Nat)(g:De->Option Out)(caps:List Dt):List Dt->Option T:=fun ds=>match g (deC m ds caps)with
 |some (.rt t)=>some t
 |some (.nx _)=>some (.leaf .non)
 |_=>none
theorem t6{F:Hp}{caps:List Dt}{fs:List V}(fh:Same F H)(r:Reps K F ds vs)(rc:Reps K F caps fs):En ⟨K,F,H,fun _=>False⟩ (deC N.length ds caps) (fD N vs fs) F H:=by
 have W:=r.length;have hc:=rc.length
 have q:∀(i:Nat)(t:T),(deC N.length ds caps)[i]?=some (some t)->∃d v,t=T.leaf d/\Rep K F d v/\(fD N vs fs)[i]?=some (some v):=fun i t h=>by
  unfold deC at h;unfold fD;rw[W,hc];by_cases hi:i<ds.length
  .rw[qc8 (by simpa using hi),qb3]at h;have O:ds[i]?=some ds[i]:=by simp[hi]
   rw[O]at h;cases h;obtain⟨v,Z,L⟩:=r.get O;refine⟨_,v,rfl,L,?_⟩;rw[qc8 (by simp;lia),qb3,Z];rfl
  .rw[qe3 (by simpa using hi),qa1]at h;rw[qe3 (by simp;lia),qa1,W];by_cases Y:i-ds.length<N.length-ds.length-caps.length
   .rw[qc8 (by simpa using Y),qk0]at h;split at h<;>cases h
   .rw[qe3 (by simpa using Y),ql8,qb3]at h;obtain⟨d,O,e⟩:=mS h;cases e;obtain⟨v,Z,L⟩:=rc.get O;refine⟨d,v,rfl,L,?_⟩;rw[qe3 (by simpa using Y),ql8,qb3,Z];rfl
 refine⟨fh,fun b o h _=>h,Same.refl _,fun b o h=>.inl h,?_,fun i t h=>?_,fun _ _=>False,fun i t v h=>?_,fun i b z=>z.elim,fun i j b z _=>z.elim⟩
 .unfold deC fD;simp[W,hc]
 .obtain⟨d,v,_,_,e⟩:=q i t h;exact⟨v,e⟩
 .obtain⟨h1,h2⟩:=eS h;obtain⟨d,v',rfl,L,e⟩:=q i t h1;rw[h2]at e;cases e;exact L
section
variable{P:qc6}{w:Ja}{K:xA9}{mg:Str->Option Value}{base:Heap}{N ps fr:List Str}{name qual:Str}{params:qi9}{body:List Jb}{scope:Jd}{f c':J9}{cl:List (Str×J9)}{H:Hp}{fs:List V}{doc pm ctv:Value}{fo:Obj}{uf:HO}{k:Nat}{g:De->Option Out}{caps ds:List Dt}{F0:Hp}{t:T}
theorem ClAt.up(C:ClAt H f name qual params body scope cl fr fs c' doc pm ctv fo uf)(h:∀b o u,H b=some (.frz o u)->H' b=some (.frz o u)):ClAt H' f name qual params body scope cl fr fs c' doc pm ctv fo uf:=⟨h _ _ _ C.fn,C.dat,let ⟨oc,z⟩:=C.cod;⟨oc,h _ _ _ z⟩,fun x c q=>let ⟨o,u,g,d⟩:=C.cel x c q;⟨o,u,h _ _ _ g,d⟩,C.inj,C.len,fun i x v h1 h2=>let ⟨c,o,u,e1,e2,e3⟩:=C.val i x v h1 h2;⟨c,o,u,e1,h _ _ _ e2,e3⟩,C.nms⟩
theorem rQ (S:ClScope N ps fr scope) (ndn:∀ x,∀ y∈scope.names,y.1=x->scope.names.lookup x=some y.2) (C:ClAt H f name qual params body scope cl fr fs c' doc pm ctv fo uf) (rc:Reps K F0 caps fs)
  (hbd:∀(s:qa4)(us:List Value),us.length=ps.length->qz9 s (xF9 name qual params body scope cl .none .none doc pm none (.ref c') ctv) ⟨us,[]⟩ (ps.zip us))
  (hbody:∀(A:qd5)(outer:List Env)(s:qa4)(H:Hp),Room k (A.deeper (i7 qual scope s.heap.objs.size f (.ref c') cl))->DS (oR CX0 P w K mg base N qual scope f (.ref c') cl A outer s H E0 fun _ _=>False) body g)
  (hl:ds.length=ps.length) (ht:iw N.length g caps ds=some t) (A:qd5) (outer:List Env) (s:qa4) (H' F:Hp) (us:List Value) (vs:List V) (Q:VK) (hr:Room (k+1) A) (hp:∀b o u,H b=some (.frz o u)->H' b=some (.frz o u)) (e0:Env0 P w K mg base A outer s H') (h0:Same F0 F) (fh:Same F H') (r:Vals vs us) (rd:Reps K F ds vs) (kq:KO K F H' t Q) :
  qp6 (model P w) A (.call (.ref f) ⟨us,[]⟩) (CR CX0 outer P w H' s Q E0) s:=by
 have C':=C.up hp;have hvl:vs.length=ps.length:=by rw[rd.length,hl]
 have cn:∀b,b∈cl.map (·.2)->∃o u,H' b=some (gI b o)/\o.data=.cell (some u):=fun b L=>by obtain⟨x,hx⟩:=i9 L;exact C'.cel x b hx
 have hsx:SameX F (dq F cl):=fun b o e hn=>by
  rw[bM fun z=>?_]
  .exact e
  .obtain⟨ob,u,g,_⟩:=cn b z;have:=fh b o e;rw[g]at this;exact hn _ _ (qd4 this).symm
 have fh':Same (dq F cl) (dq H' cl):=fun b o e=>by obtain⟨L,e⟩:=mq e;rw[bM L];exact fh b o e
 have fin:∀v Z H2,Rt ⟨K,dq F cl,dq H' cl,fun _=>False⟩ t v Z H2->(∀b∈cl.map (·.2),H2 b=none)->Q v (fW H' cl H2):=fun v Z H2 R hn=>by
  obtain⟨fh2,prot,old,nw,So,o,hs⟩:=R;have sin:∀{b:J9},b∈cl.map (·.2)->fW H' cl H2 b=H' b:=fun L=>if_pos L
  have Y:∀{b:J9},b∉cl.map (·.2)->fW H' cl H2 b=H2 b:=fun L=>if_neg L
  let F3:Hp:=fW F cl Z;have tin:∀{b:J9},b∈cl.map (·.2)->F3 b=F b:=fun L=>if_pos L
  have O:∀{b:J9},b∉cl.map (·.2)->F3 b=Z b:=fun L=>if_neg L
  have nF2:∀b,b∈cl.map (·.2)->Z b=none:=fun b L=>by
   cases z:Z b with
   |none=>rfl
   |some u=>have:=fh2 b u z;rw[hn b L]at this;cases this
  have h23:Same Z F3:=fun b u e=>by
   by_cases L:b∈cl.map (·.2)
   .rw[nF2 b L]at e;cases e
   .rw[O L];exact e
  have hh23:Same H2 (fW H' cl H2):=fun b u e=>by
   by_cases L:b∈cl.map (·.2)
   .rw[hn b L]at e;cases e
   .rw[Y L];exact e
  refine kq v (fW H' cl H2) F3 So ⟨fun b u e=>?_,fun b u e=>?_,fun b u e=>?_,fun b u e=>?_⟩ (Own.step h23 (fun b u _ e=>hh23 b u e) o) fun b z=>?_
  .by_cases L:b∈cl.map (·.2)
   .rw[sin L];exact e
   .rw[Y L];exact prot b u ((bM L).trans e) id
  .by_cases L:b∈cl.map (·.2)
   .rw[tin L];exact e
   .rw[O L];exact old b u ((bM L).trans e)
  .by_cases L:b∈cl.map (·.2)
   .rw[tin L]at e;rw[sin L];exact fh b u e
   .rw[O L]at e;rw[Y L];exact fh2 b u e
  .by_cases L:b∈cl.map (·.2)
   .rw[tin L]at e;exact .inl e
   .rw[O L]at e;rcases nw b u e with y|y|⟨ws,y⟩
    .exact .inl ((bM L).symm.trans y)
    .exact .inr (.inl ((bM L).symm.trans (y.elim id qg5)))
    .exact .inr (.inr ⟨ws,(bM L).symm.trans y⟩)
  .obtain⟨h1,⟨u,h2,nt⟩,h3⟩:=hs b z;have L:b∉cl.map (·.2):=fun y=>by rw[hn b y]at h2;cases h2
   exact⟨by rw[O L];exact h1,(bM L).symm.trans (h3.elim id qg5),u,by rw[Y L];exact h2,nt⟩
 have hul:us.length=ps.length:=by rw[<- r.length];exact hvl
 refine vC (CX:=CX0) (E:=E0) S C' ndn hr e0 (hbd s us hul) hvl r fun hr2=>⟨_,hbody A outer s (dq H' cl) hr2,?_⟩
 have en:=t6 (N:=N) fh' (rd.sameX hsx) ((rc.same h0).sameX hsx);unfold iw at ht;split at ht
 .rename_i t' q;cases ht;exact⟨_,_,_,_,rfl,en,q,fun v Z H2 R=>fin v Z H2 R⟩
 .rename_i δ' q;cases ht;exact⟨_,_,_,_,rfl,en,q,fun σ' Z H2 z=>fin .non Z H2 (z.rt (Step.refl z.fh) (t:=.leaf .non) (S:=fun _=>False) (jd (K:=K) (F:=Z)) fun _ y=>y.elim)⟩
 .cases ht
end
end L2
namespace L2
open PySem PySem.Spec PyProof.Rows
structure MadeH(H H':Hp)(f c':J9)(qual:Str)(fo:Obj):Prop where
 fn:H' f=some (.frz fo (.ext fun h=>h.get? f=some fo))
 cod:∃oc,H' c'=some (.frz oc (.code qual))
 old:Same H H'
 free:H f=none
noncomputable def tDef(P:J9)(qs:List ((Nat×Nat)×Str))(i:Nat)(name qual:Str)(params:qi9)(body:List Jb)(scope:Jd)(clos:List (Str×J9)):TS:=fun D σ H=>H P=some (.ctab qs)/\∀(f c':J9)(doc pm ctv:Value)(H':Hp),MadeH H H' f c' qual {cls:=.type "function",data:=.func (xF9 name qual params body scope clos .none .none doc pm none (.ref c') ctv)}->D.nx (σ.set i (some (.ref f))) H'
section
variable{X:Cx}{c P:J9}{qs:List ((Nat×Nat)×Str)}{name qual:Str}{params:qi9}{body:List Jb}{scope:Jd}{clos:List (Str×J9)}{pos:Pos}{i:Nat}
theorem BS (hN:X.N.Nodup) (hi:X.N[i]?=some name) (hx:Loc X.env.scope name) (hfn:X.fn name=true∨X.env.scope.names.lookup name=some .local) (B:TabB X.mg X.base c P) (L:X.env.code=.ref c) (Z:qualnameIn X.env name name=qual) (hq:((pos.line,pos.col),qual)∈qs) (Y:∀ q,((pos.line,pos.col),q)∈qs->q=qual) (hcl:ze9 scope X.env=pure clos)
  (hd0:params.defaults=[]) (O:params.kw_defaults=[]) (ha:annTrees params none X.env=[]):PS X (.FunctionDef name params body [] none [] scope none name pos) (tDef P qs i name qual params body scope clos):=by
 intro J1 s σ H D I h;obtain⟨hP,q⟩:=h;refine PySem.W.nestDef_K hd0 O ha ?_;rw[Z];refine yE I B L hP hq Y hcl fun f c' doc pm ctv H' s' M I'=>?_
 exact iV I' hN hi hx (v:=.ref f) rfl (fun s2 I2=>⟨_,H',I2,q f c' doc pm ctv H' ⟨M.fn,M.cod,fun b o e=>M.old b o e,I.hok.fresh M.lof⟩⟩) hfn
end
def cg(X:Cx)(b:J9):Prop:=∃x,X.env.cells.lookup x=some b
open Classical in
def j5(X:Cx)(H:Hp):Hp:=fun b=>if cg X b then none else H b
structure PlusC(X:Cx)(σ:St)(H H':Hp):Prop where
 out:∀b,¬ cg X b->H' b=H b
 fre:∀b,cg X b->H b=none
 cel:∀x c,X.env.cells.lookup x=some c->∃o v,H' c=some (gI c o)/\o.data=.cell v/\∀(i:Nat)(val:V),X.N[i]?=some x->σ[i]?=some (some val)->(X.env.kindOf x=some .cell∨X.env.kindOf x=some .free)->∃u,v=some u/\RelV val u
variable{H':Hp}{u:Value}
section
variable{X:Cx}{J1:List (J9×Obj)}{σ:St}{H:Hp}{s:qa4}
def oU{b:J9}(h:cg X b):j5 X H b=none:=if_pos h
def cU{b:J9}(h:¬ cg X b):j5 X H b=H b:=if_neg h
open Classical in
theorem yJ(I:Inv X J1 σ H s)(L:∀b,cg X b->b∉frs X.stack/\∀o,X.base.get? b≠some o):∃H',PlusC X σ H H'/\Env0 X.prog X.w X.K X.mg X.base X.A X.stack s H':=by
 let H':Hp:=fun b=>if cg X b then(s.heap.get? b).map (gI b)else H b
 have Z:∀{b:J9},cg X b->H' b=(s.heap.get? b).map (gI b):=fun h=>if_pos h
 have q:∀{b:J9},¬ cg X b->H' b=H b:=fun h=>if_neg h
 have e0:=I.env0;refine⟨H',⟨fun b h=>q h,fun b ⟨x,Y⟩=>I.freeC x b Y,fun x c e=>?_⟩,⟨e0.frames,e0.mod,fun b o e=>⟨(e0.bs b o e).1,?_⟩,e0.bsz,e0.funs,fun b W=>?_,fun b u e=>?_,e0.bare,fun p hp=>by rw[q fun⟨x,Y⟩=>by have:=I.freeC x _ Y;rw[e0.tb p hp]at this;cases this];exact e0.tb p hp⟩⟩
 .obtain⟨v,o,O,hd⟩:=I.cell x c e;refine⟨o,v,by rw[Z ⟨x,e⟩,O];rfl,hd,fun i val h1 h2 h3=>?_⟩;obtain⟨m,_,hl⟩:=I.loc;have hv:Vis X.env.scope x:=h3.elim (fun z=>.inr (.inl z)) fun z=>.inr (.inr z)
  obtain⟨u,ru,lk⟩:=hl i x val h1 h2 hv;rcases lk with ⟨k1,_⟩|⟨_,c2,k2,o2,k3,k4⟩
  .rcases h3 with z|z<;>(rw[k1]at z;cases z)
  .rw[e]at k2;cases k2;rw[O]at k3;cases k3;rw[hd]at k4;cases k4;exact⟨u,rfl,ru⟩
 .have:¬ cg X b:=fun z=>(L b z).2 o e
  rw[q this];exact(e0.bs b o e).2
 .have:¬ cg X b:=fun z=>(L b z).1 W
  rw[q this];exact e0.frf b W
 .have up:∀c u,H c=some u->H' c=some u:=fun c u z=>by
   rw[q]
   .exact z
   .rintro⟨x,Y⟩;rw[I.freeC x c Y]at z;cases z
  by_cases W:cg X b
  .rw[Z W]at e;obtain⟨o,O,rfl⟩:=mS e;exact⟨O,O,⟨o,O⟩,fun h1 h2 z1 z2=>z2 o z1⟩
  .rw[q W]at e;exact(I.hok b u e).stay (fun _ _ _ z=>z) (fun c z=>up c _ z) (fun c xs z=>up c _ z) fun c ob xs z=>up c _ z
theorem Inv.afterP{Q:VK}{s':qa4}(I:Inv X J1 σ H s)(Y:PlusC X σ H H')(ok':HOk X.prog X.w H' s.heap)(h:CE X.stack X.prog X.w H' s (fun v H2=>(∀c,cg X c->H2 c=H' c)->Q v (j5 X H2)) u s'):EP X J1 σ Q u s':=by
 obtain⟨v,H2,os,bare,un,hok,r,q⟩:=h;obtain⟨hh,g,d,t,os'⟩:=s';obtain rfl:os'=s.os:=os
 have W:∀{b:J9},cg X b->∃o,H' b=some (gI b o)/\s.heap.get? b=some o/\H2 b=some (gI b o)/\hh.get? b=some o:=fun {b} hb=>by obtain⟨x,O⟩:=hb;obtain⟨o,v,e,_⟩:=Y.cel x b O;have e2:=un.frzs b o _ e;exact⟨o,e,(ok' b _ e).1,e2,(hok b _ e2).1⟩
 have Z:∀{b:J9}{w:HO},H b=some w->¬ cg X b:=fun {b w} z ⟨x,O⟩=>by rw[I.freeC x b O]at z;cases z
 refine⟨v,j5 X H2,I.call (h':=hh) (g':=g) (d':=d) (t':=t) (ch:=[]) ⟨fun b o e n hb O=>?_,fun b o e n hb O=>?_,fun b o e n O=>?_,un.there,fun b xs e=>?_,fun b o w e=>?_,fun b ps e=>?_,fun b qs e=>?_⟩ (fun b w e=>?_) bare (fun b z=>absurd z (by simp)),r,q fun c L=>?_⟩
 .by_cases L:cg X b
  .obtain⟨o',_,h1,_,h2⟩:=W L;rw[e]at h1;cases h1;exact h2
  .exact un.keep b o e (by rw[Y.out b L];exact n) hb O
 .by_cases L:cg X b
  .obtain⟨o',_,h1,_,h2⟩:=W L;rw[e]at h1;cases h1;exact⟨o.slots,h2⟩
  .exact un.slot b o e (by rw[Y.out b L];exact n) hb O
 .by_cases L:cg X b
  .exact oU L
  .rw[cU L];exact un.free b o e (by rw[Y.out b L];exact n) O
 .rw[cU (Z e)];exact un.tups b xs (by rw[Y.out b (Z e)];exact e)
 .rw[cU (Z e)];exact un.frzs b o w (by rw[Y.out b (Z e)];exact e)
 .rw[cU (Z e)];exact un.tbls b ps (by rw[Y.out b (Z e)];exact e)
 .rw[cU (Z e)];exact un.cts b qs (by rw[Y.out b (Z e)];exact e)
 .by_cases L:cg X b
  .rw[oU L]at e;cases e
  .rw[cU L]at e
   have up:∀c u,H2 c=some u->(∀ob φ,u≠.frz ob (.ext φ))->j5 X H2 c=some u:=fun c u z hn=>by
    rw[cU]
    .exact z
    .intro hcc;obtain⟨o',_,_,h1,_⟩:=W hcc;rw[z]at h1;exact hn _ _ (qd4 h1)
   exact(hok b w e).stay (fun _ _ _ z=>z) (fun c z=>up c _ z fun _ _ y=>nomatch y) (fun c xs z=>up c _ z fun _ _ y=>nomatch y) fun c ob xs z=>up c _ z fun _ _ y=>nomatch y
 .obtain⟨o',h1,_,h2,_⟩:=W L;rw[h1,h2]
end
variable{l:List Dt}{vs:List V}
section
variable{K:xA9}{F H:Hp}{Q:VK}
def KO.int{i:Int}(k:KO K F H (.leaf (.int i)) Q)(q:Same F H):Q (.int i) H:=k.leaf.here q gp
def KO.bl{i:Bool}(k:KO K F H (.leaf (.bl i)) Q)(q:Same F H):Q (.bl i) H:=k.leaf.here q BP
def KO.str{i:Str}(k:KO K F H (.leaf (.str i)) Q)(q:Same F H):Q (.str i) H:=k.leaf.here q jc
theorem KO.tup{p:J9}(k:KO K F H (.leaf (.tup l)) Q)(q:Same F H)(r:Reps K F l vs)(hp:H p=none):Q (.ref p) (upd H p (.tup vs)):=by refine k.leaf _ _ _ (Step.new q hp) ?_;simp only[Rep];exact⟨p,vs,rfl,SqT.of bq,r.same (Same.upd (q.free hp))⟩
end
def j6(i j:Int):Bool:=(decide (-(2^64)<i)&&decide (i<2^64))||(decide (-(2^64)<j)&&decide (j<2^64))
theorem yK{i j:Int}(h:j6 i j=true):CMul i j:=by unfold j6 at h;simp only[qi7,qb2,decide_eq_true_eq]at h;exact h
theorem yL{i j:Int}(h1:-1000000000000000000<i)(h2:i<1000000000000000000):j6 i j=true:=by unfold j6;simp only[qi7,qb2,decide_eq_true_eq];left;lia
theorem yM{i j:Int}(h1:-1000000000000000000<j)(h2:j<1000000000000000000):j6 i j=true:=by unfold j6;simp only[qi7,qb2,decide_eq_true_eq];right;lia
def oV(i j:Int):Bool:=decide (0<=j)&&decide (j<=1000000)&&decide (i.natAbs<2^64)
theorem yN{i j:Int}(h:oV i j=true):Bp i j:=by unfold oV at h;simp only[qb2,decide_eq_true_eq]at h;exact⟨h.1.1,h.1.2,h.2⟩
noncomputable def aN:Dt->Dt->Option T
 |.int i,.int j=>some (.leaf (.int (i+j)))
 |.str a,.str b=>if a.length+b.length<=qb1 then some (.leaf (.str (a++b)))else none
 |.lst l,.lst m=>if l.length+m.length<=qb1 then some (.lst (l++m))else none
 |.tup l,.tup m=>if l.length+m.length<=qb1/\l≠[]/\m≠[]then some (.leaf (.tup (l++m)))else none
 |_,_=>none
def gJ:Dt->Dt->Option T
 |.int i,.int j=>some (.leaf (.int (i-j)))
 |_,_=>none
def eU:Dt->Dt->Option T
 |.int i,.int j=>if j6 i j then some (.leaf (.int (i*j)))else none
 |_,_=>none
def ck:Dt->Dt->Option T
 |.int i,.int j=>if 0<j then some (.leaf (.int (i%j)))else none
 |_,_=>none
def qj:Dt->Dt->Option T
 |.int i,.int j=>if oV i j then some (.leaf (.int (i^j.toNat)))else none
 |_,_=>none
def ix(f:Int->Int->Bool):Dt->Dt->Option T
 |.int i,.int j=>some (.leaf (.bl (f i j)))
 |_,_=>none
variable{K:xA9}{H F':Hp}{b:Bool}{v:V}{e:Jc}{p2:Pos}
section
variable{X:Cx}
theorem yO:OpR X (ql7 .Add) (fun x y H Q=>∃l b xs zs,x=.ref l/\y=.ref b/\SqL X.K H l xs/\SqL X.K H b zs/\xs.length+zs.length<=qb1/\∀p,H p=none->Q (.ref p) (upd H p (.lst (xs++zs)))):=by
 intro J1 s σ H x y v u Q I rx ry h;obtain⟨l,b,xs,zs,rfl,rfl,hH,hB,hz,q⟩:=h;cases rx;cases ry;obtain⟨J8,r,pl,_⟩:=I.list hH;obtain⟨L,r2,pl2,_⟩:=I.list hB;obtain⟨⟨cls,dd,data,sl⟩,n,ho,hc,hd0,hd⟩:=pl;obtain⟨⟨cls2,dd2,data2,Z⟩,n2,O,W,hd02,Y⟩:=pl2;simp only at hc hd W Y;subst hc hd W Y;have e:J8.toArray++L.toArray=(J8++L).toArray:=by simp
 refine qx2 ⟨_,ho,rfl⟩ ⟨_,O,rfl⟩ noFill_list_add seq_list_add PySem.F.slot_list_add PySem.F.entry_list_add (PySem.F.args_list_add_2 _ _) (list_addW l b J8.toArray L.toArray n n2 dd dd2 sl Z (by rw[qb6,qb6,<- r.length,<- r2.length];exact hz)) ⟨ho,O,?_⟩;rw[e];exact⟨.ref _,_,I.lnew (t':=s.toks) (r.append r2) (by rw[qb7];exact hz),rfl,q _ I.fresh⟩
noncomputable abbrev mz(K:xA9):R2:=fun x y H Q=>(rI0 (fun i j=>.int (i+j)) x y H Q)∨(∃i j,x=.str i/\y=.str j/\i.length+j.length<=qb1/\Q (.str (i++j)) H)∨(∃l b xs zs,x=.ref l/\y=.ref b/\SqL K H l xs/\SqL K H b zs/\xs.length+zs.length<=qb1/\∀p,H p=none->Q (.ref p) (upd H p (.lst (xs++zs))))∨Af K x y H Q
def aJ:OpR X (ql7 .Add) (mz X.K):=OpR.or Bq (OpR.or p9 (OpR.or yO yu))
def bv:R2D K (mz K) aN:=by
 intro F H x y vx vy Q t O Y Z q k;unfold aN at q;split at q<;>first|(cases q;done)|skip
 .cases q;cases Y;cases Z;exact .inl ⟨_,_,rfl,rfl,k.int O⟩
 .split at q
  .cases q;cases Y;cases Z;exact .inr (.inl ⟨_,_,rfl,rfl,by assumption,k.str O⟩)
  .cases q
 .split at q
  .rename_i W;cases q;obtain⟨a,vs,rfl,h1,h2⟩:=Y;obtain⟨b,ws,rfl,h3,L⟩:=Z;exact .inr (.inr (.inl ⟨a,b,vs,ws,rfl,rfl,h1,h3,by rw[h2.length,L.length];exact W,fun p hp=>gq k O (h2.append L) hp⟩))
  .cases q
 .split at q
  .rename_i W;cases q;obtain⟨a,vs,rfl,h1,h2⟩:=Y;obtain⟨b,ws,rfl,h3,L⟩:=Z;obtain⟨W,n1,n2⟩:=W;refine .inr (.inr (.inr ⟨a,b,vs,ws,rfl,rfl,O.tup h1,O.tup h3,fun z=>?_,by rw[h2.length,L.length];exact W,fun z=>?_,fun _ p hp=>k.tup O (h2.append L) hp⟩))
   .subst z;have:=h2.length;exact n1 (qu4 this.symm)
   .subst z;have:=L.length;exact absurd (qu4 this.symm) n2
  .cases q
def mB:R2D K (rI0 fun i j=>.int (i-j)) gJ:=by
 intro F H x y Y Z Q t L O W q k;unfold gJ at q;split at q<;>first|(cases q;done)|skip
 cases q;cases O;cases W;exact⟨_,_,rfl,rfl,k.int L⟩
def f6:R2D K (rI CMul fun i j=>.int (i*j)) eU:=by
 intro F H x y Y Z Q t L O W q k;unfold eU at q;split at q<;>first|(cases q;done)|skip
 split at q
 .cases q;cases O;cases W;exact⟨_,_,rfl,rfl,yK (by assumption),k.int L⟩
 .cases q
def cV:R2D K (rI (fun _ j=>0<j) fun i j=>.int (i%j)) ck:=by
 intro F H x y Z Y Q t L O W q k;unfold ck at q;split at q<;>first|(cases q;done)|skip
 split at q
 .cases q;cases O;cases W;exact⟨_,_,rfl,rfl,by assumption,k.int L⟩
 .cases q
def Am:R2D K (rI Bp fun i j=>.int (i^j.toNat)) qj:=by
 intro F H x y Y Z Q t L O W q k;unfold qj at q;split at q<;>first|(cases q;done)|skip
 split at q
 .cases q;cases O;cases W;exact⟨_,_,rfl,rfl,yN (by assumption),k.int L⟩
 .cases q
def iz{f:Int->Int->Bool}:R2D K (rI0 fun i j=>.bl (f i j)) (ix f):=by
 intro F H x y Z Y Q t L O W q k;unfold ix at q;split at q<;>first|(cases q;done)|skip
 cases q;cases O;cases W;exact⟨_,_,rfl,rfl,k.bl L⟩
noncomputable def eqD:Dt->Dt->Option Bool
 |.non,.non=>some true
 |.non,.int _=>some false
 |.non,.bl _=>some false
 |.non,.str _=>some false
 |.int _,.non=>some false
 |.bl _,.non=>some false
 |.str _,.non=>some false
 |.int i,.int j=>some (decide (i=j))
 |.bl i,.bl j=>some (decide (i=j))
 |.str i,.str j=>some (decide (i=j))
 |.int _,.str _=>some false
 |.str _,.int _=>some false
 |.bl _,.str _=>some false
 |.str _,.bl _=>some false
 |.tup l,.tup m=>if cmpbs l m&&decide (deeps l<=59)then some (peqs l m)else none
 |.lst l,.lst m=>if cmpbs l m&&decide (deeps l<=59)then some (peqs l m)else none
 |_,_=>none
def gEq(neg:Bool)(x y:Dt):Option T:=(eqD x y).map fun b=>.leaf (.bl (if neg then !b else b))
abbrev rEqA(K:xA9):R2:=fun x y H Q=>rEq x y H Q∨yF K false x y H Q
abbrev rNeA(K:xA9):R2:=fun x y H Q=>rNe x y H Q∨yF K true x y H Q
def bW{k:Nat}(q:Room k X.A):OpR X (qh0 .Eq) (rEqA X.K):=OpR.or Dq (BN q rfl)
def k8{k:Nat}(q:Room k X.A):OpR X (qh0 .NotEq) (rNeA X.K):=OpR.or Dr (BO q rfl)
theorem vQ {F:Hp} {x y:Dt} {O L:V} (Z:Same F H) (W:RepB K F H x O) (Y:RepB K F H y L) (h:eqD x y=some b) :
  (Bs O L=true/\b=decide (O=L))∨(((∃l m,x=.tup l/\y=.tup m)∨∃l m,x=.lst l/\y=.lst m)/\eR x y=true/\gn x<=60/\b=peq x y):=by
 unfold eqD at h
 split at h<;>first
  |(cases h;done)
  |(cases h;cases W;cases Y;left;refine⟨rfl,?_⟩;simp;done)
  |skip
 .right;split at h
  .rename_i q;simp only[qb2,decide_eq_true_eq]at q;cases h;exact⟨.inl ⟨_,_,rfl,rfl⟩,by simp only[eR];exact q.1,by simp only[gn];lia,by simp only[peq]⟩
  .cases h
 .right;split at h
  .rename_i q;simp only[qb2,decide_eq_true_eq]at q;cases h;exact⟨.inr ⟨_,_,rfl,rfl⟩,by simp only[eR];exact q.1,by simp only[gn];lia,by simp only[peq]⟩
  .cases h
def ev:R2D K (rEqA K) (gEq false):=by
 intro F H x y vx Z Q t q O W L k;unfold gEq at L;obtain⟨b,Y,L⟩:=mS L;cases L;have kk:Q (.bl b) H:=k.bl q;rcases vQ q O W Y with ⟨h1,rfl⟩|⟨h1,h2,h3,rfl⟩
 .exact .inl ⟨h1,kk⟩
 .exact .inr ⟨x,y,h1,O.rep q,W.rep q,h2,h3,kk⟩
def vR:R2D K (rNeA K) (gEq true):=by
 intro F H x y vx Z Q t q O W L k;unfold gEq at L;obtain⟨b,Y,L⟩:=mS L;cases L;have kk:Q (.bl (!b)) H:=k.bl q;rcases vQ q O W Y with ⟨h1,rfl⟩|⟨h1,h2,h3,rfl⟩
 .exact .inl ⟨h1,kk⟩
 .exact .inr ⟨x,y,h1,O.rep q,W.rep q,h2,h3,kk⟩
def g8:Dt->Bool
 |.non=>true
 |_=>false
def gIs(neg:Bool)(x y:Dt):Option T:=match y with
 |.non=>some (.leaf (.bl (if neg then !g8 x else g8 x)))
 |_=>none
def oW{F:Hp}{x:Dt}(r:RepB K F H x v):g8 x=decide (v=.non):=by
 cases x<;>first
  |(cases r;rfl)
  |(obtain⟨a,vs,rfl,_⟩:=r;rfl)
  |(simp only[RepB,Rep]at r;obtain⟨a,C,dx,fs,rfl,_⟩:=r;rfl)
def vS:R2D K (fun x y H Q=>y=.non/\Q (.bl (decide (x=.non))) H) (gIs false):=by
 intro F H x y Z Y Q t L O W q k;cases y<;>first|cases q;done|skip
 cases q;cases W;refine⟨rfl,?_⟩;rw[<- oW O];exact k.bl L
def nI:R2D K (fun x y H Q=>y=.non/\Q (.bl (!decide (x=.non))) H) (gIs true):=by
 intro F H x y Z Y Q t L O W q k;cases y<;>first|cases q;done|skip
 cases q;cases W;refine⟨rfl,?_⟩;rw[<- oW O];exact k.bl L
def c8:Dt->Bool
 |.non=>true
 |.bl _=>true
 |.int _=>true
 |.str _=>true
 |_=>false
def eqF:Dt->Dt->Bool
 |.non,.non=>true
 |.bl a,.bl b=>a==b
 |.bl a,.int b=>(if a then 1 else 0)==b
 |.int a,.bl b=>a==(if b then 1 else 0)
 |.int a,.int b=>a==b
 |.str a,.str b=>a==b
 |_,_=>false
def inS(j i:Str):Bool:=!(qr4 j i 0 j.length 1).isEmpty
def inD:Dt->Dt->Option Bool
 |.str i,.str j=>some (inS j i)
 |x,.lst l=>if c8 x&&l.all c8 then some (l.any fun y=>eqF y x)else none
 |x,.tup l=>if c8 x&&l.all c8 then some (l.any fun y=>eqF y x)else none
 |_,_=>none
def gIn(neg:Bool)(x y:Dt):Option T:=(inD x y).map fun b=>.leaf (.bl (if neg then !b else b))
def nJ{F:Hp}{d:Dt}(r:Rep K F d v)(h:c8 d=true):iy v=true:=by
 cases d<;>simp only[Rep]at r<;>first
  |(subst r;rfl)
  |cases h
theorem BT{F:Hp}{d e:Dt}{w:V}(r:Rep K F d v)(q:Rep K F' e w)(h:c8 d=true)(h':c8 e=true):eqF d e=eqV v w:=by
 cases d<;>first|cases h;done|skip
 all_goals cases e<;>first|cases h';done|skip
 all_goals simp only[Rep]at r q;subst r q;rfl
def k9{F:Hp}:∀{l:List Dt}{vs:List V},Reps K F l vs->l.all c8=true->vs.all iy=true
 |[],vs,r,_=>by simp only[Reps]at r;subst r;rfl
 |d::l,vs,r,h=>by simp only[Reps]at r;obtain⟨v,q,rfl,h1,h2⟩:=r;rw[qk1,qb2]at h ⊢;exact⟨nJ h1 h.1,k9 h2 h.2⟩
theorem qk{F:Hp}{x:Dt}{w:V}(q:Rep K F' x w)(L:c8 x=true):∀{l:List Dt}{vs:List V},Reps K F l vs->l.all c8=true->(l.any fun y=>eqF y x)=inV w vs
 |[],vs,r,_=>by simp only[Reps]at r;subst r;rfl
 |d::l,vs,r,h=>by simp only[Reps]at r;obtain⟨v,O,rfl,h1,h2⟩:=r;rw[qk1,qb2]at h;unfold inV;rw[qk2,qk2,BT h1 q h.1 L,qk q L h2 h.2];rfl
abbrev vT(K:xA9)(neg:Bool):R2:=fun x y H Q=>(∃i j,x=.str i/\y=.str j/\Q (.bl (if neg then !inS j i else inS j i)) H)∨rIn K neg x y H Q
def vU:OpR X (qh0 .In) (vT X.K false):=OpR.or tG tK
def t7:OpR X (qh0 .NotIn) (vT X.K true):=OpR.or nz ny
def r_in(neg:Bool):R2D K (vT K neg) (gIn neg):=by
 intro F H x y vx vy Q t W Z ry Y k;unfold gIn at Y;obtain⟨b,O,Y⟩:=mS Y;cases Y;have kk:=k.bl W;unfold inD at O;split at O<;>first|(cases O;done)|skip
 .cases O;cases Z;cases ry;exact .inl ⟨_,_,rfl,rfl,kk⟩
 .split at O
  .rename_i q;rw[qb2]at q;cases O;obtain⟨a,vs,rfl,h1,h2⟩:=ry;have L:=Z.rep W;rw[qk L q.1 h2 q.2]at kk;exact .inr ⟨a,vs,rfl,.inl h1,nJ L q.1,k9 h2 q.2,kk⟩
  .cases O
 .split at O
  .rename_i q;rw[qb2]at q;cases O;obtain⟨a,vs,rfl,h1,h2⟩:=ry;have L:=Z.rep W;rw[qk L q.1 h2 q.2]at kk;exact .inr ⟨a,vs,rfl,.inr (W.tup h1),nJ L q.1,k9 h2 q.2,kk⟩
  .cases O
theorem oX{F:Hp}{i:Int}{d:Dt}(r:Reps K F l vs)(h:atI l i=some d):∃v,atI vs i=some v/\Rep K F d v:=by unfold atI at h ⊢;rw[r.length];obtain⟨j,L,h⟩:=bS h;obtain⟨v,e,q⟩:=r.get h;exact⟨v,by rw[L];exact e,q⟩
def gIx:Dt->Dt->Option T
 |.lst l,.int i=>(atI l i).map .leaf
 |.tup l,.int i=>(atI l i).map .leaf
 |.str x,.int i=>if x.length<=qb1 then(atI x.cps.toList i).map fun c=>.leaf (.str ⟨#[c]⟩)else none
 |_,_=>none
def r_ix:R2D K (rIx K) gIx:=by
 intro F H x y vx vy Q t L Y Z q k;unfold gIx at q;split at q<;>first|(cases q;done)|skip
 .obtain⟨d,W,q⟩:=mS q;cases q;cases Z;obtain⟨a,vs,rfl,h1,h2⟩:=Y;obtain⟨v,e,O⟩:=oX h2 W;exact .inl ⟨a,vs,_,v,rfl,rfl,h1,e,k.leaf.here L O⟩
 .obtain⟨d,W,q⟩:=mS q;cases q;cases Z;obtain⟨a,vs,rfl,h1,h2⟩:=Y;obtain⟨v,e,O⟩:=oX h2 W;exact .inr (.inl ⟨a,vs,_,v,rfl,rfl,L.tup h1,e,k.leaf.here L O⟩)
 .split at q
  .rename_i hl;obtain⟨c,hc,q⟩:=mS q;cases q;cases Y;cases Z;exact .inr (.inr ⟨_,_,c,rfl,rfl,hl,hc,k.str L⟩)
  .cases q
variable{a b c:Jc}{fa fb fc:De->Option Dt}{pos:Pos}
def kr(l:List Dt)(lo hi:Option Int):List Dt:=(l.drop (HT.sIx l.length 0 lo)).take (HT.sIx l.length l.length hi-HT.sIx l.length 0 lo)
noncomputable def gSl:Dt->Option Int->Option Int->Option T
 |.str x,lo,hi=>if x.length<=qb1 then some (.leaf (.str (Txt.slice x lo hi)))else none
 |.lst l,lo,hi=>some (.lst (kr l lo hi))
 |.tup l,lo,hi=>if HT.sIx l.length 0 lo=0/\HT.sIx l.length l.length hi=l.length then none else some (.leaf (.tup (kr l lo hi)))
 |_,_,_=>none
abbrev BU(K:xA9):V->Option Int->Option Int->Hp->VK->Prop:=fun x lo hi H Q=>rSlS x lo hi H Q∨rSlL K x lo hi H Q∨rSlT K x lo hi H Q
def vV:SlR X (BU X.K):=SlR.or BG (SlR.or yw Bz)
theorem oY{F:Hp}(r:Reps K F l vs)(lo hi:Option Int):Reps K F (kr l lo hi) (oJ vs lo hi):=by unfold kr oJ;rw[r.length];exact(r.drop _).take _
theorem BV{F:Hp}{x:Dt}{lo hi:Option Int}{Q:VK}{t:T}(L:Same F H)(O:RepB K F H x v)(q:gSl x lo hi=some t)(k:KO K F H t Q):BU K v lo hi H Q:=by
 unfold gSl at q;split at q<;>first|(cases q;done)|skip
 .split at q
  .cases q;cases O;exact .inl ⟨_,rfl,by assumption,k.str L⟩
  .cases q
 .obtain⟨a,vs,rfl,h1,h2⟩:=O;cases q;exact .inr (.inl ⟨a,vs,rfl,h1,fun p hp=>gq k L (oY h2 _ _) hp⟩)
 .obtain⟨a,vs,rfl,h1,h2⟩:=O;split at q
  .cases q
  .rename_i W;cases q;rw[<- h2.length]at W;exact .inr (.inr ⟨a,vs,rfl,L.tup h1,W,fun p hp=>k.tup L (oY h2 _ _) hp⟩)
def tOD(K:xA9)(f:De->Option (Option Int)):TO:=fun σ H Q=>∃ Φ δ F d,Fm.K Φ=K/\En Φ δ σ F H/\f δ=some d/\∀H' F',Step F H F' H'->Q d H'
def dY:De->Option (Option Int):=fun _=>some none
def asI:Dt->Option Int
 |.int i=>some i
 |_=>none
def c9(f:De->Option Dt):De->Option (Option Int):=fun δ=>(f δ).bind fun d=>(asI d).map some
def je{F:Hp}{x:Dt}{b:Int}(h:asI x=some b)(r:RepB K F H x v):v=.int b:=by
 cases x<;>first|cases h;done|skip
 cases h;exact r
def DP(X:Cx)(e:Option Jc)(f:De->Option (Option Int)):Prop:=PO X e (tOD X.K f)
theorem fM:DP X none dY:=fun J1 s σ H Q I h=>yr J1 s σ H Q I (by obtain⟨Φ,δ,F,d,O,L,q,k⟩:=h;cases q;exact k H F (Step.refl L.fh))
theorem dB{f:De->Option Dt}(h:DB X e f):DP X (some e) (c9 f):=fun J1 s σ H Q I q=>yt h J1 s σ H Q I (by obtain⟨Φ,δ,F,d,O,W,L,k⟩:=q;unfold c9 at L;obtain⟨x,Y,L⟩:=bS L;obtain⟨i,hi,L⟩:=mS L;cases L;exact⟨Φ,δ,F,x,O,W,Y,fun v H' F' st r=>⟨i,je hi r,k H' F' st⟩⟩)
def vSl(fa:De->Option Dt)(L q:De->Option (Option Int)):De->Option T:=fun δ=>(fa δ).bind fun x=>(L δ).bind fun l=>(q δ).bind fun h=>gSl x l h
theorem eV{lo hi:Option Jc}{f:De->Option Dt}{fl fh:De->Option (Option Int)}(he:DB X e f)(Y:DP X lo fl)(hh:DP X hi fh):DO X (.Subscript e (.Slice lo hi none p2) pos) (vSl f fl fh):=PE.mono (oI vV he Y hh) fun σ H Q ⟨Φ,δ,F,t,W,Z,q,k⟩=>by unfold vSl at q;obtain⟨x,hx,q⟩:=bS q;obtain⟨l,Y,q⟩:=bS q;obtain⟨h,hh,q⟩:=bS q;exact⟨Φ,δ,F,x,W,Z,hx,fun v H1 F1 s1 r1=>⟨Φ,δ,F1,l,W,Z.step s1,Y,fun H2 F2 L=>⟨Φ,δ,F2,h,W,Z.step (s1.trans L),hh,fun H3 F3 O=>BV O.fh (r1.step (L.ff.trans O.ff) (L.hh.trans O.hh)) q (k.step ((s1.trans L).trans O))⟩⟩⟩
def lb(f:De->Option Dt):De->Option T:=fun δ=>(f δ).bind fun d=>(asI d).map fun i=>.leaf (.int (-i))
theorem jJ(h:DB X a fa):DO X (.UnaryOp .USub a pos) (lb fa):=PE.mono (Dp Br h) fun σ H Q ⟨Φ,δ,F,t,L,O,q,k⟩=>by unfold lb at q;obtain⟨x,W,q⟩:=bS q;obtain⟨i,hi,q⟩:=mS q;cases q;exact⟨Φ,δ,F,x,L,O,W,fun v H' F' st r=>⟨i,je hi r,(k.step st).int st.fh⟩⟩
def cS:List Dt->Option T
 |[.str x]=>if x.length<=qb1 then some (.leaf (.int x.length))else none
 |[.tup l]=>some (.leaf (.int l.length))
 |[.lst l]=>some (.leaf (.int l.length))
 |_=>none
theorem fP{F:Hp}{d:Dt}(r:oT K F H [d] vs):∃v,vs=[v]/\RepB K F H d v:=by obtain⟨v,q,rfl,h1,h2⟩:=r;cases h2;exact⟨v,rfl,h1⟩
def dm:CRD K (fun xs H Q=>∃x n,xs=[x]/\LenV K x H n/\Q (.int n) H) cS:=by
 intro F H ds vs Q t O r q k;unfold cS at q;split at q<;>first|(cases q;done)|skip
 .split at q
  .rename_i W;cases q;obtain⟨v,rfl,L⟩:=fP r;cases L;exact⟨_,_,rfl,⟨W,rfl⟩,k.int O⟩
  .cases q
 .cases q;obtain⟨v,rfl,L⟩:=fP r;obtain⟨a,vs,rfl,h1,h2⟩:=L;rw[<- h2.length]at k;exact⟨_,_,rfl,.inr ⟨vs,O.tup h1,rfl⟩,k.int O⟩
 .cases q;obtain⟨v,rfl,L⟩:=fP r;obtain⟨a,vs,rfl,h1,h2⟩:=L;rw[<- h2.length]at k;exact⟨_,_,rfl,.inl ⟨vs,h1,rfl⟩,k.int O⟩
def mC:List Dt->Option (List Bool)
 |[]=>some []
 |.bl b::r=>(mC r).map (b::·)
 |_=>none
theorem oZ{F:Hp}:∀{l:List Dt}{vs:List V}{bs:List Bool},Reps K F l vs->mC l=some bs->vs=bs.map V.bl
 |[],vs,bs,r,h=>by cases h;simp only[Reps]at r;exact r
 |d::l,vs,bs,r,h=>by
  cases d<;>first|cases h;done|skip
  simp only[mC]at h;obtain⟨cs,L,h⟩:=mS h;cases h;simp only[Reps,Rep]at r;obtain⟨v,O,rfl,rfl,q⟩:=r;rw[oZ q L];rfl
def yP(f:List Bool->Bool):List Dt->Option T
 |[.lst l]=>(mC l).map fun bs=>.leaf (.bl (f bs))
 |_=>none
theorem DR{f:List Bool->Bool}:CRD K (fun xs H Q=>∃(a:J9)(bs:List Bool),xs=[.ref a]/\SqL K H a (bs.map V.bl)/\Q (.bl (f bs)) H) (yP f):=by
 intro F H ds vs Q t O r q k;unfold yP at q;split at q<;>first|(cases q;done)|skip
 obtain⟨bs,W,q⟩:=mS q;cases q;obtain⟨v,rfl,L⟩:=fP r;obtain⟨a,vs,rfl,h1,h2⟩:=L;have:=oZ h2 W;subst this;exact⟨a,bs,rfl,h1,k.bl O⟩
def cy:List Dt->Option T
 |[.lst l]=>some (.leaf (.tup l))
 |[.tup l]=>some (.leaf (.tup l))
 |_=>none
theorem dD:CRD K (fun xs H Q=>∃p ys,xs=[.ref p]/\((SqL K H p ys/\∀l,H l=none->Q (.ref l) (upd H l (.tup ys)))∨(SqT K H p ys/\Q (.ref p) H))) cy:=by
 intro F H ds vs Q t O r q k;unfold cy at q;split at q<;>first|(cases q;done)|skip
 .cases q;obtain⟨v,rfl,L⟩:=fP r;obtain⟨a,vs,rfl,h1,h2⟩:=L;exact⟨a,vs,rfl,.inl ⟨h1,fun p hp=>k.tup O h2 hp⟩⟩
 .cases q;obtain⟨v,rfl,L⟩:=fP r;rename_i l;have W:Rep K F (.tup l) v:=by simp only[Rep];exact L
  obtain⟨a,vs,rfl,h1,h2⟩:=L;exact⟨a,vs,rfl,.inr ⟨O.tup h1,k.leaf.here O W⟩⟩
end
variable{mg:Str->Option Value}{J1:List (J9×Obj)}{σ:St}{s:qa4}{A:qd5}{E Q:Value->qa4->Prop}{p1 pos':Pos}{Φ:Fm}{δ:De}{N:List Str}
section
variable{X:Cx}{o a b e c:Jc}{es:List Jc}{fa fb fo fe:De->Option Dt}{fs:De->Option (List Dt)}{pos apos cpos p:Pos}{x:Str}{sc:Jd}{i:Nat}
def j7(K:xA9)(mg:Str->Option Value)(x:Str)(d:Dt):Prop:=∃v,(∃u,mg x=some u/\RelV v u)/\∀F,Rep K F d v
theorem eO{d:Dt}(h:aD sc x=true)(q:j7 X.K X.mg x d)(e1:cW X sc:=by rfl):DL X (.Name x pos) (kD d):=by obtain⟨v,h1,h2⟩:=q;exact vF (k5 h h1 e1) h2
def jf{i:Str}(h:∃u,mg x=some u/\RelV (.str i) u):j7 K mg x (.str i):=⟨_,h,fun _=>jc⟩
def o0:Dt->Bool
 |_=>false
def tyD:Dt->String
 |.non=>"NoneType"
 |.bl _=>"bool"
 |.int _=>"int"
 |.str _=>"str"
 |.tup _=>"tuple"
 |.lst _=>"list"
 |.dct _ _=>"dict"
 |.dcT _ _=>"dict"
def An(c:String):Dt->Bool
 |.non=>c=="NoneType"
 |.bl _=>c=="bool"||c=="int"
 |.int _=>c=="int"
 |.str _=>c=="str"
 |.tup _=>c=="tuple"
 |.lst _=>c=="list"
 |.dct _ _=>c=="dict"
 |.dcT _ _=>c=="dict"
theorem ql {c:Value} {b:Bool} {d:Dt} (I:Inv X J1 σ H s) (q:RelV v u) (r:Rep X.K H d v) (hi:o0 d=false) (e:xL9 X.K (.type (tyD d)) c=some b) (h:∀ tk,Q (.bool b) {s with toks:=tk}) :
  wpAny (model X.prog X.w) A (call (.builtin "isinstance") [u,c]) Q E s:=by
 cases d with
 |non=>simp only[Rep]at r;subst r;exact ic I q .non e h
 |bl y=>simp only[Rep]at r;subst r;exact ic I q (.bl y) e h
 |int y=>simp only[Rep]at r;subst r;exact ic I q (.int y) e h
 |str y=>simp only[Rep]at r;subst r;exact ic I q (.str y) e h
 |tup l=>simp only[Rep]at r;obtain⟨a,vs,rfl,h1,h2⟩:=r;cases q;obtain⟨J8,_,Y,_⟩:=I.tuple h1;obtain⟨o,L,O,_⟩:=Y;exact xD9 PySem.W.kitx_tuple I.kIn ⟨o,L,O⟩ e (fun z=>nomatch z) h
 |lst l=>simp only[Rep]at r;obtain⟨a,vs,rfl,h1,h2⟩:=r;cases q;obtain⟨J8,_,Y,_⟩:=I.list h1;obtain⟨o,n,L,O,_⟩:=Y;exact xD9 xQ9 I.kIn ⟨o,L,O⟩ e (fun z=>nomatch z) h
 |dct ks l=>simp only[Rep]at r;obtain⟨a,J6,rfl,h1,_⟩:=r;cases q;obtain⟨_,_,vs,_,p⟩:=mi I.hok h1;obtain⟨o,es,ep,L,O,_⟩:=p;exact xD9 xM9 I.kIn ⟨o,L,O.1⟩ e (fun z=>nomatch z) h
 |dcT ks l=>simp only[Rep]at r;obtain⟨a,J6,rfl,h1,_⟩:=r;cases q;obtain⟨_,_,xs,_,o,es,ep,L,O,_⟩:=(show ObjOk X.prog X.w H s.heap a (.dT J6)from h1.ok I.hok);exact xD9 xM9 I.kIn ⟨o,L,O.1⟩ e (fun z=>nomatch z) h
def qm(K:xA9)(c:String):Prop:=∀d:Dt,o0 d=false->xL9 K (.type (tyD d)) (.type c)=some (An c d)
theorem qo:fC X (.builtin "isinstance") (fun xs H Q=>∃v c d b,xs=[v,.ty c]/\Rep X.K H d v/\o0 d=false/\xL9 X.K (.type (tyD d)) (.type c)=some b/\Q (.bl b) H):=by intro J1 s σ H xs us Q I r h;obtain⟨v,c,d,b,rfl,rd,hi,e,q⟩:=h;obtain⟨u,Y,rfl,O,L⟩:=Dv r;cases L;exact ql I O rd hi e fun tk=>⟨.bl b,H,I.tok _,rfl,q⟩
def vW(c:String)(f:De->Option Dt):De->Option T:=fun δ=>(f δ).bind fun d=>if o0 d then none else some (.leaf (.bl (An c d)))
theorem t8{q:Str}{cs:String}(h:aD sc "isinstance"=true)(Y:aD sc q=true)(hm:X.mg "isinstance"=none)(O:X.mg q=none)(hv:qf2 q=some (.type cs))(hk:qm X.K cs)(ha:DB X a fa)(e1:cW X sc:=by rfl)
 (he:qb0 [a,.Name q p2] X.env=(false,eval a X.env)::qb0 [.Name q p2] X.env:=by rfl) (Z:qb0 [.Name q p2] X.env=(false,eval (.Name q p2) X.env)::qb0 [] X.env:=by rfl) (W:(ql0 pos (qb0 [.Name q p2] X.env)).any (·.1)=false:=by rfl) :
  DO X (.Call (.Name "isinstance" p1) [a,.Name q p2] [] pos) (vW cs fa):=
 PE.mono (jI h qo hm l4 (dM ha (dM (vD (v:=.ty cs) Y O hv rfl e1) gU Z) he) e1 he W) fun σ H Q ⟨Φ,δ,F,t,hK,en,L,k⟩=>by
  unfold vW at L;obtain⟨d,hd,L⟩:=bS L;cases hi:o0 d with
  |true=>rw[hi]at L;cases L
  |false=>rw[hi]at L;cases L;exact⟨Φ,δ,F,d,hK,en,hd,fun v H' F' st r=>⟨v,cs,d,_,rfl,r.rep st.fh,hi,hk d hi,(k.step st).bl st.fh⟩⟩
def MRD(K:xA9)(r:V->List V->Hp->VK->Prop)(g:Dt->List Dt->Option T):Prop:=∀F H d v ds vs (Q:VK) t,Same F H->RepB K F H d v->oT K F H ds vs->g d ds=some t->KO K F H t Q->r v vs H Q
def j8(g:Dt->List Dt->Option T)(fo:De->Option Dt)(fs:De->Option (List Dt)):De->Option T:=fun δ=>(fo δ).bind fun d=>(fs δ).bind fun ds=>g d ds
def jK:List Dt->Option (List Str)
 |[]=>some []
 |.str b::r=>(jK r).map (b::·)
 |_=>none
theorem mD{F:Hp}:∀{l:List Dt}{vs:List V}{bs:List Str},Reps K F l vs->jK l=some bs->vs=bs.map V.str
 |[],vs,bs,r,h=>by cases h;simp only[Reps]at r;exact r
 |d::l,vs,bs,r,h=>by
  cases d<;>first|cases h;done|skip
  simp only[jK]at h;obtain⟨cs,L,h⟩:=mS h;cases h;simp only[Reps,Rep]at r;obtain⟨v,O,rfl,rfl,q⟩:=r;rw[mD q L];rfl
def z11(i:Nat)(f:De->Option Dt):De->Option Out:=fun δ=>match δ[i]? with
 |some (some (.lst l))=>(f δ).bind fun d=>if l.length<qb1 then some (.nx (δ.set i (some (.lst (l++[d])))))else none
 |_=>none
theorem En.ownL{F:Hp}(q:En Φ δ σ F H)(h:δ[i]?=some (some (.lst l))):∃a vs,σ[i]?=some (some (.ref a))/\H a=some (.lst vs)/\Reps Φ.K F l vs:=by obtain⟨v,L⟩:=q.has i _ h;obtain⟨S,s⟩:=q.sep;obtain⟨a,vs,rfl,_,h1,h2⟩:=s.own i _ v (cL h L);exact⟨a,vs,L,h1,h2⟩
def bX (hx:PE X o (iW i)) (he:DL X e fe)
  (O:za2 o "append" X.env (eval o X.env)=eval o X.env:=by rfl)
  (Y:((ql0 cpos (qb0 [e] X.env)).all (fun x=>!x.1)&&(backToKw cpos (zg0 [] X.env)).all (fun x=>x.1.isSome)
   && decide ([e].length+([]:List zd5).length+(if([]:List zd5).isEmpty then 0 else 1)<30))=true:=by rfl)
  (W:(apos.endLine==cpos.line)=true:=by rfl) (hs:qb0 [e] X.env=(false,eval e X.env)::qb0 [] X.env:=by rfl) (q:(ql0 cpos (qb0 [] X.env)).any (·.1)=false:=by rfl)
  (Z:qn7 (.Call (.Attribute o "append" apos) [e] [] cpos) none pos.line X.env=pure false:=by rfl) :
  DS1 X (.Expr (.Call (.Attribute o "append" apos) [e] [] cpos) pos) (z11 i fe):=
 PS.mono (re (vh PySem.F.plainAttrs_list PySem.F.slot_list_append PySem.F.type_list_append jF hx (dM he gU hs) O Y W hs q) Z) fun D σ H ⟨Φ,δ,F,ot,hK,en,L,k⟩=>by
  unfold z11 at L;split at L<;>first|cases L;done|skip
  rename_i l hl;obtain⟨d,hd,L⟩:=bS L;split at L<;>first|cases L;done|skip
  rename_i hz;cases L;obtain⟨a,vs,hv,h1,h2⟩:=en.ownL hl;refine⟨.ref a,hv,.inl ⟨rfl,vs,.inl (.inl h1)⟩,Φ,δ,F,d,hK,en,hd,fun v H1 F1 st rv=>?_⟩;have en1:=en.step st;have h1':=st.hh _ _ h1;refine⟨a,vs,v,rfl,rfl,h1',by rw[h2.length];exact hz,?_⟩;refine k σ F1 _ (en1.poke hl hv rfl fun S sa=>⟨a,vs++[v],rfl,sa,bq,(h2.same st.ff).append (Reps.one (hK▸rv))⟩)
noncomputable def sPutL(i:Nat)(fk fe:De->Option Dt):De->Option Out:=fun δ=>(fe δ).bind fun d=>(fk δ).bind fun k=>match δ[i]?,k with
 |some (some (.lst l)),.int n=>(ixN l.length n).map fun j=>.nx (δ.set i (some (.lst (l.set j d))))
 |_,_=>none
theorem Reps.set{F:Hp}{d:Dt}(h:Rep K F d v):∀{l:List Dt}{vs:List V}(j:Nat),Reps K F l vs->Reps K F (l.set j d) (vs.set j v)
 |[],vs,j,r=>by simp only[Reps]at r;subst r;simp[Reps]
 |e::l,vs,0,r=>by simp only[Reps]at r;obtain⟨w,L,rfl,_,q⟩:=r;simp only[qr6,Reps];exact⟨v,L,rfl,h,q⟩
 |e::l,vs,j+1,r=>by simp only[Reps]at r;obtain⟨w,L,rfl,O,q⟩:=r;simp only[qr7,Reps];exact⟨w,_,rfl,O,Reps.set h j q⟩
def o4(f:Int->Int->Int)(i:Nat)(fe:De->Option Dt):De->Option Out:=fun δ=>match δ[i]? with
 |some (some (.leaf (.int n)))=>(fe δ).bind fun d=>(asI d).map fun m=>.nx (δ.set i (some (.leaf (.int (f n m)))))
 |_=>none
theorem BW{f:Int->Int->Int}{D:Ends}(h:tS K (o4 f i fe) D σ H):tAug i (tBd K fe) (ipI f) D σ H:=by
 obtain⟨Φ,δ,F,ot,W,L,q,k⟩:=h;unfold o4 at q;split at q<;>first|cases q;done|skip
 rename_i n hn;obtain⟨d,Z,q⟩:=bS q;obtain⟨m,Y,q⟩:=mS q;cases q;obtain⟨v,hv,O⟩:=L.leaf hn;simp only[Rep]at O;subst O;exact⟨_,hv,Φ,δ,F,d,W,L,Z,fun w H1 F1 st r=>⟨n,m,rfl,je Y r,k _ F1 H1 ((L.step st).name gp i)⟩⟩
theorem lc (h:de sc N i x=true) (L:jH sc x=true) (W:N.Nodup) (Z:DB X e fe) (e1:cW X sc:=by rfl) (Y:X.N=N:=by rfl) (O:X.fn x=true∨X.env.scope.names.lookup x=some .local:=by exact .inl rfl) :
  DS1 X (.AugAssign (.Name x pos') .Add e pos) (o4 (fun i j=>i+j) i fe):=by
 have e1:X.env.scope=sc:=e1;subst e1 Y;exact PS.mono (Bj W (iG h) (kY L) Z Bk O) fun D σ H q=>BW q
end
def dn{κ:Type}[DecidableEq κ]:List κ->List Dt->κ->Option Dt
 |k'::ks,d::l,k=>if k'=k then some d else dn ks l k
 |_,_,_=>none
theorem f7{κ:Type}[DecidableEq κ]{F:Hp}{k:κ}:∀{J6:List (κ×V)}{l:List Dt}{d:Dt},Reps K F l (J6.map (·.2))->dn (J6.map (·.1)) l k=some d->∃v,fV J6 k=some v/\Rep K F d v
 |[],l,d,r,h=>by cases l<;>cases h
 |p::J6,[],d,r,h=>by cases h
 |p::J6,e::l,d,r,h=>by
  simp only[qa5,Reps]at r;obtain⟨v,W,O,L,q⟩:=r;cases O;simp only[qa5,dn]at h;by_cases hk:p.1=k
  .rw[if_pos hk]at h;cases h;exact⟨p.2,i5 hk,L⟩
  .rw[if_neg hk]at h;rw[gY hk];exact f7 q h
theorem mE{κ:Type}[DecidableEq κ]{F:Hp}{k:κ}:∀{J6:List (κ×V)}{l:List Dt},Reps K F l (J6.map (·.2))->dn (J6.map (·.1)) l k=none->fV J6 k=none
 |[],l,r,h=>rfl
 |p::J6,[],r,h=>by simp only[qa5,Reps]at r;cases r
 |p::J6,e::l,r,h=>by
  simp only[qa5,Reps]at r;obtain⟨v,O,L,W,q⟩:=r;cases L;simp only[qa5,dn]at h;by_cases hk:p.1=k
  .rw[if_pos hk]at h;cases h
  .rw[if_neg hk]at h;rw[gY hk];exact mE q h
def o5:Dt->Option Key
 |.int i=>some (.inl i)
 |.str x=>some (.inr x)
 |_=>none
def ie{F:Hp}{d:Dt}{k:Key}(r:RepB K F H d v)(h:o5 d=some k):v=kV k:=by
 unfold o5 at h;split at h<;>first|(cases h;done)|skip
 .cases h;exact r
 .cases h;exact r
def au:Dt->Dt->Option T
 |.dct ks l,k=>(o5 k).bind fun k=>(dn ks l k).map .leaf
 |x,y=>gIx x y
section
variable{X:Cx}{o a b e c:Jc}{es:List Jc}{fa fb fo fe fk:De->Option Dt}{fs:De->Option (List Dt)}{pos apos cpos p:Pos}{x:Str}{sc:Jd}{i:Nat}
theorem ap{k:Nat}(hr:Room k X.A)(ha:DB X a fa)(hb:DB X b fb)(hs:rq b:=by exact fun _ _=>rfl)(hn:tQ b:=by exact fun _ _=>rfl):DO X (.Subscript a b pos) (d2 au fa fb):=
 PE.mono (PE.or (Dz BB ha hb hs) (rC (jZ hr) ha hb hn)) fun σ H Q ⟨Φ,δ,F,t,O,Y,q,k⟩=>by
  unfold d2 at q;obtain⟨x,hx,q⟩:=bS q;obtain⟨y,hy,q⟩:=bS q;unfold au at q;split at q
  .rename_i ks l _;obtain⟨kk,hk,q⟩:=bS q;obtain⟨d,hd,q⟩:=mS q;cases q;refine .inr ⟨Φ,δ,F,_,O,Y,hx,fun v H1 F1 st rv=>⟨Φ,δ,F1,y,O,Y.step st,hy,fun v2 H2 F2 L Z=>?_⟩⟩;obtain⟨ad,J6,rfl,h1,h2,h3⟩:=rv;subst h2;obtain⟨w,hw,W⟩:=f7 h3 hd;have:=ie Z hk;subst this;exact⟨ad,w,rfl,.inl ⟨J6,kk,L.hh.rd h1,rfl,hw.symm⟩,(k.step (st.trans L)).leaf.here L.fh (W.same L.ff)⟩
  .exact .inl (mt r_ix ⟨Φ,δ,F,t,O,Y,by unfold d2;rw[hx,hy];exact q,k⟩)
def cB(neg:Bool):Dt->Dt->Option T
 |k,.dct ks l=>(o5 k).map fun k=>.leaf (.bl (if neg then !(dn ks l k).isSome else(dn ks l k).isSome))
 |x,y=>gIn neg x y
theorem kA{κ:Type}[DecidableEq κ]{F:Hp}{k:κ}{J6:List (κ×V)}(r:Reps K F l (J6.map (·.2))):(dn (J6.map (·.1)) l k).isSome=(fV J6 k).isSome:=by
 cases h:dn (J6.map (·.1)) l k with
 |none=>rw[mE r h];rfl
 |some d=>obtain⟨v,e,_⟩:=f7 r h;rw[e];rfl
theorem Ao{Q:VK}(h:tO K (d2 (cB false) fa fb) σ H Q):tOp (vT K false) (tBd K fa) (tBd K fb) σ H Q∨tDIn (tBd K fa) (tBd K fb) σ H Q:=by
 obtain⟨Φ,δ,F,t,O,W,q,k⟩:=h;unfold d2 at q;obtain⟨x,hx,q⟩:=bS q;obtain⟨y,Z,q⟩:=bS q;unfold cB at q;split at q
 .rename_i ks l;obtain⟨kk,hk,q⟩:=mS q;cases q;refine .inr ⟨Φ,δ,F,x,O,W,hx,fun v H1 F1 st rv=>⟨Φ,δ,F1,_,O,W.step st,Z,fun v2 H2 F2 L Y=>?_⟩⟩;obtain⟨ad,J6,rfl,h1,h2,h3⟩:=Y;subst h2;have:=ie rv hk;subst this;refine⟨ad,_,rfl,.inl ⟨J6,kk,h1,rfl,rfl⟩,?_⟩;rw[<- kA h3];exact(k.step (st.trans L)).bl L.fh
 .exact .inl (mt (r_in false) ⟨Φ,δ,F,t,O,W,by unfold d2;rw[hx,Z];exact q,k⟩)
theorem vX{Q:VK}(h:tO K (d2 (cB true) fa fb) σ H Q):tOp (vT K true) (tBd K fa) (tBd K fb) σ H Q∨rB (tBd K fa) (tBd K fb) σ H Q:=by
 obtain⟨Φ,δ,F,t,O,W,q,k⟩:=h;unfold d2 at q;obtain⟨x,hx,q⟩:=bS q;obtain⟨y,Z,q⟩:=bS q;unfold cB at q;split at q
 .rename_i ks l;obtain⟨kk,hk,q⟩:=mS q;cases q;refine .inr ⟨Φ,δ,F,x,O,W,hx,fun v H1 F1 st rv=>⟨Φ,δ,F1,_,O,W.step st,Z,fun v2 H2 F2 L Y=>?_⟩⟩;obtain⟨ad,J6,rfl,h1,h2,h3⟩:=Y;subst h2;have:=ie rv hk;subst this;refine⟨ad,_,rfl,.inl ⟨J6,kk,h1,rfl,rfl⟩,?_⟩;rw[<- kA h3];exact(k.step (st.trans L)).bl L.fh
 .exact .inl (mt (r_in true) ⟨Φ,δ,F,t,O,W,by unfold d2;rw[hx,Z];exact q,k⟩)
theorem Ap{k:Nat}(W:Room k X.A)(q:DB X a fa)(O:DB X b fb)(L:qh7 .In b=false:=by with_unfolding_all rfl):DO X (.Compare a [.In] [b] pos) (d2 (cB false) fa fb):=PE.mono (PE.or (rl vU q O L) (Ba (vj (jZ W) q O) L)) fun σ H Q h=>Ao h
theorem PT.or{t t':TT}(h:PT X e t)(h':PT X e t'):PT X e (fun σ H Q=>t σ H Q∨t' σ H Q):=fun J1 s σ H Q I q=>q.elim (h J1 s σ H Q I) (h' J1 s σ H Q I)
theorem Aq{g:Dt->Dt->Option T}{Q:Bool->Hp->Prop}(h:tTr K (tB2 g fa fb) σ H Q):tO K (d2 g fa fb) σ H (fun v H'=>∃c,v=.bl c/\Q c H'):=by obtain⟨Φ,δ,F,t,L,O,q,k⟩:=h;unfold tB2 at q;obtain⟨z,W,q⟩:=bS q;exact⟨Φ,δ,F,z,L,O,W,fun v H' F' S st o Y=>⟨t,rK q o,k H' F' st⟩⟩
theorem iA{k:Nat}(W:Room k X.A)(q:DB X a fa)(O:DB X b fb)(L:qh7 .In b=false:=by with_unfolding_all rfl):DT X (.Compare a [.In] [b] pos) (tB2 (cB false) fa fb):=PT.mono (PT.or (nr vU q O L) (np (vj (jZ W) q O) L)) fun σ H Q h=>Ao (Aq h)
theorem eX{k:Nat}(W:Room k X.A)(q:DB X a fa)(O:DB X b fb)(L:qh7 .NotIn b=false:=by with_unfolding_all rfl):DT X (.Compare a [.NotIn] [b] pos) (tB2 (cB true) fa fb):=PT.mono (PT.or (nr t7 q O L) (np (mj (jZ W) q O) L)) fun σ H Q h=>vX (Aq h)
def Ar:De->Option T:=fun _=>some (.dct [])
def yQ:DO X (.Dict [] [] pos) Ar:=PE.mono vn fun σ H Q ⟨Φ,δ,F,t,O,q,L,k⟩=>by
 cases L;intro p hp;refine k _ _ F (fun b=>b=p) (Step.made q.fh hp) ⟨p,[],rfl,rfl,bq,rfl,by simp[Reps]⟩ fun b z=>?_
 subst z;exact⟨q.fh.free hp,hp,_,bq,nofun⟩
def iJ{κ:Type}[DecidableEq κ]:List (κ×Dt)->κ->Dt->List (κ×Dt)
 |[],k,d=>[(k,d)]
 |p::l,k,d=>if p.1=k then(p.1,d)::l else p::iJ l k d
noncomputable def nM(i:Nat)(fk fe:De->Option Dt):De->Option Out:=fun δ=>(fe δ).bind fun d=>(fk δ).bind fun k=>match δ[i]? with
 |some (some (.lst l))=>(asI k).bind fun n=>(ixN l.length n).map fun j=>.nx (δ.set i (some (.lst (l.set j d))))
 |some (some (.dct l))=>(o5 k).bind fun k=>if l.length<qb1/\(l.map (·.1)).Nodup then some (.nx (δ.set i (some (.dct (iJ l k d)))))else none
 |_=>none
theorem rR {κ:Type} [DecidableEq κ] (k:κ) (v:V):∀ (J6:List (κ×V)) (l:List (κ×Dt)) (d:Dt),(J6.map (·.1)).Nodup->J6.map (·.1)=l.map (·.1)->(gl J6 k v).map (·.1)=(iJ l k d).map (·.1)∧
  ∀(K:xA9)(F:Hp),Rep K F d v->Reps K F (l.map (·.2)) (J6.map (·.2))->Reps K F ((iJ l k d).map (·.2)) ((gl J6 k v).map (·.2)):=by
 have Y:∀(J6:List (κ×V)),(J6.map (·.1)).Nodup->gl J6 k v=match J6 with|[]=>[(k,v)]|p::r=>if p.1=k then(p.1,v)::r else p::gl r k v:=fun J6 O=>by
  cases J6 with
  |nil=>rfl
  |cons p r=>
   dsimp only;by_cases hp:p.1=k
   .rw[if_pos hp];unfold gl;rw[if_pos (by simp[hp])];simp only[qa5,if_pos hp];congr 1
    have hk:∀q∈r,¬ q.1=k:=fun q hq z=>by have:=(qi5.mp O).1;exact this (show p.1∈r.map (·.1)by rw[hp,<- z];exact List.mem_map_of_mem hq)
    exact(qw1 fun q hq=>if_neg (hk q hq)).trans (List.map_id' r)
   .rw[if_neg hp];unfold gl;have e:(p::r).any (fun kv=>decide (kv.1=k))=r.any fun kv=>decide (kv.1=k):=by simp[hp]
    rw[e];split
    .simp only[qa5,if_neg hp]
    .rfl
 intro J6;induction J6 with
 |nil=>
  intro l d O L;cases l with
  |nil=>exact⟨rfl,fun K F r _=>by simpa[iJ,gl] using Reps.one r⟩
  |cons q l=>cases L
 |cons p r ih=>
  intro l d O L;cases l with
  |nil=>cases L
  |cons q l=>
   simp only[qa5,List.cons.injEq]at L;have hn':=(qi5.mp O).2;rw[Y _ O];simp only[iJ];rw[<- L.1];by_cases hp:p.1=k
   .rw[if_pos hp,if_pos hp];refine⟨by simp[L.2],fun K F rd rs=>?_⟩;simp only[qa5,Reps]at rs ⊢;obtain⟨w,ws,hw,r1,Z⟩:=rs;cases hw;exact⟨_,_,rfl,rd,Z⟩
   .rw[if_neg hp,if_neg hp];obtain⟨i1,i2⟩:=ih l d hn' L.2;refine⟨by simp[L.1,i1],fun K F rd rs=>?_⟩;simp only[qa5,Reps]at rs ⊢;obtain⟨w,ws,hw,r1,Z⟩:=rs;cases hw;exact⟨_,_,rfl,r1,i2 K F rd Z⟩
theorem PS.or{e:Jb}{t t':TS}(h:PS X e t)(h':PS X e t'):PS X e (fun σ H Q=>t σ H Q∨t' σ H Q):=fun J1 s σ H Q I q=>q.elim (h J1 s σ H Q I) (h' J1 s σ H Q I)
theorem En.ownD{F:Hp}(q:En Φ δ σ F H){l:List (Key×Dt)}(h:δ[i]?=some (some (.dct l))):∃a J6,σ[i]?=some (some (.ref a))/\H a=some (.dK J6)/\J6.map (·.1)=l.map (·.1)/\Reps Φ.K F (l.map (·.2)) (J6.map (·.2)):=by obtain⟨v,L⟩:=q.has i _ h;obtain⟨S,s⟩:=q.sep;obtain⟨a,vs,rfl,_,h1,h2,h3⟩:=s.own i _ v (cL h L);exact⟨a,vs,L,h1,h2,h3⟩
theorem qp {k:Nat} {ox ik:Jc} (hr:Room k X.A) (hx:PE X ox (iW i)) (hk:DB X ik fk) (he:DL X e fe)
  (hs:qn7 e (some (.Subscript ox ik apos)) pos.line X.env=pure false:=by rfl)
  (hs1:zg7 [.Subscript ox ik apos] e pos.line X.env=pure false:=by rfl) (hw:zg8 [.Subscript ox ik apos] e X.env=pure none:=by rfl)
  (h1:(qm7 [.Subscript ox ik apos] X.env).map (·.2)=[zd3 (.Subscript ox ik apos) X.env]:=by rfl)
  (ha:∀v,zd3 (.Subscript ox ik apos) X.env v=(do
   let ov <- zd4 [v] (eval ox X.env);let iv <- zd4 [v,ov] (eval ik X.env)
   standAt apos
   zd4 [v,ov,iv] (setItem ov iv v)
   release [v,ov,iv] []):=by intro _;rfl):DS1 X (.Assign [.Subscript ox ik apos] e pos) (nM i fk fe):=
 PS.mono (PS.or (u2 he (Bh hx hk vf ha) hs1 hw h1) (rD (jZ hr) hx hk he hs)) fun D σ H ⟨Φ,δ,F,ot,Z,en,L,k⟩=>by
  unfold nM at L;obtain⟨d,hd,L⟩:=bS L;obtain⟨kd,hkd,L⟩:=bS L;split at L<;>first|(cases L;done)|skip
  .rename_i l hl;obtain⟨n,hn,L⟩:=bS L;obtain⟨j,hj,L⟩:=mS L;cases L;refine .inl ⟨Φ,δ,F,d,Z,en,hd,fun v H1 F1 st rv=>?_⟩;have O:=en.step st;obtain⟨a,vs,hv,h1,h2⟩:=O.ownL hl;refine⟨.ref a,hv,Φ,δ,F1,kd,Z,O,hkd,fun w H2 F2 q Y=>?_⟩;have W:=O.step q;refine⟨a,vs,n,j,rfl,je hn Y,q.hh _ _ h1,by rw[h2.length];exact hj,?_⟩;exact k σ F2 _ (W.poke hl hv rfl fun S sa=>⟨a,_,rfl,sa,bq,Reps.set (Z▸rv.same q.ff) j (h2.same q.ff)⟩)
  .rename_i l hl;obtain⟨kk,hkk,L⟩:=bS L;split at L<;>first|(cases L;done)|skip
   rename_i hc;cases L;refine .inr ⟨Φ,δ,F,d,Z,en,hd,fun v H1 F1 st rv=>?_⟩;have O:=en.step st;obtain⟨a,J6,hv,h1,h2,h3⟩:=O.ownD hl;refine⟨.ref a,hv,Φ,δ,F1,kd,Z,O,hkd,fun w H2 F2 q Y=>?_⟩;have W:=O.step q;have:=ie Y hkk;subst this;have hlen:J6.length=l.length:=by simpa using congrArg qq7 h2
   refine⟨a,_,rfl,.inl ⟨J6,kk,q.hh _ _ h1,rfl,by rw[hlen];exact hc.1,rfl⟩,?_⟩;obtain⟨p1,p2⟩:=rR kk v J6 l d (by rw[h2];exact hc.2) h2;exact k σ F2 _ (W.poke hl hv rfl fun S sa=>⟨a,_,rfl,sa,bq,p1,p2 _ _ (Z▸rv.same q.ff) (h3.same q.ff)⟩)
end
section
variable{prog:qc6}{w:Ja}{A:qd5}{E:Value->qa4->Prop}{s:qa4}{I t:J9}{j:Nat}{vs:Array Value}
def qq{y:Value}(hI:s.heap.IsTupleIter I t j)(hv:s.heap.IsTuple t vs)(hy:vs[j]?=some y)
 (q:∀h',h'.IsTupleIter I t (j+1)->qn3 I s.heap h'->Q y {s with heap:=h'}):wpAny (model prog w) A (qm2 (.ref I)) Q E s:=by
 obtain⟨oi,O,Z,L⟩:=id hI;obtain⟨ot,W,_,nt,Y⟩:=hv;unfold qm2;refine wB (qe4 (name:=qa0 "__next__") hI.typeIs ql5 (qf0 ql5 hI.typeIs qw2 ?_ (qu8 _)));show wpAny _ _ (field (.ref I) 0 >>= _) _ _ s;refine wB (qs7 O L (x:=.ref t) rfl ?_);show wpAny _ _ (if(qf4 t==qh6)=true then _ else _) _ _ s;rw[if_neg (show ¬ (qf4 t==qh6)=true by exact qb4)];show wpAny _ _ (field (.ref I) 1 >>= _) _ _ s;refine wB (qs7 O L (x:=.int j 0) rfl ?_);show wpAny _ _ (seqItems? (.ref t) >>= _) _ _ s;refine wB (qt6 W Y ?_);simp only[qd8,hy];refine qh4 (qj4 O L (by simp) (qa3 ⟨y,rfl,qa3 (q _ ?_ (qe8 ..))⟩));exact⟨_,qe5 _ O (qi0 (qe0 L _)),(qp4 ..).trans Z,by rw[qe0 L];simp[qf7]⟩
theorem t9(hh:A.handled=none)(Z:s.heap.IsTupleIter I t j)(hv:s.heap.IsTuple t vs)(hy:vs[j]?=none)
 (q:∀h' e,zg2 I s.heap h'->(∃o,h'.get? e=some o/\o.cls=.type "StopIteration")->E (.ref e) {s with heap:=h'}):wpAny (model prog w) A (qm2 (.ref I)) Q E s:=by
 obtain⟨oi,O,hci,L⟩:=id Z;obtain⟨ot,W,_,nt,Y⟩:=hv;unfold qm2;refine wB (qe4 (name:=qa0 "__next__") Z.typeIs ql5 (qf0 ql5 Z.typeIs qw2 ?_ (qu8 _)));show wpAny _ _ (field (.ref I) 0 >>= _) _ _ s;refine wB (qs7 O L (x:=.ref t) rfl ?_);show wpAny _ _ (if(qf4 t==qh6)=true then _ else _) _ _ s;rw[if_neg (show ¬ (qf4 t==qh6)=true by exact qb4)];show wpAny _ _ (field (.ref I) 1 >>= _) _ _ s;refine wB (qs7 O L (x:=.int j 0) rfl ?_);show wpAny _ _ (seqItems? (.ref t) >>= _) _ _ s;refine wB (qt6 W Y ?_);simp only[qd8,hy];refine qh4 (qv3 (qh4 (qj4 O L (by simp) ?_)));show wpAny _ _ (zh2 (.type "StopIteration") [] >>= _) _ _ _;refine wB ?_;simp only[zh2,zi6];refine wB (qd1 ?_ (by first|size_fits|decide));refine qh4 (m:=qm3 _ _) (za4 (a:=qh6) (by first|rfl|(simp only[qm3]<;>rfl)) ?_);refine qd1 ?_ (by first|size_fits|decide);simp only[zh3];refine wB (za5 ?_)
 first|rw[hh]|rw[show A.in1.handled=none by exact hh]
 refine wB (qa3 (zg3 ?_));exact q _ _ (((qe8 ..).extBut.push _).push _) ⟨_,qa7 _ rfl,rfl⟩
end
variable{prog:qc6}{w:Ja}
theorem o6(O:A.handled=none)(I t:J9)(q:t≠I)(vs:Array Value):Draws prog w A I [I,t] vs.size (fun i v=>vs[i]?=some v) (fun i h=>h.IsTupleIter I t i/\h.IsTuple t vs) where
 live:=fun _ _ st=>let ⟨o,ho,_⟩:=st.1;⟨o,ho⟩
 frame:=fun _ _ _ st hk=>⟨let ⟨o,ho,r⟩:=st.1;⟨o,hk I (by simp) o ho,r⟩,let ⟨o,ho,r⟩:=st.2;⟨o,hk t (by simp) o ho,r⟩⟩
 item:=fun i s Q E hi st L=>qq st.1 st.2 (y:=vs[i]) (by simp[hi]) fun h' a b=>L _ h' s.toks (by simp[hi]) ⟨a,let ⟨o,ho,r⟩:=st.2;⟨o,b.extBut _ _ q ho,r⟩⟩ b
 done:=fun s Q E st W=>t9 O st.1 st.2 (by simp) W
def SqB(b:Bool)(K:xA9)(H:Hp)(a:J9)(xs:List V):Prop:=match b with
 |true=>SqL K H a xs
 |false=>SqT K H a xs
def ItB(b:Bool)(h:Heap)(I a:J9)(i:Nat):Prop:=match b with
 |true=>h.IsListIter I a i
 |false=>h.IsTupleIter I a i
def CoB(b:Bool)(h:Heap)(a:J9)(vs:Array Value):Prop:=match b with
 |true=>h.IsList a vs
 |false=>h.IsTuple a vs
variable{h:Heap}{I a:J9}{i:Nat}
theorem ItB.obj(x:ItB b h I a i):∃o,h.get? I=some o/\(o.cls=.type "list_iterator"∨o.cls=.type "tuple_iterator")/\∀v,o.data≠.cell v:=by
 cases b with
 |true=>obtain⟨o,e,c,d⟩:=x;exact⟨o,e,.inl c,fun v z=>by rw[d]at z;cases z⟩
 |false=>obtain⟨o,e,c,d⟩:=x;exact⟨o,e,.inr c,fun v z=>by rw[d]at z;cases z⟩
variable{h':Heap}
def ItB.at(x:ItB b h I a i)(k:∀o,h.get? I=some o->h'.get? I=some o):ItB b h' I a i:=by
 cases b with
 |true=>obtain⟨o,e,r⟩:=x;exact⟨o,k o e,r⟩
 |false=>obtain⟨o,e,r⟩:=x;exact⟨o,k o e,r⟩
theorem CoB.obj{vs:Array Value}(x:CoB b h a vs):∃o,h.get? a=some o/\(o.cls=.type "list"∨o.cls=.type "tuple"):=by
 cases b with
 |true=>obtain⟨o,e,c,_⟩:=x;exact⟨o,e,.inl c⟩
 |false=>obtain⟨o,e,c,_⟩:=x;exact⟨o,e,.inr c⟩
def As{x y:String}(h:x≠y):qk5 x≠qk5 y:=fun z=>h (by cases z;rfl)
theorem vY{c:Bool}{l:J9}{vs:Array Value}(x:ItB b h I a i)(y:CoB c h l vs):l≠I:=by obtain⟨o,W,L,_⟩:=x.obj;obtain⟨o',O,q⟩:=y.obj;rintro rfl;rw[W]at O;cases O;rcases L with L|L<;>rcases q with q|q<;>rw[L]at q<;>exact absurd q (As (by decide))
variable{t':Nat}{fp:List J9}
section
variable{X:Cx}{J1:List (J9×Obj)}{σ:St}{H:Hp}{s:qa4}{a I:J9}{xs:List V}{b:Bool}
theorem Inv.seqB(J:Inv X J1 σ H s)(h:SqB b X.K H a xs):∃J8:List Value,Vals xs J8/\CoB b s.heap a J8.toArray:=by
 cases b with
 |true=>obtain⟨J8,r,p,_⟩:=J.list h;exact⟨J8,r,p.isList⟩
 |false=>obtain⟨J8,r,p,_⟩:=J.tuple h;exact⟨J8,r,p⟩
theorem Inv.seqB_inj{ys:List V}(J:Inv X J1 σ H s)(h:SqB b X.K H a xs)(h':SqB b X.K H a ys):xs=ys:=by
 cases b with
 |true=>exact J.list_inj h h'
 |false=>exact J.tuple_inj h h'
theorem vZ(L:A.handled=none)(q:a≠I)(vs:Array Value):Draws prog w A I [I,a] vs.size (fun i v=>vs[i]?=some v) (fun i h=>ItB b h I a i/\CoB b h a vs):=by
 cases b with
 |true=>exact Draws.list L I a q vs
 |false=>exact o6 L I a q vs
theorem Inv.turnedL(J:Inv X J1 σ H s)(k:∀b o,b∉fp->s.heap.get? b=some o->h'.get? b=some o)(O:∀b∈fp,iu X J1 H b):Inv X J1 σ H {s with heap:=h',toks:=t'}:=by
 have W:∀b u,H b=some u->b∉fp:=fun b u e z=>by rw[(O b z).1]at e;cases e
 refine J.step (g':=s.gens) (d':=s.drawn) (ch:=fp) (fun b Y=>?_) (fun b o _ _ L e _=>k b o L e) (fun b o _ _ L e _=>⟨o.slots,k b o L e⟩) (fun _ _ _ _ n=>n)
  (fun b o L e=>⟨o,k b o L e⟩) (fun _ _ e=>e) (fun _ _ _ e=>e) (fun b ps e=>⟨#[],by rw[e];simp⟩) (fun _ _ e=>e) (fun m hm=>?_) (fun b u e=>?_) J.bare
 .exact⟨(O b Y).2.2.2.1,(O b Y).2.1,(O b Y).2.2.2.2.1,(O b Y).2.2.2.2.2⟩
 .obtain⟨o,es,ep,Z,r⟩:=hm;exact⟨o,es,ep,k _ o (fun z=>(O _ z).2.1 rfl) Z,r⟩
 .refine(J.hok b u e).stay (fun c v L q=>k c v ?_ q) (fun _ q=>q) (fun _ _ q=>q) fun _ _ _ q=>q
  rcases L with z|z
  .rw[z];exact W b u e
  .exact W c _ z
end
section
variable{X:Cx}{J1:List (J9×Obj)}{σ:St}{H:Hp}{s:qa4}
theorem Inv.turnedT {t:J9} {u:HO} (J:Inv X J1 σ H s) (k:∀ b o,b∉fp->s.heap.get? b=some o->h'.get? b=some o) (Y:∀ b∈fp,iu X J1 H b) (ht:s.heap.objs.size<=t) (new:ObjOk X.prog X.w (upd H t u) h' t u) :
  Inv X J1 σ (upd H t u) {s with heap:=h',toks:=t'}:=by
 have Z:∀b u,H b=some u->b∉fp:=fun b u e z=>by rw[(Y b z).1]at e;cases e
 have hn:H t=none:=J.hok.fresh ht;have L:∀b v,H b=some v->b≠t:=fun b v e=>cC e hn
 have nlt:∀b o,s.heap.get? b=some o->b≠t:=fun b o e z=>by subst z;exact absurd (qa8 e) (qy7.mpr ht)
 refine J.step (g':=s.gens) (d':=s.drawn) (ch:=fp) (fun b O=>?_) (fun b o _ _ W e _=>k b o W e) (fun b o _ _ W e _=>⟨o.slots,k b o W e⟩) (fun b o _ e n=>by rw[aQ (nlt b o e)];exact n)
  (fun b o W e=>⟨o,k b o W e⟩) (fun b xs e=>by rw[aQ (L b _ e)];exact e) (fun b o v e=>by rw[aQ (L b _ e)];exact e) (fun b ps e=>⟨#[],by rw[aQ (L b _ e),e];simp⟩) (fun b xs e=>by rw[aQ (L b _ e)];exact e) (fun m hm=>?_) (fun b v e=>?_) J.bare
 .exact⟨(Y b O).2.2.2.1,(Y b O).2.1,(Y b O).2.2.2.2.1,(Y b O).2.2.2.2.2⟩
 .obtain⟨o,es,ep,ho,r⟩:=hm;exact⟨o,es,ep,k _ o (fun z=>(Y _ z).2.1 rfl) ho,r⟩
 .by_cases O:b=t
  .subst O;rw[bq]at e;cases e;exact new
  .rw[aQ O]at e;refine(J.hok b v e).stay (fun c ob W q=>k c ob ?_ q) (fun c q=>by rw[aQ (L c _ q)];exact q) (fun c ys q=>by rw[aQ (L c _ q)];exact q) fun c ob ys q=>by rw[aQ (L c _ q)];exact q
   rcases W with z|z
   .rw[z];exact Z b v e
   .exact Z c _ z
end
noncomputable def Ite(b:Bool)(K:xA9)(a:J9):It:=⟨fun i H=>∃xs x,SqB b K H a xs/\xs[i]?=some x,fun i H x H'=>∃t v,H t=none/\x=.ref t/\H'=upd H t (.tup [.int i,v])/\∀xs,SqB b K H a xs->xs[i]?=some v,fun i H=>∃xs,SqB b K H a xs/\xs.length=i⟩
variable{P:qc6}{n:Nat}
def ua {elts:List Jc} {pos:Pos} (b:Bool) (a e I:J9) (hne:e≠I) :
  Turn P w K (.Tuple elts n pos) (Ite b K a) [e,I] e (fun i h=>(∃Y,IsEnum h e I i Y)/\ItB b h I a i) where
 mem:=by simp
 obj:=fun i h st c hc=>by
  obtain⟨⟨Y,W⟩,O⟩:=st;simp only[qa9,qh3,or_false]at hc;rcases hc with rfl|rfl
  .exact⟨_,W,fun v z=>nomatch z⟩
  .obtain⟨o,q,_,d⟩:=O.obj;exact⟨o,q,d⟩
 keep:=fun i h h' st k=>by obtain⟨⟨Y,W⟩,O⟩:=st;exact⟨⟨Y,k e (by simp) _ W⟩,O.at fun o q=>k I (by simp) o q⟩
 item:=by
  intro X hP hw hK hc i J1 s σ H E J hf st hg;subst hP hw hK;obtain⟨⟨Y,W⟩,O⟩:=st;obtain⟨xs,x,hq,hx⟩:=hg;obtain⟨J8,rv,co⟩:=J.seqB hq;obtain⟨u,hu,ru⟩:=rv.get hx;have hi:i<J8.toArray.size:=by simpa using (gX hu).1
  have hae:e∉[I,a]:=by simp only[qa9,qh3,or_false,not_or];refine⟨hne,fun z=>?_⟩;obtain⟨o,q,c⟩:=co.obj;rw[<- z,W]at q;cases q;rcases c with c|c<;>exact absurd c (As (by decide))
  refine wpAny_pyNext_enum_itemD (vZ (A:=X.A.in1) (b:=b) (I:=I) (a:=a) (show X.A.in1.handled=none from J.ok.hd hc) (vY O co) J8.toArray) W ⟨O,co⟩ hi hne hae fun y h1 tk hy ho hs1 hT hsz hk=>⟨_,rfl,?_⟩
  have ey:y=u:=by rw[show J8.toArray[i]?=J8[i]? by simp,hu]at hy;exact(qd4 hy).symm
  subst ey;refine wpAny_letOwnedTupleGo_enum ho fun h2 he2 Z=>?_
  have kk:∀c o,c∉[e,I]->s.heap.get? c=some o->h2.get? c=some o:=fun c o L q=>by simp only[qa9,qh3,or_false,not_or]at L;exact(Z.2 c L.1).trans (hk c o L.1 L.2 q)
  have lt:∀c∈[e,I],c<s.heap.objs.size:=fun c L=>by
   simp only[qa9,qh3,or_false]at L;rcases L with rfl|rfl
   .exact qa8 W
   .obtain⟨o,q,_⟩:=O.obj;exact qa8 q
  -- first the records,then the pair
  have hT2:h2.get? s.heap.objs.size=some {cls:=.type "tuple",data:=.seq #[.int i tk,y]}:=(Z.2 _ (fun z=>qn4 _ (z▸lt e (by simp)))).trans hT
  have J2:Inv X J1 σ (upd H s.heap.objs.size (.tup [.int i,x])) {s with heap:=h2,toks:=tk+1}:=by refine J.turnedT kk hf (nL _) ⟨by show 2<=qb1;decide,[.int i tk,y],.cons ⟨_,rfl⟩ (.cons ru .nil),?_⟩;exact⟨_,hT2,rfl,_,rfl⟩
  refine⟨.ref s.heap.objs.size,_,J2,rfl,⟨_,x,J.hok.fresh (qq6 _),rfl,rfl,fun ys hy=>by rw[J.seqB_inj hy hq];exact hx⟩,⟨⟨_,by simpa using he2⟩,hs1.1.at fun o q=>(Z.2 I (qo4 hne)).trans q⟩,fun c L=>?_⟩;rw[aQ (qc0 (lt c L))];exact(hf c L).1
 done:=by
  intro X hP hw hK hc i J1 s σ H E J hf st hg;subst hP hw hK;obtain⟨⟨Y,W⟩,O⟩:=st;obtain⟨xs,hq,hx⟩:=hg;obtain⟨J8,rv,co⟩:=J.seqB hq;have hi:i=J8.toArray.size:=by rw[<- hx];simpa using rv.length
  refine wpAny_pyNext_enum_endD (vZ (A:=X.A.in1) (b:=b) (I:=I) (a:=a) (show X.A.in1.handled=none from J.ok.hd hc) (vY O co) J8.toArray) W (show ItB b s.heap I a J8.toArray.size/\CoB b s.heap a J8.toArray from⟨hi▸O,co⟩) fun h' eb=>⟨rfl,?_⟩
  exact J.turnedL (t':=s.toks) (fun c o L q=>eb c o (fun z=>L (by simp[z])) q) hf
 self:=fun A i s Q E st h=>by obtain⟨⟨Y,W⟩,O⟩:=st;exact wpAny_pyIter_enum W h
def o7 (t:J9) (vs:Array Value) (n:Nat) (Y:Option J9) (sl:Array (Option Value)) :
  Meets (qj6.«enumerate.__new__» ⟨[.type "enumerate",.ref t],[]⟩) (fun _ R s=>s.heap.get? t=some {cls:=.type "tuple",dict:=Y,data:=.seq vs n,slots:=sl}∧
   R (.ok (.ret (.ref (s.heap.push {cls:=.type "tuple_iterator",data:=.fields #[.ref t,.int 0 0]}).objs.size)))
    {s with heap:=(s.heap.push {cls:=.type "tuple_iterator",data:=.fields #[.ref t,.int 0 0]}).push {cls:=.type "enumerate",data:=.fields #[.none,.bool false,.ref s.heap.objs.size,qf7 0,.none,.none]}}):=
 .of_wp fun prog w A R s h=>by
  obtain⟨hp,g,d,tk,W⟩:=s;obtain⟨q,h⟩:=h;have L:=sub_enumerate;have O:Heap.IsTuple (qa4.heap ⟨hp,g,d,tk,W⟩) t vs:=⟨_,q,rfl,n,rfl⟩;wp_walk using qr2 q;refine wpAny_stack_any fun st=>qa3 ?_
  split
  .rename_i c _ _ _ _ _;cases (c==qk5 "enumerate")<;>(wp_walk using qr2 q,qx0 O)<;>exact⟨_,rfl,h⟩
  . (wp_walk using qr2 q,qx0 O)<;>exact⟨_,rfl,h⟩
section
variable{prog:qc6}{w:Ja}{A:qd5}{E:Value->qa4->Prop}{s:qa4}
def qr{t:J9}{vs:Array Value}(hT:s.heap.IsTuple t vs)
 (h:∀h',IsEnum h' (s.heap.objs.size+1) s.heap.objs.size 0 .none->h'.IsTupleIter s.heap.objs.size t 0->h'.objs.size=s.heap.objs.size+2→
 (∀c u,s.heap.get? c=some u->h'.get? c=some u)->Q (.ref (s.heap.objs.size+1)) {s with heap:=h'}) :
  wpAny (model prog w) A (call (.type "enumerate") [.ref t]) Q E s:=by
 obtain⟨⟨c,dct,dt,sl⟩,Z,Y,n,W⟩:=hT;have Y:c=.type "tuple":=Y;have W:dt=.seq vs n:=W;subst Y W;refine callType_new F.called_enumerate (by decide) (F.typeCall_enumerate_1 _) (F.newCall_enumerate_1 _) (fun obj=>F.args_object_init_2 obj _) F.entry_enumerate_new (o7 t vs n dct sl) ⟨Z,?_⟩;have O:(s.heap.push {cls:=.type "tuple_iterator",data:=.fields #[.ref t,.int 0 0]}).objs.size=s.heap.objs.size+1:=qf9 ..;have L:((s.heap.push {cls:=.type "tuple_iterator",data:=.fields #[.ref t,.int 0 0]}).push {cls:=.type "enumerate",data:=.fields #[.none,.bool false,.ref s.heap.objs.size,qf7 0,.none,.none]}).objs.size=s.heap.objs.size+2:=by rw[qf9,O]
 rw[O];have q:=qa7 (s.heap.push {cls:=.type "tuple_iterator",data:=.fields #[.ref t,.int 0 0]}) (o:={cls:=.type "enumerate",data:=.fields #[.none,.bool false,.ref s.heap.objs.size,qf7 0,.none,.none]}) rfl;rw[O]at q;exact⟨⟨_,q,rfl⟩,h _ q ⟨_,gP _ (qa7 _ rfl),rfl,rfl⟩ L fun c u z=>gP _ (gP _ z)⟩
def qt{t:J9}{vs:Array Value}(q:CoB b s.heap t vs)
 (h:∀h',IsEnum h' (s.heap.objs.size+1) s.heap.objs.size 0 .none->ItB b h' s.heap.objs.size t 0->h'.objs.size=s.heap.objs.size+2→
 (∀c u,s.heap.get? c=some u->h'.get? c=some u)->Q (.ref (s.heap.objs.size+1)) {s with heap:=h'}) :
  wpAny (model prog w) A (call (.type "enumerate") [.ref t]) Q E s:=by
 cases b with
 |true=>exact call_enumerate_list q h
 |false=>exact qr q h
end
variable{ta:TA}
section
variable{X:Cx}{x:Jc}{p pos tpos:Pos}{sc:Jd}{fs:De->Option (List Dt)}{elts:List Jc}{n:Nat}
def DU(K:xA9)(ta:TA):TI:=fun σ H R=>ta σ H fun vs H1=>∃b a xs,vs=[.ref a]/\SqB b K H1 a xs/\R (Ite b K a) H1
theorem yR (h:aD sc "enumerate"=true) (hm:X.mg "enumerate"=none) (ha:PA X [x] ta) (e1:cW X sc:=by rfl) (Z:qb0 [x] X.env=[(false,eval x X.env)]:=by rfl) :
  PI X (.Tuple elts n tpos) (.Call (.Name "enumerate" p) [x] [] pos) (DU X.K ta):=by
 intro J1 s σ H R I h';refine Call_ (gT I (glD h e1) hm nE (qh1 (thn (ha pos J1 s σ H _ I h') fun us s1 ⟨vs,H1,O,r1,q1⟩=>?_) Z rfl));obtain⟨b,a,xs,rfl,hq,q⟩:=q1;obtain⟨u,rfl,ru⟩:=iY r1;cases ru;obtain⟨J8,rv,co⟩:=O.seqB hq;refine qt co fun h2 Y hi hz hk=>wpAny_pyIter_enum Y ?_
 have I2:Inv X J1 σ H1 {s1 with heap:=h2}:=O.kept (t':=s1.toks) hk;refine⟨s1.heap.objs.size+1,[s1.heap.objs.size+1,s1.heap.objs.size],_,_,H1,rfl,I2,ua b a _ _ (ql6 (qn8 _)),⟨⟨_,Y⟩,hi⟩,fun c W=>?_,q⟩
 have L:s1.heap.objs.size<=c:=by
  simp only[qa9,qh3,or_false]at W;rcases W with rfl|rfl
  .exact za6 _
  .exact nL _
 exact O.fpOk L (O.hok.fresh L)
def dw(i:Nat):List Dt->List Dt
 |[]=>[]
 |d::r=>.tup [.int i,d]::dw (i+1) r
def mF:∀(l:List Dt)(i:Nat),(dw i l).length=l.length
 |[],_=>rfl
 |_::r,i=>by simp[dw,mF r]
def mG:∀(l:List Dt)(i k:Nat),(dw i l)[k]?=l[k]?.map fun d=>.tup [.int ((i+k:Nat):Int),d]
 |[],i,k=>by simp[dw]
 |d::r,i,0=>by simp[dw]
 |d::r,i,k+1=>by simp[dw,mG r,Nat.add_assoc,Nat.add_comm 1]
def iB:List Dt->Option (List Dt)
 |[.lst l]=>some (dw 0 l)
 |[.tup l]=>some (dw 0 l)
 |_=>none
theorem v0{F:Hp}{d e:Dt}{w:V}{t:J9}(h:F t=some (.tup [v,w]))(r:Rep K F d v)(q:Rep K F e w):Rep K F (.tup [d,e]) (.ref t):=by simp only[Rep,Reps];exact⟨t,_,rfl,SqT.of h,v,[w],rfl,r,w,[],rfl,q,rfl⟩
theorem mH{F:Hp}{xs:List V}(r:Reps K F l xs):rN K F (Ite b K a) (dw 0 l) (fun H=>SqB b K H a xs):=fun i H Z q L Y=>by have hl:=r.length;rw[mF];refine⟨fun h=>⟨xs,xs[i],q,by simp[show i<xs.length by lia]⟩,fun h=>⟨xs,q,by lia⟩,fun x H' hi W=>?_⟩;obtain⟨t,v,O,rfl,rfl,hv⟩:=W;have hx:=hv xs q;obtain⟨d,hd,rd⟩:=r.same_get hx;refine⟨_,upd Z t (.tup [.int i,v]),?_,Step.new L O,v0 bq gp ((rd.same Y).same (Same.upd (L.free O)))⟩;rw[mG,hd];simp
theorem fz (h:aD sc "enumerate"=true) (Y:X.mg "enumerate"=none) (ha:DA X [x] fs) (e1:cW X sc:=by rfl) (L:qb0 [x] X.env=[(false,eval x X.env)]:=by rfl) :
  DIF X (.Tuple elts n tpos) (.Call (.Name "enumerate" p) [x] [] pos) (dO iB fs):=PI.mono (yR h Y ha.pa e1 L) fun σ H R ⟨Φ,δ,F,ds,O,Z,q,k⟩=>by
 unfold dO at q;obtain⟨as,hd,q⟩:=bS q;refine⟨Φ,δ,F,as,O,Z,hd,fun vs H' F' st r=>?_⟩;unfold iB at q;split at q<;>first|(cases q;done)|skip
 .cases q;simp only[Reps,Rep]at r;obtain⟨v,W,rfl,⟨a,xs,rfl,h1,h2⟩,rfl⟩:=r;exact⟨true,a,xs,rfl,st.fh.seq h1,k _ _ H' F' st (mH (b:=true) h2) fun H2 s=>s.seq h1⟩
 .cases q;simp only[Reps,Rep]at r;obtain⟨v,W,rfl,⟨a,xs,rfl,h1,h2⟩,rfl⟩:=r;exact⟨false,a,xs,rfl,st.fh.tup h1,k _ _ H' F' st (mH (b:=false) h2) fun H2 s=>s.tup h1⟩
end
section
variable{prog:qc6}{w:Ja}{A:qd5}{E:Value->qa4->Prop}{s:qa4}{z ti tO i1 i2:J9}{fp1 fp2:List J9}{n1 n2 k:Nat}{P1 P2:Nat->Value->Prop}{S1 S2:Nat->Heap->Prop}{va vb:Value}
end
section
variable{prog:qc6}{w:Ja}{A:qd5}{E:Value->qa4->Prop}{s:qa4}
end
section
variable{X:Cx}{J1:List (J9×Obj)}{σ:St}{H:Hp}{s:qa4}{a:J9}{xs ys:List V}{b c:Bool}
end
section
variable{X:Cx}{x y:Jc}{p pos tpos:Pos}{sc:Jd}{fs:De->Option (List Dt)}{elts:List Jc}{n:Nat}
end
section
variable{X:Cx}{o a b e c:Jc}{es:List Jc}{fa fb fo fe:De->Option Dt}{fs:De->Option (List Dt)}{pos apos cpos p:Pos}{i:Nat}
end
section
variable{X:Cx}{e:Jc}{es:List Jc}{fs:De->Option (List Dt)}{pos p:Pos}{x:Str}{sc:Jd}
end
noncomputable def yS(P:qc6)(w:Ja)(K:xA9)(mg:Str->Option Value)(x:Str)(ks:List Key)(l:List Dt):Prop:=∃(a:J9)(J6:List (Key×V))(vs:List (Key×Value)),mg x=some (.ref a)/\(a==qh9)=false/\J6.map (·.1)=ks/\(∀F,Reps K F l (J6.map (·.2)))/\KV J6 vs/\∀h:Heap,K.In h->h.DictOf (ca P w) a vs
def gSg(ks:List Key)(l:List Dt):Dt->Option T:=fun k=>(o5 k).bind fun k=>(dn ks l k).map .leaf
def vSg(ks:List Key)(l:List Dt)(f:De->Option Dt):De->Option T:=fun δ=>(f δ).bind (gSg ks l)
def gSi(neg:Bool)(ks:List Key)(l:List Dt):Dt->Option Bool:=fun k=>(o5 k).map fun k=>if neg then !(dn ks l k).isSome else(dn ks l k).isSome
def fSi(neg:Bool)(ks:List Key)(l:List Dt)(f:De->Option Dt):De->Option Bool:=fun δ=>(f δ).bind (gSi neg ks l)
variable{J6:List (Key×V)}
section
variable{X:Cx}{b:Jc}{fb:De->Option Dt}{pos p:Pos}{x:Str}{sc:Jd}{ks:List Key}{l:List Dt}
def tSg(J6:List (Key×V))(ty:TE):TE:=fun σ H Q=>ty σ H fun y H1=>∃k v,y=kV k/\fV J6 k=some v/\Q v H1
def tSi(neg:Bool)(J6:List (Key×V))(ty:TE):TE:=fun σ H Q=>ty σ H fun y H1=>∃k,y=kV k/\Q (.bl (if neg then !(fV J6 k).isSome else(fV J6 k).isSome)) H1
theorem DV {vs:List (Key×Value)} {ty:TE} (h:aD sc x=true) (hg:X.mg x=some (.ref a)) (L:KV J6 vs) (hD:∀ h:Heap,X.K.In h->h.DictOf (ca X.prog X.w) a vs) (hb:PE X b ty) (hn:tQ b) (e1:cW X sc:=by rfl) :
  PE X (.Subscript (.Name x p) b pos) (tSg J6 ty):=by
 intro J1 s σ H Q I q;have hx:PE X (.Name x p) (tC (.ref a)):=k5 h ⟨_,hg,rfl⟩ e1;refine rA PySem.F.slot_dict_getitem.lookup hn (thn (hx J1 s σ H (fun y H1=>y=.ref a/\tSg J6 ty σ H1 Q) I ⟨rfl,q⟩) fun u s1 ⟨y0,H1,I1,Z,e0,q1⟩=>thn (hb J1 s1 σ H1 _ I1 q1) fun iv s2 ⟨y,H2,W,ry,k,v,ey,hv,q2⟩=>?_);subst e0 ey;obtain rfl:u=qf4 a:=Z;have Y:=hD _ W.kIn;obtain⟨w',hw,O⟩:=RelO.some_of (v:=v) (o:=zg1 vs k) (by rw[<- hv];exact L.val k);exact⟨Y.typeIs,wpAny_getItem_of (kS ry) Y.mapOf hw ⟨v,H2,W.tok _,O,q2⟩⟩
theorem BX {vs:List (Key×Value)} {ty:TE} (h:aD sc x=true) (hg:X.mg x=some (.ref a)) (W:(a==qh9)=false) (L:KV J6 vs) (hD:∀ h:Heap,X.K.In h->h.DictOf (ca X.prog X.w) a vs) (Z:PE X b ty) (e1:cW X sc:=by rfl) :
  PC X .NotIn b (.Name x p) (tSi true J6 ty):=by
 intro J1 s σ H Q I q;have hx:PE X (.Name x p) (tC (.ref a)):=k5 h ⟨_,hg,rfl⟩ e1;refine thn (Z J1 s σ H _ I q) fun iv s1 ⟨y,H1,I1,ry,k,ey,q1⟩=>thn (hx J1 s1 σ H1 (fun y H2=>y=.ref a/\Q (.bl (!(fV J6 k).isSome)) H2) I1 ⟨rfl,q1⟩) fun u s2 ⟨y0,H2,O,Y,e0,q2⟩=>?_
 subst e0 ey;obtain rfl:u=qf4 a:=Y;have dd:=hD _ O.kIn;refine wpAny_notIn_of (kS ry) W dd.mapOf ?_;rw[<- (L.val k).isSome_eq];exact⟨.bl (!(fV J6 k).isSome),H2,O.tok _,rfl,q2⟩
theorem DX(h:aD sc x=true)(hm:yS X.prog X.w X.K X.mg x ks l)(hb:DB X b fb)(e1:cW X sc:=by rfl)(hn:tQ b:=by exact fun _ _=>rfl):DO X (.Subscript (.Name x p) b pos) (vSg ks l fb):=by
 obtain⟨a,J6,vs,hg,hs,rfl,hR,L,hD⟩:=hm;refine PE.mono (DV h hg L hD hb hn e1) fun σ H Q ⟨Φ,δ,F,t,Y,en,q,k⟩=>?_
 unfold vSg at q;obtain⟨y,W,q⟩:=bS q;obtain⟨kk,hk,q⟩:=bS q;obtain⟨d,hd,q⟩:=mS q;cases q;refine⟨Φ,δ,F,y,Y,en,W,fun v H1 F1 st Z=>?_⟩;obtain⟨w,hw,O⟩:=f7 (hR F1) hd;exact⟨kk,w,ie Z hk,hw,(k.step st).leaf.here st.fh O⟩
theorem DY{neg:Bool}(Z:∀F,Reps K F l (J6.map (·.2))){Q:Bool->Hp->Prop}(h:tTr K (fSi neg (J6.map (·.1)) l fb) σ H Q):tSi neg J6 (tBd K fb) σ H (fun v H'=>∃c,v=.bl c/\Q c H'):=by obtain⟨Φ,δ,F,t,O,W,q,k⟩:=h;unfold fSi at q;obtain⟨y,L,q⟩:=bS q;obtain⟨kk,hk,q⟩:=mS q;subst q;refine⟨Φ,δ,F,y,O,W,L,fun v H1 F1 st Y=>⟨kk,ie Y hk,_,rfl,?_⟩⟩;rw[<- kA (Z F1)];exact k H1 F1 st
theorem BY(h:aD sc x=true)(W:yS X.prog X.w X.K X.mg x ks l)(Y:DB X b fb)(e1:cW X sc:=by rfl)(hk:qh7 .NotIn (.Name x p)=false:=by with_unfolding_all rfl):DT X (.Compare b [.NotIn] [.Name x p] pos) (fSi true ks l fb):=by obtain⟨a,J6,vs,hg,O,rfl,Z,L,hD⟩:=W;exact PT.mono (np (BX h hg O L hD Y e1) hk) fun σ H Q q=>DY Z q
end
def sEnt(p:Params)(q:Str×Tok×V×Value):zj2:=⟨qk4 p q.1,.str q.1 q.2.1,q.2.2.2⟩
variable{x:Str}{o:Obj}{ep:Nat}
theorem yT(rs:List (Str×Tok×V×Value))(hm:mg x=some (.ref a))(hl:K.lookup a=some o)(hc:o.ExactDict)(O:o.data=.dict (rs.map (sEnt w.params)).toArray ep)
 (hs:(a==qh9)=false) (W:(rs.map (·.1)).Nodup) (Y:∀r∈rs,RelV r.2.2.1 r.2.2.2) (Z:∀F,Reps K F l (rs.map (·.2.2.1))):yS P w K mg x (rs.map fun r=>.inr r.1) l:=by
 refine⟨a,rs.map fun r=>(.inr r.1,r.2.2.1),rs.map fun r=>(.inr r.1,r.2.2.2),hm,hs,by rw[qc4];rfl,fun F=>by rw[qc4];exact Z F,?_,fun h X=>⟨o,_,ep,X a o hl,hc,O,?_,?_,?_⟩⟩
 .clear O W Z;induction rs with
  |nil=>exact .nil
  |cons r rs L=>exact .cons ⟨rfl,Y r qe6⟩ (L fun r hr=>Y r (qd3 _ hr))
 .intro e he;obtain⟨r,_,rfl⟩:=qd2.mp (List.mem_toArray.mp he);exact⟨.inr r.1,gO P w r.1 r.2.1,rfl⟩
 .show Pairs (ca P w) (rs.map (sEnt w.params)) _;clear O W Z Y;induction rs with
  |nil=>exact .nil
  |cons r rs L=>exact .cons (gO P w r.1 r.2.1) rfl L
 .rw[qc4];have:(rs.map ((fun x:Key×Value=>x.1) ∘ fun r=>((qu0 r.1:Key),r.2.2.2)))=(rs.map (·.1)).map qu0:=by rw[qc4];rfl
  rw[this];exact List.Pairwise.map _ (fun a b h q=>h (qu0.inj q)) W
variable{J8:Array Value}{ds:List Dt}
theorem dP{xs:List V}(L:K.lookup a=some o)(W:o.cls=.type "tuple")(O:o.data=.seq J8 n)(q:Vals xs J8.toList)(Y:xs.length<=qb1){F:Hp}(Z:Reps K F ds xs):Rep K F (.tup ds) (.ref a):=by simp only[Rep];exact⟨a,xs,rfl,.inr ⟨o,J8,n,L,W,O,by rw[<- qe2,<- q.length];exact Y,q⟩,Z⟩
theorem v3{xs:List V}(L:mg x=some (.ref a))(q:K.lookup a=some o)(Y:o.cls=.type "tuple")(O:o.data=.seq J8 n)(W:Vals xs J8.toList)(Z:xs.length<=qb1)(hx:∀F,Reps K F ds xs):j7 K mg x (.tup ds):=⟨.ref a,⟨_,L,rfl⟩,fun F=>dP q Y O W Z (hx F)⟩
inductive RepsI(K:xA9)(F:Hp):List Dt->List V->Prop
 |nil:RepsI K F [] []
 |cons {d:Dt} {v:V} {l:List Dt} {vs:List V}:Rep K F d v->RepsI K F l vs->RepsI K F (d::l) (v::vs)
def yU{F:Hp}(h:RepsI K F l vs):Reps K F l vs:=by
 induction h with
 |nil=>simp[Reps]
 |cons h _ q=>simp only[Reps];exact⟨_,_,rfl,h,q⟩
variable{y:Str}{py spos:Pos}
section
variable{X:Cx}{elt tg iter:Jc}{ifs:List Jc}{scope:Jd}{pos:Pos}{M:List Str}{src:List (Option Nat)}{wi:TI}{g:TG}{tt:TT}{te:TE}
theorem ub{Q:VK}{cpos:Pos}{use:Option (Value->Sem Unit)}{QQ:Value->qa4->Prop}(S:CmpScope X.N X.env.scope scope M src)(hc:X.calm=true)(hi:PI X tg iter wi)(hg:M.Nodup->∀C s H ex,PG (cxC X M scope C s H ex) tg g)(ht:∀C s H ex,PTs (cxC X M scope C s H ex) ifs tt)
 (he:∀C s H ex,PE (cxC X M scope C s H ex) elt te) (hs:∀x,qj0 iter X.env x=pure x) (I:Inv X J1 σ H s) (h:oP src wi g tt te σ H Q)
 (hfin:∀(D C:J9)(H':Hp)(s':qa4)(m:Str->Option Value),Inv X J1 σ H' s'->iu X J1 H' C->s'.heap.Ns C m->Q (.ref D) H'->zf0 (model X.prog X.w) X.A X.xe use QQ (.ref D) C (.ok .next) s') :
  wpAny (model X.prog X.w) X.A (comprehension (.ListComp elt [⟨tg,iter,ifs,0⟩] scope pos) scope X.env cpos (newList []) false (eval iter X.env) use) QQ X.xe s:=by
 have hcells:∀x∈scope.names,x.2=.free->∃c,X.env.cells.lookup x.1=some c:=fun x hx hfr=>I.ok.has x.1 (S.free x hx hfr)
 refine qy6 (use:=use) rfl hs (iF hcells) S.kind S.names (thn (hi J1 s σ H _ I h) fun v s1 h1=>thn h1 fun itv s2 h2=>?_);obtain⟨it,fp,tn,J,H2,rfl,I2,T,st2,f2,hq⟩:=h2;refine qd1 ?_;have I3:Inv X J1 σ (upd H2 s2.heap.objs.size (.lst [])) {s2 with heap:=s2.heap.push {cls:=.type "list",dict:=none,data:=.seq ([]:List Value).toArray},toks:=s2.toks}:=I2.lnew (J8:=[]) (ys:=[]) (t':=s2.toks) .nil (by simp);have hD:H2 s2.heap.objs.size=none:=I2.fresh;obtain⟨W,⟨m0,w0⟩,turn⟩:=hq _ hD;generalize hDn:s2.heap.objs.size=D at*
 generalize hs3:({s2 with heap:=s2.heap.push {cls:=.type "list",dict:=none,data:=.seq ([]:List Value).toArray},toks:=s2.toks}:qa4)=Z at*
 have f3:∀b∈fp,iu X J1 (upd H2 D (.lst [])) b:=fun b O=>⟨by obtain⟨o,e,_⟩:=T.obj _ _ st2 b O;rw[aQ (by rw[<- hDn];exact qc0 (qa8 e))];exact(f2 b O).1,(f2 b O).2⟩
 have k23:∀b o,s2.heap.get? b=some o->Z.heap.get? b=some o:=fun b o e=>by rw[<- hs3];exact gP _ e
 have st3:tn 0 Z.heap:=T.keep _ _ _ st2 fun b _ o e=>k23 b o e
 have fl3:∀b∈fp,b<Z.heap.objs.size:=fun b O=>by obtain⟨o,e,_⟩:=T.obj _ _ st3 b O;exact qa8 e
 refine wpAny_newFunctionEnv S.nocell (by intro y hy;simp at hy) (fun h₁ hns₁ hsb₁=>?_) S.kind;have k34:∀b o,Z.heap.get? b=some o->h₁.get? b=some o:=fun b o e=>hsb₁.extBut b o (qc0 (qa8 e)) (gP _ e)
 generalize hs4:({Z with heap:=h₁,toks:=Z.toks+([]:List (Str×Value)).length}:qa4)=s4
 have I4:Inv (cxC X M scope Z.heap.objs.size Z (upd H2 D (.lst [])) fp) [] (stC src σ) (upd H2 D (.lst [])) s4:=by rw[<- hs4];exact oQ S I3 f3 fl3 hns₁ k34 rfl rfl
 have st4:tn 0 s4.heap:=T.keep _ _ _ st3 fun b _ o e=>by rw[<- hs4];exact k34 b o e
 generalize L:cxC X M scope Z.heap.objs.size Z (upd H2 D (.lst [])) fp=Y at*
 have hg':PG Y tg g:=by rw[<- L];exact hg S.nd _ _ _ _
 have ht':PTs Y ifs tt:=by rw[<- L];exact ht _ _ _ _
 have he':PE Y elt te:=by rw[<- L];exact he _ _ _ _
 have eP:Y.prog=X.prog:=by rw[<- L];rfl
 have eW:Y.w=X.w:=by rw[<- L];rfl
 have eK:Y.K=X.K:=by rw[<- L];rfl
 have eA:Y.A=X.A:=by rw[<- L];rfl
 have ex':Y.xe=fun _ _=>False:=by rw[<- L];rfl
 have ec:Y.calm=true:=by rw[<- L];exact hc
 have eE:Y.env=compEnvC scope (gm scope.names X.env.cells) Z.heap.objs.size X.env:=by rw[<- L];rfl
 have stat:∀{H':Hp},(∀b∈fp,H' b=none)->∀b∈fp,iu Y [] H' b:=fun hn b O=>by
  rw[<- L];refine⟨hn b O,qc0 (fl3 b O),fun z=>?_,.inl O,fun x c h=>(f3 b O).2.2.2.2.1 x c (g5 hcells h),fun p hp=>absurd hp (by simp[cxC])⟩;rcases qa9.mp (I3.stkSub b z)with q|q
  .exact(f3 b O).2.1 q
  .exact(f3 b O).2.2.1 q
 -- behind the block
 have fin:∀(H':Hp)(s':qa4),Inv Y [] (stC src σ) H' s'->Q (.ref D) H'->zf0 (model X.prog X.w) X.A X.xe use QQ (.ref D) Z.heap.objs.size (.ok .next) s':=by
  intro H' s' J' q;rw[<- L]at J';obtain⟨m,hn,_⟩:=id J'.loc;have hC:H' Z.heap.objs.size=none:=J'.free;have un:Un (frs X.stack) fp (upd H2 D (.lst [])) H' Z.heap s'.heap:=J'.base;have IA:Inv X J1 σ H' s':=I3.call' (s':=s') (show s'.os=Z.os from J'.os) un J'.hok J'.bare fun b O=>⟨(f3 b O).2.2.2.1,(f3 b O).2.1,(f3 b O).2.2.2.2.1,(f3 b O).2.2.2.2.2⟩
  exact hfin D _ H' s' m IA (I3.fpOk (nL _) hC) hn q
 have loop:∀s4':qa4,s4'=s4->qp6 (model X.prog X.w) X.A (.compLoop (.ListComp elt [⟨tg,iter,ifs,0⟩] scope pos) 0 (.ref it) (.ref D) Y.env) (zf0 (model X.prog X.w) X.A X.xe use QQ (.ref D) Z.heap.objs.size) s4':=by
  rintro _ rfl;refine i6 (fun n s'=>∃i H',Inv Y [] (stC src σ) H' s'/\tn i s'.heap/\(∀b∈fp,H' b=none)/\W i n H') ?_ m0 ⟨0,_,I4,st4,fun b O=>(f3 b O).1,w0⟩;rintro n s5 ⟨i,H5,I5,st5,fr5,w5⟩;rcases turn i n H5 w5 with ⟨stop,qn⟩|⟨go,N,hN,step⟩
  .have:=T.done Y eP eW eK ec i [] s5 (stC src σ) H5 (fun _ _=>False) I5 (stat fr5) st5 stop;rw[eA]at this;refine thn this fun r s6 ⟨hr,I6⟩=>?_
   subst hr;exact fin H5 s6 I6 qn
  .have:=T.item Y eP eW eK ec i [] s5 (stC src σ) H5 (fun _ _=>False) I5 (stat fr5) st5 go;rw[eA]at this;refine thn this fun r s6 ⟨u,hr,h6⟩=>?_
   subst hr;refine thn h6 fun _ s7 ⟨x,H7,I7,r7,y7,st7,fr7⟩=>?_
   have I7':=I7.pinned (stat fr7) (T.obj _ _ st7);have a1:=hg' _ s7 (stC src σ) H7 x u _ I7' r7 (step x H7 y7);rw[ex',eP,eW,eA]at a1;refine thn a1 fun _ s8 ⟨σ8,H8,I8,wk8,q8⟩=>?_
   have a2:=ht' _ s8 σ8 H8 _ I8 q8;rw[ex',eP,eW,eA]at a2;refine thn a2 fun ok s9 ⟨H9,I9,q9⟩=>?_
   have again:∀{H7':Hp}{s':qa4},Inv Y ([]++jz fp s7.heap) σ8 H7' s'->N H7'->∃m,m<n/\∃i H',Inv Y [] (stC src σ) H' s'/\tn i s'.heap/\(∀b∈fp,H' b=none)/\W i m H':=fun {H7' s'} J7 n7=>by obtain⟨m',hm,w7⟩:=hN H7' n7;refine⟨m',hm,i+1,H7',J7.unpinned.weak wk8.1 wk8.2,T.keep _ _ _ st7 fun b O o e=>(J7.pin (b,o) (qc3 _ (qc3 _ (dZ O e)))).1,fun b O=>?_,w7⟩;obtain⟨o,e,d⟩:=T.obj _ _ st7 b O;exact(J7.pin (b,o) (qc3 _ (qc3 _ (dZ O e)))).2.1
   cases ok with
   |false=>exact again I9 q9
   |true=>
    have a3:=he' _ s9 σ8 H9 _ I9 q9;rw[ex',eP,eW,eA]at a3;refine thn a3 fun v s10 ⟨y,H10,I10,r10,ys,hl,hz,q10⟩=>?_
    have a4:=jF (X:=Y) _ s10 σ8 H10 (.ref D) [y] (.ref D) [v] (fun _ H'=>N H') I10 rfl (.cons r10 .nil) ⟨D,ys,y,rfl,rfl,hl,hz,q10⟩;rw[ex',eP,eW,eA]at a4;refine thn a4 fun _ s11 ⟨_,H11,I11,_,q11⟩=>?_
    exact again I11 q11
 have e4:∀c:Env,c=Y.env->qp6 (model X.prog X.w) X.A (.compStart (.ListComp elt [⟨tg,iter,ifs,0⟩] scope pos) 0 (.ref it) (.ref D) c) (zf0 (model X.prog X.w) X.A X.xe use QQ (.ref D) Z.heap.objs.size) s4:=by rintro _ rfl;exact zc2 (loop _ rfl) (T.self _ _ _ _ _ st4 (loop _ rfl))
 exact e4 _ (by rw[eE];rfl)
theorem yV(hN:X.N.Nodup)(hi':X.N[i]?=some y)(O:Loc X.env.scope y)(hf:X.fn y=true∨X.env.scope.names.lookup y=some .local)
 (S:CmpScope X.N X.env.scope scope M src) (hc:X.calm=true) (hi:PI X tg iter wi) (hg:M.Nodup->∀C s H ex,PG (cxC X M scope C s H ex) tg g) (ht:∀C s H ex,PTs (cxC X M scope C s H ex) ifs tt)
 (he:∀C s H ex,PE (cxC X M scope C s H ex) elt te) (hs:∀x,qj0 iter X.env x=pure x)
 (hsw:qn7 (.ListComp elt [⟨tg,iter,ifs,0⟩] scope pos) (some (.Name y py)) spos.line X.env=pure true) :
  PS X (.Assign [.Name y py] (.ListComp elt [⟨tg,iter,ifs,0⟩] scope pos) spos) (yn (oP src wi g tt te) (kN i)):=by
 intro J1 s σ H D I h;rw[exec_Assign_Name_used _ _ _ _ hsw];refine wB (zg6 (wB ?_));show wpAny _ X.A (do let _ <- comprehension (.ListComp elt [⟨tg,iter,ifs,0⟩] scope pos) scope X.env _ (newList []) false (eval iter X.env) (some (zd3 (.Name y py) X.env))) _ _ s;refine wB (qk6 (ub (use:=some (zd3 (.Name y py) X.env)) (QQ:=fun _ s'=>∃Y H',Inv X J1 Y H' s'/\D.nx Y H') S hc hi hg ht he hs I h ?_) (fun _ s' hq=>qa3 (qa3 hq)) fun _ _ e=>e);intro Dd C H' s' m IA L hn q;show wpAny _ X.A (zd3 (.Name y py) X.env (.ref Dd)) _ _ s';refine wpAny_assign_Name (l9 IA hN hi' O (v:=.ref Dd) rfl (fun s2 I2 hsb=>?_) hf);obtain⟨a,sb,ha⟩:=hsb
 have ne:C≠a:=by
  rcases ha with rfl|ha
  .exact L.2.1
  .exact qo4 (L.2.2.2.2.1 y a ha)
 refine⟨m,hn.sameBut sb ne,fun h3 sb3=>⟨_,H',?_,q⟩⟩;have Z:∀b o,b≠C->s2.heap.get? b=some o->h3.get? b=some o:=fun b o W e=>sb3.extBut b o W e
 have nm:∀{b:J9},b∉[C]->b≠C:=fun W z=>W (by rw[z];exact qe6)
 refine I2.call' (s':={s2 with heap:=h3}) (ch:=[C]) rfl ⟨fun b o e n W O=>Z b o (nm O) e,fun b o e n W O=>⟨o.slots,Z b o (nm O) e⟩,fun b o e n O=>n,fun b o e O=>⟨o,Z b o (nm O) e⟩,fun b xs e=>e,fun b o u e=>e,fun b ps e=>⟨#[],by rw[Array.append_empty];exact e⟩,fun b qs e=>e⟩ ?_ I2.bare fun b W=>?_
 .intro b u e;have nb:b≠C:=fun z=>by rw[z,L.1]at e;cases e
  refine(I2.hok b u e).stay (fun c v hc' q=>Z c v ?_ q) (fun _ q=>q) (fun _ _ q=>q) fun _ _ _ q=>q
  rcases hc' with z|z
  .rw[z];exact nb
  .intro w;rw[w,L.1]at z;cases z
 .cases qa6.mp W;exact⟨L.2.2.2.1,L.2.1,L.2.2.2.2.1,L.2.2.2.2.2⟩
end
variable{sc:Jd}
section
variable{X:Cx}{elt tg iter:Jc}{ifs:List Jc}{scope:Jd}{pos:Pos}{M:List Str}{src:List (Option Nat)}{fi:De->Option (List Dt)}{ft:De->Option Bool}{fe:De->Option Dt}{i:Nat}
theorem BZ{f:De->Option T}{Q:VK}(h:tO K (toT (toD f)) σ H Q):tO K f σ H Q:=by obtain⟨Φ,δ,F,t,L,O,W,k⟩:=h;obtain⟨d,q,rfl⟩:=mS W;obtain⟨u,Y,q⟩:=bS q;exact⟨Φ,δ,F,u,L,O,Y,KL.to q k.leaf⟩
theorem ld{ts:List Nat}{bb:Dt->De->Option De}(h:de sc N i y=true)(hl:jH sc y=true)(Y:N.Nodup)(S:CmpScope X.N X.env.scope scope M src)(hc:X.calm=true)(hi:DIB X tg iter fi)(hg:M.Nodup->∀C s H ex,DG (cxC X M scope C s H ex) tg ts bb)
 (ht:∀C s H ex,DTs (cxC X M scope C s H ex) ifs ft) (he:∀C s H ex,DL (cxC X M scope C s H ex) elt fe) (W:(ts.all fun k=>decide (src[k]?=some none))=true) (L:∀x,qj0 iter X.env x=pure x:=by intro _;rfl)
 (e1:cW X sc:=by rfl) (e2:X.N=N:=by rfl) (hf:X.fn y=true∨X.env.scope.names.lookup y=some .local:=by exact .inl rfl) (O:qn7 (.ListComp elt [⟨tg,iter,ifs,0⟩] scope pos) (some (.Name y py)) spos.line X.env=pure true:=by rfl) :
  DS1 X (.Assign [.Name y py] (.ListComp elt [⟨tg,iter,ifs,0⟩] scope pos) spos) (aA i (toT (toD (bA src fi bb ft fe)))):=by
 have e1:X.env.scope=sc:=e1;subst e1 e2;refine PS.mono (yV (g:=gD X.K ts bb) (tt:=tTr X.K ft) (te:=tL X.K fe) Y (iG h) (kY hl) hf S hc hi (fun Y C s H ex=>hg Y C s H ex) (fun C s H ex=>ht C s H ex) (fun C s H ex=>he C s H ex) L O) fun D σ H ⟨Φ,δ,F,o,hK,en,q,k⟩=>?_
 unfold aA at q;obtain⟨t,Z,q⟩:=mS q;cases q;exact rP S W σ H _ (BZ ⟨Φ,δ,F,t,hK,en,Z,fun v H' F' S st o L=>k _ F' H' (en.put st (hK▸o) L i)⟩)
end
def iK(x:Str)(n:Int):Str:=if n<1 then Str.empty else if(n==1||x.length==0)=true then x else⟨(qf3 n.toNat x.cps).foldl (· ++ ·) #[]⟩
section
variable{X:Cx}
def o8(K:xA9):R2:=fun x y H Q=>∃a b ys,x=.ref a/\y=.ref b/\SqT K H a []/\SqT K H b ys/\Q (.ref b) H
def yW:OpR X (ql7 .Add) (o8 X.K):=by
 intro J1 s σ H x y v u Q I rx ry h;obtain⟨a,b,ys,rfl,rfl,ha,hb,q⟩:=h;cases rx;cases ry;obtain⟨J8,r1,p1,_⟩:=I.tuple ha;obtain⟨L,r2,p2,_⟩:=I.tuple hb;cases r1;obtain⟨⟨cls,dd,data,sl⟩,ho,hc,n,hd⟩:=id p1;obtain⟨⟨cls2,dd2,data2,Z⟩,O,W,n2,Y⟩:=id p2;simp only at hc hd W Y;subst hc hd W Y
 exact qx2 ⟨_,ho,rfl⟩ ⟨_,O,rfl⟩ qu1 za0 PySem.F.slot_tuple_add PySem.F.entry_tuple_add (PySem.F.args_tuple_add_2 _ _)
  (tuple_addW0 a b #[] L.toArray n n2 dd dd2 sl Z rfl) ⟨ho,O,⟨.ref b,H,I,rfl,q⟩⟩
def mI:Dt->Dt->Option T
 |.tup [],.tup m=>some (.leaf (.tup m))
 |.tup (d::l),.tup (e::m)=>aN (.tup (d::l)) (.tup (e::m))
 |_,_=>none
def rT:OpR X (ql7 .Add) (fun x y H Q=>o8 X.K x y H Q∨mz X.K x y H Q):=OpR.or yW aJ
def v4:R2D K (fun x y H Q=>o8 K x y H Q∨mz K x y H Q) mI:=by
 intro F H x y vx vy Q t L W Y q k;unfold mI at q;split at q<;>first|(cases q;done)|skip
 .rename_i m;cases q;obtain⟨a,vs,rfl,h1,h2⟩:=W;obtain⟨b,O,rfl,h3,Z⟩:=Y;simp only[Reps]at h2;subst h2;refine .inl ⟨a,b,O,rfl,rfl,L.tup h1,L.tup h3,k.leaf.here L ?_⟩;simp only[Rep];exact⟨b,O,rfl,h3,Z⟩
 .exact .inr (bv F H _ _ vx vy Q t L W Y q k)
end
section
variable{X:Cx}{pos:Pos}{k v:Jc}{ks:List (Option Jc)}{vs:List Jc}{fk fv:De->Option Dt}{g:De->Option (List (Key×Dt))}
end
def yX{k:Key}(h:(ca P w).is k u=true):RelV (kV k) u:=by
 rcases cz (show kL k u=true from h)with ⟨i,t,rfl,rfl⟩|⟨x,t,rfl,rfl⟩
 .exact⟨t,rfl⟩
 .exact⟨t,rfl⟩
section
variable{X:Cx}
end
def cH(sc:Jd)(N:List Str):Bool:=(qc7 N.length).all fun i=>match N[i]? with
 |some x=>de sc N i x&&jH sc x
 |none=>false
theorem nsB(h:cH sc N=true)(e:N[i]?=some x):de sc N i x=true/\jH sc x=true:=by have h1:=qj7.mp h i (qe1.mpr (gX e).1);rw[e]at h1;exact qp7.mp h1
def nsN(h:cH sc N=true)(i:Nat)(e:N[i]?=some x:=by rfl):de sc N i x=true:=(nsB h e).1
def nsL(h:cH sc N=true)(i:Nat)(e:N[i]?=some x:=by rfl):jH sc x=true:=(nsB h e).2
variable{X:Cx}
theorem pvN{pos:Pos}(i:Nat)(h:cH sc N=true)(e:N[i]?=some x:=by rfl)(e1:cW X sc:=by rfl)(q:X.N=N:=by rfl):PE X (.Name x pos) (iW i):=pvD i (nsN h i e) e1 q
def gMin:List Dt->Option T
 |[.int i,.int j]=>some (.leaf (.int (if j<i then j else i)))
 |_=>none
def rV:Key->Dt
 |.inl i=>.int i
 |.inr x=>.str x
def yY{F:Hp}(k:Key):Rep K F (rV k) (kV k):=by
 cases k with
 |inl i=>exact gp
 |inr x=>exact jc
def At(i j:Int):Prop:=0<j/\j<18446744073709551616
def fH:OpR X (ql7 .FloorDiv) (rI At fun i j=>.int (i/j)):=opI fun i j _ _ _ _ _ L q=>by
 have h1:(0:Int)<j:=L.1;have h2:j<18446744073709551616:=L.2;refine floordiv_int (by lia) (by rw[Int.fdiv_eq_ediv_of_nonneg i (by lia)];exact q) (.inl (PyProof.noPylong_of_log2 ?_));have h3:j.natAbs≠0:=by lia
 exact qx3 ((Nat.log2_lt h3).mpr (show j.natAbs<2^64 by lia)) (by decide)
def fg:Dt->Dt->Option T
 |.int i,.int j=>if 0<j/\j<18446744073709551616 then some (.leaf (.int (i/j)))else none
 |_,_=>none
def iL:R2D K (rI At fun i j=>.int (i/j)) fg:=by
 intro F H x y vx Z Q t L O Y q k;unfold fg at q;split at q<;>first|(cases q;done)|skip
 split at q
 .rename_i W;cases q;cases O;cases Y;exact⟨_,_,rfl,rfl,W,k.int L⟩
 .cases q
abbrev Orc:=J9->Hp->List Dt->Option T
noncomputable def v5(P:qc6)(w:Ja)(K:xA9)(mg:Str->Option Value)(base:Heap)(kk:Nat)(H:Hp)(G:Orc):Prop:=∀(f:J9)(F0:Hp)(ds:List Dt)(t:T),G f F0 ds=some t→
 (∃fo uf fd,H f=some (.frz fo uf)/\fo.data=.func fd)/\∀(A:qd5)(outer:List Env)(s:qa4)(H' F:Hp)(us:List Value)(vs:List V)(Q:VK),Room kk A->(∀b o u,H b=some (.frz o u)->H' b=some (.frz o u))->Env0 P w K mg base A outer s H'->Same F0 F->Same F H'->Vals vs us->Reps K F ds vs->KO K F H' t Q→
  qp6 (model P w) A (.call (.ref f) ⟨us,[]⟩) (CR CX0 outer P w H' s Q E0) s
def vCl(G:Orc)(i:Nat)(fs:De->Option (List Dt)):De->Option T:=fun δ=>match δ[i]? with
 |some (some (.fn a F0))=>(fs δ).bind (G a F0)
 |_=>none
section
variable{X:Cx}{e:Jc}{es:List Jc}{fs:De->Option (List Dt)}{p pos:Pos}{x:Str}{i kk:Nat}{G:Orc}
theorem kE (hx:PE X (.Name x p) (iW i)) (hG:v5 X.prog X.w X.K X.mg X.base kk X.H₀ G) (hr:Room kk X.A) (ha:DA X (e::es) fs)
  (he:qb0 (e::es) X.env=(false,eval e X.env)::qb0 es X.env:=by rfl) (hpl:(ql0 pos (qb0 es X.env)).any (·.1)=false:=by rfl):DO X (.Call (.Name x p) (e::es) [] pos) (vCl G i fs):=by
 intro J1 s σ H Q I h;obtain⟨Φ,δ,F,t,hK,Z,Y,k⟩:=h;unfold vCl at Y;split at Y<;>first|(cases Y;done)|skip
 rename_i a F0 hi;obtain⟨ds,hd,ht⟩:=bS Y;obtain⟨v,hv⟩:=Z.has i _ hi;obtain⟨S,sp⟩:=Z.sep;obtain⟨rfl,hF0⟩:=sp.own i _ _ (cL hi hv);obtain⟨⟨fo,uf,fd,g1,g2⟩,run⟩:=hG a F0 ds t ht
 have q:∀{J1:List (J9×Obj)}{σ:St}{H:Hp}{s:qa4},Inv X J1 σ H s->PySem.W.FnAt a s.heap:=fun {J1 σ H s} J=>by have e1:=(J.hok a _ (J.base.frzs a fo uf g1)).1;obtain⟨oc,od,dt,sl⟩:=fo;cases (show dt=.func fd from g2);exact⟨oc,od,fd,sl,e1⟩
 refine qo2 (thn (hx J1 s σ H (fun v H'=>v=.ref a/\H'=H) I ⟨.ref a,hv,rfl,rfl⟩) fun u s1 h1=>?_);obtain⟨v1,H1,I1,r1,rfl,rfl⟩:=h1;cases r1;refine PySem.W.callWith_F (q I1) (thn (ha.pa pos J1 s1 σ _ (fun vs H'=>∃F',Step F _ F' H'/\Reps X.K F' ds vs) I1 ⟨Φ,δ,F,ds,hK,Z,hd,fun vs H' F' st r=>⟨F',st,r⟩⟩) fun us s2 h2=>?_) he hpl;obtain⟨vs,H2,O,r2,F2,st,rc⟩:=h2;refine⟨q O,zh6 (qq9 (run X.A X.stack s2 H2 F2 us vs Q hr (fun b o u z=>O.base.frzs b o u z) O.env0 (hF0.trans st.ff) st.fh r2 rc (k.step st)) fun r s' L=>?_)⟩;cases r with
 |error e=>exact L.elim
 |ok fl=>
  cases fl with
  |ret u=>exact O.after L
  |next=>exact qg5 L
  |brk=>exact qg5 L
  |cont=>exact qg5 L
end
def deR(m:Nat)(d:Dt)(f1 f2:J9)(F0:Hp):De:=some (.leaf d)::some (.fn f1 F0)::some (.fn f2 F0)::qf3 (m-3) none
def nN(m:Nat)(g:De->Option Out)(d:Dt)(f1 f2:J9)(F0:Hp):Option T:=match g (deR m d f1 f2 F0)with
 |some (.rt t)=>some t
 |some (.nx _)=>some (.leaf .non)
 |_=>none
noncomputable def spR(P:qc6)(w:Ja)(K:xA9)(mg:Str->Option Value)(base:Heap)(kk:Nat)(FR:Orc->Dt->J9->J9->Hp->Option T):Sp:=fun vs H Q _=>∃G F d f1 f2 t v,v5 P w K mg base kk H G/\Same F H/\vs=[v,.ref f1,.ref f2]/\Rep K F d v/\FR G d f1 f2 F=some t/\KO K F H t Q
variable{f1 f2:J9}
theorem mJ{F:Hp}{d:Dt}(O:Same F H)(r:Rep K F d v):En ⟨K,F,H,fun _=>False⟩ (deR N.length d f1 f2 F) (start N [v,.ref f1,.ref f2]) F H:=by
 have L:∀(i:Nat)(t:T),(deR N.length d f1 f2 F)[i]?=some (some t)->∃q,(start N [v,.ref f1,.ref f2])[i]?=some (some q)/\Own K F H t q fun _=>False:=fun i t h=>by
  unfold deR at h
  match i with
  |0=>cases h;exact⟨v,rfl,r⟩
  |1=>cases h;exact⟨_,rfl,rfl,Same.refl _⟩
  |2=>cases h;exact⟨_,rfl,rfl,Same.refl _⟩
  |i+3=>rw[qk3,qk3,qk3,qk0]at h;split at h<;>cases h
 refine⟨O,fun b o h _=>h,Same.refl _,fun b o h=>.inl h,by simp[start,deR],fun i t h=>?_,fun _ _=>False,fun i t q h=>?_,fun _ _ z=>z.elim,fun _ _ _ z=>z.elim⟩
 .obtain⟨q,e,_⟩:=L i t h;exact⟨q,e⟩
 .obtain⟨h1,h2⟩:=eS h;obtain⟨w,e,o⟩:=L i t h1;rw[h2]at e;cases e;exact o
variable{st:Jb}{ps:List Str}{kk:Nat}
section
variable{P:qc6}{w:Ja}{K:xA9}{mg:Str->Option Value}{base:Heap}
theorem v6{k:Nat}{g:Orc->De->Option Out}(D:DefF K mg x st ps)(S:FnScope N ps (ac st))(hn:ps.length=3)
 (L:∀(f:J9)(cdv:Value)(A:qd5)(outer:List Env)(s:qa4)(H:Hp)(E:XK),Room k (A.deeper (qy3 x (ac st) s.heap.objs.size f cdv))->∀G:Orc,v5 P w K mg base kk H G->DS (kQ CX0 P w K mg base N x (ac st) f cdv A outer s H E).nox (bi st) (g G)) :
  OkF P w K mg base x (k+1) ps (spR P w K mg base kk fun G=>nN N.length (g G)):=by
 refine D.ok S (fun vs H Q E h=>?_) (fun f cdv A outer s H vs Q E hr h=>?_)
 .obtain⟨G,F,d,f1,f2,t,v,_,_,rfl,_⟩:=h;exact hn.symm
 .obtain⟨G,F,d,f1,f2,t,v,Y,W,rfl,r,O,kq⟩:=h;refine⟨_,L f cdv A outer s H E hr G Y,?_⟩;unfold nN at O;dsimp only at O;split at O
  .rename_i t' q;cases O;exact⟨⟨K,F,H,fun _=>False⟩,_,F,_,rfl,mJ W r,q,fun v F' H' z=>z.step kq⟩
  .rename_i δ' q;cases O;exact⟨⟨K,F,H,fun _=>False⟩,_,F,_,rfl,mJ W r,q,fun Z F' H' z=>(z.rt (Step.refl z.fh) (t:=.leaf .non) (S:=fun _=>False) (jd (K:=K) (F:=F')) fun _ y=>y.elim).step kq⟩
  .cases O
end
section
variable{X:Cx}{x:Str}{p pos:Pos}{e:Jc}{es:List Jc}{t:TA}{f:J9}{fd:qp2}{ps:List Str}{sp:Sp}{k:Nat}
def B1(X:Cx)(sp:Sp)(t:TA):TE:=fun σ H Q=>t σ H fun vs H1=>∀H',PlusC X σ H1 H'->sp vs H' (fun v H2=>(∀c,cg X c->H2 c=H' c)->Q v (j5 X H2)) E0
theorem v7(I:Inv X J1 σ H s)(L:∀x,X.fn x=true):∀b,cg X b->b∉frs X.stack/\∀o,X.base.get? b≠some o:=fun b ⟨x,O⟩=>by
 have q:=I.ok.cab x b (L x) O;refine⟨fun z=>?_,fun o e=>?_⟩
 .rcases qa9.mp (I.stkSub b z)with y|y
  .exact I.cne x b O y
  .obtain⟨_,o,W,_⟩:=I.ok.funs.mem y;exact absurd (qa8 W) (qy7.mpr q)
 .exact absurd (qb9 (qa8 e) I.ok.bsz) (qy7.mpr q)
theorem v8 (F:FnOk X.prog X.w X.K X.mg X.base CX0 k f fd ps sp) (hr:Room k X.A) (hg:Gl X x) (hm:X.mg x=some (.ref f)) (hk:xE9 X.K (.ref f)=true) (hb:Binds X.K fd ps []) (hfn:∀ x,X.fn x=true)
  (ha:PA X (e::es) t) (Y:(x==("__debug__":Str))=false:=by decide) (he:qb0 (e::es) X.env=(false,eval e X.env)::qb0 es X.env:=by rfl) (Z:(ql0 pos (qb0 es X.env)).any (·.1)=false:=by rfl) :
  PE X (.Call (.Name x p) (e::es) [] pos) (B1 X sp t):=by
 intro J1 s σ H Q I h;refine qo2 (nn I hg hm ?_ Y);refine PySem.W.callWith_K (h₀:=X.base) I.ok.mod.kin hk (thn (ha pos J1 s σ H _ I h) fun us s1 ⟨vs,H1,O,r,q⟩=>⟨O.kIn,?_⟩) he Z;obtain⟨H',pc,e0⟩:=yJ O (v7 O hfn);have hs:=q H' pc;have hl:(us++[]).length=ps.length:=by rw[qg2,<- r.length];exact F.len _ _ _ _ hs
 refine zh6 (qq9 (F.run X.A X.stack s1 H' ⟨us,[]⟩ (us++[]) vs _ E0 hr e0 (hb s1 us O.kIn hl) (by rw[qg2];exact r) hs) fun r s' L=>?_);cases r with
 |error e=>exact L.elim
 |ok fl=>
  cases fl with
  |ret u=>exact O.afterP pc e0.hok L
  |next=>exact qg5 L
  |brk=>exact qg5 L
  |cont=>exact qg5 L
end
open Classical in
def uc(f1 f2:J9)(F1:Hp)(g1 g2:List Dt->Option T):Orc:=fun a F0 ds=>if a=f1/\F0=F1/\ds.length=1 then g1 ds else if a=f2/\F0=F1/\ds.length=1 then g2 ds else none
variable{F1:Hp}{g1 g2:List Dt->Option T}
def v9{d:Dt}:uc f1 f2 F1 g1 g2 f1 F1 [d]=g1 [d]:=if_pos ⟨rfl,rfl,rfl⟩
theorem wa{d:Dt}(h:f1≠f2):uc f1 f2 F1 g1 g2 f2 F1 [d]=g2 [d]:=(if_neg fun z=>h z.1.symm).trans (if_pos ⟨rfl,rfl,rfl⟩)
noncomputable def FnIn(H:Hp)(f:J9)(name qual:Str)(params:qi9)(body:List Jb)(scope:Jd)(cl:List (Str×J9)):Prop:=∃fo uf c' doc pm ctv,H f=some (.frz fo uf)/\fo.data=.func (xF9 name qual params body scope cl .none .none doc pm none (.ref c') ctv)/\∃oc,H c'=some (.frz oc (.code qual))
variable{f:J9}{qual:Str}{params:qi9}{body:List Jb}{scope:Jd}
theorem FnIn.up{name:Str}{cl:List (Str×J9)}(h:FnIn H f name qual params body scope cl)(s:∀b o u,H b=some (.frz o u)->H' b=some (.frz o u)):FnIn H' f name qual params body scope cl:=by obtain⟨fo,uf,c',doc,pm,ctv,h1,h2,oc,h3⟩:=h;exact⟨fo,uf,c',doc,pm,ctv,s _ _ _ h1,h2,oc,s _ _ _ h3⟩
def gv(δ:De):List Nat->Option (List Dt)
 |[]=>some []
 |j::js=>match δ[j]? with
  |some (some (.leaf d))=>(gv δ js).map (d::·)
  |_=>none
structure NestD(X:Cx)(name qual:Str)(params:qi9)(body:List Jb)(scope:Jd)(N ps fr:List Str)(js:List Nat)(g:De->Option Out)(kk:Nat):Prop where
 S:ClScope N ps fr scope
 ndn:∀x,∀y∈scope.names,y.1=x->scope.names.lookup x=some y.2
 one:ps.length=1
 fre:∀x∈scope.names,x.2=.free->X.env.kindOf x.1=some .cell
 jl:js.length=fr.length
 nm:∀(i j:Nat)(x:Str),fr[i]?=some x->js[i]?=some j->X.N[j]?=some x/\X.env.kindOf x=some .cell
 bd:∀(s:qa4)(cl:List (Str×J9))(doc pm ctv cd:Value)(us:List Value),us.length=ps.length->qz9 s (xF9 name qual params body scope cl .none .none doc pm none cd ctv) ⟨us,[]⟩ (ps.zip us)
 body:∀(f c':J9)(cl:List (Str×J9))(A:qd5)(outer:List Env)(s:qa4)(H:Hp),Room kk (A.deeper (i7 qual scope s.heap.objs.size f (.ref c') cl))->DS (oR CX0 X.prog X.w X.K X.mg X.base N qual scope f (.ref c') cl A outer s H E0 fun _ _=>False) body g
variable{names:List (Str×qo3)}{cells:List (Str×J9)}{js:List Nat}{g:De->Option Out}
section
variable{X:Cx}
def lg{c:J9}(h:(x,c)∈gm names cells):(x,qd9)∈names/\c=(cells.lookup x).getD 0:=by
 have L:∀(names:List (Str×qo3))(J5:List (Str×J9)),(x,c)∈names.foldl (fun cs q=>if q.2==qd9 then(q.1,(cells.lookup q.1).getD 0)::cs else cs) J5->(x,c)∈J5∨((x,qd9)∈names/\c=(cells.lookup x).getD 0):=fun names=>by
  induction names with
  |nil=>intro J5 h;exact .inl h
  |cons y r O=>
   intro J5 h;rw[qi6]at h;rcases O _ h with z|z
   .split at z
    .rename_i hk;rcases qa9.mp z with e|z
     .obtain⟨a,k⟩:=y;cases e;have hk:k=qd9:=by simpa using hk
      subst hk;exact .inr ⟨.head _,rfl⟩
     .exact .inl z
    .exact .inl z
   .exact .inr ⟨.tail _ z.1,z.2⟩
 rcases L names [] h with z|z
 .cases z
 .exact z
def ud(h:(x,qd9)∈names):∃c,(gm names cells).lookup x=some c:=by
 have L:∀(names:List (Str×qo3))(J5:List (Str×J9)),((x,qd9)∈names∨∃c,J5.lookup x=some c)->∃c,(names.foldl (fun cs q=>if q.2==qd9 then(q.1,(cells.lookup q.1).getD 0)::cs else cs) J5).lookup x=some c:=fun names=>by
  induction names with
  |nil=>
   intro J5 h;rcases h with h|h
   .cases h
   .exact h
  |cons y r O=>
   intro J5 h;rw[qi6];refine O _ ?_;rcases h with h|⟨c,h⟩
   .rcases qa9.mp h with e|h
    .subst e;right;simp
    .exact .inl h
   .right;split
    .rw[qg3];cases x==y.1 with
     |true=>exact⟨_,rfl⟩
     |false=>exact⟨c,h⟩
    .exact⟨c,h⟩
 exact L names [] (.inl h)
theorem lh{F:Hp}(L:En Φ δ σ F H):∀{js:List Nat}{caps:List Dt},gv δ js=some caps->∃fs:List V,Reps Φ.K F caps fs/\fs.length=js.length/\∀(i j:Nat)(v:V),js[i]?=some j->fs[i]?=some v->σ[j]?=some (some v)
 |[],caps,h=>by cases h;exact⟨[],by simp only[Reps],rfl,fun i j v h=>by simp at h⟩
 |j::js,caps,h=>by
  simp only[gv]at h;split at h<;>first|(cases h;done)|skip
  rename_i d Z;obtain⟨cs,q,rfl⟩:=mS h;obtain⟨v,hv,Y⟩:=L.leaf Z;obtain⟨fs,h1,h2,h3⟩:=lh L q;refine⟨v::fs,by simp only[Reps];exact⟨v,fs,rfl,Y,h1⟩,by simp[h2],fun i W O q1 q2=>?_⟩;cases i with
  |zero=>simp at q1 q2;subst q1 q2;exact hv
  |succ i=>exact h3 i W O (by simpa using q1) (by simpa using q2)
theorem NestD.at{name:Str}{fr:List Str}(D:NestD X name qual params body scope N ps fr js g kk)(O:∀x y c,X.env.cells.lookup x=some c->X.env.cells.lookup y=some c->x=y)(L:∀x,X.env.kindOf x=some .cell->∃c,X.env.cells.lookup x=some c)
 (pc:PlusC X σ H H') (fi:FnIn H' f name qual params body scope (gm scope.names X.env.cells)) {fs:List V} (hl:fs.length=js.length) (hv:∀(i j:Nat)(v:V),js[i]?=some j->fs[i]?=some v->σ[j]?=some (some v)) (W:∀x∈scope.names,x.2=.free->x.1∈fr) :
  ∃c' doc pm ctv fo uf,ClAt H' f name qual params body scope (gm scope.names X.env.cells) fr fs c' doc pm ctv fo uf:=by
 obtain⟨fo,uf,c',doc,pm,ctv,h1,h2,h3⟩:=fi;have cells:∀x,(x,qd9)∈scope.names->∃c,X.env.cells.lookup x=some c:=fun x hx=>L x (D.fre (x,.free) hx rfl)
 have look:∀x c,(x,c)∈gm scope.names X.env.cells->X.env.cells.lookup x=some c:=fun x c h=>by obtain⟨a,b⟩:=lg h;obtain⟨c2,e⟩:=cells x a;rw[e]at b;rw[e,b];rfl
 have Z:∀x c,(x,c)∈gm scope.names X.env.cells->∃(i:Nat)(o:Obj)(v:V)(u:Value),fr[i]?=some x/\fs[i]?=some v/\H' c=some (gI c o)/\o.data=.cell (some u)/\RelV v u:=fun x c h=>by obtain⟨a,_⟩:=lg h;obtain⟨i,hi⟩:=qj9 (W _ a rfl);have hif:i<fr.length:=(gX hi).1;have hjl:=D.jl;have q:js[i]?=some js[i]:=gQ (by lia);have Y:fs[i]?=some fs[i]:=gQ (by lia);obtain⟨n1,n2⟩:=D.nm i _ x hi q;obtain⟨o,v,g1,g2,g3⟩:=pc.cel x c (look x c h);obtain⟨u,rfl,ru⟩:=g3 _ _ n1 (hv i _ _ q Y) (.inl n2);exact⟨i,o,_,u,hi,Y,g1,g2,ru⟩
 refine⟨c',doc,pm,ctv,fo,uf,⟨h1,h2,h3,fun x c h=>?_,fun x y c e1 e2=>?_,?_,fun i x v e1 e2=>?_,fun x c e=>?_⟩⟩
 .obtain⟨_,o,_,u,_,_,g1,g2,_⟩:=Z x c h;exact⟨o,u,g1,g2⟩
 .exact O x y c (look x c (PySem.mem_of_lookup e1)) (look y c (PySem.mem_of_lookup e2))
 .rw[hl,D.jl]
 .have hx:=D.S.frk x (qd0 e1);obtain⟨c,e⟩:=ud (cells:=X.env.cells) (PySem.mem_of_lookup hx);have hif:i<fr.length:=(gX e1).1;have hjl:=D.jl;have q:js[i]?=some js[i]:=gQ (by lia);obtain⟨n1,n2⟩:=D.nm i _ x e1 q;obtain⟨o,w,g1,g2,g3⟩:=pc.cel x c (look x c (PySem.mem_of_lookup e));obtain⟨u,rfl,ru⟩:=g3 _ _ n1 (hv i _ _ q e2) (.inl n2);exact⟨c,o,u,e,g1,g2,ru⟩
 .obtain⟨a,_⟩:=lg (PySem.mem_of_lookup e);exact D.ndn x _ a rfl
end
variable{Hp':Hp}
section
variable{X:Cx}{K:xA9}
theorem Step.hide{F H1:Hp}(Z:Same F H)(q:PlusC X σ H Hp')(a:Step F Hp' F1 H1):Step F H F1 (j5 X H1):=by
 have L:∀{b:J9},cg X b->∃o,Hp' b=some (gI b o):=fun {b}⟨x,hx⟩=>by obtain⟨o,v,e,_⟩:=q.cel x b hx;exact⟨o,e⟩
 have O:∀{b:J9}{o:HO},F1 b=some o->¬ cg X b:=fun {b o} e W=>by
  obtain⟨ob,g1⟩:=L W;rcases a.nw b o e with z|z|⟨xs,z⟩
  .have:=Z b o z;rw[q.fre b W]at this;cases this
  .rw[g1]at z;cases z
  .rw[g1]at z;cases z
 refine⟨fun b o e=>?_,a.ff,fun b o e=>?_,fun b o e=>?_⟩
 .have Y:¬ cg X b:=fun z=>by rw[q.fre b z]at e;cases e
  rw[cU Y];exact a.hh b o (by rw[q.out b Y];exact e)
 .rw[cU (O e)];exact a.fh b o e
 .rw[<- q.out b (O e)];exact a.nw b o e
theorem KO.hide{F:Hp}{t:T}{Q:VK}(Z:Same F H)(L:PlusC X σ H Hp')(k:KO K F H t Q):KO K F Hp' t fun v H2=>Q v (j5 X H2):=fun v H2 Y S st o O=>by
 have q:∀b,S b->¬ cg X b:=fun b z ⟨x,hx⟩=>by obtain⟨ob,_,e,_⟩:=L.cel x b hx;rw[(O b z).2.1]at e;cases e
 refine k v _ Y S (Step.hide Z L st) (o.step (Same.refl _) fun b u z e=>by rw[cU (q b z)];exact e) fun b z=>?_
 obtain⟨h1,h2,u,h3,W⟩:=O b z;exact⟨h1,by rw[<- L.out b (q b z)];exact h2,u,by rw[cU (q b z)];exact h3,W⟩
end
section
variable{X:Cx}{e0:Jc}{p p1 p2 pos:Pos}{x n1 n2 q1 q2:Str}{par1 par2:qi9}{bod1 bod2:List Jb}{sc1 sc2:Jd}{N1 ps1 fr1 N2 ps2 fr2:List Str}{js1 js2:List Nat}{g1 g2:De->Option Out}{k kk i1 i2:Nat}{ps:List Str}{FR:Orc->Dt->J9->J9->Hp->Option T}{f0:De->Option Dt}
noncomputable def wb(X:Cx)(i1 i2:Nat)(n1 n2 q1 q2:Str)(par1 par2:qi9)(bod1 bod2:List Jb)(sc1 sc2:Jd)(σ:St)(H:Hp)(f1 f2:J9):Prop:=σ[i1]?=some (some (.ref f1))/\σ[i2]?=some (some (.ref f2))/\f1≠f2/\FnIn H f1 n1 q1 par1 bod1 sc1 (gm sc1.names X.env.cells)/\FnIn H f2 n2 q2 par2 bod2 sc2 (gm sc2.names X.env.cells)
noncomputable def tRt(X:Cx)(i1 i2:Nat)(n1 n2 q1 q2:Str)(par1 par2:qi9)(bod1 bod2:List Jb)(sc1 sc2:Jd)(N1 N2:List Str)(js1 js2:List Nat)(g1 g2:De->Option Out)(f0:De->Option Dt)(FR:Orc->Dt->J9->J9->Hp->Option T):TE:=fun σ H Q=>∃ Φ δ F f1 f2 d0 L q t,Fm.K Φ=X.K/\En Φ δ σ F H/\wb X i1 i2 n1 n2 q1 q2 par1 par2 bod1 bod2 sc1 sc2 σ H f1 f2/\f0 δ=some d0/\gv δ js1=some L/\gv δ js2=some q/\(∀F0,FR (uc f1 f2 F0 (iw N1.length g1 L) (iw N2.length g2 q)) d0 f1 f2 F0=some t)/\KO X.K F H t Q
theorem Au (F:OkF X.prog X.w X.K X.mg X.base x k ps (spR X.prog X.w X.K X.mg X.base (kk+1) FR)) (hr:Room k X.A) (hg:Gl X x) (hfn:∀ x,X.fn x=true) (h0:DL X e0 f0) (hv1:PE X (.Name n1 p1) (iW i1)) (hv2:PE X (.Name n2 p2) (iW i2))
  (D1:NestD X n1 q1 par1 bod1 sc1 N1 ps1 fr1 js1 g1 kk) (Z:NestD X n2 q2 par2 bod2 sc2 N2 ps2 fr2 js2 g2 kk) (ha1:∀x∈sc1.names,x.2=.free->x.1∈fr1) (ha2:∀x∈sc2.names,x.2=.free->x.1∈fr2) (hdb:(x==("__debug__":Str))=false:=by decide)
  (s0:qb0 [e0,.Name n1 p1,.Name n2 p2] X.env=(false,eval e0 X.env)::qb0 [.Name n1 p1,.Name n2 p2] X.env:=by rfl) (s1:qb0 [.Name n1 p1,.Name n2 p2] X.env=(false,eval (.Name n1 p1) X.env)::qb0 [.Name n2 p2] X.env:=by rfl) (s2:qb0 [.Name n2 p2] X.env=(false,eval (.Name n2 p2) X.env)::qb0 [] X.env:=by rfl)
  (hpl:(ql0 pos (qb0 [.Name n1 p1,.Name n2 p2] X.env)).any (·.1)=false:=by rfl) :
  PE X (.Call (.Name x p) [e0,.Name n1 p1,.Name n2 p2] [] pos) (tRt X i1 i2 n1 n2 q1 q2 par1 par2 bod1 bod2 sc1 sc2 N1 N2 js1 js2 g1 g2 f0 FR):=by
 obtain⟨f,fd,hm,hk,hb,FF⟩:=F.ex;intro J1 s σ H Q I h;refine(v8 FF hr hg hm hk hb hfn (dM h0 (dM hv1 (dM hv2 gU s2) s1) s0) hdb s0 hpl) J1 s σ H Q I ?_;obtain⟨Φ,δ,F,f1,f2,d0,Y,O,t,hK,en,⟨v1,v2,hne,fi1,fi2⟩,hf0,hc1,hc2,hrun,kq⟩:=h;refine⟨Φ,δ,F,d0,hK,en,hf0,fun v H1 F1 st r1=>⟨.ref f1,v1,.ref f2,v2,fun H' pc=>?_⟩⟩
 have up1:∀b o,H1 b=some o->H' b=some o:=fun b o z=>by rw[pc.out b fun y=>by rw[pc.fre b y]at z;cases z];exact z
 have up:∀b o u,H b=some (.frz o u)->H' b=some (.frz o u):=fun b o u z=>up1 _ _ (st.hh _ _ z)
 obtain⟨fs1,rc1,hl1,hs1⟩:=lh en hc1;obtain⟨fs2,rc2,hl2,hs2⟩:=lh en hc2;rw[hK]at rc1 rc2;have q:∀x,X.env.kindOf x=some .cell->∃c,X.env.cells.lookup x=some c:=fun x hx=>I.ok.has x (.inl hx)
 obtain⟨c1',doc1,pm1,ctv1,fo1,uf1,C1⟩:=D1.at I.ok.inj q pc (fi1.up up) hl1 hs1 ha1
 obtain⟨c2',doc2,pm2,ctv2,fo2,uf2,C2⟩:=Z.at I.ok.inj q pc (fi2.up up) hl2 hs2 ha2
 refine⟨uc f1 f2 F1 (iw N1.length g1 Y) (iw N2.length g2 O),F1,d0,f1,f2,t,v,fun f F0 ds t hG=>?_,fun b o z=>up1 b o (st.fh b o z),rfl,r1,hrun F1,fun v' H2 F2 S st2 o hs _=>KO.hide st.fh pc (kq.step st) v' H2 F2 S st2 o hs⟩;unfold uc at hG;split at hG
 .rename_i hh;obtain⟨rfl,rfl,hd⟩:=hh;refine⟨⟨fo1,uf1,_,C1.fn,C1.dat⟩,fun A outer s H2 F2 us vs Q2 W hp e0 h0 fh r rd L=>?_⟩;exact rQ D1.S D1.ndn C1 (rc1.same st.ff) (fun s us hu=>D1.bd s _ _ _ _ _ us hu) (fun A outer s H hr=>D1.body _ _ _ A outer s H hr) (by rw[hd,D1.one]) hG A outer s H2 F2 us vs Q2 W hp e0 h0 fh r rd L
 .split at hG
  .rename_i hh;obtain⟨rfl,rfl,hd⟩:=hh;refine⟨⟨fo2,uf2,_,C2.fn,C2.dat⟩,fun A outer s H2 F2 us vs Q2 W hp e0 h0 fh r rd L=>?_⟩;exact rQ Z.S Z.ndn C2 (rc2.same st.ff) (fun s us hu=>Z.bd s _ _ _ _ _ us hu) (fun A outer s H hr=>Z.body _ _ _ A outer s H hr) (by rw[hd,Z.one]) hG A outer s H2 F2 us vs Q2 W hp e0 h0 fh r rd L
  .cases hG
end
noncomputable def rW(i:Nat)(name qual:Str)(params:qi9)(body:List Jb)(scope:Jd)(clos:List (Str×J9)):TS:=fun D σ H=>∀(f c':J9)(doc pm ctv:Value)(H':Hp),MadeH H H' f c' qual {cls:=.type "function",data:=.func (xF9 name qual params body scope clos .none .none doc pm none (.ref c') ctv)}->D.nx (σ.set i (some (.ref f))) H'
section
variable{X:Cx}{c P:J9}{qs:List ((Nat×Nat)×Str)}{name qual:Str}{params:qi9}{body:List Jb}{scope:Jd}{clos:List (Str×J9)}{pos:Pos}{i:Nat}
theorem yZ (hN:X.N.Nodup) (hi:X.N[i]?=some name) (hx:Loc X.env.scope name) (Z:X.fn name=true∨X.env.scope.names.lookup name=some .local) (B:TabB X.mg X.base c P) (L:X.env.code=.ref c) (hT:(P,qs)∈dL X.K) (O:qualnameIn X.env name name=qual) (hq:((pos.line,pos.col),qual)∈qs) (hun:∀ q,((pos.line,pos.col),q)∈qs->q=qual) (W:ze9 scope X.env=pure clos)
  (Y:params.defaults=[]) (hk0:params.kw_defaults=[]) (ha:annTrees params none X.env=[]):PS X (.FunctionDef name params body [] none [] scope none name pos) (rW i name qual params body scope clos):=fun J1 s σ H D I h=>
 BS hN hi hx Z B L O hq hun W Y hk0 ha J1 s σ H D I ⟨I.base.cts _ _ (I.ok.tb _ hT),h⟩
end
section
variable{X:Cx}{e0:Jc}{pos:Pos}{n1 n2 q1 q2:Str}{par1 par2:qi9}{bod1 bod2:List Jb}{sc1 sc2:Jd}{N1 N2:List Str}{js1 js2:List Nat}{g1 g2:De->Option Out}{i1 i2:Nat}{FR:Orc->Dt->J9->J9->Hp->Option T}{f0:De->Option Dt}{K:xA9}
noncomputable def tG2(X:Cx)(i1 i2:Nat)(n1 n2 q1 q2:Str)(par1 par2:qi9)(bod1 bod2:List Jb)(sc1 sc2:Jd)(g:De->Option Out):TS:=fun D σ H=>∃ Φ δ F f1 f2 o,Fm.K Φ=X.K/\En Φ δ σ F H/\wb X i1 i2 n1 n2 q1 q2 par1 par2 bod1 bod2 sc1 sc2 σ H f1 f2/\g δ=some o/\Post Φ D o
theorem En.clear{F:Hp}(e:En Φ δ σ F H)(i:Nat)(v:V):En Φ (δ.set i none) (σ.set i (some v)) F H:=by
 obtain⟨S,s⟩:=e.sep;refine⟨e.fh,e.prot,e.old,e.nw,by simp[e.len],fun j t h=>?_,S,fun j t u h=>?_,s.out,s.dis⟩
 .rcases eM h with ⟨_,z⟩|⟨q,z⟩
  .cases z
  .obtain⟨w,L⟩:=e.has j t z;exact⟨w,by rw[gN q];exact L⟩
 .obtain⟨h1,h2⟩:=eS h;rcases eM h1 with ⟨_,z⟩|⟨q,z⟩
  .cases z
  .rw[gN q]at h2;exact s.own j t u (cL z h2)
def nO(i1 i2:Nat)(δ:De):De:=(δ.set i1 none).set i2 none
def o9{ss:List Jb}(hne:i1≠i2)(hl1:∀ σ:St,σ.length=X.N.length->i1<σ.length/\i2<σ.length)
 (h1:PS X (.FunctionDef n1 par1 bod1 [] none [] sc1 none n1 p1) (rW i1 n1 q1 par1 bod1 sc1 (gm sc1.names X.env.cells))) (h2:PS X (.FunctionDef n2 par2 bod2 [] none [] sc2 none n2 p2) (rW i2 n2 q2 par2 bod2 sc2 (gm sc2.names X.env.cells)))
 (hs:PSs X ss (tG2 X i1 i2 n1 n2 q1 q2 par1 par2 bod1 bod2 sc1 sc2 g)) :
  DS X (.FunctionDef n1 par1 bod1 [] none [] sc1 none n1 p1::.FunctionDef n2 par2 bod2 [] none [] sc2 none n2 p2::ss) fun δ=>g (nO i1 i2 δ):=by
 intro J1 s σ H D I h;refine iX h1 (iX h2 hs) J1 s σ H D I ?_;obtain⟨Φ,δ,F,o,hK,en,hg,k⟩:=h;obtain⟨l1,l2⟩:=hl1 σ I.len;intro f1 c1 L pm1 O H1 Z f2 c2 W pm2 Y H2 q
 have hf:f1≠f2:=fun z=>by have:=q.free;rw[<- z,Z.fn]at this;cases this
 have sm:Same H H2:=fun b o e=>q.old b o (Z.old b o e)
 refine⟨Φ,nO i1 i2 δ,F,f1,f2,o,hK,((en.step ⟨sm,Same.refl _,en.fh.trans sm,fun _ _ e=>.inl e⟩).clear i1 (.ref f1)).clear i2 (.ref f2),⟨?_,?_,hf,?_,?_⟩,hg,k⟩
 .rw[gN (qo4 hne)];exact qf5 l1
 .exact qf5 (by simpa using l2)
 .obtain⟨oc,hc⟩:=Z.cod;exact⟨_,_,c1,L,pm1,O,q.old _ _ Z.fn,rfl,oc,q.old _ _ hc⟩
 .obtain⟨oc,hc⟩:=q.cod;exact⟨_,_,c2,W,pm2,Y,q.fn,rfl,oc,hc⟩
noncomputable def B2(N1 N2:List Str)(g1 g2:De->Option Out)(FR:Orc->Dt->J9->J9->Hp->Option T)(d0:Dt)(L q:List Dt)(r:T):Prop:=∀f1 f2 F0,f1≠f2->FR (uc f1 f2 F0 (iw N1.length g1 L) (iw N2.length g2 q)) d0 f1 f2 F0=some r
open Classical in
noncomputable def fRt(js1 js2:List Nat)(N1 N2:List Str)(g1 g2:De->Option Out)(f0:De->Option Dt)(FR:Orc->Dt->J9->J9->Hp->Option T):De->Option T:=fun δ=>(f0 δ).bind fun d=>(gv δ js1).bind fun a=>(gv δ js2).bind fun b=>if h:∃r,B2 N1 N2 g1 g2 FR d a b r then some h.choose else none
theorem wc{d0:Dt}{a b:List Dt}{r:T}(W:f0 δ=some d0)(L:gv δ js1=some a)(O:gv δ js2=some b)(h:B2 N1 N2 g1 g2 FR d0 a b r):fRt js1 js2 N1 N2 g1 g2 f0 FR δ=some r:=by
 have q:∃r,B2 N1 N2 g1 g2 FR d0 a b r:=⟨r,h⟩
 have e:q.choose=r:=by have h1:=q.choose_spec 0 1 (fun _=>none) (by decide);have h2:=h 0 1 (fun _=>none) (by decide);exact qd4 (h1.symm.trans h2)
 unfold fRt;rw[W,L,O];simp only[qa2];rw[dif_pos q,e]
theorem we {F:Hp} {t:T} {Q:VK} (L:Φ.K=X.K) (W:En Φ δ σ F H) (fs:wb X i1 i2 n1 n2 q1 q2 par1 par2 bod1 bod2 sc1 sc2 σ H f1 f2) (h:fRt js1 js2 N1 N2 g1 g2 f0 FR δ=some t) (k:KO X.K F H t Q) :
  tRt X i1 i2 n1 n2 q1 q2 par1 par2 bod1 bod2 sc1 sc2 N1 N2 js1 js2 g1 g2 f0 FR σ H Q:=by
 unfold fRt at h;obtain⟨d0,Y,h⟩:=bS h;obtain⟨a,q,h⟩:=bS h;obtain⟨b,O,h⟩:=bS h;split at h
 .rename_i Z;cases h;exact⟨Φ,δ,F,f1,f2,d0,a,b,_,L,W,fs,Y,q,O,fun F0=>Z.choose_spec f1 f2 F0 fs.2.2.1,k⟩
 .cases h
theorem zb(W:PE X e (tRt X i1 i2 n1 n2 q1 q2 par1 par2 bod1 bod2 sc1 sc2 N1 N2 js1 js2 g1 g2 f0 FR)):PS X (.Return (some e) pos) (tG2 X i1 i2 n1 n2 q1 q2 par1 par2 bod1 bod2 sc1 sc2 (bw (fRt js1 js2 N1 N2 g1 g2 f0 FR))):=PS.mono (p5 W) fun D σ H ⟨Φ,δ,F,f1,f2,o,q,L,fs,Z,k⟩=>by obtain⟨t,Y,rfl⟩:=mS Z;exact we q L fs Y fun v H' F' S st o O=>k v F' H' (L.rt st (q▸o) O)
theorem zd(h:de sc N i x=true)(W:jH sc x=true)(nd:N.Nodup)(Y:PE X e (tRt X i1 i2 n1 n2 q1 q2 par1 par2 bod1 bod2 sc1 sc2 N1 N2 js1 js2 g1 g2 f0 FR))(e1:cW X sc:=by rfl)(e2:X.N=N:=by rfl)(Z:X.fn x=true∨X.env.scope.names.lookup x=some .local:=by exact .inl rfl)
 (q:qn7 e (some (.Name x pos')) pos.line X.env=pure false:=by rfl):PS X (.Assign [.Name x pos'] e pos) (tG2 X i1 i2 n1 n2 q1 q2 par1 par2 bod1 bod2 sc1 sc2 (aA i (fRt js1 js2 N1 N2 g1 g2 f0 FR))):=PS.mono (rH h W nd Y e1 e2 Z q) fun D σ H ⟨Φ,δ,F,f1,f2,o,L,O,fs,hg,k⟩=>by
 obtain⟨t,ht,rfl⟩:=mS hg;exact we L O fs ht fun v H' F' S st o q=>k _ F' H' (O.put st (L▸o) q i)
theorem wf{rest:List Jb}{Z gb:De->Option Out}(h1:PS X st (tG2 X i1 i2 n1 n2 q1 q2 par1 par2 bod1 bod2 sc1 sc2 Z))(h2:DS X rest gb):PSs X (st::rest) (tG2 X i1 i2 n1 n2 q1 q2 par1 par2 bod1 bod2 sc1 sc2 (ar Z gb)):=PSs.mono (iX h1 h2) fun D σ H ⟨Φ,δ,F,f1,f2,o,W,en,fs,L,k⟩=>by
 unfold ar at L;obtain⟨Y,h1,L⟩:=bS L;refine⟨Φ,δ,F,f1,f2,Y,W,en,fs,h1,?_⟩;cases Y with
 |nx q=>exact fun σ' F' H' O=>⟨Φ,q,F',o,W,O,L,k⟩
 |rt t=>cases L;exact k
 |bk q=>cases L;exact k
 |ct q=>cases L;exact k
end
def qu(mg:Str->Option Value)(base:Heap):Prop:=∃q ob,mg "__builtins__"=some (.ref q)/\q≠qv2/\base.get? q=some ob/\ob.cls=.type "module"/\ob.dict=some qv2/\ob.data=.plain
theorem TabB.mk'{base:Heap}{c P:J9}(q:K.In base)(h:xJ9 K c P=true)(b:qu mg base):TabB mg base c P:=⟨xS9 q h,b⟩
def rX(H:Hp):Prop:=∀b,H b=none∨(∃o xs,H b=some (.frz o (.lst xs)))∨∃qs,H b=some (.ctab qs)
def iC(K:xA9):Hp:=fun b=>((dL K).find? fun p=>p.1==b).map fun p=>.ctab p.2
theorem gx{b:J9}{u:HO}(h:iC K b=some u):∃p∈dL K,p.1=b/\u=.ctab p.2:=by obtain⟨p,hp,rfl⟩:=mS h;exact⟨p,qx8 hp,by simpa using List.find?_some hp,rfl⟩
theorem wg(L:∀p∈dL K,∀q∈dL K,p.1=q.1->p=q){p:J9×List ((Nat×Nat)×Str)}(hp:p∈dL K):iC K p.1=some (.ctab p.2):=by
 unfold iC;cases q:(dL K).find? fun x=>x.1==p.1 with
 |none=>have:=List.find?_eq_none.mp q p hp;simp at this
 |some r=>
  have h1:r.1=p.1:=by simpa using List.find?_some q
  rw[L r (qx8 q) p hp h1];rfl
def TabsIn(K:xA9)(h:Heap):Prop:=(∀p∈dL K,K.lookup p.1=none/\(∃c,xN9 h c p.1)/\h.get? p.1=some (xK9 #[]))/\∀p∈dL K,∀q∈dL K,p.1=q.1->p=q
theorem ue{mb:Str->Option Value}{CX:CXT}{k:Nat}{fa:J9}{fd:qp2}{sp:Sp}{s₁:qa4}{vs:List Value}{ns:List Int}
 (KX:K.In s₁.heap) (hns:s₁.heap.Ns qc1 mg) (Z:s₁.heap.Ns qv2 mb) (hbb:∀x:Str,x≠"__name__"->mb x=qf2 x) (hlim:s₁.heap.NoLimit) (hg:s₁.gens=#[]) (hbm:qu mg s₁.heap) (hT:TabsIn K s₁.heap)
 (ha:s₁.heap.get? a=some {cls:=.type "list",data:=.seq vs.toArray}) (hi:zf8 vs ns) (hl:ns.length<=qb1) (hr:Room k zh7)
 (F:∀base:Heap,K.In base->base.Ns qc1 mg->qu mg base->FnOk P w K mg base CX k fa fd [x] sp) (hbind:∀(s:qa4)(u:Value),qz9 s fd ⟨[u],[]⟩ [(x,u)])
 (hsp:∀H:Hp,rX H->SqL K H a (ns.map V.int)->sp [.ref a] H (fun v _=>v=.bl true) fun _ _ _=>False)
 (hCX:∀H e s',CX [] H s₁ (fun _ _ _=>False) e s'->False) :
  qp6 (model P w) zh7 (.call (.ref fa) ⟨[.ref a],[]⟩) (fun r s'=>r=.ok (.ret (.bool true))/\OldK s₁.heap s'.heap/\s'.os=s₁.os/\zc9 s'.gens) s₁:=by
 have rv:=ml hi;have lenV:=hi.length;obtain⟨hT,hnd⟩:=hT
 have tb:∀{b:J9}{u:HO},iC K b=some u->s₁.heap.get? b=some (xK9 #[])/\K.lookup b=none/\∃c,xN9 s₁.heap c b:=fun {b u} e=>by obtain⟨p,hp,rfl,_⟩:=gx e;obtain⟨h1,h2,h3⟩:=hT p hp;exact⟨h3,h1,h2⟩
 have taN:iC K a=none:=by
  cases q:iC K a with
  |none=>rfl
  |some u=>have:=(tb q).1;rw[ha]at this;cases this
 -- H: the script,if it is none of the module's own,and the tables
 have core:∀ H:Hp,SqL K H a (ns.map V.int)->(∀ b,b≠a->H b=iC K b)->(H a=none∨(K.lookup a=none/\H a=some (.frz {cls:=.type "list",data:=.seq vs.toArray} (.lst (ns.map V.int)))))→
     qp6 (model P w) zh7 (.call (.ref fa) ⟨[.ref a],[]⟩) (fun r s'=>r=.ok (.ret (.bool true))/\OldK s₁.heap s'.heap/\s'.os=s₁.os/\zc9 s'.gens) s₁:=by
  intro H hS hH hA
  have O:∀{b:J9}{u:HO},H b=some u->(b=a/\K.lookup a=none/\u=.frz {cls:=.type "list",data:=.seq vs.toArray} (.lst (ns.map V.int)))∨(b≠a/\iC K b=some u):=fun {b u} e=>by
   by_cases Z:b=a
   .subst Z;rcases hA with z|⟨z1,z2⟩
    .rw[z]at e;cases e
    .rw[z2]at e;cases e;exact .inl ⟨rfl,z1,rfl⟩
   .rw[hH b Z]at e;exact .inr ⟨Z,e⟩
  have hO:rX H:=fun b=>by
   cases q:H b with
   |none=>exact .inl rfl
   |some u=>
    rcases O q with ⟨_,_,rfl⟩|⟨_,z⟩
    .exact .inr (.inl ⟨_,_,rfl⟩)
    .obtain⟨p,_,_,rfl⟩:=gx z;exact .inr (.inr ⟨_,rfl⟩)
  have hok:HOk P w H s₁.heap:=fun b u e=>by
   rcases O e with ⟨rfl,_,rfl⟩|⟨_,z⟩
   .exact⟨ha,by rw[qa1];exact hl,vs,_,rv,ha⟩
   .obtain⟨p,_,_,rfl⟩:=gx z;refine⟨#[],(tb z).1,trivial,fun pos q v _ h=>?_⟩;cases h
  have L:∀{b:J9}{o:Obj},s₁.heap.get? b=some o->H b=none->(lY s₁.heap H).get? b=some o:=fun e n=>uY e n
  have noH:∀{b:J9}{o:Obj},s₁.heap.get? b=some o->o.data≠.seq vs.toArray->o≠xK9 #[]->H b=none:=fun {b o} e d1 d2=>by
   cases q:H b with
   |none=>rfl
   |some u=>
    rcases O q with ⟨rfl,_,rfl⟩|⟨_,z⟩
    .rw[ha]at e;cases e;exact absurd rfl d1
    .have:=(tb z).1;rw[e]at this;cases this;exact absurd rfl d2
  have Y:∀{b:J9}{m:Str->Option Value},s₁.heap.Ns b m->(lY s₁.heap H).Ns b m:=fun {b m}⟨o,es,ep,e,d,r⟩=>⟨o,es,ep,L e (noH e (by rw[d];intro z;cases z) (fun z=>by rw[z]at d;cases d)),d,r⟩
  have hKb:K.In (lY s₁.heap H):=fun b o e=>L (KX b o e) (by
   cases q:H b with
   |none=>rfl
   |some u=>
    rcases O q with ⟨rfl,z,_⟩|⟨_,z⟩
    .rw[z]at e;cases e
    .rw[(tb z).2.1]at e;cases e)
  have hbmB:qu mg (lY s₁.heap H):=by obtain⟨bm,ob,b1,b2,b3,b4,b5,b6⟩:=hbm;exact⟨bm,ob,b1,b2,L b3 (noH b3 (by rw[b6];intro z;cases z) fun z=>by rw[z]at b4;cases b4),b4,b5,b6⟩
  have hM:Mod K mg (lY s₁.heap H):=⟨hKb,Y hns,⟨mb,Y Z,hbb⟩,let ⟨mc,h1,h2⟩:=hlim;⟨mc,Y h1,h2⟩⟩
  have e0:Env0 P w K mg (lY s₁.heap H) zh7 [] s₁ H:=⟨rfl,hM,fun b o e=>yg e,Nat.le_of_eq (tz _ _),trivial,fun b Z=>absurd (show b∈([]:List J9)from Z) (by simp),hok,.of_eq hg,fun p hp=>by have h:=wg hnd hp;rw[hH p.1 fun z=>by rw[z,taN]at h;cases h];exact h⟩
  refine qq9 ((F _ hKb (Y hns) hbmB).run zh7 [] s₁ H ⟨[.ref a],[]⟩ [.ref a] [.ref a] _ _ hr e0 (hbind s₁ (.ref a)) (.cons rfl .nil) (hsp H hO hS)) fun r s' h=>?_
  cases r with
  |error e=>exact(hCX H e s' h).elim
  |ok fl=>
   cases fl with
   |next=>exact qg5 h
   |brk=>exact qg5 h
   |cont=>exact qg5 h
   |ret u=>
    obtain⟨v,H',os,bare,un,hok',r',q⟩:=h;have q':v=.bl true:=q;subst q';obtain rfl:u=qv1 true:=r';refine⟨rfl,⟨fun b o e=>?_,fun b o e=>un.there b o e (by simp)⟩,os,bare⟩;cases q:H b with
    |none=>exact .inl (un.keep b o e q (by intro z;exact absurd (show b∈([]:List J9)from z) (by simp)) (by simp))
    |some u=>
     rcases O q with ⟨rfl,_,rfl⟩|⟨_,z⟩
     .have z2:=un.frzs b _ _ q;obtain⟨e1,_⟩:=hok b _ q;obtain⟨e2,_⟩:=hok' b _ z2;rw[e]at e1;cases e1
      exact .inl e2
     .obtain⟨g1,_,c,g2⟩:=tb z;obtain⟨p,_,_,rfl⟩:=gx z;obtain⟨ps,g3,_⟩:=hok' b _ (un.cts b _ q);rw[e]at g1;cases g1;refine .inr (.inl ⟨(g2.tab e).isCodeTable,rfl,#[],ps,rfl,?_⟩);rw[g3];simp[xK9]
 cases hk:K.lookup a with
 |some o=>have e:=KX a o hk;rw[ha]at e;cases e;exact core (iC K) (.inr ⟨_,vs.toArray,_,hk,rfl,rfl,rfl,by rw[qb6,lenV];exact hl,by simpa using rv⟩) (fun _ _=>rfl) (.inl taN)
 |none=>exact core (fun b=>if b=a then some (.frz {cls:=.type "list",data:=.seq vs.toArray} (.lst (ns.map V.int)))else iC K b) (.inl (.inr ⟨{cls:=.type "list",data:=.seq vs.toArray},if_pos rfl⟩)) (fun b Z=>if_neg Z) (.inr ⟨hk,if_pos rfl⟩)
theorem DZ{l:xT9}{k:Nat}{q:qc6}{loose:List Str}{XP:(Str->Option Value)->Heap->Prop}{YP:Ja->Heap->Prop}{d:DefRec}{K:Params->xA9}{CX:Ja->CXT}{sp:Ja->Sp} 
 (hn:l.most=some n) (hn2:n<=qb1) (hdf:d.params.defaults=[]) (hr:Room k zh7)
 (hY:∀(w:Ja)(h:Heap),YP w h->(K w.params).In h) (hT:∀(w:Ja)(h:Heap),YP w h->TabsIn (K w.params) h)
 (F:∀(w:Ja)(mg:Str->Option Value)(fa:J9)(h:Heap),(K w.params).In h->h.Ns qc1 mg->mg d.name=some (.ref fa)→
 ∃fd:qp2,(∀(s:qa4)(u:Value),qz9 s fd ⟨[u],[]⟩ [(x,u)])∧
 ∀base:Heap,(K w.params).In base->base.Ns qc1 mg->qu mg base->FnOk l.prog w (K w.params) mg base (CX w) k fa fd [x] (sp w))
 (hsp:∀(w:Ja)(H:Hp)(a:J9)(ns:List Int),ns.length<=n->rX H->SqL (K w.params) H a (ns.map V.int)->sp w [.ref a] H (fun v _=>v=.bl true) fun _ _ _=>False)
 (hCX:∀(w:Ja)(H:Hp)(s:qa4)(e:Value)(s':qa4),CX w [] H s (fun _ _ _=>False) e s'->False) :
  PySem.W.WalkO q loose XP YP l.row.toRowW d [] (fun f vs=>PySem.call f vs):=by
 refine Att.Ah hn hdf fun w s₀ s₁ mg mb fa o pm cd doc a vs ns G Y ho hd hcd hmg Z O L hg=>?_
 have KX:=hY w _ Y;obtain⟨fd,hb,hF⟩:=F w mg fa _ KX G.T.g hmg;exact ue KX G.T.g G.T.b G.T.builtins G.T.nolimit hg G.T.bmain (hT w _ Y) Z O (qb5 L hn2) hr hF hb (fun H hO hS=>hsp w H a ns L hO hS) fun H e s'=>hCX w H s₁ e s'
def ze(lo st:Int)(n:Nat):It:=⟨fun i _=>i<n,fun i H x H'=>H'=H/\x=.int (lo+i*st),fun i _=>n<=i⟩
theorem pb{w:Ja}{tg:Jc}(it:J9)(lo st:Int)(n:Nat):Turn P w K tg (ze lo st n) [it] it (fun i h=>zf7 h it (lo+(i:Nat)*st) ((n:Int)-(i:Nat)) st) where
 mem:=by simp
 obj:=fun i h q b L=>by
  have e:b=it:=by simpa using L
  subst e
  exact⟨_,q,fun v z=>by have z':Data.fields _=Data.cell v:=z;cases z'⟩
 keep:=fun i h h' q k=>k it (by simp) _ q
 item:=by
  intro X hP hw Y hc i J1 s σ H E I O q hg;subst hP hw Y;obtain⟨f0,f1,f2,f3,f4,Z⟩:=O it (by simp);have W:=Walks.range (prog:=X.prog) (w:=X.w) (I.ok.hd hc) it lo st n;refine W.item i s _ _ hg q fun v h' tk hv q' kk=>?_
  obtain⟨t,rfl⟩:=hv;have I1:Inv X J1 σ H {s with heap:=h',toks:=tk}:=I.turned (fun b o L e=>kk b o (by simpa using L) e) f0 f1 f3 f4 Z;exact⟨_,rfl,ma (s:={s with heap:=h',toks:=tk}) (n:="range_iterator") q' rfl rfl (by decide) ⟨.int (lo+i*st),H,I1,⟨t,rfl⟩,⟨rfl,rfl⟩,q',fun b L=>(O b L).1⟩⟩
 done:=by intro X hP hw Y hc i J1 s σ H E I O q hg;subst hP hw Y;obtain⟨f0,f1,f2,f3,f4,Z⟩:=O it (by simp);exact zb9 (I.ok.hd hc) q (by have:n<=i:=hg;lia) fun h' eb=>⟨rfl,I.turned (t':=s.toks) (fun b o L e=>eb b o L e) f0 f1 f3 f4 Z⟩
 self:=fun _ _ _ _ _ q h=>zc0 q h
def wj(a b c:Int):Bool:=decide (-1000000<=a)&&decide (a<=1000000)&&decide (-1000000<=b)&&decide (b<=1000000)&&decide (-1000000<=c)&&decide (c<=1000000)&&decide (c≠0)
structure R3(a b c:Int):Prop where
 a0:-1000000<=a
 a1:a<=1000000
 b0:-1000000<=b
 b1:b<=1000000
 c0:-1000000<=c
 c1:c<=1000000
 c:c≠0
variable{c:Int}
theorem D0{a b:Int}(h:wj a b c=true):R3 a b c:=by unfold wj at h;simp only[qb2,decide_eq_true_eq]at h;obtain⟨⟨⟨⟨⟨⟨h1,h2⟩,h3⟩,L⟩,O⟩,W⟩,q⟩:=h;exact⟨h1,h2,h3,L,O,W,q⟩
def R3.size{a b:Int}(h:R3 a b c):0<=qc9 a b c/\qc9 a b c<=2000001:=by
 obtain⟨h1,h2,h3,W,Z,h6,O⟩:=h;unfold qc9;split
 .rename_i Y;split
  .have q:0<=(b-a-1)/c:=Int.ediv_nonneg (by lia) (by lia);have L:(b-a-1)/c<=b-a-1:=Int.ediv_le_self _ (by lia);lia
  .lia
 .split
  .have q:0<=(a-b-1) / -c:=Int.ediv_nonneg (by lia) (by lia);have L:(a-b-1) / -c<=a-b-1:=Int.ediv_le_self _ (by lia);lia
  .lia
def fits{a:Int}(q:-9000000<=a)(h1:a<=9000000):qw3 a=true:=by unfold qw3;simp;lia
def R3.small{a b:Int}(h:R3 a b c):qj6.Range.small a b c=true:=by
 have q:=h.size;obtain⟨h1,h2,h3,O,W,Y,L⟩:=h;unfold qj6.Range.small;rw[fits (a:=a) (by lia) (by lia),fits (a:=b) (by lia) (by lia),fits (a:=c) (by lia) (by lia),fits (a:=qc9 a b c) (by lia) (by lia)];simp only[za3,qj3,qi7];right;split
 .exact fits (by lia) (by lia)
 .exact fits (by lia) (by lia)
section
variable{X:Cx}{tg:Jc}
def ug{R:It->Hp->Prop}{a b:Int}{t u v:Tok}{tk:Nat}(I:Inv X J1 σ H s)(h:R3 a b c)
 (q:R (ze a c (qc9 a b c).toNat) H):wpAny (model X.prog X.w) X.A (zi0 (.ref s.heap.objs.size)) (PIE X J1 σ tg R) E {s with heap:=s.heap.push {cls:=.type "range",data:=.fields #[.int a t,.int b u,.int c v]},toks:=tk}:=by
 refine wpAny_pyIter_range (IsRange.new ..) h.small ?_;have L:Inv X J1 σ H {s with heap:=s.heap.push {cls:=.type "range",data:=.fields #[.int a t,.int b u,.int c v]},toks:=tk}:=I.kept fun b o e=>gP _ e
 refine⟨(s.heap.push {cls:=.type "range",data:=.fields #[.int a t,.int b u,.int c v]}).objs.size,[(s.heap.push {cls:=.type "range",data:=.fields #[.int a t,.int b u,.int c v]}).objs.size],_,_,H,rfl,L.kept (t':=tk) fun b o e=>gP _ e,pb _ a c (qc9 a b c).toNat,?_,fun bb W=>?_,q⟩
 .have O:a+((0:Nat):Int)*c=a:=by simp
  have Y:(((qc9 a b c).toNat:Nat):Int)-((0:Nat):Int)=qc9 a b c:=by have:=h.size;lia
  show zf7 _ _ (a+((0:Nat):Int)*c) ((((qc9 a b c).toNat:Nat):Int)-((0:Nat):Int)) c;rw[O,Y];exact qa7 _ rfl
 .have e:bb=(s.heap.push {cls:=.type "range",data:=.fields #[.int a t,.int b u,.int c v]}).objs.size:=by simpa using W
  subst e;exact L.fpOk (nL _) (L.hok.fresh (nL _))
def D3(ta:TA):TI:=fun σ H R=>ta σ H fun vs H1=>∃a b c:Int,vs=[.int a,.int b,.int c]/\R3 a b c/\R (ze a c (qc9 a b c).toNat) H1
theorem uh {a b c:Jc} {p pos:Pos} (hg:Gl X "range") (hm:X.mg "range"=none) (ha:PA X [a,b,c] ta) (Z:qb0 [a,b,c] X.env=[(false,eval a X.env),(false,eval b X.env),(false,eval c X.env)]:=by rfl) (L:qb0 [b,c] X.env=[(false,eval b X.env),(false,eval c X.env)]:=by rfl) :
  PI X tg (.Call (.Name "range" p) [a,b,c] [] pos) (D3 ta):=by
 intro J1 s σ H R I h;refine Call_ (gT I hg hm boot_range (qh1 (thn (ha pos J1 s σ H _ I h) fun us s1 ⟨vs,H1,I1,r1,q1⟩=>?_) (by rw[Z,L]) (by rw[L];rfl)));obtain⟨i,j,k,e,W,q⟩:=q1;subst e;cases r1 with
 |cons r O=>
  cases O with
  |cons r' O=>
   cases O with
   |cons Y O=>cases O;obtain⟨t,rfl⟩:=r;obtain⟨t',rfl⟩:=r';obtain⟨t'',rfl⟩:=Y;refine call_range_3 W.c (ug I1 W q) (.inl (PyProof.noPylong_small ?_));have:=W.c0;have:=W.c1;lia
def jg(lo st:Int)(n:Nat):List V:=(qc7 n).map fun(i:Nat)=>V.int (lo+i*st)
def plain_rangeS{lo st:Int}:Plain (ze lo st n) (jg lo st n) (fun _=>True):=fun i H h=>by
 refine⟨fun hi=>?_,fun e=>?_,fun x H' hi y=>?_⟩
 .show i<n;simpa[jg] using hi
 .show n<=i;simp[jg]at e;lia
 .obtain⟨e,rfl⟩:=y;refine⟨e,?_⟩;unfold jg at hi ⊢;rw[qa1,qk8]at hi;rw[qb3,List.getElem?_range hi];rfl
def qv(lo st:Int)(n:Nat):List Dt:=(qc7 n).map fun(i:Nat)=>.int (lo+i*st)
def pd{F:Hp}(lo st:Int)(n:Nat):Reps K F (qv lo st n) (jg lo st n):=Reps.map (fun _=>gp) _
def ui:List Dt->Option (List Dt)
 |[.int a,.int b,.int c]=>if wj a b c then some (qv a c (qc9 a b c).toNat)else none
 |_=>none
variable{p pos:Pos}{sc:Jd}{x y z:Jc}{fs:De->Option (List Dt)}
theorem uj (h:aD sc "range"=true) (Y:X.mg "range"=none) (ha:DA X [x,y,z] fs) (e1:cW X sc:=by rfl) (O:qb0 [x,y,z] X.env=[(false,eval x X.env),(false,eval y X.env),(false,eval z X.env)]:=by rfl) (L:qb0 [y,z] X.env=[(false,eval y X.env),(false,eval z X.env)]:=by rfl) :
  DIF X tg (.Call (.Name "range" p) [x,y,z] [] pos) (dO ui fs):=
 PI.mono (uh (glD h e1) Y ha.pa O L) fun σ H R ⟨Φ,δ,F,ds,W,en,q,k⟩=>by
  unfold dO at q;obtain⟨as,hd,q⟩:=bS q;refine⟨Φ,δ,F,as,W,en,hd,fun vs H' F' st r=>?_⟩;unfold ui at q;split at q
  .rename_i i j l;split at q
   .rename_i hj;cases q;simp only[Reps,Rep]at r;obtain⟨v,ws,rfl,rfl,w,us,rfl,rfl,w',Z,rfl,rfl,rfl⟩:=r;exact⟨i,j,l,rfl,D0 hj,k _ _ H' F' st (plain_rangeS.walk (pd _ _ _)) fun _ _=>trivial⟩
   .cases q
  .cases q
end
def rY:∀a b:List Nat,ltCps a b=false->ltCps b a=false->a=b
 |[],[],_,_=>rfl
 |[],_::_,h,_=>by simp[ltCps]at h
 |_::_,[],_,h=>by simp[ltCps]at h
 |x::r,y::t,h,h'=>by
  simp only[ltCps,qu6,decide_eq_false_iff_not,qt8,beq_iff_eq]at h h';have e:x=y:=by lia
  subst e;rw[rY r t (h.2 rfl) (h'.2 rfl)]
def rZ:∀a b:List Nat,ltCps a b=true->ltCps b a=false
 |[],[],h=>by simp[ltCps]at h
 |[],_::_,_=>rfl
 |_::_,[],h=>by simp[ltCps]at h
 |x::r,y::t,h=>by
  simp only[ltCps,qi7,decide_eq_true_eq,qb2,beq_iff_eq]at h;simp only[ltCps,qu6,decide_eq_false_iff_not,qt8,beq_iff_eq];rcases h with h|⟨rfl,h⟩
  .exact⟨by lia,fun e=>by lia⟩
  .exact⟨by lia,fun _=>rZ r t h⟩
def mK:∀a b c:List Nat,ltCps b a=false->ltCps c b=false->ltCps c a=false
 |[],b,c,h1,h2=>by
  cases b with
  |nil=>exact h2
  |cons y t=>
   cases c with
   |nil=>simp[ltCps]at h2
   |cons z u=>rfl
 |x::r,[],c,h1,h2=>by simp[ltCps]at h1
 |x::r,y::t,[],h1,h2=>by simp[ltCps]at h2
 |x::r,y::t,z::u,h1,h2=>by
  simp only[ltCps,qu6,decide_eq_false_iff_not,qt8,beq_iff_eq]at h1 h2 ⊢;refine⟨by lia,fun e=>?_⟩;subst e;have e:y=z:=by lia
  subst e;exact mK r t u (h1.2 rfl) (h2.2 rfl)
def leS(a b:Str):Bool:=!ltCps b.cps.toList a.cps.toList
def leS_iff{a b:Str}:leS a b=true↔ltCps b.cps.toList a.cps.toList=false:=by simp[leS]
theorem mL(a b c:Str)(h:leS a b=true)(h':leS b c=true):leS a c=true:=leS_iff.mpr (mK _ _ _ (leS_iff.mp h) (leS_iff.mp h'))
def uk(a b:Str):(leS a b||leS b a)=true:=by
 cases h:leS a b with
 |true=>rfl
 |false=>
  have h1:ltCps b.cps.toList a.cps.toList=true:=by simpa[leS] using h
  simp[leS_iff.mpr (rZ _ _ h1)]
def pe{a b:Str}(h:leS a b=true)(h':leS b a=true):a=b:=by
 have e:=rY _ _ (leS_iff.mp h') (leS_iff.mp h);cases a with
 |mk a=>cases b with
  |mk b=>simp only at e;rw[Array.toList_inj.mp e]
def fj(ss:List Str):List Str:=ss.mergeSort leS
def eC(ss:List Str):(fj ss).Perm ss:=List.mergeSort_perm ss leS
def jh(ss:List Str):(fj ss).Pairwise fun a b=>leS a b=true:=za7 mL uk ss
def mM:∀(p:Str)(l:List Str),risingS p l=true->(p::l).Pairwise fun a b=>leS a b=true
 |p,[],_=>by simp
 |p,x::r,h=>by
  simp only[risingS,qb2]at h;have L:=mM x r h.2;have h1:leS p x=true:=h.1;refine qh5.mpr ⟨fun y q=>?_,L⟩;rcases qa9.mp q with rfl|q
  .exact h1
  .exact mL _ _ _ h1 ((qh5.mp L).1 y q)
def ul:∀l:List Str,sortedS l=true->l.Pairwise fun a b=>leS a b=true
 |[],_=>qp3
 |x::r,h=>mM x r h
theorem jL:∀{a b:List Str},a.Perm b->(a.Pairwise fun a b=>leS a b=true)->(b.Pairwise fun a b=>leS a b=true)->a=b
 |[],_,p,_,_=>p.nil_eq
 |x::r,b,p,q,L=>by
  cases b with
  |nil=>exact absurd p.length_eq (by simp)
  |cons y t=>
   have W:x∈y::t:=p.mem_iff.mp (.head _);have O:y∈x::r:=p.mem_iff.mpr (.head _)
   have e:x=y:=by
    rcases qa9.mp W with h|h
    .exact h
    .rcases qa9.mp O with h'|h'
     .exact h'.symm
     .exact pe ((qh5.mp q).1 y h') ((qh5.mp L).1 x h)
   subst e;rw[jL (zj3.cons_inv p) (qh5.mp q).2 (qh5.mp L).2]
section
variable{X:Cx}
def mN{F:Hp}:∀ss:List Str,Reps K F (ss.map .str) (ss.map V.str)
 |[]=>by simp only[qj5,Reps]
 |x::ss=>by simp only[qa5,Reps];exact⟨_,_,rfl,by simp only[Rep],mN ss⟩
end
def EntA(h:Heap)(d:J9)(ks:List Value)(ep:Nat):Prop:=∃o es,h.get? d=some o/\o.ExactDict/\o.data=.dict es ep/\es.toList.map (·.key)=ks
theorem EntA.upTo{d:J9}{ks:List Value}(q:EntA h d ks ep)(k:∀o,h.get? d=some o->h'.get? d=some o):EntA h' d ks ep:=let ⟨o,es,h1,r⟩:=q;⟨o,es,k o h1,r⟩
theorem EntA.ty{d:J9}{ks:List Value}(q:EntA s.heap d ks ep):s.TypeIs (.ref d) "dict":=let ⟨o,_,h1,h2,_⟩:=q;⟨o,h1,h2.1⟩
def EntA.lt{d:J9}{ks:List Value}(q:EntA h d ks ep):d<h.objs.size:=let ⟨_,_,h1,_⟩:=q;qa8 h1
section
variable{prog:qc6}{w:Ja}{A:qd5}{E:Value->qa4->Prop}{s:qa4}{d it:J9}{ks:List Value}{i ep:Nat}
def wm(lo:(d==qh9)=false)(q:EntA s.heap d ks ep)
 (k:Q (.ref s.heap.objs.size) {s with heap:=s.heap.push {cls:=.type "dict_keyiterator",data:=.fields #[.ref d,.int 0 0,.int ks.length 0,.int ep 0]}}):wpAny (model prog w) A (zi0 (.ref d)) Q E s:=by
 obtain⟨o,es,L,Z,O,Y⟩:=id q;refine qz0 q.ty F.slot_dict_iter (qf0 F.slot_dict_iter q.ty F.entry_dict_iter ?_ (F.args_dict_iter_1 _));unfold qj6.«dict.__iter__»;refine wB ?_;unfold qj6.Dict.dictSlotNone;refine wB (wpAny_notOrdered_dict q.ty ?_);show wpAny _ _ (pure (qf4 d)) _ _ s;refine qa3 ?_;show wpAny _ _ (ze0 d >>= _) _ _ s;unfold ze0;rw[if_neg (by rw[lo];exact qb4)];refine wB (qa3 ?_);refine wB (qz1 L O (wB (ze1 L O ?_)));have W:es.size=ks.length:=by rw[<- Y];simp
 refine wB (qd1 (qa3 ⟨_,rfl,"dict_keyiterator",_,⟨_,qa7 _ rfl,rfl⟩,qi2.lookup,?_⟩));simpa[qf7,W] using k
theorem wn {key:Value} {Q:Option Value->qa4->Prop} (st:s.heap.IsKeyIter it d i ks.length ep) (q:EntA s.heap d ks ep) (hk:ks[i]?=some key)
  (k:∀h',h'.IsKeyIter it d (i+1) ks.length ep->qn3 it s.heap h'->Q (some key) {s with heap:=h'}):wpAny (model prog w) A (qw9 (.ref it)) Q E s:=by
 obtain⟨oi,i1,i2,W⟩:=id st;obtain⟨o,es,Y,e2,Z,e4⟩:=id q;unfold qw9;refine wB (qr8 (qe4 (name:=qa0 "__next__") st.typeIs qi2 (qf0 qi2 st.typeIs qu5 ?_ (qt9 _))));refine wB (qa3 (wB (wB ?_)))
 first|refine wB (qj8 st.typeIs (qa3 ?_))|refine wB (qn0 st.typeIs (qa3 ?_))
 refine wB (qq1 i1 W ?_);have ow:qu9 "dict_keyiterator"=false:=by decide
 simp only[ow,qe7,if_false];show wpAny _ _ (if(qf4 d==qh6)=true then _ else _) _ _ s;rw[if_neg (show ¬ ((qf4 d==qh6)=true)from qb4)];refine wB (qa3 (wB (qz1 Y Z ?_)));have ez:es.size=ks.length:=by rw[<- e4];simp
 rw[if_neg (by rw[ez];simp)];refine wB (qa3 (wB (ze1 Y Z ?_)));rw[if_neg (by simp)];refine qa3 ?_;have li:i<es.size:=by rw[ez];exact(gX hk).1
 have L:es[i].key=key:=by rw[<- e4,qb3,qo7,qg6 li]at hk;exact qd4 hk
 simp only[show ¬ ((i:Int)<0)from by lia,if_false,qd8,qg6 li];refine wB ?_
 first|refine wB (qj8 st.typeIs (qa3 ?_))|refine wB (qn0 st.typeIs (qa3 ?_))
 refine wB (ze2 st.typeIs ?_);show wpAny _ _ (za8 (.ref it) 1 (qf7 ((i:Int)+1)) >>= _) _ _ s;refine qh4 (qj4 i1 W (by simp) ?_)
 have O:(s.heap.update it (qp5 (·.setIfInBounds 1 (qf7 ((i:Int)+1))))).IsKeyIter it d (i+1) ks.length ep:=⟨_,qe5 _ i1 (qi0 (qe0 W _)),(qp4 ..).trans i2,by rw[qe0 W];simp[qf7]⟩
 refine wB (qi3 (wB (ze2 (s:={s with heap:=s.heap.update it (qp5 (·.setIfInBounds 1 (qf7 ((i:Int)+1))))}) O.typeIs ?_)));show wpAny _ _ (pure es[i].key) _ _ _;rw[L];exact qa3 (qa3 ⟨_,rfl,qa3 (k _ O (qe8 ..))⟩)
theorem zf {Q:Option Value->qa4->Prop} (Z:A.handled=none) (st:s.heap.IsKeyIter it d i ks.length ep) (q:EntA s.heap d ks ep) (hi:i=ks.length)
  (k:∀h',zg2 it s.heap h'->Q none {s with heap:=h'}):wpAny (model prog w) A (qw9 (.ref it)) Q E s:=by
 obtain⟨oi,i1,i2,Y⟩:=id st;obtain⟨o,es,L,e2,O,e4⟩:=id q;unfold qw9;refine wB (qr8 (qe4 (name:=qa0 "__next__") st.typeIs qi2 (qf0 qi2 st.typeIs qu5 ?_ (qt9 _))));refine wB (qa3 (wB (wB ?_)))
 first|refine wB (qj8 st.typeIs (qa3 ?_))|refine wB (qn0 st.typeIs (qa3 ?_))
 refine wB (qq1 i1 Y ?_);have ow:qu9 "dict_keyiterator"=false:=by decide
 simp only[ow,qe7,if_false];show wpAny _ _ (if(qf4 d==qh6)=true then _ else _) _ _ s;rw[if_neg (show ¬ ((qf4 d==qh6)=true)from qb4)];refine wB (qa3 (wB (qz1 L O ?_)));have W:es.size=ks.length:=by rw[<- e4];simp
 rw[if_neg (by rw[W];simp)];refine wB (qa3 (wB (ze1 L O ?_)));rw[if_neg (by simp)];refine qa3 ?_;have ge:es.size<=i:=by rw[W];lia
 simp only[show ¬ ((i:Int)<0)from by lia,if_false,qd8,qo1 ge];refine wB ?_
 first|refine wB (qj8 st.typeIs (qa3 ?_))|refine wB (qn0 st.typeIs (qa3 ?_))
 show wpAny _ _ (za8 (.ref it) 0 .none >>= _) _ _ s;refine qh4 (qj4 i1 Y (by simp) ?_);show wpAny _ _ (zh2 (.type "StopIteration") [] >>= _) _ _ _;refine wB ?_;simp only[zh2,zi6];refine wB (qd1 ?_ (by size_fits));refine qh4 (m:=qm3 _ _) (za4 (a:=qh6) (by first|rfl|(simp only[qm3];rfl)) (qd1 ?_ (by size_fits)));simp only[zh3];refine wB (za5 ?_);rw[show A.in1.handled=none from Z];refine wB (qa3 (zg3 ?_));refine wB (qq4 (b:=true) (T:="StopIteration") ⟨_,qa7 _ rfl,rfl⟩ zf5 ?_);exact qa3 (k _ (((qe8 ..).extBut.push _).push _))
theorem um(Z:A.handled=none)(O:d≠it):Walks prog w A it [it,d] [it] ks.length (fun i v=>ks[i]?=some v) (fun i h=>h.IsKeyIter it d i ks.length ep/\EntA h d ks ep) where
 sub:=fun b q=>by simp at q;simp[q]
 frame:=fun _ _ _ st hk=>⟨let ⟨o,h1,r⟩:=st.1;⟨o,hk it (by simp) o h1,r⟩,st.2.upTo fun o e=>hk d (by simp) o e⟩
 item:=fun i s Q E hi st L=>wn st.1 st.2 (key:=ks[i]) (by simp[hi]) fun h' W Y=>L _ h' s.toks (by simp[hi]) ⟨W,st.2.upTo fun o e=>Y.extBut d o O e⟩ fun b o q e=>Y.extBut b o (fun z=>q (by simp[z])) e
 done:=fun s Q E st L=>zf Z st.1 st.2 rfl fun h' eb=>L h' s.toks fun b o q e=>eb b o (fun z=>q (by simp[z])) e
 self:=fun _ _ _ _ st L=>wpAny_pyIter_keyiter st.1 L
theorem r6(lo:(d==qh9)=false):PySem.W.KdlSrc prog w "dict" d d ks.length (fun i v=>ks[i]?=some v) (fun h=>EntA h d ks ep) where
 type:=fun _ q=>q.ty
 there:=fun _ q=>⟨q.lt,q.lt⟩
 keep:=fun _ _ q hk=>q.upTo fun o e=>hk d (.inl rfl) o e
 notList:=by decide
 notTuple:=by decide
 hint:=fun _ _ _ _ q L=>PySem.W.kdl_hint_dict q.ty L
 iter:=fun _ _ O q=>⟨_,_,(fun _ _ L=>wm lo q L),um O (qc0 q.lt),⟨⟨_,qa7 _ rfl,rfl,rfl⟩,q.upTo fun o e=>gP _ e⟩⟩
end
set_option maxRecDepth 20000
def Rs(xs:Array Nat):Prop:=xs.toList.Pairwise (· < ·)
variable{xs:Array Nat}
theorem Rs.lt(h:Rs xs){k:Nat}(hi:i<k)(hk:k<xs.size):xs[i]<xs[k]:=by have:=List.pairwise_iff_getElem.mp h i k (by simp;lia) (by simpa using hk) hi;simpa using this
def Cut(xs:Array Nat)(j p:Nat):Prop:=p<=xs.size/\(∀i (q:i<xs.size),i<p->xs[i]<j)/\∀i (q:i<xs.size),p<=i->j<=xs[i]
variable{j:Nat}
theorem jM(h:Rs xs):∀n lo hi,hi<=xs.size->lo<=hi->hi-lo<=n->(∀i (q:i<xs.size),i<lo->xs[i]<j)->(∀i (q:i<xs.size),hi<=i->j<=xs[i])->Cut xs j (qg0.go xs j n lo hi)
 |0,lo,hi,h1,h2,h3,L,O=>by
  have e:lo=hi:=by lia
  subst e;exact⟨h1,L,O⟩
 |n+1,lo,hi,h1,h2,h3,L,O=>by
  rw[qg0.go];by_cases c:lo<hi
  .rw[if_pos c];have Y:(lo+hi)/2<xs.size:=by lia
   dsimp only;rw[Array.getD_eq_getD_getElem?,qg6 Y,Option.getD_some];by_cases d:xs[(lo+hi)/2]<j
   .rw[if_pos d];refine jM h n _ hi h1 (by lia) (by lia) (fun i q W=>?_) O;by_cases e:i=(lo+hi)/2
    .subst e;exact d
    .exact qx3 (h.lt (by lia:i<(lo+hi)/2) Y) d
   .rw[if_neg d];refine jM h n lo _ (by lia) (by lia) (by lia) L fun i q W=>?_
    by_cases e:i=(lo+hi)/2
    .subst e;lia
    .have:=h.lt (by lia:(lo+hi)/2<i) q;lia
  .rw[if_neg c];have e:lo=hi:=by lia
   subst e;exact⟨h1,L,O⟩
theorem jN(h:Rs xs)(j:Nat):Cut xs j (qg0 xs j):=jM h _ _ _ (nL _) (qh8 _) (nL _) (fun i _ z=>absurd z (qo8 _)) fun i q z=>absurd q (qy7.mpr z)
variable{p:Nat}
def Cut.uniq{q:Nat}(a:Cut xs j p)(b:Cut xs j q):p=q:=by
 obtain⟨Z,L,O⟩:=a;obtain⟨b1,Y,W⟩:=b;rcases Nat.lt_trichotomy p q with h|h|h
 .have x:=Y p (by lia) h;have y:=O p (by lia) (nL _);lia
 .exact h
 .have x:=L q (by lia) h;have y:=W q (by lia) (nL _);lia
theorem pf(h:Rs xs):qg0 xs 0=0:=(jN h 0).uniq ⟨qh8 _,fun i _ z=>absurd z (qo8 _),fun _ _ _=>qh8 _⟩
def qw(h:Rs xs)(hi:i<xs.size):qg0 xs (xs[i]+1)=i+1:=(jN h _).uniq ⟨hi,fun k q hk=>by
 by_cases e:k=i
 .subst e;lia
 .exact qi1 (h.lt (by lia:k<i) hi),fun k q hk=>h.lt hk q⟩
theorem wo{α:Type}(xs:Array α)(p:Nat)(x:α):(qz2 xs p x).toList=xs.toList.take p++x::xs.toList.drop p:=by simp only[qz2,qw0,qz3,Array.toList_extract,qj1,List.singleton_append];simp;rw[zc3 (by simp)]
def B3(h:Rs xs)(hj:xs[qg0 xs j]?≠some j):Rs (qz2 xs (qg0 xs j) j):=by
 obtain⟨c1,c2,Y⟩:=jN h j;generalize qg0 xs j=p at*
 have W:∀a∈xs.toList.take p,a<j:=fun a L=>by
  obtain⟨i,hi,rfl⟩:=List.mem_iff_getElem.mp L;have q:i<p/\i<xs.size:=by simp at hi;lia
  simpa using c2 i q.2 q.1
 have Z:∀a∈xs.toList.drop p,j<a:=fun a L=>by
  obtain⟨i,hi,rfl⟩:=List.mem_iff_getElem.mp L;have q:p+i<xs.size:=by simp at hi;lia
  have:=Y (p+i) q (by lia)
  have hne:xs[p+i]≠j:=fun e=>by
   by_cases z:i=0
   .subst z;exact hj (by rw[qg6 (by simpa using q)];simpa using e)
   .have y:=Y p (by lia) (nL _);have w:=h.lt (by lia:p<p+i) q;lia
  simp;lia
 unfold Rs;rw[wo,List.pairwise_append];refine⟨h.sublist (qy5 _ _),qh5.mpr ⟨Z,h.sublist (List.drop_sublist _ _)⟩,fun a L b O=>?_⟩;rcases qa9.mp O with rfl|O
 .exact W a L
 .exact qx3 (W a L) (Z b O)
def Fre(t:qg1)(j:Nat):Prop:=t.place[qg0 t.place j]?≠some j
theorem ph{t:qg1}(h:∀i,t.slot j≠.live i):Fre t j:=fun z=>by refine h (qg0 t.place j) ?_;unfold qg1.slot;dsimp only;rw[if_pos (by rw[z];simp)]
def mO(t:qg1)(p:qg1.Probe):(t.advance p).dummy=p.dummy:=by unfold qg1.advance;split<;>rfl
theorem jO{t:qg1}{g:Nat->Int}{h:Int}:∀n p,(∀d,p.dummy=some d->Fre t d)->∀j d,qg1.probe.go t g h n p=some (.empty j d)->Fre t j/\∀k,d=some k->Fre t k
 |0,p,hp,j,d,e=>by cases e
 |n+1,p,hp,j,d,e=>by
  rw[qg1.probe.go]at e;split at e
  .rename_i q;cases e;exact⟨ph fun i z=>(by rw[q]at z;cases z),hp⟩
  .rename_i q;refine jO n _ (fun k hk=>?_) j d e;rw[mO]at hk;cases hk;exact ph fun i z=>by rw[q]at z;cases z
  .split at e
   .cases e
   .exact jO n _ (fun k hk=>hp k (by rw[mO]at hk;exact hk)) j d e
def wq{t:qg1}{h:Int}(e:t.freeSlot h=some (j,b)):Fre t j:=by
 unfold qg1.freeSlot at e;split at e
 .rename_i k d hk;obtain⟨h1,h2⟩:=jO _ _ (fun d z=>by cases z) k d hk;cases e;cases d with
  |none=>exact h1
  |some x=>exact h2 x rfl
 .cases e
def ji(n:Nat):Rs (Array.range n):=by unfold Rs;rw[Array.toList_range];exact zc4
def qx{t:qg1}(n:Nat)(h:Rs t.place):Rs (t.orStandIn n).place:=by
 unfold qg1.orStandIn;split
 .exact h
 .exact ji n
theorem uo{t:qg1}(h:Rs t.place)(es:Array (Int×Value))(k:Int)(x:Value):Rs (layNew t es k x).2.1.place:=by
 unfold layNew;split
 .rename_i j b e;exact qx _ (B3 h (wq e))
 .exact ji _
def wt(t:qg1)(es:Array (Int×Value))(n:Nat):Rs (za9 t es n).2.1.place:=by
 unfold za9;split
 .rename_i t' L e;dsimp only;split
  .unfold qg1.relaid qg1.laid at e;simp only[Option.bind_eq_bind,qr3,qs3]at e;obtain⟨_,_,e⟩:=e;cases e;unfold Rs;dsimp only;rw[qz4,List.pairwise_filterMap];refine qs9 (fun {a b} q x W y O=>?_) zc4;obtain⟨_,_,rfl⟩:=mS W;obtain⟨_,_,rfl⟩:=mS O;exact q
  .exact ji _
 .exact ji _
def qy(t:qg1)(es:Array (Int×Value))(h:Int)(x:Value):(layNew t es h x).2.1.led=t.led:=by
 unfold layNew;split
 .dsimp only;unfold qg1.orStandIn;split<;>rfl
 .rfl
def uq(t:qg1)(es:Array (Int×Value))(n:Nat):(za9 t es n).2.1.led=t.led:=by
 unfold za9;split
 .rename_i t' q e;dsimp only;split
  .unfold qg1.relaid qg1.laid at e;simp only[Option.bind_eq_bind,qr3,qs3]at e;obtain⟨_,_,e⟩:=e;cases e;rfl
  .rfl
 .rfl
structure SK(P:qc6)(u:Ja)(K:Type)[DecidableEq K] where
 knd:PySem.KeyKind P u K
 put:K->Tok->Value
 of:Value->K
 is:∀k t,knd.is k (put k t)=true
 ofmk:∀k t,of (put k t)=k
 shape:∀{k v},knd.is k v=true->∃t,v=put k t
 scan:∀k t,(put k t).scannable=true
noncomputable def ur(P:qc6)(u:Ja):SK P u Str where
 knd:=PySem.strKind P u
 put:=.str
 of v:=match v with|.str k _=>k|_=>""
 is:=strKind_is P u
 ofmk _ _:=rfl
 shape {k v} h:=by
  cases v<;>simp[PySem.strKind,zg4]at h
  subst h;exact⟨_,rfl⟩
 scan _ _:=rfl
noncomputable def ut(P:qc6)(u:Ja):SK P u Int where
 knd:=PySem.intKind P u
 put:=.int
 of v:=match v with|.int k _=>k|_=>0
 is k t:=by simp[PySem.intKind,Value.isInt]
 ofmk _ _:=rfl
 shape {k v} h:=Value.isInt_shape h
 scan _ _:=rfl
section
variable{P:qc6}{u:Ja}{K:Type}[DecidableEq K]{κ:SK P u K}
structure Tx(κ:SK P u K)(l:List (Int×Value))(ss:List K):Prop where
 all:∀e∈l,∃k t,e.2=κ.put k t/\e.1=κ.knd.hash k
 per:(l.map fun e=>κ.of e.2).Perm ss
 nd:ss.Nodup
theorem Tx.elems{l:List (Int×Value)}{ss:List K}(x:Tx κ l ss):ElemsOf κ.knd l:=fun e q=>by obtain⟨k,t,h1,h2⟩:=x.all e q;rw[h1];exact⟨⟨k,κ.is k t,h2⟩,κ.scan k t⟩
theorem Tx.perm{l m:List (Int×Value)}{ss:List K}(x:Tx κ l ss)(p:m.Perm l):Tx κ m ss:=⟨fun e q=>x.all e (p.mem_iff.mp q),(p.map _).trans x.per,x.nd⟩
theorem Tx.mem{l:List (Int×Value)}{ss:List K}(x:Tx κ l ss)(k:K):k∈ss↔∃e∈l,κ.knd.is k e.2=true:=by
 rw[<- x.per.mem_iff];constructor
 .intro h;obtain⟨e,q,L⟩:=qd2.mp h;obtain⟨k',t,h1,_⟩:=x.all e q;rw[h1,κ.ofmk]at L;refine⟨e,q,?_⟩;rw[h1,<- L];exact κ.is k' t
 .rintro⟨e,q,h⟩;obtain⟨t,h1⟩:=κ.shape h;exact qd2.mpr ⟨e,q,by rw[h1,κ.ofmk]⟩
theorem Tx.push{l:List (Int×Value)}{ss:List K}(x:Tx κ l ss){k:K}{t:Tok}(hk:k∉ss):Tx κ (l++[(κ.knd.hash k,κ.put k t)]) (ss++[k]):=⟨fun e q=>by
 rcases qd6.mp q with q|q
 .exact x.all e q
 .rw[qa6.mp q];exact⟨k,t,rfl,rfl⟩,by
 rw[qe9];have:zi7 (fun e=>κ.of e.2) [(κ.knd.hash k,κ.put k t)]=[k]:=by simp[κ.ofmk]
 rw[this];exact x.per.append_right _,by
 refine qk9.mpr ⟨x.nd,by simp,fun a L b O e=>?_⟩;rw[qa6.mp O]at e;exact hk (e▸L)⟩
structure TxS(κ:SK P u K)(h:Heap)(a:J9)(ss:List K)(led:Bool):Prop where
 ex:∃o es ep t,h.get? a=some o/\o.ExactSet/\o.data=.set es ep t/\Tx κ es.toList ss/\es.size<qn1/\t.fits es.size=true/\t.led=led/\Rs t.place
end
variable{hp:Heap}
section
variable{P:qc6}{u:Ja}{K:Type}[DecidableEq K]{κ:SK P u K}{A:qd5}{E:Value->qa4->Prop}{s:qa4}{a:J9}{ss:List K}{led:Bool}
theorem mP {es fs:Array (Int×Value)} {tb tc:qg1} (g1:hp.get? a=some o) (g2:o.ExactSet) (Y:o.data=.set es ep tb) (x:Tx κ fs.toList ss) (L:fs.size<qn1) (q:tc.fits fs.size=true) (O:tc.led=led) (W:Rs tc.place) :
  (hp.update a (Obj.putSet fs tc)).get? a=some {o with data:=.set fs (ep+1) tc}/\TxS κ (hp.update a (Obj.putSet fs tc)) a ss led:=by
 have e:=(SetOf_store (knd:=κ.knd) (S':=fun k=>decide (k∈ss)) g1 g2 Y x.elems (fun k=>by rw[decide_eq_true_eq];exact x.mem k) L q).1;exact⟨e,⟨_,fs,ep+1,tc,e,g2,rfl,x,L,q,O,W⟩⟩
def zg {k:K} {t:Tok} {Q:Bool->qa4->Prop} (hS:TxS κ s.heap a ss led) (room:ss.length+1<qn1)
  (q:∀hp,qn3 a s.heap hp->TxS κ hp a (if k∈ss then ss else ss++[k]) led->∀b,Q b {s with heap:=hp}):wpAny (model P u) A (setAddHashed a (κ.put k t) (κ.knd.hash k)) Q E s:=by
 obtain⟨o,es,ep,tb,g1,g2,g3,x,hb,hf,hl,hpl⟩:=hS.ex;have hn:es.size=ss.length:=by rw[<- x.per.length_eq,qa1,qe2]
 have big:es.size+1<qn1:=by rw[hn];exact room
 unfold setAddHashed setAddHashedIn;refine qi3 (wB (qf1 g1 g3 hf ?_));dsimp only;rw[byScan_of (knd:=κ.knd) (κ.scan k t) hb x.elems];simp only[↓reduceIte];unfold setAddByScan;refine wB (wB (qv3 (wB (wpAny_setScan_of (κ.is k t) g1 g3 hf x.elems ?_))));cases hr:List.findIdx? (fun e=>κ.knd.is k e.2) es.toList with
 |some j=>dsimp only;obtain⟨hj,hpj,_⟩:=List.findIdx?_eq_some_iff_getElem.mp hr;have hm:k∈ss:=(x.mem k).mpr ⟨es.toList[j],zb6 hj,hpj⟩;refine qa3 (qa3 ?_);have:=q s.heap (qn3.refl a s.heap) (by rw[if_pos hm];exact hS) false;rw[show s={s with heap:=s.heap} by cases s;rfl];exact this
 |none=>
  dsimp only
  have hm:k∉ss:=fun z=>by obtain⟨e,he,hp⟩:=(x.mem k).mp z;have:=List.findIdx?_eq_none_iff.mp hr e he;rw[hp]at this;exact Bool.noConfusion this
  rw[if_neg hm]at q;have perm:=layNew_perm tb es (κ.knd.hash k) (κ.put k t);have fits:=layNew_fits tb es (κ.knd.hash k) (κ.put k t);have ledd:=And.intro (qy tb es (κ.knd.hash k) (κ.put k t)) (uo hpl es (κ.knd.hash k) (κ.put k t));generalize layNew tb es (κ.knd.hash k) (κ.put k t)=L at perm fits ledd ⊢;obtain⟨fs,tc,wasD,gave⟩:=L;dsimp only at perm fits ledd ⊢;rw[qz3]at perm;have y:Tx κ fs.toList (ss++[k]):=(x.push hm).perm perm;have hb2:fs.size<qn1:=by rw[<- qe2,perm.length_eq,qb7,qe2];simpa using big
  have gw:∀(b:Bool){s1:qa4}{Q1:Unit->qa4->Prop},Q1 () s1->wpAny (model P u) A (match b with|true=>rule "set.scan.the-table-gave-way"|false=>pure ()) Q1 E s1:=fun b s1 Q1 z=>by
   cases b
   .exact qa3 z
   .exact qv3 z
  refine wB (gw _ ?_)
  have tail:∀ tc2:qg1,tc2.fits fs.size=true->tc2.led=led->Rs tc2.place->wpAny (model P u) A (do
      storeSet a fs tc2
      if (!wasD&&tc2.tooFull)=true then do
          (match (za9 tc2 fs (qm4 fs.size)).2.2 with|true=>rule "set.scan.the-table-gave-way"|false=>pure ())
          storeSet a (za9 tc2 fs (qm4 fs.size)).1 (za9 tc2 fs (qm4 fs.size)).2.1
          pure (some true)
       else pure (some true)) (fun r s1=>wpAny (model P u) A (match r with|some added=>pure added|none=>setAddHashedIn a (κ.put k t) (κ.knd.hash k) 99999) Q E s1) E s:=fun tc2 h1 h2 h3=>by
   refine wB (wpAny_storeSet_of g1 g3 ?_ (qt0 hb2));obtain⟨e1,T1⟩:=mP g1 g2 g3 y hb2 h1 h2 h3;have sb:=qe8 s.heap a (Obj.putSet fs tc2);split
   .have p2:=relayAll_perm tc2 fs (qm4 fs.size);have f2:=relayAll_fits tc2 fs (qm4 fs.size);have l2:=And.intro (uq tc2 fs (qm4 fs.size)) (wt tc2 fs (qm4 fs.size));generalize za9 tc2 fs (qm4 fs.size)=M at p2 f2 l2 ⊢;obtain⟨gs,td,gave2⟩:=M;dsimp only at p2 f2 l2 ⊢;have sz:gs.size=fs.size:=by rw[<- qe2,p2.length_eq,qe2]
    have hb3:gs.size<qn1:=by rw[sz];exact hb2
    refine wB (gw _ (wB (wpAny_storeSet_of e1 rfl ?_ (qt0 hb3))));obtain⟨_,T2⟩:=mP e1 g2 rfl (y.perm p2) hb3 f2 (l2.1.trans h2) l2.2;exact qa3 (qa3 (q _ (sb.trans (qe8 _ a _)) T2 true))
   .exact qa3 (qa3 (q _ sb T1 true))
  split
  .refine wB ?_;rw[hashByValue_scannable 8 (κ.scan k t)];refine qa3 ?_;split
   .exact tail tc fits (ledd.1.trans hl) ledd.2
   .exact tail {tc with plain:=false} (qg1.fits_plain_off fits) (ledd.1.trans hl) ledd.2
  .refine wB (qa3 ?_);exact tail tc fits (ledd.1.trans hl) ledd.2
end
def fK{K:Type}[DecidableEq K](J5:List K)(k:K):List K:=if k∈J5 then J5 else J5++[k]
def met{K:Type}[DecidableEq K](val:Nat->K)(i:Nat):List K:=((qc7 i).map val).foldl fK []
theorem pi{K:Type}[DecidableEq K](val:Nat->K)(i:Nat):met val (i+1)=fK (met val i) (val i):=by unfold met;rw[List.range_succ,qe9,List.foldl_append];rfl
def nQ{K:Type}[DecidableEq K](val:Nat->K):∀i,(met val i).length<=i
 |0=>nL _
 |i+1=>by
  rw[pi];have:=nQ val i;unfold fK;split
  .lia
  .rw[qb7,ql9];lia
section
variable{P:qc6}{u:Ja}{K:Type}[DecidableEq K]{κ:SK P u K}{A:qd5}{R:Result->qa4->Prop}{I:J9}{fp wr:List J9}{G:Array GenState->Array GenState->Prop}{n:Nat}{Pv:Nat->Value->Prop}{St:Nat->qa4->Prop}{led:Bool}
theorem TxS.moved{ss:List K}(x:TxS κ h a ss led)(e:∀o,h.get? a=some o->h'.get? a=some o):TxS κ h' a ss led:=by obtain⟨o,es,ep,t,g,r⟩:=x.ex;exact⟨o,es,ep,t,e o g,r⟩
theorem wu (W:WalksS P u A.in1 I fp wr G n Pv St) (S:J9) (Z:S∉fp) (val:Nat->K) (O:∀ i v,Pv i v->∃ t,v=κ.put (val i) t) (L:n+1<qn1) :
  ∀(m i:Nat)(s:qa4),n-i=m->i<=n->St i s->TxS κ s.heap S (met val i) led->(∀s',Moved (S::wr) G s s'->TxS κ s'.heap S (met val n) led->R (.ok (.ret .none)) s')→
   qp6 (model P u) A (.builtin "set.update.loop" ⟨[.ref S,.ref I],[]⟩) R s:=by
 have nw:S∉wr:=fun h=>Z (W.sub _ h)
 have sub:∀b∈wr,b∈S::wr:=fun b L=>qd3 _ L
 intro m;induction m with
 |zero=>
  intro i s hm hi q hS hR;obtain rfl:i=n:=by lia
  refine qo9 zb0 ?_;rw[qm5 qr9 _];refine wB (W.done s _ _ q fun s1 mv=>?_);exact qa3 (hR s1 (mv.mono sub) (hS.moved fun o e=>mv.heap S _ nw e))
 |succ m ih=>
  intro i s hm hi q hS hR;have lt:i<n:=by lia
  refine qo9 zb0 ?_;rw[qm5 qr9 _];refine wB (W.item i s _ _ lt q fun v s1 hP hst1 mv=>?_);obtain⟨t,rfl⟩:=O i v hP;have hS1:TxS κ s1.heap S (met val i) led:=hS.moved fun o e=>mv.heap S _ nw e
  show wpAny _ A.in1 (zd4 [κ.put (val i) t] (setAdd S (κ.put (val i) t)) >>= _) _ _ s1;refine wB (qi3 ?_);unfold setAdd;refine qi3 (wB (κ.knd.pyHash (k:=val i) (κ.is _ _) ?_));have Y:(met val i).length+1<qn1:=by have:=nQ val i;lia
  refine zg (s:={s1 with toks:=s1.toks+1}) hS1 Y fun h2 sb hS2 b=>?_
  have hS3:TxS κ h2 S (met val (i+1)) led:=by rw[pi];exact hS2
  refine qa3 ⟨qv0 qr9 _,ih (i+1) _ (by lia) lt (W.frame _ s1 _ _ hst1 (za6 _) fun b L o e=>?_) hS3 fun s2 mv2 hS4=>?_⟩
  .rw[sb.2 b (fun h:b=S=>Z (by rw[<- h];exact L))];exact e
  .refine hR s2 (Moved.trans W.gtrans ((mv.mono sub).then_heap (za6 _) fun b o L e=>?_) mv2) hS4;rw[sb.2 b (fun h:b=S=>L (by rw[h];exact qe6))];exact e
end
def dQ(u:Ja):Bool:=!(u.params.followText "set-order")
section
variable{P:qc6}{u:Ja}{K:Type}[DecidableEq K]{κ:SK P u K}{A:qd5}{E:Value->qa4->Prop}{s:qa4}
theorem zh (v:Value) {Q1:Value->qa4->Prop} (q:Q1 (.ref s.heap.objs.size) {s with heap:=s.heap.push {cls:=.type "set",dict:=none,data:=.set #[] 0 (.fresh 0 0 (dQ u))}}) :
  qp6 (model P u) A (.call (.builtin "set.__new__") ⟨[.type "set",v],[]⟩) (wants Q1 E) s:=by
 refine codeAny_of_tree ?_;show wpAny _ A.in1 (do checkBuiltinCall "set.__new__" ⟨[.type "set",v],[]⟩;again (.builtin "set.__new__" ⟨[.type "set",v],[]⟩)) _ _ s;refine wB (za4 (F.newCall_set_1 v) (qa3 ⟨qv0 F.plain_set_new _,qo9 F.entry_set_new ?_⟩));rw[qm5 F.plain_set_new _];unfold qj6.«set.__new__» qj6.Frozenset.newClass;have z:=sub_set_self;obtain⟨hp,g,d,tk,L⟩:=s;dsimp only;wp_walk;refine qn9 (qa3 ?_);dsimp only;simp only[newObj];refine wB (wpAny_alloc (qa3 ?_));exact qa3 q
end
variable{led:Bool}
section
variable{P:qc6}{u:Ja}{K:Type}[DecidableEq K]{κ:SK P u K}{A:qd5}{E:Value->qa4->Prop}{s:qa4}
theorem uu(e:hp.get? a=some {cls:=.type "set",dict:=none,data:=.set #[] 0 (.fresh 0 0 led)}):TxS κ hp a [] led:=⟨_,#[],0,.fresh 0 0 led,e,⟨rfl,rfl,rfl⟩,rfl,⟨(fun e q=>by cases q),qx9 _,qt5⟩,(by unfold qn1;decide),(by cases led<;>rfl),rfl,.nil⟩
theorem wv{l:J9}{vs:Array Value}{val:Nat->K}(W:A.handled=none)(hl:s.heap.IsList l vs)(hi:∀(i:Nat)(v:Value),vs[i]?=some v->∃t,v=κ.put (val i) t)(hb:vs.size+1<qn1)
 (q:∀(hp:Heap)(tk:Nat),TxS κ hp s.heap.objs.size (met val vs.size) (dQ u)->(∀b o,b<s.heap.objs.size->s.heap.get? b=some o->hp.get? b=some o)->Q (.ref s.heap.objs.size) {s with heap:=hp,toks:=tk}) :
  wpAny (model P u) A (call (.type "set") [.ref l]) Q E s:=by
 obtain⟨c0,tl0,m0⟩:=qp0.mro;have m1:=qp0.made;have m2:=qp0.sub;refine zh6 (codeAny_of_tree ?_);show wpAny _ _ (callAny (.type "set") _) _ _ _;refine qa3 ⟨Code.quiet_builtin _ (by decide +kernel),qo9 F.entry_type_call ?_⟩;rw[qd5.under_plain (weight_type_call_type "set" [.ref l] []) rfl];have m3:=qp0.notType;have m4:=qp0.canCreate;have m5:=F.typeCall_set_1 (.ref l)
 repeat (any_goals (first|assumption|wp_step))
 refine qq9 (zh (.ref l) (E:=E) (Q1:=fun x s1=>x=.ref s.heap.objs.size/\s1={s with heap:=s.heap.push {cls:=.type "set",dict:=none,data:=.set #[] 0 (.fresh 0 0 (dQ u))}}) ⟨rfl,rfl⟩) fun r s1 hr=>?_
 cases r with
 |error e=>exact hr
 |ok fl=>
  cases fl with
  |ret x=>
   obtain⟨rfl,rfl⟩:=hr;have gS:(s.heap.push {cls:=.type "set",dict:=none,data:=.set #[] 0 (.fresh 0 0 (dQ u))}).get? s.heap.objs.size=some {cls:=.type "set",dict:=none,data:=.set #[] 0 (.fresh 0 0 (dQ u))}:=qa7 _ rfl;have tS:zh4 {s with heap:=s.heap.push {cls:=.type "set",dict:=none,data:=.set #[] 0 (.fresh 0 0 (dQ u))}} (.ref s.heap.objs.size) "set":=⟨_,gS,rfl⟩;have n1:=qp0.init.lookup;have n2:=qp0.init.bind (.ref s.heap.objs.size)
   repeat (any_goals (first|assumption|wp_step))
   refine qq9 (codeAny_call_builtin (R:=wants (fun r s2=>r=.none/\∃hp tk,s2={s with heap:=hp,toks:=tk}/\TxS κ hp s.heap.objs.size (met val vs.size) (dQ u)/\(∀b o,b<s.heap.objs.size->s.heap.get? b=some o->hp.get? b=some o)) E) qp0.init.plain F.entry_set_init (check_set_init_1 tS ?_)) fun r2 s2 L=>?_
   .obtain⟨ol,hol,hcl,nl,hdl⟩:=hl;obtain⟨oc,od,oda,osl⟩:=ol;simp only at hcl hdl;subst hcl hdl;have Y:(s.heap.push {cls:=.type "set",dict:=none,data:=.set #[] 0 (.fresh 0 0 (dQ u))}).get? l=some {cls:=.type "list",dict:=od,data:=.seq vs nl,slots:=osl}:=gP _ hol;have k1:=F.sub_list_set;have k2:=F.sub_list_frozenset;have k3:(qk5 "list"==qk5 "dict")=false:=by decide
    have Z:(s.heap.push {cls:=.type "set",dict:=none,data:=.set #[] 0 (.fresh 0 0 (dQ u))}).IsList l vs:=⟨_,Y,rfl,nl,rfl⟩;unfold qj6.«set.__init__» noKeywords qj6.Frozenset.updateFrom;generalize hPI:zi0=PI;wp_walk;subst hPI;refine qy2 Z (wB (wpAny_runValue ?_));have ls:l<s.heap.objs.size:=qa8 hol;have c3:A.in1.in1.in1.handled=none:=by simp[W]
    have ne1:l≠(s.heap.push {cls:=.type "set",dict:=none,data:=.set #[] 0 (.fresh 0 0 (dQ u))}).objs.size:=by rw[qf9];exact qc0 (qi1 ls)
    have ne2:s.heap.objs.size∉[(s.heap.push {cls:=.type "set",dict:=none,data:=.set #[] 0 (.fresh 0 0 (dQ u))}).objs.size,l]:=by rw[qf9];simp only[qa9,qa6,qh3,or_false,not_or];exact⟨qc0 (qn8 _),ql6 ls⟩
    refine wu ((Walks.list c3 _ l ne1 vs).toS) s.heap.objs.size ne2 val hi hb (vs.size-0) 0 _ (by lia) (qh8 _) ⟨⟨_,qa7 _ rfl,rfl,rfl⟩,(Z.push _)⟩ (uu (gP _ gS)) fun s3 mv O=>?_
    obtain⟨hp,g3,d3,tk3,o3⟩:=s3;have eg:g3=s.gens:=mv.gens;have ed:d3=s.drawn:=mv.drawn;have eo:o3=s.os:=mv.os;subst eg ed eo;show wpAny _ _ _ _ _ _;refine qa3 ?_;show wpAny _ _ (ret qh6) _ _ _;refine qa3 ⟨rfl,hp,tk3,rfl,O,fun b o hb e=>?_⟩;have b1:b≠s.heap.objs.size:=qc0 hb
    have b2:b≠(s.heap.push {cls:=.type "set",dict:=none,data:=.set #[] 0 (.fresh 0 0 (dQ u))}).objs.size:=by rw[qf9];exact qc0 (qi1 hb)
    exact mv.heap b o (by simp only[qa9,qa6,qh3,or_false,not_or];exact⟨b1,b2⟩) (ql3 _ (ql3 _ e))
   .cases r2 with
    |error e=>exact L
    |ok f2=>
     cases f2 with
     |ret r=>
      obtain⟨rfl,hp,tk,rfl,O,kept⟩:=L
      repeat (any_goals (first|assumption|wp_step))
      exact q _ _ O kept
     |_=>exact L.elim
  |_=>exact hr.elim
end
def jP{α:Type}:∀{l:List α}{i:Nat}(h:i<l.length),(l[i]::l.eraseIdx i).Perm l
 |x::l,0,h=>qx9 _
 |x::l,i+1,h=>by have:=jP (l:=l) (i:=i) (by simpa using h);exact(zj3.swap _ _ _).trans (this.cons x)
section
variable{M:Model}{A:qd5}{E:Value->qa4->Prop}
theorem qz{src:Source}{Q:Nat->qa4->Prop}(L:n≠0)(q:∀i d,i<n->Q i {s with drawn:=d}):wpAny M A (choose src n) Q E s:=fun G p O=>by show Sem.wp M G (.choose src n .pure) _ _ p s;rw[Sem.wp_choose];refine⟨L,?_⟩;rw[Sem.wp_pure];exact q _ _ (qz5 _ (Nat.pos_of_ne_zero L))
theorem iD{α:Type}:∀(n:Nat)(xs:List α){Q:List α->qa4->Prop}{s:qa4},xs.length=n->(∀ys d,ys.Perm xs->Q ys {s with drawn:=d})->wpAny M A (drawOrder n xs) Q E s
 |0,xs,Q,s,L,q=>by have e:xs=[]:=zb1.mp L;subst e;show wpAny M A (pure []) Q E s;refine qa3 ?_;have:=q [] s.drawn (qx9 _);cases s;exact this
 |n+1,[],Q,s,L,q=>by cases L
 |n+1,x::xs,Q,s,L,q=>by show wpAny M A (choose .order (x::xs).length >>= fun i=>match (x::xs)[i]? with|some y=>(drawOrder n ((x::xs).eraseIdx i)) >>= fun ys=>pure (y::ys)|none=>unsupported "internal:drawOrder") Q E s;refine qh4 (qz (by simp) fun i d hi=>?_);rw[gQ hi];dsimp only;refine wB (iD n ((x::xs).eraseIdx i) (by rw[qw7 hi];lia) fun ys d2 p=>qa3 (q _ d2 ?_));exact(p.cons _).trans (jP hi)
end
theorem nR:entryFor table "set.__iter__"=some qj6.«frozenset.__iter__»:=entryFor_alias (id':="frozenset.__iter__") (by kernel_rfl) rfl (by decide +kernel) (by kernel_rfl)
theorem j9:ze7 (.type "set_iterator") "__next__"=pure (some (.builtin "set_iterator.__next__")):=by rw[qs0,qm0];kernel_rfl
section
variable{P:qc6}{u:Ja}{A:qd5}{E:Value->qa4->Prop}{s:qa4}{a:J9}{o:Obj}{es:Array (Int×Value)}{ep:Nat}{t:qg1}
def lj(first:Value)(i:Int)(a:J9)(n ep:Nat):Obj:={cls:=.type "set_iterator",data:=.fields #[first,qf7 i,.ref a,qf7 n,qf7 ep]}
theorem pj(g1:s.heap.get? a=some o)(g2:o.ExactSet)(W:o.data=.set es ep t)(O:t.fits es.size=true)(hb:es.size<qn1)
 (q1:∀(ys:List Nat) d,dQ u=true->(t.plain=false/\1<es.size)->ys.Perm (qc7 es.size)->Q (.ref (s.heap.objs.size+1)) {s with drawn:=d,heap:=(s.heap.push {cls:=.type "tuple",data:=.seq (ys.map fun(i:Nat)=>qf7 i).toArray}).push (lj (.ref s.heap.objs.size) 0 a es.size ep)})
 (q2:(dQ u=false∨¬ (t.plain=false/\1<es.size))->Q (.ref s.heap.objs.size) {s with heap:=s.heap.push (lj (qf7 0) 0 a es.size ep)}):wpAny (model P u) A (zi0 (.ref a)) Q E s:=by
 have Y:s.TypeIs (.ref a) "set":=⟨o,g1,g2.1⟩;refine qz0 Y F.slot_set_iter (qf0 F.slot_set_iter Y nR ?_ (F.args_set_iter_1 _));unfold qj6.«frozenset.__iter__»;refine wB (wB (qa3 (qa3 ?_)));unfold qj6.Frozenset.sizeOf zf1;refine wB (wB (wB (qf1 g1 W O (qa3 (qa3 ?_)))));unfold setDrawn zh8;refine wB (wB (qf1 g1 W O (wB (wB (qn9 (qa3 (qa3 ?_)))))));have Z:(!(u.params.followText "set-order"))=dQ u:=rfl;show wpAny (model P u) A.in1 (if(!(u.params.followText "set-order")&&(!t.plain&&decide (es.size > 1)))=true then(drawOrder es.size (qc7 es.size) >>= fun ys=>zi6 (ys.map fun(i:Nat)=>qf7 i) >>= fun first=>setEpoch a >>= fun e=>newFields "set_iterator" [first,qf7 0,.ref a,qf7 es.size,qf7 e] >>= fun v=>ret v)else(pure (qf7 0) >>= fun first=>setEpoch a >>= fun e=>newFields "set_iterator" [first,qf7 0,.ref a,qf7 es.size,qf7 e] >>= fun v=>ret v)) _ _ s;rw[Z];by_cases q:(dQ u&&(!t.plain&&decide (es.size > 1)))=true
 .rw[if_pos q];simp only[qb2,qj2,decide_eq_true_eq]at q;refine qh4 (iD _ _ (by simp) fun ys d p=>?_);have L:ys.length=es.size:=by rw[p.length_eq,qk8]
  refine wB ?_;refine wpAny_newTuple ?_ (by rw[qa1,L];exact qt0 hb);unfold setEpoch;refine wB (wB (qf1 (s:={s with drawn:=d,heap:=s.heap.push {cls:=.type "tuple",data:=.seq (ys.map fun(i:Nat)=>qf7 i).toArray}}) (gP _ g1) W O (qa3 ?_)));refine wB (qd1 (qa3 ⟨_,rfl,"set_iterator",_,⟨_,qa7 _ rfl,rfl⟩,j9,?_⟩));have:=q1 ys d q.1 q.2 p;rw[qf9];exact this
 .rw[if_neg q];refine wB (qa3 ?_);unfold setEpoch;refine wB (wB (qf1 g1 W O (qa3 ?_)));refine wB (qd1 (qa3 ⟨_,rfl,"set_iterator",_,⟨_,qa7 _ rfl,rfl⟩,j9,?_⟩));refine q2 ?_;by_cases h1:dQ u=true
  .right;intro z;exact q (by rw[h1,z.1];simp;exact z.2)
  .left;simpa using h1
end
theorem mQ:Manifest.owners.lookup (String.ofList ['r','o','t','a','r','e','t','i','_','t','e','s'].reverse)=some Manifest.sig_set_iterator:=by kernel_rfl
theorem slot_setit:Slot "set_iterator" "__next__" "set_iterator.__next__":=.of (owner:="set_iterator") (n:="__next__") (by rw[qs0,qm0];kernel_rfl) (by decide +kernel) (by decide +kernel) (by decide +kernel) (by first|exact .inl (by decide +kernel)|exact .inr (by decide +kernel)) (by rw[zf6];kernel_rfl)
theorem ig:entryFor table "set_iterator.__next__"=some qj6.«set_iterator.__next__»:=entryFor_of_tree (by kernel_rfl)
theorem gy(v:Value):argsOk "set_iterator.__next__" ⟨[v],[]⟩:=by unfold argsOk;rw[signature?_of (id:="set_iterator.__next__") (n:=['_','_','t','x','e','n','_','_']) (o:=['r','o','t','a','r','e','t','i','_','t','e','s']) (by kernel_rfl) mQ];kernel_rfl
variable{first:Value}{ot:Obj}{m:Nat}
section
variable{P:qc6}{u:Ja}{A:qd5}{E:Value->qa4->Prop}{s:qa4}{a I:J9}{o:Obj}{es:Array (Int×Value)}{ep n:Nat}{t:qg1}
def ItAt(h:Heap)(I:J9)(first:Value)(i:Nat)(a:J9)(n ep:Nat):Prop:=∃q,h.get? I=some q/\q.cls=.type "set_iterator"/\q.data=.fields #[first,qf7 i,.ref a,qf7 n,qf7 ep]
theorem ItAt.ty(x:ItAt s.heap I first i a n ep):s.TypeIs (.ref I) "set_iterator":=let ⟨q,h,c,_⟩:=x;⟨q,h,c⟩
theorem lm{T:J9}{ps:Array Value}{Y:Int}{x:Value}{Q:Option Value->qa4->Prop}(L:ItAt s.heap I (.ref T) i a es.size ep)(g1:s.heap.get? a=some o)(g3:o.data=.set es ep t)(Z:t.fits es.size=true)(k1:s.heap.get? T=some ot)(k2:ot.data=.seq ps m)(hp:ps[i]?=some (qf7 p))(Y:es[p]?=some (Y,x))
 (q:∀h',ItAt h' I (.ref T) (i+1) a es.size ep->qn3 I s.heap h'->Q (some x) {s with heap:=h'}):wpAny (model P u) A (qw9 (.ref I)) Q E s:=by
 obtain⟨oi,hi,hc,W⟩:=id L;unfold qw9;refine wB (qr8 (qe4 (name:=qa0 "__next__") L.ty slot_setit (qf0 slot_setit L.ty ig ?_ (gy _))));unfold qj6.«set_iterator.__next__»;refine wB (qa3 (wB (qq1 hi W ?_)));unfold zf1;refine wB (wB (qf1 g1 g3 Z (qa3 ?_)));rw[if_neg (by simp)];refine wB (qt6 k1 k2 ?_);dsimp only;rw[qd8,hp];show wpAny _ _ (setNextDrawn a ((p:Int)).toNat ((ep:Int)).toNat >>= fun x=>za8 (.ref I) 1 (qf7 ((i:Int)+1)) >>= fun _=>ret x) _ _ s;rw[qd8,qd8];unfold setNextDrawn;refine wB (wB (qf1 g1 g3 Z ?_));dsimp only;rw[if_neg (by simp),Y];refine qa3 ?_;refine qh4 (qj4 hi W (by simp) ?_)
 have O:ItAt (s.heap.update I (qp5 (·.setIfInBounds 1 (qf7 ((i:Int)+1))))) I (.ref T) (i+1) a es.size ep:=⟨_,qe5 _ hi (qi0 (qe0 W _)),(qp4 ..).trans hc,by rw[qe0 W];simp[qf7]⟩
 exact qa3 ⟨_,rfl,qa3 (q _ O (qe8 ..))⟩
end
set_option maxHeartbeats 400000
section
variable{P:qc6}{u:Ja}{A:qd5}{E:Value->qa4->Prop}{s:qa4}{a I:J9}{o:Obj}{es:Array (Int×Value)}{ep n:Nat}{t:qg1}
theorem l5{T:J9}{ps:Array Value}{m:Nat}{Q:Option Value->qa4->Prop}(O:A.handled=none)(L:ItAt s.heap I (.ref T) es.size a es.size ep)(g1:s.heap.get? a=some o)(g3:o.data=.set es ep t)(Z:t.fits es.size=true)(Y:s.heap.get? T=some ot)(k2:ot.data=.seq ps m)(hp:ps.size=es.size)
 (q:∀h',zg2 I s.heap h'->Q none {s with heap:=h'}):wpAny (model P u) A (qw9 (.ref I)) Q E s:=by
 obtain⟨oi,hi,hc,W⟩:=id L;unfold qw9;refine wB (qr8 (qe4 (name:=qa0 "__next__") L.ty slot_setit (qf0 slot_setit L.ty ig ?_ (gy _))));unfold qj6.«set_iterator.__next__»;refine wB (qa3 (wB (qq1 hi W ?_)));unfold zf1;refine wB (wB (qf1 g1 g3 Z (qa3 ?_)));rw[if_neg (by simp)];refine wB (qt6 Y k2 ?_);dsimp only;rw[qd8,qo1 (by lia)];show wpAny _ _ (za8 (.ref I) 0 (qf7 0) >>= fun _=>za8 (.ref I) 2 .none >>= fun _=>zh2 (.type "StopIteration") [] >>= fun e=>zh3 e) _ _ s;refine qh4 (qj4 hi W (by simp) ?_);refine qh4 (qj4 (qe5 _ hi (qi0 (qe0 W _))) (qe0 W _) (by simp) ?_);show wpAny _ _ (zh2 (.type "StopIteration") [] >>= _) _ _ _;refine wB ?_;simp only[zh2,zi6];refine wB (qd1 ?_ (by size_fits));refine qh4 (m:=qm3 _ _) (za4 (a:=qh6) (by first|rfl|(simp only[qm3];rfl)) ?_);refine qd1 ?_ (by size_fits);simp only[zh3];refine wB (za5 ?_);rw[show A.in1.handled=none from O];refine wB (qa3 (zg3 ?_));refine wB (qq4 (T:="StopIteration") (b:=true) ⟨_,qa7 _ rfl,rfl⟩ zf5 ?_);exact qa3 (q _ (((qe8 ..).trans (qe8 ..)).extBut.push _ |>.push _))
end
theorem r8{α:Type}(f:Nat->Nat):∀(n k:Nat)(l:List α)(q:Array α),l.length=n->(zi3 f n k l q).toList.Perm (q.toList++l)
 |0,k,l,q,O=>by have e:l=[]:=zb1.mp O;subst e;rw[zi3,qg2]
 |n+1,k,l,q,O=>by have L:f k%l.length<l.length:=qz5 _ (by lia);rw[zi3,gQ L];dsimp only;refine(r8 f n (k+1) (l.eraseIdx (f k%l.length)) (q.push l[f k%l.length]) (by rw[qw7 L];lia)).trans ?_;rw[qz3,qj1];exact zj3.append_left _ (jP L)
theorem r9{α:Type}(f:Nat->Nat)(xs:Array α):(ze3 f xs).toList.Perm xs.toList:=by have:=r8 f xs.size 0 xs.toList #[] (by simp);simpa[ze3] using this
section
variable{P:qc6}{u:Ja}{A:qd5}{E:Value->qa4->Prop}{s:qa4}{a I:J9}{o:Obj}{es:Array (Int×Value)}{ep n:Nat}{t:qg1}
theorem f8{Q:Option (Value×Nat)->qa4->Prop}(L:dQ u=false)(g1:s.heap.get? a=some o)(O:o.data=.set es ep t)(W:t.fits es.size=true)
 (q:Q (((ze3 (u.params.setOrder a ep) es)[i]?).map fun e=>(e.2,j)) s):wpAny (model P u) A (zb2 a j i ep) Q E s:=by
 have Y:u.params.followText "set-order"=true:=by unfold dQ at L;simpa using L
 unfold zb2 zh8;refine wB (qf1 g1 O W (wB (wB (qn9 (qa3 ?_)))));show wpAny (model P u) A (if u.params.followText "set-order"=true then _ else _) Q E s;rw[if_pos Y,if_neg (by simp)];unfold setWalk zh8;refine wB (wB (qf1 g1 O W (wB (wB (qn9 (qa3 ?_))))));show wpAny (model P u) A (if u.params.followText "set-order"=true then _ else _) _ E s;rw[if_pos Y];refine wB (qn9 (qa3 ?_));exact qa3 q
end
section
variable{P:qc6}{u:Ja}{A:qd5}{E:Value->qa4->Prop}{s:qa4}{a I:J9}{o:Obj}{es:Array (Int×Value)}{ep n:Nat}{t:qg1}
theorem gK{Q:Option (Value×Nat)->qa4->Prop}(L:dQ u=true)(O:t.led=true)(one:¬ (t.plain=false/\1<es.size))(g1:s.heap.get? a=some o)(Z:o.data=.set es ep t)(W:t.fits es.size=true)
 (q:Q (match es[qg0 t.place j]?,t.place[qg0 t.place j]? with|some (_,x),some k=>some (x,k+1)|_,_=>none) s):wpAny (model P u) A (zb2 a j i ep) Q E s:=by
 have Y:u.params.followText "set-order"=false:=by unfold dQ at L;simpa using L
 unfold zb2 zh8;refine wB (qf1 g1 Z W (wB (wB (qn9 (qa3 ?_)))));show wpAny (model P u) A (if u.params.followText "set-order"=true then _ else if(!t.plain&&decide (es.size > 1))=true then _ else(if(!t.led&&!es.isEmpty)=true then unsupported "set:maker-not-led" else pure ()) >>= fun _=>pure (match es[qg0 t.place j]?,t.place[qg0 t.place j]? with|some (_,x),some k=>some (x,k+1)|_,_=>none)) Q E s;rw[Y,if_neg (by decide),if_neg (by simpa using one),if_neg (by simp[O])];exact wB (qa3 (qa3 q))
theorem ln{next:Nat}{x:Value}{Q:Option Value->qa4->Prop}(L:ItAt s.heap I (qf7 j) i a es.size ep)(g1:s.heap.get? a=some o)(g3:o.data=.set es ep t)(hf:t.fits es.size=true)(hn:∀{A':qd5}{Z:Option (Value×Nat)->qa4->Prop}{E':Value->qa4->Prop},Z (some (x,next)) s->wpAny (model P u) A' (zb2 a j i ep) Z E' s)
 (q:∀h',ItAt h' I (qf7 next) (i+1) a es.size ep->qn3 I s.heap h'->Q (some x) {s with heap:=h'}):wpAny (model P u) A (qw9 (.ref I)) Q E s:=by
 obtain⟨oi,hi,hc,O⟩:=id L;unfold qw9;refine wB (qr8 (qe4 (name:=qa0 "__next__") L.ty slot_setit (qf0 slot_setit L.ty ig ?_ (gy _))));unfold qj6.«set_iterator.__next__»;refine wB (qa3 (wB (qq1 hi O ?_)));unfold zf1;refine wB (wB (qf1 g1 g3 hf (qa3 ?_)));rw[if_neg (by simp)];show wpAny _ _ (zb2 a ((j:Int)).toNat ((i:Int)).toNat ((ep:Int)).toNat >>= _) _ _ s;rw[qd8,qd8,qd8];refine wB (hn ?_);show wpAny _ _ (za8 (.ref I) 0 (qf7 next) >>= fun _=>za8 (.ref I) 1 (qf7 ((i:Int)+1)) >>= fun _=>ret x) _ _ s;refine qh4 (qj4 hi O (by simp) ?_);refine qh4 (qj4 (qe5 _ hi (qi0 (qe0 O _))) (qe0 O _) (by simp) ?_);have e1:(s.heap.update I (qp5 (·.setIfInBounds 0 (qf7 next)))).get? I=some (qp5 (·.setIfInBounds 0 (qf7 next)) oi):=qe5 _ hi (qi0 (qe0 O _));have Y:=qe0 O (·.setIfInBounds 0 (qf7 next))
 have W:ItAt ((s.heap.update I (qp5 (·.setIfInBounds 0 (qf7 next)))).update I (qp5 (·.setIfInBounds 1 (qf7 ((i:Int)+1))))) I (qf7 next) (i+1) a es.size ep:=⟨_,qe5 _ e1 (qi0 (qe0 Y _)),(qp4 ..).trans ((qp4 ..).trans hc),by rw[qe0 Y];simp[qf7]⟩
 exact qa3 ⟨_,rfl,qa3 (q _ W ((qe8 ..).trans (qe8 ..)))⟩
theorem l6{Q:Option Value->qa4->Prop}(O:A.handled=none)(L:ItAt s.heap I (qf7 j) i a es.size ep)(g1:s.heap.get? a=some o)(g3:o.data=.set es ep t)(hf:t.fits es.size=true)(hn:∀{Z:qd5}{Y:Option (Value×Nat)->qa4->Prop}{E':Value->qa4->Prop},Y none s->wpAny (model P u) Z (zb2 a j i ep) Y E' s)
 (q:∀h',zg2 I s.heap h'->Q none {s with heap:=h'}):wpAny (model P u) A (qw9 (.ref I)) Q E s:=by
 obtain⟨oi,hi,hc,W⟩:=id L;unfold qw9;refine wB (qr8 (qe4 (name:=qa0 "__next__") L.ty slot_setit (qf0 slot_setit L.ty ig ?_ (gy _))));unfold qj6.«set_iterator.__next__»;refine wB (qa3 (wB (qq1 hi W ?_)));unfold zf1;refine wB (wB (qf1 g1 g3 hf (qa3 ?_)));rw[if_neg (by simp)];show wpAny _ _ (zb2 a ((j:Int)).toNat ((i:Int)).toNat ((ep:Int)).toNat >>= _) _ _ s;rw[qd8,qd8,qd8];refine wB (hn ?_);show wpAny _ _ (za8 (.ref I) 2 .none >>= fun _=>zh2 (.type "StopIteration") [] >>= fun e=>zh3 e) _ _ s;refine qh4 (qj4 hi W (by simp) ?_);show wpAny _ _ (zh2 (.type "StopIteration") [] >>= _) _ _ _;refine wB ?_;simp only[zh2,zi6];refine wB (qd1 ?_ (by size_fits));refine qh4 (m:=qm3 _ _) (za4 (a:=qh6) (by first|rfl|(simp only[qm3];rfl)) ?_);refine qd1 ?_ (by size_fits);simp only[zh3];refine wB (za5 ?_);rw[show A.in1.handled=none from O];refine wB (qa3 (zg3 ?_));refine wB (qq4 (T:="StopIteration") (b:=true) ⟨_,qa7 _ rfl,rfl⟩ zf5 ?_);exact qa3 (q _ ((qe8 ..).extBut.push _ |>.push _))
end
theorem gM:Slot "set_iterator" "__iter__" "set_iterator.__iter__":=.of (owner:="set_iterator") (n:="__iter__") (by rw[qs0,qm0];kernel_rfl) (by decide +kernel) (by decide +kernel) (by decide +kernel) (by first|exact .inl (by decide +kernel)|exact .inr (by decide +kernel)) (by rw[zf6];kernel_rfl)
theorem lp:entryFor table "set_iterator.__iter__"=some qj6.«dict_keyiterator.__iter__»:=entryFor_alias (id':="dict_keyiterator.__iter__") (by kernel_rfl) rfl (by decide +kernel) (by kernel_rfl)
theorem kt(v:Value):argsOk "set_iterator.__iter__" ⟨[v],[]⟩:=by unfold argsOk;rw[signature?_of (id:="set_iterator.__iter__") (n:=['_','_','r','e','t','i','_','_']) (o:=['r','o','t','a','r','e','t','i','_','t','e','s']) (by kernel_rfl) mQ];kernel_rfl
variable{ord:Nat->Value}
section
variable{P:qc6}{u:Ja}{A:qd5}{E:Value->qa4->Prop}{s:qa4}{a I:J9}{o:Obj}{es:Array (Int×Value)}{ep n:Nat}{t:qg1}
theorem g9(L:ItAt s.heap I first i a n ep)(q:Q (.ref I) s):wpAny (model P u) A (zi0 (.ref I)) Q E s:=by refine qz0 L.ty gM (qf0 gM L.ty lp ?_ (kt _));show wpAny _ _ (ret (.ref I)) _ _ s;exact qa3 ⟨_,rfl,"set_iterator",_,L.ty,slot_setit.lookup,q⟩
theorem nS{Q:Bool->qa4->Prop}(O:s.TypeIs (.ref a) "set")(q:Q false s):wpAny (model P u) A (ql1 (.ref a)) Q E s:=by
 unfold ql1;refine wB (qv9 O PySem.F.slot_set_len.lookup ?_);generalize L:("set.__len__":String)=W
 wp_delta
 rw[show splitId W=some ("set","__len__")from by subst L;decide +kernel];subst L;refine wB (qq4 (T:="set") (b:=true) O sub_set_self ?_);refine ql2 (fun z=>absurd z (by decide)) (fun _=>?_);refine ql2 (fun _=>wB (qt7 O (qa3 q))) (fun z=>absurd (by decide +kernel) z)
theorem ItAt.keep(x:ItAt h I first i a n ep)(e:∀q,h.get? I=some q->h'.get? I=some q):ItAt h' I first i a n ep:=let ⟨q,g,r⟩:=x;⟨q,e q g,r⟩
theorem qA {T:J9} {ps:Array Value} (O:A.handled=none) (g3:o.data=.set es ep t) (hf:t.fits es.size=true) (k2:ot.data=.seq ps m) (Z:ps.size=es.size) (hI:I≠a) (Y:I≠T) (L:∀ i,i<es.size->∃ p hx,ps[i]?=some (qf7 (p:Nat))/\es[p]?=some (hx,ord i)) :
  WalksS P u A I [I,a,T] [I] (fun x y=>y=x) es.size (fun i v=>v=ord i) (fun i s=>ItAt s.heap I (.ref T) i a es.size ep/\s.heap.get? a=some o/\s.heap.get? T=some ot) where
 sub:=fun b W=>by rw[qa6.mp W];exact .head _
 grefl:=fun _=>rfl
 gtrans:=fun _ _ _ h1 h2=>h2.trans h1
 frame:=fun i s h' tk ⟨x,y,z⟩ _ e=>⟨x.keep fun q g=>e I (.head _) q g,e a (.tail _ (.head _)) _ y,e T (.tail _ (.tail _ (.head _))) _ z⟩
 item:=fun i s Q E hi ⟨x,y,z⟩ q=>by
  obtain⟨p,hx,h1,h2⟩:=L i hi;refine lm x y g3 hf z k2 h1 h2 fun h' it sb=>q _ _ rfl ⟨it,(sb.2 a (qo4 hI)).trans y,(sb.2 T (qo4 Y)).trans z⟩ ⟨fun b ob W e=>?_,rfl,rfl,rfl,nL _⟩
  exact(sb.2 b (fun w=>W (by rw[w];exact .head _))).trans e
 done:=fun s Q E ⟨x,y,z⟩ q=>l5 O x y g3 hf z k2 Z fun h' eb=>q _ ⟨fun b ob W e=>eb b ob (fun w=>W (by rw[w];exact .head _)) e,rfl,rfl,rfl,nL _⟩
 self:=fun i s Q E ⟨x,_⟩ q=>g9 x q
end
section
variable{P:qc6}{u:Ja}{K:Type}[DecidableEq K]{κ:SK P u K}{A:qd5}{E:Value->qa4->Prop}{s:qa4}{a I:J9}{o:Obj}{es:Array (Int×Value)}{ep n:Nat}{t:qg1}
theorem lq{sl:Nat->Nat}(L:A.handled=none)(g3:o.data=.set es ep t)(hf:t.fits es.size=true)(hI:I≠a)
 (hn:∀i,i<es.size->∀(s:qa4),s.heap.get? a=some o->∀{Z:qd5}{O:Option (Value×Nat)->qa4->Prop}{Y:Value->qa4->Prop},O (some (ord i,sl (i+1))) s->wpAny (model P u) Z (zb2 a (sl i) i ep) O Y s)
 (he:∀(s:qa4),s.heap.get? a=some o->∀{Z:qd5}{O:Option (Value×Nat)->qa4->Prop}{Y:Value->qa4->Prop},O none s->wpAny (model P u) Z (zb2 a (sl es.size) es.size ep) O Y s) :
  WalksS P u A I [I,a] [I] (fun x y=>y=x) es.size (fun i v=>v=ord i) (fun i s=>ItAt s.heap I (qf7 (sl i)) i a es.size ep/\s.heap.get? a=some o) where
 sub:=fun b W=>by rw[qa6.mp W];exact .head _
 grefl:=fun _=>rfl
 gtrans:=fun _ _ _ h1 h2=>h2.trans h1
 frame:=fun i s h' tk ⟨x,y⟩ _ e=>⟨x.keep fun q g=>e I (.head _) q g,e a (.tail _ (.head _)) _ y⟩
 item:=fun i s Q E hi ⟨x,y⟩ q=>ln x y g3 hf (hn i hi s y) fun h' it sb=>q _ _ rfl ⟨it,(sb.2 a (qo4 hI)).trans y⟩ ⟨fun b ob W e=>(sb.2 b (fun w=>W (by rw[w];exact .head _))).trans e,rfl,rfl,rfl,nL _⟩
 done:=fun s Q E ⟨x,y⟩ q=>l6 L x y g3 hf (he s y) fun h' eb=>q _ ⟨fun b ob W e=>eb b ob (fun w=>W (by rw[w];exact .head _)) e,rfl,rfl,rfl,nL _⟩
 self:=fun i s Q E ⟨x,_⟩ q=>g9 x q
inductive AreK(κ:SK P u K):List Value->List K->Prop
 |nil:AreK κ [] []
 |cons (k:K) (t:Tok) {vs:List Value} {ks:List K}:AreK κ vs ks->AreK κ (κ.put k t::vs) (k::ks)
def AreK.len{vs:List Value}{ks:List K}(h:AreK κ vs ks):vs.length=ks.length:=by
 induction h with
 |nil=>rfl
 |cons y tk _ q=>simp[q]
theorem pk{ss:List K}{l m:List (Int×Value)}(x:Tx κ l ss)(p:m.Perm l):∃ks,AreK κ (m.map (·.2)) ks/\ks.Perm ss:=by
 have y:=x.perm p;refine⟨m.map fun e=>κ.of e.2,?_,y.per⟩
 have q:∀m:List (Int×Value),(∀e∈m,∃k t,e.2=κ.put k t/\e.1=κ.knd.hash k)->AreK κ (m.map (·.2)) (m.map fun e=>κ.of e.2):=fun m=>by
  induction m with
  |nil=>intro _;exact .nil
  |cons e m L=>intro h;obtain⟨k,tk,h1,_⟩:=h e (by simp);rw[qa5,qa5,h1,κ.ofmk];exact .cons k tk (L fun z O=>h z (by simp[O]))
 exact q m y.all
def nT{ss:List K}(hS:TxS κ s.heap a ss (dQ u))
 (q:∀(I:J9)(fp:List J9)(vs:List Value)(ks:List K)(St:Nat->qa4->Prop)(d:Drawn)(h':Heap),(∀Y:qd5,Y.handled=none->WalksS P u Y I fp [I] (fun x y=>y=x) vs.length (fun i v=>v=vs.getD i .none) St)->St 0 {s with drawn:=d,heap:=h'}->(∀b∈fp,b<h'.objs.size/\(b=a∨s.heap.objs.size<=b))->(∀b ob,s.heap.get? b=some ob->h'.get? b=some ob)->s.heap.objs.size<=I->AreK κ vs ks->ks.Perm ss->Q (.ref I) {s with drawn:=d,heap:=h'}) :
  wpAny (model P u) A (zi0 (.ref a)) Q E s:=by
 obtain⟨o,es,ep,t,g1,g2,g3,x,hb,hf,hl,hp⟩:=hS.ex;have la:a<s.heap.objs.size:=qa8 g1;refine pj g1 g2 g3 hf hb (fun ys d Z hd p=>?_) (fun hm=>?_)
 . -- drawn
   have hyl:ys.length=es.size:=by rw[p.length_eq,qk8]
   have perm:(ys.map fun i=>es.toList.getD i (0,.none)).Perm es.toList:=by
    refine(p.map _).trans ?_
    have e:(qc7 es.size).map (fun i=>es.toList.getD i (0,.none))=es.toList:=by
     apply qu3
     .simp
     .intro i h1 h2;simp at h1 h2;simp[h2]
    rw[e]
   obtain⟨ks,k1,k2⟩:=pk x perm;have hlen:((ys.map fun i=>es.toList.getD i (0,.none)).map (·.2)).length=es.size:=by rw[qa1,qa1,hyl]
   refine q (s.heap.objs.size+1) [s.heap.objs.size+1,a,s.heap.objs.size] ((ys.map fun i=>es.toList.getD i (0,.none)).map (·.2)) ks (fun i s'=>ItAt s'.heap (s.heap.objs.size+1) (.ref s.heap.objs.size) i a es.size ep/\s'.heap.get? a=some o/\s'.heap.get? s.heap.objs.size=some {cls:=.type "tuple",data:=.seq (ys.map fun(i:Nat)=>qf7 i).toArray}) d _ (fun Y L=>?_) ⟨⟨lj (.ref s.heap.objs.size) 0 a es.size ep,?_,rfl,rfl⟩,?_,?_⟩ ?_ ?_ (za6 _) k1 k2
   .rw[hlen];refine qA L g3 hf rfl (by simp[hyl]) (ql6 (qi1 la)) (Nat.succ_ne_self _) fun i hi=>?_
    have O:i<ys.length:=by lia
    have hy:ys[i]<es.size:=qe1.mp (p.mem_iff.mp (zb6 O));refine⟨ys[i],es[ys[i]].1,by simp[O],?_⟩;simp[O,hy]
   .have:=qa7 (s.heap.push {cls:=.type "tuple",data:=.seq (ys.map fun(i:Nat)=>qf7 i).toArray}) (o:=lj (.ref s.heap.objs.size) 0 a es.size ep) rfl;rw[qf9]at this;exact this
   .exact gP _ (gP _ g1)
   .exact gP _ (qa7 _ rfl)
   .intro b hb;rw[qf9,qf9];rcases qa9.mp hb with rfl|hb
    .exact⟨qn8 _,.inr (za6 _)⟩
    .rcases qa9.mp hb with rfl|hb
     .exact⟨qi1 (qi1 la),.inl rfl⟩
     .rw[qa6.mp hb];exact⟨qi1 (qn8 _),.inr (nL _)⟩
   .exact fun b ob e=>gP _ (gP _ e)
 . -- by the world's text,or one at most
   have fin:∀(m:List (Int×Value))(sl:Nat->Nat),m.Perm es.toList->sl 0=0->(∀Y:qd5,Y.handled=none->WalksS P u Y s.heap.objs.size [s.heap.objs.size,a] [s.heap.objs.size] (fun x y=>y=x) es.size (fun i v=>v=(m.map (·.2)).getD i .none) (fun i s'=>ItAt s'.heap s.heap.objs.size (qf7 (sl i)) i a es.size ep/\s'.heap.get? a=some o))->Q (.ref s.heap.objs.size) {s with heap:=s.heap.push (lj (qf7 0) 0 a es.size ep)}:=fun m sl p h0 W=>by
    obtain⟨ks,k1,k2⟩:=pk x p;have hlen:(m.map (·.2)).length=es.size:=by rw[qa1,p.length_eq,qe2]
    have:=q s.heap.objs.size [s.heap.objs.size,a] (m.map (·.2)) ks (fun i s'=>ItAt s'.heap s.heap.objs.size (qf7 (sl i)) i a es.size ep/\s'.heap.get? a=some o) s.drawn (s.heap.push (lj (qf7 0) 0 a es.size ep)) (by rw[hlen];exact W) ⟨⟨lj (qf7 0) 0 a es.size ep,qa7 _ rfl,rfl,by rw[h0];rfl⟩,gP _ g1⟩ (fun b hb=>by
     rw[qf9];rcases qa9.mp hb with rfl|hb
     .exact⟨qn8 _,.inr (nL _)⟩
     .rw[qa6.mp hb];exact⟨qi1 la,.inl rfl⟩) (fun b ob e=>gP _ e) (nL _) k1 k2
    exact this
   have ne:s.heap.objs.size≠a:=ql6 la;by_cases byT:dQ u=false
   .refine fin (ze3 (u.params.setOrder a ep) es).toList (fun _=>0) (r9 _ _) rfl fun Y L=>?_
    have hsz:(ze3 (u.params.setOrder a ep) es).size=es.size:=by have:=(r9 (u.params.setOrder a ep) es).length_eq;simpa using this
    refine lq L g3 hf ne (fun i hi s' gs Y Q' E' q'=>f8 byT gs g3 hf ?_) (fun s' gs Y Q' E' q'=>f8 byT gs g3 hf ?_)
    .have O:i<(ze3 (u.params.setOrder a ep) es).size:=by lia
     rw[qg6 O];simpa[O] using q'
    .rw[qo1 (by lia)];exact q'
   .have Z:dQ u=true:=by simpa using byT
    have one:¬ (t.plain=false/\1<es.size):=by
     rcases hm with h1|h1
     .exact absurd h1 byT
     .exact h1
    have hpl:t.place.size=es.size:=by unfold qg1.fits at hf;simp at hf;exact hf.1
    refine fin es.toList (fun i=>if h:0<i/\i<=t.place.size then t.place[i-1]+1 else 0) (qx9 _) (by simp) fun Y L=>?_
    have low:∀i,i<=es.size->qg0 t.place (if h:0<i/\i<=t.place.size then t.place[i-1]+1 else 0)=i:=fun i hi=>by
     by_cases h0:i=0
     .subst h0;simp[pf hp]
     .rw[dif_pos ⟨by lia,by lia⟩,qw hp (by lia)];lia
    refine lq L g3 hf ne (fun i hi s' gs Y Q' E' q'=>gK Z (hl.trans Z) one gs g3 hf ?_) (fun s' gs Y Q' E' q'=>gK Z (hl.trans Z) one gs g3 hf ?_)
    .rw[low i (qi8 hi),qg6 hi,qg6 (by lia)];rw[dif_pos ⟨by lia,by lia⟩]at q';simpa[hi] using q'
    .rw[low _ (nL _),qo1 (by lia)];exact q'
end
section
variable{P:qc6}{u:Ja}{K:Type}[DecidableEq K]{κ:SK P u K}{A:qd5}{E:Value->qa4->Prop}{s:qa4}{a:J9}
theorem TxS.small{ss:List K}(x:TxS κ h a ss led):ss.length<qn1/\∃o,h.get? a=some o/\o.cls=.type "set":=by obtain⟨o,es,ep,t,g1,g2,L,y,q,_⟩:=x.ex;refine⟨?_,o,g1,g2.1⟩;rw[<- y.per.length_eq,qa1,qe2];exact q
theorem ku {ss:List K} {Q:List Value->qa4->Prop} (Y:A.handled=none) (hS:TxS κ s.heap a ss (dQ u))
  (q:∀(vs:List Value)(ks:List K)(d:Drawn)(h':Heap)(tk:Nat),AreK κ vs ks->ks.Perm ss->s.heap.objs.size<=h'.objs.size->(∀b ob,s.heap.get? b=some ob->h'.get? b=some ob)->Q vs {s with drawn:=d,heap:=h',toks:=tk}):wpAny (model P u) A (collect (.ref a)) Q E s:=by
 obtain⟨hsz,o,g1,gc⟩:=hS.small;have la:a<s.heap.objs.size:=qa8 g1;unfold collect;refine wB (wpAny_runValue (qo9 PySem.F.entry_proto_collect ?_));rw[qm5 PySem.F.plain_proto_collect _];show wpAny _ A.in1 (newList [] >>= fun l=>again (.builtin "list.__iadd__" ⟨[l,.ref a],[]⟩)) _ _ s;refine wB (qd1 ?_);refine qa3 ⟨qv0 PySem.F.plain_list_iadd _,qo9 PySem.F.entry_list_iadd ?_⟩;rw[qm5 PySem.F.plain_list_iadd _];show wpAny _ A.in1 (qh2 (.ref s.heap.objs.size) (.ref a) (.ref s.heap.objs.size)) _ _ _;have hS1:TxS κ (s.heap.push {cls:=.type "list",data:=.seq ([]:List Value).toArray}) a ss (dQ u):=hS.moved fun ob e=>gP _ e
 have hT1:zh4 {s with heap:=s.heap.push {cls:=.type "list",data:=.seq ([]:List Value).toArray}} (.ref a) "set":=⟨o,gP _ g1,gc⟩;have gL:(s.heap.push {cls:=.type "list",data:=.seq ([]:List Value).toArray}).get? s.heap.objs.size=some {cls:=.type "list",data:=.seq ([]:List Value).toArray}:=qa7 _ rfl;unfold qh2;refine wB (qt7 hT1 ?_);have h1:qn2 (.ref s.heap.objs.size) (.ref a)=false:=by simp[qn2,ql6 la]
 have h2:(qk5 "set"==qk5 "list")=false:=by decide
 have h3:(qk5 "set"==qk5 "tuple")=false:=by decide
 simp only[h1,h2,h3,qu7,qe7,if_false];refine wB (nT (s:={s with heap:=s.heap.push {cls:=.type "list",data:=.seq ([]:List Value).toArray}}) hS1 fun I fp vs ks St d h' W st hfp keep hI k1 k2=>?_);have hTI:zh4 {s with drawn:=d,heap:=h'} (.ref a) "set":=⟨o,keep a o (gP _ g1),gc⟩;refine wB (qi3 (nS hTI ?_));show wpAny _ A.in1 (rule "list.extend.makes-room" >>= fun _=>qj6.List.listTouch (.ref s.heap.objs.size) >>= fun _=>again (.builtin "list.extend.loop" ⟨[.ref s.heap.objs.size,.ref I,.ref s.heap.objs.size],[]⟩)) _ _ _;refine wB (qv3 (wB ?_));have gL1:=keep _ _ gL;show wpAny _ A.in1 (updateSeq s.heap.objs.size (·.push .none) >>= fun _=>updateSeq s.heap.objs.size (·.pop)) _ _ _;refine wB (ze4 gL1 rfl ?_);have gL2:=qe5 (qo0 (·.push qh6)) gL1 rfl;refine ze4 gL2 rfl ?_;have gL3:=qe5 (qo0 (·.pop)) gL2 rfl;have oth:∀b ob,b≠s.heap.objs.size->h'.get? b=some ob->((h'.update s.heap.objs.size (qo0 (·.push qh6))).update s.heap.objs.size (qo0 (·.pop))).get? b=some ob:=fun b ob hb e=>(ql4 _ _ (qo4 hb)).trans ((ql4 _ _ (qo4 hb)).trans e)
 have out:s.heap.objs.size∉fp:=fun hm=>by
  rcases(hfp _ hm).2 with z|z
  .exact ql6 la z
  .have z:(s.heap.push {cls:=.type "list",data:=.seq ([]:List Value).toArray}).objs.size<=s.heap.objs.size:=z;rw[qf9]at z;exact Nat.not_succ_le_self _ z
 have W1:=W A.in1 (by simp[Y])
 have hvl:vs.length<=qb1:=by
  have e:vs.length=ss.length:=by rw[<- k2.length_eq];exact k1.len
  rw[e];exact qt0 hsz
 refine qa3 ⟨qv0 PySem.F.plain_extend_loop _,codeAny_extend_loopS W1 hvl _ out _ vs.length 0 _ _ _ rfl (qh8 _) (W1.frame 0 ({s with drawn:=d,heap:=h'}:qa4) _ s.toks st (nL _) fun b hb ob e=>oth b ob (fun h=>out (h▸hb)) e) gL3 (ItemsOf.nil _) fun s2 J5 c2 mv Z L=>?_⟩;show wpAny _ A (load s.heap.objs.size >>= _) _ _ s2;refine wB (wpAny_load Z ?_)
 have hav:J5.toList=vs:=by
  apply qu3
  .simpa using L.1
  .intro i h1 h2;have:=L.2 i J5.toList[i] (by simp);rw[this];simp[h2]
 rw[<- hav]at k1;obtain⟨h2',g2',d2',O,o2'⟩:=s2;have eg:g2'=s.gens:=mv.gens;have ed:d2'=d:=mv.drawn;have eo:o2'=s.os:=mv.os;subst eg ed eo;refine qa3 (q J5.toList ks d2' h2' O k1 k2 (qi8 (qa8 Z)) fun b ob e=>?_);have nb:b≠s.heap.objs.size:=qc0 (qa8 e);refine mv.heap b ob (fun hm=>?_) (oth b ob nb (keep b ob (gP _ e)));rcases qa9.mp hm with z|z
 .exact nb z
 .rw[qa6.mp z]at e;have z2:(s.heap.push {cls:=.type "list",data:=.seq ([]:List Value).toArray}).objs.size<=I:=hI;rw[qf9]at z2;exact absurd (qa8 e) (qy7.mpr (Nat.le_of_succ_le z2))
end
section
variable{P:qc6}{u:Ja}{K:Type}[DecidableEq K]{κ:SK P u K}{A:qd5}{E:Value->qa4->Prop}{s:qa4}{a:J9}
noncomputable def jj(κ:SK P u K)(L:List K->List K):Prop:=∀{A:qd5}{E:Value->qa4->Prop}{s:qa4}{a:J9}{vs:List Value}{ks:List K}{n:Nat}{Q:Fin->qa4->Prop},s.heap.get? a=some (seqObj "list" vs.toArray n)->AreK κ vs ks->vs.length<64→ (∀q:Array Value,AreK κ q.toList (L ks)->Q (.done (.ret .none)) {s with heap:=sortedHeap s.heap a vs q})->wpAny (model P u) A (qj6.«list.sort» ⟨[.ref a],[]⟩) Q E s
theorem lr{ss:List K}{L:List K->List K}(hs:jj κ L)(pm:∀{ks},ks.Perm ss->L ks=L ss)(Y:A.handled=none)(hS:TxS κ s.heap a ss (dQ u))(few:ss.length<64)
 (q:∀(l:J9)(W:Array Value)(d:Drawn)(h':Heap)(tk:Nat),AreK κ W.toList (L ss)->(∃e,h'.get? l=some (seqObj "list" W e))->s.heap.objs.size<=l->(∀b ob,s.heap.get? b=some ob->h'.get? b=some ob)->Q (.ref l) {s with drawn:=d,heap:=h',toks:=tk}):wpAny (model P u) A (call (.builtin "sorted") [.ref a]) Q E s:=by
 refine Calls.call_function_entry kind_sorted plain_sorted entry_sorted (args_sorted1 _) ?_;unfold qj6.«sorted»;refine wB (m:=checkCount "sorted" 1 1 _) (qa3 ?_);refine qh4 (ku (by simp[Y]) hS fun vs ks d h' tk k1 k2 le keep=>?_);have O:vs.length<64:=by rw[k1.len,k2.length_eq];exact few
 refine wB (wpAny_newList ?_ (qb5 (qi8 O) (by decide)));have Z:(h'.push (seqObj "list" vs.toArray 0)).get? h'.objs.size=some (seqObj "list" vs.toArray 0):=qa7 _ rfl;show wpAny _ _ _ _ _ {s with drawn:=d,toks:=tk,heap:=h'.push (seqObj "list" vs.toArray 0)};refine wB (qi3 (qf0 slot_list_sort ⟨_,Z,rfl⟩ entry_list_sort (hs Z k1 O fun W a1=>⟨_,rfl,?_⟩) (args_list_sort _)));refine qa3 ⟨_,rfl,?_⟩;refine q _ _ d _ tk (pm k2▸a1) (sortedHeap_at Z) le fun b ob e=>?_
 have lt:b<h'.objs.size:=qa8 (keep b ob e);rw[sortedHeap_old (qc0 lt) (by rw[size_push'];exact qi1 lt)];exact gP _ (keep b ob e)
end
section
variable{P:qc6}{u:Ja}
def ww{vs:List Value}{ks:List Str}(h:AreK (ur P u) vs ks):StrsAre vs ks:=by
 induction h with
 |nil=>exact .nil
 |cons k t _ q=>exact .cons k t q
def wx{vs:List Value}{ks:List Str}(h:StrsAre vs ks):AreK (ur P u) vs ks:=by
 induction h with
 |nil=>exact .nil
 |cons k t _ q=>exact AreK.cons (κ:=ur P u) k t q
def wz{vs:List Value}{ks:List Int}(h:AreK (ut P u) vs ks):zf8 vs ks:=by
 induction h with
 |nil=>exact .nil
 |cons k t _ q=>exact .cons k t q
def wA{vs:List Value}{ks:List Int}(h:zf8 vs ks):AreK (ut P u) vs ks:=by
 induction h with
 |nil=>exact .nil
 |cons k t _ q=>exact AreK.cons (κ:=ut P u) k t q
def wC:jj (ur P u) fj:=fun {A E s a vs ks n Q} g k L q=>by
 have W:=ww k;refine list_sort_treeK strKind_oneLt g W.keysOf (fun v1 v2 r e=>keyKind_strs (by rw[<- e];exact W)) L fun st Z a2=>?_
 obtain⟨O,Y,e2,e3⟩:=sorted_out_str W Z a2;have e:O=fj ks:=jL (e2.trans (eC ks).symm) (ul O e3) (jh ks);exact q _ (wx (e▸Y))
theorem wD{ss ks:List Str}(p:ks.Perm ss):fj ks=fj ss:=jL ((eC ks).trans (p.trans (eC ss).symm)) (jh ks) (jh ss)
def hJ(ns:List Int):List Int:=ns.mergeSort fun a b=>decide (a<=b)
def eF(ns:List Int):(hJ ns).Perm ns:=List.mergeSort_perm ns _
theorem lu(ns:List Int):(hJ ns).Pairwise (· <= ·):=by have:=za7 (le:=fun a b:Int=>decide (a<=b)) (fun a b c h1 h2=>by simp at *;lia) (fun a b=>by simp;lia) ns;exact this.imp fun {a b} h=>by simpa using h
theorem lv{a b:List Int}(p:a.Perm b)(h1:a.Pairwise (· <= ·))(h2:b.Pairwise (· <= ·)):a=b:=zj3.eq_of_pairwise (fun a b _ _ x y=>Int.le_antisymm x y) h1 h2 p
def wE:jj (ut P u) hJ:=fun {A E s a vs ks n Q} g k L q=>by
 refine list_sort_tree g (wz k) L fun Z ns O W Y=>?_
 have e:ns=hJ ks:=lv (W.trans (eF ks).symm) Y (lu ks);exact q _ (wA (e▸O))
theorem wF{ss ks:List Int}(p:ks.Perm ss):hJ ks=hJ ss:=lv ((eF ks).trans (p.trans (eF ss).symm)) (lu ks) (lu ss)
end
section
variable{K:Type}[DecidableEq K]
def cR(ss:List K):List K:=ss.foldl fK []
def mR[Inhabited K](ss:List K):met (fun i=>ss.getD i default) ss.length=cR ss:=by
 unfold met cR;congr 1;apply qu3
 .simp
 .intro i h1 h2;simp at h1;simp[h1]
def mT[Inhabited K](ss:List K):(cR ss).length<=ss.length:=by rw[<- mR];exact nQ _ _
end
theorem Inv.dr(I:Inv X J1 σ H s)(d:Drawn):Inv X J1 σ H {s with drawn:=d}:=⟨I.ok,I.os,I.bare,I.base,I.loc,I.cell,I.free,I.freeC,I.pin,I.hok,I.len⟩
section
variable{X:Cx}{K:Type}[DecidableEq K][Inhabited K]{κ:SK X.prog X.w K}{kv:K->V}
theorem wG:∀{vs:List Value}{ss:List K},AreK κ vs ss->∀(i:Nat)(v:Value),vs[i]?=some v->∃t,v=κ.put (ss.getD i default) t
 |_,_,.nil,i,v,h=>by simp at h
 |_,_,.cons y t r,0,v,h=>by simp at h;exact⟨t,by rw[<- h];rfl⟩
 |_,_,.cons y t r,i+1,v,h=>wG r i v (by simpa using h)
abbrev wH(κ:SK X.prog X.w K)(l:J9)(ss:List K):HO:=.ext fun h=>TxS κ h l ss (dQ X.w)
def qB(κ:SK X.prog X.w K)(kv:K->V):Prop:=∀k v,RelV (kv k) v↔∃t,v=κ.put k t
def pp(hk:qB κ kv):∀{ss:List K}{J8:List Value},Vals (ss.map kv) J8->AreK κ J8 ss
 |[],_,h=>by cases h;exact .nil
 |x::ss,_,h=>by
  cases h with
  |cons h1 h2=>obtain⟨t,rfl⟩:=(hk x _).mp h1;exact .cons x t (pp hk h2)
def pr(hk:qB κ kv):∀{J8:List Value}{ss:List K},AreK κ J8 ss->Vals (ss.map kv) J8
 |_,_,.nil=>.nil
 |_,_,.cons x t h=>.cons ((hk x _).mpr ⟨t,rfl⟩) (pr hk h)
theorem uv(hk:qB κ kv)(O:X.calm=true):fC X (.type "set") (fun xs H Q=>∃p ss,xs=[.ref p]/\SqL X.K H p (ss.map kv)/\ss.length<4000/\∀l,H l=none->Q (.ref l) (upd H l (wH κ l (cR ss)))):=by
 intro J1 s σ H xs us Q I r h;obtain⟨p,ss,rfl,hq,hz,q⟩:=h;obtain⟨u,rfl,rx⟩:=iY r;cases rx;obtain⟨J8,Y,pl,Z⟩:=I.list hq;have hS:=pp hk Y;have L:J8.length=ss.length:=by have:=Y.length;simpa using this.symm
 have hi:∀(i:Nat)(v:Value),J8.toArray[i]?=some v->∃t,v=κ.put (ss.getD i default) t:=fun i v hv=>wG hS i v (by simpa using hv)
 have hb:J8.toArray.size+1<qn1:=by
  have:J8.toArray.size=ss.length:=by simpa using L
  rw[this];unfold qn1;lia
 refine wv (I.ok.hd O) pl.isList hi hb fun hp tk W kept=>?_
 have e:met (fun i=>ss.getD i default) J8.toArray.size=cR ss:=by rw[show J8.toArray.size=ss.length by simpa using L];exact mR ss
 rw[e]at W;refine⟨.ref s.heap.objs.size,_,I.laid (t':=tk) (fun b o g=>kept b o (qa8 g) g) (nL _) (show ObjOk X.prog X.w _ _ _ (wH κ s.heap.objs.size (cR ss))from⟨W,?_,fun h1 h2 x g=>x.moved g⟩),rfl,q _ (I.hok.fresh (nL _))⟩;obtain⟨_,o,g,_⟩:=W.small;exact⟨o,g⟩
theorem nU{L:List K->List K}(hk:qB κ kv)(hs:jj κ L)(pm:∀{ss ks},ks.Perm ss->L ks=L ss)(pl:∀ss,(L ss).length=ss.length)(O:X.calm=true):fC X (.builtin "sorted") (fun xs H Q=>∃p ss,xs=[.ref p]/\H p=some (wH κ p ss)/\ss.length<64/\∀l,H l=none->Q (.ref l) (upd H l (.lst ((L ss).map kv)))):=by
 intro J1 s σ H xs us Q I r h;obtain⟨p,ss,rfl,hq,hz,q⟩:=h;obtain⟨u,rfl,rx⟩:=iY r;cases rx;have hT:TxS κ s.heap p ss (dQ X.w):=(show ObjOk X.prog X.w H s.heap p (wH κ p ss)from I.hok p _ hq).1;refine lr hs pm (I.ok.hd O) hT hz fun l Y d h' tk a1 W Z kept=>?_
 obtain⟨c,W⟩:=W;refine⟨.ref l,_,(I.laid (t':=tk) kept Z (show ObjOk X.prog X.w _ _ _ (.lst ((L ss).map kv))from⟨?_,Y.toList,c,pr hk a1,W⟩)).dr d,rfl,q _ (I.hok.fresh Z)⟩;rw[qa1,pl];exact qb5 (qi8 hz) (by decide)
end
def kvS{X:Cx}:qB (X:=X) (ur X.prog X.w) V.str:=fun _ _=>Iff.rfl
def kvI{X:Cx}:qB (X:=X) (ut X.prog X.w) V.int:=fun _ _=>Iff.rfl
noncomputable def uw{K:Type}[DecidableEq K](rd:List Dt->Option (List K))(q:List K->List K)(wr:K->Dt):List Dt->Option T
 |[.lst ds]=>(rd ds).bind fun ss=>if ss.length<4000/\(cR ss).length<64 then some (.lst ((q (cR ss)).map wr))else none
 |_=>none
def nV:List Dt->Option (List Int)
 |[]=>some []
 |.int k::r=>(nV r).map (k::·)
 |_=>none
theorem nW{F:Hp}:∀{l:List Dt}{vs:List V}{bs:List Int},Reps K F l vs->nV l=some bs->vs=bs.map V.int
 |[],vs,bs,r,h=>by cases h;simp only[Reps]at r;exact r
 |d::l,vs,bs,r,h=>by
  cases d<;>first|cases h;done|skip
  simp only[nV]at h;obtain⟨cs,L,h⟩:=mS h;cases h;simp only[Reps,Rep]at r;obtain⟨v,O,rfl,rfl,q⟩:=r;rw[nW q L];rfl
def eY:List Dt->Option T:=uw jK fj .str
def f9:List Dt->Option T:=uw nV hJ .int
def mU{F:Hp}:∀ns:List Int,Reps K F (ns.map .int) (ns.map V.int)
 |[]=>by simp only[qj5,Reps]
 |x::ss=>by simp only[qa5,Reps];exact⟨_,_,rfl,by simp only[Rep],mU ss⟩
section
variable{X:Cx}{e:Jc}{pos pos2 p p2:Pos}{sc:Jd}{fs:De->Option (List Dt)}
theorem wI {K:Type} [DecidableEq K] [Inhabited K] {rd:List Dt->Option (List K)} {q:List K->List K} {wr:K->Dt} (κ:SK X.prog X.w K) {kv:K->V} (hk:qB κ kv) (W:jj κ q) (pm:∀ {ss ks},ks.Perm ss->q ks=q ss) (pl:∀ ss,(q ss).length=ss.length)
  (hr:∀{F:Hp}{l:List Dt}{vs:List V}{bs:List K},Reps X.K F l vs->rd l=some bs->vs=bs.map kv) (hw:∀{F:Hp}(ns:List K),Reps X.K F (ns.map wr) (ns.map kv))
  (h1:aD sc "sorted"=true) (h2:aD sc "set"=true) (Z:X.calm=true) (m1:X.mg "sorted"=none) (m2:X.mg "set"=none) (ha:DAB X [e] fs) (e1:cW X sc)
  (s1:qb0 [.Call (.Name "set" p2) [e] [] pos2] X.env=(false,eval (.Call (.Name "set" p2) [e] [] pos2) X.env)::qb0 [] X.env) (n1:(ql0 pos (qb0 [] X.env)).any (·.1)=false)
  (s2:qb0 [e] X.env=(false,eval e X.env)::qb0 [] X.env) (n2:(ql0 pos2 (qb0 [] X.env)).any (·.1)=false):DO X (.Call (.Name "sorted" p) [.Call (.Name "set" p2) [e] [] pos2] [] pos) (am (uw rd q wr) fs):=
 PE.mono (jI h1 (nU hk W pm pl Z) m1 (by rfl) (dM (k6 h2 (uv hk Z) m2 (by rfl) ha.pa e1 s2 n2) gU s1) e1 s1 n1) fun σ H Q ⟨Φ,δ,F,t,hK,en,hf,k⟩=>by
  unfold am at hf;obtain⟨ds,hd,L⟩:=bS hf;refine⟨Φ,δ,F,ds,hK,en,hd,fun vs H1 F1 st r=>?_⟩;unfold uw at L;split at L<;>first|(cases L;done)|skip
  obtain⟨ss,W,L⟩:=bS L;split at L<;>cases L
  rename_i hz;obtain⟨v,rfl,rv⟩:=fP r;obtain⟨b,ws,rfl,g1,g2⟩:=rv;have:=hr g2 W;subst this;refine⟨b,ss,rfl,g1,hz.1,fun l hl=>?_⟩;have O:Step F1 H1 F1 (upd H1 l (wH κ l (cR ss))):=Step.made st.fh hl;refine⟨l,cR ss,rfl,bq,hz.2,fun l2 Y=>?_⟩;exact gq (k.step (st.trans O)) O.fh (hw _) Y
theorem iM (h1:aD sc "sorted"=true) (h2:aD sc "set"=true) (O:X.calm=true) (L:X.mg "sorted"=none) (W:X.mg "set"=none) (q:DAB X [e] fs) (e1:cW X sc:=by rfl)
  (s1:qb0 [.Call (.Name "set" p2) [e] [] pos2] X.env=(false,eval (.Call (.Name "set" p2) [e] [] pos2) X.env)::qb0 [] X.env:=by rfl) (n1:(ql0 pos (qb0 [] X.env)).any (·.1)=false:=by rfl)
  (Y:qb0 [e] X.env=(false,eval e X.env)::qb0 [] X.env:=by rfl) (n2:(ql0 pos2 (qb0 [] X.env)).any (·.1)=false:=by rfl):DO X (.Call (.Name "sorted" p) [.Call (.Name "set" p2) [e] [] pos2] [] pos) (am eY fs):=
 wI (ur X.prog X.w) kvS wC wD (fun ss=>(eC ss).length_eq) (fun g h=>mD g h) (fun ss=>mN ss) h1 h2 O L W q e1 s1 n1 Y n2
theorem pv (h1:aD sc "sorted"=true) (h2:aD sc "set"=true) (O:X.calm=true) (L:X.mg "sorted"=none) (W:X.mg "set"=none) (q:DAB X [e] fs) (e1:cW X sc:=by rfl)
  (s1:qb0 [.Call (.Name "set" p2) [e] [] pos2] X.env=(false,eval (.Call (.Name "set" p2) [e] [] pos2) X.env)::qb0 [] X.env:=by rfl) (n1:(ql0 pos (qb0 [] X.env)).any (·.1)=false:=by rfl)
  (Y:qb0 [e] X.env=(false,eval e X.env)::qb0 [] X.env:=by rfl) (n2:(ql0 pos2 (qb0 [] X.env)).any (·.1)=false:=by rfl):DO X (.Call (.Name "sorted" p) [.Call (.Name "set" p2) [e] [] pos2] [] pos) (am f9 fs):=
 wI (ut X.prog X.w) kvI wE wF (fun ss=>(eF ss).length_eq) (fun g h=>nW g h) (fun ss=>mU ss) h1 h2 O L W q e1 s1 n1 Y n2
end
section
variable{P:qc6}{u:Ja}{A:qd5}{E:Value->qa4->Prop}{s:qa4}{Ty:String}{r d:J9}{n:Nat}{Pr:Nat->Value->Prop}{OK:Heap->Prop}
end
section
variable{X:Cx}
variable{e o:Jc}{es:List Jc}{fo:De->Option Dt}{fs:De->Option (List Dt)}{apos cpos pos:Pos}
noncomputable def z65(i:Nat)(f:De->Option T):De->Option Out:=fun δ=>match δ[i]? with
 |some (some (.lst l))=>(f δ).bind fun t=>match t with
  |.lst m=>if l.length+m.length<=qb1 then some (.nx (δ.set i (some (.lst (l++m)))))else none
  |_=>none
 |_=>none
def mV{fe:De->Option T}(hx:PE X o (iW i))(he:DO X e fe)
 (O:za2 o "extend" X.env (eval o X.env)=eval o X.env:=by rfl)
 (Y:((ql0 cpos (qb0 [e] X.env)).all (fun x=>!x.1)&&(backToKw cpos (zg0 [] X.env)).all (fun x=>x.1.isSome)
 && decide ([e].length+([]:List zd5).length+(if([]:List zd5).isEmpty then 0 else 1)<30))=true:=by rfl)
 (W:(apos.endLine==cpos.line)=true:=by rfl) (hs:qb0 [e] X.env=(false,eval e X.env)::qb0 [] X.env:=by rfl) (L:(ql0 cpos (qb0 [] X.env)).any (·.1)=false:=by rfl)
 (Z:qn7 (.Call (.Attribute o "extend" apos) [e] [] cpos) none pos.line X.env=pure false:=by rfl) :
  DS1 X (.Expr (.Call (.Attribute o "extend" apos) [e] [] cpos) pos) (z65 i fe):=
 PS.mono (re (vh PySem.F.plainAttrs_list PySem.F.slot_list_extend PySem.F.type_list_extend tM hx (dM he gU hs) O Y W hs L) Z) fun D σ H ⟨Φ,δ,F,ot,hK,en,q,k⟩=>by
  unfold z65 at q;split at q<;>first|cases q;done|skip
  rename_i l hl;obtain⟨t,hd,q⟩:=bS q;split at q<;>first|cases q;done|skip
  rename_i m;split at q<;>first|cases q;done|skip
  rename_i hz;cases q;obtain⟨a,vs,hv,h1,h2⟩:=en.ownL hl;refine⟨.ref a,hv,.inl ⟨rfl,vs,.inl (.inl h1)⟩,Φ,δ,F,.lst m,hK,en,hd,fun v H1 F1 S st ov hS=>?_⟩;have en1:=en.step st;have h1':=st.hh _ _ h1;obtain⟨b,ws,rfl,sb,g1,g2⟩:=ov;refine⟨a,b,vs,ws,rfl,rfl,h1',g1,by rw[h2.length,g2.length];exact hz,?_⟩;refine k σ F1 _ (en1.poke hl hv rfl fun S sa=>⟨a,vs++ws,rfl,sa,bq,(h2.same st.ff).append (hK▸g2)⟩)
end
noncomputable def Av(outer:Jd)(NX N ps fr:List Str)(js:List Nat)(sc:Jd):Bool:=
 (match sc.kind with|.function=>true|_=>false)&&!sc.isCoroutine&&!sc.isGenerator&&decide N.Nodup&&decide (N.take ps.length=ps)&&decide (N.drop (N.length-fr.length)=fr)&&decide (ps.length+fr.length<=N.length)&&
 ps.all (fun x=>decide (sc.names.lookup x=some .local)||decide (sc.names.lookup x=some .cell))&&
 fr.all (fun x=>decide (sc.names.lookup x=some .free))&&
 sc.names.all (fun y=>!decide (y.2=.free)||decide (y.1∈fr))&&
 sc.names.all (fun y=>decide (sc.names.lookup y.1=some y.2))&&
 decide (ps.length=1)&&
 sc.names.all (fun y=>!decide (y.2=.free)||decide (outer.names.lookup y.1=some .cell))&&
 decide (js.length=fr.length)&&
 (fr.zip js).all (fun p=>decide (NX[p.2]?=some p.1)&&decide (outer.names.lookup p.1=some .cell))
structure NsC(outer:Jd)(NX N ps fr:List Str)(js:List Nat)(sc:Jd):Prop where
 S:ClScope N ps fr sc
 nd:N.Nodup
 ndn:∀x,∀y∈sc.names,y.1=x->sc.names.lookup x=some y.2
 one:ps.length=1
 fre:∀x∈sc.names,x.2=.free->outer.names.lookup x.1=some .cell
 jl:js.length=fr.length
 nm:∀(i j:Nat)(x:Str),fr[i]?=some x->js[i]?=some j->NX[j]?=some x/\outer.names.lookup x=some .cell
 all:∀x∈sc.names,x.2=.free->x.1∈fr
theorem NsC.of{outer:Jd}{NX fr:List Str}(h:Av outer NX N ps fr js sc=true):NsC outer NX N ps fr js sc:=by
 unfold Av at h;simp only[qb2,qj7,qi7,qj2,decide_eq_true_eq,decide_eq_false_iff_not]at h;obtain⟨⟨⟨⟨⟨⟨⟨⟨⟨⟨⟨⟨⟨⟨h1,h2⟩,h3⟩,h4⟩,h5⟩,h6⟩,h7⟩,h8⟩,h9⟩,O⟩,L⟩,W⟩,h13⟩,Z⟩,h15⟩:=h;have q:∀x∈sc.names,x.2=.free->x.1∈fr:=fun x Y e=>(O x Y).resolve_left fun z=>z e
 have hk:sc.kind=.function:=by revert h1;cases sc.kind<;>simp
 refine⟨⟨hk,h2,h3,h4,h5,h6,h7,h8,h9,fun x e=>q _ (PySem.mem_of_lookup e) rfl⟩,h4,fun x y hy e=>by rw[<- e];exact L y hy,W,fun x Y e=>(h13 x Y).resolve_left fun z=>z e,Z,fun i j x e1 e2=>?_,q⟩;have hm:(x,j)∈fr.zip js:=qd0 (i:=i) (by rw[qq0];exact⟨e1,e2⟩);exact h15 (x,j) hm
variable{qs:List ((Nat×Nat)×Str)}
section
variable{X:Cx}{name qual:Str}{params:qi9}{body:List Jb}{scope outer:Jd}{NX N ps fr:List Str}{js:List Nat}{g:De->Option Out}{kk i:Nat}{pos:Pos}
theorem NestD.of (C:NsC outer NX N ps fr js scope) (q:∀ (s:qa4) (cl:List (Str×J9)) (doc pm ctv L:Value) (us:List Value),us.length=ps.length->qz9 s (xF9 name qual params body scope cl .none .none doc pm none L ctv) ⟨us,[]⟩ (ps.zip us))
  (O:∀(f c':J9)(cl:List (Str×J9))(A:qd5)(outer:List Env)(s:qa4)(H:Hp),Room kk (A.deeper (i7 qual scope s.heap.objs.size f (.ref c') cl))->DS (oR CX0 X.prog X.w X.K X.mg X.base N qual scope f (.ref c') cl A outer s H E0 fun _ _=>False) body g)
  (e1:cW X outer:=by rfl) (Y:X.N=NX:=by rfl):NestD X name qual params body scope N ps fr js g kk:=by
 have e1:X.env.scope=outer:=e1;subst e1 Y;exact⟨C.S,C.ndn,C.one,C.fre,C.jl,C.nm,q,O⟩
def hasQ(qs:List ((Nat×Nat)×Str))(pos:Pos)(qual:Str):Bool:=decide (((pos.line,pos.col),qual)∈qs)&&qs.all fun p=>!decide (p.1=(pos.line,pos.col))||decide (p.2=qual)
theorem kF{c P:J9}(h:de outer NX i name=true)(hl:jH outer name=true)(nd:NX.Nodup)(C:NsC outer NX N ps fr js scope)(B:TabB X.mg X.base c P)(hT:(P,qs)∈dL X.K)(O:hasQ qs pos qual=true)
 (L:X.env.code=.ref c:=by rfl) (W:qualnameIn X.env name name=qual:=by rfl) (Y:params.defaults=[]:=by rfl) (hk0:params.kw_defaults=[]:=by rfl) (ha:annTrees params none X.env=[]:=by rfl)
 (e1:cW X outer:=by rfl) (e2:X.N=NX:=by rfl) (Z:X.fn name=true:=by rfl):PS X (.FunctionDef name params body [] none [] scope none name pos) (rW i name qual params body scope (gm scope.names X.env.cells)):=fun J1 s σ H D I hh=>by
 have e1:X.env.scope=outer:=e1;subst e1 e2;unfold hasQ at O;simp only[qb2,qj7,qi7,qj2,decide_eq_true_eq,decide_eq_false_iff_not]at O;exact yZ nd (iG h) (kY hl) (.inl Z) B L hT W O.1 (fun q hm=>(O.2 _ hm).resolve_left fun z=>z rfl) (iF fun x hx e=>I.ok.has x.1 (.inl (C.fre x hx e))) Y hk0 ha J1 s σ H D I hh
theorem wJ{i1 i2:Nat}(h:decide (i1<NX.length/\i2<NX.length)=true)(q:X.N=NX:=by rfl):∀ σ:St,σ.length=X.N.length->i1<σ.length/\i2<σ.length:=fun σ e=>by rw[e,q];exact of_decide_eq_true h
end
structure DefC(K:xA9)(mg:Str->Option Value)(x:Str)(st:Jb)(ps:List Str)(c:J9):Prop where
 ex:∃(f:J9)(oc:Value)(od:Option J9)(kV doc pm:Value)(an:Option J9)(ct:Value)(osl:Array (Option Value)),mg x=some (.ref f)/\xE9 K (.ref f)=true/\Binds K (xC9 x x (cK st) (bi st) (ac st) .none kV doc pm an (.ref c) ct) ps []∧K.lookup f=some ⟨oc,od,.func (xC9 x x (cK st) (bi st) (ac st) .none kV doc pm an (.ref c) ct),osl⟩/\xH9 K (.ref c) x=true
section
variable{P:qc6}{w:Ja}{K:xA9}{mg:Str->Option Value}{base:Heap}{x:Str}{st:Jb}{N ps:List Str}{c:J9}
theorem DefC.mk'{oc:Value}{od an:Option J9}{osl:Array (Option Value)}{kV doc pm ct:Value}(X:K.In h)(G:h.Ns qc1 mg)
 (a:xB9 K qc1 x=some (some (.ref f)))
 (l:K.lookup f=some ⟨oc,od,.func (xC9 x x (cK st) (bi st) (ac st) .none kV doc pm an (.ref c) ct),osl⟩) (q:xH9 K (.ref c) x=true) (k:xE9 K (.ref f)=true)
 (L:∀(kV doc pm:Value)(an:Option J9)(cdv ct:Value)(us:List Value),us.length=ps.length->zg9 (xC9 x x (cK st) (bi st) (ac st) .none kV doc pm an cdv ct) ⟨us,[]⟩=pure (ps.zip us)):DefC K mg x st ps c:=
 ⟨f,oc,od,kV,doc,pm,an,ct,osl,xI9 X G a,k,(nA l q k).binds L,l,q⟩
def wK{k:Nat}(D:DefC K mg x st ps c)(S:FnScope N ps (ac st))(hn:ps.length=n)
 (L:∀(f:J9)(A:qd5)(outer:List Env)(s:qa4)(H:Hp)(E:XK),Room k (A.deeper (qy3 x (ac st) s.heap.objs.size f (.ref c)))->DS (kQ CX0 P w K mg base N x (ac st) f (.ref c) A outer s H E).nox (bi st) g) :
  OkF P w K mg base x (k+1) ps (spD K n (ce N.length g)):=by
 obtain⟨f,oc,od,kV,doc,pm,an,ct,osl,h1,h2,h3,lk,W⟩:=D.ex;refine⟨f,_,h1,h2,h3,Ae lk W S (fun vs H Q E h=>?_) fun A outer s H vs Q E hr h=>?_⟩
 .obtain⟨F,ds,t,_,Z,r,_⟩:=h;rw[r.length,Z,hn]
 .obtain⟨F,ds,t,Y,Z,r,O,kq⟩:=h;refine⟨_,PSs.nox (L f A outer s H E hr),?_⟩;unfold ce at O;split at O
  .rename_i t' q;cases O;exact⟨⟨K,F,H,fun _=>False⟩,_,F,_,rfl,fZ Y r,q,fun v F' H' z=>z.step kq⟩
  .rename_i δ' q;cases O;exact⟨⟨K,F,H,fun _=>False⟩,_,F,_,rfl,fZ Y r,q,fun σ' F' H' z=>(z.rt (Step.refl z.fh) (t:=.leaf .non) (S:=fun _=>False) (jd (K:=K) (F:=F')) fun _ y=>y.elim).step kq⟩
  .cases O
theorem se{P:J9}(q:decide (x∈nestNames)=true)(h:nj K x=some (P,qs)):(P,qs)∈dL K:=qx1.mpr ⟨x,of_decide_eq_true q,h⟩
end
variable{R:Result->qa4->Prop}
section
variable{P:qc6}{u:Ja}{B:qd5}{Ex:Value->qa4->Prop}{s:qa4}{it l:J9}{xs:Array Value}
def nX:ze7 (.type "list_reverseiterator") "__len__"=pure none:=by rw[qs0,qm0];kernel_rfl
theorem l7:ze7 (.type "list_reverseiterator") "__length_hint__"=pure (some (.builtin "list_reverseiterator.__length_hint__")):=by rw[qs0,qm0];kernel_rfl
theorem wL{W:Bool->qa4->Prop}(L:s.TypeIs (.ref it) "list_reverseiterator")(q:W false s):wpAny (model P u) B (ql1 (.ref it)) W Ex s:=by
 unfold ql1;refine wB (qv9 L nX ?_)
 wp_delta
 refine ql2 (fun z=>absurd z (by decide)) fun _=>?_
 refine ql2 (fun z=>absurd z (by decide)) fun _=>?_
 refine wB (qv9 L l7 ?_);generalize hi:("list_reverseiterator.__length_hint__":String)=j
 wp_delta
 rw[show splitId j=some ("list_reverseiterator","__length_hint__")from by subst hi;decide +kernel];subst hi;refine wB (qq4 (T:="list_reverseiterator") (b:=true) L (by rw[zf6];kernel_rfl) ?_);refine ql2 (fun z=>absurd z (by decide)) fun _=>?_
 refine ql2 (fun _=>?_) fun z=>absurd (by decide +kernel) z
 refine ql2 (fun z=>absurd z (by decide +kernel)) fun _=>?_
 exact qa3 q
abbrev sf(xs:Array Value):Nat->Value->Prop:=fun i v=>xs[xs.size-1-i]?=some v
theorem qC(L:B.handled=none)(hi:s.heap.IsRevIter it l ((xs.size:Int)-1))(hl:s.heap.IsList l xs)(Y:l≠it)(t:J9)(n1:t≠it)(n2:t≠l)(rs:Value)(Z:Nat)(ht:s.heap.get? t=some {cls:=.type "list",data:=.seq #[] Z})(fits:xs.size<=qb1)
 (q:∀(h':Heap)(tk:Nat)(ys:Array Value)(c:Nat),(∀b o,b≠t->b≠it->s.heap.get? b=some o->h'.get? b=some o)->h'.get? t=some {cls:=.type "list",dict:=none,data:=.seq ys c,slots:=#[]}->ItemsOf (sf xs) ys xs.size->R (.ok (.ret rs)) {s with heap:=h',toks:=tk}) :
  wpAny (model P u) B.in1 (qh2 (.ref t) (.ref it) rs) (fun O s'=>match O with|.done f=>R (.ok f) s'|.again c'=>c'.quiet=true/\qp6 (model P u) B c' R s') (fun e s'=>R (.error e) s') s:=by
 have tn:t∉[it,l]:=by
  intro z;rcases qa9.mp z with z|z
  .exact n1 z
  .exact n2 (qa6.mp z)
 have Wk:=Walks.listRev (prog:=P) (w:=u) (A:=B.in1) (by simpa using L) it l Y xs
 have go:qp6 (model P u) B (.builtin "list.extend.loop" ⟨[.ref t,.ref it,rs],[]⟩) R s:=by
  refine codeAny_extend_loopS Wk.toS fits t tn rs xs.size 0 _ #[] Z rfl (qh8 _) ⟨qh8 _,by simpa using hi,hl⟩ ht (ItemsOf.nil _) fun s' ys c mv W J8=>?_
  rw[Moved.eq_with mv];refine q s'.heap s'.toks ys c (fun b o b1 b2 e=>mv.heap b o (fun z=>?_) e) W J8;rcases qa9.mp z with z|z
  .exact b1 z
  .exact b2 (qa6.mp z)
 unfold qh2;refine wB (qt7 (T:="list_reverseiterator") hi.typeIs ?_);have e1:qn2 (.ref t) (.ref it)=false:=by simp[qn2,n1]
 have e2:(qk5 "list_reverseiterator"==qk5 "list")=false:=by decide +kernel
 have e3:(qk5 "list_reverseiterator"==qk5 "tuple")=false:=by decide +kernel
 simp only[e1,e2,e3,qu7,qe7,if_false];refine wB (wpAny_pyIter_revIter hi ?_);refine wB (qi3 (wL hi.typeIs ?_));refine ql2 (fun z=>absurd z (by decide +kernel)) fun _=>?_
 exact qa3 ⟨qv0 PySem.F.plain_extend_loop _,go⟩
theorem wM(O:B.handled=none)(hi:s.heap.IsRevIter it l ((xs.size:Int)-1))(hl:s.heap.IsList l xs)(Y:l≠it)(t:J9)(n1:t≠it)(n2:t≠l)(ht:s.heap.get? t=some {cls:=.type "list",data:=.seq #[]})(fits:xs.size<=qb1)
 (q:∀(h':Heap)(tk:Nat)(ys:Array Value)(c:Nat),(∀b o,b≠t->b≠it->s.heap.get? b=some o->h'.get? b=some o)->h'.get? t=some {cls:=.type "list",dict:=none,data:=.seq ys c,slots:=#[]}->ItemsOf (sf xs) ys xs.size->R (.ok (.ret .none)) {s with heap:=h',toks:=tk}) :
  wpAny (model P u) B.in1 (qj6.«list.__init__» ⟨[.ref t,.ref it],[]⟩) (fun Z s'=>match Z with|.done f=>R (.ok f) s'|.again c'=>c'.quiet=true/\qp6 (model P u) B c' R s') (fun e s'=>R (.error e) s') s:=by
 show wpAny _ _ (do let was <- zc5 (.ref t);qj6.List.listUpdate (.ref t) (fun _=>#[]);letGo was.toList.reverse;qh2 (.ref t) (.ref it) .none) _ _ s;refine wB ?_;unfold zc5;refine wB (qt6 ht rfl (qa3 ?_));show wpAny _ _ (updateSeq t (fun _=>#[]) >>= fun _=>letGo (#[]:Array Value).toList.reverse >>= fun _=>qh2 (.ref t) (.ref it) .none) _ _ s;refine wB (ze4 ht rfl ?_);have W:=qe5 (qo0 (fun _=>(#[]:Array Value))) ht rfl;have L:∀b o,b≠t->s.heap.get? b=some o->(s.heap.update t (qo0 (fun _=>(#[]:Array Value)))).get? b=some o:=fun b o hb e=>(ql4 _ _ (qo4 hb)).trans e
 refine wB (wpAny_letGo ?_);exact qC O (hi.at fun o e=>L _ o n1.symm e) (hl.at fun o e=>L _ o n2.symm e) Y t n1 n2 .none _ W fits fun h' tk ys c k k2 k3=>q h' tk ys c (fun b o b1 b2 e=>k b o b1 b2 (L b o b1 e)) k2 k3
theorem wN {W:Value->qa4->Prop} (O:B.handled=none) (hi:s.heap.IsRevIter it l ((xs.size:Int)-1)) (hl:s.heap.IsList l xs) (Z:l≠it) (fits:xs.size<=qb1)
  (q:∀(h':Heap)(tk:Nat)(ys:Array Value)(c:Nat),(∀b o,b≠it->s.heap.get? b=some o->h'.get? b=some o)->h'.get? s.heap.objs.size=some {cls:=.type "list",dict:=none,data:=.seq ys c,slots:=#[]}->ItemsOf (sf xs) ys xs.size->W (.ref s.heap.objs.size) {s with heap:=h',toks:=tk}) :
  wpAny (model P u) B (call (.type "list") [.ref it]) W Ex s:=by
 refine callType_codes (Q₁:=fun z L=>z=.ref s.heap.objs.size/\L={s with heap:=s.heap.push {cls:=.type "list",data:=.seq #[]}}) PySem.F.called_list (PySem.F.typeCall_list_1 _) PySem.F.entry_list_init (code_list_new _ ⟨rfl,rfl⟩) fun z L Y=>?_
 obtain⟨rfl,rfl⟩:=Y;have ht:(s.heap.push {cls:=.type "list",data:=.seq #[]}).get? s.heap.objs.size=some {cls:=.type "list",data:=.seq #[]}:=qa7 _ rfl;have l1:it<s.heap.objs.size:=let ⟨_,e,_⟩:=hi;qa8 e;have l2:l<s.heap.objs.size:=let ⟨_,e,_⟩:=hl;qa8 e;refine⟨⟨_,ht,rfl⟩,PySem.F.args_list_init_2 _ _,wM (B:=B.in1) (by simpa using O) (hi.at fun o e=>ql3 _ e) (hl.at fun o e=>ql3 _ e) Z _ (ql6 l1) (ql6 l2) ht fits fun h' tk ys c k k2 k3=>?_⟩;exact⟨rfl,q h' tk ys c (fun b o b1 e=>k b o (qc0 (qa8 e)) b1 (gP _ e)) k2 k3⟩
theorem wO{J8 ys:List Value}(r:Vals vs J8)(q:ys.length=J8.length)(h:∀(i:Nat)(v:Value),ys[i]?=some v->J8[J8.length-1-i]?=some v):ys=J8.reverse:=by
 apply qz6;intro i;by_cases hi:i<ys.length
 .have e:=h i ys[i] (gQ hi);rw[List.getElem?_reverse (by lia),e,gQ hi]
 .rw[ze5 (by lia),ze5 (by simp;lia)]
end
def tLR(X:Cx)(ta:TA):TE:=fun σ H Q=>ta σ H fun xs H1=>∃p vs,xs=[.ref p]/\SqL X.K H1 p vs/\∀l,H1 l=none->Q (.ref l) (upd H1 l (.lst vs.reverse))
section
variable{X:Cx}{e:Jc}{ta:TA}{p1 p2 pos1 pos2:Pos}{sc:Jd}
def pw:qf2 "reversed"=some (.type "reversed"):=by decide +kernel
def jk:∀{vs:List V}{us:List Value},Vals vs us->Vals vs.reverse us.reverse
 |_,_,.nil=>.nil
 |_,_,.cons h r=>by rw[qt1,qt1];exact(jk r).append (.cons h .nil)
theorem qD (h1:aD sc "list"=true) (h2:aD sc "reversed"=true) (hm1:X.mg "list"=none) (hm2:X.mg "reversed"=none) (hc:X.calm=true) (ha:PA X [e] ta) (e1:cW X sc:=by rfl) (hs:qb0 [e] X.env=[(false,eval e X.env)]:=by rfl)
  (hs2:qb0 [.Call (.Name "reversed" p2) [e] [] pos2] X.env=[(false,eval (.Call (.Name "reversed" p2) [e] [] pos2) X.env)]:=by rfl) :
  PE X (.Call (.Name "list" p1) [.Call (.Name "reversed" p2) [e] [] pos2] [] pos1) (tLR X ta):=by
 intro J1 s σ H Q I h'
 have W:wpAny (model X.prog X.w) X.A (eval (.Call (.Name "reversed" p2) [e] [] pos2) X.env) (fun u Z=>∃it p vs H1,u=.ref it/\Inv X J1 σ H1 Z/\iu X J1 H1 it/\p≠it/\SqL X.K H1 p vs/\Z.heap.IsRevIter it p ((vs.length:Int)-1)/\(∀l,H1 l=none->Q (.ref l) (upd H1 l (.lst vs.reverse)))) X.xe s:=by
  refine Call_ (gT I (glD h2 e1) hm2 pw (qh1 (thn (ha pos2 J1 s σ H _ I h') fun us s1 ⟨vs,H1,I1,r1,q1⟩=>?_) hs rfl));obtain⟨p,vs,rfl,hq,q⟩:=q1;obtain⟨u,rfl,ru⟩:=iY r1;cases ru;obtain⟨J8,r',pl,O⟩:=I1.list hq;have L:J8.toArray.size=vs.length:=by have:=r'.length;simpa using this.symm
  refine call_reversed_list pl.isList ?_;have Y:=I1.kept (t':=s1.toks) (h':=s1.heap.push (revObj p ((J8.toArray.size:Int)-1))) fun b o g=>gP _ g
  have fp:=I1.fpOk (b:=s1.heap.objs.size) (nL _) (I1.hok.fresh (nL _));refine⟨s1.heap.objs.size,p,vs,H1,rfl,Y,fp,?_,hq,⟨_,qa7 _ rfl,rfl,by rw[<- L];rfl⟩,q⟩;obtain⟨_,g,_⟩:=pl.isList;exact qc0 (qa8 g)
 have key:wpAny (model X.prog X.w) X.A (spliced (ql0 pos1 (qb0 [.Call (.Name "reversed" p2) [e] [] pos2] X.env))) (fun vs s₁=>wpAny (model X.prog X.w) X.A (call (.type "list") vs) (EP X J1 σ Q) X.xe s₁) X.xe s:=?key
 .exact Call_ (gT I (glD h1 e1) hm1 nC (qh1 key hs2 rfl))
 rw[hs2];show wpAny _ _ (spliced ((false,eval (.Call (.Name "reversed" p2) [e] [] pos2) X.env)::[])) _ _ s;refine Calls.spliced_cons (thn W fun u Z w=>Calls.spliced_nil ?_);obtain⟨it,p,vs,H1,rfl,Y,fp,hne,hq,hR,q⟩:=w;obtain⟨J8,r',pl,O⟩:=Y.list hq;have L:J8.toArray.size=vs.length:=by have:=r'.length;simpa using this.symm
 have fits:J8.toArray.size<=qb1:=by first|exact O|(rw[L];exact O)|simpa using O
 refine wN (Y.ok.hd hc) (by rw[L];exact hR) pl.isList hne fits fun h3 tk ys c k k2 k3=>?_
 have ey:ys.toList=J8.reverse:=wO r' (by have:=k3.1;simpa using this) fun i v hv=>by have:=k3.2 i v (by simpa using hv);simpa[sf] using this
 refine⟨.ref Z.heap.objs.size,_,Y.turnedT (fp:=[it]) (t:=Z.heap.objs.size) (u:=.lst vs.reverse) (t':=tk) (fun b o hb g=>k b o (fun z=>hb (by simp[z])) g) (fun b hb=>?_) (qq6 _) ⟨?_,J8.reverse,c,jk r',?_⟩,rfl,q _ (Y.hok.fresh (qq6 _))⟩
 .cases qa6.mp hb;exact fp
 .rw[List.length_reverse,<- L];exact fits
 .rw[k2,<- ey]
end
def lw(ks:List Key):Dt:=.tup (ks.map rV)
def jQ{F:Hp}:∀ks:List Key,Reps K F (ks.map rV) (ks.map kV)
 |[]=>by simp only[qj5,Reps]
 |k::ks=>by simp only[qa5,Reps];exact⟨_,_,rfl,yY k,jQ ks⟩
theorem wP{F:Hp}{b:J9}{ks:List Key}(h:F b=some (.tup (ks.map kV))):Rep K F (lw ks) (.ref b):=by unfold lw;simp only[Rep];exact⟨b,_,rfl,SqT.of h,jQ ks⟩
theorem mW{α β:Type}{R:α->β->Prop}:∀{l:List α}{m:List β},Paired R l m->∀{i:Nat}{a:α},l[i]?=some a->∃b,m[i]?=some b/\R a b
 |_,_,.nil,i,a,h=>by simp at h
 |_,_,.cons r t,0,a,h=>by simp at h;subst h;exact⟨_,rfl,r⟩
 |_,_,.cons r t,i+1,a,h=>by simpa using mW t (by simpa using h)
def lx{α β:Type}{R:α->β->Prop}:∀{l:List α}{m:List β},Paired R l m->l.length=m.length
 |_,_,.nil=>rfl
 |_,_,.cons r t=>by simp[lx t]
theorem B4 {J6:List (List Key×V)} (x:ObjOk P w H h a (.dT J6)):J6.length<=qb1/\(a==qh9)=false/\∃ (bs:List J9) (ob:Obj) (es:Array zj2) (ep:Nat),h.get? a=some ob/\ob.data=.dict es ep/\EntA h a (bs.map .ref) ep/\bs.length=J6.length∧
  ∀(j:Nat)(p:List Key×V),J6[j]?=some p->∃b,bs[j]?=some b/\H b=some (.tup (p.1.map kV)):=by
 obtain⟨z,y,xs,r,o,es,ep,h1,h2,h3,L,Y⟩:=x;refine⟨z,y,xs.map (·.2.1),o,es,ep,h1,h3,⟨o,es,h1,h2,h3,?_⟩,by rw[qa1,<- lx r],fun j p hp=>?_⟩
 .rw[L,qc4,qc4];rfl
 .obtain⟨q,W,_,O,_⟩:=mW r hp;exact⟨q.2.1,by rw[qb3,W];rfl,O⟩
section
variable{X:Cx}{tg:Jc}
def Aw{u:HO}(I:Inv X J1 σ H s)(h:Rd H a u):ObjOk X.prog X.w H s.heap a u:=by
 rcases h with h|⟨o,h⟩
 .exact I.hok a _ h
 .exact(I.hok a _ h).2
theorem qE(hc:X.calm=true):fC X (.type "list") (fun xs H Q=>∃a J6,xs=[.ref a]/\Rd H a (.dT J6)/\∀bs:List J9,bs.length=J6.length->(∀(j:Nat)(b:J9)(p:List Key×V),bs[j]?=some b->J6[j]?=some p->H b=some (.tup (p.1.map kV)))->∀l,H l=none->Q (.ref l) (upd H l (.lst (bs.map V.ref)))):=by
 intro J1 s σ H xs us Q I r h;obtain⟨a,J6,rfl,hq,q⟩:=h;obtain⟨u,rfl,rx⟩:=iY r;cases rx;obtain⟨z,y,bs,ob,es,ep,e1,e2,en,Z,hk⟩:=B4 (Aw I hq);have hz:(bs.map qf4).length<=qb1:=by rw[qa1,Z];exact z
 refine PySem.W.kdl_call (r6 y) (I.ok.hd hc) en hz fun h' tk J5 c kp hD L=>?_
 have O:J5.toList=bs.map qf4:=by
  apply qz6;intro j;cases hj:J5.toList[j]? with
  |none=>have h1:=qg7.mp hj;rw[qe2,L.1]at h1;rw[qg7.mpr h1]
  |some v=>exact(L.2 j v (by rw[<- qo7];exact hj)).symm
 have rv:Vals (bs.map V.ref) J5.toList:=by
  rw[O];clear O hk Z en hz q L;induction bs with
  |nil=>exact .nil
  |cons b bs ih=>exact .cons rfl ih
 refine⟨.ref s.heap.objs.size,_,I.laid (t':=tk) kp (nL _) (show ObjOk X.prog X.w _ h' _ (.lst (bs.map V.ref))from⟨by rw[qa1,Z];exact z,J5.toList,c,rv,by rw[Array.toArray_toList];exact hD⟩),rfl,q bs Z (fun j b p h1 h2=>?_) _ (I.hok.fresh (nL _))⟩;obtain⟨b',Y,hH⟩:=hk j p h2;rw[h1]at Y;cases Y;exact hH
end
end L2
namespace HT
open PySem PySem.Spec PyProof.Rows
end HT
namespace L2
open PySem PySem.Spec PyProof.Rows
section
variable{X:Cx}{a:Jc}{fa:Fg}{p pos:Pos}{sc:Jd}
theorem mX{P:qc6}{w:Ja}:∀{J6:List (Key×V)}{vs:List (Key×Value)}{es:List zj2},KV J6 vs->Pairs (ca P w) es vs->Vals (J6.map fun p=>kV p.1) (es.map (·.key))
 |[],_,_,.nil,.nil=>.nil
 |_::_,_,_,.cons r t,.cons h _ m=>.cons (by dsimp only;rw[r.1];exact yX h) (mX t m)
theorem qF(hc:X.calm=true):fC X (.type "list") (fun xs H Q=>∃a J6,xs=[.ref a]/\Rd H a (.dK J6)/\∀l,H l=none->Q (.ref l) (upd H l (.lst (J6.map fun p=>kV p.1)))):=by
 intro J1 s σ H xs us Q I r h;obtain⟨a,J6,rfl,hq,q⟩:=h;obtain⟨u,rfl,rx⟩:=iY r;cases rx;obtain⟨z,y,vs,Y,ob,es,ep,e1,e2,e3,e4,e5,e6⟩:=Aw I hq;have en:EntA s.heap a (es.toList.map (·.key)) ep:=⟨ob,es,e1,e2,e3,rfl⟩;have kv:=mX Y e5;have hz:(es.toList.map (·.key)).length<=qb1:=by rw[<- kv.length,qa1];exact z
 refine PySem.W.kdl_call (r6 y) (I.ok.hd hc) en hz fun h' tk J5 c kp hD L=>?_
 have O:J5.toList=es.toList.map (·.key):=by
  apply qz6;intro j;cases Z:J5.toList[j]? with
  |none=>have h1:=qg7.mp Z;rw[qe2,L.1]at h1;rw[qg7.mpr h1]
  |some v=>exact(L.2 j v (by rw[<- qo7];exact Z)).symm
 exact⟨.ref s.heap.objs.size,_,I.laid (t':=tk) kp (nL _) (show ObjOk X.prog X.w _ h' _ (.lst (J6.map fun p=>kV p.1))from⟨by rw[qa1];exact z,J5.toList,c,by rw[O];exact kv,by rw[Array.toArray_toList];exact hD⟩),rfl,q _ (I.hok.fresh (nL _))⟩
end
def qG(K:xA9):Bool:=K.all fun p=>match p.2.data with
 |.seq J8 _=>(match J8.toList with
  |[.int _ _,.str _ _]=>false
  |_=>true)
 |_=>true
variable{a:J9}
def px{o:Obj}:∀{K:List (J9×Obj)},K.lookup a=some o->(a,o)∈K
 |[],h=>by cases h
 |(b,u)::K,h=>by
  rw[qg3]at h;cases q:a==b with
  |true=>rw[q]at h;cases h;rw[beq_iff_eq.mp q];exact .head _
  |false=>rw[q]at h;exact .tail _ (px h)
variable{K:xA9}{H:Hp}
theorem wQ{n:Int}{s:Str}(O:qG K=true)(h:SqT K H a [.int n,.str s]):H a=some (.tup ([qx6 n,qu0 s].map kV)):=by
 rcases h with h|⟨o,J8,m,hk,hc,Y,hz,r⟩
 .exact h
 .have q:=qj7.mp O (a,o) (px hk);dsimp only at q;rw[Y]at q;dsimp only at q;generalize J8.toList=w at q r;cases r with
  |cons Z t=>
   cases t with
   |cons W L=>cases L;obtain⟨t1,rfl⟩:=Z;obtain⟨L,rfl⟩:=W;cases q
section
variable{X:Cx}{a b:Jc}{ta:TA}{p1 p2 pos1 pos2:Pos}{sc:Jd}{fs:De->Option (List Dt)}
end
section
variable{X:Cx}{J1:List (J9×Obj)}{s:qa4}{σ:St}{H:Hp}
end
theorem TabsIn.two{h:Heap}{c P c' P':J9}{qs qs':List ((Nat×Nat)×Str)}(kb:K.In h)(e:dL K=[(P,qs),(P',qs')])(hne:P≠P')(n:K.lookup P=none)(n':K.lookup P'=none)(hc:xJ9 K c P=true)(hc':xJ9 K c' P'=true)(t:h.get? P=some (xK9 #[]))(t':h.get? P'=some (xK9 #[])):TabsIn K h:=by
 unfold TabsIn;rw[e];refine⟨fun p hp=>?_,fun p hp q hq z=>?_⟩
 .rcases qa9.mp hp with rfl|hp
  .exact⟨n,⟨c,xS9 kb hc⟩,t⟩
  .cases qa6.mp hp;exact⟨n',⟨c',xS9 kb hc'⟩,t'⟩
 .rcases qa9.mp hp with rfl|hp<;>rcases qa9.mp hq with rfl|hq
  .rfl
  .cases qa6.mp hq;exact absurd z hne
  .cases qa6.mp hp;exact absurd z.symm hne
  .cases qa6.mp hp;cases qa6.mp hq;rfl
def isK:Dt->Option (List Key)
 |.tup [.int n,.str s]=>some [.inl n,.inr s]
 |_=>none
theorem qH{F:Hp}{d:Dt}{v:V}{ks:List Key}(q:qG K=true)(h:isK d=some ks)(r:RepB K F H d v):∃b,v=.ref b/\F b=some (.tup (ks.map kV)):=by
 unfold isK at h;split at h<;>cases h
 obtain⟨a,vs,rfl,h1,h2⟩:=r;unfold Reps at h2;obtain⟨W,L,rfl,q1,h2⟩:=h2;unfold Reps at h2;obtain⟨Y,O,rfl,q2,h2⟩:=h2;unfold Reps at h2;subst h2;simp only[Rep]at q1 q2;subst q1 q2;exact⟨a,rfl,wQ q h1⟩
section
variable{X:Cx}{o a b e ox ik:Jc}{fa fb fk fe:De->Option Dt}{pos apos cpos p1 p2 pos1 pos2:Pos}{sc:Jd}{i j m:Nat}{K:xA9}
def qI:De->Option T:=fun _=>some (.dcT [])
def wR:DO X (.Dict [] [] pos) qI:=PE.mono vo fun σ H Q ⟨Φ,δ,F,t,O,q,L,k⟩=>by
 cases L;intro p hp;refine k _ _ F (fun b=>b=p) (Step.made q.fh hp) ⟨p,[],rfl,rfl,bq,rfl,by simp[Reps]⟩ fun b z=>?_
 subst z;exact⟨q.fh.free hp,hp,_,bq,nofun⟩
def ux:Dt->Dt->Option T
 |.dcT ks l,k=>(isK k).bind fun k=>(dn ks l k).map .leaf
 |_,_=>none
theorem B5(hI:qG X.K=true)(hr:Room m X.A)(ha:DB X a fa)(O:DB X b fb)(hn:tQ b:=by exact fun _ _=>rfl):DO X (.Subscript a b pos) (d2 ux fa fb):=
 PE.mono (rC (jZ hr) ha O hn) fun σ H Q ⟨Φ,δ,F,t,Z,en,L,k⟩=>by
  obtain⟨x,hx,L⟩:=bS L;obtain⟨y,hy,L⟩:=bS L;unfold ux at L;split at L<;>first|(cases L;done)|skip
  obtain⟨kk,hk,L⟩:=bS L;obtain⟨d,hd,rfl⟩:=mS L;refine⟨Φ,δ,F,_,Z,en,hx,fun v H1 F1 st rv=>⟨Φ,δ,F1,_,Z,en.step st,hy,fun v2 H2 F2 q Y=>?_⟩⟩;obtain⟨ad,J6,rfl,h1,rfl,h3⟩:=rv;obtain⟨w,hw,W⟩:=f7 h3 hd;obtain⟨b,rfl,O⟩:=qH hI hk Y;exact⟨ad,w,rfl,.inr ⟨J6,kk,b,q.hh.rd h1,rfl,q.fh _ _ O,hw.symm⟩,(k.step (st.trans q)).leaf.here q.fh (W.same q.ff)⟩
def wS(fa fb:De->Option Dt):De->Option Bool:=fun δ=>(fa δ).bind fun x=>(fb δ).bind fun y=>match y with
 |.dcT ks l=>(isK x).map fun k=>!(dn ks l k).isSome
 |_=>none
theorem B6(hI:qG X.K=true)(hr:Room m X.A)(ha:DB X a fa)(O:DB X b fb)(hm:qh7 .NotIn b=false:=by with_unfolding_all rfl):DT X (.Compare a [.NotIn] [b] pos) (wS fa fb):=
 PT.mono (np (mj (jZ hr) ha O) hm) fun σ H Q ⟨Φ,δ,F,t,Y,Z,L,k⟩=>by
  obtain⟨x,hx,L⟩:=bS L;obtain⟨y,hy,L⟩:=bS L;split at L<;>first|(cases L;done)|skip
  obtain⟨kk,hk,rfl⟩:=mS L;refine⟨Φ,δ,F,x,Y,Z,hx,fun v H1 F1 st rv=>⟨Φ,δ,F1,_,Y,Z.step st,hy,fun v2 H2 F2 q W=>?_⟩⟩;obtain⟨ad,J6,rfl,h1,rfl,h3⟩:=W;obtain⟨b,rfl,O⟩:=qH hI hk rv;refine⟨ad,_,rfl,.inr ⟨J6,kk,b,h1,rfl,q.fh _ _ (q.ff _ _ O),rfl⟩,_,rfl,?_⟩;rw[<- kA h3];exact k H2 F2 (st.trans q)
noncomputable def ly(i:Nat)(fk fe:De->Option Dt):De->Option Out:=fun δ=>(fe δ).bind fun d=>(fk δ).bind fun k=>match δ[i]? with
 |some (some (.dcT l))=>(isK k).bind fun k=>if l.length<qb1/\(l.map (·.1)).Nodup then some (.nx (δ.set i (some (.dcT (iJ l k d)))))else none
 |_=>none
def sh (hI:qG X.K=true) (hr:Room m X.A) (hx:PE X ox (iW i)) (hk:DB X ik fk) (he:DL X e fe)
  (hs:qn7 e (some (.Subscript ox ik apos)) pos.line X.env=pure false:=by rfl):DS1 X (.Assign [.Subscript ox ik apos] e pos) (ly i fk fe):=
 PS.mono (rD (jZ hr) hx hk he hs) fun D σ H ⟨Φ,δ,F,ot,Y,en,L,k⟩=>by
  obtain⟨d,hd,L⟩:=bS L;obtain⟨kd,hkd,L⟩:=bS L;split at L<;>first|(cases L;done)|skip
  rename_i l hl;obtain⟨kk,Z,L⟩:=bS L;split at L<;>first|(cases L;done)|skip
  rename_i hc;cases L;refine⟨Φ,δ,F,d,Y,en,hd,fun v H1 F1 st rv=>?_⟩;have O:=en.step st;obtain⟨w0,hv⟩:=O.has i _ hl;obtain⟨S,s⟩:=O.sep;obtain⟨a,J6,rfl,_,h1,h2,h3⟩:=s.own i _ w0 (cL hl hv);refine⟨.ref a,hv,Φ,δ,F1,kd,Y,O,hkd,fun w H2 F2 q rw'=>?_⟩;have en2:=O.step q;obtain⟨b,rfl,hb⟩:=qH hI Z rw';have W:J6.length=l.length:=by simpa using congrArg qq7 h2
  refine⟨a,_,rfl,.inr ⟨J6,kk,b,q.hh _ _ h1,rfl,q.fh _ _ hb,by rw[W];exact hc.1,rfl⟩,?_⟩;obtain⟨p1,p2⟩:=rR kk v J6 l d (by rw[h2];exact hc.2) h2;exact k σ F2 _ (en2.poke hl hv rfl fun S sa=>⟨a,_,rfl,sa,bq,p1,p2 _ _ (Y▸rv.same q.ff) (h3.same q.ff)⟩)
def jR:List Dt->Option T
 |[.dcT ks _]=>some (.lst (ks.map lw))
 |[.dct ks _]=>some (.lst (ks.map rV))
 |_=>none
noncomputable abbrev wT:List V->Hp->VK->Prop:=fun xs H Q=>(∃a J6,xs=[.ref a]/\Rd H a (.dT J6)/\∀bs:List J9,bs.length=J6.length->(∀(j:Nat)(b:J9)(p:List Key×V),bs[j]?=some b->J6[j]?=some p->H b=some (.tup (p.1.map kV)))->∀l,H l=none->Q (.ref l) (upd H l (.lst (bs.map V.ref))))∨∃a J6,xs=[.ref a]/\Rd H a (.dK J6)/\∀l,H l=none->Q (.ref l) (upd H l (.lst (J6.map fun p=>kV p.1)))
theorem lz(q:X.calm=true):fC X (.type "list") wT:=fun J1 s σ H xs us Q I r h=>h.elim (qE q J1 s σ H xs us Q I r) (qF q J1 s σ H xs us Q I r)
theorem si{F:Hp}:∀{L:List (List Key)}{bs:List J9},bs.length=L.length->(∀(j:Nat)(b:J9)(k:List Key),bs[j]?=some b->L[j]?=some k->F b=some (.tup (k.map kV)))->Reps K F (L.map lw) (bs.map V.ref)
 |[],[],_,_=>by simp[Reps]
 |[],_::_,h,_=>by cases h
 |_::_,[],h,_=>by cases h
 |k::L,b::bs,h,q=>by simp only[qa5,Reps];exact⟨_,_,rfl,wP (q 0 b k rfl rfl),si (by simpa using h) fun j b k h1 h2=>q (j+1) b k (by simpa using h1) (by simpa using h2)⟩
def sj:CRD K wT jR:=fun F H ds vs Q t Y r hg k=>by
 unfold jR at hg;split at hg<;>cases hg
 .obtain⟨v,rfl,a,J6,rfl,h1,rfl,h3⟩:=fP r;refine .inl ⟨a,J6,rfl,h1,fun bs hl hb l hn=>?_⟩
  have Z:∀(j:Nat)(b:J9)(k:List Key),bs[j]?=some b->(J6.map (·.1))[j]?=some k->H b=some (.tup (k.map kV)):=fun j b k h1 h2=>by rw[qb3]at h2;obtain⟨p,hp,rfl⟩:=mS h2;exact hb j b p h1 hp
  have hin:∀b∈bs,∃vs,H b=some (.tup vs):=fun b hm=>by
   obtain⟨j,hj⟩:=qj9 hm;have W:j<J6.length:=by rw[<- hl];exact(gX hj).1
   exact⟨_,hb j b _ hj (gQ W)⟩
  let F':Hp:=fun b=>if b∈bs then H b else F b
  have L:∀{b:J9},b∈bs->F' b=H b:=fun h=>if_pos h
  have q:∀{b:J9},b∉bs->F' b=F b:=fun h=>if_neg h
  have ff:Same F F':=fun b o e=>by
   by_cases h:b∈bs
   .rw[L h];exact Y _ _ e
   .rw[q h];exact e
  have O:Same F' H:=fun b o e=>by
   by_cases h:b∈bs
   .rw[L h]at e;exact e
   .rw[q h]at e;exact Y _ _ e
  have st:Step F H F' H:=⟨Same.refl _,ff,O,fun b o e=>by
   by_cases h:b∈bs
   .exact .inr (.inr (hin b h))
   .rw[q h]at e;exact .inl e⟩
  exact gq (k.step st) O (si (by simpa using hl) fun j b k h1 h2=>by rw[L (qd0 h1)];exact Z j b k h1 h2) hn
 .obtain⟨v,rfl,a,J6,rfl,h1,rfl,h3⟩:=fP r;refine .inr ⟨a,J6,rfl,h1,fun l hn=>gq k Y ?_ hn⟩;rw[show(J6.map fun p=>kV p.1)=(J6.map (·.1)).map kV by rw[qc4];rfl];exact jQ _
def vLR(fa:De->Option Dt):De->Option T:=fun δ=>(fa δ).bind fun d=>match d with
 |.lst l=>some (.lst l.reverse)
 |_=>none
def Reps.rev{F:Hp}:∀{l:List Dt}{vs:List V},Reps K F l vs->Reps K F l.reverse vs.reverse
 |[],_,h=>by simp only[Reps]at h;subst h;simp[Reps]
 |d::l,_,h=>by simp only[Reps]at h;obtain⟨v,q,rfl,h1,h2⟩:=h;rw[qt1,qt1];exact(Reps.rev h2).append (Reps.one h1)
theorem lA (h1:aD sc "list"=true) (h2:aD sc "reversed"=true) (W:X.mg "list"=none) (Y:X.mg "reversed"=none) (hc:X.calm=true) (ha:DB X a fa) (e1:cW X sc:=by rfl) (he:qb0 [a] X.env=(false,eval a X.env)::qb0 [] X.env:=by rfl) (Z:qb0 [a] X.env=[(false,eval a X.env)]:=by rfl)
  (O:qb0 [.Call (.Name "reversed" p2) [a] [] pos2] X.env=[(false,eval (.Call (.Name "reversed" p2) [a] [] pos2) X.env)]:=by rfl) :
  DO X (.Call (.Name "list" p1) [.Call (.Name "reversed" p2) [a] [] pos2] [] pos1) (vLR fa):=
 PE.mono (qD h1 h2 W Y hc (dM ha gU he) e1 Z O) fun σ H Q ⟨Φ,δ,F,t,hK,en,L,k⟩=>by
  obtain⟨d,hd,L⟩:=bS L;split at L<;>cases L
  refine⟨Φ,δ,F,_,hK,en,hd,fun v H1 F1 st rv=>?_⟩;obtain⟨a,vs,rfl,g1,g2⟩:=rv;exact⟨a,vs,rfl,g1,fun q hq=>gq (k.step st) st.fh (g2.rev) hq⟩
end
noncomputable def AtF(K:xA9)(x:Str)(st:Jb):Prop:=∃(f:J9)(oc:Value)(od an:Option J9)(sl:Array (Option Value))(kV dc pm q ct:Value),xB9 K qc1 x=some (some (.ref f))/\K.lookup f=some ⟨oc,od,.func (xC9 x x (cK st) (bi st) (ac st) .none kV dc pm an q ct),sl⟩/\xH9 K q x=true/\xE9 K (.ref f)=true
noncomputable def AtC(K:xA9)(x:Str)(st:Jb)(c P:J9):Prop:=∃(f:J9)(oc:Value)(od an:Option J9)(sl:Array (Option Value))(kV dc pm ct L:Value)(xd:Option J9)(q:Array Value)(xs:Array (Option Value)),
 xB9 K qc1 x=some (some (.ref f))/\K.lookup f=some ⟨oc,od,.func (xC9 x x (cK st) (bi st) (ac st) .none kV dc pm an (.ref c) ct),sl⟩/\xH9 K (.ref c) x=true/\xE9 K (.ref f)=true∧
 K.lookup c=some ⟨L,xd,.fields q,xs⟩/\q[11]?=some (.ref P)
variable{f:J9}{oc dc pm:Value}{od an:Option J9}
section
variable{K:xA9}{mg:Str->Option Value}{h:Heap}{x:Str}{st:Jb}{ps:List Str}{c P:J9}
theorem AtF.mk{sl:Array (Option Value)}{kV q ct:Value}(a:xB9 K qc1 x=some (some (.ref f)))(l:K.lookup f=some ⟨oc,od,.func (xC9 x x (cK st) (bi st) (ac st) .none kV dc pm an q ct),sl⟩)(c:xH9 K q x=true)(k:xE9 K (.ref f)=true):AtF K x st:=⟨f,oc,od,an,sl,kV,dc,pm,q,ct,a,l,c,k⟩
theorem AtC.mk{sl:Array (Option Value)}{kV ct L:Value}{xd:Option J9}{q:Array Value}{xs:Array (Option Value)}(a:xB9 K qc1 x=some (some (.ref f)))(l:K.lookup f=some ⟨oc,od,.func (xC9 x x (cK st) (bi st) (ac st) .none kV dc pm an (.ref c) ct),sl⟩)(Y:xH9 K (.ref c) x=true)(k:xE9 K (.ref f)=true)(cl:K.lookup c=some ⟨L,xd,.fields q,xs⟩)(O:q[11]?=some (.ref P)):AtC K x st c P:=⟨f,oc,od,an,sl,kV,dc,pm,ct,L,xd,q,xs,a,l,Y,k,cl,O⟩
theorem AtF.df(A:AtF K x st)(X:K.In h)(G:h.Ns qc1 mg)(q:∀(kV doc pm:Value)(an:Option J9)(cdv ct:Value)(us:List Value),us.length=ps.length->zg9 (xC9 x x (cK st) (bi st) (ac st) .none kV doc pm an cdv ct) ⟨us,[]⟩=pure (ps.zip us)):DefF K mg x st ps:=by obtain⟨f,oc,od,an,sl,kV,dc,pm,L,ct,a,l,c,k⟩:=A;exact DefF.mk' X G a l c k q
theorem AtC.df(A:AtC K x st c P)(X:K.In h)(G:h.Ns qc1 mg)(q:∀(kV doc pm:Value)(an:Option J9)(cdv ct:Value)(us:List Value),us.length=ps.length->zg9 (xC9 x x (cK st) (bi st) (ac st) .none kV doc pm an cdv ct) ⟨us,[]⟩=pure (ps.zip us)):DefC K mg x st ps c:=by obtain⟨f,oc,od,an,sl,kV,dc,pm,ct,L,xd,O,xs,a,l,c,k,_⟩:=A;exact DefC.mk' X G a l c k q
end
section
variable{X:Cx}{e:Jc}{es:List Jc}{x:Str}{p pos:Pos}{fs:De->Option (List Dt)}{i:Nat}
def pvX(h:de X.env.scope X.N i x=true):PE X (.Name x pos) (iW i):=pvD i h rfl rfl
end
end L2
namespace HT
open PySem PySem.Spec PyProof.Rows
theorem sk {prog:qc6} {w:Ja} {A:qd5} {E:Value->qa4->Prop} {s:qa4} {t sl:J9} {q:Array Value} {vl vu:Value} {lo hi:Option Int} {Q:Value->qa4->Prop} (L:IsTup s.heap t q) (Z:s.heap.IsSliceOf sl vl vu .none) (pl:zf4 vl lo) (pu:zf4 vu hi)
  (hw:sIx q.size 0 lo=0/\sIx q.size q.size hi=q.size) (h:Q (.ref t) s):wpAny (model prog w) A (za1 (.ref t) (.ref sl)) Q E s:=by
 obtain⟨os,Y,O,hds⟩:=id Z;have W:s.TypeIs (.ref sl) "slice":=⟨os,Y,O⟩;unfold za1
 try with_reducible refine qi3 ?_
 first|refine wB (qa3 ?_)|skip
 refine wB (wpAny_sequenceKey L.typeIs (by decide) ?_)
 refine wB (qe4 (name:=qa0 "__getitem__") L.typeIs qf8
  (qf0 qf8 L.typeIs entry_tuple_getitem ?_ (args_tuple_getitem _ _)))
 show wpAny _ _ (qw6 (.ref t) >>= _) _ _ s;refine wB (tupleItemsOf_ L ?_);refine wB (qt7 W ?_);rw[if_pos (by decide)];refine wB (fU Z pl pu ?_);show wpAny _ _ (if(((sIx q.size 0 lo:Nat):Int)==0&&(1:Int)==1&&(sIx q.size q.size hi-sIx q.size 0 lo)==q.size)=true then _ else _) _ _ s;rw[if_pos (by rw[hw.1,hw.2];simp)];refine wB (m:=qj6.Tuple.tupleIsExact _) (wB (qt7 L.typeIs (qa3 ?_)));rw[if_pos (by decide)]
 first
  |exact wB (m:=rule _) (qv3 (qa3 ⟨_,rfl,qa3 h⟩))
  |exact wB (qv3 (qa3 ⟨_,rfl,qa3 h⟩))
  |exact qv3 (qa3 ⟨_,rfl,qa3 h⟩)
  |(wp_walk;exact⟨_,rfl,qa3 h⟩)
end HT
namespace L2
open PySem PySem.Spec PyProof.Rows
variable{K:xA9}
section
variable{X:Cx}
def rSlW(K:xA9):V->Option Int->Option Int->Hp->VK->Prop:=fun x lo hi H Q=>∃a xs,x=.ref a/\SqT K H a xs/\(HT.sIx xs.length 0 lo=0/\HT.sIx xs.length xs.length hi=xs.length)/\Q (.ref a) H
def zi:SlR X (rSlW X.K):=by
 intro J1 s σ H x v vl vu lo hi sl Q I rx W pl Z h;obtain⟨a,xs,rfl,hx,Y,q⟩:=h;cases rx;obtain⟨J8,r,O,hz⟩:=I.tuple hx;have L:J8.toArray.size=xs.length:=by rw[qb6];exact r.length.symm
 refine⟨"tuple",_,qf8.lookup,O.typeIs,?_⟩;exact HT.sk O W pl Z (by rw[L];exact Y) ⟨.ref a,H,I,rfl,q⟩
def wU:Dt->Option Int->Option Int->Option T
 |.tup l,lo,hi=>if HT.sIx l.length 0 lo=0/\HT.sIx l.length l.length hi=l.length then some (.leaf (.tup l))else some (.leaf (.tup (kr l lo hi)))
 |x,lo,hi=>gSl x lo hi
def pz(fa:De->Option Dt)(L q:De->Option (Option Int)):De->Option T:=fun δ=>(fa δ).bind fun x=>(L δ).bind fun l=>(q δ).bind fun h=>wU x l h
theorem D4{F H:Hp}{x:Dt}{v:V}{lo hi:Option Int}{Q:VK}{t:T}(L:Same F H)(O:RepB K F H x v)(q:wU x lo hi=some t)(k:KO K F H t Q):BU K v lo hi H Q∨rSlW K v lo hi H Q:=by
 unfold wU at q;split at q
 .rename_i l;split at q
  .rename_i W;cases q;obtain⟨a,vs,rfl,h1,h2⟩:=O;refine .inr ⟨a,vs,rfl,L.tup h1,by rw[h2.length];exact W,k.leaf.here L ?_⟩;simp only[Rep];exact⟨a,vs,rfl,h1,h2⟩
  .rename_i W;exact .inl (BV L O (by show(if _ then none else some _)=_;rw[if_neg W];exact q) k)
 .exact .inl (BV L O q k)
theorem mY{e:Jc}{lo hi:Option Jc}{p2 pos:Pos}{f:De->Option Dt}{fl fh:De->Option (Option Int)}(he:DB X e f)(Y:DP X lo fl)(hh:DP X hi fh):DO X (.Subscript e (.Slice lo hi none p2) pos) (pz f fl fh):=PE.mono (oI (SlR.or vV zi) he Y hh) fun σ H Q ⟨Φ,δ,F,t,W,Z,q,k⟩=>by unfold pz at q;obtain⟨x,hx,q⟩:=bS q;obtain⟨l,Y,q⟩:=bS q;obtain⟨h,hh,q⟩:=bS q;exact⟨Φ,δ,F,x,W,Z,hx,fun v H1 F1 s1 r1=>⟨Φ,δ,F1,l,W,Z.step s1,Y,fun H2 F2 L=>⟨Φ,δ,F2,h,W,Z.step (s1.trans L),hh,fun H3 F3 O=>D4 O.fh (r1.step (L.ff.trans O.ff) (L.hh.trans O.hh)) q (k.step ((s1.trans L).trans O))⟩⟩⟩
def wV(K:xA9):R2:=fun x y H Q=>∃a b z xs,x=.ref a/\y=.ref b/\SqT K H a (z::xs)/\SqT K H b []/\Q (.ref a) H
def zj:OpR X (ql7 .Add) (wV X.K):=by
 intro J1 s σ H x y v u Q I rx ry h;obtain⟨a,b,z,xs,rfl,rfl,ha,hb,q⟩:=h;cases rx;cases ry;obtain⟨J8,r1,p1,_⟩:=I.tuple ha;obtain⟨its2,r2,p2,_⟩:=I.tuple hb;cases r2;obtain⟨⟨cls,dd,data,sl⟩,ho,hc,n,hd⟩:=id p1;obtain⟨⟨cls2,dd2,Z,Y⟩,L,O,n2,W⟩:=id p2;simp only at hc hd O W;subst hc hd O W
 exact qx2 ⟨_,ho,rfl⟩ ⟨_,L,rfl⟩ qu1 za0 PySem.F.slot_tuple_add PySem.F.entry_tuple_add (PySem.F.args_tuple_add_2 _ _)
  (tuple_addW1 a b J8.toArray #[] n n2 dd dd2 sl Y (by cases r1;simp) rfl) ⟨ho,L,⟨.ref a,H,I,rfl,q⟩⟩
def lB:Dt->Dt->Option T
 |.tup (d::l),.tup []=>some (.leaf (.tup (d::l)))
 |x,y=>mI x y
theorem sq:OpR X (ql7 .Add) (fun x y H Q=>(o8 X.K x y H Q∨mz X.K x y H Q)∨wV X.K x y H Q):=OpR.or rT zj
def wW:R2D K (fun x y H Q=>(o8 K x y H Q∨mz K x y H Q)∨wV K x y H Q) lB:=by
 intro F H x y vx vy Q t L Y Z O k;unfold lB at O;split at O
 .rename_i d l;cases O;obtain⟨a,vs,rfl,h1,h2⟩:=Y;obtain⟨b,ws,rfl,h3,W⟩:=Z;simp only[Reps]at W;subst W;have q:=h2;simp only[Reps]at q;obtain⟨v,us,rfl,_,_⟩:=q;refine .inr ⟨a,b,v,us,rfl,rfl,L.tup h1,L.tup h3,k.leaf.here L ?_⟩;simp only[Rep];exact⟨a,_,rfl,h1,h2⟩
 .exact .inl (v4 F H _ _ vx vy Q t L Y Z O k)
end
abbrev Hk3:=Str×Int×Bool
def h3(k:Hk3):Dt:=.tup [.str k.1,.int k.2.1,.bl k.2.2]
section
variable{X:Cx}{J1:List (J9×Obj)}{s:qa4}{σ:St}{H:Hp}
end
section
variable{X:Cx}
end
section
variable{P:qc6}{u:Ja}{A:qd5}{R:Result->qa4->Prop}{I:J9}{fp wr:List J9}{n:Nat}{Pv:Nat->Value->Prop}{St:Nat->Heap->Prop}
end
section
variable{P:qc6}{u:Ja}{A:qd5}{E:Value->qa4->Prop}{s:qa4}{l:J9}{xs:Array (Int×Tok)}{d:Value}
end
section
variable{X:Cx}{e:Jc}{pos p kp kq:Pos}{sc:Jd}{fs:De->Option (List Dt)}{d:Int}{t:TA}{i:Nat}
end
def jm:Dt->Dt->Option T
 |.str x,.int n=>if 0<=n/\n<=1000/\x.length<=1000 then some (.leaf (.str (iK x n)))else none
 |_,_=>none
def Ax:R2:=fun x y H Q=>∃z n,x=.str z/\y=.int n/\(0<=n/\n<=1000/\z.length<=1000)/\Q (.str (iK z n)) H
def B7{z:Str}{n:Int}(h:0<=n/\n<=1000/\z.length<=1000):MulOk z n:=by
 obtain⟨W,h1,h2⟩:=h;refine⟨?_,fun h _=>?_,fun h _=>?_⟩
 .have q:decide (n < -(2^63:Int))=false:=decide_eq_false (by lia);have L:decide (n ≥ 2^63)=false:=decide_eq_false (by lia);rw[q,L];rfl
 .have e:(1000:Int)<=(2^63-1)/n:=(Int.le_ediv_iff_mul_le (by lia)).mpr (by lia);lia
 .have e:z.length*n.toNat<=1000*1000:=Nat.mul_le_mul h2 (by lia);have O:qb1=16777216:=qz8;exact decide_eq_false (by lia)
variable{X:Cx}
theorem sr:OpR X (ql7 .Mult) Ax:=by intro J1 s σ H x y v u Q I L W h;obtain⟨z,n,rfl,rfl,O,q⟩:=h;obtain⟨t,rfl⟩:=L;obtain⟨t',rfl⟩:=W;exact SB.mul (B7 O) fun Y k=>⟨.str (iK z n),H,I.tok _,⟨_,rfl⟩,q⟩
def wX:R2D K Ax jm:=by
 intro F H x y Y Z Q t L O W q k;unfold jm at q;split at q<;>first|(cases q;done)|skip
 split at q<;>cases q
 rename_i h;cases O;cases W;exact⟨_,_,rfl,rfl,h,k.str L⟩
open PySem
section
variable{K:Type}[DecidableEq K]
def uy{J5:List K}{k x:K}:x∈fK J5 k↔x∈J5∨x=k:=by
 unfold fK;split
 .exact⟨.inl,fun h=>h.elim id fun e=>e▸by assumption⟩
 .simp
def mZ{x:K}:∀{ss J5:List K},x∈ss.foldl fK J5↔x∈J5∨x∈ss
 |[],J5=>by simp
 |k::ss,J5=>by rw[qi6,mZ,uy,qa9,or_assoc]
def gz{ss:List K}{x:K}:x∈cR ss↔x∈ss:=by unfold cR;rw[mZ];simp
def pA{J5:List K}{k:K}(h:J5.Nodup):(fK J5 k).Nodup:=by
 unfold fK;split
 .exact h
 .rename_i hk;rw[qk9];exact⟨h,by simp,fun a q b L e=>hk (by rw[qa6.mp L]at e;exact e▸q)⟩
def ka:∀{ss J5:List K},J5.Nodup->(ss.foldl fK J5).Nodup
 |[],_,h=>h
 |k::ss,J5,h=>ka (ss:=ss) (pA h)
def nY(ss:List K):(cR ss).Nodup:=ka qt5
end
def lC:∀ns:List Int,nV (ns.map .int)=some ns
 |[]=>rfl
 |k::ns=>by rw[qa5];unfold nV;rw[lC ns];rfl
variable{ns:List Int}
def jS{x:Int}:x∈hJ ns↔x∈ns:=(eF ns).mem_iff
theorem pB(h1:ns.length<4000)(h2:(cR ns).length<64):f9 [.lst (ns.map .int)]=some (.lst ((hJ (cR ns)).map .int)):=by unfold f9 uw;dsimp only;rw[lC,qa2,if_pos ⟨h1,h2⟩]
section
variable{X:Cx}{K:Type}[DecidableEq K][Inhabited K]{κ:SK X.prog X.w K}
end
section
variable{X:Cx}{e:Jc}{pos pos2 p p2:Pos}{sc:Jd}{fs:De->Option (List Dt)}
end
theorem uz:MtR X "list.index" (fun x vs H Q=>∃(p:J9)(ns:List Int)(k:Int),x=.ref p/\vs=[.int k]/\SqL X.K H p (ns.map V.int)/\k∈ns/\ns.length<=100000/\Q (.int (ns.idxOf k:Nat)) H):=by
 intro J1 s σ H x vs v us Q I r rv h;obtain⟨p,ns,k,rfl,rfl,hq,hk,hz,q⟩:=h;cases r;obtain⟨u,rfl,ru⟩:=rv.one;obtain⟨t,rfl⟩:=ru;obtain⟨J8,r',pl,hz'⟩:=I.list hq;have hi:=qd r';have L:=hi.length;obtain⟨⟨cls,dd,data,sl⟩,ho,Z,n,hd⟩:=pl.isList;simp only at Z hd;subst Z hd;have W:ns.idxOf k<ns.length:=qz7.mpr hk;refine call_meets PySem.F.slot_list_index ⟨_,ho,rfl⟩ PySem.F.entry_list_index (PySem.F.args_list_index_2 _ _) (PySem.SeqAt.list_indexAt p J8.toArray n dd sl (.int k t) (isInt k) (ns.idxOf k) (by simpa[L] using W) (by lia) ?_ ?_) ⟨ho,fun y hy=>(eq_isInt k t hi y (by simpa using hy)).at _ _,⟨.int (ns.idxOf k:Nat),H,I.tok _,⟨_,rfl⟩,q⟩⟩
 .show isInt k J8[ns.idxOf k]=true;rw[isInt_at k hi _ (by lia) W];simpa using List.getElem_idxOf W
 .intro j Y O;show isInt k J8[j]=false;rw[isInt_at k hi j (by simpa using Y) (by lia)];exact ne_of_lt_idxOf O _
def dy:Dt->List Dt->Option T
 |.lst ds,[.int k]=>(nV ds).bind fun ns=>if k∈ns/\ns.length<=100000 then some (.leaf (.int (ns.idxOf k:Nat)))else none
 |_,_=>none
theorem wY:MRD K (fun x vs H Q=>∃(p:J9)(ns:List Int)(k:Int),x=.ref p/\vs=[.int k]/\SqL K H p (ns.map V.int)/\k∈ns/\ns.length<=100000/\Q (.int (ns.idxOf k:Nat)) H) dy:=by
 intro F H d v ds vs Q t Y rd rs q k;unfold dy at q;split at q<;>first|cases q;done|skip
 obtain⟨ns,O,q⟩:=bS q;split at q<;>cases q
 rename_i L;obtain⟨a,Z,rfl,h1,h2⟩:=rd;have:=nW h2 O;subst this;obtain⟨v,rfl,W⟩:=fP rs;cases W;exact⟨a,ns,_,rfl,rfl,h1,L.1,L.2,k.int Y⟩
section
variable{X:Cx}{e o:Jc}{es:List Jc}{fo:De->Option Dt}{fs:De->Option (List Dt)}{apos cpos pos:Pos}
def uA (ho:DB X o fo) (ha:DAB X (e::es) fs)
  (W:za2 o "index" X.env (eval o X.env)=eval o X.env:=by rfl)
  (Z:((ql0 cpos (qb0 (e::es) X.env)).all (fun x=>!x.1)&&(backToKw cpos (zg0 [] X.env)).all (fun x=>x.1.isSome)
   && decide ((e::es).length+([]:List zd5).length+(if([]:List zd5).isEmpty then 0 else 1)<30))=true:=by rfl)
  (Y:(apos.endLine==cpos.line)=true:=by rfl) (hs:qb0 (e::es) X.env=(false,eval e X.env)::qb0 es X.env:=by rfl) (L:(ql0 cpos (qb0 es X.env)).any (·.1)=false:=by rfl) :
  DO X (.Call (.Attribute o "index" apos) (e::es) [] cpos) (j8 dy fo fs):=PE.mono (vh PySem.F.plainAttrs_list PySem.F.slot_list_index PySem.F.type_list_index uz ho ha.pa W Z Y hs L) fun σ H Q ⟨Φ,δ,F,t,hK,en,O,k⟩=>by
 unfold j8 at O;obtain⟨d,hd,O⟩:=bS O;obtain⟨ds,hds,O⟩:=bS O;refine⟨Φ,δ,F,d,hK,en,hd,fun v H1 F1 st rv=>⟨?_,Φ,δ,F1,ds,hK,en.step st,hds,fun vs H2 F2 q rvs=>wY F2 H2 d v ds vs Q t q.fh (rv.step q.ff q.hh) rvs O (k.step (st.trans q))⟩⟩;unfold dy at O;split at O<;>first|cases O;done|skip
 obtain⟨a,ws,rfl,h1,h2⟩:=rv;exact .inl ⟨rfl,ws,h1⟩
end
section
variable{X:Cx}
end
seal L2.PE L2.PS L2.PSs L2.PT L2.PW L2.PA L2.PI L2.PG L2.PTs L2.PO L2.PGs L2.fC L2.OpR L2.IxR L2.SlR L2.MtR L2.UnR L2.DO L2.DL L2.DB L2.DT L2.DW L2.DS L2.DS1 L2.R2D L2.CRD L2.MRD L2.DG L2.DGs L2.DIF L2.DIB L2.DTs L2.DP
def el1{α:Type}{p:List α->Prop}(h:∀a,p [a]):∀us:List α,us.length=1->p us
 |[a],_=>h a
def el2{α:Type}{p:List α->Prop}(h:∀a b,p [a,b]):∀us:List α,us.length=2->p us
 |[a,b],_=>h a b
def el3{α:Type}{p:List α->Prop}(h:∀a b c,p [a,b,c]):∀us:List α,us.length=3->p us
 |[a,b,c],_=>h a b c
def el4{α:Type}{p:List α->Prop}(h:∀a b c d,p [a,b,c,d]):∀us:List α,us.length=4->p us
 |[a,b,c,d],_=>h a b c d
def el5{α:Type}{p:List α->Prop}(h:∀a b c d e,p [a,b,c,d,e]):∀us:List α,us.length=5->p us
 |[a,b,c,d,e],_=>h a b c d e
end L2
namespace P53
open PySem L2
def top(i:Nat):Jb:=PySem.Challenge.pw_dimhouse_k53_thinned.main.body.getD i (.Pass ⟨0,0,0,0⟩)
noncomputable section
def k_A:List Key:=[.inr "copy",.inr "op",.inr "store",.inr "take",.inr "lay",.inr "say",.inr "if",.inr "end"]
noncomputable def fQ:List Dt:=[(.tup [(.int 2),(.int 3)]),(.tup [(.int 3),(.int 5)]),(.tup [(.int 2),(.int 3)]),(.tup [(.int 3),(.int 4)]),(.tup [(.int 2),(.int 4)]),(.tup [(.int 1),(.int 2)]),(.tup [(.int 1),(.int 2)]),(.tup [(.int 1),(.int 2)])]
def fA:Dt:=(.str "fresh")
def nZ:Dt:=(.str "safe")
def lD:Dt:=(.str "seen")
def m6:Dt:=(.tup [(.str "copy"),(.str "op"),(.str "load"),(.str "take"),(.str "hear")])
def jn:Dt:=(.str "spoilt")
def q4:List Dt->Option T:=ce 2 ((ar (sIf (tB2 (ix fun i j=>decide (i<j)) (vB 1) (toD (am cS (aa (vB 0) ak)))) (bw (d2 au (vB 0) (vB 1))) bV) (bw (toT (kD (.int 0))))))
def z59:List Dt->Option T:=ce 1 ((bw (vIf (tB2 (cB false) (toD (d2 au (vB 0) (kD (.int 0)))) (kD m6)) (d2 au (vB 0) (kD (.int 1))) (toT (kD .non)))))
noncomputable def zm:List Dt->Option T:=ce 2 ((ar (sIf (fSi true k_A fQ (toD (d2 au (vB 0) (kD (.int 0))))) (bw (aT ak)) bV)
  (ar (aA 1 (toT (toD (vSg k_A fQ (toD (d2 au (vB 0) (kD (.int 0))))))))
  (bw (vSl (vB 0) (c9 (toD (d2 au (vB 1) (kD (.int 0))))) (c9 (toD (d2 au (vB 1) (kD (.int 1))))))))))
def q90:De->Option Out:=(sIf (fG (e7 (toD (vW "str" (vB 2)))) (tB2 (cB true) (vB 2) (vB 1))) (z11 1 (vL 2)) bV)
def y59:List Dt->Option T:=ce 3 ((ar (aA 1 (bE ak))
  (ar (dg (fIt (toD (am zm (aa (vL 0) ak)))) (av 2) q90)
  (e9 1))))
def y55:De->Option Bool:=(tB2 (gEq true) (vB 0) (toD (am z59 (aa (vL 1) ak))))
def q54:De->Option Out:=(z65 2 (bA [none,some 0] (fIt (vB 3)) (av 0) y55 (vL 0)))
def z24:List Dt->Option T:=ce 4 ((ar (aA 2 (am y59 (aa (vL 0) ak)))
  (ar (dg (fIt (vL 1)) (av 3) q54)
  (bw (am eY (aa (vB 2) ak))))))
noncomputable def y89:List Dt->Option T:=ce 2 ((ar (sIf (tB2 (gEq false) (toD (d2 au (vB 1) (kD (.int 0)))) (kD (.str "go"))) (bw (aT (aa (toD (d2 au (vB 1) (kD (.int 1)))) ak))) bV)
  (ar (sIf (tB2 (gEq false) (toD (d2 au (vB 1) (kD (.int 0)))) (kD (.str "if"))) (bw (aT (aa (toD (d2 au (vB 1) (kD (.int 2)))) (aa (toD (d2 aN (vB 0) (kD (.int 1)))) ak)))) bV)
  (ar (sIf (tB2 (gEq false) (toD (d2 au (vB 1) (kD (.int 0)))) (kD (.str "end"))) (bw (aT ak)) bV)
  (bw (aT (aa (toD (d2 aN (vB 0) (kD (.int 1)))) ak)))))))
def z134:De->Option Dt:=(toD (am y89 (aa (vL 0) (aa (vL 1) ak))))
def dh:List Dt->Option T:=ce 1 ((bw (bA [none,none] (dO iB (aa (toD (d2 au (vB 0) (kD (.int 2)))) ak)) (fu 2 (br (av 0) (br (av 1) fq))) bN z134)))
def q36:De->Option Dt:=(toD (bE ak))
def y78:De->Option Dt:=(toD (d2 au (vB 1) (vB 0)))
noncomputable def z79:De->Option Out:=(ar (aA 6 (toT (toD (am z24 (aa (toD (d2 au (vB 1) (vB 5))) (aa (toD (bA [none,some 3] (fIt (toD (d2 au (vB 2) (vB 5)))) (av 0) bN y78)) ak))))))
  (sIf (tB2 (gEq true) (vB 6) (toD (d2 au (vB 3) (vB 5)))) (ar (nM 3 (vB 5) (vL 6))
  (aA 4 (toT (kD (.bl true))))) bV))
def q78:De->Option Out:=(ar (aA 4 (toT (kD (.bl false)))) (dg (dO ui (aa (toD (d2 gJ (toD (am cS (aa (vB 1) ak))) (kD (.int 1)))) (aa (toD (lb (kD (.int 1)))) (aa (toD (lb (kD (.int 1)))) ak)))) (av 5) z79))
def q123:De->Option Bool:=(e7 (vB 4))
noncomputable def z20:List Dt->Option T:=ce 7 ((ar (aA 1 (toT (toD (d2 au (vB 0) (kD (.int 2))))))
  (ar (aA 2 (toT (toD (am dh (aa (vL 0) ak)))))
  (ar (aA 3 (bA [none] (fIt (vB 1)) (av 0) bN q36))
  (ar (aA 4 (toT (kD (.bl true))))
  (ar (bt q123 q78 100000)
  (e9 3)))))))
def z90:De->Option Bool:=(t0 (e7 (toD (d2 au (vB 0) (kD (.int 2))))))
def y88:De->Option Dt:=(toD (d2 au (vB 0) (kD (.int 0))))
def q15:List Dt->Option T:=ce 1 ((bw (bA [none] (fIt (toD (d2 lB (toD (d2 au (vB 0) (kD (.int 0)))) (toD (d2 au (vB 0) (kD (.int 1))))))) (av 0) z90 y88)))
noncomputable def y24:De->Option Out:=(sIf (fOr (tB2 (gEq false) (toD (d2 au (vB 4) (kD (.int 0)))) (kD (.str "end"))) (fG (tB2 (cB false) (toD (d2 au (vB 4) (kD (.int 0)))) (toD (aT (aa (kD (.str "store")) (aa (kD (.str "lay")) ak))))) (tB2 (cB false) (toD (d2 au (vB 4) (kD (.int 1)))) (vB 1)))) (z11 2 (vL 3)) bV)
def z30:List Dt->Option T:=ce 5 ((ar (aA 1 (toT (toD (am q15 (aa (vL 0) ak)))))
  (ar (aA 2 (bE ak))
  (ar (dg (dO iB (aa (toD (d2 au (vB 0) (kD (.int 2)))) ak)) (fu 2 (br (av 3) (br (av 4) fq))) y24)
  (e9 2)))))
def q29:De->Option Bool:=(tB2 (ix fun i j=>decide (i<=j)) (vB 0) (vB 1))
def z18:De->Option Out:=(z65 1 (bA [none,some 2] (fIt (vB 3)) (av 0) q29 (vL 0)))
def y20:List Dt->Option T:=ce 4 ((ar (aA 1 (bE ak))
  (ar (dg (dO iB (aa (toD (am dh (aa (vL 0) ak))) ak)) (fu 2 (br (av 2) (br (av 3) fq))) z18)
  (e9 1))))
def z49:De->Option Dt:=(toD (aT (aa (vL 0) (aa (toD (am cy (aa (toD (d2 au (vB 1) (vB 0))) ak))) ak))))
noncomputable def z23:List Dt->Option T:=ce 3 ((ar (aA 1 (toT (toD (am z20 (aa (vL 0) ak)))))
  (ar (aA 2 (toT (toD (am f9 (aa (toD (d2 aN (toD (am z30 (aa (vL 0) ak))) (toD (am y20 (aa (vL 0) ak))))) ak)))))
  (bw (aT (aa (toD (am cy (aa (toD (d2 au (vB 1) (kD (.int 0)))) ak))) (aa (toD (am cy (aa (toD (bA [none,some 1] (fIt (vB 2)) (av 0) bN z49)) ak))) ak)))))))
noncomputable def z44:De->Option Out:=(ar (aA 4 (toT (toD (d2 ck (toD (d2 eU (vB 4) (kD (.int 69621)))) (kD (.int 1000000007))))))
  (sIf (fOr (tB2 (cB false) (vB 7) (vB 5)) (tB2 (gEq false) (toD (d2 ck (vB 4) (kD (.int 3)))) (kD (.int 0)))) (ar (aA 8 (toT (toD (d2 aN (toD (d2 au (vB 3) (vB 7))) (toD (vSl (vB 2) dY (c9 (toD (d2 ck (toD (d2 fg (vB 4) (kD (.int 3)))) (kD (.int 2)))))))))))
  (z11 6 (toD (aT (aa (vL 7) (aa (toD (am cy (aa (toD (am eY (aa (vB 8) ak))) ak))) ak)))))) bV))
noncomputable def z38:List Dt->Option T:=ce 9 ((ar (aA 3 (toT (toD (am z20 (aa (vL 0) ak)))))
  (ar (aA 4 (toT (toD (d2 ck (toD (d2 eU (vB 1) (kD (.int 48271)))) (kD (.int 1000000007))))))
  (ar (aA 5 (toT (toD (bE ak))))
  (ar (sIf (tB2 (ix fun i j=>decide (j<i)) (toD (d2 ck (vB 4) (kD (.int 4)))) (kD (.int 0))) (aA 5 (toT (toD (bA [none,none] (fIt (toD (d2 au (toD (am z23 (aa (vL 0) ak))) (kD (.int 1))))) (fu 2 (br (av 0) (br (av 1) fq))) bN (vL 0))))) bV)
  (ar (aA 6 (bE ak))
  (ar (dg (dO fY (aa (toD (am cS (aa (toD (d2 au (vB 0) (kD (.int 2)))) ak))) ak)) (av 7) z44)
  (bw (aT (aa (toD (am cy (aa (toD (am eY (aa (toD (d2 aN (toD (d2 au (vB 3) (kD (.int 0)))) (toD (vSl (vB 2) dY (c9 (toD (d2 ck (toD (d2 fg (vB 4) (kD (.int 5)))) (kD (.int 2))))))))) ak))) ak))) (aa (toD (am cy (aa (vB 6) ak))) ak)))))))))))
def y62:De->Option Out:=(ar (z11 2 (toD (d2 ck (vB 0) (vB 3)))) (aA 0 (toT (toD (d2 fg (vB 0) (vB 3))))))
def z12:List Dt->Option T:=ce 4 ((ar (aA 2 (bE ak))
  (ar (dg (fIt (vL 1)) (av 3) y62)
  (e9 2))))
noncomputable def q50:De->Option Out:=(ar (aA 9 (toT (toD (d2 au (kD (.str "abcdefghijklmnopqrstuvwxyz")) (toD (d2 ck (toD (d2 aN (toD (d2 au (vB 3) (kD (.int 2)))) (vB 8))) (kD (.int 26)))))))) (z11 7 (toD (d2 aN (toD (d2 aN (toD (d2 jm (vB 6) (vB 5))) (vB 9))) (toD (d2 jm (vB 6) (toD (d2 gJ (toD (d2 gJ (vB 4) (kD (.int 1)))) (vB 5)))))))))
noncomputable def y15:List Dt->Option T:=ce 10 ((ar (aA 2 (toT (toD (d2 ck (toD (d2 eU (vB 0) (kD (.int 48271)))) (kD (.int 1000000007))))))
  (ar (aA 3 (toT (toD (am z12 (aa (vL 2) (aa (toD (bE (aa (kD (.int 6)) (aa (kD (.int 6)) (aa (kD (.int 26)) (aa (kD (.int 5)) ak)))))) ak))))))
  (ar (aA 4 (toT (toD (d2 aN (kD (.int 1)) (toD (d2 au (vB 3) (kD (.int 0))))))))
  (ar (aA 5 (toT (toD (d2 ck (toD (d2 au (vB 3) (kD (.int 1)))) (vB 4)))))
  (ar (aA 6 (toT (toD (d2 au (kD (.str "qxzjw")) (toD (d2 au (vB 3) (kD (.int 3))))))))
  (ar (aA 7 (bE ak))
  (ar (dg (dO fY (aa (vL 1) ak)) (av 8) q50)
  (e9 7)))))))))
noncomputable def y25:List Dt->Option T:=ce 3 ((ar (sIf (tB2 (ix fun i j=>decide (i<j)) (vB 0) (toD (am cS (aa (vB 2) ak)))) (bw (d2 au (vB 2) (vB 0))) bV)
  (ar (sIf (tB2 (gEq false) (toD (d2 ck (vB 1) (kD (.int 3)))) (kD (.int 0))) (bw (d2 ck (toD (d2 fg (vB 1) (kD (.int 3)))) (kD (.int 4)))) bV)
  (bw (d2 ck (toD (d2 eU (vB 1) (kD (.int 69621)))) (toD (d2 qj (kD (.int 2)) (kD (.int 40)))))))))
noncomputable def y41:List Dt->Option T:=ce 14 ((ar (aA 5 (toT (toD (d2 ck (toD (d2 eU (vB 0) (kD (.int 48271)))) (kD (.int 1000000007))))))
  (ar (aA 6 (toT (toD (am z12 (aa (vL 5) (aa (toD (bE (aa (kD (.int 16)) (aa (toD (am cS (aa (vB 4) ak))) (aa (toD (d2 aN (toD (am cS (aa (vB 4) ak))) (kD (.int 2)))) (aa (toD (d2 aN (toD (am cS (aa (vB 4) ak))) (kD (.int 2)))) (aa (kD (.int 9)) (aa (kD (.int 12)) (aa (vL 1) ak))))))))) ak))))))
  (ar (aA 7 (toT (toD (am y25 (aa (toD (d2 au (vB 6) (kD (.int 2)))) (aa (vL 0) (aa (vL 4) ak)))))))
  (ar (aA 8 (toT (toD (am y25 (aa (toD (d2 au (vB 6) (kD (.int 3)))) (aa (toD (d2 fg (vB 0) (kD (.int 5)))) (aa (vL 4) ak)))))))
  (ar (aA 9 (toT (toD (d2 au (vB 4) (toD (d2 au (vB 6) (kD (.int 1))))))))
  (ar (aA 10 (toT (toD (d2 au (vB 2) (toD (d2 ck (toD (d2 au (vB 6) (kD (.int 5)))) (toD (am cS (aa (vB 2) ak)))))))))
  (ar (aA 11 (toT (toD (d2 au (vB 6) (kD (.int 0))))))
  (ar (sIf (fG (tB2 (cB false) (vB 11) (toD (aT (aa (kD (.int 7)) (aa (kD (.int 8)) ak))))) (tB2 (ix fun i j=>decide (j<i)) (toD (am cS (aa (vB 3) ak))) (kD (.int 0)))) (ar (aA 12 (toT (toD (d2 au (vB 3) (toD (d2 ck (toD (d2 au (vB 6) (kD (.int 5)))) (toD (am cS (aa (vB 3) ak)))))))))
  (bw (d2 au (toD (bE (aa (toD (aT (aa (kD (.str "take")) (aa (vL 9) (aa (vL 12) (aa (vL 7) ak)))))) (aa (toD (aT (aa (kD (.str "lay")) (aa (vL 12) (aa (vL 7) (aa (vL 8) ak)))))) ak)))) (toD (d2 gJ (vB 11) (kD (.int 7))))))) bV)
  (ar (sIf (tB2 (cB false) (vB 11) (toD (aT (aa (kD (.int 3)) (aa (kD (.int 4)) (aa (kD (.int 7)) ak)))))) (bw (aT (aa (kD (.str "load")) (aa (vL 9) (aa (vL 10) ak))))) bV)
  (ar (sIf (tB2 (cB false) (vB 11) (toD (aT (aa (kD (.int 5)) (aa (kD (.int 6)) (aa (kD (.int 8)) ak)))))) (bw (aT (aa (kD (.str "store")) (aa (vL 10) (aa (vL 7) ak))))) bV)
  (ar (sIf (fG (tB2 (ix fun i j=>decide (j<i)) (vB 11) (kD (.int 8))) (tB2 (ix fun i j=>decide (i<j)) (vB 11) (kD (.int 15)))) (ar (aA 13 (toT (toD (bE (aa (toD (aT (aa (kD (.str "hear")) (aa (vL 9) ak)))) (aa (toD (aT (aa (kD (.str "say")) (aa (vL 7) ak)))) (aa (toD (aT (aa (kD (.str "if")) (aa (vL 7) (aa (toD (d2 au (vB 6) (kD (.int 6)))) ak))))) (aa (toD (aT (aa (kD (.str "if")) (aa (vL 7) (aa (toD (d2 au (vB 6) (kD (.int 6)))) ak))))) (aa (toD (aT (aa (kD (.str "go")) (aa (toD (d2 au (vB 6) (kD (.int 6)))) ak)))) ak)))))))))
  (bw (d2 au (toD (d2 aN (vB 13) (toD (bE (aa (toD (aT (aa (kD (.str "end")) (aa (vL 7) ak)))) ak))))) (toD (d2 gJ (vB 11) (kD (.int 9))))))) bV)
  (ar (sIf (tB2 (gEq false) (vB 11) (kD (.int 0))) (bw (aT (aa (kD (.str "copy")) (aa (vL 9) (aa (vL 7) ak))))) bV)
  (bw (aT (aa (kD (.str "op")) (aa (vL 9) (aa (toD (d2 au (kD (.str "+-*<=&|^+")) (toD (d2 au (vB 6) (kD (.int 4)))))) (aa (vL 7) (aa (vL 8) ak))))))))))))))))))))
noncomputable def z32:De->Option Out:=(z11 9 (toD (aT (aa (toD (d2 au (vB 5) (vB 10))) (aa (toD (d2 ck (toD (d2 eU (toD (d2 aN (vB 8) (vB 10))) (kD (.int 982451653)))) (toD (d2 qj (kD (.int 2)) (kD (.int 40)))))) (aa (toD (d2 (gEq false) (toD (d2 au (vB 4) (toD (d2 aN (kD (.int 3)) (toD (d2 ck (vB 10) (kD (.int 6)))))))) (kD (.int 1)))) ak))))))
noncomputable def y31:De->Option Out:=(z11 11 (toD (aT (aa (toD (d2 au (vB 5) (toD (d2 aN (kD (.int 8)) (vB 10))))) (aa (toD (d2 aN (kD (.int 1)) (toD (d2 au (vB 4) (toD (d2 aN (kD (.int 9)) (toD (d2 ck (vB 10) (kD (.int 2)))))))))) (aa (toD (d2 (gEq false) (toD (d2 au (vB 4) (toD (d2 gJ (kD (.int 7)) (vB 10))))) (kD (.int 1)))) ak))))))
def z54:De->Option Dt:=(toD (d2 au (vB 0) (kD (.int 0))))
def q55:De->Option Dt:=(toD (d2 au (vB 0) (kD (.int 0))))
def z31:De->Option Out:=(z11 12 (toD (am y41 (aa (vL 14) (aa (toD (d2 aN (toD (am cS (aa (vB 13) ak))) (kD (.int 1)))) (aa (toD (bA [none] (fIt (vB 9)) (av 0) bN q55)) (aa (toD (bA [none] (fIt (vB 11)) (av 0) bN z54)) (aa (vL 7) ak))))))))
noncomputable def q40:List Dt->Option T:=ce 15 ((ar (aA 3 (toT (toD (d2 ck (toD (d2 eU (toD (am q4 (aa (vL 0) (aa (kD (.int 0)) ak)))) (kD (.int 69621)))) (kD (.int 1000000007))))))
  (ar (aA 4 (toT (toD (am z12 (aa (vL 3) (aa (toD (bE (aa (kD (.int 4)) (aa (kD (.int 3)) (aa (kD (.int 4)) (aa (kD (.int 2)) (aa (kD (.int 2)) (aa (kD (.int 2)) (aa (kD (.int 2)) (aa (kD (.int 2)) (aa (kD (.int 2)) (aa (kD (.int 8)) (aa (kD (.int 8)) (aa (kD (.int 4)) ak)))))))))))))) ak))))))
  (ar (aA 5 (toT (toD (am y15 (aa (toD (am q4 (aa (vL 0) (aa (kD (.int 1)) ak)))) (aa (kD (.int 13)) ak))))))
  (ar (aA 6 (toT (toD (bE (aa (toD (d2 aN (kD (.int 1)) (toD (d2 au (vB 4) (kD (.int 0)))))) (aa (toD (d2 au (vB 4) (kD (.int 1)))) (aa (toD (d2 aN (kD (.int 2)) (toD (d2 au (vB 4) (kD (.int 2)))))) ak)))))))
  (ar (sIf (fG (e7 (vB 2)) (tB2 (gEq false) (toD (d2 au (vB 4) (kD (.int 11)))) (kD (.int 1)))) (aA 6 (toT (toD (bE (aa (kD (.int 8)) (aa (kD (.int 4)) (aa (kD (.int 12)) ak))))))) bV)
  (ar (aA 7 (toT (toD (am y15 (aa (toD (am q4 (aa (vL 0) (aa (kD (.int 2)) ak)))) (aa (toD (d2 au (vB 6) (kD (.int 2)))) ak))))))
  (ar (aA 8 (toT (toD (am q4 (aa (vL 0) (aa (kD (.int 3)) ak))))))
  (ar (aA 9 (bE ak))
  (ar (dg (dO fY (aa (toD (d2 au (vB 6) (kD (.int 0)))) ak)) (av 10) z32)
  (ar (aA 11 (bE ak))
  (ar (dg (dO fY (aa (toD (d2 au (vB 6) (kD (.int 1)))) ak)) (av 10) y31)
  (ar (aA 12 (bE ak))
  (ar (aA 13 (toT (toD (vSl (vB 0) (c9 (kD (.int 4))) (c9 (toD (d2 aN (kD (.int 4)) (vB 1))))))))
  (ar (dg (fIt (vL 13)) (av 14) z31)
  (ar (z11 12 (toD (aT (aa (kD (.str "end")) (aa (toD (am y25 (aa (toD (d2 ck (vB 3) (toD (d2 aN (toD (am cS (aa (vB 7) ak))) (kD (.int 1)))))) (aa (vL 8) (aa (vL 7) ak))))) ak)))))
  (bw (aT (aa (toD (am cy (aa (vB 9) ak))) (aa (toD (am cy (aa (vB 11) ak))) (aa (toD (am cy (aa (vB 12) ak))) ak)))))))))))))))))))))
def q103:De->Option Dt:=(toD (d2 au (vB 0) (kD (.int 0))))
def y13:List Dt->Option T:=ce 1 ((bw (bA [none] (fIt (toD (d2 au (vB 0) (kD (.int 1))))) (av 0) bN q103)))
def q35:De->Option Out:=(sIf (fG (tB2 (gEq false) (toD (d2 au (vB 4) (kD (.int 0)))) (kD (.str "end"))) (tB2 (cB true) (vB 3) (vB 2))) (bw (aT (aa (kD (.str "end")) (aa (vL 3) ak)))) bV)
def y36:List Dt->Option T:=ce 5 ((ar (aA 2 (toT (toD (am y13 (aa (vL 1) ak)))))
  (ar (dg (dO iB (aa (toD (d2 au (vB 0) (kD (.int 2)))) ak)) (fu 2 (br (av 3) (br (av 4) fq))) q35)
  (bw (toT (kD .non))))))
def z78:De->Option Out:=(ar (z11 2 (vL 3)) (aA 3 (toT (toD (d2 au (vB 0) (vB 3))))))
def z121:De->Option Bool:=(tB2 (gIs true) (vB 3) (kD .non))
def y56:List Dt->Option T:=ce 4 ((ar (aA 2 (bE ak))
  (ar (aA 3 (toT (vL 1)))
  (ar (bt z121 z78 100000)
  (bw (vLR (vB 2)))))))
def z89(G:Orc):De->Option Out:=(nM 3 (vB 4) (kD .non))
def z73(G:Orc):De->Option Out:=(sIf (tB2 (cB true) (vB 8) (vB 3)) (ar (nM 3 (vB 8) (vL 7)) (z11 5 (vL 8))) bV)
noncomputable def q71 (G:Orc):De->Option Out:=(ar (aA 7 (toT (toD (d2 au (vB 5) (vB 6)))))
  (ar (o4 (fun i j=>i+j) 6 (kD (.int 1)))
  (ar (sIf (e7 (toD (vCl G 2 (aa (vL 7) ak)))) (t4 3 (bw (am y56 (aa (vL 3) (aa (vL 7) ak))))) bV)
  (dg (fIt (toD (vCl G 1 (aa (vL 7) ak)))) (av 8) (z73 G)))))
def B8(G:Orc):De->Option Bool:=(tB2 (ix fun i j=>decide (i<j)) (vB 6) (toD (am cS (aa (vB 5) ak))))
def z97 (G:Orc):Dt->J9->J9->Hp->Option T:=nN 9 ((ar (aA 3 Ar)
  (ar (dg (fIt (vL 0)) (av 4) (z89 G))
  (ar (aA 5 (am jR (aa (vB 3) ak)))
  (ar (aA 6 (toT (kD (.int 0))))
  (ar (bt (B8 G) (q71 G) 100000)
  (bw (toT (kD .non)))))))))
def bK:De->Option Out:=(bw (vIf (tB2 (gEq false) (toD (am z59 (aa (toD (d2 au (vB 2) (vB 0))) ak))) (vB 1)) (bE ak) (d2 au (vB 3) (vB 0))))
def bT:De->Option Out:=(bw (d2 (cB false) (vB 1) (toD (am y59 (aa (toD (d2 au (vB 2) (vB 0))) ak)))))
def q73:De->Option Dt:=(toD (bE (aa (vL 1) ak)))
noncomputable def q32:List Dt->Option T:=ce 7 ((ar (aA 3 (toT (toD (d2 au (vB 0) (kD (.int 2))))))
  (ar (aA 4 (toT (toD (am dh (aa (vL 0) ak)))))
  (fun δ=>(bw (fRt [2,3,4] [2,3] ["row","box","rows","onward"] ["row","box","rows"] bK bT q73 z97)) (nO 5 6 δ)))))
def z96:De->Option Dt:=(toD (aT (aa (toD (d2 au (vB 0) (kD (.int 0)))) (aa (toD (d2 au (vB 0) (kD (.int 1)))) (aa (kD (.bl false)) ak)))))
def y18:De->Option Out:=(sIf (tB2 (cB true) (vB 7) (vB 5)) (bw (aT (aa (kD (.str "lost")) (aa (vL 7) (aa (toD (am q32 (aa (vL 0) (aa (vL 4) (aa (vL 7) ak))))) (aa (vL 6) ak)))))) bV)
def q18:De->Option Out:=(dg (fIt (toD (d2 au (vB 2) (vB 4)))) (av 7) y18)
noncomputable def q33:List Dt->Option T:=ce 8 ((ar (aA 2 (toT (toD (am z20 (aa (vL 0) ak)))))
  (ar (aA 3 (toT (toD (d2 aN (toD (bE (aa (toD (aT (aa (kD (.int 0)) (aa (toD (d2 au (vB 1) (kD (.int 0)))) (aa (kD (.bl true)) ak))))) ak))) (toD (bA [none] (fIt (toD (d2 au (vB 1) (kD (.int 1))))) (av 0) bN z96))))))
  (ar (dg (fIt (vL 3)) (fu 3 (br (av 4) (br (av 5) (br (av 6) fq)))) q18)
  (bw (toT (kD .non)))))))
def q44:De->Option Dt:=(toD (d2 (cB false) (vB 0) (vB 1)))
def q20:De->Option Bool:=(e7 (toD (am (yP fun bs=>bs.any id) (aa (toD (bA [none,some 2] (fIt (toD (d2 au (vB 1) (vB 0)))) (av 0) bN q44)) ak))))
noncomputable def y42:De->Option Out:=(ar (aA 4 (toT (toD (bA [none,some 0,some 2] (fIt (vB 2)) (av 0) q20 (vL 0)))))
  (ar (aA 3 (toT (toD (d2 (ix fun i j=>decide (i<j)) (toD (am cS (aa (vB 4) ak))) (toD (am cS (aa (vB 2) ak)))))))
  (aA 2 (toT (vL 4)))))
def q56:De->Option Bool:=(e7 (vB 3))
def y40:List Dt->Option T:=ce 5 ((ar (aA 2 (toT (vL 1)))
  (ar (aA 3 (toT (kD (.bl true))))
  (ar (bt q56 y42 100000)
  (e9 2)))))
def z51:De->Option Bool:=(tB2 (cB true) (vB 0) (vB 1))
def q25:De->Option Bool:=(tB2 (cB false) (vB 0) (vB 1))
def q39:De->Option Out:=(ar (z11 5 (vL 6)) (aA 6 (toT (toD (d2 au (toD (bA [none,some 4] (fIt (toD (d2 au (vB 3) (vB 6)))) (av 0) q25 (vL 0))) (kD (.int 0)))))))
def z50:De->Option Bool:=(tB2 (cB true) (vB 6) (vB 5))
noncomputable def q31:List Dt->Option T:=ce 7 ((ar (aA 2 (toT (toD (am y13 (aa (vL 1) ak)))))
  (ar (aA 3 (toT (toD (am dh (aa (vL 0) ak)))))
  (ar (aA 4 (toT (toD (am y40 (aa (vL 3) (aa (toD (bA [none,some 2] (dO fY (aa (toD (am cS (aa (vB 3) ak))) ak)) (av 0) z51 (vL 0))) ak))))))
  (ar (sIf (tB2 (gEq false) (toD (am cS (aa (vB 4) ak))) (kD (.int 0))) (bw (toT (kD .non))) bV)
  (ar (aA 5 (bE ak))
  (ar (aA 6 (toT (toD (d2 au (vB 4) (kD (.int 0))))))
  (ar (bt z50 q39 100000)
  (bw (aT (aa (kD (.str "ring")) (aa (toD (vSl (vB 5) (c9 (toD (j8 dy (vB 5) (aa (vB 6) ak)))) dY)) ak))))))))))))
def z98:De->Option Bool:=(tB2 (cB true) (vB 0) (vB 1))
def y65:De->Option Dt:=(toD (bA [none,some 1] (fIt (vB 0)) (av 0) z98 (vL 0)))
def q26:List Dt->Option T:=ce 3 ((ar (aA 2 (toT (toD (am y13 (aa (vL 1) ak))))) (bw (bA [none,some 2] (fIt (toD (am dh (aa (vL 0) ak)))) (av 0) bN y65))))
noncomputable def y34:List Dt->Option T:=ce 3 ((ar (sIf (fG (tB2 (gEq false) (vB 0) (kD fA)) (fG (tB2 (cB false) (toD (d2 au (vB 1) (kD (.int 0)))) (toD (aT (aa (kD (.str "load")) (aa (kD (.str "take")) ak))))) (tB2 (gEq false) (toD (d2 au (vB 1) (kD (.int 2)))) (vB 2)))) (bw (toT (kD lD))) bV)
  (ar (sIf (fG (tB2 (gEq false) (vB 0) (kD fA)) (fG (tB2 (gEq false) (toD (d2 au (vB 1) (kD (.int 0)))) (kD (.str "store"))) (tB2 (gEq false) (toD (d2 au (vB 1) (kD (.int 1)))) (vB 2)))) (bw (toT (kD nZ))) bV)
  (ar (sIf (fG (tB2 (gEq false) (vB 0) (kD lD)) (fG (tB2 (cB false) (toD (d2 au (vB 1) (kD (.int 0)))) (toD (aT (aa (kD (.str "store")) (aa (kD (.str "lay")) ak))))) (tB2 (gEq false) (toD (d2 au (vB 1) (kD (.int 1)))) (vB 2)))) (bw (toT (kD jn))) bV)
  (e9 0)))))
def q131:De->Option Out:=(ar (z11 2 (vL 3)) (aA 3 (toT (toD (d2 ux (vB 0) (vB 3))))))
def q132:De->Option Bool:=(tB2 (gIs true) (vB 3) (kD .non))
def q91:List Dt->Option T:=ce 4 ((ar (aA 2 (bE ak))
  (ar (aA 3 (toT (vL 1)))
  (ar (bt q132 q131 100000)
  (bw (vLR (vB 2)))))))
def q133(G:Orc):De->Option Out:=(ly 3 (vB 4) (kD .non))
def q137(G:Orc):De->Option Out:=(sIf (wS (vB 8) (vB 3)) (ar (ly 3 (vB 8) (vL 7)) (z11 5 (vL 8))) bV)
noncomputable def z135 (G:Orc):De->Option Out:=(ar (aA 7 (toT (toD (d2 au (vB 5) (vB 6)))))
  (ar (o4 (fun i j=>i+j) 6 (kD (.int 1)))
  (ar (sIf (e7 (toD (vCl G 2 (aa (vL 7) ak)))) (t4 3 (bw (am q91 (aa (vL 3) (aa (vL 7) ak))))) bV)
  (dg (fIt (toD (vCl G 1 (aa (vL 7) ak)))) (av 8) (q137 G)))))
def z137(G:Orc):De->Option Bool:=(tB2 (ix fun i j=>decide (i<j)) (vB 6) (toD (am cS (aa (vB 5) ak))))
noncomputable def q80 (G:Orc):Dt->J9->J9->Hp->Option T:=nN 9 ((ar (aA 3 qI)
  (ar (dg (fIt (vL 0)) (av 4) (q133 G))
  (ar (aA 5 (am jR (aa (vB 3) ak)))
  (ar (aA 6 (toT (kD (.int 0))))
  (ar (bt (z137 G) (z135 G) 100000)
  (bw (toT (kD .non)))))))))
def y77:De->Option Dt:=(toD (aT (aa (vL 0) (aa (vL 1) ak))))
noncomputable def cI:De->Option Out:=(ar (aA 1 (toT (toD (am y34 (aa (toD (d2 au (vB 0) (kD (.int 1)))) (aa (toD (d2 au (vB 3) (toD (d2 au (vB 0) (kD (.int 0)))))) (aa (vL 2) ak))))))) (bw (vIf (tB2 (gEq false) (vB 1) (kD nZ)) (bE ak) (bA [none,some 1] (fIt (toD (d2 au (vB 4) (toD (d2 au (vB 0) (kD (.int 0))))))) (av 0) bN y77))))
def cJ:De->Option Out:=(bw (d2 (gEq false) (toD (am y34 (aa (toD (d2 au (vB 0) (kD (.int 1)))) (aa (toD (d2 au (vB 2) (toD (d2 au (vB 0) (kD (.int 0)))))) (aa (vL 1) ak))))) (kD jn)))
def q119:De->Option Dt:=(toD (aT (aa (vL 0) (aa (kD fA) ak))))
def z81:De->Option Dt:=(toD (bA [none] (fIt (toD (d2 aN (toD (bE (aa (kD (.int 0)) ak))) (toD (am y13 (aa (vL 1) ak)))))) (av 0) bN q119))
def y123:De->Option Dt:=(toD (d2 au (vB 0) (kD (.int 0))))
noncomputable def z56:List Dt->Option T:=ce 8 ((ar (sIf (tB2 (cB true) (vB 2) (toD (am q15 (aa (vL 0) ak)))) (bw (toT (kD .non))) bV)
  (ar (aA 3 (toT (toD (d2 au (vB 0) (kD (.int 2))))))
  (ar (aA 4 (toT (toD (am q26 (aa (vL 0) (aa (vL 1) ak))))))
  (fun δ=>(ar (aA 7 (fRt [2,3,4] [2,3] ["place","mark","name","rows","inner"] ["place","name","rows"] cI cJ z81 q80))
  (bw (vIf (tB2 (gIs false) (vB 7) (kD .non)) (toT (kD .non)) (bA [none] (fIt (vB 7)) (av 0) bN y123)))) (nO 5 6 δ))))))
def z16:De->Option Out:=(ar (aA 3 (toT (toD (am z56 (aa (vL 0) (aa (vL 1) (aa (vL 2) ak))))))) (sIf (tB2 (gIs true) (vB 3) (kD .non)) (bw (aT (aa (kD (.str "spoil")) (aa (vL 2) (aa (vL 3) ak))))) bV))
def q28:List Dt->Option T:=ce 4 ((ar (dg (fIt (toD (am q15 (aa (vL 0) ak)))) (av 2) z16) (bw (toT (kD .non)))))
noncomputable def y94:List Dt->Option T:=ce 3 ((ar (aA 2 (toT (toD (am y36 (aa (vL 0) (aa (vL 1) ak))))))
  (ar (sIf (tB2 (gIs false) (vB 2) (kD .non)) (aA 2 (toT (toD (am q31 (aa (vL 0) (aa (vL 1) ak)))))) bV)
  (ar (sIf (tB2 (gIs false) (vB 2) (kD .non)) (aA 2 (toT (toD (am q28 (aa (vL 0) (aa (vL 1) ak)))))) bV)
  (ar (sIf (tB2 (gIs false) (vB 2) (kD .non)) (aA 2 (toT (toD (am q33 (aa (vL 0) (aa (vL 1) ak)))))) bV)
  (e9 2))))))
def q17:List Dt->Option T:=ce 2 ((bw (d2 (gIs false) (toD (am y94 (aa (vL 0) (aa (vL 1) ak)))) (kD .non))))
def q70:De->Option Dt:=(toD (d2 au (vB 0) (kD (.int 0))))
def z69:De->Option Bool:=(tB2 (gEq true) (toD (d2 au (vB 0) (kD (.int 0)))) (vB 1))
noncomputable def y49:De->Option Out:=(ar (aA 3 (toT (toD (aT (aa (toD (d2 au (vB 1) (kD (.int 0)))) (aa (toD (am cy (aa (toD (bA [none,some 2] (fIt (toD (d2 au (vB 1) (kD (.int 1))))) (av 0) z69 (vL 0))) ak))) ak)))))) (sIf (e7 (toD (am q17 (aa (vL 0) (aa (vL 3) ak))))) (aA 1 (toT (vL 3))) bV))
def y39:List Dt->Option T:=ce 4 ((ar (dg (fIt (toD (bA [none] (fIt (toD (d2 au (vB 1) (kD (.int 1))))) (av 0) bN q70))) (av 2) y49) (e9 1)))
noncomputable def y46:De->Option Out:=(ar (aA 5 (toT (toD (d2 ck (toD (d2 eU (toD (d2 aN (vB 0) (toD (d2 eU (vB 4) (kD (.int 7919)))))) (kD (.int 48271)))) (kD (.int 1000000007)))))) (z11 3 (toD (d2 au (toD (bE (aa (toD (aT (aa (kD (.str "copy")) (aa (toD (d2 au (vB 2) (toD (lb (kD (.int 1)))))) (aa (vL 5) ak))))) (aa (toD (aT (aa (kD (.str "say")) (aa (toD (d2 fg (vB 5) (kD (.int 2)))) ak)))) (aa (toD (aT (aa (kD (.str "hear")) (aa (toD (d2 au (vB 2) (toD (lb (kD (.int 1)))))) ak)))) ak))))) (toD (d2 ck (vB 5) (kD (.int 3))))))))
def y45:List Dt->Option T:=ce 6 ((ar (aA 3 (bE ak))
  (ar (dg (dO fY (aa (vL 1) ak)) (av 4) y46)
  (e9 3))))
def z13:De->Option Dt:=(toD (am y45 (aa (toD (d2 aN (vB 2) (toD (d2 eU (kD (.int 31)) (vB 0))))) (aa (toD (d2 au (vB 3) (vB 0))) (aa (vL 1) ak)))))
noncomputable def z22:List Dt->Option T:=ce 16 ((ar (aA 4 (toT (toD (d2 ck (toD (d2 eU (vB 0) (kD (.int 69621)))) (kD (.int 1000000007))))))
  (ar (aA 5 (toT (toD (am z12 (aa (vL 4) (aa (toD (bE (aa (kD (.int 2)) (aa (kD (.int 2)) (aa (kD (.int 2)) (aa (kD (.int 2)) (aa (kD (.int 2)) (aa (kD (.int 5)) (aa (kD (.int 5)) (aa (kD (.int 5)) (aa (kD (.int 2)) ak))))))))))) ak))))))
  (ar (aA 6 (toT (toD (bA [none,some 2,some 4,some 5] (dO fY (aa (kD (.int 4)) ak)) (av 0) bN z13))))
  (ar (vM (toD (d2 au (toD (d2 au (vB 1) (kD (.int 0)))) (kD (.int 0)))) (fu 3 (br (av 7) (br (av 8) (br (av 9) fq)))))
  (ar (aA 10 (toT (toD (aT (aa (toD (aT (aa (vL 7) (aa (vL 8) (aa (toD (d2 (gEq false) (toD (d2 ck (vB 4) (kD (.int 8)))) (kD (.int 1)))) ak))))) ak)))))
  (ar (aA 11 (toT (toD (d2 aN (toD (d2 aN (toD (bE (aa (toD (aT (aa (kD (.str "store")) (aa (vL 7) (aa (toD (d2 au (vB 5) (kD (.int 6)))) ak))))) ak))) (toD (d2 au (vB 6) (kD (.int 0)))))) (toD (bE (aa (toD (aT (aa (kD (.str "end")) (aa (toD (d2 au (vB 5) (kD (.int 7)))) ak)))) ak)))))))
  (ar (aA 12 (toT (toD (bE ak))))
  (ar (sIf (tB2 (gEq false) (toD (d2 au (vB 5) (kD (.int 8)))) (kD (.int 1))) (ar (aA 10 (toT (toD (d2 mI (vB 10) (toD (aT (aa (toD (aT (aa (vL 3) (aa (vL 8) (aa (kD (.bl false)) ak))))) ak)))))))
  (ar (aA 11 (toT (toD (d2 aN (toD (bE (aa (toD (aT (aa (kD (.str "store")) (aa (vL 3) (aa (toD (d2 au (vB 5) (kD (.int 6)))) ak))))) (aa (toD (aT (aa (kD (.str "end")) (aa (toD (d2 au (vB 5) (kD (.int 7)))) ak)))) (aa (toD (aT (aa (kD (.str "store")) (aa (vL 7) (aa (toD (d2 au (vB 5) (kD (.int 5)))) ak))))) ak))))) (toD (d2 au (vB 6) (kD (.int 0))))))))
  (ar (aA 11 (toT (toD (d2 aN (vB 11) (toD (bE (aa (toD (aT (aa (kD (.str "load")) (aa (toD (d2 au (vB 2) (toD (lb (kD (.int 1)))))) (aa (vL 3) ak))))) (aa (toD (aT (aa (kD (.str "go")) (aa (kD (.int 1)) ak)))) ak))))))))
  (aA 12 (toT (toD (bE (aa (toD (aT (aa (kD (.str "store")) (aa (vL 3) (aa (toD (d2 au (vB 5) (kD (.int 7)))) ak))))) ak)))))))) bV)
  (ar (aA 13 (toT (toD (d2 aN (kD (.int 1)) (toD (am cS (aa (vB 11) ak)))))))
  (ar (aA 14 (toT (toD (d2 aN (toD (d2 aN (toD (d2 aN (vB 13) (toD (am cS (aa (vB 12) ak))))) (kD (.int 2)))) (toD (am cS (aa (toD (d2 au (vB 6) (kD (.int 1)))) ak)))))))
  (ar (aA 15 (toT (toD (aT (aa (kD (.str "if")) (aa (toD (d2 au (toD (bE (aa (toD (d2 au (vB 2) (kD (.int 0)))) (aa (toD (d2 au (vB 5) (kD (.int 5)))) ak)))) (toD (d2 au (vB 5) (kD (.int 4)))))) (aa (toD (d2 aN (toD (d2 aN (vB 14) (kD (.int 2)))) (toD (am cS (aa (toD (d2 au (vB 6) (kD (.int 2)))) ak))))) ak)))))))
  (ar (aA 11 (toT (toD (d2 aN (toD (d2 aN (toD (d2 aN (toD (d2 aN (toD (bE (aa (toD (aT (aa (kD (.str "go")) (aa (vL 13) ak)))) ak))) (vB 11))) (vB 12))) (toD (bE (aa (vL 15) (aa (toD (aT (aa (kD (.str "store")) (aa (vL 7) (aa (toD (d2 au (vB 2) (kD (.int 0)))) ak))))) ak)))))) (toD (d2 au (vB 6) (kD (.int 1))))))))
  (ar (aA 11 (toT (toD (d2 aN (toD (d2 aN (toD (d2 aN (vB 11) (toD (bE (aa (toD (aT (aa (kD (.str "load")) (aa (toD (d2 au (vB 2) (toD (lb (kD (.int 1)))))) (aa (vL 7) ak))))) ak))))) (toD (d2 au (vB 6) (kD (.int 2)))))) (toD (bE (aa (toD (aT (aa (kD (.str "go")) (aa (toD (d2 aN (kD (.int 1)) (toD (d2 eU (kD (.int 2)) (toD (d2 au (vB 5) (kD (.int 8)))))))) ak)))) ak)))))))
  (ar (aA 11 (toT (toD (d2 aN (toD (d2 aN (toD (d2 aN (vB 11) (toD (bE (aa (toD (aT (aa (kD (.str "store")) (aa (vL 7) (aa (toD (d2 au (vB 5) (kD (.int 5)))) ak))))) ak))))) (toD (d2 au (vB 6) (kD (.int 3)))))) (toD (bE (aa (toD (aT (aa (kD (.str "go")) (aa (vL 14) ak)))) ak)))))))
  (bw (aT (aa (toD (pz (toD (d2 lB (vB 10) (toD (pz (toD (d2 au (vB 1) (kD (.int 0)))) (c9 (kD (.int 1))) dY)))) dY (c9 (kD (.int 8))))) (aa (toD (d2 au (vB 1) (kD (.int 1)))) (aa (toD (am cy (aa (vB 11) ak))) ak))))))))))))))))))))
def q116:De->Option Bool:=(tB2 (gEq true) (toD (d2 au (vB 0) (kD (.int 0)))) (vB 1))
def y57:List Dt->Option T:=ce 2 ((bw (aT (aa (toD (d2 au (vB 0) (kD (.int 0)))) (aa (toD (am cy (aa (toD (bA [none,some 1] (fIt (toD (d2 au (vB 0) (kD (.int 1))))) (av 0) q116 (vL 0))) ak))) ak)))))
def q43:De->Option Out:=(ar (aA 4 (toT (toD (am y57 (aa (vL 2) (aa (vL 3) ak)))))) (sIf (e7 (toD (am q17 (aa (vL 0) (aa (vL 4) ak))))) (aA 2 (toT (vL 4))) bV))
def q30:List Dt->Option T:=ce 5 ((ar (aA 2 (toT (vL 1)))
  (ar (dg (fIt (toD (am y13 (aa (vL 1) ak)))) (av 3) q43)
  (e9 2))))
def z93:De->Option Out:=(ar (aA 1 (toT (vL 2))) (aA 2 (toT (toD (am q30 (aa (vL 0) (aa (vL 1) ak)))))))
def q94:De->Option Bool:=(tB2 (gEq true) (vB 2) (vB 1))
def y47:List Dt->Option T:=ce 3 ((ar (sIf (t0 (e7 (toD (am q17 (aa (vL 0) (aa (vL 1) ak)))))) (e9 1) bV)
  (ar (aA 2 (toT (toD (am q30 (aa (vL 0) (aa (vL 1) ak))))))
  (ar (bt q94 z93 100000)
  (e9 2)))))
def q58:De->Option Out:=(ar (aA 8 (toT (toD (am y39 (aa (vL 1) (aa (vL 6) ak))))))
  (ar (sIf (tB2 (gEq false) (vB 8) (vB 6)) sBrk bV)
  (aA 6 (toT (vL 8)))))
noncomputable def su:List Dt->Option T:=ce 9 ((ar (aA 1 (toT (toD (am q40 (aa (vL 0) (aa (kD (.int 8)) (aa (kD (.bl false)) ak)))))))
  (ar (aA 2 (toT (toD (am y15 (aa (toD (am q4 (aa (vL 0) (aa (kD (.int 2)) ak)))) (aa (kD (.int 5)) ak))))))
  (ar (aA 3 (toT (toD (am z38 (aa (vL 1) (aa (toD (am q4 (aa (vL 0) (aa (kD (.int 3)) ak)))) (aa (toD (d2 aN (toD (vSl (vB 2) (c9 (kD (.int 4))) dY)) (toD (vSl (vB 2) dY (c9 (kD (.int 1))))))) ak)))))))
  (ar (aA 4 (toT (toD (d2 ck (toD (d2 eU (toD (am q4 (aa (vL 0) (aa (kD (.int 3)) ak)))) (kD (.int 48271)))) (kD (.int 1000000007))))))
  (ar (aA 5 (toT (toD (am y15 (aa (toD (am q4 (aa (vL 0) (aa (kD (.int 1)) ak)))) (aa (kD (.int 13)) ak))))))
  (ar (sIf (tB2 (gEq false) (toD (d2 ck (vB 4) (kD (.int 5)))) (kD (.int 1))) (ar (aA 1 (toT (toD (am z22 (aa (toD (d2 fg (vB 4) (kD (.int 5)))) (aa (vL 1) (aa (toD (vSl (vB 2) dY (c9 (kD (.int 2))))) (aa (toD (d2 au (vB 5) (kD (.int 12)))) ak))))))))
  (aA 3 (toT (toD (am z23 (aa (vL 1) ak)))))) bV)
  (ar (aA 6 (toT (vL 3)))
  (ar (sIf (e7 (toD (am q17 (aa (vL 1) (aa (vL 3) ak))))) (dg (dO fY (aa (toD (d2 aN (toD (am cS (aa (toD (d2 au (vB 3) (kD (.int 1)))) ak))) (kD (.int 1)))) ak)) (av 7) q58) bV)
  (bw (d2 (gEq false) (toD (am y47 (aa (vL 1) (aa (vL 3) ak)))) (vB 6))))))))))))
end
structure Txt(P:qc6)(w:Ja)(K:xA9)(mg:Str->Option Value):Prop where
 n_any:mg "any"=none
 n_enumerate:mg "enumerate"=none
 n_isinstance:mg "isinstance"=none
 n_len:mg "len"=none
 n_list:mg "list"=none
 n_range:mg "range"=none
 n_reversed:mg "reversed"=none
 n_set:mg "set"=none
 n_sorted:mg "sorted"=none
 n_str:mg "str"=none
 n_tuple:mg "tuple"=none
 g_A:yS P w K mg "ATOM_PLACES" k_A fQ
 g_D:j7 K mg "FRESH" fA
 g_F:j7 K mg "SAFE" nZ
 g_E:j7 K mg "SEEN" lD
 g_B:j7 K mg "SETTING" m6
 g_C:j7 K mg "SPOILT" jn
 is:qG K=true
 k_str:qm K "str"
variable{X:Cx}{sc:Jd}{N:List Str}{x:Str}
theorem dsN{e:Jc}{f:De->Option T}{i:Nat}{pos pos':Pos}(h:cH sc N=true)(O:N.Nodup)(Y:DO X e f)(e0:N[i]?=some x:=by rfl)(e1:cW X sc:=by rfl)(W:X.N=N:=by rfl)(L:X.fn x=true∨X.env.scope.names.lookup x=some .local:=by exact .inl rfl)(q:qn7 e (some (.Name x pos')) pos.line X.env=pure false:=by rfl):DS1 X (.Assign [.Name x pos'] e pos) (aA i f):=vK (nsN h i e0) (nsL h i e0) O Y e1 W L q
theorem doC{p pos:Pos}{iter elt:Jc}{ifs:List Jc}{scope:Jd}{src:List (Option Nat)}{fi:De->Option (List Dt)}{ft:De->Option Bool}{fe:De->Option Dt}(M:List Str)(h:(vw X.N X.env.scope scope M src&&de (kX scope X.env.scope) M 0 x&&loOk (kX scope X.env.scope) x&&decide (src[0]?=some none))=true)(hi:DIB X (.Name x p) iter fi)(Y:∀C s H ex,DTs (cxC X M scope C s H ex) ifs ft)(L:∀C s H ex,DL (cxC X M scope C s H ex) elt fe)(O:X.calm=true:=by rfl)(q:∀x,qj0 iter X.env x=pure x:=by intro _;rfl):DO X (.ListComp elt [⟨.Name x p,iter,ifs,0⟩] scope pos) (bA src fi (av 0) ft fe):=by simp only[qb2]at h;exact kz (ts:=[0]) (CmpScope.of h.1.1.1) O hi (fun W C s H ex=>aP (dN h.1.1.2 h.1.2 W (scC rfl))) Y L (by simp only[qk1,zi4,qn5];exact h.2) q
theorem fnS{P:List Str}(h:N.Nodup/\N.take P.length=P/\(∀x∈P,sc.names.lookup x=some .local∨sc.names.lookup x=some .cell)/\∀y∈sc.names,y.2≠.free)(a:sc.kind=.function:=by rfl)(b:sc.isCoroutine=false:=by rfl)(c:sc.isGenerator=false:=by rfl):FnScope N P sc:=⟨a,b,c,h.1,h.2.1,h.2.2.1,h.2.2.2⟩
variable{c Pt:J9}
section
variable{P:qc6}{w:Ja}{K:xA9}{mg:Str->Option Value}{base:Heap}
abbrev y38:Jb:=top 40
theorem q120:FnScope ["_law_script","_law_k"] ["_law_script","_law_k"] (ac y38):=fnS (by decide +kernel)
def dE:cH (ac y38) ["_law_script","_law_k"]=true:=by decide +kernel
def y106:aD (ac y38) "len"=true:=by decide +kernel
theorem y120(T:Txt P w K mg)(D:DefF K mg "_law_cell_at" y38 ["_law_script","_law_k"]):OkF P w K mg base "_law_cell_at" 1 ["_law_script","_law_k"] (spD K 2 q4):=
 bZ D q120 rfl fun f cdv A outer s H E q=>(ah (bL (bf md iz (af (pvN 1 dE)) (DO.toB (bz y106 bB dm T.n_len cD (aG (af (pvN 0 dE)) aL))) (aR _)) (aw (aM (ap q (af (pvN 0 dE)) (af (pvN 1 dE))))) bp)
     (aw (aM (DL.toO ag))))
abbrev q96:Jb:=top 10
def z143:FnScope ["row"] ["row"] (ac q96):=fnS (by decide +kernel)
def pC:cH (ac q96) ["row"]=true:=by decide +kernel
def y116:aD (ac q96) "SETTING"=true:=by decide +kernel
theorem y143(T:Txt P w K mg)(D:DefF K mg "gives" q96 ["row"]):OkF P w K mg base "gives" 1 ["row"] (spD K 1 z59):=bZ D z143 rfl fun f cdv A outer s H E q=>(aw (aM (rL (iA q (DO.toB (ap q (af (pvN 0 pC)) (DL.toB ag))) (DL.toB (eO y116 T.g_B))) (ap q (af (pvN 0 pC)) (DL.toB ag)) (DL.toO cX))))
abbrev y96:Jb:=top 8
def y136:FnScope ["row","bounds"] ["row"] (ac y96):=fnS (by decide +kernel)
def gd:cH (ac y96) ["row","bounds"]=true:=by decide +kernel
def y60:aD (ac y96) "ATOM_PLACES"=true:=by decide +kernel
theorem y141(T:Txt P w K mg)(D:DefF K mg "atoms" y96 ["row"]):OkF P w K mg base "atoms" 1 ["row"] (spD K 1 zm):=
 bZ D y136 rfl fun f cdv A outer s H E q=>(ah (bL (BY y60 T.g_A (DO.toB (ap q (af (pvN 0 gd)) (DL.toB ag)))) (aw (aM (aI aj))) bp)
     (ah (dsN gd y136.nd (DL.toO (DO.toL (DX y60 T.g_A (DO.toB (ap q (af (pvN 0 gd)) (DL.toB ag)))))))
     (aw (aM (eV (af (pvN 0 gd)) (dB (DO.toB (ap q (af (pvN 1 gd)) (DL.toB ag)))) (dB (DO.toB (ap q (af (pvN 1 gd)) (DL.toB ag)))))))))
abbrev q67:Jb:=top 9
def z116:FnScope ["row","boxes","atom"] ["row"] (ac q67):=fnS (by decide +kernel)
def dz:cH (ac q67) ["row","boxes","atom"]=true:=by decide +kernel
def z125:aD (ac q67) "atoms"=true:=by decide +kernel
def y105:aD (ac q67) "isinstance"=true:=by decide +kernel
def q136:aD (ac q67) "str"=true:=by decide +kernel
theorem y142(T:Txt P w K mg)(D:DefF K mg "reads" q67 ["row"])(q:OkF P w K mg base "atoms" 1 ["row"] (spD K 1 (zm))):OkF P w K mg base "reads" 2 ["row"] (spD K 1 y59):=
 bZ D z116 rfl fun f cdv A outer s H E L=>(ah (dsN dz z116.nd (bh aj))
     (ah (cE qb8 rfl (ej (DO.toL (ax z125 q (L.mono (by decide)) (ab (al (pvN 0 dz)) aj)))) (aP (aU (nsN dz 2) (nsL dz 2) z116.nd)) (aw (bL (DW.t (e8 (c7 (DO.toB (t8 y105 q136 T.n_isinstance T.n_str BJ T.k_str (af (pvN 2 dz)))) (fun _=>rfl)) (fm (eX L (af (pvN 2 dz)) (af (pvN 1 dz)))))) (aw (bX (pvN 1 dz) (al (pvN 2 dz)))) bp)))
     (aw (dj (pvN 1 dz)))))
abbrev q21:Jb:=top 11
theorem z62:FnScope ["row","behind","boxes","later"] ["row","behind"] (ac q21):=fnS (by decide +kernel)
def bQ:cH (ac q21) ["row","behind","boxes","later"]=true:=by decide +kernel
def z99:aD (ac q21) "reads"=true:=by decide +kernel
def q92:aD (ac q21) "sorted"=true:=by decide +kernel
def q106:aD (ac q21) "set"=true:=by decide +kernel
theorem y119(T:Txt P w K mg)(D:DefF K mg "needed_ahead" q21 ["row","behind"])(O:OkF P w K mg base "gives" 1 ["row"] (spD K 1 (z59)))(L:OkF P w K mg base "reads" 2 ["row"] (spD K 1 (y59))):OkF P w K mg base "needed_ahead" 3 ["row","behind"] (spD K 2 z24):=
 bZ D z62 rfl fun f cdv A outer s H E q=>(ah (dsN bQ z62.nd (ax z99 L (q.mono (by decide)) (ab (al (pvN 0 bQ)) aj)))
     (ah (cE qb8 rfl (ej (al (pvN 1 bQ))) (aP (aU (nsN bQ 3) (nsL bQ 3) z62.nd)) (aw (mV (pvN 2 bQ) (doC ["box","row"] (by kernel_rfl) (bR (af (pvN 3 bQ))) (fun _ _ _ _=>fw (bf (k8 q) vR (af (pvX (by kernel_rfl))) (DO.toB (ax (by decide +kernel) O (q.mono (by decide)) (ab (al (pvX (by kernel_rfl))) aj) (e1:=(scC (outer:=ac q21) rfl)))) (aR _))) (fun _ _ _ _=>(al (pvX (by kernel_rfl))))))))
     (aw (aM (iM q92 q106 rfl T.n_sorted T.n_set (aG (af (pvN 2 bQ)) aL))))))
abbrev y90:Jb:=top 1
def y138:FnScope ["number","row"] ["number","row"] (ac y90):=fnS (by decide +kernel)
def dG:cH (ac y90) ["number","row"]=true:=by decide +kernel
theorem z140(T:Txt P w K mg)(D:DefF K mg "ways_of" y90 ["number","row"]):OkF P w K mg base "ways_of" 1 ["number","row"] (spD K 2 y89):=
 bZ D y138 rfl fun f cdv A outer s H E q=>(ah (bL (bf (bW q) ev (DO.toB (ap q (af (pvN 1 dG)) (DL.toB ag))) (DL.toB aS) (aR _)) (aw (aM (aI (ab (DO.toL (ap q (af (pvN 1 dG)) (DL.toB ag))) aj)))) bp)
     (ah (bL (bf (bW q) ev (DO.toB (ap q (af (pvN 1 dG)) (DL.toB ag))) (DL.toB aS) (aR _)) (aw (aM (aI (ab (DO.toL (ap q (af (pvN 1 dG)) (DL.toB ag))) (ab (DO.toL (ay aJ bv (af (pvN 0 dG)) (DL.toB ag))) aj))))) bp)
     (ah (bL (bf (bW q) ev (DO.toB (ap q (af (pvN 1 dG)) (DL.toB ag))) (DL.toB aS) (aR _)) (aw (aM (aI aj))) bp)
     (aw (aM (aI (ab (DO.toL (ay aJ bv (af (pvN 0 dG)) (DL.toB ag))) aj)))))))
abbrev hV:Jb:=top 2
def q145:FnScope ["program"] ["program"] (ac hV):=fnS (by decide +kernel)
def zn:cH (ac hV) ["program"]=true:=by decide +kernel
def y114:aD (ac hV) "enumerate"=true:=by decide +kernel
theorem z145(T:Txt P w K mg)(D:DefF K mg "ways" hV ["program"])(q:OkF P w K mg base "ways_of" 1 ["number","row"] (spD K 2 (y89))):OkF P w K mg base "ways" 2 ["program"] (spD K 1 dh):=bZ D q145 rfl fun f cdv A outer s H E L=>(aw (aM (kz (M:=["number","row"]) (src:=[none,none]) (ts:=[0,1]) (CmpScope.of (by kernel_rfl)) rfl (DIF.toB (fz y114 T.n_enumerate (ab (DO.toL (ap L (af (pvN 0 zn)) (DL.toB ag))) aj))) (fun O _ _ _ _=>(iI rfl (cj (aP (dN (N:=["number","row"]) (i:=0) (by decide +kernel) (by decide +kernel) O (scC (outer:=ac hV) (by exact rfl)))) (cj (aP (dN (N:=["number","row"]) (i:=1) (by decide +kernel) (by decide +kernel) O (scC (outer:=ac hV) (by exact rfl)))) gu)))) (fun _ _ _ _=>cT) (fun _ _ _ _=>(DO.toL (ax (by decide +kernel) q (L.mono (by decide)) (ab (al (pvX (by kernel_rfl))) (ab (al (pvX (by kernel_rfl))) aj)) (e1:=(scC (outer:=ac hV) rfl))))) (by decide +kernel))))
abbrev z47:Jb:=top 12
theorem z35:FnScope ["program","rows","onward","found","changed","number","boxes"] ["program"] (ac z47):=fnS (by decide +kernel)
theorem aX:cH (ac z47) ["program","rows","onward","found","changed","number","boxes"]=true:=by decide +kernel
def z128:aD (ac z47) "ways"=true:=by decide +kernel
def z132:aD (ac z47) "len"=true:=by decide +kernel
def z123:aD (ac z47) "range"=true:=by decide +kernel
def y93:aD (ac z47) "needed_ahead"=true:=by decide +kernel
theorem z141(T:Txt P w K mg)(D:DefF K mg "needed" z47 ["program"])(O:OkF P w K mg base "needed_ahead" 3 ["row","behind"] (spD K 2 (z24)))(L:OkF P w K mg base "ways" 2 ["program"] (spD K 1 (dh))):OkF P w K mg base "needed" 4 ["program"] (spD K 1 z20):=
 bZ D z35 rfl fun f cdv A outer s H E q=>(ah (dsN aX z35.nd (DL.toO (DO.toL (ap q (af (pvN 0 aX)) (DL.toB ag)))))
     (ah (dsN aX z35.nd (DL.toO (DO.toL (ax z128 L (q.mono (by decide)) (ab (al (pvN 0 aX)) aj)))))
     (ah (dsN aX z35.nd (doC ["row"] (by kernel_rfl) (bR (af (pvN 1 aX))) (fun _ _ _ _=>cT) (fun _ _ _ _=>(DO.toL (bh aj)))))
     (ah (dsN aX z35.nd (DL.toO j4))
     (ah (eT 100000 qb8 (c7 (af (pvN 4 aX)) (fun _=>rfl)) (ah (dsN aX z35.nd (DL.toO j4))
     (aw (cE qb8 rfl (uj z123 T.n_range (ab (DO.toL (ay jA mB (DO.toB (bz z132 bB dm T.n_len cD (aG (af (pvN 1 aX)) aL))) (DL.toB ag))) (ab (DO.toL (jJ (DL.toB ag))) (ab (DO.toL (jJ (DL.toB ag))) aj)))) (aP (aU (nsN aX 5) (nsL aX 5) z35.nd)) (ah (dsN aX z35.nd (DL.toO (DO.toL (ax y93 O (q.mono (by decide)) (ab (DO.toL (ap q (af (pvN 1 aX)) (af (pvN 5 aX)))) (ab (DO.toL (doC ["way","found"] (by kernel_rfl) (bR (DO.toB (ap q (af (pvN 2 aX)) (af (pvN 5 aX))))) (fun _ _ _ _=>cT) (fun _ _ _ _=>(DO.toL (ap q (af (pvX (by kernel_rfl))) (af (pvX (by kernel_rfl)))))))) aj))))))
     (aw (bL (bf (k8 q) vR (af (pvN 6 aX)) (DO.toB (ap q (af (pvN 3 aX)) (af (pvN 5 aX)))) (aR _)) (ah (qp q (pvN 3 aX) (af (pvN 5 aX)) (al (pvN 6 aX)))
     (aw (dsN aX z35.nd (DL.toO j4)))) bp)))))))
     (aw (dj (pvN 3 aX))))))))
abbrev z53:Jb:=top 18
def y124:FnScope ["program"] ["program"] (ac z53):=fnS (by decide +kernel)
def hW:cH (ac z53) ["program"]=true:=by decide +kernel
theorem y126(T:Txt P w K mg)(D:DefF K mg "plain_names" z53 ["program"]):OkF P w K mg base "plain_names" 1 ["program"] (spD K 1 q15):=bZ D y124 rfl fun f cdv A outer s H E q=>(aw (aM (doC ["head"] (by kernel_rfl) (bR (DO.toB (ay sq wW (DO.toB (ap q (af (pvN 0 hW)) (DL.toB ag))) (DO.toB (ap q (af (pvN 0 hW)) (DL.toB ag)))))) (fun _ _ _ _=>fw (vG (c7 (DO.toB (ap q (af (pvX (by kernel_rfl))) (DL.toB ag))) (fun _=>rfl)))) (fun _ _ _ _=>(DO.toL (ap q (af (pvX (by kernel_rfl))) (DL.toB ag)))))))
abbrev y29:Jb:=top 34
theorem z36:FnScope ["program","names","found","number","row"] ["program"] (ac y29):=fnS (by decide +kernel)
def aO:cH (ac y29) ["program","names","found","number","row"]=true:=by decide +kernel
def y72:aD (ac y29) "plain_names"=true:=by decide +kernel
def y79:aD (ac y29) "enumerate"=true:=by decide +kernel
theorem y122(T:Txt P w K mg)(D:DefF K mg "rows_by_kind" y29 ["program"])(L:OkF P w K mg base "plain_names" 1 ["program"] (spD K 1 (q15))):OkF P w K mg base "rows_by_kind" 2 ["program"] (spD K 1 z30):=
 bZ D z36 rfl fun f cdv A outer s H E q=>(ah (dsN aO z36.nd (DL.toO (DO.toL (ax y72 L (q.mono (by decide)) (ab (al (pvN 0 aO)) aj)))))
     (ah (dsN aO z36.nd (bh aj))
     (ah (cE qb8 rfl (fz y79 T.n_enumerate (ab (DO.toL (ap q (af (pvN 0 aO)) (DL.toB ag))) aj)) (iI rfl (cj (aP (aU (nsN aO 3) (nsL aO 3) z36.nd)) (cj (aP (aU (nsN aO 4) (nsL aO 4) z36.nd)) gu))) (aw (bL (DW.t (Al (bf (bW q) ev (DO.toB (ap q (af (pvN 4 aO)) (DL.toB ag))) (DL.toB aS) (aR _)) (vH (DW.t (e8 (iA q (DO.toB (ap q (af (pvN 4 aO)) (DL.toB ag))) (DO.toB (aI (ab aS (ab aS aj))))) (fm (iA q (DO.toB (ap q (af (pvN 4 aO)) (DL.toB ag))) (af (pvN 1 aO))))))))) (aw (bX (pvN 2 aO) (al (pvN 3 aO)))) bp)))
     (aw (dj (pvN 2 aO))))))
abbrev z21:Jb:=top 33
theorem y33:FnScope ["program","found","number","onward"] ["program"] (ac z21):=fnS (by decide +kernel)
def bj:cH (ac z21) ["program","found","number","onward"]=true:=by decide +kernel
def z85:aD (ac z21) "ways"=true:=by decide +kernel
def q63:aD (ac z21) "enumerate"=true:=by decide +kernel
theorem z108(T:Txt P w K mg)(D:DefF K mg "rows_led_back_to" z21 ["program"])(q:OkF P w K mg base "ways" 2 ["program"] (spD K 1 (dh))):OkF P w K mg base "rows_led_back_to" 3 ["program"] (spD K 1 y20):=
 bZ D y33 rfl fun f cdv A outer s H E L=>(ah (dsN bj y33.nd (bh aj))
     (ah (cE qb8 rfl (fz q63 T.n_enumerate (ab (DO.toL (ax z85 q (L.mono (by decide)) (ab (al (pvN 0 bj)) aj))) aj)) (iI rfl (cj (aP (aU (nsN bj 2) (nsL bj 2) y33.nd)) (cj (aP (aU (nsN bj 3) (nsL bj 3) y33.nd)) gu))) (aw (mV (pvN 1 bj) (doC ["way","number"] (by kernel_rfl) (bR (af (pvN 3 bj))) (fun _ _ _ _=>fw (bf Ds iz (af (pvX (by kernel_rfl))) (af (pvX (by kernel_rfl))) (aR _))) (fun _ _ _ _=>(al (pvX (by kernel_rfl))))))))
     (aw (dj (pvN 1 bj)))))
abbrev z17:Jb:=top 35
def y75:FnScope ["program","wanted","places"] ["program"] (ac z17):=fnS (by decide +kernel)
def cN:cH (ac z17) ["program","wanted","places"]=true:=by decide +kernel
def q101:aD (ac z17) "needed"=true:=by decide +kernel
def z75:aD (ac z17) "rows_by_kind"=true:=by decide +kernel
def q62:aD (ac z17) "rows_led_back_to"=true:=by decide +kernel
def q102:aD (ac z17) "sorted"=true:=by decide +kernel
def y115:aD (ac z17) "set"=true:=by decide +kernel
def y63:aD (ac z17) "tuple"=true:=by decide +kernel
theorem y130(T:Txt P w K mg)(D:DefF K mg "all_places" z17 ["program"])(O:OkF P w K mg base "needed" 4 ["program"] (spD K 1 (z20)))(W:OkF P w K mg base "rows_by_kind" 2 ["program"] (spD K 1 (z30)))(L:OkF P w K mg base "rows_led_back_to" 3 ["program"] (spD K 1 (y20))):OkF P w K mg base "all_places" 5 ["program"] (spD K 1 z23):=
 bZ D y75 rfl fun f cdv A outer s H E q=>(ah (dsN cN y75.nd (DL.toO (DO.toL (ax q101 O (q.mono (by decide)) (ab (al (pvN 0 cN)) aj)))))
     (ah (dsN cN y75.nd (DL.toO (DO.toL (pv q102 y115 rfl T.n_sorted T.n_set (aG (DO.toB (ay aJ bv (DO.toB (ax z75 W (q.mono (by decide)) (ab (al (pvN 0 cN)) aj))) (DO.toB (ax q62 L (q.mono (by decide)) (ab (al (pvN 0 cN)) aj))))) aL)))))
     (aw (aM (aI (ab (DO.toL (cM y63 bD dD T.n_tuple c6 (aG (DO.toB (ap q (af (pvN 1 cN)) (DL.toB ag))) aL))) (ab (DO.toL (cM y63 bD dD T.n_tuple c6 (aG (DO.toB (doC ["row","wanted"] (by kernel_rfl) (bR (af (pvN 2 cN))) (fun _ _ _ _=>cT) (fun _ _ _ _=>(DO.toL (aI (ab (al (pvX (by kernel_rfl))) (ab (DO.toL (cM (by decide +kernel) bD dD T.n_tuple c6 (aG (DO.toB (ap q (af (pvX (by kernel_rfl))) (af (pvX (by kernel_rfl))))) aL) (e1:=(scC (outer:=ac z17) rfl)))) aj))))))) aL))) aj)))))))
abbrev q12:Jb:=top 48
theorem y16:FnScope ["_law_program_here","_law_cell","_law_boxes","_law_need","_law_number","_law_some","_law_keeps","_law_row_here","_law_kept"] ["_law_program_here","_law_cell","_law_boxes"] (ac q12):=fnS (by decide +kernel)
theorem az:cH (ac q12) ["_law_program_here","_law_cell","_law_boxes","_law_need","_law_number","_law_some","_law_keeps","_law_row_here","_law_kept"]=true:=by decide +kernel
def y92:aD (ac q12) "needed"=true:=by decide +kernel
def z76:aD (ac q12) "all_places"=true:=by decide +kernel
def q105:aD (ac q12) "len"=true:=by decide +kernel
def y95:aD (ac q12) "range"=true:=by decide +kernel
def q52:aD (ac q12) "sorted"=true:=by decide +kernel
def z64:aD (ac q12) "set"=true:=by decide +kernel
def z39:aD (ac q12) "tuple"=true:=by decide +kernel
theorem q121(T:Txt P w K mg)(D:DefF K mg "_law_cutting" q12 ["_law_program_here","_law_cell","_law_boxes"])(O:OkF P w K mg base "all_places" 5 ["program"] (spD K 1 (z23)))(L:OkF P w K mg base "needed" 4 ["program"] (spD K 1 (z20))):OkF P w K mg base "_law_cutting" 6 ["_law_program_here","_law_cell","_law_boxes"] (spD K 3 z38):=
 bZ D y16 rfl fun f cdv A outer s H E q=>(ah (dsN az y16.nd (DL.toO (DO.toL (ax y92 L (q.mono (by decide)) (ab (al (pvN 0 az)) aj)))))
     (ah (dsN az y16.nd (DL.toO (DO.toL (ay bU cV (DO.toB (ay d9 f6 (af (pvN 1 az)) (DL.toB ag))) (DL.toB ag)))))
     (ah (dsN az y16.nd (DL.toO (DO.toL (bh aj))))
     (ah (bL (bf u8 iz (DO.toB (ay bU cV (af (pvN 4 az)) (DL.toB ag))) (DL.toB ag) (aR _)) (aw (ld (nsN az 5) (nsL az 5) y16.nd (M:=["_law_row_here","_law_kept"]) (src:=[none,none]) (ts:=[0,1]) (CmpScope.of (by kernel_rfl)) rfl (bR (DO.toB (ap q (DO.toB (ax z76 O (q.mono (by decide)) (ab (al (pvN 0 az)) aj))) (DL.toB ag)))) (fun W _ _ _ _=>(iI rfl (cj (aP (dN (N:=["_law_row_here","_law_kept"]) (i:=0) (by decide +kernel) (by decide +kernel) W (scC (outer:=ac q12) (by exact rfl)))) (cj (aP (dN (N:=["_law_row_here","_law_kept"]) (i:=1) (by decide +kernel) (by decide +kernel) W (scC (outer:=ac q12) (by exact rfl)))) gu)))) (fun _ _ _ _=>cT) (fun _ _ _ _=>(al (pvX (by kernel_rfl)))) (by decide +kernel))) bp)
     (ah (dsN az y16.nd (bh aj))
     (ah (cE qb8 rfl (dJ y95 T.n_range (ab (DO.toL (bz q105 bB dm T.n_len cD (aG (DO.toB (ap q (af (pvN 0 az)) (DL.toB ag))) aL))) aj)) (aP (aU (nsN az 7) (nsL az 7) y16.nd)) (ah (dsN az y16.nd (DL.toO (DO.toL (ay bU cV (DO.toB (ay d9 f6 (af (pvN 4 az)) (DL.toB ag))) (DL.toB ag)))))
     (aw (bL (DW.t (Al (iA q (af (pvN 7 az)) (af (pvN 5 az))) (vH (bf (bW q) ev (DO.toB (ay bU cV (af (pvN 4 az)) (DL.toB ag))) (DL.toB ag) (aR _))))) (ah (dsN az y16.nd (DL.toO (DO.toL (ay aJ bv (DO.toB (ap q (af (pvN 3 az)) (af (pvN 7 az)))) (DO.toB (eV (af (pvN 2 az)) fM (dB (DO.toB (ay bU cV (DO.toB (ay fH iL (af (pvN 4 az)) (DL.toB ag))) (DL.toB ag))))))))))
     (aw (bX (pvN 6 az) (DO.toL (aI (ab (al (pvN 7 az)) (ab (DO.toL (cM z39 bD dD T.n_tuple c6 (aG (DO.toB (iM q52 z64 rfl T.n_sorted T.n_set (aG (af (pvN 8 az)) aL))) aL))) aj))))))) bp))))
     (aw (aM (aI (ab (DO.toL (cM z39 bD dD T.n_tuple c6 (aG (DO.toB (iM q52 z64 rfl T.n_sorted T.n_set (aG (DO.toB (ay aJ bv (DO.toB (ap q (af (pvN 3 az)) (DL.toB ag))) (DO.toB (eV (af (pvN 2 az)) fM (dB (DO.toB (ay bU cV (DO.toB (ay fH iL (af (pvN 4 az)) (DL.toB ag))) (DL.toB ag)))))))) aL))) aL))) (ab (DO.toL (cM z39 bD dD T.n_tuple c6 (aG (af (pvN 6 az)) aL))) aj)))))))))))
abbrev y53:Jb:=top 41
theorem y50:FnScope ["_law_number","_law_sizes","_law_digits_here","_law_size"] ["_law_number","_law_sizes"] (ac y53):=fnS (by decide +kernel)
theorem bC:cH (ac y53) ["_law_number","_law_sizes","_law_digits_here","_law_size"]=true:=by decide +kernel
theorem q129(T:Txt P w K mg)(D:DefF K mg "_law_digits" y53 ["_law_number","_law_sizes"]):OkF P w K mg base "_law_digits" 1 ["_law_number","_law_sizes"] (spD K 2 z12):=
 bZ D y50 rfl fun f cdv A outer s H E q=>(ah (dsN bC y50.nd (bh aj))
     (ah (cE qb8 rfl (ej (al (pvN 1 bC))) (aP (aU (nsN bC 3) (nsL bC 3) y50.nd)) (ah (bX (pvN 2 bC) (DO.toL (ay bU cV (af (pvN 0 bC)) (af (pvN 3 bC)))))
     (aw (dsN bC y50.nd (DL.toO (DO.toL (ay fH iL (af (pvN 0 bC)) (af (pvN 3 bC)))))))))
     (aw (dj (pvN 2 bC)))))
abbrev z40:Jb:=top 42
theorem y19:FnScope ["_law_cell","_law_many","_law_number","_law_digits_here","_law_size","_law_at","_law_fill","_law_found","_law_k","_law_letter"] ["_law_cell","_law_many"] (ac z40):=fnS (by decide +kernel)
theorem aE:cH (ac z40) ["_law_cell","_law_many","_law_number","_law_digits_here","_law_size","_law_at","_law_fill","_law_found","_law_k","_law_letter"]=true:=by decide +kernel
def q79:aD (ac z40) "_law_digits"=true:=by decide +kernel
def z105:aD (ac z40) "range"=true:=by decide +kernel
theorem q130(T:Txt P w K mg)(D:DefF K mg "_law_names" z40 ["_law_cell","_law_many"])(L:OkF P w K mg base "_law_digits" 1 ["_law_number","_law_sizes"] (spD K 2 (z12))):OkF P w K mg base "_law_names" 2 ["_law_cell","_law_many"] (spD K 2 y15):=
 bZ D y19 rfl fun f cdv A outer s H E q=>(ah (dsN aE y19.nd (DL.toO (DO.toL (ay bU cV (DO.toB (ay d9 f6 (af (pvN 0 aE)) (DL.toB ag))) (DL.toB ag)))))
     (ah (dsN aE y19.nd (DL.toO (DO.toL (ax q79 L (q.mono (by decide)) (ab (al (pvN 2 aE)) (ab (DO.toL (bh (ab ag (ab ag (ab ag (ab ag aj)))))) aj))))))
     (ah (dsN aE y19.nd (DL.toO (DO.toL (ay aJ bv (DL.toB ag) (DO.toB (ap q (af (pvN 3 aE)) (DL.toB ag)))))))
     (ah (dsN aE y19.nd (DL.toO (DO.toL (ay bU cV (DO.toB (ap q (af (pvN 3 aE)) (DL.toB ag))) (af (pvN 4 aE))))))
     (ah (dsN aE y19.nd (DL.toO (DO.toL (ap q (DL.toB aS) (DO.toB (ap q (af (pvN 3 aE)) (DL.toB ag)))))))
     (ah (dsN aE y19.nd (bh aj))
     (ah (cE qb8 rfl (dJ z105 T.n_range (ab (al (pvN 1 aE)) aj)) (aP (aU (nsN aE 8) (nsL aE 8) y19.nd)) (ah (dsN aE y19.nd (DL.toO (DO.toL (ap q (DL.toB aS) (DO.toB (ay bU cV (DO.toB (ay aJ bv (DO.toB (ap q (af (pvN 3 aE)) (DL.toB ag))) (af (pvN 8 aE)))) (DL.toB ag)))))))
     (aw (bX (pvN 7 aE) (DO.toL (ay aJ bv (DO.toB (ay aJ bv (DO.toB (ay sr wX (af (pvN 6 aE)) (af (pvN 5 aE)))) (af (pvN 9 aE)))) (DO.toB (ay sr wX (af (pvN 6 aE)) (DO.toB (ay jA mB (DO.toB (ay jA mB (af (pvN 4 aE)) (DL.toB ag))) (af (pvN 5 aE))))))))))))
     (aw (dj (pvN 7 aE))))))))))
abbrev z52:Jb:=top 43
theorem z136:FnScope ["_law_digit","_law_cell","_law_boxes"] ["_law_digit","_law_cell","_law_boxes"] (ac z52):=fnS (by decide +kernel)
def cY:cH (ac z52) ["_law_digit","_law_cell","_law_boxes"]=true:=by decide +kernel
def q118:aD (ac z52) "len"=true:=by decide +kernel
theorem y133(T:Txt P w K mg)(D:DefF K mg "_law_atom" z52 ["_law_digit","_law_cell","_law_boxes"]):OkF P w K mg base "_law_atom" 1 ["_law_digit","_law_cell","_law_boxes"] (spD K 3 y25):=
 bZ D z136 rfl fun f cdv A outer s H E q=>(ah (bL (bf md iz (af (pvN 0 cY)) (DO.toB (bz q118 bB dm T.n_len cD (aG (af (pvN 2 cY)) aL))) (aR _)) (aw (aM (ap q (af (pvN 2 cY)) (af (pvN 0 cY))))) bp)
     (ah (bL (bf (bW q) ev (DO.toB (ay bU cV (af (pvN 1 cY)) (DL.toB ag))) (DL.toB ag) (aR _)) (aw (aM (ay bU cV (DO.toB (ay fH iL (af (pvN 1 cY)) (DL.toB ag))) (DL.toB ag)))) bp)
     (aw (aM (ay bU cV (DO.toB (ay d9 f6 (af (pvN 1 cY)) (DL.toB ag))) (DO.toB (ay u6 Am (DL.toB ag) (DL.toB ag))))))))
abbrev y43:Jb:=top 44
theorem y22:FnScope ["_law_cell","_law_many","_law_cells","_law_shelves","_law_boxes","_law_number","_law_digits_here","_law_one","_law_other","_law_x","_law_c","_law_kind","_law_f","_law_some"] ["_law_cell","_law_many","_law_cells","_law_shelves","_law_boxes"] (ac y43):=fnS (by decide +kernel)
theorem aq:cH (ac y43) ["_law_cell","_law_many","_law_cells","_law_shelves","_law_boxes","_law_number","_law_digits_here","_law_one","_law_other","_law_x","_law_c","_law_kind","_law_f","_law_some"]=true:=by decide +kernel
def q27:aD (ac y43) "len"=true:=by decide +kernel
def q88:aD (ac y43) "_law_digits"=true:=by decide +kernel
def z58:aD (ac y43) "_law_atom"=true:=by decide +kernel
theorem q138(T:Txt P w K mg)(D:DefF K mg "_law_row" y43 ["_law_cell","_law_many","_law_cells","_law_shelves","_law_boxes"])(L:OkF P w K mg base "_law_atom" 1 ["_law_digit","_law_cell","_law_boxes"] (spD K 3 (y25)))(O:OkF P w K mg base "_law_digits" 1 ["_law_number","_law_sizes"] (spD K 2 (z12))):OkF P w K mg base "_law_row" 2 ["_law_cell","_law_many","_law_cells","_law_shelves","_law_boxes"] (spD K 5 y41):=
 bZ D y22 rfl fun f cdv A outer s H E q=>(ah (dsN aq y22.nd (DL.toO (DO.toL (ay bU cV (DO.toB (ay d9 f6 (af (pvN 0 aq)) (DL.toB ag))) (DL.toB ag)))))
     (ah (dsN aq y22.nd (DL.toO (DO.toL (ax q88 O (q.mono (by decide)) (ab (al (pvN 5 aq)) (ab (DO.toL (bh (ab ag (ab (DO.toL (bz q27 bB dm T.n_len cD (aG (af (pvN 4 aq)) aL))) (ab (DO.toL (ay aJ bv (DO.toB (bz q27 bB dm T.n_len cD (aG (af (pvN 4 aq)) aL))) (DL.toB ag))) (ab (DO.toL (ay aJ bv (DO.toB (bz q27 bB dm T.n_len cD (aG (af (pvN 4 aq)) aL))) (DL.toB ag))) (ab ag (ab ag (ab (al (pvN 1 aq)) aj))))))))) aj))))))
     (ah (dsN aq y22.nd (DL.toO (DO.toL (ax z58 L (q.mono (by decide)) (ab (DO.toL (ap q (af (pvN 6 aq)) (DL.toB ag))) (ab (al (pvN 0 aq)) (ab (al (pvN 4 aq)) aj)))))))
     (ah (dsN aq y22.nd (DL.toO (DO.toL (ax z58 L (q.mono (by decide)) (ab (DO.toL (ap q (af (pvN 6 aq)) (DL.toB ag))) (ab (DO.toL (ay fH iL (af (pvN 0 aq)) (DL.toB ag))) (ab (al (pvN 4 aq)) aj)))))))
     (ah (dsN aq y22.nd (DL.toO (DO.toL (ap q (af (pvN 4 aq)) (DO.toB (ap q (af (pvN 6 aq)) (DL.toB ag)))))))
     (ah (dsN aq y22.nd (DL.toO (DO.toL (ap q (af (pvN 2 aq)) (DO.toB (ay bU cV (DO.toB (ap q (af (pvN 6 aq)) (DL.toB ag))) (DO.toB (bz q27 bB dm T.n_len cD (aG (af (pvN 2 aq)) aL)))))))))
     (ah (dsN aq y22.nd (DL.toO (DO.toL (ap q (af (pvN 6 aq)) (DL.toB ag)))))
     (ah (bL (DW.t (e8 (iA q (af (pvN 11 aq)) (DO.toB (aI (ab ag (ab ag aj))))) (fm (bf u8 iz (DO.toB (bz q27 bB dm T.n_len cD (aG (af (pvN 3 aq)) aL))) (DL.toB ag) (aR _))))) (ah (dsN aq y22.nd (DL.toO (DO.toL (ap q (af (pvN 3 aq)) (DO.toB (ay bU cV (DO.toB (ap q (af (pvN 6 aq)) (DL.toB ag))) (DO.toB (bz q27 bB dm T.n_len cD (aG (af (pvN 3 aq)) aL)))))))))
     (aw (aM (ap q (DO.toB (bh (ab (DO.toL (aI (ab aS (ab (al (pvN 9 aq)) (ab (al (pvN 12 aq)) (ab (al (pvN 7 aq)) aj)))))) (ab (DO.toL (aI (ab aS (ab (al (pvN 12 aq)) (ab (al (pvN 7 aq)) (ab (al (pvN 8 aq)) aj)))))) aj)))) (DO.toB (ay jA mB (af (pvN 11 aq)) (DL.toB ag))))))) bp)
     (ah (bL (iA q (af (pvN 11 aq)) (DO.toB (aI (ab ag (ab ag (ab ag aj)))))) (aw (aM (aI (ab aS (ab (al (pvN 9 aq)) (ab (al (pvN 10 aq)) aj)))))) bp)
     (ah (bL (iA q (af (pvN 11 aq)) (DO.toB (aI (ab ag (ab ag (ab ag aj)))))) (aw (aM (aI (ab aS (ab (al (pvN 10 aq)) (ab (al (pvN 7 aq)) aj)))))) bp)
     (ah (bL (DW.t (e8 (bf u8 iz (af (pvN 11 aq)) (DL.toB ag) (aR _)) (fm (bf md iz (af (pvN 11 aq)) (DL.toB ag) (aR _))))) (ah (dsN aq y22.nd (DL.toO (DO.toL (bh (ab (DO.toL (aI (ab aS (ab (al (pvN 9 aq)) aj)))) (ab (DO.toL (aI (ab aS (ab (al (pvN 7 aq)) aj)))) (ab (DO.toL (aI (ab aS (ab (al (pvN 7 aq)) (ab (DO.toL (ap q (af (pvN 6 aq)) (DL.toB ag))) aj))))) (ab (DO.toL (aI (ab aS (ab (al (pvN 7 aq)) (ab (DO.toL (ap q (af (pvN 6 aq)) (DL.toB ag))) aj))))) (ab (DO.toL (aI (ab aS (ab (DO.toL (ap q (af (pvN 6 aq)) (DL.toB ag))) aj)))) aj)))))))))
     (aw (aM (ap q (DO.toB (ay aJ bv (af (pvN 13 aq)) (DO.toB (bh (ab (DO.toL (aI (ab aS (ab (al (pvN 7 aq)) aj)))) aj))))) (DO.toB (ay jA mB (af (pvN 11 aq)) (DL.toB ag))))))) bp)
     (ah (bL (bf (bW q) ev (af (pvN 11 aq)) (DL.toB ag) (aR _)) (aw (aM (aI (ab aS (ab (al (pvN 9 aq)) (ab (al (pvN 7 aq)) aj)))))) bp)
     (aw (aM (aI (ab aS (ab (al (pvN 9 aq)) (ab (DO.toL (ap q (DL.toB aS) (DO.toB (ap q (af (pvN 6 aq)) (DL.toB ag))))) (ab (al (pvN 7 aq)) (ab (al (pvN 8 aq)) aj))))))))))))))))))))
abbrev y12:Jb:=top 45
theorem q5:FnScope ["_law_script","_law_most","_law_wide","_law_head","_law_digits_here","_law_names_here","_law_sizes","_law_boxes","_law_start","_law_cells","_law_k","_law_shelves","_law_rows","_law_some","_law_cell"] ["_law_script","_law_most","_law_wide"] (ac y12):=fnS (by decide +kernel)
theorem ai:cH (ac y12) ["_law_script","_law_most","_law_wide","_law_head","_law_digits_here","_law_names_here","_law_sizes","_law_boxes","_law_start","_law_cells","_law_k","_law_shelves","_law_rows","_law_some","_law_cell"]=true:=by decide +kernel
def q19:aD (ac y12) "_law_cell_at"=true:=by decide +kernel
def z72:aD (ac y12) "_law_digits"=true:=by decide +kernel
def y44:aD (ac y12) "_law_names"=true:=by decide +kernel
def q59:aD (ac y12) "range"=true:=by decide +kernel
def q64:aD (ac y12) "len"=true:=by decide +kernel
def q85:aD (ac y12) "_law_row"=true:=by decide +kernel
def y81:aD (ac y12) "_law_atom"=true:=by decide +kernel
def q41:aD (ac y12) "tuple"=true:=by decide +kernel
theorem y121(T:Txt P w K mg)(D:DefF K mg "_law_program" y12 ["_law_script","_law_most","_law_wide"])(Z:OkF P w K mg base "_law_atom" 1 ["_law_digit","_law_cell","_law_boxes"] (spD K 3 (y25)))(L:OkF P w K mg base "_law_cell_at" 1 ["_law_script","_law_k"] (spD K 2 (q4)))(Y:OkF P w K mg base "_law_digits" 1 ["_law_number","_law_sizes"] (spD K 2 (z12)))(W:OkF P w K mg base "_law_names" 2 ["_law_cell","_law_many"] (spD K 2 (y15)))(O:OkF P w K mg base "_law_row" 2 ["_law_cell","_law_many","_law_cells","_law_shelves","_law_boxes"] (spD K 5 (y41))):OkF P w K mg base "_law_program" 3 ["_law_script","_law_most","_law_wide"] (spD K 3 q40):=
 bZ D q5 rfl fun f cdv A outer s H E q=>(ah (dsN ai q5.nd (DL.toO (DO.toL (ay bU cV (DO.toB (ay d9 f6 (DO.toB (ax q19 L (q.mono (by decide)) (ab (al (pvN 0 ai)) (ab ag aj)))) (DL.toB ag))) (DL.toB ag)))))
     (ah (dsN ai q5.nd (DL.toO (DO.toL (ax z72 Y (q.mono (by decide)) (ab (al (pvN 3 ai)) (ab (DO.toL (bh (ab ag (ab ag (ab ag (ab ag (ab ag (ab ag (ab ag (ab ag (ab ag (ab ag (ab ag (ab ag aj)))))))))))))) aj))))))
     (ah (dsN ai q5.nd (DL.toO (DO.toL (ax y44 W (q.mono (by decide)) (ab (DO.toL (ax q19 L (q.mono (by decide)) (ab (al (pvN 0 ai)) (ab ag aj)))) (ab ag aj))))))
     (ah (dsN ai q5.nd (DL.toO (DO.toL (bh (ab (DO.toL (ay aJ bv (DL.toB ag) (DO.toB (ap q (af (pvN 4 ai)) (DL.toB ag))))) (ab (DO.toL (ap q (af (pvN 4 ai)) (DL.toB ag))) (ab (DO.toL (ay aJ bv (DL.toB ag) (DO.toB (ap q (af (pvN 4 ai)) (DL.toB ag))))) aj)))))))
     (ah (bL (DW.t (e8 (c7 (af (pvN 2 ai)) (fun _=>rfl)) (fm (bf (bW q) ev (DO.toB (ap q (af (pvN 4 ai)) (DL.toB ag))) (DL.toB ag) (aR _))))) (aw (dsN ai q5.nd (DL.toO (DO.toL (bh (ab ag (ab ag (ab ag aj)))))))) bp)
     (ah (dsN ai q5.nd (DL.toO (DO.toL (ax y44 W (q.mono (by decide)) (ab (DO.toL (ax q19 L (q.mono (by decide)) (ab (al (pvN 0 ai)) (ab ag aj)))) (ab (DO.toL (ap q (af (pvN 6 ai)) (DL.toB ag))) aj))))))
     (ah (dsN ai q5.nd (DL.toO (DO.toL (ax q19 L (q.mono (by decide)) (ab (al (pvN 0 ai)) (ab ag aj))))))
     (ah (dsN ai q5.nd (bh aj))
     (ah (cE qb8 rfl (dJ q59 T.n_range (ab (DO.toL (ap q (af (pvN 6 ai)) (DL.toB ag))) aj)) (aP (aU (nsN ai 10) (nsL ai 10) q5.nd)) (aw (bX (pvN 9 ai) (DO.toL (aI (ab (DO.toL (ap q (af (pvN 5 ai)) (af (pvN 10 ai)))) (ab (DO.toL (ay bU cV (DO.toB (ay d9 f6 (DO.toB (ay aJ bv (af (pvN 8 ai)) (af (pvN 10 ai)))) (DL.toB ag))) (DO.toB (ay u6 Am (DL.toB ag) (DL.toB ag))))) (ab (DO.toL (iH (bW q) ev (DO.toB (ap q (af (pvN 4 ai)) (DO.toB (ay aJ bv (DL.toB ag) (DO.toB (ay bU cV (af (pvN 10 ai)) (DL.toB ag))))))) (DL.toB ag) (aR _))) aj))))))))
     (ah (dsN ai q5.nd (bh aj))
     (ah (cE qb8 rfl (dJ q59 T.n_range (ab (DO.toL (ap q (af (pvN 6 ai)) (DL.toB ag))) aj)) (aP (aU (nsN ai 10) (nsL ai 10) q5.nd)) (aw (bX (pvN 11 ai) (DO.toL (aI (ab (DO.toL (ap q (af (pvN 5 ai)) (DO.toB (ay aJ bv (DL.toB ag) (af (pvN 10 ai)))))) (ab (DO.toL (ay aJ bv (DL.toB ag) (DO.toB (ap q (af (pvN 4 ai)) (DO.toB (ay aJ bv (DL.toB ag) (DO.toB (ay bU cV (af (pvN 10 ai)) (DL.toB ag))))))))) (ab (DO.toL (iH (bW q) ev (DO.toB (ap q (af (pvN 4 ai)) (DO.toB (ay jA mB (DL.toB ag) (af (pvN 10 ai)))))) (DL.toB ag) (aR _))) aj))))))))
     (ah (dsN ai q5.nd (bh aj))
     (ah (dsN ai q5.nd (DL.toO (DO.toL (eV (af (pvN 0 ai)) (dB (DL.toB ag)) (dB (DO.toB (ay aJ bv (DL.toB ag) (af (pvN 1 ai)))))))))
     (ah (cE qb8 rfl (ej (al (pvN 13 ai))) (aP (aU (nsN ai 14) (nsL ai 14) q5.nd)) (aw (bX (pvN 12 ai) (DO.toL (ax q85 O (q.mono (by decide)) (ab (al (pvN 14 ai)) (ab (DO.toL (ay aJ bv (DO.toB (bz q64 bB dm T.n_len cD (aG (af (pvN 13 ai)) aL))) (DL.toB ag))) (ab (DO.toL (doC ["_law_one"] (by kernel_rfl) (bR (af (pvN 9 ai))) (fun _ _ _ _=>cT) (fun _ _ _ _=>(DO.toL (ap q (af (pvX (by kernel_rfl))) (DL.toB ag)))))) (ab (DO.toL (doC ["_law_one"] (by kernel_rfl) (bR (af (pvN 11 ai))) (fun _ _ _ _=>cT) (fun _ _ _ _=>(DO.toL (ap q (af (pvX (by kernel_rfl))) (DL.toB ag)))))) (ab (al (pvN 7 ai)) aj))))))))))
     (ah (bX (pvN 12 ai) (DO.toL (aI (ab aS (ab (DO.toL (ax y81 Z (q.mono (by decide)) (ab (DO.toL (ay bU cV (af (pvN 3 ai)) (DO.toB (ay aJ bv (DO.toB (bz q64 bB dm T.n_len cD (aG (af (pvN 7 ai)) aL))) (DL.toB ag))))) (ab (al (pvN 8 ai)) (ab (al (pvN 7 ai)) aj))))) aj)))))
     (aw (aM (aI (ab (DO.toL (cM q41 bD dD T.n_tuple c6 (aG (af (pvN 9 ai)) aL))) (ab (DO.toL (cM q41 bD dD T.n_tuple c6 (aG (af (pvN 11 ai)) aL))) (ab (DO.toL (cM q41 bD dD T.n_tuple c6 (aG (af (pvN 12 ai)) aL))) aj)))))))))))))))))))))
abbrev y70:Jb:=top 19
def q134:FnScope ["code"] ["code"] (ac y70):=fnS (by decide +kernel)
def n4:cH (ac y70) ["code"]=true:=by decide +kernel
theorem y134(T:Txt P w K mg)(D:DefF K mg "kept_rows" y70 ["code"]):OkF P w K mg base "kept_rows" 1 ["code"] (spD K 1 y13):=bZ D q134 rfl fun f cdv A outer s H E q=>(aw (aM (doC ["keep"] (by kernel_rfl) (bR (DO.toB (ap q (af (pvN 0 n4)) (DL.toB ag)))) (fun _ _ _ _=>cT) (fun _ _ _ _=>(DO.toL (ap q (af (pvX (by kernel_rfl))) (DL.toB ag)))))))
abbrev z46:Jb:=top 24
theorem y61:FnScope ["program","code","kept","number","row"] ["program","code"] (ac z46):=fnS (by decide +kernel)
def bO:cH (ac z46) ["program","code","kept","number","row"]=true:=by decide +kernel
def y91:aD (ac z46) "kept_rows"=true:=by decide +kernel
def z91:aD (ac z46) "enumerate"=true:=by decide +kernel
theorem q135(T:Txt P w K mg)(D:DefF K mg "end_fault" z46 ["program","code"])(L:OkF P w K mg base "kept_rows" 1 ["code"] (spD K 1 (y13))):OkF P w K mg base "end_fault" 2 ["program","code"] (spD K 2 y36):=
 bZ D y61 rfl fun f cdv A outer s H E q=>(ah (dsN bO y61.nd (DL.toO (DO.toL (ax y91 L (q.mono (by decide)) (ab (al (pvN 1 bO)) aj)))))
     (ah (cE qb8 rfl (fz z91 T.n_enumerate (ab (DO.toL (ap q (af (pvN 0 bO)) (DL.toB ag))) aj)) (iI rfl (cj (aP (aU (nsN bO 3) (nsL bO 3) y61.nd)) (cj (aP (aU (nsN bO 4) (nsL bO 4) y61.nd)) gu))) (aw (bL (DW.t (e8 (bf (bW q) ev (DO.toB (ap q (af (pvN 4 bO)) (DL.toB ag))) (DL.toB aS) (aR _)) (fm (eX q (af (pvN 3 bO)) (af (pvN 2 bO)))))) (aw (aM (aI (ab aS (ab (al (pvN 3 bO)) aj))))) bp)))
     (aw (aM (DL.toO cX)))))
abbrev z66:Jb:=top 3
theorem q89:FnScope ["came_from","last","places","here"] ["came_from","last"] (ac z66):=fnS (by decide +kernel)
def db:cH (ac z66) ["came_from","last","places","here"]=true:=by decide +kernel
def q126:aD (ac z66) "list"=true:=by decide +kernel
def q111:aD (ac z66) "reversed"=true:=by decide +kernel
theorem y140(T:Txt P w K mg)(D:DefF K mg "traced" z66 ["came_from","last"]):OkF P w K mg base "traced" 1 ["came_from","last"] (spD K 2 y56):=
 bZ D q89 rfl fun f cdv A outer s H E q=>(ah (dsN db q89.nd (bh aj))
     (ah (dsN db q89.nd (DL.toO (al (pvN 1 db))))
     (ah (eT 100000 qb8 (bf nq nI (af (pvN 3 db)) (DL.toB cX) (aR _)) (ah (bX (pvN 2 db) (al (pvN 3 db)))
     (aw (dsN db q89.nd (DL.toO (DO.toL (ap q (af (pvN 0 db)) (af (pvN 3 db)))))))))
     (aw (aM (lA q126 q111 T.n_list T.n_reversed rfl (af (pvN 2 db))))))))
abbrev z68:Jb:=top 4
theorem q47:FnScope ["starts","behind","fits","came_from","start","queue","looked","here","there"] ["starts","behind","fits"] (ac z68):=fnS (by decide +kernel)
theorem aV:cH (ac z68) ["starts","behind","fits","came_from","start","queue","looked","here","there"]=true:=by decide +kernel
def z129:aD (ac z68) "list"=true:=by decide +kernel
def y137:aD (ac z68) "len"=true:=by decide +kernel
def z122:aD (ac z68) "traced"=true:=by decide +kernel
theorem q144(T:Txt P w K mg)(D:DefF K mg "route" z68 ["starts","behind","fits"])(L:OkF P w K mg base "traced" 1 ["came_from","last"] (spD K 2 (y56))):OkF P w K mg base "route" 4 ["starts","behind","fits"] (spR P w K mg base 3 z97):=
 v6 D q47 rfl fun f cdv A outer s H E q G O=>(ah (dsN aV q47.nd yQ)
     (ah (cE qb8 rfl (ej (al (pvN 0 aV))) (aP (aU (nsN aV 4) (nsL aV 4) q47.nd)) (aw (qp q (pvN 3 aV) (af (pvN 4 aV)) cX)))
     (ah (dsN aV q47.nd (cM z129 (lz rfl) sj T.n_list nC (aG (af (pvN 3 aV)) aL)))
     (ah (dsN aV q47.nd (DL.toO ag))
     (ah (eT 100000 qb8 (bf md iz (af (pvN 6 aV)) (DO.toB (bz y137 bB dm T.n_len cD (aG (af (pvN 5 aV)) aL))) (aR _)) (ah (dsN aV q47.nd (DL.toO (DO.toL (ap q (af (pvN 5 aV)) (af (pvN 6 aV))))))
     (ah (lc (nsN aV 6) (nsL aV 6) q47.nd (DL.toB ag))
     (ah (bL (c7 (DO.toB (kE (pvN 2 aV) O (q.mono (by decide)) (ab (al (pvN 7 aV)) aj))) (fun _=>rfl)) (aw (rM (i:=3) (aM (ax z122 L (q.mono (by decide)) (ab (al (pvN 3 aV)) (ab (al (pvN 7 aV)) aj)))))) bp)
     (aw (cE qb8 rfl (ej (DO.toL (kE (pvN 1 aV) O (q.mono (by decide)) (ab (al (pvN 7 aV)) aj)))) (aP (aU (nsN aV 8) (nsL aV 8) q47.nd)) (aw (bL (eX q (af (pvN 8 aV)) (af (pvN 3 aV))) (ah (qp q (pvN 3 aV) (af (pvN 8 aV)) (al (pvN 7 aV)))
     (aw (bX (pvN 5 aV) (al (pvN 8 aV))))) bp))))))))
     (aw (aM (DL.toO cX))))))))
abbrev z7:Jb:=top 28
theorem y28:FnScope ["program","start","box","rows","onward","behind","fits"] ["program","start","box"] (ac z7):=fnS (by decide +kernel)
theorem bc:cH (ac z7) ["program","start","box","rows","onward","behind","fits"]=true:=by decide +kernel
def q93:aD (ac z7) "ways"=true:=by decide +kernel
def z86:aD (ac z7) "route"=true:=by decide +kernel
abbrev z15:Jb:=(bi z7).getD 2 (.Pass ⟨0,0,0,0⟩)
theorem y32:NsC (ac z7) ["program","start","box","rows","onward","behind","fits"] ["row","box","rows","onward"] ["row"] ["box","rows","onward"] [2,3,4] (ac z15):=NsC.of (by decide +kernel)
def q45:de (ac z15) ["row","box","rows","onward"] 0 "row"=true:=by decide +kernel
def q76:de (ac z15) ["row","box","rows","onward"] 1 "box"=true:=by decide +kernel
def q75:de (ac z15) ["row","box","rows","onward"] 2 "rows"=true:=by decide +kernel
def z74:de (ac z15) ["row","box","rows","onward"] 3 "onward"=true:=by decide +kernel
def z61:aD (ac z15) "gives"=true:=by decide +kernel
abbrev y21:Jb:=(bi z7).getD 3 (.Pass ⟨0,0,0,0⟩)
theorem z37:NsC (ac z7) ["program","start","box","rows","onward","behind","fits"] ["row","box","rows"] ["row"] ["box","rows"] [2,3] (ac y21):=NsC.of (by decide +kernel)
def z83:de (ac y21) ["row","box","rows"] 0 "row"=true:=by decide +kernel
def y85:de (ac y21) ["row","box","rows"] 1 "box"=true:=by decide +kernel
def q86:de (ac y21) ["row","box","rows"] 2 "rows"=true:=by decide +kernel
def q66:aD (ac y21) "reads"=true:=by decide +kernel
theorem q114(T:Txt P w K mg)(D:DefC K mg "way_to_reading" z7 ["program","start","box"] c)(B:TabB mg base c Pt)(hT:(Pt,kM "way_to_reading" (bi z7))∈dL K)(Z:OkF P w K mg base "gives" 1 ["row"] (spD K 1 (z59)))(Y:OkF P w K mg base "reads" 2 ["row"] (spD K 1 (y59)))(O:OkF P w K mg base "route" 4 ["starts","behind","fits"] (spR P w K mg base 3 z97))(L:OkF P w K mg base "ways" 2 ["program"] (spD K 1 (dh))):OkF P w K mg base "way_to_reading" 5 ["program","start","box"] (spD K 3 (q32)):=
 wK D y28 rfl fun f A outer s H E q=>(ah (dsN bc y28.nd (DL.toO (DO.toL (ap q (af (pvN 0 bc)) (DL.toB ag)))))
     (ah (dsN bc y28.nd (DL.toO (DO.toL (ax q93 L (q.mono (by decide)) (ab (al (pvN 0 bc)) aj)))))
     (o9 (i1:=5) (i2:=6) (by decide) (wJ (NX:=["program","start","box","rows","onward","behind","fits"]) rfl) (kF (qual:="way_to_reading.<locals>.behind") (nsN bc 5) (nsL bc 5) y28.nd y32 B hT (by decide +kernel)) (kF (qual:="way_to_reading.<locals>.fits") (nsN bc 6) (nsL bc 6) y28.nd z37 B hT (by decide +kernel))
     (ra (zb (Au (i1:=5) (i2:=6) O (q.mono (by decide)) (glD z86) (fun _=>rfl) (DO.toL (bh (ab (al (pvN 1 bc)) aj))) (pvN 5 bc) (pvN 6 bc) (NestD.of y32 (fun s cl doc pm ctv cd us W=>match us,W with|[_],_=>.of_eq rfl) fun f c' cl A outer s H q=>(aw (aM (rL (bf (bW q) ev (DO.toB (ax z61 Z (q.mono (by decide)) (ab (DO.toL (ap q (af (pvD 2 q75)) (af (pvD 0 q45)))) aj))) (af (pvD 1 q76)) (aR _)) (bh aj) (ap q (af (pvD 3 z74)) (af (pvD 0 q45))))))) (NestD.of z37 (fun s cl doc pm ctv cd us W=>match us,W with|[_],_=>.of_eq rfl) fun f c' cl A outer s H q=>(aw (aM (Ap q (af (pvD 1 y85)) (DO.toB (ax q66 Y (q.mono (by decide)) (ab (DO.toL (ap q (af (pvD 2 q86)) (af (pvD 0 z83)))) aj))))))) y32.all z37.all))))))
abbrev z41:Jb:=top 29
theorem z28:FnScope ["program","code","wanted","places","start","boxes","begin","box"] ["program","code"] (ac z41):=fnS (by decide +kernel)
theorem aH:cH (ac z41) ["program","code","wanted","places","start","boxes","begin","box"]=true:=by decide +kernel
def y101:aD (ac z41) "needed"=true:=by decide +kernel
def z67:aD (ac z41) "way_to_reading"=true:=by decide +kernel
theorem z130(T:Txt P w K mg)(D:DefF K mg "lost_fault" z41 ["program","code"])(O:OkF P w K mg base "needed" 4 ["program"] (spD K 1 (z20)))(L:OkF P w K mg base "way_to_reading" 5 ["program","start","box"] (spD K 3 (q32))):OkF P w K mg base "lost_fault" 6 ["program","code"] (spD K 2 q33):=
 bZ D z28 rfl fun f cdv A outer s H E q=>(ah (dsN aH z28.nd (DL.toO (DO.toL (ax y101 O (q.mono (by decide)) (ab (al (pvN 0 aH)) aj)))))
     (ah (dsN aH z28.nd (DL.toO (DO.toL (ay aJ bv (DO.toB (bh (ab (DO.toL (aI (ab ag (ab (DO.toL (ap q (af (pvN 1 aH)) (DL.toB ag))) (ab j4 aj))))) aj))) (DO.toB (doC ["keep"] (by kernel_rfl) (bR (DO.toB (ap q (af (pvN 1 aH)) (DL.toB ag)))) (fun _ _ _ _=>cT) (fun _ _ _ _=>(DO.toL (aI (ab (DO.toL (ap q (af (pvX (by kernel_rfl))) (DL.toB ag))) (ab (DO.toL (ap q (af (pvX (by kernel_rfl))) (DL.toB ag))) (ab j4 aj))))))))))))
     (ah (cE qb8 rfl (ej (al (pvN 3 aH))) (iI rfl (cj (aP (aU (nsN aH 4) (nsL aH 4) z28.nd)) (cj (aP (aU (nsN aH 5) (nsL aH 5) z28.nd)) (cj (aP (aU (nsN aH 6) (nsL aH 6) z28.nd)) gu)))) (aw (cE qb8 rfl (ej (DO.toL (ap q (af (pvN 2 aH)) (af (pvN 4 aH))))) (aP (aU (nsN aH 7) (nsL aH 7) z28.nd)) (aw (bL (eX q (af (pvN 7 aH)) (af (pvN 5 aH))) (aw (aM (aI (ab aS (ab (al (pvN 7 aH)) (ab (DO.toL (ax z67 L (q.mono (by decide)) (ab (al (pvN 0 aH)) (ab (al (pvN 4 aH)) (ab (al (pvN 7 aH)) aj))))) (ab (al (pvN 6 aH)) aj))))))) bp)))))
     (aw (aM (DL.toO cX))))))
abbrev q22:Jb:=top 25
theorem y26:FnScope ["onward","rows","left","fewer","staying"] ["onward","rows"] (ac q22):=fnS (by decide +kernel)
def aY:cH (ac q22) ["onward","rows","left","fewer","staying"]=true:=by decide +kernel
def y64:aD (ac q22) "len"=true:=by decide +kernel
theorem q122(T:Txt P w K mg)(D:DefF K mg "endless_rows" q22 ["onward","rows"]):OkF P w K mg base "endless_rows" 1 ["onward","rows"] (spD K 2 y40):=
 bZ D y26 rfl fun f cdv A outer s H E L=>(ah (dsN aY y26.nd (DL.toO (al (pvN 1 aY))))
     (ah (dsN aY y26.nd (DL.toO j4))
     (ah (eT 100000 qb8 (c7 (af (pvN 3 aY)) (fun _=>rfl)) (ah (ld (nsN aY 4) (nsL aY 4) y26.nd (M:=["row","onward","left"]) (src:=[none,some 0,some 2]) (ts:=[0]) (CmpScope.of (by kernel_rfl)) rfl (bR (af (pvN 2 aY))) (fun q _ _ _ _=>(aP (dN (N:=["row","onward","left"]) (i:=0) (by decide +kernel) (by decide +kernel) q (scC (outer:=ac q22) (by exact rfl))))) (fun _ _ _ _=>fw (c7 (DO.toB (bz (by decide +kernel) (vt rfl) (DR (f:=fun bs=>bs.any id)) T.n_any BH (aG (DO.toB (kz (M:=["way","left"]) (src:=[none,some 2]) (ts:=[0]) (CmpScope.of (by kernel_rfl)) rfl (bR (DO.toB (ap L (af (pvX (by kernel_rfl))) (af (pvX (by kernel_rfl)))))) (fun q _ _ _ _=>(aP (dN (N:=["way","left"]) (i:=0) (by decide +kernel) (by decide +kernel) q (scC (scC (outer:=ac q22) (by exact rfl)))))) (fun _ _ _ _=>cT) (fun _ _ _ _=>(DO.toL (Ap L (af (pvX (by kernel_rfl))) (af (pvX (by kernel_rfl)))))) (by decide +kernel))) aL) (e1:=(scC (outer:=ac q22) rfl)))) (fun _=>rfl))) (fun _ _ _ _=>(al (pvX (by kernel_rfl)))) (by decide +kernel))
     (ah (dsN aY y26.nd (DL.toO (DO.toL (iH md iz (DO.toB (bz y64 bB dm T.n_len cD (aG (af (pvN 4 aY)) aL))) (DO.toB (bz y64 bB dm T.n_len cD (aG (af (pvN 2 aY)) aL))) (aR _)))))
     (aw (dsN aY y26.nd (DL.toO (al (pvN 4 aY))))))))
     (aw (dj (pvN 2 aY))))))
abbrev q23:Jb:=top 26
theorem y27:FnScope ["program","code","kept","onward","endless","walked","here"] ["program","code"] (ac q23):=fnS (by decide +kernel)
theorem aK:cH (ac q23) ["program","code","kept","onward","endless","walked","here"]=true:=by decide +kernel
def y86:aD (ac q23) "kept_rows"=true:=by decide +kernel
def y112:aD (ac q23) "ways"=true:=by decide +kernel
def z77:aD (ac q23) "len"=true:=by decide +kernel
def q104:aD (ac q23) "range"=true:=by decide +kernel
def y74:aD (ac q23) "endless_rows"=true:=by decide +kernel
theorem y129(T:Txt P w K mg)(D:DefF K mg "ring_fault" q23 ["program","code"])(O:OkF P w K mg base "endless_rows" 1 ["onward","rows"] (spD K 2 (y40)))(W:OkF P w K mg base "kept_rows" 1 ["code"] (spD K 1 (y13)))(L:OkF P w K mg base "ways" 2 ["program"] (spD K 1 (dh))):OkF P w K mg base "ring_fault" 3 ["program","code"] (spD K 2 q31):=
 bZ D y27 rfl fun f cdv A outer s H E q=>(ah (dsN aK y27.nd (DL.toO (DO.toL (ax y86 W (q.mono (by decide)) (ab (al (pvN 1 aK)) aj)))))
     (ah (dsN aK y27.nd (DL.toO (DO.toL (ax y112 L (q.mono (by decide)) (ab (al (pvN 0 aK)) aj)))))
     (ah (dsN aK y27.nd (DL.toO (DO.toL (ax y74 O (q.mono (by decide)) (ab (al (pvN 3 aK)) (ab (DO.toL (doC ["row","kept"] (by kernel_rfl) (DIF.toB (dJ q104 T.n_range (ab (DO.toL (bz z77 bB dm T.n_len cD (aG (af (pvN 3 aK)) aL))) aj))) (fun _ _ _ _=>fw (eX q (af (pvX (by kernel_rfl))) (af (pvX (by kernel_rfl))))) (fun _ _ _ _=>(al (pvX (by kernel_rfl)))))) aj))))))
     (ah (bL (bf (bW q) ev (DO.toB (bz z77 bB dm T.n_len cD (aG (af (pvN 4 aK)) aL))) (DL.toB ag) (aR _)) (aw (aM (DL.toO cX))) bp)
     (ah (dsN aK y27.nd (bh aj))
     (ah (dsN aK y27.nd (DL.toO (DO.toL (ap q (af (pvN 4 aK)) (DL.toB ag)))))
     (ah (eT 100000 qb8 (eX q (af (pvN 6 aK)) (af (pvN 5 aK))) (ah (bX (pvN 5 aK) (al (pvN 6 aK)))
     (aw (dsN aK y27.nd (DL.toO (DO.toL (ap q (DO.toB (doC ["way","endless"] (by kernel_rfl) (bR (DO.toB (ap q (af (pvN 3 aK)) (af (pvN 6 aK))))) (fun _ _ _ _=>fw (iA q (af (pvX (by kernel_rfl))) (af (pvX (by kernel_rfl))))) (fun _ _ _ _=>(al (pvX (by kernel_rfl)))))) (DL.toB ag))))))))
     (aw (aM (aI (ab aS (ab (DO.toL (eV (af (pvN 5 aK)) (dB (DO.toB (uA (af (pvN 5 aK)) (aG (af (pvN 6 aK)) aL)))) fM)) aj))))))))))))
abbrev y30:Jb:=top 20
theorem y102:FnScope ["program","code","kept"] ["program","code"] (ac y30):=fnS (by decide +kernel)
def fR:cH (ac y30) ["program","code","kept"]=true:=by decide +kernel
def z88:aD (ac y30) "kept_rows"=true:=by decide +kernel
def q109:aD (ac y30) "ways"=true:=by decide +kernel
theorem y131(T:Txt P w K mg)(D:DefF K mg "inner_ways" y30 ["program","code"])(O:OkF P w K mg base "kept_rows" 1 ["code"] (spD K 1 (y13)))(q:OkF P w K mg base "ways" 2 ["program"] (spD K 1 (dh))):OkF P w K mg base "inner_ways" 3 ["program","code"] (spD K 2 q26):=
 bZ D y102 rfl fun f cdv A outer s H E L=>(ah (dsN fR y102.nd (DL.toO (DO.toL (ax z88 O (L.mono (by decide)) (ab (al (pvN 1 fR)) aj)))))
     (aw (aM (doC ["onward","kept"] (by kernel_rfl) (bR (DO.toB (ax q109 q (L.mono (by decide)) (ab (al (pvN 0 fR)) aj)))) (fun _ _ _ _=>cT) (fun _ _ _ _=>(DO.toL (kz (M:=["way","kept"]) (src:=[none,some 1]) (ts:=[0]) (CmpScope.of (by kernel_rfl)) rfl (bR (af (pvX (by kernel_rfl)))) (fun W _ _ _ _=>(aP (dN (N:=["way","kept"]) (i:=0) (by decide +kernel) (by decide +kernel) W (scC (scC (outer:=ac y30) (by exact rfl)))))) (fun _ _ _ _=>fw (eX L (af (pvX (by kernel_rfl))) (af (pvX (by kernel_rfl))))) (fun _ _ _ _=>(al (pvX (by kernel_rfl)))) (by decide +kernel))))))))
abbrev y23:Jb:=top 21
theorem y125:FnScope ["mark","row","name"] ["mark","row","name"] (ac y23):=fnS (by decide +kernel)
def bn:cH (ac y23) ["mark","row","name"]=true:=by decide +kernel
def z60:aD (ac y23) "FRESH"=true:=by decide +kernel
def z63:aD (ac y23) "SEEN"=true:=by decide +kernel
def z103:aD (ac y23) "SAFE"=true:=by decide +kernel
def q95:aD (ac y23) "SPOILT"=true:=by decide +kernel
theorem z127(T:Txt P w K mg)(D:DefF K mg "mark_behind" y23 ["mark","row","name"]):OkF P w K mg base "mark_behind" 1 ["mark","row","name"] (spD K 3 y34):=
 bZ D y125 rfl fun f cdv A outer s H E q=>(ah (bL (DW.t (e8 (bf (bW q) ev (af (pvN 0 bn)) (DL.toB (eO z60 T.g_D)) (aR _)) (e8 (iA q (DO.toB (ap q (af (pvN 1 bn)) (DL.toB ag))) (DO.toB (aI (ab aS (ab aS aj))))) (fm (bf (bW q) ev (DO.toB (ap q (af (pvN 1 bn)) (DL.toB ag))) (af (pvN 2 bn)) (aR _)))))) (aw (aM (DL.toO (eO z63 T.g_E)))) bp)
     (ah (bL (DW.t (e8 (bf (bW q) ev (af (pvN 0 bn)) (DL.toB (eO z60 T.g_D)) (aR _)) (e8 (bf (bW q) ev (DO.toB (ap q (af (pvN 1 bn)) (DL.toB ag))) (DL.toB aS) (aR _)) (fm (bf (bW q) ev (DO.toB (ap q (af (pvN 1 bn)) (DL.toB ag))) (af (pvN 2 bn)) (aR _)))))) (aw (aM (DL.toO (eO z103 T.g_F)))) bp)
     (ah (bL (DW.t (e8 (bf (bW q) ev (af (pvN 0 bn)) (DL.toB (eO z63 T.g_E)) (aR _)) (e8 (iA q (DO.toB (ap q (af (pvN 1 bn)) (DL.toB ag))) (DO.toB (aI (ab aS (ab aS aj))))) (fm (bf (bW q) ev (DO.toB (ap q (af (pvN 1 bn)) (DL.toB ag))) (af (pvN 2 bn)) (aR _)))))) (aw (aM (DL.toO (eO q95 T.g_C)))) bp)
     (aw (dj (pvN 0 bn))))))
abbrev q46:Jb:=top 3
theorem q61:FnScope ["came_from","last","places","here"] ["came_from","last"] (ac q46):=fnS (by decide +kernel)
def b7:cH (ac q46) ["came_from","last","places","here"]=true:=by decide +kernel
def z114:aD (ac q46) "list"=true:=by decide +kernel
def z95:aD (ac q46) "reversed"=true:=by decide +kernel
theorem z133(T:Txt P w K mg)(D:DefF K mg "traced" q46 ["came_from","last"]):OkF P w K mg base "traced" 1 ["came_from","last"] (spD K 2 q91):=
 bZ D q61 rfl fun f cdv A outer s H E q=>(ah (dsN b7 q61.nd (bh aj))
     (ah (dsN b7 q61.nd (DL.toO (al (pvN 1 b7))))
     (ah (eT 100000 qb8 (bf nq nI (af (pvN 3 b7)) (DL.toB cX) (aR _)) (ah (bX (pvN 2 b7) (al (pvN 3 b7)))
     (aw (dsN b7 q61.nd (DL.toO (DO.toL (B5 T.is q (af (pvN 0 b7)) (af (pvN 3 b7)))))))))
     (aw (aM (lA z114 z95 T.n_list T.n_reversed rfl (af (pvN 2 b7))))))))
abbrev q42:Jb:=top 4
theorem z29:FnScope ["starts","behind","fits","came_from","start","queue","looked","here","there"] ["starts","behind","fits"] (ac q42):=fnS (by decide +kernel)
theorem aF:cH (ac q42) ["starts","behind","fits","came_from","start","queue","looked","here","there"]=true:=by decide +kernel
def q117:aD (ac q42) "list"=true:=by decide +kernel
def z119:aD (ac q42) "len"=true:=by decide +kernel
def y99:aD (ac q42) "traced"=true:=by decide +kernel
theorem z138(T:Txt P w K mg)(D:DefF K mg "route" q42 ["starts","behind","fits"])(L:OkF P w K mg base "traced" 1 ["came_from","last"] (spD K 2 (q91))):OkF P w K mg base "route" 4 ["starts","behind","fits"] (spR P w K mg base 3 q80):=
 v6 D z29 rfl fun f cdv A outer s H E q G O=>(ah (dsN aF z29.nd wR)
     (ah (cE qb8 rfl (ej (al (pvN 0 aF))) (aP (aU (nsN aF 4) (nsL aF 4) z29.nd)) (aw (sh T.is q (pvN 3 aF) (af (pvN 4 aF)) cX)))
     (ah (dsN aF z29.nd (cM q117 (lz rfl) sj T.n_list nC (aG (af (pvN 3 aF)) aL)))
     (ah (dsN aF z29.nd (DL.toO ag))
     (ah (eT 100000 qb8 (bf md iz (af (pvN 6 aF)) (DO.toB (bz z119 bB dm T.n_len cD (aG (af (pvN 5 aF)) aL))) (aR _)) (ah (dsN aF z29.nd (DL.toO (DO.toL (ap q (af (pvN 5 aF)) (af (pvN 6 aF))))))
     (ah (lc (nsN aF 6) (nsL aF 6) z29.nd (DL.toB ag))
     (ah (bL (c7 (DO.toB (kE (pvN 2 aF) O (q.mono (by decide)) (ab (al (pvN 7 aF)) aj))) (fun _=>rfl)) (aw (rM (i:=3) (aM (ax y99 L (q.mono (by decide)) (ab (al (pvN 3 aF)) (ab (al (pvN 7 aF)) aj)))))) bp)
     (aw (cE qb8 rfl (ej (DO.toL (kE (pvN 1 aF) O (q.mono (by decide)) (ab (al (pvN 7 aF)) aj)))) (aP (aU (nsN aF 8) (nsL aF 8) z29.nd)) (aw (bL (B6 T.is q (af (pvN 8 aF)) (af (pvN 3 aF))) (ah (sh T.is q (pvN 3 aF) (af (pvN 8 aF)) (al (pvN 7 aF)))
     (aw (bX (pvN 5 aF) (al (pvN 8 aF))))) bp))))))))
     (aw (aM (DL.toO cX))))))))
abbrev y17:Jb:=top 22
theorem q57:FnScope ["program","code","name","rows","inner","behind","spoils","found"] ["program","code","name"] (ac y17):=fnS (by decide +kernel)
theorem bG:cH (ac y17) ["program","code","name","rows","inner","behind","spoils","found"]=true:=by decide +kernel
def y98:aD (ac y17) "plain_names"=true:=by decide +kernel
def y100:aD (ac y17) "inner_ways"=true:=by decide +kernel
def q108:aD (ac y17) "kept_rows"=true:=by decide +kernel
def y109:aD (ac y17) "route"=true:=by decide +kernel
abbrev q16:Jb:=(bi y17).getD 3 (.Pass ⟨0,0,0,0⟩)
theorem z42:NsC (ac y17) ["program","code","name","rows","inner","behind","spoils","found"] ["place","mark","name","rows","inner"] ["place"] ["name","rows","inner"] [2,3,4] (ac q16):=NsC.of (by decide +kernel)
theorem z48:de (ac q16) ["place","mark","name","rows","inner"] 0 "place"=true:=by decide +kernel
def z71:de (ac q16) ["place","mark","name","rows","inner"] 1 "mark"=true:=by decide +kernel
def z109:jH (ac q16) "mark"=true:=by decide +kernel
theorem y108:de (ac q16) ["place","mark","name","rows","inner"] 2 "name"=true:=by decide +kernel
theorem q113:de (ac q16) ["place","mark","name","rows","inner"] 3 "rows"=true:=by decide +kernel
theorem q112:de (ac q16) ["place","mark","name","rows","inner"] 4 "inner"=true:=by decide +kernel
def y68:aD (ac q16) "mark_behind"=true:=by decide +kernel
def q97:aD (ac q16) "SAFE"=true:=by decide +kernel
abbrev z27:Jb:=(bi y17).getD 4 (.Pass ⟨0,0,0,0⟩)
theorem z55:NsC (ac y17) ["program","code","name","rows","inner","behind","spoils","found"] ["place","name","rows"] ["place"] ["name","rows"] [2,3] (ac z27):=NsC.of (by decide +kernel)
def y71:de (ac z27) ["place","name","rows"] 0 "place"=true:=by decide +kernel
def y110:de (ac z27) ["place","name","rows"] 1 "name"=true:=by decide +kernel
def y111:de (ac z27) ["place","name","rows"] 2 "rows"=true:=by decide +kernel
def q69:aD (ac z27) "mark_behind"=true:=by decide +kernel
def z87:aD (ac z27) "SPOILT"=true:=by decide +kernel
theorem q141(T:Txt P w K mg)(D:DefC K mg "spoilt" y17 ["program","code","name"] c)(B:TabB mg base c Pt)(hT:(Pt,kM "spoilt" (bi y17))∈dL K)(Z:OkF P w K mg base "inner_ways" 3 ["program","code"] (spD K 2 (q26)))(Y:OkF P w K mg base "kept_rows" 1 ["code"] (spD K 1 (y13)))(O:OkF P w K mg base "mark_behind" 1 ["mark","row","name"] (spD K 3 (y34)))(z19:OkF P w K mg base "plain_names" 1 ["program"] (spD K 1 (q15)))(L:OkF P w K mg base "route" 4 ["starts","behind","fits"] (spR P w K mg base 3 q80)):OkF P w K mg base "spoilt" 5 ["program","code","name"] (spD K 3 (z56)):=
 wK D q57 rfl fun f A outer s H E q=>(ah (bL (eX q (af (pvN 2 bG)) (DO.toB (ax y98 z19 (q.mono (by decide)) (ab (al (pvN 0 bG)) aj)))) (aw (aM (DL.toO cX))) bp)
     (ah (dsN bG q57.nd (DL.toO (DO.toL (ap q (af (pvN 0 bG)) (DL.toB ag)))))
     (ah (dsN bG q57.nd (DL.toO (DO.toL (ax y100 Z (q.mono (by decide)) (ab (al (pvN 0 bG)) (ab (al (pvN 1 bG)) aj))))))
     (o9 (i1:=5) (i2:=6) (by decide) (wJ (NX:=["program","code","name","rows","inner","behind","spoils","found"]) rfl) (kF (qual:="spoilt.<locals>.behind") (nsN bG 5) (nsL bG 5) q57.nd z42 B hT (by decide +kernel)) (kF (qual:="spoilt.<locals>.spoils") (nsN bG 6) (nsL bG 6) q57.nd z55 B hT (by decide +kernel))
     (wf (zd (nsN bG 7) (nsL bG 7) q57.nd (Au (i1:=5) (i2:=6) L (q.mono (by decide)) (glD y109) (fun _=>rfl) (DO.toL (doC ["row"] (by kernel_rfl) (bR (DO.toB (ay aJ bv (DO.toB (bh (ab ag aj))) (DO.toB (ax q108 Y (q.mono (by decide)) (ab (al (pvN 1 bG)) aj)))))) (fun _ _ _ _=>cT) (fun _ _ _ _=>(DO.toL (aI (ab (al (pvX (by kernel_rfl))) (ab (eO (by decide +kernel) T.g_D (e1:=(scC (outer:=ac y17) rfl))) aj))))))) (pvN 5 bG) (pvN 6 bG) (NestD.of z42 (fun s cl doc pm ctv cd us W=>match us,W with|[_],_=>.of_eq rfl) fun f c' cl A outer s H q=>(ah (vK z71 z109 z42.nd (DL.toO (DO.toL (ax y68 O (q.mono (by decide)) (ab (DO.toL (ap q (af (pvD 0 z48)) (DL.toB ag))) (ab (DO.toL (ap q (af (pvD 3 q113)) (DO.toB (ap q (af (pvD 0 z48)) (DL.toB ag))))) (ab (al (pvD 2 y108)) aj)))))))
     (aw (aM (rL (bf (bW q) ev (af (pvD 1 z71)) (DL.toB (eO q97 T.g_F)) (aR _)) (bh aj) (doC ["way","mark"] (by kernel_rfl) (bR (DO.toB (ap q (af (pvD 4 q112)) (DO.toB (ap q (af (pvD 0 z48)) (DL.toB ag)))))) (fun _ _ _ _=>cT) (fun _ _ _ _=>(DO.toL (aI (ab (al (pvX (by kernel_rfl))) (ab (al (pvX (by kernel_rfl))) aj))))))))))) (NestD.of z55 (fun s cl doc pm ctv cd us W=>match us,W with|[_],_=>.of_eq rfl) fun f c' cl A outer s H q=>(aw (aM (iH (bW q) ev (DO.toB (ax q69 O (q.mono (by decide)) (ab (DO.toL (ap q (af (pvD 0 y71)) (DL.toB ag))) (ab (DO.toL (ap q (af (pvD 2 y111)) (DO.toB (ap q (af (pvD 0 y71)) (DL.toB ag))))) (ab (al (pvD 1 y110)) aj))))) (DL.toB (eO z87 T.g_C)) (aR _))))) z42.all z55.all))
     (aw (aM (rL (bf kO vS (af (pvN 7 bG)) (DL.toB cX) (aR _)) (DL.toO cX) (doC ["place"] (by kernel_rfl) (bR (af (pvN 7 bG))) (fun _ _ _ _=>cT) (fun _ _ _ _=>(DO.toL (ap q (af (pvX (by kernel_rfl))) (DL.toB ag)))))))))))))
abbrev z34:Jb:=top 27
theorem y67:FnScope ["program","code","name","rows"] ["program","code"] (ac z34):=fnS (by decide +kernel)
def bH:cH (ac z34) ["program","code","name","rows"]=true:=by decide +kernel
def y76:aD (ac z34) "plain_names"=true:=by decide +kernel
def q99:aD (ac z34) "spoilt"=true:=by decide +kernel
theorem z126(T:Txt P w K mg)(D:DefF K mg "spoil_fault" z34 ["program","code"])(L:OkF P w K mg base "plain_names" 1 ["program"] (spD K 1 (q15)))(q:OkF P w K mg base "spoilt" 5 ["program","code","name"] (spD K 3 (z56))):OkF P w K mg base "spoil_fault" 6 ["program","code"] (spD K 2 q28):=
 bZ D y67 rfl fun f cdv A outer s H E O=>(ah (cE qb8 rfl (ej (DO.toL (ax y76 L (O.mono (by decide)) (ab (al (pvN 0 bH)) aj)))) (aP (aU (nsN bH 2) (nsL bH 2) y67.nd)) (ah (dsN bH y67.nd (DL.toO (DO.toL (ax q99 q (O.mono (by decide)) (ab (al (pvN 0 bH)) (ab (al (pvN 1 bH)) (ab (al (pvN 2 bH)) aj)))))))
     (aw (bL (bf nq nI (af (pvN 3 bH)) (DL.toB cX) (aR _)) (aw (aM (aI (ab aS (ab (al (pvN 2 bH)) (ab (al (pvN 3 bH)) aj)))))) bp))))
     (aw (aM (DL.toO cX))))
abbrev z57:Jb:=top 30
theorem q83:FnScope ["program","code","found"] ["program","code"] (ac z57):=fnS (by decide +kernel)
def cq:cH (ac z57) ["program","code","found"]=true:=by decide +kernel
def z110:aD (ac z57) "end_fault"=true:=by decide +kernel
def y107:aD (ac z57) "ring_fault"=true:=by decide +kernel
def z101:aD (ac z57) "spoil_fault"=true:=by decide +kernel
def q107:aD (ac z57) "lost_fault"=true:=by decide +kernel
theorem q142(T:Txt P w K mg)(D:DefF K mg "fault" z57 ["program","code"])(W:OkF P w K mg base "end_fault" 2 ["program","code"] (spD K 2 (y36)))(Y:OkF P w K mg base "lost_fault" 6 ["program","code"] (spD K 2 (q33)))(O:OkF P w K mg base "ring_fault" 3 ["program","code"] (spD K 2 (q31)))(L:OkF P w K mg base "spoil_fault" 6 ["program","code"] (spD K 2 (q28))):OkF P w K mg base "fault" 7 ["program","code"] (spD K 2 y94):=
 bZ D q83 rfl fun f cdv A outer s H E q=>(ah (dsN cq q83.nd (DL.toO (DO.toL (ax z110 W (q.mono (by decide)) (ab (al (pvN 0 cq)) (ab (al (pvN 1 cq)) aj))))))
     (ah (bL (bf kO vS (af (pvN 2 cq)) (DL.toB cX) (aR _)) (aw (dsN cq q83.nd (DL.toO (DO.toL (ax y107 O (q.mono (by decide)) (ab (al (pvN 0 cq)) (ab (al (pvN 1 cq)) aj))))))) bp)
     (ah (bL (bf kO vS (af (pvN 2 cq)) (DL.toB cX) (aR _)) (aw (dsN cq q83.nd (DL.toO (DO.toL (ax z101 L (q.mono (by decide)) (ab (al (pvN 0 cq)) (ab (al (pvN 1 cq)) aj))))))) bp)
     (ah (bL (bf kO vS (af (pvN 2 cq)) (DL.toB cX) (aR _)) (aw (dsN cq q83.nd (DL.toO (DO.toL (ax q107 Y (q.mono (by decide)) (ab (al (pvN 0 cq)) (ab (al (pvN 1 cq)) aj))))))) bp)
     (aw (dj (pvN 2 cq)))))))
abbrev y97:Jb:=top 31
def z142:FnScope ["program","code"] ["program","code"] (ac y97):=fnS (by decide +kernel)
def ns_holds:cH (ac y97) ["program","code"]=true:=by decide +kernel
def y127:aD (ac y97) "fault"=true:=by decide +kernel
theorem q143(T:Txt P w K mg)(D:DefF K mg "holds" y97 ["program","code"])(q:OkF P w K mg base "fault" 7 ["program","code"] (spD K 2 (y94))):OkF P w K mg base "holds" 8 ["program","code"] (spD K 2 q17):=bZ D z142 rfl fun f cdv A outer s H E L=>(aw (aM (iH kO vS (DO.toB (ax y127 q (L.mono (by decide)) (ab (al (pvN 0 ns_holds)) (ab (al (pvN 1 ns_holds)) aj)))) (DL.toB cX) (aR _))))
abbrev y37:Jb:=top 49
theorem q53:FnScope ["_law_program_here","_law_code","_law_row_here","_law_less"] ["_law_program_here","_law_code"] (ac y37):=fnS (by decide +kernel)
theorem bI:cH (ac y37) ["_law_program_here","_law_code","_law_row_here","_law_less"]=true:=by decide +kernel
def z104:aD (ac y37) "tuple"=true:=by decide +kernel
def z106:aD (ac y37) "holds"=true:=by decide +kernel
theorem z131(T:Txt P w K mg)(D:DefF K mg "_law_round" y37 ["_law_program_here","_law_code"])(L:OkF P w K mg base "holds" 8 ["program","code"] (spD K 2 (q17))):OkF P w K mg base "_law_round" 9 ["_law_program_here","_law_code"] (spD K 2 y39):=
 bZ D q53 rfl fun f cdv A outer s H E q=>(ah (cE qb8 rfl (ej (DO.toL (doC ["_law_one"] (by kernel_rfl) (bR (DO.toB (ap q (af (pvN 1 bI)) (DL.toB ag)))) (fun _ _ _ _=>cT) (fun _ _ _ _=>(DO.toL (ap q (af (pvX (by kernel_rfl))) (DL.toB ag))))))) (aP (aU (nsN bI 2) (nsL bI 2) q53.nd)) (ah (dsN bI q53.nd (DL.toO (DO.toL (aI (ab (DO.toL (ap q (af (pvN 1 bI)) (DL.toB ag))) (ab (DO.toL (cM z104 bD dD T.n_tuple c6 (aG (DO.toB (doC ["_law_one","_law_row_here"] (by kernel_rfl) (bR (DO.toB (ap q (af (pvN 1 bI)) (DL.toB ag)))) (fun _ _ _ _=>fw (bf (k8 q) vR (DO.toB (ap q (af (pvX (by kernel_rfl))) (DL.toB ag))) (af (pvX (by kernel_rfl))) (aR _))) (fun _ _ _ _=>(al (pvX (by kernel_rfl)))))) aL))) aj))))))
     (aw (bL (c7 (DO.toB (ax z106 L (q.mono (by decide)) (ab (al (pvN 0 bI)) (ab (al (pvN 3 bI)) aj)))) (fun _=>rfl)) (aw (dsN bI q53.nd (DL.toO (al (pvN 3 bI))))) bp))))
     (aw (dj (pvN 1 bI))))
abbrev z45:Jb:=top 46
theorem q49:FnScope ["_law_cell","_law_many","_law_boxes","_law_rows","_law_k","_law_number"] ["_law_cell","_law_many","_law_boxes"] (ac z45):=fnS (by decide +kernel)
theorem be:cH (ac z45) ["_law_cell","_law_many","_law_boxes","_law_rows","_law_k","_law_number"]=true:=by decide +kernel
def q100:aD (ac z45) "range"=true:=by decide +kernel
theorem q124(T:Txt P w K mg)(D:DefF K mg "_law_filled" z45 ["_law_cell","_law_many","_law_boxes"]):OkF P w K mg base "_law_filled" 1 ["_law_cell","_law_many","_law_boxes"] (spD K 3 y45):=
 bZ D q49 rfl fun f cdv A outer s H E q=>(ah (dsN be q49.nd (bh aj))
     (ah (cE qb8 rfl (dJ q100 T.n_range (ab (al (pvN 1 be)) aj)) (aP (aU (nsN be 4) (nsL be 4) q49.nd)) (ah (dsN be q49.nd (DL.toO (DO.toL (ay bU cV (DO.toB (ay d9 f6 (DO.toB (ay aJ bv (af (pvN 0 be)) (DO.toB (ay d9 f6 (af (pvN 4 be)) (DL.toB ag))))) (DL.toB ag))) (DL.toB ag)))))
     (aw (bX (pvN 3 be) (DO.toL (ap q (DO.toB (bh (ab (DO.toL (aI (ab aS (ab (DO.toL (ap q (af (pvN 2 be)) (DO.toB (jJ (DL.toB ag))))) (ab (al (pvN 5 be)) aj))))) (ab (DO.toL (aI (ab aS (ab (DO.toL (ay fH iL (af (pvN 5 be)) (DL.toB ag))) aj)))) (ab (DO.toL (aI (ab aS (ab (DO.toL (ap q (af (pvN 2 be)) (DO.toB (jJ (DL.toB ag))))) aj)))) aj))))) (DO.toB (ay bU cV (af (pvN 5 be)) (DL.toB ag)))))))))
     (aw (dj (pvN 3 be)))))
abbrev y11:Jb:=top 47
theorem y1:FnScope ["_law_cell","_law_program_here","_law_boxes","_law_more","_law_number","_law_digits_here","_law_fills","_law_name","_law_start","_law_twin","_law_things","_law_rows","_law_first","_law_third","_law_fifth","_law_test"] ["_law_cell","_law_program_here","_law_boxes","_law_more"] (ac y11):=fnS (by decide +kernel)
theorem ae:cH (ac y11) ["_law_cell","_law_program_here","_law_boxes","_law_more","_law_number","_law_digits_here","_law_fills","_law_name","_law_start","_law_twin","_law_things","_law_rows","_law_first","_law_third","_law_fifth","_law_test"]=true:=by decide +kernel
def q60:aD (ac y11) "_law_digits"=true:=by decide +kernel
def q82:aD (ac y11) "range"=true:=by decide +kernel
def q24:aD (ac y11) "len"=true:=by decide +kernel
def q81:aD (ac y11) "tuple"=true:=by decide +kernel
theorem z107(T:Txt P w K mg)(D:DefF K mg "_law_round_about" y11 ["_law_cell","_law_program_here","_law_boxes","_law_more"])(O:OkF P w K mg base "_law_digits" 1 ["_law_number","_law_sizes"] (spD K 2 (z12)))(L:OkF P w K mg base "_law_filled" 1 ["_law_cell","_law_many","_law_boxes"] (spD K 3 (y45))):OkF P w K mg base "_law_round_about" 2 ["_law_cell","_law_program_here","_law_boxes","_law_more"] (spD K 4 z22):=
 bZ D y1 rfl fun f cdv A outer s H E q=>(ah (dsN ae y1.nd (DL.toO (DO.toL (ay bU cV (DO.toB (ay d9 f6 (af (pvN 0 ae)) (DL.toB ag))) (DL.toB ag)))))
     (ah (dsN ae y1.nd (DL.toO (DO.toL (ax q60 O (q.mono (by decide)) (ab (al (pvN 4 ae)) (ab (DO.toL (bh (ab ag (ab ag (ab ag (ab ag (ab ag (ab ag (ab ag (ab ag (ab ag aj))))))))))) aj))))))
     (ah (ld (nsN ae 6) (nsL ae 6) y1.nd (M:=["_law_k","_law_boxes","_law_number","_law_digits_here"]) (src:=[none,some 2,some 4,some 5]) (ts:=[0]) (CmpScope.of (by kernel_rfl)) rfl (DIF.toB (dJ q82 T.n_range (ab ag aj))) (fun W _ _ _ _=>(aP (dN (N:=["_law_k","_law_boxes","_law_number","_law_digits_here"]) (i:=0) (by decide +kernel) (by decide +kernel) W (scC (outer:=ac y11) (by exact rfl))))) (fun _ _ _ _=>cT) (fun _ _ _ _=>(DO.toL (ax (by decide +kernel) L (q.mono (by decide)) (ab (DO.toL (ay aJ bv (af (pvX (by kernel_rfl))) (DO.toB (ay d9 f6 (DL.toB ag) (af (pvX (by kernel_rfl))))))) (ab (DO.toL (ap q (af (pvX (by kernel_rfl))) (af (pvX (by kernel_rfl))))) (ab (al (pvX (by kernel_rfl))) aj))) (e1:=(scC (outer:=ac y11) rfl))))) (by decide +kernel))
     (ah (BR (DO.toL (ap q (DO.toB (ap q (af (pvN 1 ae)) (DL.toB ag))) (DL.toB ag))) (iI rfl (cj (aP (aU (nsN ae 7) (nsL ae 7) y1.nd)) (cj (aP (aU (nsN ae 8) (nsL ae 8) y1.nd)) (cj (aP (aU (nsN ae 9) (nsL ae 9) y1.nd)) gu)))))
     (ah (dsN ae y1.nd (DL.toO (DO.toL (aI (ab (DO.toL (aI (ab (al (pvN 7 ae)) (ab (al (pvN 8 ae)) (ab (DO.toL (iH (bW q) ev (DO.toB (ay bU cV (af (pvN 4 ae)) (DL.toB ag))) (DL.toB ag) (aR _))) aj))))) aj)))))
     (ah (dsN ae y1.nd (DL.toO (DO.toL (ay aJ bv (DO.toB (ay aJ bv (DO.toB (bh (ab (DO.toL (aI (ab aS (ab (al (pvN 7 ae)) (ab (DO.toL (ap q (af (pvN 5 ae)) (DL.toB ag))) aj))))) aj))) (DO.toB (ap q (af (pvN 6 ae)) (DL.toB ag))))) (DO.toB (bh (ab (DO.toL (aI (ab aS (ab (DO.toL (ap q (af (pvN 5 ae)) (DL.toB ag))) aj)))) aj)))))))
     (ah (dsN ae y1.nd (DL.toO (DO.toL (bh aj))))
     (ah (bL (bf (bW q) ev (DO.toB (ap q (af (pvN 5 ae)) (DL.toB ag))) (DL.toB ag) (aR _)) (ah (dsN ae y1.nd (DL.toO (DO.toL (ay rT v4 (af (pvN 10 ae)) (DO.toB (aI (ab (DO.toL (aI (ab (al (pvN 3 ae)) (ab (al (pvN 8 ae)) (ab j4 aj))))) aj)))))))
     (ah (dsN ae y1.nd (DL.toO (DO.toL (ay aJ bv (DO.toB (bh (ab (DO.toL (aI (ab aS (ab (al (pvN 3 ae)) (ab (DO.toL (ap q (af (pvN 5 ae)) (DL.toB ag))) aj))))) (ab (DO.toL (aI (ab aS (ab (DO.toL (ap q (af (pvN 5 ae)) (DL.toB ag))) aj)))) (ab (DO.toL (aI (ab aS (ab (al (pvN 7 ae)) (ab (DO.toL (ap q (af (pvN 5 ae)) (DL.toB ag))) aj))))) aj))))) (DO.toB (ap q (af (pvN 6 ae)) (DL.toB ag)))))))
     (ah (dsN ae y1.nd (DL.toO (DO.toL (ay aJ bv (af (pvN 11 ae)) (DO.toB (bh (ab (DO.toL (aI (ab aS (ab (DO.toL (ap q (af (pvN 2 ae)) (DO.toB (jJ (DL.toB ag))))) (ab (al (pvN 3 ae)) aj))))) (ab (DO.toL (aI (ab aS (ab ag aj)))) aj))))))))
     (aw (dsN ae y1.nd (DL.toO (DO.toL (bh (ab (DO.toL (aI (ab aS (ab (al (pvN 3 ae)) (ab (DO.toL (ap q (af (pvN 5 ae)) (DL.toB ag))) aj))))) aj))))))))) bp)
     (ah (dsN ae y1.nd (DL.toO (DO.toL (ay aJ bv (DL.toB ag) (DO.toB (bz q24 bB dm T.n_len cD (aG (af (pvN 11 ae)) aL)))))))
     (ah (dsN ae y1.nd (DL.toO (DO.toL (ay aJ bv (DO.toB (ay aJ bv (DO.toB (ay aJ bv (af (pvN 13 ae)) (DO.toB (bz q24 bB dm T.n_len cD (aG (af (pvN 12 ae)) aL))))) (DL.toB ag))) (DO.toB (bz q24 bB dm T.n_len cD (aG (DO.toB (ap q (af (pvN 6 ae)) (DL.toB ag))) aL)))))))
     (ah (dsN ae y1.nd (DL.toO (DO.toL (aI (ab aS (ab (DO.toL (ap q (DO.toB (bh (ab (DO.toL (ap q (af (pvN 2 ae)) (DL.toB ag))) (ab (DO.toL (ap q (af (pvN 5 ae)) (DL.toB ag))) aj)))) (DO.toB (ap q (af (pvN 5 ae)) (DL.toB ag))))) (ab (DO.toL (ay aJ bv (DO.toB (ay aJ bv (af (pvN 14 ae)) (DL.toB ag))) (DO.toB (bz q24 bB dm T.n_len cD (aG (DO.toB (ap q (af (pvN 6 ae)) (DL.toB ag))) aL))))) aj)))))))
     (ah (dsN ae y1.nd (DL.toO (DO.toL (ay aJ bv (DO.toB (ay aJ bv (DO.toB (ay aJ bv (DO.toB (ay aJ bv (DO.toB (bh (ab (DO.toL (aI (ab aS (ab (al (pvN 13 ae)) aj)))) aj))) (af (pvN 11 ae)))) (af (pvN 12 ae)))) (DO.toB (bh (ab (al (pvN 15 ae)) (ab (DO.toL (aI (ab aS (ab (al (pvN 7 ae)) (ab (DO.toL (ap q (af (pvN 2 ae)) (DL.toB ag))) aj))))) aj)))))) (DO.toB (ap q (af (pvN 6 ae)) (DL.toB ag)))))))
     (ah (dsN ae y1.nd (DL.toO (DO.toL (ay aJ bv (DO.toB (ay aJ bv (DO.toB (ay aJ bv (af (pvN 11 ae)) (DO.toB (bh (ab (DO.toL (aI (ab aS (ab (DO.toL (ap q (af (pvN 2 ae)) (DO.toB (jJ (DL.toB ag))))) (ab (al (pvN 7 ae)) aj))))) aj))))) (DO.toB (ap q (af (pvN 6 ae)) (DL.toB ag))))) (DO.toB (bh (ab (DO.toL (aI (ab aS (ab (DO.toL (ay aJ bv (DL.toB ag) (DO.toB (ay d9 f6 (DL.toB ag) (DO.toB (ap q (af (pvN 5 ae)) (DL.toB ag))))))) aj)))) aj)))))))
     (ah (dsN ae y1.nd (DL.toO (DO.toL (ay aJ bv (DO.toB (ay aJ bv (DO.toB (ay aJ bv (af (pvN 11 ae)) (DO.toB (bh (ab (DO.toL (aI (ab aS (ab (al (pvN 7 ae)) (ab (DO.toL (ap q (af (pvN 5 ae)) (DL.toB ag))) aj))))) aj))))) (DO.toB (ap q (af (pvN 6 ae)) (DL.toB ag))))) (DO.toB (bh (ab (DO.toL (aI (ab aS (ab (al (pvN 14 ae)) aj)))) aj)))))))
     (aw (aM (aI (ab (DO.toL (mY (DO.toB (ay sq wW (af (pvN 10 ae)) (DO.toB (mY (DO.toB (ap q (af (pvN 1 ae)) (DL.toB ag))) (dB (DL.toB ag)) fM)))) fM (dB (DL.toB ag)))) (ab (DO.toL (ap q (af (pvN 1 ae)) (DL.toB ag))) (ab (DO.toL (cM q81 bD dD T.n_tuple c6 (aG (af (pvN 11 ae)) aL))) aj))))))))))))))))))))
abbrev q72:Jb:=top 36
def z139:FnScope ["code","row"] ["code","row"] (ac q72):=fnS (by decide +kernel)
def lG:cH (ac q72) ["code","row"]=true:=by decide +kernel
def z118:aD (ac q72) "tuple"=true:=by decide +kernel
theorem y139(T:Txt P w K mg)(D:DefF K mg "without" q72 ["code","row"]):OkF P w K mg base "without" 1 ["code","row"] (spD K 2 y57):=bZ D z139 rfl fun f cdv A outer s H E q=>(aw (aM (aI (ab (DO.toL (ap q (af (pvN 0 lG)) (DL.toB ag))) (ab (DO.toL (cM z118 bD dD T.n_tuple c6 (aG (DO.toB (doC ["keep","row"] (by kernel_rfl) (bR (DO.toB (ap q (af (pvN 0 lG)) (DL.toB ag)))) (fun _ _ _ _=>fw (bf (k8 q) vR (DO.toB (ap q (af (pvX (by kernel_rfl))) (DL.toB ag))) (af (pvX (by kernel_rfl))) (aR _))) (fun _ _ _ _=>(al (pvX (by kernel_rfl)))))) aL))) aj)))))
abbrev z25:Jb:=top 37
theorem y35:FnScope ["program","code","left","row","thinner"] ["program","code"] (ac z25):=fnS (by decide +kernel)
def aZ:cH (ac z25) ["program","code","left","row","thinner"]=true:=by decide +kernel
def z80:aD (ac z25) "kept_rows"=true:=by decide +kernel
def y87:aD (ac z25) "without"=true:=by decide +kernel
def q98:aD (ac z25) "holds"=true:=by decide +kernel
theorem z120(T:Txt P w K mg)(D:DefF K mg "gone_through" z25 ["program","code"])(O:OkF P w K mg base "holds" 8 ["program","code"] (spD K 2 (q17)))(W:OkF P w K mg base "kept_rows" 1 ["code"] (spD K 1 (y13)))(q:OkF P w K mg base "without" 1 ["code","row"] (spD K 2 (y57))):OkF P w K mg base "gone_through" 9 ["program","code"] (spD K 2 q30):=
 bZ D y35 rfl fun f cdv A outer s H E L=>(ah (dsN aZ y35.nd (DL.toO (al (pvN 1 aZ))))
     (ah (cE qb8 rfl (ej (DO.toL (ax z80 W (L.mono (by decide)) (ab (al (pvN 1 aZ)) aj)))) (aP (aU (nsN aZ 3) (nsL aZ 3) y35.nd)) (ah (dsN aZ y35.nd (DL.toO (DO.toL (ax y87 q (L.mono (by decide)) (ab (al (pvN 2 aZ)) (ab (al (pvN 3 aZ)) aj))))))
     (aw (bL (c7 (DO.toB (ax q98 O (L.mono (by decide)) (ab (al (pvN 0 aZ)) (ab (al (pvN 4 aZ)) aj)))) (fun _=>rfl)) (aw (dsN aZ y35.nd (DL.toO (al (pvN 4 aZ))))) bp))))
     (aw (dj (pvN 2 aZ)))))
abbrev y58:Jb:=top 38
theorem y80:FnScope ["program","code","left"] ["program","code"] (ac y58):=fnS (by decide +kernel)
def bP:cH (ac y58) ["program","code","left"]=true:=by decide +kernel
def z117:aD (ac y58) "holds"=true:=by decide +kernel
def y51:aD (ac y58) "gone_through"=true:=by decide +kernel
theorem q140(T:Txt P w K mg)(D:DefF K mg "thinned" y58 ["program","code"])(q:OkF P w K mg base "gone_through" 9 ["program","code"] (spD K 2 (q30)))(O:OkF P w K mg base "holds" 8 ["program","code"] (spD K 2 (q17))):OkF P w K mg base "thinned" 10 ["program","code"] (spD K 2 y47):=
 bZ D y80 rfl fun f cdv A outer s H E L=>(ah (bL (vG (c7 (DO.toB (ax z117 O (L.mono (by decide)) (ab (al (pvN 0 bP)) (ab (al (pvN 1 bP)) aj)))) (fun _=>rfl))) (aw (dj (pvN 1 bP))) bp)
     (ah (dsN bP y80.nd (DL.toO (DO.toL (ax y51 q (L.mono (by decide)) (ab (al (pvN 0 bP)) (ab (al (pvN 1 bP)) aj))))))
     (ah (eT 100000 qb8 (bf (k8 L) vR (af (pvN 2 bP)) (af (pvN 1 bP)) (aR _)) (ah (dsN bP y80.nd (DL.toO (al (pvN 2 bP))))
     (aw (dsN bP y80.nd (DL.toO (DO.toL (ax y51 q (L.mono (by decide)) (ab (al (pvN 0 bP)) (ab (al (pvN 1 bP)) aj)))))))))
     (aw (dj (pvN 2 bP))))))
abbrev dU:Jb:=top 50
theorem sc_law:FnScope ["_law_script","_law_program_here","_law_boxes","_law_code","_law_number","_law_names_here","_law_due","_law_turn","_law_less"] ["_law_script"] (ac dU):=fnS (by decide +kernel)
theorem bu:cH (ac dU) ["_law_script","_law_program_here","_law_boxes","_law_code","_law_number","_law_names_here","_law_due","_law_turn","_law_less"]=true:=by decide +kernel
def y104:aD (ac dU) "_law_program"=true:=by decide +kernel
def z33:aD (ac dU) "_law_cell_at"=true:=by decide +kernel
def q77:aD (ac dU) "_law_names"=true:=by decide +kernel
def y103:aD (ac dU) "_law_cutting"=true:=by decide +kernel
def q87:aD (ac dU) "_law_round_about"=true:=by decide +kernel
def q115:aD (ac dU) "all_places"=true:=by decide +kernel
def y135:aD (ac dU) "holds"=true:=by decide +kernel
def q139:aD (ac dU) "len"=true:=by decide +kernel
def y132:aD (ac dU) "range"=true:=by decide +kernel
def z115:aD (ac dU) "_law_round"=true:=by decide +kernel
def y128:aD (ac dU) "thinned"=true:=by decide +kernel
theorem B9{f:J9}{fd:qp2}(T:Txt P w K mg)(D:Fun K "law" "law" dU f fd)(L:OkF P w K mg base "_law_cell_at" 1 ["_law_script","_law_k"] (spD K 2 (q4)))(y66:OkF P w K mg base "_law_cutting" 6 ["_law_program_here","_law_cell","_law_boxes"] (spD K 3 (z38)))(W:OkF P w K mg base "_law_names" 2 ["_law_cell","_law_many"] (spD K 2 (y15)))(q68:OkF P w K mg base "_law_program" 3 ["_law_script","_law_most","_law_wide"] (spD K 3 (q40)))(Z:OkF P w K mg base "_law_round" 9 ["_law_program_here","_law_code"] (spD K 2 (y39)))(q48:OkF P w K mg base "_law_round_about" 2 ["_law_cell","_law_program_here","_law_boxes","_law_more"] (spD K 4 (z22)))(q38:OkF P w K mg base "all_places" 5 ["program"] (spD K 1 (z23)))(Y:OkF P w K mg base "holds" 8 ["program","code"] (spD K 2 (q17)))(O:OkF P w K mg base "thinned" 10 ["program","code"] (spD K 2 (y47))):FnOk P w K mg base CX0 11 f fd ["_law_script"] (spD K 1 su):=
 DQ D sc_law rfl fun cdv A outer s H E q=>(ah (dsN bu sc_law.nd (DL.toO (DO.toL (ax y104 q68 (q.mono (by decide)) (ab (al (pvN 0 bu)) (ab ag (ab j4 aj)))))))
     (ah (dsN bu sc_law.nd (DL.toO (DO.toL (ax q77 W (q.mono (by decide)) (ab (DO.toL (ax z33 L (q.mono (by decide)) (ab (al (pvN 0 bu)) (ab ag aj)))) (ab ag aj))))))
     (ah (dsN bu sc_law.nd (DL.toO (DO.toL (ax y103 y66 (q.mono (by decide)) (ab (al (pvN 1 bu)) (ab (DO.toL (ax z33 L (q.mono (by decide)) (ab (al (pvN 0 bu)) (ab ag aj)))) (ab (DO.toL (ay aJ bv (DO.toB (eV (af (pvN 2 bu)) (dB (DL.toB ag)) fM)) (DO.toB (eV (af (pvN 2 bu)) fM (dB (DL.toB ag)))))) aj)))))))
     (ah (dsN bu sc_law.nd (DL.toO (DO.toL (ay bU cV (DO.toB (ay d9 f6 (DO.toB (ax z33 L (q.mono (by decide)) (ab (al (pvN 0 bu)) (ab ag aj)))) (DL.toB ag))) (DL.toB ag)))))
     (ah (dsN bu sc_law.nd (DL.toO (DO.toL (ax q77 W (q.mono (by decide)) (ab (DO.toL (ax z33 L (q.mono (by decide)) (ab (al (pvN 0 bu)) (ab ag aj)))) (ab ag aj))))))
     (ah (bL (bf (bW q) ev (DO.toB (ay bU cV (af (pvN 4 bu)) (DL.toB ag))) (DL.toB ag) (aR _)) (ah (dsN bu sc_law.nd (DL.toO (DO.toL (ax q87 q48 (q.mono (by decide)) (ab (DO.toL (ay fH iL (af (pvN 4 bu)) (DL.toB ag))) (ab (al (pvN 1 bu)) (ab (DO.toL (eV (af (pvN 2 bu)) fM (dB (DL.toB ag)))) (ab (DO.toL (ap q (af (pvN 5 bu)) (DL.toB ag))) aj))))))))
     (aw (dsN bu sc_law.nd (DL.toO (DO.toL (ax q115 q38 (q.mono (by decide)) (ab (al (pvN 1 bu)) aj))))))) bp)
     (ah (dsN bu sc_law.nd (DL.toO (al (pvN 3 bu))))
     (ah (bL (c7 (DO.toB (ax y135 Y (q.mono (by decide)) (ab (al (pvN 1 bu)) (ab (al (pvN 3 bu)) aj)))) (fun _=>rfl)) (aw (cE qb8 rfl (dJ y132 T.n_range (ab (DO.toL (ay aJ bv (DO.toB (bz q139 bB dm T.n_len cD (aG (DO.toB (ap q (af (pvN 3 bu)) (DL.toB ag))) aL))) (DL.toB ag))) aj)) (aP (aU (nsN bu 7) (nsL bu 7) sc_law.nd)) (ah (dsN bu sc_law.nd (DL.toO (DO.toL (ax z115 Z (q.mono (by decide)) (ab (al (pvN 1 bu)) (ab (al (pvN 6 bu)) aj))))))
     (ah (bL (bf (bW q) ev (af (pvN 8 bu)) (af (pvN 6 bu)) (aR _)) (aw vJ) bp)
     (aw (dsN bu sc_law.nd (DL.toO (al (pvN 8 bu))))))))) bp)
     (aw (aM (iH (bW q) ev (DO.toB (ax y128 O (q.mono (by decide)) (ab (al (pvN 1 bu)) (ab (al (pvN 3 bu)) aj)))) (af (pvN 6 bu)) (aR _))))))))))))
end
end P53
namespace L2
open PySem PySem.Spec PyProof.Rows
variable{i j:Int}
def gAdd_i:aN (.int i) (.int j)=some (.leaf (.int (i+j))):=rfl
variable{x y:Str}
def wZ(h:x.length+y.length<=qb1):aN (.str x) (.str y)=some (.leaf (.str (x++y))):=if_pos h
variable{l m:List Dt}
def w4(h:l.length+m.length<=qb1):aN (.lst l) (.lst m)=some (.lst (l++m)):=if_pos h
theorem Ca(h:l.length+m.length<=qb1/\l≠[]/\m≠[]):aN (.tup l) (.tup m)=some (.leaf (.tup (l++m))):=if_pos h
def gSub_i:gJ (.int i) (.int j)=some (.leaf (.int (i-j))):=rfl
def w6(h:j6 i j=true):eU (.int i) (.int j)=some (.leaf (.int (i*j))):=if_pos h
def fS(h:0<j):ck (.int i) (.int j)=some (.leaf (.int (i%j))):=if_pos h
def Cb(h:oV i j=true):qj (.int i) (.int j)=some (.leaf (.int (i^j.toNat))):=if_pos h
def w8:oV 2 40=true:=by decide
@[irreducible] def wide:Int:=1099511627776
def sv:wide=1099511627776:=by unfold wide;rfl
def EA:qj (.int 2) (.int 40)=some (.leaf (.int wide)):=by rw[Cb w8,sv];rfl
def w9:(0:Int)<wide:=by rw[sv];decide
def gMod_w:ck (.int i) (.int wide)=some (.leaf (.int (i%wide))):=fS w9
def gCmp_i{f:Int->Int->Bool}:ix f (.int i) (.int j)=some (.leaf (.bl (f i j))):=rfl
theorem D5(h:(cmpbs l m&&decide (deeps l<=59))=true):eqD (.tup l) (.tup m)=some (peqs l m):=if_pos h
theorem D6(h:(cmpbs l m&&decide (deeps l<=59))=true):eqD (.lst l) (.lst m)=some (peqs l m):=if_pos h
variable{neg b:Bool}
theorem xa{x y:Dt}(h:eqD x y=some b):gEq neg x y=some (.leaf (.bl (if neg then !b else b))):=by unfold gEq;rw[h];rfl
def gEq_ii:gEq false (.int i) (.int j)=some (.leaf (.bl (decide (i=j)))):=rfl
def Cc{i j:Str}:gEq false (.str i) (.str j)=some (.leaf (.bl (decide (i=j)))):=rfl
def gNe_ss{i j:Str}:gEq true (.str i) (.str j)=some (.leaf (.bl (!decide (i=j)))):=rfl
def gIs_n{x:Dt}:gIs neg x .non=some (.leaf (.bl (if neg then !g8 x else g8 x))):=rfl
def hX:au (.lst l) (.int i)=(atI l i).map .leaf:=rfl
def xb:au (.tup l) (.int i)=(atI l i).map .leaf:=rfl
theorem D7(h:x.length<=qb1):au (.str x) (.int i)=(atI x.cps.toList i).map fun c=>.leaf (.str ⟨#[c]⟩):=if_pos h
theorem D8{x:Dt}(h:(c8 x&&l.all c8)=true):cB neg x (.lst l)=some (.leaf (.bl (if neg then !(l.any fun y=>eqF y x)else l.any fun y=>eqF y x))):=by cases x<;>simp only[cB,gIn,inD]<;>first|rw[if_pos h];rfl|cases h
theorem D9{x:Dt}(h:(c8 x&&l.all c8)=true):cB neg x (.tup l)=some (.leaf (.bl (if neg then !(l.any fun y=>eqF y x)else l.any fun y=>eqF y x))):=by cases x<;>simp only[cB,gIn,inD]<;>first|rw[if_pos h];rfl|cases h
def gLen_l:cS [.lst l]=some (.leaf (.int l.length)):=rfl
def gLen_t:cS [.tup l]=some (.leaf (.int l.length)):=rfl
def Ea:cy [.lst l]=some (.leaf (.tup l)):=rfl
def Cd(h:mx j=true):fY [.int j]=some (k7 0 j.toNat):=if_pos h
theorem xc(q:-1000000000<=j)(h1:j<=1000000000):mx j=true:=by unfold mx;simp only[qb2,decide_eq_true_eq];lia
variable{n:Nat}
def Ce(h:n<=1000000000):fY [.int n]=some (k7 0 n):=by rw[Cd (xc (by lia) (by lia))];rfl
def itD_l:itD (.lst l)=some l:=rfl
def itD_t:itD (.tup l)=some l:=rfl
def truD_b:tZ (.bl b)=some b:=rfl
def asB_b:asB (.leaf (.bl b))=some b:=rfl
def Eb{b:Int}:asI (.int b)=some b:=rfl
def small(h:n<=1000000):n<=qb1:=qb5 h (by decide)
def jo(h:n<1000000):n<qb1:=qb9 h (by decide)
variable{g1 g2:De->Option Out}{δ:De}
def aC{δ':De}(h:g1 δ=some (.nx δ')):ar g1 g2 δ=g2 δ':=by unfold ar;rw[h];rfl
def n5{t:T}(h:g1 δ=some (.rt t)):ar g1 g2 δ=some (.rt t):=by unfold ar;rw[h];rfl
variable{src:List (Option Nat)}{fi:De->Option (List Dt)}{bb:Dt->De->Option De}{ft:De->Option Bool}{fe:De->Option Dt}{ds:List Dt}
theorem xf{ys:List Dt}(h1:fi δ=some ds)(h2:cb bb ft fe (dC src δ) ds=some ys)(h3:ys.length<=1000000):bA src fi bb ft fe δ=some (.lst ys):=by unfold bA;rw[h1,qa2,h2,qa2];exact if_pos (small h3)
variable{g:De->Option Out}{δ1:De}
theorem bo{d:Dt}{r:List Dt}{δ2:De}(h1:bb d δ=some δ1)(h2:g δ1=some (.nx δ2)):cA bb g (d::r) δ=cA bb g r δ2:=by show((bb d δ).bind fun δ1=>(g δ1).bind fun o=>match o with|.nx δ2=>cA bb g r δ2|.ct δ2=>cA bb g r δ2|.bk δ2=>some (.nx δ2)|.rt t=>some (.rt t))=_;rw[h1,qa2,h2];rfl
def bJ{α:Type}{l:List α}{k:Nat}:atI l (k:Int)=l[k]?:=by
 unfold atI ixN;rw[if_pos (by lia)];by_cases h:k<l.length
 .rw[if_pos (by lia)];simp
 .rw[if_neg (by lia)];simp;lia
theorem gMul_l(h1:-1000000000000000000<i)(h2:i<1000000000000000000):eU (.int i) (.int j)=some (.leaf (.int (i*j))):=w6 (yL h1 h2)
theorem gMul_r(h1:-1000000000000000000<j)(h2:j<1000000000000000000):eU (.int i) (.int j)=some (.leaf (.int (i*j))):=w6 (yM h1 h2)
def pE(o:Option Out)(g:De->Option Out):Option Out:=o.bind fun o=>match o with
 |.nx q=>g q
 |o=>some o
def b8:ar g1 g2 δ=pE (g1 δ) g2:=rfl
def cF:pE (some (.nx δ)) g=g δ:=rfl
def Ec{t:T}:pE (some (.rt t)) g=some (.rt t):=rfl
def lH:Option Out->Option T
 |some (.rt t)=>some t
 |some (.nx _)=>some (.leaf .non)
 |_=>none
theorem jT{m:Nat}:ce m g ds=lH (g (ds.map (fun d=>some (.leaf d))++qf3 (m-ds.length) none)):=rfl
def EB{t:T}:lH (some (.rt t))=some t:=rfl
def ke{α:Type}(b:Option Bool)(f g:De->Option α)(δ:De):Option α:=b.bind fun b=>if b then f δ else g δ
def ii{α:Type}{f g:De->Option α}:ke (some true) f g δ=f δ:=rfl
def ij{α:Type}{f g:De->Option α}:ke (some false) f g δ=g δ:=rfl
def gA{α:Type}{f g:De->Option α}(h:b=true):ke (some b) f g δ=f δ:=by subst h;rfl
def gB{α:Type}{f g:De->Option α}(h:b=false):ke (some b) f g δ=g δ:=by subst h;rfl
variable{c:De->Option Bool}
def kf:sIf c g1 g2 δ=ke (c δ) g1 g2 δ:=rfl
def Ed{g1 g2:De->Option T}:vIf c g1 g2 δ=ke (c δ) g1 g2 δ:=rfl
def kB(b:Bool):De->Option Bool:=fun _=>some b
def kB_d:kB b δ=some b:=rfl
variable{f:De->Option Bool}
def jU{g:De->Option Bool}:fG f g δ=ke (f δ) g (kB false) δ:=rfl
def Ee{g:De->Option Bool}:fOr f g δ=ke (f δ) (kB true) g δ:=rfl
def mkL(ds:List Dt):Option T:=if ds.length<=qb1 then some (.lst ds)else none
def mkTp(ds:List Dt):Option T:=if ds.length<=qb1 then some (.leaf (.tup ds))else none
def cO(h:ds.length<=1000000):mkL ds=some (.lst ds):=if_pos (small h)
def EC(h:ds.length<=1000000):mkTp ds=some (.leaf (.tup ds)):=if_pos (small h)
def lI{f:De->Option (List Dt)}:bE f δ=(f δ).bind mkL:=rfl
def vTup_d{f:De->Option (List Dt)}:aT f δ=(f δ).bind mkTp:=rfl
def ED:bA src fi bb ft fe δ=(fi δ).bind fun ds=>(cb bb ft fe (dC src δ) ds).bind mkL:=rfl
def appL(l:List Dt)(i:Nat)(δ:De)(d:Dt):Option Out:=if l.length<qb1 then some (.nx (δ.set i (some (.lst (l++[d])))))else none
theorem fN{i:Nat}{d:Dt}(h:l.length<1000000):appL l i δ d=some (.nx (δ.set i (some (.lst (l++[d]))))):=if_pos (jo h)
theorem kg{i:Nat}{f:De->Option Dt}(h:δ[i]?=some (some (.lst l))):z11 i f δ=(f δ).bind (appL l i δ):=by unfold z11;rw[h];rfl
def lJ:∀ts:List Str,jK (ts.map .str)=some ts
 |[]=>rfl
 |t::r=>by show(jK (r.map .str)).map (t::·)=_;rw[lJ r];rfl
def Cf{α:Type}{xs:List α}(L:0<=i)(h1:i<xs.length):∃v,atI xs i=some v/\v∈xs:=by
 obtain⟨n,rfl⟩:=Int.eq_ofNat_of_zero_le L;have q:n<xs.length:=by lia
 exact⟨xs[n],yv (by simp[q]),zb6 q⟩
def zo(x:Str):x.length=x.cps.toList.length:=by show x.cps.size=_;simp
theorem n6(q:x.length<=1000000)(L:0<=i)(h1:i<x.length):∃c,au (.str x) (.int i)=some (.leaf (.str ⟨#[c]⟩))/\c∈x.cps.toList:=by obtain⟨c,e,O⟩:=Cf (xs:=x.cps.toList) L (by rw[<- zo];exact h1);refine⟨c,?_,O⟩;rw[D7 (small q),e];rfl
def n8(h:l.length+m.length<=1000000):aN (.lst l) (.lst m)=some (.lst (l++m)):=w4 (small h)
def EE:c8 (.int i)=true:=rfl
def EF:c8 (.str x)=true:=rfl
def eqF_s:eqF (.str x) (.str y)=decide (x=y):=by show(x==y)=_;rw[qi4];simp
def eqF_i{x y:Int}:eqF (.int x) (.int y)=decide (x=y):=by show(x==y)=_;rw[qi4];simp
def lK:∀{l m:List Dt},l.all c8=true->m.all c8=true->cmpbs l m=true
 |[],m,_,_=>by cases m<;>simp[cmpbs]
 |_::_,[],_,_=>by simp[cmpbs]
 |d::l,e::m,h,h'=>by
  simp only[qk1,qb2]at h h';simp only[cmpbs,lK h.2 h'.2,qn5];cases d<;>first|(cases h.1;done)|skip
  all_goals cases e<;>first|(cases h'.1;done)|rfl
def lL:∀{l:List Dt},l.all c8=true->deeps l=0
 |[],_=>by simp[deeps]
 |d::l,h=>by simp only[qk1,qb2]at h;simp only[deeps,lL h.2];cases d<;>first|(cases h.1;done)|rfl
theorem xg(q:l.all c8=true)(L:m.all c8=true):gEq neg (.lst l) (.lst m)=some (.leaf (.bl (if neg then !peqs l m else peqs l m))):=xa (D6 (by rw[lK q L,lL q];rfl))
def iN:dg fi bb g δ=(fi δ).bind fun ds=>cA bb g ds δ:=rfl
def atI_0{α:Type}{l:List α}:atI l 0=l[0]?:=bJ (k:=0)
def atI_1{α:Type}{l:List α}:atI l 1=l[1]?:=bJ (k:=1)
def atI_2{α:Type}{l:List α}:atI l 2=l[2]?:=bJ (k:=2)
def atI_3{α:Type}{l:List α}:atI l 3=l[3]?:=bJ (k:=3)
def atI_4{α:Type}{l:List α}:atI l 4=l[4]?:=bJ (k:=4)
def atI_5{α:Type}{l:List α}:atI l 5=l[5]?:=bJ (k:=5)
def atI_6{α:Type}{l:List α}:atI l 6=l[6]?:=bJ (k:=6)
open PySem
def Cg:(qa0 "copy"=qa0 "op")=False:=eq_false (by decide +kernel)
def zq:(qa0 "copy"=qa0 "load")=False:=eq_false (by decide +kernel)
def xY:(qa0 "copy"=qa0 "store")=False:=eq_false (by decide +kernel)
def zr:(qa0 "copy"=qa0 "take")=False:=eq_false (by decide +kernel)
def Ay:(qa0 "copy"=qa0 "lay")=False:=eq_false (by decide +kernel)
def zt:(qa0 "copy"=qa0 "hear")=False:=eq_false (by decide +kernel)
def Az:(qa0 "copy"=qa0 "say")=False:=eq_false (by decide +kernel)
def Ch:(qa0 "copy"=qa0 "if")=False:=eq_false (by decide +kernel)
def Ci:(qa0 "copy"=qa0 "go")=False:=eq_false (by decide +kernel)
def AA:(qa0 "copy"=qa0 "end")=False:=eq_false (by decide +kernel)
def Cj:(qa0 "op"=qa0 "copy")=False:=eq_false (by decide +kernel)
def Ck:(qa0 "op"=qa0 "load")=False:=eq_false (by decide +kernel)
def AB:(qa0 "op"=qa0 "store")=False:=eq_false (by decide +kernel)
def Cl:(qa0 "op"=qa0 "take")=False:=eq_false (by decide +kernel)
def CZ:(qa0 "op"=qa0 "lay")=False:=eq_false (by decide +kernel)
def Cm:(qa0 "op"=qa0 "hear")=False:=eq_false (by decide +kernel)
def C0:(qa0 "op"=qa0 "say")=False:=eq_false (by decide +kernel)
def Ef:(qa0 "op"=qa0 "if")=False:=eq_false (by decide +kernel)
def Eg:(qa0 "op"=qa0 "go")=False:=eq_false (by decide +kernel)
def C3:(qa0 "op"=qa0 "end")=False:=eq_false (by decide +kernel)
def zu:(qa0 "load"=qa0 "copy")=False:=eq_false (by decide +kernel)
def Cn:(qa0 "load"=qa0 "op")=False:=eq_false (by decide +kernel)
def xZ:(qa0 "load"=qa0 "store")=False:=eq_false (by decide +kernel)
def zw:(qa0 "load"=qa0 "take")=False:=eq_false (by decide +kernel)
def AC:(qa0 "load"=qa0 "lay")=False:=eq_false (by decide +kernel)
def zy:(qa0 "load"=qa0 "hear")=False:=eq_false (by decide +kernel)
def AD:(qa0 "load"=qa0 "say")=False:=eq_false (by decide +kernel)
def Co:(qa0 "load"=qa0 "if")=False:=eq_false (by decide +kernel)
def Cp:(qa0 "load"=qa0 "go")=False:=eq_false (by decide +kernel)
def AE:(qa0 "load"=qa0 "end")=False:=eq_false (by decide +kernel)
def ya:(qa0 "store"=qa0 "copy")=False:=eq_false (by decide +kernel)
def AF:(qa0 "store"=qa0 "op")=False:=eq_false (by decide +kernel)
def yb:(qa0 "store"=qa0 "load")=False:=eq_false (by decide +kernel)
def yc:(qa0 "store"=qa0 "take")=False:=eq_false (by decide +kernel)
def zz:(qa0 "store"=qa0 "lay")=False:=eq_false (by decide +kernel)
def yd:(qa0 "store"=qa0 "hear")=False:=eq_false (by decide +kernel)
def zA:(qa0 "store"=qa0 "say")=False:=eq_false (by decide +kernel)
def AG:(qa0 "store"=qa0 "if")=False:=eq_false (by decide +kernel)
def AH:(qa0 "store"=qa0 "go")=False:=eq_false (by decide +kernel)
def zB:(qa0 "store"=qa0 "end")=False:=eq_false (by decide +kernel)
def zC:(qa0 "take"=qa0 "copy")=False:=eq_false (by decide +kernel)
def Cq:(qa0 "take"=qa0 "op")=False:=eq_false (by decide +kernel)
def zD:(qa0 "take"=qa0 "load")=False:=eq_false (by decide +kernel)
def ye:(qa0 "take"=qa0 "store")=False:=eq_false (by decide +kernel)
def AI:(qa0 "take"=qa0 "lay")=False:=eq_false (by decide +kernel)
def zE:(qa0 "take"=qa0 "hear")=False:=eq_false (by decide +kernel)
def AJ:(qa0 "take"=qa0 "say")=False:=eq_false (by decide +kernel)
def Cr:(qa0 "take"=qa0 "if")=False:=eq_false (by decide +kernel)
def Cs:(qa0 "take"=qa0 "go")=False:=eq_false (by decide +kernel)
def AK:(qa0 "take"=qa0 "end")=False:=eq_false (by decide +kernel)
def AL:(qa0 "lay"=qa0 "copy")=False:=eq_false (by decide +kernel)
def C4:(qa0 "lay"=qa0 "op")=False:=eq_false (by decide +kernel)
def AM:(qa0 "lay"=qa0 "load")=False:=eq_false (by decide +kernel)
def zF:(qa0 "lay"=qa0 "store")=False:=eq_false (by decide +kernel)
def AN:(qa0 "lay"=qa0 "take")=False:=eq_false (by decide +kernel)
def AO:(qa0 "lay"=qa0 "hear")=False:=eq_false (by decide +kernel)
def Ct:(qa0 "lay"=qa0 "say")=False:=eq_false (by decide +kernel)
def C5:(qa0 "lay"=qa0 "if")=False:=eq_false (by decide +kernel)
def C6:(qa0 "lay"=qa0 "go")=False:=eq_false (by decide +kernel)
def Cu:(qa0 "lay"=qa0 "end")=False:=eq_false (by decide +kernel)
def zG:(qa0 "hear"=qa0 "copy")=False:=eq_false (by decide +kernel)
def Cv:(qa0 "hear"=qa0 "op")=False:=eq_false (by decide +kernel)
def zH:(qa0 "hear"=qa0 "load")=False:=eq_false (by decide +kernel)
def yf:(qa0 "hear"=qa0 "store")=False:=eq_false (by decide +kernel)
def zI:(qa0 "hear"=qa0 "take")=False:=eq_false (by decide +kernel)
def AQ:(qa0 "hear"=qa0 "lay")=False:=eq_false (by decide +kernel)
def AR:(qa0 "hear"=qa0 "say")=False:=eq_false (by decide +kernel)
def Cw:(qa0 "hear"=qa0 "if")=False:=eq_false (by decide +kernel)
def Cy:(qa0 "hear"=qa0 "go")=False:=eq_false (by decide +kernel)
def AS:(qa0 "hear"=qa0 "end")=False:=eq_false (by decide +kernel)
def zJ:(qa0 "say"=qa0 "store")=False:=eq_false (by decide +kernel)
def C7:(qa0 "say"=qa0 "if")=False:=eq_false (by decide +kernel)
def C8:(qa0 "say"=qa0 "go")=False:=eq_false (by decide +kernel)
def Cz:(qa0 "say"=qa0 "end")=False:=eq_false (by decide +kernel)
def AT:(qa0 "if"=qa0 "store")=False:=eq_false (by decide +kernel)
def Eh:(qa0 "if"=qa0 "go")=False:=eq_false (by decide +kernel)
def C9:(qa0 "if"=qa0 "end")=False:=eq_false (by decide +kernel)
def AU:(qa0 "go"=qa0 "store")=False:=eq_false (by decide +kernel)
def Db:(qa0 "go"=qa0 "end")=False:=eq_false (by decide +kernel)
def zK:(qa0 "end"=qa0 "store")=False:=eq_false (by decide +kernel)
def Dc:(qa0 "end"=qa0 "if")=False:=eq_false (by decide +kernel)
def Df:(qa0 "end"=qa0 "go")=False:=eq_false (by decide +kernel)
variable{J5:List Str}
def xh{k:Str}:x∈fK J5 k↔x∈J5∨x=k:=by
 unfold fK;split
 .rename_i h;exact⟨.inl,fun z=>z.elim id fun e=>e▸h⟩
 .simp
def hZ:∀{ss J5:List Str},x∈ss.foldl fK J5↔x∈J5∨x∈ss
 |[],J5=>by simp
 |s::ss,J5=>by rw[qi6,hZ,xh,qa9,or_assoc]
variable{ss:List Str}
def onces_mem:x∈cR ss↔x∈ss:=by unfold cR;rw[hZ];simp
def qJ{k:Str}(h:J5.Nodup):(fK J5 k).Nodup:=by
 unfold fK;split
 .exact h
 .rename_i hk;rw[qk9];exact⟨h,by simp,fun a q b L e=>hk (by rw[qa6.mp L]at e;exact e▸q)⟩
def gh:∀{ss J5:List Str},J5.Nodup->(ss.foldl fK J5).Nodup
 |[],J5,h=>h
 |s::ss,J5,h=>by rw[qi6];exact gh (qJ h)
def pF(ss:List Str):(cR ss).Nodup:=gh qt5
def Sd(l:List Str):Prop:=l.Pairwise fun a b=>leS a b=true/\a≠b
def zL(q:ss.Nodup):Sd (fj ss):=by
 have h1:=jh ss;have h2:(fj ss).Pairwise fun a b=>a≠b:=(eC ss).nodup_iff.mpr q
 exact h1.and h2
def Sd.nodup{l:List Str}(h:Sd l):l.Nodup:=qs9 (fun z=>z.2) h
def xi:∀{l m:List Str},Sd l->Sd m->(∀x,x∈l↔x∈m)->l=m
 |[],[],_,_,_=>rfl
 |[],b::m,_,_,h=>by simpa using (h b).mpr (.head _)
 |a::l,[],_,_,h=>by simpa using (h a).mp (.head _)
 |a::l,b::m,W,Y,h=>by
  have L:=qh5.mp W;have q:=qh5.mp Y
  have e:a=b:=by
   rcases qa9.mp ((h a).mp (.head _))with z|z
   .exact z
   .rcases qa9.mp ((h b).mpr (.head _))with y|y
    .exact y.symm
    .exact pe (L.1 b y).1 (q.1 a z).1
  subst e;congr 1;refine xi L.2 q.2 fun x=>⟨fun O=>?_,fun O=>?_⟩
  .rcases qa9.mp ((h x).mp (.tail _ O))with z|z
   .exact absurd z.symm (L.1 x O).2
   .exact z
  .rcases qa9.mp ((h x).mpr (.tail _ O))with z|z
   .exact absurd z.symm (q.1 x O).2
   .exact z
def bY{α:Type}[DecidableEq α]:∀{l m:List α},l.Nodup->(∀x∈l,x∈m)->l.length<=m.length
 |[],m,_,_=>qh8 _
 |a::l,m,h,q=>by
  obtain⟨h1,h2⟩:=qi5.mp h;have L:a∈m:=q a (.head _);have:=bY (m:=m.erase a) h2 fun x O=>(List.mem_erase_of_ne (show x≠a from fun e=>h1 (by rw[<- e];exact O))).mpr (q x (.tail _ O))
  rw[List.length_erase_of_mem L]at this;have hp:=List.length_pos_of_mem L;rw[qc2];lia
def Ei{l m:List Str}(O:Sd l)(W:Sd m)(h:∀x∈l,x∈m)(Y:l≠m):l.length<m.length:=by
 by_cases z:∃x,x∈m/\x∉l
 .obtain⟨x,h1,h2⟩:=z
  have:=bY (l:=x::l) (m:=m) (qi5.mpr ⟨h2,O.nodup⟩) fun y L=>by
   rcases qa9.mp L with rfl|L
   .exact h1
   .exact h y L
  rw[qc2]at this;lia
 .exact absurd (xi O W fun x=>⟨h x,fun Z=>qx7 fun q=>z ⟨x,Z,q⟩⟩) Y
inductive Atm where
 |nm (x:Str)|vl (i:Int)
inductive Rw where
 |copy (x:Str) (a:Atm)|op (x s:Str) (a b:Atm)|load (x c:Str)|store (c:Str) (a:Atm)|take (x f:Str) (a:Atm)|lay (f:Str) (a b:Atm)|hear (x:Str)|say (a:Atm)|iff (a:Atm) (g:Nat)|go (g:Nat)|fin (a:Atm)
def Rw.atoms:Rw->List Atm
 |.copy _ a=>[a]|.op _ _ a b=>[a,b]|.load _ _=>[]|.store _ a=>[a]|.take _ _ a=>[a]|.lay _ a b=>[a,b]|.hear _=>[]|.say a=>[a]|.iff a _=>[a]|.go _=>[]|.fin a=>[a]
def nms:List Atm->List Str
 |[]=>[]
 |.nm x::r=>x::nms r
 |.vl _::r=>nms r
def Rw.reads(r:Rw):List Str:=cR (nms r.atoms)
def Rw.sets:Rw->Option Str
 |.copy x _=>some x|.op x _ _ _=>some x|.load x _=>some x|.take x _ _=>some x|.hear x=>some x
 |_=>none
def Rw.outs(n:Nat):Rw->List Nat
 |.go g=>[g]|.iff _ g=>[g,n+1]|.fin _=>[]
 |_=>[n+1]
def n9:∀l:List Atm,(nms l).length<=l.length
 |[]=>nL _
 |.nm x::r=>Nat.succ_le_succ (n9 r)
 |.vl _::r=>Nat.le_succ_of_le (n9 r)
def Rw.reads_len(r:Rw):r.reads.length<=2:=by
 have h1:=mT (nms r.atoms);have h2:=n9 r.atoms;have h3:r.atoms.length<=2:=by cases r<;>simp[Rw.atoms]
 unfold Rw.reads;lia
def Rw.outs_len(r:Rw)(n:Nat):(r.outs n).length<=2:=by cases r<;>simp[Rw.outs]
def kh(r:Rw)(q:List (List Str)):List Str:=q.flatMap fun l=>l.filter fun b=>decide (r.sets≠some b)
def NA(r:Rw)(q:List (List Str)):List Str:=fj (cR (r.reads++kh r q))
def uB:x∈fj ss↔x∈ss:=(eC ss).mem_iff
variable{r:Rw}
def CA{O:List (List Str)}{b:Str}:b∈NA r O↔b∈r.reads∨(r.sets≠some b/\∃l∈O,b∈l):=by
 unfold NA kh;rw[uB,onces_mem,qd6,List.mem_flatMap];constructor
 .rintro(h|⟨l,L,q⟩)
  .exact .inl h
  .rw[qg9,decide_eq_true_eq]at q;exact .inr ⟨q.2,l,L,q.1⟩
 .rintro(h|⟨h,l,L,q⟩)
  .exact .inl h
  .exact .inr ⟨l,L,qg9.mpr ⟨q,decide_eq_true_eq.mpr h⟩⟩
def Ej(r:Rw)(q:List (List Str)):Sd (NA r q):=zL (pF _)
inductive Needs(J0:List Rw):Nat->Str->Prop
 |here {i:Nat} {r:Rw} {b:Str}:J0[i]?=some r->b∈r.reads->Needs J0 i b
 |on {i j:Nat} {r:Rw} {b:Str}:J0[i]?=some r->r.sets≠some b->j∈r.outs i->Needs J0 j b->Needs J0 i b
def nw(J0:List Rw)(J3:List (List Str))(i:Nat):List Str:=match J0[i]? with
 |some r=>NA r ((r.outs i).map fun j=>J3.getD j [])
 |none=>[]
variable{J0:List Rw}
theorem qK{J3:List (List Str)}{i:Nat}{b:Str}(h:J0[i]?=some r):b∈nw J0 J3 i↔b∈r.reads∨(r.sets≠some b/\∃j∈r.outs i,b∈J3.getD j []):=by
 unfold nw;rw[h];show b∈NA r _↔_;rw[CA];simp only[qd2];constructor
 .rintro(h|⟨h,l,⟨j,q,rfl⟩,L⟩)
  .exact .inl h
  .exact .inr ⟨h,j,q,L⟩
 .rintro(h|⟨h,j,q,L⟩)
  .exact .inl h
  .exact .inr ⟨h,_,⟨j,q,rfl⟩,L⟩
def AV(J0:List Rw)(J3:List (List Str))(i:Nat):Sd (nw J0 J3 i):=by
 unfold nw;split
 .exact Ej _ _
 .exact qp3
def oe{α:Type}{l:List (List α)}{j:Nat}{b:α}(h:b∈l.getD j []):∃m,l[j]?=some m/\b∈m:=by
 rw[qc5]at h;cases q:l[j]? with
 |none=>rw[q]at h;simp at h
 |some m=>rw[q]at h;exact⟨m,rfl,h⟩
theorem og{α:Type}{l:List (List α)}{j:Nat}{m:List α}(h:l[j]?=some m):l.getD j []=m:=by rw[qc5,h];rfl
structure Fnd(J0:List Rw)(B:List Str)(J3:List (List Str)):Prop where
 len:J3.length=J0.length
 sd:∀(i:Nat)(l:List Str),J3[i]?=some l->Sd l
 sub:∀(i:Nat)(l:List Str)(b:Str),J3[i]?=some l->b∈l->b∈B
 nd:∀(i:Nat)(l:List Str)(b:Str),J3[i]?=some l->b∈l->Needs J0 i b
 inc:∀(i:Nat)(l:List Str)(b:Str),J3[i]?=some l->b∈l->b∈nw J0 J3 i
def tot(J3:List (List Str)):Nat:=(J3.map qq7).sum
def Fnd.start{B:List Str}:Fnd J0 B (J0.map fun _=>[]):=by
 have L:∀(i:Nat)(l:List Str),(J0.map fun _=>([]:List Str))[i]?=some l->l=[]:=fun i l h=>by rw[qb3]at h;obtain⟨r,_,e⟩:=mS h;exact e.symm
 refine⟨by simp,fun i l h=>?_,fun i l b h q=>?_,fun i l b h q=>?_,fun i l b h q=>?_⟩
 .rw[L i l h];exact qp3
 all_goals (rw[L i l h]at q;cases q)
section
variable{J0:List Rw}{B:List Str}{J3:List (List Str)}
theorem sw{f g:List (List Str)}(h:∀j b,b∈f.getD j []->b∈g.getD j []){i:Nat}{b:Str}(L:b∈nw J0 f i):b∈nw J0 g i:=by
 cases q:J0[i]? with
 |none=>unfold nw at L;rw[q]at L;cases L
 |some r=>rw[qK q]at L ⊢;exact L.imp id fun⟨h1,j,O,L⟩=>⟨h1,j,O,h j b L⟩
theorem Fnd.step(F:Fnd J0 B J3)(Z:∀(i:Nat)(r:Rw)(b:Str),J0[i]?=some r->b∈r.reads->b∈B){i:Nat}(hi:i<J0.length):Fnd J0 B (J3.set i (nw J0 J3 i)):=by
 have O:i<J3.length:=by rw[F.len];exact hi
 obtain⟨r,W⟩:∃r,J0[i]?=some r:=⟨J0[i],by simp[hi]⟩
 have mono:∀j b,b∈J3.getD j []->b∈(J3.set i (nw J0 J3 i)).getD j []:=fun j b q=>by
  obtain⟨m,L,Y⟩:=oe q;by_cases e:i=j
  .subst e;rw[og (qf5 O)];exact F.inc i m b L Y
  .rw[og (l:=J3.set i (nw J0 J3 i)) (m:=m) (by rw[gN e];exact L)];exact Y
 refine⟨by simp[F.len],fun j l h=>?_,fun j l b h q=>?_,fun j l b h q=>?_,fun j l b h q=>?_⟩
 .by_cases e:i=j
  .subst e;rw[qf5 O]at h;cases h;exact AV _ _ _
  .rw[gN e]at h;exact F.sd j l h
 .by_cases e:i=j
  .subst e;rw[qf5 O]at h;cases h;rcases(qK W).mp q with z|⟨_,j,_,z⟩
   .exact Z i r b W z
   .obtain⟨m,L,q⟩:=oe z;exact F.sub j m b L q
  .rw[gN e]at h;exact F.sub j l b h q
 .by_cases e:i=j
  .subst e;rw[qf5 O]at h;cases h;rcases(qK W).mp q with z|⟨h1,j,hj,z⟩
   .exact .here W z
   .obtain⟨m,L,q⟩:=oe z;exact .on W h1 hj (F.nd j m b L q)
  .rw[gN e]at h;exact F.nd j l b h q
 .by_cases e:i=j
  .subst e;rw[qf5 O]at h;cases h;exact sw mono q
  .rw[gN e]at h;exact sw mono (F.inc j l b h q)
theorem sx:∀{J3:List (List Str)}{i:Nat}{l m:List Str},J3[i]?=some l->tot (J3.set i m)+l.length=tot J3+m.length
 |[],i,l,m,h=>by simp at h
 |x::f,0,l,m,h=>by simp at h;subst h;simp only[tot,qr6,qa5,qs1];lia
 |x::f,i+1,l,m,h=>by have:=sx (J3:=f) (i:=i) (l:=l) (m:=m) (by simpa using h);simp only[tot,qr7,qa5,qs1]at this ⊢;lia
def tot_le:∀{J3:List (List Str)},(∀l∈J3,l.length<=n)->tot J3<=J3.length*n
 |[],_=>by simp[tot]
 |x::f,h=>by
  have:=tot_le (J3:=f) fun l q=>h l (.tail _ q)
  have h1:=h x (.head _);simp only[tot,qa5,qs1,qc2,Nat.succ_mul]at this ⊢;lia
theorem Fnd.short(F:Fnd J0 B J3){i:Nat}{l:List Str}(h:J3[i]?=some l):l.length<=B.length:=bY (F.sd i l h).nodup fun b q=>F.sub i l b h q
def Fnd.tot_le(F:Fnd J0 B J3):tot J3<=J0.length*B.length:=by
 rw[<- F.len];refine L2.tot_le fun l q=>?_
 obtain⟨i,h⟩:=qj9 q;exact F.short h
theorem Fnd.more(F:Fnd J0 B J3){i:Nat}{l:List Str}(h:J3[i]?=some l)(q:nw J0 J3 i≠l):tot J3<tot (J3.set i (nw J0 J3 i)):=by have h1:=sx (m:=nw J0 J3 i) h;have h2:=Ei (F.sd i l h) (AV J0 J3 i) (fun x L=>F.inc i l x h L) (qo4 q);lia
def Fix(J0:List Rw)(J3:List (List Str)):Prop:=∀(i:Nat)(l:List Str),J3[i]?=some l->nw J0 J3 i=l
end
def Atm.d:Atm->Dt
 |.nm x=>.str x
 |.vl i=>.int i
noncomputable def Rw.d:Rw->Dt
 |.copy x a=>.tup [.str "copy",.str x,a.d]
 |.op x s a b=>.tup [.str "op",.str x,.str s,a.d,b.d]
 |.load x c=>.tup [.str "load",.str x,.str c]
 |.store c a=>.tup [.str "store",.str c,a.d]
 |.take x f a=>.tup [.str "take",.str x,.str f,a.d]
 |.lay f a b=>.tup [.str "lay",.str f,a.d,b.d]
 |.hear x=>.tup [.str "hear",.str x]
 |.say a=>.tup [.str "say",a.d]
 |.iff a g=>.tup [.str "if",a.d,.int g]
 |.go g=>.tup [.str "go",.int g]
 |.fin a=>.tup [.str "end",a.d]
def dI(j:Nat):Dt:=.int (j:Int)
def dS(l:List Str):Dt:=.lst (l.map .str)
def dF(f:List (List Str)):Dt:=.lst (f.map dS)
def dR(J0:List Rw):Dt:=.tup (J0.map Rw.d)
theorem ci{α:Type}{f h:α->Dt}:∀{l:List α},(∀a∈l,∃ δ1,bb (f a) δ=some δ1/\ft δ1=some true/\fe δ1=some (h a))->cb bb ft fe δ (l.map f)=some (l.map h)
 |[],_=>rfl
 |a::l,q=>by obtain⟨δ1,h1,h2,h3⟩:=q a qe6;rw[qa5];unfold cb;rw[h1,qa2,h2,qa2,if_pos rfl,h3,qa2,ci fun e L=>q e (qd3 _ L)];rfl
theorem cP{α:Type}{f h:α->Dt}{p:α->Bool}:∀{l:List α},(∀a∈l,∃ δ1,bb (f a) δ=some δ1/\ft δ1=some (p a)/\(p a=true->fe δ1=some (h a)))->cb bb ft fe δ (l.map f)=some ((l.filter p).map h)
 |[],_=>rfl
 |a::l,q=>by
  obtain⟨δ1,h1,h2,h3⟩:=q a qe6;have L:=cP (l:=l) fun e O=>q e (qd3 _ O)
  rw[qa5];unfold cb;rw[h1,qa2,h2,qa2];cases hp:p a with
  |true=>rw[if_pos rfl,h3 hp,qa2,L,List.filter_cons_of_pos hp];rfl
  |false=>rw[if_neg (by simp),L,List.filter_cons_of_neg (by simp[hp])]
theorem uC{α:Type}{f:α->Dt}:∀(l:List α)(i:Nat),dw i (l.map f)=(l.mapIdx fun k a=>Dt.tup [.int ((i+k:Nat):Int),f a])
 |[],_=>rfl
 |a::l,i=>by rw[qa5,dw,uC l (i+1),zb7];congr 1;congr 1;funext k a;rw[show i+1+k=i+(k+1)by lia]
theorem lM{α:Type}{f:α->Dt}{h:Nat->α->Dt}:∀{l:List α}(i:Nat),(∀k a,∃ δ1,bb (.tup [.int ((k:Nat):Int),f a]) δ=some δ1/\fe δ1=some (h k a))->cb bb bN fe δ (dw i (l.map f))=some (l.mapIdx fun k a=>h (i+k) a)
 |[],_,_=>rfl
 |a::l,i,q=>by obtain⟨δ1,h1,h3⟩:=q i a;rw[qa5,dw];unfold cb;rw[h1,qa2];show((fe δ1).bind fun y=>_)=_;rw[h3,qa2,lM (i+1) q,zb7];show some _=some _;congr 1;congr 1;congr 1;funext k a;rw[show i+1+k=i+(k+1)by lia]
theorem fB(l:List Str):(l.map Dt.str).all c8=true:=by rw[qj7];intro x q;obtain⟨y,_,rfl⟩:=qd2.mp q;rfl
def sy(l:List Str)(x:Str):((l.map Dt.str).any fun y=>eqF y (.str x))=decide (x∈l):=by
 induction l with
 |nil=>rfl
 |cons a l q=>
  rw[qa5,qk2,q,show eqF (.str a) (.str x)=decide (a=x)from rfl];by_cases h:a=x
  .simp[h]
  .have:¬ x=a:=fun z=>h z.symm
   simp[h,this]
theorem gIn_strs{l:List Str}:cB neg (.str x) (.lst (l.map .str))=some (.leaf (.bl (if neg then !decide (x∈l)else decide (x∈l)))):=by rw[D8 (by rw[fB];rfl),sy]
theorem ki{l:List Str}(h:l.length<64):eY [.lst (l.map .str)]=some (.lst ((fj (cR l)).map .str)):=by unfold eY uw;dsimp only;rw[lJ,qa2,if_pos ⟨by lia,qx4 (mT l) h⟩]
def extL(l m:List Dt)(i:Nat)(δ:De):Option Out:=if l.length+m.length<=qb1 then some (.nx (δ.set i (some (.lst (l++m)))))else none
theorem sA{i:Nat}(h:l.length+m.length<=1000000):extL l m i δ=some (.nx (δ.set i (some (.lst (l++m))))):=if_pos (small h)
theorem AW{i:Nat}{f:De->Option T}(h:δ[i]?=some (some (.lst l)))(q:f δ=some (.lst m)):z65 i f δ=extL l m i δ:=by unfold z65;rw[h];dsimp only;rw[q];rfl
def m7:∀{l m:List Str},peqs (l.map .str) (m.map .str)=decide (l=m)
 |[],[]=>rfl
 |[],_::_=>rfl
 |_::_,[]=>rfl
 |a::l,b::m=>by rw[qa5,qa5];show(decide (a=b)&&peqs (l.map .str) (m.map .str))=_;rw[m7];by_cases h1:a=b<;>by_cases h2:l=m<;>simp[h1,h2]
theorem xj{l m:List Str}:gEq neg (.lst (l.map .str)) (.lst (m.map .str))=some (.leaf (.bl (if neg then !decide (l=m)else decide (l=m)))):=by rw[xg (fB l) (fB m),m7]
theorem aW{i:Nat}{f:De->Option T}{t:T}(h:f δ=some t):aA i f δ=some (.nx (δ.set i (some t))):=by unfold aA;rw[h];rfl
def iO(h:c δ=some true):sIf c g1 g2 δ=g1 δ:=by unfold sIf;rw[h];rfl
def iP(h:c δ=some false):sIf c g1 g2 δ=g2 δ:=by unfold sIf;rw[h];rfl
def gC(h:c δ=some true)(q:g δ=some (.nx δ1)):bt c g (n+1) δ=bt c g n δ1:=by
 conv=>lhs;unfold bt
 rw[h,qa2,if_pos rfl,q];rfl
def pG{t:T}(h:c δ=some true)(q:g δ=some (.rt t)):bt c g (n+1) δ=some (.rt t):=by
 conv=>lhs;unfold bt
 rw[h,qa2,if_pos rfl,q];rfl
def kG(h:c δ=some false):bt c g (n+1) δ=some (.nx δ):=by
 conv=>lhs;unfold bt
 rw[h];rfl
theorem il{m:Nat}{t:T}(h:g (ds.map (fun d=>some (T.leaf d))++qf3 (m-ds.length) none)=some (.rt t)):ce m g ds=some t:=by unfold ce;rw[h]
theorem CB{k:Nat}(h:k<n):ixN n (k:Int)=some k:=by unfold ixN;rw[if_pos (by lia),if_pos (by lia)];simp
variable{fk:De->Option Dt}
theorem Ek{i k:Nat}{d:Dt}(h:δ[i]?=some (some (.lst l)))(hk:fk δ=some (dI k))(L:fe δ=some d)(q:k<l.length):nM i fk fe δ=some (.nx (δ.set i (some (.lst (l.set k d))))):=by
 unfold nM dI at*
 rw[L,hk,qa2,qa2,h];simp only[Eb,qa2,CB q,qm6]
variable{kd:Dt}
theorem AX{i:Nat}{l:List (Key×Dt)}{d:Dt}{k:Key}(h:δ[i]?=some (some (.dct l)))(hk:fk δ=some kd)(q:o5 kd=some k)(W:fe δ=some d)(L:l.length<1000000)(O:(l.map (·.1)).Nodup):nM i fk fe δ=some (.nx (δ.set i (some (.dct (iJ l k d))))):=by unfold nM;rw[W,hk,qa2,qa2,h];dsimp only;rw[q,qa2,if_pos ⟨jo L,O⟩]
theorem iQ{i:Nat}{f:De->Option Dt}{d:Dt}(h:δ[i]?=some (some (.lst l)))(L:f δ=some d)(q:l.length<1000000):z11 i f δ=some (.nx (δ.set i (some (.lst (l++[d]))))):=by unfold z11;rw[h];dsimp only;rw[L,qa2,if_pos (jo q)]
theorem uD(h:n<=1000):ui [.int ((n:Int)-1),.int (-1),.int (-1)]=some (((qc7 n).map fun i=>n-1-i).map dI):=by
 unfold ui
 have e:(qc9 ((n:Int)-1) (-1) (-1)).toNat=n:=by
  unfold qc9;rw[if_neg (by decide)];by_cases q:(n:Int)-1 > -1
  .rw[if_pos q];have:((n:Int)-1 - -1-1)/(- -1)=(n:Int)-1:=by rw[show(- -1:Int)=1 by decide,Int.ediv_one];lia
   rw[this];lia
  .rw[if_neg q];lia
 dsimp only;rw[if_pos (show wj ((n:Int)-1) (-1) (-1)=true by unfold wj;simp;lia),e];congr 1;unfold qv;rw[qc4];refine qw1 fun i hi=>?_
 have:=qe1.mp hi;show Dt.int _=Dt.int ((n-1-i:Nat):Int);congr 1;lia
section
variable{α:Type}[DecidableEq α]
abbrev CF(α:Type):=List (α×Option α)
def ks(cf:CF α):List α:=cf.map (·.1)
def fL(h:α)(cf:CF α)(t:α):CF α:=if t∈ks cf then cf else cf++[(t,some h)]
def cQ(h:α)(cf:CF α)(ts:List α):CF α:=ts.foldl (fL h) cf
noncomputable def bfs(beh:α->List α)(fit:α->Bool):Nat->CF α->Nat->List (List α)->Option (Option α×CF α×List (List α))
 |0,_,_,_=>none
 |n+1,cf,k,J=>match cf[k]? with
  |none=>some (none,cf,J)
  |some (h,_)=>if fit h then some (some h,cf,J)else bfs beh fit n (cQ h cf (beh h)) (k+1) (J++[beh h])
def cr(cf:CF α)(s:α):CF α:=if s∈ks cf then cf else cf++[(s,none)]
structure BI(beh:α->List α)(fit:α->Bool)(J4:List α)(cf:CF α)(k:Nat):Prop where
 nd:(ks cf).Nodup
 sub:∀s∈J4,s∈ks cf
 par:∀(i:Nat)(t p:α),cf[i]?=some (t,some p)->∃j q,j<i/\cf[j]?=some (p,q)/\t∈beh p/\fit p=false
 st:∀(i:Nat)(t:α),cf[i]?=some (t,none)->t∈J4
 done:∀(i:Nat)(t:α)(q:Option α),i<k->cf[i]?=some (t,q)->fit t=false/\∀u∈beh t,u∈ks cf
variable{beh:α->List α}{fit:α->Bool}{J4:List α}
def fI(cf cf':CF α):ks (cf++cf')=ks cf++ks cf':=qe9
theorem gi{cf:CF α}{t:α}(h:t∈ks cf):∃(i:Nat)(q:Option α),cf[i]?=some (t,q):=by obtain⟨p,hp,rfl⟩:=qd2.mp h;obtain⟨i,hi,e⟩:=List.getElem_of_mem hp;exact⟨i,p.2,by rw[gQ hi,e]⟩
theorem eG{cf:CF α}{t:α}{i:Nat}{q:Option α}(h:cf[i]?=some (t,q)):t∈ks cf:=qd2.mpr ⟨(t,q),qd0 h,rfl⟩
theorem cZ(h:α):∀(ts:List α)(cf:CF α),∃e,cQ h cf ts=cf++e/\(∀p∈e,p.2=some h/\p.1∈ts)/\((ks cf).Nodup->(ks (cQ h cf ts)).Nodup)/\∀t∈ts,t∈ks (cQ h cf ts)
 |[],cf=>⟨[],by simp[cQ],by simp,fun z=>z,by simp⟩
 |t::ts,cf=>by
  obtain⟨e,h1,h2,h3,Z⟩:=cZ h ts (fL h cf t);have e0:cQ h cf (t::ts)=cQ h (fL h cf t) ts:=rfl;rw[e0]
  have O:t∈ks (cQ h (fL h cf t) ts):=by
   rw[h1,fI];refine qf6 _ ?_;unfold fL;split
   .assumption
   .rw[fI];exact qc3 _ (by simp[ks])
  have L:∀u∈t::ts,u∈ks (cQ h (fL h cf t) ts):=fun u W=>by
   rcases qa9.mp W with rfl|W
   .exact O
   .exact Z u W
  by_cases q:t∈ks cf
  .have:fL h cf t=cf:=if_pos q;rw[this]at h1 h3 ⊢;refine⟨e,h1,fun p hp=>⟨(h2 p hp).1,qd3 _ (h2 p hp).2⟩,h3,?_⟩;rw[this]at L;exact L
  .have:fL h cf t=cf++[(t,some h)]:=if_neg q;rw[this]at h1 h3 ⊢;refine⟨(t,some h)::e,by rw[h1,qj1];rfl,fun p hp=>?_,fun nd=>h3 ?_,?_⟩
   .rcases qa9.mp hp with rfl|hp
    .exact⟨rfl,qe6⟩
    .exact⟨(h2 p hp).1,qd3 _ (h2 p hp).2⟩
   .rw[fI];refine qk9.mpr ⟨nd,by simp[ks],fun a ha b Y=>?_⟩;simp[ks]at Y;subst Y;rintro rfl;exact q ha
   .rw[this]at L;exact L
theorem BI.step{cf:CF α}{k:Nat}{h:α}{q:Option α}(B:BI beh fit J4 cf k)(hk:cf[k]?=some (h,q))(hf:fit h=false):BI beh fit J4 (cQ h cf (beh h)) (k+1):=by
 obtain⟨e,h1,h2,h3,h4⟩:=cZ h (beh h) cf
 have keep:∀{i:Nat}{x:α×Option α},cf[i]?=some x->(cQ h cf (beh h))[i]?=some x:=fun {i x} z=>by rw[h1,qc8 (gX z).1];exact z
 have L:∀{i:Nat}{x:α×Option α},(cQ h cf (beh h))[i]?=some x->cf[i]?=some x∨(x.2=some h/\x.1∈beh h/\cf.length<=i):=fun {i x} z=>by
  rw[h1]at z;by_cases hi:i<cf.length
  .rw[qc8 hi]at z;exact .inl z
  .rw[gR (by lia)]at z;have:=h2 _ (qd0 z);exact .inr ⟨this.1,this.2,by lia⟩
 have O:∀{t:α},t∈ks cf->t∈ks (cQ h cf (beh h)):=fun {t} z=>by rw[h1,fI];exact qf6 _ z
 refine⟨h3 B.nd,fun s hs=>O (B.sub s hs),fun i t p z=>?_,fun i t z=>?_,fun i t Y hi z=>?_⟩
 .rcases L z with z|⟨z1,z2,z3⟩
  .obtain⟨j,Y,g1,g2,g3⟩:=B.par i t p z;exact⟨j,Y,g1,keep g2,g3⟩
  .cases z1;exact⟨k,q,qb9 (gX hk).1 z3,keep hk,z2,hf⟩
 .rcases L z with z|⟨z1,_,_⟩
  .exact B.st i t z
  .cases z1
 .have hk':=(gX hk).1;rcases L z with z|⟨_,_,z3⟩
  .by_cases W:i=k
   .subst W;rw[hk]at z;cases z;exact⟨hf,fun u Z=>h4 u Z⟩
   .obtain⟨g1,g2⟩:=B.done i t Y (by lia) z;exact⟨g1,fun u Z=>O (g2 u Z)⟩
  .lia
theorem gE{U:List α}{h:α}{ts:List α}{cf:CF α}(q:∀t∈ks cf,t∈U)(L:∀t∈ts,t∈U):∀t∈ks (cQ h cf ts),t∈U:=fun t z=>by
 obtain⟨e,h1,h2,_,_⟩:=cZ h ts cf;rw[h1,fI]at z;rcases qd6.mp z with z|z
 .exact q t z
 .obtain⟨p,hp,rfl⟩:=qd2.mp z;exact L _ (h2 p hp).2
theorem pH {U:List α} (W:∀ t∈U,∀ u∈beh t,u∈U):∀ (n:Nat) (cf:CF α) (k:Nat) (J:List (List α)),BI beh fit J4 cf k->(∀ t∈ks cf,t∈U)->k<=cf.length->U.length<n+k→
  ∃f L J' k',bfs beh fit n cf k J=some (f,L,J')/\BI beh fit J4 L k'/\(∀t∈ks L,t∈U)/\(f=none->k'=L.length)/\∀h,f=some h->fit h=true/\h∈ks L
 |0,cf,k,J,B,O,hk,hn=>by have:=bY B.nd O;rw[show(ks cf).length=cf.length from qa1 ..]at this;lia
 |n+1,cf,k,J,B,O,hk,hn=>by
  unfold bfs;cases q:cf[k]? with
  |none=>have:=qg7.mp q;exact⟨none,cf,J,k,rfl,B,O,fun _=>by lia,fun h z=>nomatch z⟩
  |some x=>
   obtain⟨h,p⟩:=x;dsimp only;cases Y:fit h with
   |true=>exact⟨some h,cf,J,k,rfl,B,O,fun z=>(nomatch z),fun h' z=>by cases z;exact⟨Y,eG q⟩⟩
   |false=>have Z:=(gX q).1;obtain⟨e,h1,_⟩:=cZ h (beh h) cf;exact pH W n _ (k+1) _ (B.step q Y) (gE O (W h (O h (eG q)))) (by rw[h1,qb7];lia) (by lia)
def BI.start:BI beh fit J4 (J4.foldl cr []) 0:=by
 have W:∀(ss:List α)(cf:CF α),(ks cf).Nodup->(∀p∈cf,p.2=none/\p.1∈J4)->(∀s∈ss,s∈J4)->(ks (ss.foldl cr cf)).Nodup/\(∀p∈ss.foldl cr cf,p.2=none/\p.1∈J4)/\∀s,(s∈ss∨s∈ks cf)->s∈ks (ss.foldl cr cf):=fun ss=>by
  induction ss with
  |nil=>intro cf h1 h2 _;exact⟨h1,h2,fun s O=>O.elim (fun z=>nomatch z) id⟩
  |cons s ss Z=>
   intro cf h1 h2 h3;rw[qi6]
   have O:s∈ks (cr cf s):=by
    unfold cr;split
    .assumption
    .rw[fI];exact qc3 _ (by simp[ks])
   have hm:∀t∈ks cf,t∈ks (cr cf s):=fun t L=>by
    unfold cr;split
    .exact L
    .rw[fI];exact qf6 _ L
   obtain⟨a,b,c⟩:=Z (cr cf s) (by
    unfold cr;split
    .exact h1
    .rename_i q;rw[fI];refine qk9.mpr ⟨h1,by simp[ks],fun a ha b Y=>?_⟩;simp[ks]at Y;subst Y;rintro rfl;exact q ha) (fun p hp=>by
    unfold cr at hp;split at hp
    .exact h2 p hp
    .rcases qd6.mp hp with hp|hp
     .exact h2 p hp
     .cases qa6.mp hp;exact⟨rfl,h3 _ qe6⟩) fun t L=>h3 t (qd3 _ L)
   refine⟨a,b,fun t L=>c t ?_⟩;rcases L with L|L
   .rcases qa9.mp L with rfl|L
    .exact .inr O
    .exact .inl L
   .exact .inr (hm t L)
 obtain⟨a,b,c⟩:=W J4 [] (by simp[ks]) (by simp) fun s O=>O
 exact⟨a,fun s O=>c s (.inl O),fun i t p z=>(by have:=(b _ (qd0 z)).1;cases this),fun i t z=>(b _ (qd0 z)).2,fun i t q hi=>by lia⟩
def look(cf:CF α)(t:α):Option (Option α):=(cf.find? fun p=>decide (p.1=t)).map (·.2)
theorem oh:∀{cf:CF α}{i:Nat}{t:α}{q:Option α},(ks cf).Nodup->cf[i]?=some (t,q)->look cf t=some q
 |[],i,t,q,_,h=>by simp at h
 |p::cf,0,t,q,L,h=>by simp at h;subst h;simp[look]
 |p::cf,i+1,t,q,L,h=>by
  have h:cf[i]?=some (t,q):=by simpa using h
  have L:(p.1::ks cf).Nodup:=L;have O:p.1≠t:=fun z=>(qi5.mp L).1 (z▸eG h)
  have:=oh (qi5.mp L).2 h;unfold look at this ⊢;rw[qs4 (by simpa using O)];exact this
inductive Tr(cf:CF α):α->List α->Prop
 |one {t:α} (h:look cf t=some none):Tr cf t [t]
 |more {t p:α} {r:List α} (h:look cf t=some (some p)) (r':Tr cf p r):Tr cf t (t::r)
inductive Wy(beh:α->List α)(fit:α->Bool)(J4:List α):α->List α->Prop
 |one {t:α} (h:t∈J4):Wy beh fit J4 t [t]
 |more {t p:α} {r:List α} (h:t∈beh p) (hf:fit p=false) (w:Wy beh fit J4 p r):Wy beh fit J4 t (t::r)
theorem BI.trace{cf:CF α}{k:Nat}(B:BI beh fit J4 cf k):∀(i:Nat)(t:α)(q:Option α),cf[i]?=some (t,q)->∃r,Tr cf t r/\Wy beh fit J4 t r/\r.length<=i+1:=fun i=>by
 induction i using Nat.strongRecOn with
 |ind i L=>
  intro t q h;cases q with
  |none=>exact⟨[t],.one (oh B.nd h),.one (B.st i t h),by simp⟩
  |some p=>obtain⟨j,W,h1,h2,h3,O⟩:=B.par i t p h;obtain⟨r,g1,g2,Y⟩:=L j h1 p W h2;exact⟨t::r,.more (oh B.nd h) g1,.more h3 O g2,by simp;lia⟩
inductive Rch(beh:α->List α)(J4:List α):α->Prop
 |one {t:α} (h:t∈J4):Rch beh J4 t
 |more {t p:α} (w:Rch beh J4 p) (h:t∈beh p):Rch beh J4 t
def BI.none{cf:CF α}(B:BI beh fit J4 cf cf.length){t:α}(h:Rch beh J4 t):fit t=false:=by
 have L:t∈ks cf:=by
  induction h with
  |one h=>exact B.sub _ h
  |more w h O=>obtain⟨i,q,e⟩:=gi O;exact(B.done i _ q (gX e).1 e).2 _ h
 obtain⟨i,q,e⟩:=gi L;exact(B.done i t q (gX e).1 e).1
end
inductive Mrk where
 |fresh|seen|safe|spoilt
deriving DecidableEq
def Rw.gets:Rw->Str->Bool
 |.load _ c,nm=>decide (c=nm)|.take _ f _,nm=>decide (f=nm)
 |_,_=>false
def Rw.puts:Rw->Str->Bool
 |.store c _,nm=>decide (c=nm)|.lay f _ _,nm=>decide (f=nm)
 |_,_=>false
def Rw.stores:Rw->Str->Bool
 |.store c _,nm=>decide (c=nm)
 |_,_=>false
def mb:Mrk->Rw->Str->Mrk
 |.fresh,r,nm=>if r.gets nm then .seen else if r.stores nm then .safe else .fresh
 |.seen,r,nm=>if r.puts nm then .spoilt else .seen
 |m,_,_=>m
section
variable(J0:List Rw)(kept:List Nat)(nm:Str)
def oj(t:Nat×Mrk):List (Nat×Mrk):=match J0[t.1]? with
 |none=>[]
 |some r=>if mb t.2 r nm=.safe then []else((r.outs t.1).filter fun w=>!decide (w∈kept)).map fun w=>(w,mb t.2 r nm)
def qL(t:Nat×Mrk):Bool:=match J0[t.1]? with
 |none=>false
 |some r=>decide (mb t.2 r nm=.spoilt)
def gF:List (Nat×Mrk):=(0::kept).map fun k=>(k,.fresh)
end
section
variable{J0:List Rw}{kept:List Nat}{nm:Str}
end
section
variable{J0:List Rw}{kept:List Nat}{nm:Str}
theorem CC{t u:Nat×Mrk}(h:u∈oj J0 kept nm t):∃r,J0[t.1]?=some r/\mb t.2 r nm≠.safe/\u.1∈r.outs t.1/\u.1∉kept/\u.2=mb t.2 r nm:=by
 unfold oj at h;split at h
 .cases h
 .rename_i r e;split at h
  .cases h
  .rename_i q;obtain⟨w,L,rfl⟩:=qd2.mp h;obtain⟨h1,h2⟩:=qg9.mp L;exact⟨r,e,q,h1,by simpa using h2,rfl⟩
end
def TRb:De->Option Out:=(ar (z11 2 (vL 3)) (aA 3 (toT (toD (d2 ux (vB 0) (vB 3))))))
def TRc:De->Option Bool:=(tB2 (gIs true) (vB 3) (kD .non))
def TRf:List Dt->Option T:=ce 4 ((ar (aA 2 (bE ak)) (ar (aA 3 (toT (vL 1))) (ar (bt TRc TRb 100000) (bw (vLR (vB 2)))))))
def RT0:De->Option Out:=(ly 3 (vB 4) (kD .non))
def RT1:De->Option Out:=(sIf (wS (vB 8) (vB 3)) (ar (ly 3 (vB 8) (vL 7)) (z11 5 (vL 8))) bV)
noncomputable def RT2(G:Orc):De->Option Out:=(ar (aA 7 (toT (toD (d2 au (vB 5) (vB 6))))) (ar (o4 (fun i j=>i+j) 6 (kD (.int 1))) (ar (sIf (e7 (toD (vCl G 2 (aa (vL 7) ak)))) (t4 3 (bw (am TRf (aa (vL 3) (aa (vL 7) ak))))) bV) (dg (fIt (toD (vCl G 1 (aa (vL 7) ak)))) (av 8) RT1))))
def RTc:De->Option Bool:=(tB2 (ix fun i j=>decide (i<j)) (vB 6) (toD (am cS (aa (vB 5) ak))))
def RTf(G:Orc):Dt->J9->J9->Hp->Option T:=nN 9 ((ar (aA 3 qI) (ar (dg (fIt (vL 0)) (av 4) RT0) (ar (aA 5 (am jR (aa (vB 3) ak))) (ar (aA 6 (toT (kD (.int 0)))) (ar (bt RTc (RT2 G) 100000) (bw (toT (kD .non)))))))))
theorem CD{g:Dt->Dt->Option T}{fa fb:De->Option Dt}{x y:Dt}(h1:fa δ=some x)(h2:fb δ=some y)(h:g x y=some (.leaf (.bl b))):tB2 g fa fb δ=some b:=by unfold tB2 d2;rw[h1,h2];show(g x y).bind asB=_;rw[h];rfl
theorem AY{i:Nat}{l:List (List Key×Dt)}{d:Dt}{k:List Key}(h:δ[i]?=some (some (.dcT l)))(hk:fk δ=some kd)(q:isK kd=some k)(W:fe δ=some d)(L:l.length<1000000)(O:(l.map (·.1)).Nodup):ly i fk fe δ=some (.nx (δ.set i (some (.dcT (iJ l k d))))):=by unfold ly;rw[W,hk,qa2,qa2,h];dsimp only;rw[q,qa2,if_pos ⟨jo L,O⟩]
variable{x4 x6:Option T}
section
variable{α:Type}[DecidableEq α](ky:α->Int×Str)
def nD(t:α):Dt:=.tup [.int (ky t).1,.str (ky t).2]
def nK(t:α):List Key:=[.inl (ky t).1,.inr (ky t).2]
def pN:Option α->Dt
 |none=>.non
 |some h=>nD ky h
def cfT(cf:CF α):T:=.dcT (cf.map fun p=>(nK ky p.1,pN ky p.2))
def cfD(cf:CF α):Dt:=.dcT (cf.map fun p=>nK ky p.1) (cf.map fun p=>pN ky p.2)
def sT(cf:CF α)(q:Dt)(J5:List α)(h:Dt):De:=[some (.leaf (cfD ky cf)),some (.leaf q),some (.lst (J5.map (nD ky))),some (.leaf h)]
def sR(st:Dt)(f1 f2:J9)(F0:Hp)(cf:CF α)(x4 x6 q x8:Option T):De:=[some (.leaf st),some (.fn f1 F0),some (.fn f2 F0),some (cfT ky cf),x4,some (.lst ((ks cf).map (nD ky))),x6,q,x8]
def sS(st:Dt)(f1 f2:J9)(F0:Hp)(cf:CF α)(x4:Option T):De:=[some (.leaf st),some (.fn f1 F0),some (.fn f2 F0),some (cfT ky cf),x4,none,none,none,none]
variable{ky}(hk:∀a b,ky a=ky b->a=b)
theorem om(hk:∀a b,ky a=ky b->a=b){a b:α}(h:nK ky a=nK ky b):a=b:=by unfold nK at h;simp only[List.cons.injEq,qx6.injEq,qu0.injEq,and_true]at h;exact hk a b (Prod.ext h.1 h.2)
theorem m8(cf:CF α):(cfT ky cf).d=some (cfD ky cf):=by unfold cfT T.d;dsimp only;rw[qc4,qc4];rfl
include hk
theorem gG(t:α):∀cf:CF α,dn (cf.map fun p=>nK ky p.1) (cf.map fun p=>pN ky p.2) (nK ky t)=(look cf t).map (pN ky)
 |[]=>rfl
 |p::cf=>by
  simp only[qa5,dn];unfold look;by_cases h:p.1=t
  .rw[if_pos (by rw[h]),zc6 (by simpa using h)];rfl
  .rw[if_neg fun z=>h (om hk z),qs4 (by simpa using h),gG t cf];rfl
theorem xk(cf:CF α)(t:α){q:Option α}(h:look cf t=some q):ux (cfD ky cf) (nD ky t)=some (.leaf (pN ky q)):=by show(dn (cf.map fun p=>nK ky p.1) (cf.map fun p=>pN ky p.2) (nK ky t)).map T.leaf=_;rw[gG hk,h];rfl
omit hk in
theorem xl(cf:CF α)(t:α):(look cf t).isSome=decide (t∈ks cf):=by unfold look ks;rw[qk7,qi4,List.find?_isSome];simp
theorem oo {cf:CF α} {W:Dt}:∀ {t:α} {L:List α},Tr cf t L->∀ (n:Nat) (J5:List α),L.length<n->J5.length+L.length<100000→
  bt TRc TRb n (sT ky cf W J5 (nD ky t))=some (.nx (sT ky cf W (J5++L) .non)):=by
 intro t L tr
 have one:∀(t:α)(J5:List α)(q:Option α),look cf t=some q->J5.length<100000->TRb (sT ky cf W J5 (nD ky t))=some (.nx (sT ky cf W (J5++[t]) (pN ky q))):=by
  intro t J5 q hq O;unfold TRb
  rw[aC (iQ (l:=J5.map (nD ky)) (d:=nD ky t) rfl rfl (by rw[qa1];lia)),aW (t:=.leaf (pN ky q)) (by show((ux (cfD ky cf) (nD ky t)).bind T.d).map T.leaf=_;rw[xk hk cf t hq];rfl)]
  unfold sT;rw[qe9];rfl
 induction tr with
 |@one t h=>intro n J5 Y O;obtain⟨n,rfl⟩:∃m,n=m+2:=⟨n-2,by simp at Y;lia⟩;rw[gC rfl (one t J5 none h (by lia))];exact kG rfl
 |@more t p r h r' Z=>intro n J5 Y O;obtain⟨n,rfl⟩:∃m,n=m+1:=⟨n-1,by lia⟩;rw[gC rfl (one t J5 (some p) h (by simp at O;lia))];have:=Z n (J5++[t]) (by simp at Y;lia) (by simp at O ⊢;lia);rw[show pN ky (some p)=nD ky p from rfl,this,qj1];rfl
theorem jV{cf:CF α}{t:α}{q:List α}(L:Tr cf t q)(O:q.length<10000):TRf [cfD ky cf,nD ky t]=some (.lst (q.reverse.map (nD ky))):=by unfold TRf;refine il ?_;show ar _ _ [some (.leaf (cfD ky cf)),some (.leaf (nD ky t)),none,none]=_;rw[aC (aW (t:=.lst []) (by rw[lI];show((some []).bind mkL)=_;rw[qa2,cO (by simp)])),aC (δ':=sT ky cf (nD ky t) [] (nD ky t)) (aW rfl),aC (oo hk L 100000 [] (by lia) (by simp;lia)),qs2];show some (Out.rt (.lst (q.map (nD ky)).reverse))=_;rw[List.map_reverse]
variable{f1 f2:J9}{F0:Hp}{G:Orc}{st:Dt}
theorem im(t:α)(q:Option α):∀{cf:CF α},t∉ks cf->iJ (cf.map fun p=>(nK ky p.1,pN ky p.2)) (nK ky t) (pN ky q)=(cf++[(t,q)]).map fun p=>(nK ky p.1,pN ky p.2)
 |[],_=>rfl
 |p::cf,h=>by have h:t∉p.1::ks cf:=h;rw[qa5,iJ,if_neg fun z=>h (by rw[om hk z];exact .head _),im t q fun z=>h (.tail _ z)];rfl
theorem pI{t:α}:∀{cf:CF α},t∈ks cf->(∀p∈cf,p.2=none)->iJ (cf.map fun p=>(nK ky p.1,pN ky p.2)) (nK ky t) .non=cf.map fun p=>(nK ky p.1,pN ky p.2)
 |[],h,_=>by cases h
 |p::cf,h,L=>by
  rw[qa5,iJ];by_cases e:p.1=t
  .rw[if_pos (by rw[e]),L p (.head _)];rfl
  .rw[if_neg fun z=>e (om hk z),pI ((qa9.mp (show t∈p.1::ks cf from h)).resolve_left fun z=>e z.symm) fun q O=>L q (.tail _ O)]
theorem sB{cf:CF α}(h:(ks cf).Nodup):((cf.map fun p=>(nK ky p.1,pN ky p.2)).map (·.1)).Nodup:=by
 have:((ks cf).map (nK ky)).Nodup:=by rw[qw8,qz4];exact qs9 (fun {a b}(z:a≠b) e=>z (om hk e)) h
 rw[qc4];unfold ks at this;rw[qc4]at this;exact this
omit hk in
def fT(cf:CF α):(ks cf).length=cf.length:=qa1 ..
def xm {cf:CF α} {h t:α} (O:(ks cf).Nodup) (W:cf.length<100000) :
  RT1 (sR ky st f1 f2 F0 cf x4 x6 (some (.leaf (nD ky h))) (some (.leaf (nD ky t))))=some (.nx (sR ky st f1 f2 F0 (fL h cf t) x4 x6 (some (.leaf (nD ky h))) (some (.leaf (nD ky t))))):=by
 have L:wS (vB 8) (vB 3) (sR ky st f1 f2 F0 cf x4 x6 (some (.leaf (nD ky h))) (some (.leaf (nD ky t))))=some (!decide (t∈ks cf)):=by unfold wS;rw[show vB 8 (sR ky st f1 f2 F0 cf x4 x6 (some (.leaf (nD ky h))) (some (.leaf (nD ky t))))=some (nD ky t)from rfl,show vB 3 (sR ky st f1 f2 F0 cf x4 x6 (some (.leaf (nD ky h))) (some (.leaf (nD ky t))))=some (cfD ky cf)from m8 cf];show some (!(dn (cf.map fun p=>nK ky p.1) (cf.map fun p=>pN ky p.2) (nK ky t)).isSome)=_;rw[gG hk,qk7,xl]
 unfold RT1;by_cases q:t∈ks cf
 .rw[decide_eq_true q]at L;rw[iP L,show fL h cf t=cf from if_pos q];rfl
 .rw[decide_eq_false q]at L;rw[iO L,show fL h cf t=cf++[(t,some h)]from if_neg q,aC (AY (i:=3) (kd:=nD ky t) (k:=nK ky t) (d:=pN ky (some h)) (l:=cf.map fun p=>(nK ky p.1,pN ky p.2)) rfl rfl rfl rfl (by rw[qa1];lia) (sB hk O)),im hk t (some h) q];refine(iQ (i:=5) (l:=(ks cf).map (nD ky)) (d:=nD ky t) rfl rfl (by rw[qa1,fT];lia)).trans ?_;unfold sR;rw[fI,qe9 (f:=nD ky)];rfl
omit hk in
theorem oq{h t:α}{cf:CF α}(q:(ks cf).Nodup):(ks (fL h cf t)).Nodup:=by obtain⟨_,_,_,h3,_⟩:=cZ h [t] cf;exact h3 q
omit hk in
def lN(h t:α)(cf:CF α):(fL h cf t).length<=cf.length+1:=by unfold fL;split<;>simp
theorem pJ {h:α}:∀ (ts:List α) (cf:CF α) (x8:Option T),(ks cf).Nodup->cf.length+ts.length<100000→
  ∃q,cA (av 8) RT1 (ts.map (nD ky)) (sR ky st f1 f2 F0 cf x4 x6 (some (.leaf (nD ky h))) x8)=some (.nx (sR ky st f1 f2 F0 (cQ h cf ts) x4 x6 (some (.leaf (nD ky h))) q))
 |[],cf,x8,_,_=>⟨x8,rfl⟩
 |t::ts,cf,x8,L,O=>by rw[qc2]at O;obtain⟨q,e⟩:=pJ ts (fL h cf t) (some (.leaf (nD ky t))) (oq L) (by have:=lN h t cf;lia);refine⟨q,?_⟩;rw[qa5,bo rfl (xm hk L (by lia))];exact e
omit hk in
def CG(cf:CF α)(t:α):(cr cf t).length<=cf.length+1:=by unfold cr;split<;>simp
omit hk in
def El{cf:CF α}{t:α}(O:(ks cf).Nodup):(ks (cr cf t)).Nodup:=by
 unfold cr;split
 .exact O
 .rename_i q;rw[fI];refine qk9.mpr ⟨O,by simp[ks],fun a W b L=>?_⟩;simp[ks]at L;subst L;rintro rfl;exact q W
omit hk in
def sC{cf:CF α}{t:α}(q:∀p∈cf,p.2=none):∀p∈cr cf t,p.2=none:=fun p hp=>by
 unfold cr at hp;split at hp
 .exact q p hp
 .rcases qd6.mp hp with z|z
  .exact q p z
  .cases qa6.mp z;rfl
include hk in
theorem uE{x4:Option T}{cf:CF α}{t:α}(L:(ks cf).Nodup)(O:∀p∈cf,p.2=none)(W:cf.length<100000):RT0 (sS ky st f1 f2 F0 cf (some (.leaf (nD ky t))))=some (.nx (sS ky st f1 f2 F0 (cr cf t) (some (.leaf (nD ky t))))):=by
 unfold RT0;rw[AY (i:=3) (kd:=nD ky t) (k:=nK ky t) (d:=.non) (l:=cf.map fun p=>(nK ky p.1,pN ky p.2)) rfl rfl rfl rfl (by rw[qa1];lia) (sB hk L)];unfold cr;split
 .rename_i q;rw[pI hk q O];rfl
 .rename_i q;rw[show(Dt.non)=pN ky (none:Option α)from rfl,im hk t none q];rfl
theorem m9:∀ (ss:List α) (cf:CF α) (x4:Option T),(ks cf).Nodup->(∀ p∈cf,p.2=none)->cf.length+ss.length<100000→
  ∃q,cA (av 4) RT0 (ss.map (nD ky)) (sS ky st f1 f2 F0 cf x4)=some (.nx (sS ky st f1 f2 F0 (ss.foldl cr cf) q))
 |[],cf,x4,_,_,_=>⟨x4,rfl⟩
 |t::ss,cf,x4,L,O,W=>by rw[qc2]at W;obtain⟨q,e⟩:=m9 ss (cr cf t) (some (.leaf (nD ky t))) (El L) (sC O) (by have:=CG cf t;lia);refine⟨q,?_⟩;rw[qa5,bo rfl (uE hk L O (by lia) (x4:=x4))];exact e
end
section
variable{α:Type}[DecidableEq α]{ky:α->Int×Str}(hk:∀a b,ky a=ky b->a=b){f1 f2:J9}{F0:Hp}{G:Orc}{st:Dt}
def LpR(ky:α->Int×Str)(cf:CF α)(o:Option Out):Option α->Prop
 |none=>∃ δ,o=some (.nx δ)
 |some h=>∀c,TRf [cfD ky cf,nD ky h]=some c->o=some (.rt c)
include hk
theorem iR {x4:Option T} {U:List α} {beh:α->List α} {fit:α->Bool} (hU:∀ t∈U,∀ u∈beh t,u∈U) (hUl:U.length<=10000) (hbl:∀ t∈U,(beh t).length<=1000) (h1:∀ t∈U,G f1 F0 [nD ky t]=some (.lst ((beh t).map (nD ky)))) (h2:∀ t∈U,G f2 F0 [nD ky t]=some (.leaf (.bl (fit t)))) :
  ∀(n:Nat)(cf:CF α)(k:Nat)(J:List (List α))(Z x8:Option T)(f:Option α)(W:CF α)(J':List (List α)),(ks cf).Nodup->(∀t∈ks cf,t∈U)->bfs beh fit n cf k J=some (f,W,J')→
   LpR ky W (bt RTc (RT2 G) n (sR ky st f1 f2 F0 cf x4 (some (.leaf (.int k))) Z x8)) f
 |0,cf,k,J,Z,x8,f,W,J',nd,hc,O=>by cases O
 |n+1,cf,k,J,Z,x8,f,W,J',nd,hc,O=>by
  have hcl:cf.length<=10000:=by have:=bY nd hc;rw[fT]at this;lia
  have L:RTc (sR ky st f1 f2 F0 cf x4 (some (.leaf (.int k))) Z x8)=some (decide ((k:Int)<cf.length)):=by refine CD (x:=.int k) rfl (y:=.int (cf.length:Nat)) ?_ rfl;show some (Dt.int (((ks cf).map (nD ky)).length:Nat))=_;rw[qa1,fT]
  unfold bfs at O;cases q:cf[k]? with
  |none=>rw[q]at O;cases O;have:=qg7.mp q;rw[decide_eq_false (by lia)]at L;exact⟨_,kG L⟩
  |some x=>
   obtain⟨h,pq⟩:=x;rw[q]at O;dsimp only at O;have hkl:=(gX q).1;have Y:h∈U:=hc h (eG q);rw[decide_eq_true (by lia)]at L
   have s1:aA 7 (toT (toD (d2 au (vB 5) (vB 6)))) (sR ky st f1 f2 F0 cf x4 (some (.leaf (.int k))) Z x8)=some (.nx (sR ky st f1 f2 F0 cf x4 (some (.leaf (.int k))) (some (.leaf (nD ky h))) x8)):=by
    refine(aW (t:=.leaf (nD ky h)) ?_).trans rfl;show((au (.lst ((ks cf).map (nD ky))) (.int k)).bind T.d).map T.leaf=_;rw[hX,bJ,qb3];have:(ks cf)[k]?=some h:=by unfold ks;rw[qb3,q];rfl
    rw[this];rfl
   have s2:o4 (fun i j=>i+j) 6 (kD (.int 1)) (sR ky st f1 f2 F0 cf x4 (some (.leaf (.int k))) (some (.leaf (nD ky h))) x8)=some (.nx (sR ky st f1 f2 F0 cf x4 (some (.leaf (.int ((k+1:Nat):Int)))) (some (.leaf (nD ky h))) x8)):=by show some (Out.nx _)=some (Out.nx _);rw[show((k+1:Nat):Int)=(k:Int)+1 by lia];rfl
   have tf:e7 (toD (vCl G 2 (aa (vL 7) ak))) (sR ky st f1 f2 F0 cf x4 (some (.leaf (.int ((k+1:Nat):Int)))) (some (.leaf (nD ky h))) x8)=some (fit h):=by show(((G f2 F0 [nD ky h]).bind T.d).bind tZ)=_;rw[h2 h Y];rfl
   cases hf:fit h with
   |true=>rw[hf]at O tf;cases O;intro c ht;refine pG L ?_;unfold RT2;rw[aC s1,aC s2];refine n5 ?_;rw[iO tf];show((cfT ky cf).d.bind fun d=>bw (am TRf (aa (vL 3) (aa (vL 7) ak))) ((sR ky st f1 f2 F0 cf x4 (some (.leaf (.int ((k+1:Nat):Int)))) (some (.leaf (nD ky h))) x8).set 3 (some (.leaf d))))=_;rw[m8,qa2];show(TRf [cfD ky cf,nD ky h]).map Out.rt=_;rw[ht];rfl
   |false=>
    rw[hf]at O tf;simp only[qe7,if_false]at O;obtain⟨e,p1,p2,p3,p4⟩:=cZ h (beh h) cf;obtain⟨y8,hpE⟩:=pJ hk (st:=st) (f1:=f1) (f2:=f2) (F0:=F0) (x4:=x4) (x6:=some (.leaf (.int ((k+1:Nat):Int)))) (h:=h) (beh h) cf x8 nd (by have:=hbl h Y;lia)
    have body:RT2 G (sR ky st f1 f2 F0 cf x4 (some (.leaf (.int k))) Z x8)=some (.nx (sR ky st f1 f2 F0 (cQ h cf (beh h)) x4 (some (.leaf (.int ((k+1:Nat):Int)))) (some (.leaf (nD ky h))) y8)):=by unfold RT2;rw[aC s1,aC s2,aC (by rw[iP tf];rfl)];show((((G f1 F0 [nD ky h]).bind T.d).bind itD).bind fun ds=>cA (av 8) RT1 ds (sR ky st f1 f2 F0 cf x4 (some (.leaf (.int ((k+1:Nat):Int)))) (some (.leaf (nD ky h))) x8))=_;rw[h1 h Y];exact hpE
    rw[gC L body];exact iR hU hUl hbl h1 h2 n (cQ h cf (beh h)) (k+1) _ (some (.leaf (nD ky h))) y8 f W J' (p3 nd) (gE hc (hU h Y)) O
omit hk in
def resR(ky:α->Int×Str):Option (List α)->T
 |none=>.leaf .non
 |some q=>.lst (q.reverse.map (nD ky))
theorem kj {J4:List α} (hl:J4.length<=10000):∃ q,∀ o:Option Out,bt RTc (RT2 G) 100000 (sR ky (.lst (J4.map (nD ky))) f1 f2 F0 (J4.foldl cr []) q (some (.leaf (.int ((0:Nat):Int)))) none none)=o→
  (∀c,o=some (.rt c)->RTf G (.lst (J4.map (nD ky))) f1 f2 F0=some c)/\(∀ δ,o=some (.nx δ)->RTf G (.lst (J4.map (nD ky))) f1 f2 F0=some (.leaf .non)):=by
 obtain⟨q,e⟩:=m9 hk (st:=.lst (J4.map (nD ky))) (f1:=f1) (f2:=f2) (F0:=F0) J4 [] none (by simp[ks]) (by simp) (by simp;lia)
 have Z:∀{g:De->Option Out}{r:T},g (deR 9 (.lst (J4.map (nD ky))) f1 f2 F0)=some (.rt r)->nN 9 g (.lst (J4.map (nD ky))) f1 f2 F0=some r:=fun {g r} z=>by unfold nN;rw[z]
 have Y:dg (fIt (vL 0)) (av 4) RT0 (sS ky (.lst (J4.map (nD ky))) f1 f2 F0 [] none)=some (.nx (sS ky (.lst (J4.map (nD ky))) f1 f2 F0 (J4.foldl cr []) q)):=e
 have W:aA 5 (am jR (aa (vB 3) ak)) (sS ky (.lst (J4.map (nD ky))) f1 f2 F0 (J4.foldl cr []) q)=some (.nx (sR ky (.lst (J4.map (nD ky))) f1 f2 F0 (J4.foldl cr []) q none none none)):=by refine(aW (t:=.lst ((ks (J4.foldl cr [])).map (nD ky))) ?_).trans rfl;unfold am aa;rw[show vB 3 (sS ky (.lst (J4.map (nD ky))) f1 f2 F0 (J4.foldl cr []) q)=some (cfD ky (J4.foldl cr []))from m8 _];show some (T.lst (((J4.foldl cr []).map fun p=>nK ky p.1).map lw))=_;unfold ks;rw[qc4,qc4];rfl
 refine⟨q,fun o O=>⟨fun c L=>?_,fun δ L=>?_⟩⟩
 all_goals
  unfold RTf;refine Z ?_;show ar _ _ (some (.leaf (.lst (J4.map (nD ky))))::some (.fn f1 F0)::some (.fn f2 F0)::qf3 6 none)=_;rw[aC (δ':=sS ky (.lst (J4.map (nD ky))) f1 f2 F0 [] none) (aW rfl),aC Y,aC W,aC (δ':=sR ky (.lst (J4.map (nD ky))) f1 f2 F0 (J4.foldl cr []) q (some (.leaf (.int ((0:Nat):Int)))) none none) (aW rfl)]
 .exact n5 (O.trans L)
 .rw[aC (O.trans L)];rfl
theorem xp {U J4:List α} {beh:α->List α} {fit:α->Bool} (hU:∀ t∈U,∀ u∈beh t,u∈U) (hUl:U.length<=9000) (Y:∀ t∈U,(beh t).length<=1000) (hs:∀ t∈J4,t∈U) (W:J4.length<=10000) :
  ∃ r:Option (List α),(∀(G:Orc)(f1 f2:J9)(F0:Hp),(∀t∈U,G f1 F0 [nD ky t]=some (.lst ((beh t).map (nD ky))))->(∀t∈U,G f2 F0 [nD ky t]=some (.leaf (.bl (fit t))))→
      RTf G (.lst (J4.map (nD ky))) f1 f2 F0=some (resR ky r))∧
   (r=none->∀t,Rch beh J4 t->fit t=false)/\∀O,r=some O->O.length<=9001/\∃t,Wy beh fit J4 t O/\fit t=true:=by
 have L:∀t∈ks (J4.foldl cr ([]:CF α)),t∈U:=fun t ht=>by
  obtain⟨i,q,e⟩:=gi ht;have B:=BI.start (beh:=beh) (fit:=fit) (J4:=J4);cases q with
  |none=>exact hs t (B.st i t e)
  |some p=>
   exfalso
   have Z:∀(ss:List α)(cf:CF α),(∀p∈cf,p.2=none)->∀p∈ss.foldl cr cf,p.2=none:=fun ss=>by
    induction ss with
    |nil=>intro cf h;exact h
    |cons s ss ih=>intro cf h;exact ih _ (sC h)
   have:=Z J4 [] (by simp) _ (qd0 e);cases this
 obtain⟨f,cf,J,k',h1,B,hc,hn,hf⟩:=pH (fit:=fit) (J4:=J4) hU 100000 (J4.foldl cr []) 0 [] BI.start L (qh8 _) (by lia);have nd:=(BI.start (beh:=beh) (fit:=fit) (J4:=J4)).nd;cases f with
 |none=>
  refine⟨none,fun G f1 f2 F0 g1 g2=>?_,fun _ t ht=>?_,fun O z=>(by cases z)⟩
  .obtain⟨y4,hr⟩:=kj hk (G:=G) (f1:=f1) (f2:=f2) (F0:=F0) W;obtain⟨δ',hw⟩:=iR hk (st:=.lst (J4.map (nD ky))) (x4:=y4) hU (by lia) Y g1 g2 100000 _ 0 [] none none none cf J nd L h1;exact(hr _ rfl).2 δ' hw
  .have:=hn rfl;subst this;exact B.none ht
 |some h=>
  obtain⟨g1,g2⟩:=hf h rfl;obtain⟨i,q,e⟩:=gi g2;obtain⟨O,tr,wy,hl⟩:=B.trace i h q e;have hi:=(gX e).1
  have hcl:cf.length<=9000:=by have:=bY B.nd hc;rw[fT]at this;lia
  refine⟨some O,fun G f1 f2 F0 q1 q2=>?_,fun z=>(by cases z),fun ws' z=>(by cases z;exact⟨by lia,h,wy,g1⟩)⟩;obtain⟨y4,hr⟩:=kj hk (G:=G) (f1:=f1) (f2:=f2) (F0:=F0) W;have hw:=iR hk (st:=.lst (J4.map (nD ky))) (x4:=y4) hU (by lia) Y q1 q2 100000 _ 0 [] none none (some h) cf J nd L h1;exact(hr _ rfl).1 _ (hw _ (jV hk tr (by lia)))
end
end L2
local macro_rules | `(tactic| walk_at "d") => `(tactic| simp -implicitDefEqProofs only [L2.jT, L2.EB, L2.b8, L2.cF, L2.Ec, L2.bV, L2.aA, L2.bw, L2.e9, L2.kf, L2.ii, L2.ij, L2.kB_d, L2.iN, L2.t4, L2.vM, L2.o4, L2.nM, L2.toT, L2.toD, L2.T.d, L2.kD, L2.vL, L2.vB, L2.d2, L2.tB2, L2.e7, L2.t0, L2.jU, L2.Ee, L2.Ed, L2.ak, L2.aa, L2.vTup_d, L2.lI, L2.cO, L2.EC, L2.fN, L2.am, L2.j8, L2.ED, L2.vSl, L2.dY, L2.c9, L2.vW, L2.An, L2.o0, L2.lb, L2.fIt, L2.dO, L2.av, L2.dC, L2.bN, L2.gAdd_i, L2.atI_0, L2.atI_1, L2.atI_2, L2.atI_3, L2.atI_4, L2.atI_5, L2.atI_6, L2.n8, L2.D8, L2.D9, L2.EE, L2.EF, L2.eqF_s, L2.eqF_i, qk1, zi4, qk2, List.any_nil, L2.gSub_i, L2.gMul_l, L2.gMul_r, L2.fS, L2.EA, L2.gMod_w, L2.gCmp_i, L2.gEq_ii, L2.Cc, L2.gNe_ss, L2.gIs_n, L2.g8, L2.hX, L2.xb, L2.gLen_l, L2.gLen_t, L2.Ea, L2.itD_l, L2.itD_t, L2.truD_b, L2.asB_b, L2.Eb, qa5, qj5, qc2, qv8, zb5, qs2, qf3, zb3, qk3, qr6, qr7, qa2, Option.bind_none, qm6, Option.map_none, qq3, Option.join_none, Nat.reduceAdd, Nat.reduceSub, Nat.reduceLeDiff, Int.reduceLT, Int.reduceEq, eq_self, Int.reduceNeg, Int.reduceLE, if_true, if_false, ite_true, ite_false, qe7, decide_true, decide_false, Bool.not_true, Bool.not_false, qn5, qj3, Bool.or_true, zi2, qu7, zh1, qt4, zf3, String.reduceBEq, reduceCtorEq])
local macro_rules | `(tactic| walk_at "k") => `(tactic| simp -implicitDefEqProofs only [L2.jT, L2.EB, L2.b8, L2.cF, L2.Ec, L2.bV, L2.aA, L2.bw, L2.e9, L2.kf, L2.ii, L2.ij, L2.kB_d, L2.iN, L2.t4, L2.vM, L2.o4, L2.nM, L2.toT, L2.toD, L2.T.d, L2.kD, L2.vL, L2.vB, L2.d2, L2.tB2, L2.e7, L2.t0, L2.jU, L2.Ee, L2.Ed, L2.ak, L2.aa, L2.vTup_d, L2.lI, L2.cO, L2.EC, L2.fN, L2.am, L2.j8, L2.ED, L2.vSl, L2.dY, L2.c9, L2.vW, L2.An, L2.o0, L2.lb, L2.fIt, L2.dO, L2.av, L2.dC, L2.bN, L2.gAdd_i, L2.atI_0, L2.atI_1, L2.atI_2, L2.atI_3, L2.atI_4, L2.atI_5, L2.atI_6, L2.n8, L2.D8, L2.D9, L2.EE, L2.EF, L2.eqF_s, L2.eqF_i, qk1, zi4, qk2, List.any_nil, L2.gSub_i, L2.gMul_l, L2.gMul_r, L2.fS, L2.EA, L2.gMod_w, L2.gCmp_i, L2.gEq_ii, L2.Cc, L2.gNe_ss, L2.gIs_n, L2.g8, L2.hX, L2.xb, L2.gLen_l, L2.gLen_t, L2.Ea, L2.itD_l, L2.itD_t, L2.truD_b, L2.asB_b, L2.Eb, qa5, qj5, qc2, qv8, zb5, qs2, qf3, zb3, qk3, qr6, qr7, qa2, Option.bind_none, qm6, Option.map_none, qq3, Option.join_none, Nat.reduceAdd, Nat.reduceSub, Nat.reduceLeDiff, Int.reduceLT, Int.reduceEq, eq_self, Int.reduceNeg, Int.reduceLE, if_true, if_false, ite_true, ite_false, qe7, decide_true, decide_false, Bool.not_true, Bool.not_false, qn5, qj3, Bool.or_true, zi2, qu7, zh1, qt4, zf3, String.reduceBEq, reduceCtorEq, L2.Cg, L2.zq, L2.xY, L2.zr, L2.Ay, L2.zt, L2.Az, L2.Ch, L2.Ci, L2.AA, L2.Cj, L2.Ck, L2.AB, L2.Cl, L2.CZ, L2.Cm, L2.C0, L2.Ef, L2.Eg, L2.C3, L2.zu, L2.Cn, L2.xZ, L2.zw, L2.AC, L2.zy, L2.AD, L2.Co, L2.Cp, L2.AE, L2.ya, L2.AF, L2.yb, L2.yc, L2.zz, L2.yd, L2.zA, L2.AG, L2.AH, L2.zB, L2.zC, L2.Cq, L2.zD, L2.ye, L2.AI, L2.zE, L2.AJ, L2.Cr, L2.Cs, L2.AK, L2.AL, L2.C4, L2.AM, L2.zF, L2.AN, L2.AO, L2.Ct, L2.C5, L2.C6, L2.Cu, L2.zG, L2.Cv, L2.zH, L2.yf, L2.zI, L2.AQ, L2.AR, L2.Cw, L2.Cy, L2.AS, L2.zJ, L2.C7, L2.C8, L2.Cz, L2.AT, L2.Eh, L2.C9, L2.AU, L2.Db, L2.zK, L2.Dc, L2.Df])
namespace P53
open PySem L2
theorem qM(n:Nat)(r:Rw):y89 [.int n,r.d]=some (.leaf (.tup ((r.outs n).map dI))):=by cases r<;>kernel_rfl
def dW(J0:List Rw):Dt:=.lst (J0.mapIdx fun k r=>.tup ((r.outs k).map dI))
theorem jp(c s:Dt)(J0:List Rw)(h:J0.length<=1000):dh [.tup [c,s,dR J0]]=some (.lst (J0.mapIdx fun k r=>.tup ((r.outs k).map dI))):=by
 unfold dh;walk_at "k";unfold iB dR;walk_at "k"
 rw[lM (h:=fun k r=>.tup ((r.outs k).map dI)) 0 fun k a=>⟨_,rfl,by unfold z134;walk_at "k";rw[qM];walk_at "k"⟩]
 walk_at "k";rw[cO (by rw[List.length_mapIdx];lia)];walk_at "k";simp
theorem pK(r:Rw):z59 [r.d]=some (.leaf (match r.sets with|some x=>.str x|none=>.non)):=by cases r<;>kernel_rfl
def xq(r:Rw):zm [r.d]=some (.leaf (.tup (r.atoms.map Atm.d))):=by cases r<;>kernel_rfl
theorem iS(q:Option T):∀(L:List Atm)(J5:List Str)(x2:Option T),J5.length+L.length<=10->∃y,cA (av 2) q90 (L.map Atm.d) [q,some (.lst (J5.map .str)),x2]=some (.nx [q,some (.lst (((nms L).foldl fK J5).map .str)),y])
 |[],J5,x2,_=>⟨x2,rfl⟩
 |.vl i::L,J5,x2,h=>by obtain⟨y,e⟩:=iS q L J5 (some (.leaf (.int i))) (by simp at h ⊢;lia);refine⟨y,?_⟩;rw[qa5,bo (δ1:=[q,some (.lst (J5.map .str)),some (.leaf (.int i))]) (δ2:=[q,some (.lst (J5.map .str)),some (.leaf (.int i))]) rfl (by unfold q90;walk_at "k"<;>rfl)];exact e
 |.nm x::L,J5,x2,h=>by
  have W:J5.length<10:=by simp at h;lia
  obtain⟨y,e⟩:=iS q L (fK J5 x) (some (.leaf (.str x))) (by
   have:(fK J5 x).length<=J5.length+1:=by unfold fK;split<;>simp
   simp at h ⊢;lia)
  refine⟨y,?_⟩;rw[qa5,bo (δ1:=[q,some (.lst (J5.map .str)),some (.leaf (.str x))]) (δ2:=[q,some (.lst ((fK J5 x).map .str)),some (.leaf (.str x))]) rfl ?_]
  .exact e
  .unfold q90 fK;walk_at "k";rw[gIn_strs];walk_at "k";by_cases O:x∈J5
   .rw[gB (by simp[O]),if_pos O];rfl
   .rw[gA (by simp[O]),if_neg O,kg rfl];walk_at "k";rw[fN (by rw[qa1];lia)];simp
def pL(r:Rw):y59 [r.d]=some (.lst (r.reads.map .str)):=by
 have q:r.atoms.length<=2:=by cases r<;>simp[Rw.atoms]
 obtain⟨y,e⟩:=iS (some (.leaf r.d)) r.atoms [] none (by simp;lia);unfold y59;walk_at "k";rw[xq];walk_at "k";rw[show([]:List Dt)=([]:List Str).map .str from rfl,e];walk_at "k";rfl
theorem uF(r:Rw)(l:List Str):cb (av 0) y55 (vL 0) [none,some (.leaf r.d)] (l.map .str)=some ((l.filter fun b=>decide (r.sets≠some b)).map .str):=
 cP fun b _=>⟨[some (.leaf (.str b)),some (.leaf r.d)],rfl,by
  unfold y55;walk_at "k";rw[pK];walk_at "k";cases q:r.sets with
  |none=>walk_at "k";rw[show gEq true (Dt.str b) Dt.non=some (.leaf (.bl true))from rfl];simp[asB]
  |some x=>
   walk_at "k";by_cases h:b=x
   .simp[h]
   .have:¬ x=b:=fun z=>h z.symm
    simp[h,this],fun _=>rfl⟩
theorem lO(r:Rw)(x1:Option T):∀(q:List (List Str))(J5:List Str)(x3:Option T),J5.length+(q.map qq7).sum<=1000->∃y,cA (av 3) q54 (q.map dS) [some (.leaf r.d),x1,some (.lst (J5.map .str)),x3]=some (.nx [some (.leaf r.d),x1,some (.lst ((J5++kh r q).map .str)),y])
 |[],J5,x3,_=>⟨x3,by unfold kh;simp[cA]⟩
 |l::q,J5,x3,h=>by
  simp only[qa5,qs1]at h;have L:=qd7 (fun b=>decide (r.sets≠some b)) l;obtain⟨y,e⟩:=lO r x1 q (J5++l.filter fun b=>decide (r.sets≠some b)) (some (.leaf (dS l))) (by rw[qb7];lia);refine⟨y,?_⟩;rw[qa5,bo (δ1:=[some (.leaf r.d),x1,some (.lst (J5.map .str)),some (.leaf (dS l))]) (δ2:=[some (.leaf r.d),x1,some (.lst ((J5++l.filter fun b=>decide (r.sets≠some b)).map .str)),some (.leaf (dS l))]) rfl ?_]
  .rw[e];unfold kh;simp
  .unfold q54;rw[AW (l:=J5.map .str) (m:=(l.filter fun b=>decide (r.sets≠some b)).map .str) rfl (xf (ds:=l.map .str) rfl (uF r l) (by rw[qa1];lia)),sA (by rw[qa1,qa1];lia)];simp
theorem xr(r:Rw)(q:List (List Str))(h:(q.map qq7).sum<=60):z24 [r.d,.lst (q.map dS)]=some (.lst ((NA r q).map .str)):=by
 have L:=r.reads_len
 have W:(kh r q).length<=(q.map qq7).sum:=by
  clear h L;induction q with
  |nil=>simp[kh]
  |cons l q O=>have Y:=qd7 (fun b=>decide (r.sets≠some b)) l;unfold kh at O ⊢;simp only[List.flatMap_cons,qb7,qa5,qs1];lia
 obtain⟨y,e⟩:=lO r (some (.leaf (.lst (q.map dS)))) q r.reads none (by lia);unfold z24;walk_at "k";rw[pL];walk_at "k";rw[e];walk_at "k";rw[ki (by rw[qb7];lia)];rfl
variable{J3:List (List Str)}
theorem xt(q:∀l∈J3,l.length<=12):∀js:List Nat,((js.map fun j=>J3.getD j []).map qq7).sum<=12*js.length
 |[]=>qh8 _
 |j::js=>by
  have L:=xt q js
  have:(J3.getD j []).length<=12:=by
   rw[qc5];cases h:J3[j]? with
   |none=>simp
   |some l=>exact q l (qd0 h)
  simp only[qa5,qs1,qc2];lia
variable{i:Nat}{r:Rw}
section
variable{P:Dt}{J0:List Rw}{B:List Str}{J3:List (List Str)}
theorem kH(h:J0[i]?=some r):au (dW J0) (.int i)=some (.leaf (.tup ((r.outs i).map dI))):=by unfold dW;rw[hX,bJ,List.getElem?_mapIdx,h];rfl
theorem CH(h:J0[i]?=some r):au (dR J0) (.int i)=some (.leaf r.d):=by unfold dR;rw[xb,bJ,qb3,h];rfl
theorem qN{l:List Str}(h:J3[i]?=some l):au (dF J3) (.int i)=some (.leaf (dS l)):=by unfold dF;rw[hX,bJ,qb3,h];rfl
theorem uG (L:J0[i]?=some r) (W:∀ l∈J3,l.length<=12) (Y:∀ j∈r.outs i,j<J3.length) (y4 Z:Option T) :
  am z24 (aa (toD (d2 au (vB 1) (vB 5))) (aa (toD (bA [none,some 3] (fIt (toD (d2 au (vB 2) (vB 5)))) (av 0) bN y78)) ak)) [some (.leaf P),some (.leaf (dR J0)),some (.leaf (dW J0)),some (.lst (J3.map dS)),y4,some (.leaf (.int i)),Z]=some (.lst ((nw J0 J3 i).map .str)):=by
 walk_at "k";rw[CH L,kH L];walk_at "k"
 rw[ci (h:=fun j=>dS (J3.getD j [])) fun j O=>⟨[some (.leaf (dI j)),some (.lst (J3.map dS))],rfl,rfl,by have q:=Y j O;unfold y78 dI;walk_at "k";rw[bJ,qb3,qy1 q,og (m:=J3[j]) (by simp[q])];rfl⟩]
 walk_at "k";have ho:=r.outs_len i;rw[cO (by rw[qa1];lia)];walk_at "k";have e:(r.outs i).map (fun j=>dS (J3.getD j []))=((r.outs i).map fun j=>J3.getD j []).map dS:=by rw[qc4];rfl
 rw[e,xr r _ (qb5 (xt W _) (by lia))];unfold nw;rw[L]
def sl(P:Dt)(J0:List Rw)(J3:List (List Str))(c:Bool)(q x6:Option T):De:=[some (.leaf P),some (.leaf (dR J0)),some (.leaf (dW J0)),some (.lst (J3.map dS)),some (.leaf (.bl c)),q,x6]
theorem zM {l:List Str} (Y:J0[i]?=some r) (O:J3[i]?=some l) (W:∀ l∈J3,l.length<=12) (Z:∀ j∈r.outs i,j<J3.length) (c:Bool) (x6:Option T) :
  ∃q c' y6,z79 (sl P J0 J3 c (some (.leaf (dI i))) x6)=some (.nx (sl P J0 q c' (some (.leaf (dI i))) y6))∧((nw J0 J3 i=l/\q=J3/\c'=c)∨(nw J0 J3 i≠l/\q=J3.set i (nw J0 J3 i)/\c'=true)):=by
 have h1:aA 6 (toT (toD (am z24 (aa (toD (d2 au (vB 1) (vB 5))) (aa (toD (bA [none,some 3] (fIt (toD (d2 au (vB 2) (vB 5)))) (av 0) bN y78)) ak))))) (sl P J0 J3 c (some (.leaf (dI i))) x6)=some (.nx (sl P J0 J3 c (some (.leaf (dI i))) (some (.leaf (dS (nw J0 J3 i)))))):=by exact aW ((congrArg (fun z:Option T=>(z.bind T.d).map T.leaf) (uG (P:=P) Y W Z (some (.leaf (.bl c))) x6)).trans rfl)
 have h2:tB2 (gEq true) (vB 6) (toD (d2 au (vB 3) (vB 5))) (sl P J0 J3 c (some (.leaf (dI i))) (some (.leaf (dS (nw J0 J3 i)))))=some (!decide (nw J0 J3 i=l)):=by unfold sl;walk_at "k";have:=qN O;unfold dF at this;unfold dI;rw[this];walk_at "k";unfold dS;rw[xj];rfl
 unfold z79;rw[aC h1];by_cases L:nw J0 J3 i=l
 .refine⟨J3,c,some (.leaf (dS (nw J0 J3 i))),?_,.inl ⟨L,rfl,rfl⟩⟩;rw[decide_eq_true L]at h2;rw[iP h2];rfl
 .have hi:i<(J3.map dS).length:=by rw[qa1];exact(gX O).1
  refine⟨J3.set i (nw J0 J3 i),true,some (.leaf (dS (nw J0 J3 i))),?_,.inr ⟨L,rfl,rfl⟩⟩;rw[decide_eq_false L]at h2;rw[iO h2,aC (Ek (k:=i) (d:=dS (nw J0 J3 i)) rfl rfl rfl hi),aW rfl];unfold sl;rw[List.map_set];rfl
theorem pass (hB:∀ (i:Nat) (r:Rw) (b:Str),J0[i]?=some r->b∈r.reads->b∈B) (hO:∀ (i:Nat) (r:Rw) (j:Nat),J0[i]?=some r->j∈r.outs i->j<J0.length) (hb:B.length<=12) :
  ∀(js:List Nat)(J3:List (List Str))(c:Bool)(x5 x6:Option T),Fnd J0 B J3->(∀j∈js,j<J0.length)→
  ∃L c' y5 y6,cA (av 5) z79 (js.map dI) (sl P J0 J3 c x5 x6)=some (.nx (sl P J0 L c' y5 y6))/\Fnd J0 B L∧tot J3<=tot L/\(c'=true->c=true∨tot J3<tot L)/\(c'=false->c=false/\L=J3/\∀j∈js,∀l,J3[j]?=some l->nw J0 J3 j=l)
 |[],J3,c,x5,x6,F,_=>⟨J3,c,x5,x6,rfl,F,nL _,.inl,fun h=>⟨h,rfl,fun j hj=>by cases hj⟩⟩
 |j::js,J3,c,x5,x6,F,hj=>by
  have Y:=hj j (.head _);have hr:J0[j]?=some J0[j]:=by simp[Y]
  have hlt:j<J3.length:=by rw[F.len];exact Y
  have Z:J3[j]?=some J3[j]:=by simp[hlt]
  have hs:∀l∈J3,l.length<=12:=fun l Z=>by obtain⟨i,h⟩:=qj9 Z;exact qb5 (F.short h) hb
  obtain⟨found1,c1,z6,e1,q1⟩:=zM (P:=P) hr Z hs (fun k hk=>by rw[F.len];exact hO j _ k hr hk) c x6
  have F1:Fnd J0 B found1:=by
   rcases q1 with ⟨_,rfl,_⟩|⟨_,rfl,_⟩
   .exact F
   .exact F.step hB Y
  obtain⟨O,c2,y5,y6,e2,F2,t2,q2,q3⟩:=pass hB hO hb js found1 c1 (some (.leaf (dI j))) z6 F1 fun k hk=>hj k (.tail _ hk)
  refine⟨O,c2,y5,y6,?_,F2,?_,?_,?_⟩
  .rw[qa5,bo rfl e1];exact e2
  .rcases q1 with ⟨_,rfl,_⟩|⟨ne,rfl,_⟩
   .exact t2
   .exact qb5 (qi8 (F.more Z ne)) t2
  .intro h;rcases q1 with ⟨_,rfl,rfl⟩|⟨ne,rfl,_⟩
   .exact q2 h
   .exact .inr (qb9 (F.more Z ne) t2)
  .intro h;obtain⟨h1,h2,h3⟩:=q3 h;rcases q1 with ⟨q,rfl,rfl⟩|⟨ne,rfl,rfl⟩
   .refine⟨h1,h2,fun k hk l W=>?_⟩;rcases qa9.mp hk with rfl|hk
    .rw[Z]at W;cases W;exact q
    .exact h3 k hk l W
   .cases h1
theorem loop (hB:∀ (i:Nat) (r:Rw) (b:Str),J0[i]?=some r->b∈r.reads->b∈B) (hO:∀ (i:Nat) (r:Rw) (j:Nat),J0[i]?=some r->j∈r.outs i->j<J0.length) (hb:B.length<=12) (hn:J0.length<=1000) :
  ∀(m:Nat)(J3:List (List Str))(W x6:Option T),Fnd J0 B J3->J0.length*B.length+2<=m+tot J3→
  ∃q Y Z,bt q123 q78 m (sl P J0 J3 true W x6)=some (.nx (sl P J0 q false Y Z))/\Fnd J0 B q/\Fix J0 q
 |0,J3,W,x6,F,hm=>by have:=F.tot_le;lia
 |m+1,J3,W,x6,F,hm=>by
  obtain⟨L,c1,Y,Z,e1,F1,t1,q1,q2⟩:=pass (P:=P) hB hO hb ((qc7 J0.length).map fun i=>J0.length-1-i) J3 false W x6 F fun j hj=>by obtain⟨i,hi,rfl⟩:=qd2.mp hj;have:=qe1.mp hi;lia
  have hb1:q78 (sl P J0 J3 true W x6)=some (.nx (sl P J0 L c1 Y Z)):=by unfold q78;rw[aC (δ':=sl P J0 J3 false W x6) (aW rfl)];show(ui [.int (((J0.map Rw.d).length:Int)-1),.int (-1),.int (-1)]).bind _=_;rw[qa1,uD hn,qa2];exact e1
  rw[gC rfl hb1];cases c1 with
  |true=>
   rcases q1 rfl with h|h
   .cases h
   .obtain⟨O,z5,z6,e2,F2,x2⟩:=loop hB hO hb hn m L Y Z F1 (by lia);exact⟨O,z5,z6,e2,F2,x2⟩
  |false=>
   obtain⟨_,rfl,q3⟩:=q2 rfl
   have hm2:∃m',m=m'+1:=by have:=F1.tot_le;exact⟨m-1,by lia⟩
   obtain⟨m',rfl⟩:=hm2;refine⟨L,Y,Z,kG rfl,F1,fun i l hl=>?_⟩;have hi:i<J0.length:=by rw[<- F1.len];exact(gX hl).1
   exact q3 i (qd2.mpr ⟨J0.length-1-i,qe1.mpr (by lia),by lia⟩) l hl
end
def pM:∀ds:List Dt,cb (av 0) bN q36 [none] ds=some (ds.map fun _=>.lst [])
 |[]=>rfl
 |d::ds=>by unfold cb av;rw[qa2];show((q36 [some (.leaf d)]).bind fun y=>(cb (av 0) bN q36 [none] ds).bind fun r=>some (y::r))=_;rw[pM ds,show q36 [some (.leaf d)]=some (.lst [])by unfold q36;walk_at "k"];rfl
variable{s:Dt}{J0:List Rw}
theorem iT {c:Dt} {B:List Str} (W:∀ (i:Nat) (r:Rw) (b:Str),J0[i]?=some r->b∈r.reads->b∈B) (Y:∀ (i:Nat) (r:Rw) (j:Nat),J0[i]?=some r->j∈r.outs i->j<J0.length) (O:B.length<=12) (q:J0.length<=1000) :
  ∃J3,z20 [.tup [c,s,dR J0]]=some (.lst (J3.map dS))/\Fnd J0 B J3/\Fix J0 J3:=by
 have L:J0.length*B.length<=1000*12:=Nat.mul_le_mul q O;obtain⟨J3,y5,y6,e,F,x⟩:=loop (P:=.tup [c,s,dR J0]) W Y O q 100000 _ none none Fnd.start (by lia);refine⟨J3,?_,F,x⟩;unfold z20;refine il ?_
 have s2:aA 2 (toT (toD (am dh (aa (vL 0) ak)))) [some (.leaf (.tup [c,s,dR J0])),some (.leaf (dR J0)),none,none,none,none,none]=some (.nx [some (.leaf (.tup [c,s,dR J0])),some (.leaf (dR J0)),some (.leaf (dW J0)),none,none,none,none]):=by refine aW ?_;show(((dh [.tup [c,s,dR J0]]).bind T.d).map T.leaf)=_;rw[jp c s J0 q];rfl
 have Z:aA 3 (bA [none] (fIt (vB 1)) (av 0) bN q36) [some (.leaf (.tup [c,s,dR J0])),some (.leaf (dR J0)),some (.leaf (dW J0)),none,none,none,none]=some (.nx [some (.leaf (.tup [c,s,dR J0])),some (.leaf (dR J0)),some (.leaf (dW J0)),some (.lst ((J0.map fun _=>[]).map dS)),none,none,none]):=by refine aW ?_;show((cb (av 0) bN q36 [none] (J0.map Rw.d)).bind fun ys=>if ys.length<=qb1 then some (T.lst ys)else none)=_;rw[pM,qa2,if_pos (small (by simp;lia)),qc4,qc4];rfl
 show ar _ _ [some (.leaf (.tup [c,s,dR J0])),none,none,none,none,none,none]=_;rw[aC (aW rfl)];show ar _ _ [some (.leaf (.tup [c,s,dR J0])),some (.leaf (dR J0)),none,none,none,none,none]=_;rw[aC s2,aC Z,aC (δ':=sl (.tup [c,s,dR J0]) J0 (J0.map fun _=>[]) true none none) (aW rfl),aC e];rfl
def zN(l:List Nat)(x:Nat):((l.map dI).any fun y=>eqF y (dI x))=decide (x∈l):=by
 rw[qi4,zb8];constructor
 .rintro⟨y,q,e⟩;obtain⟨z,L,rfl⟩:=qd2.mp q;have:(z:Int)=x:=by simpa[dI,eqF] using e
  have:z=x:=by lia
  subst this;exact decide_eq_true L
 .intro h;exact⟨dI x,qd2.mpr ⟨x,of_decide_eq_true h,rfl⟩,by simp[dI,eqF]⟩
theorem xu(l:List Nat):(l.map dI).all c8=true:=by rw[qj7];intro y q;obtain⟨z,L,rfl⟩:=qd2.mp q;rfl
variable{l:List Nat}
theorem fJ{neg:Bool}{x:Nat}:cB neg (dI x) (.lst (l.map dI))=some (.leaf (.bl (if neg then !decide (x∈l)else decide (x∈l)))):=by
 show gIn neg (dI x) (.lst (l.map dI))=_;unfold gIn
 have:inD (dI x) (.lst (l.map dI))=some (decide (x∈l)):=by show(if c8 (dI x)&&(l.map dI).all c8 then some ((l.map dI).any fun y=>eqF y (dI x))else none)=_;rw[xu,zN];rfl
 rw[this];rfl
def kpD(k:Nat×List Str):Dt:=.tup [dI k.1,.tup (k.2.map .str)]
def cdD(bg:List Str)(ks:List (Nat×List Str)):Dt:=.tup [.tup (bg.map .str),.tup (ks.map kpD)]
theorem jq(b:Dt)(ks:List (Nat×List Str))(h:ks.length<=1000):y13 [.tup [b,.tup (ks.map kpD)]]=some (.lst ((ks.map (·.1)).map dI)):=by unfold y13;walk_at "k";rw[ci (h:=fun p:Nat×List Str=>dI p.1) fun p hp=>⟨_,rfl,rfl,by unfold q103 kpD;walk_at "k"⟩];walk_at "k";rw[cO (by rw[qa1];lia),qc4];walk_at "k";rfl
abbrev kcD(b:Dt)(ks:List (Nat×List Str)):Dt:=.tup [b,.tup (ks.map kpD)]
abbrev pcD(c s:Dt)(J0:List Rw):Dt:=.tup [c,s,dR J0]
def pO(J0:List Rw)(i:Nat):List Nat:=match J0[i]? with
 |some r=>r.outs i
 |none=>[]
def sD(h:J0[i]?=some r):pO J0 i=r.outs i:=by unfold pO;rw[h]
def stay(J0:List Rw)(l:List Nat):List Nat:=l.filter fun i=>(pO J0 i).any fun j=>decide (j∈l)
def na:∀bs:List Bool,mC (bs.map .bl)=some bs
 |[]=>rfl
 |b::bs=>by rw[qa5];unfold mC;rw[na bs];rfl
theorem xw(l js:List Nat):cb (av 0) bN q44 [none,some (.leaf (.lst (l.map dI)))] (js.map dI)=some ((js.map fun j=>decide (j∈l)).map .bl):=by
 have:=ci (f:=dI) (h:=fun j=>Dt.bl (decide (j∈l))) (bb:=av 0) (ft:=bN) (fe:=q44) (δ:=[none,some (.leaf (.lst (l.map dI)))]) (l:=js) fun j _=>⟨[some (.leaf (dI j)),some (.leaf (.lst (l.map dI)))],rfl,rfl,by unfold q44;show(cB false (dI j) (.lst (l.map dI))).bind T.d=_;rw[fJ];rfl⟩
 rw[this,qc4];rfl
theorem uH(J0:List Rw)(l:List Nat)(i:Nat)(hi:i<J0.length):q20 [some (.leaf (dI i)),some (.leaf (dW J0)),some (.leaf (.lst (l.map dI)))]=some ((pO J0 i).any fun j=>decide (j∈l)):=by
 have q:J0[i]?=some J0[i]:=by simp[hi]
 have e:=kH q;have L:((J0[i]).outs i).length<=2:=Rw.outs_len _ _;unfold q20;rw[show dI i=Dt.int (i:Nat)from rfl];walk_at "k";rw[e];walk_at "k";rw[xw,qa2,cO (by simp;lia)];walk_at "k";unfold yP;dsimp only;rw[na,sD q];walk_at "k";simp[List.any_map,Function.comp_def]
theorem uI(J0:List Rw)(l:List Nat)(q:∀i∈l,i<J0.length):cb (av 0) q20 (vL 0) [none,some (.leaf (dW J0)),some (.leaf (.lst (l.map dI)))] (l.map dI)=some ((stay J0 l).map dI):=cP fun i hi=>⟨_,rfl,uH J0 l i (q i hi),fun _=>rfl⟩
variable{c:De->Option Bool}{g:De->Option Out}{n:Nat}{δ δ2:De}
theorem xx(h:c δ=some true)(q:g δ=some (.nx δ2)):bt c g (n+1) δ=bt c g n δ2:=by rw[bt,h,qa2,if_pos rfl,q];rfl
def xy(h:c δ=some false):bt c g (n+1) δ=some (.nx δ):=by rw[bt,h,qa2,if_neg (by decide)]
def lP(h:i∈stay J0 l):i∈l:=(qg9.mp h).1
def lQ(J0:List Rw)(l:List Nat):(stay J0 l).length<=l.length:=qd7 _ _
theorem xz(h:¬ (stay J0 l).length<l.length):stay J0 l=l:=by have:=lQ J0 l;exact(qn6 (p:=fun i=>(pO J0 i).any fun j=>decide (j∈l))).eq_of_length (by unfold stay at *;lia)
theorem xA (J0:List Rw) (l:List Nat) (q:∀ i∈l,i<J0.length) (Y:l.length<=1000) (x1 x3 x4:Option T) :
  y42 [some (.leaf (dW J0)),x1,some (.leaf (.lst (l.map dI))),x3,x4]=some (.nx [some (.leaf (dW J0)),x1,some (.leaf (.lst ((stay J0 l).map dI))),some (.leaf (.bl (decide ((stay J0 l).length<l.length)))),some (.leaf (.lst ((stay J0 l).map dI)))]):=by
 have L:=uI J0 l q;have W:=lQ J0 l
 have O:toD (bA [none,some 0,some 2] (fIt (vB 2)) (av 0) q20 (vL 0)) [some (.leaf (dW J0)),x1,some (.leaf (.lst (l.map dI))),x3,x4]=some (.lst ((stay J0 l).map dI)):=by show T.d =<< ((cb (av 0) q20 (vL 0) [none,some (.leaf (dW J0)),some (.leaf (.lst (l.map dI)))] (l.map dI)).bind mkL)=_;rw[L,qa2,cO (by rw[qa1];lia)];rfl
 have s1:aA 4 (toT (toD (bA [none,some 0,some 2] (fIt (vB 2)) (av 0) q20 (vL 0)))) [some (.leaf (dW J0)),x1,some (.leaf (.lst (l.map dI))),x3,x4]=some (.nx [some (.leaf (dW J0)),x1,some (.leaf (.lst (l.map dI))),x3,some (.leaf (.lst ((stay J0 l).map dI)))]):=by unfold aA toT;rw[O];rfl
 unfold y42;rw[b8,s1,cF];walk_at "k";simp
theorem lS (J0:List Rw) (hn:J0.length<=500) (x1:Option T):∀ (f:Nat) (l:List Nat) (x4:Option T),l.length<f->(∀ i∈l,i<J0.length)->l.Nodup->l.length<=1000→
  ∃(E:List Nat)(O:Option T),bt q56 y42 (f+1) [some (.leaf (dW J0)),x1,some (.leaf (.lst (l.map dI))),some (.leaf (.bl true)),x4]=some (.nx [some (.leaf (dW J0)),x1,some (.leaf (.lst (E.map dI))),some (.leaf (.bl false)),O])/\stay J0 E=E/\E.Nodup/\(∀i∈E,i∈l)/\∀C:Nat->Prop,(∀i,C i->i∈l)->(∀i,C i->∃j∈pO J0 i,C j)->∀i,C i->i∈E
 |0,l,x4,h,_,_,_=>absurd h (qo8 _)
 |f+1,l,x4,h,Z,Y,h1=>by
  have hb:=xA J0 l Z h1 x1 (some (.leaf (.bl true))) x4;have hc:q56 [some (.leaf (dW J0)),x1,some (.leaf (.lst (l.map dI))),some (.leaf (.bl true)),x4]=some true:=rfl;have hs:=lQ J0 l
  have keep:∀C:Nat->Prop,(∀i,C i->i∈l)->(∀i,C i->∃j∈pO J0 i,C j)->∀i,C i->i∈stay J0 l:=fun C L q i hi=>by obtain⟨j,hj,W⟩:=q i hi;refine qg9.mpr ⟨L i hi,?_⟩;rw[zb8];exact⟨j,hj,decide_eq_true (L j W)⟩
  rw[xx hc hb];by_cases z:(stay J0 l).length<l.length
  .rw[decide_eq_true z];obtain⟨E,O,e,g1,g2,g3,g4⟩:=lS J0 hn x1 f (stay J0 l) (some (.leaf (.lst ((stay J0 l).map dI)))) (by lia) (fun i hi=>Z i (lP hi)) (Y.sublist qn6) (by lia);exact⟨E,O,e,g1,g2,fun i hi=>lP (g3 i hi),fun C L q=>g4 C (keep C L q) q⟩
  .rw[decide_eq_false z];have hf:=xz z;refine⟨stay J0 l,_,xy rfl,by rw[hf];exact hf,Y.sublist qn6,fun i hi=>lP hi,keep⟩
def qO (J0:List Rw) (l:List Nat) (W:J0.length<=500) (q:∀ i∈l,i<J0.length) (L:l.Nodup) :
  ∃E:List Nat,y40 [dW J0,.lst (l.map dI)]=some (.leaf (.lst (E.map dI)))/\stay J0 E=E/\E.Nodup/\(∀i∈E,i∈l)/\∀C:Nat->Prop,(∀i,C i->i∈l)->(∀i,C i->∃j∈pO J0 i,C j)->∀i,C i->i∈E:=by
 have h1:l.length<=J0.length:=by
  have:=bY L (m:=qc7 J0.length) fun x O=>qe1.mpr (q x O)
  simpa using this
 obtain⟨E,Y,e,g⟩:=lS J0 W (some (.leaf (.lst (l.map dI)))) 99999 l none (by lia) q L (by lia);refine⟨E,?_,g⟩;unfold y40;walk_at "k";rw[show(100000:Nat)=99999+1 from rfl,e];walk_at "k"
variable{fa fb:De->Option Dt}{x y:Dt}
theorem b9{g:Dt->Dt->Option T}(h1:fa δ=some x)(h2:fb δ=some y):d2 g fa fb δ=g x y:=by unfold d2;rw[h1,h2];rfl
def aB{f:De->Option T}{t:T}(h:f δ=some t):toD f δ=t.d:=by unfold toD;rw[h];rfl
variable{bb:Dt->De->Option De}{ds:List Dt}
theorem gj{src:List (Option Nat)}{fi:De->Option (List Dt)}{ft:De->Option Bool}{fe:De->Option Dt}{ys:List Dt}(h1:fi δ=some ds)(h2:cb bb ft fe (dC src δ) ds=some ys)(h3:ys.length<=1000000):bA src fi bb ft fe δ=some (.lst ys):=by unfold bA;rw[h1,qa2,h2,qa2,if_pos (small h3)]
variable{f:De->Option Dt}
theorem cu{F:List Dt->Option T}(h:f δ=some x):am F (aa f ak) δ=F [x]:=by unfold am aa ak;rw[h];rfl
theorem cx{F:List Dt->Option T}{g:De->Option Dt}(h:f δ=some x)(h2:g δ=some y):am F (aa f (aa g ak)) δ=F [x,y]:=by unfold am aa ak;rw[h,h2];rfl
theorem uJ(kept:List Nat)(n:Nat):cb (av 0) z51 (vL 0) [none,some (.leaf (.lst (kept.map dI)))] ((qc7 n).map dI)=some (((qc7 n).filter fun i=>!decide (i∈kept)).map dI):=cP fun j _=>⟨[some (.leaf (dI j)),some (.leaf (.lst (kept.map dI)))],rfl,by unfold z51;show((cB true (dI j) (.lst (kept.map dI))).bind asB)=_;rw[fJ];rfl,fun _=>rfl⟩
theorem iU(n:Nat)(h:n<=1000000):fY [.int n]=some ((qc7 n).map dI):=by rw[Ce (by lia)];unfold k7 dI;simp
theorem ao{fs:De->Option (List Dt)}{d:Dt}(h1:f δ=some d)(h2:fs δ=some ds):aa f fs δ=some (d::ds):=by unfold aa;rw[h1,qa2,h2];rfl
theorem io{fs:De->Option (List Dt)}(h:fs δ=some ds)(q:ds.length<=1000):aT fs δ=some (.leaf (.tup ds)):=by unfold aT;rw[h];exact if_pos (small (by lia))
theorem sE{g:De->Option Dt}(h:f δ=some x)(h2:g δ=some y):aT (aa f (aa g ak)) δ=some (.leaf (.tup [x,y])):=io (ao h (ao h2 rfl)) (by simp)
def di{d:Dt}(h:f δ=some d):toT f δ=some (.leaf d):=by unfold toT;rw[h];rfl
theorem ia{F:List Dt->Option T}{g h:De->Option Dt}{z:Dt}(h1:f δ=some x)(h2:g δ=some y)(h3:h δ=some z):am F (aa f (aa g (aa h ak))) δ=F [x,y,z]:=by unfold am;rw[ao h1 (ao h2 (ao h3 (show ak δ=some []from rfl)))];rfl
theorem dRt{m:Nat}{t:T}(h:g (ds.map (fun d=>some (T.leaf d))++qf3 (m-ds.length) none)=some (.rt t)):ce m g ds=some t:=by rw[jT,h];rfl
variable{g1:De->Option Out}
theorem AZ{r:De->Option Out}{t:T}(h:c δ=some true)(h1:g1 δ=some (.rt t)):ar (sIf c g1 bV) r δ=some (.rt t):=by rw[b8,kf,h,ii,h1];rfl
def xB{r:De->Option Out}(h:c δ=some false):ar (sIf c g1 bV) r δ=r δ:=by rw[b8,kf,h,ij];rfl
variable{b:Bool}
theorem ib{g:Dt->Dt->Option T}(h1:fa δ=some x)(h2:fb δ=some y)(h:g x y=some (.leaf (.bl b))):tB2 g fa fb δ=some b:=by unfold tB2;rw[b9 h1 h2,h];rfl
def dX{f:De->Option T}{t:T}(h:f δ=some t):bw f δ=some (.rt t):=by unfold bw;rw[h];rfl
structure Hd where
 x:Str
 n:Int
 b:Bool
def hdD(h:Hd):Dt:=.tup [.str h.x,.int h.n,.bl h.b]
theorem sF{α:Type}(f:α->Dt)(cs ss:List α)(q:cs.length+ss.length<=1000):lB (.tup (cs.map f)) (.tup (ss.map f))=some (.leaf (.tup ((cs++ss).map f))):=by
 cases cs with
 |nil=>rfl
 |cons a cs=>
  cases ss with
  |nil=>rw[qg2];rfl
  |cons b ss=>show(if((a::cs).map f).length+((b::ss).map f).length<=qb1/\(a::cs).map f≠[]/\(b::ss).map f≠[]then _ else none)=_;rw[if_pos ⟨by rw[qa1,qa1];exact small (by lia),by simp,by simp⟩,qe9];rfl
theorem lT(cs ss:List Hd)(R:Dt)(q:cs.length+ss.length<=1000):q15 [.tup [.tup (cs.map hdD),.tup (ss.map hdD),R]]=some (.lst ((((cs++ss).filter fun h=>!h.b).map (·.x)).map .str)):=by
 unfold q15;walk_at "k";rw[sF hdD cs ss q];walk_at "k"
 rw[cP (h:=fun h:Hd=>Dt.str h.x) (p:=fun h=>!h.b) fun h _=>⟨_,rfl,by
  unfold z90 hdD;walk_at "k"
  try rfl,fun _=>by unfold y88 hdD;walk_at "k"⟩]
 walk_at "k";rw[cO (by rw[qa1];exact qb5 (qd7 _ _) (by rw[qb7];lia)),qc4];walk_at "k";rfl
abbrev pgD(cs ss:List Hd)(J0:List Rw):Dt:=.tup [.tup (cs.map hdD),.tup (ss.map hdD),dR J0]
def kdB(N:List Str):Rw->Bool
 |.fin _=>true
 |.store c _=>decide (c∈N)
 |.lay f _ _=>decide (f∈N)
 |_=>false
def kds(N:List Str):Nat->List Rw->List Nat
 |_,[]=>[]
 |k,r::rs=>(if kdB N r then [k]else [])++kds N (k+1) rs
variable{N:List Str}{j:Nat}
def kds_mem:∀{k:Nat}{rs:List Rw},j∈kds N k rs↔k<=j/\∃r,rs[j-k]?=some r/\kdB N r=true
 |k,[]=>by simp[kds]
 |k,r::rs=>by
  rw[kds,qd6,kds_mem];constructor
  .rintro(h|⟨h,q,h1,h2⟩)
   .split at h
    .rename_i L;rw[qa6.mp h];exact⟨qq6 _,r,by simp,L⟩
    .cases h
   .refine⟨by lia,q,?_,h2⟩;rw[show j-k=(j-(k+1))+1 by lia];exact h1
  .rintro⟨h,q,h1,h2⟩;by_cases e:j=k
   .subst e;rw[zi5]at h1;cases h1;left;rw[if_pos h2];exact .head _
   .right;refine⟨by lia,q,?_,h2⟩;rw[show j-k=(j-(k+1))+1 by lia]at h1;exact h1
def sH(N:List Str):∀(k:Nat)(rs:List Rw),(kds N k rs).length<=rs.length
 |_,[]=>nL _
 |k,r::rs=>by have:=sH N (k+1) rs;rw[kds,qb7,qc2];split<;>simp<;>lia
theorem uK(N:List Str)(r:Rw)(q x2 x3:Option T):fOr (tB2 (gEq false) (toD (d2 au (vB 4) (kD (.int 0)))) (kD (.str "end"))) (fG (tB2 (cB false) (toD (d2 au (vB 4) (kD (.int 0)))) (toD (aT (aa (kD (.str "store")) (aa (kD (.str "lay")) ak))))) (tB2 (cB false) (toD (d2 au (vB 4) (kD (.int 1)))) (vB 1))) [q,some (.leaf (dS N)),x2,x3,some (.leaf r.d)]=some (kdB N r):=by cases r<;>simp only[Rw.d,kdB,dS]<;>walk_at "k"<;>(try rw[gIn_strs])<;>(try rfl)
theorem sI(N:List Str)(q:Option T):∀(rs:List Rw)(k:Nat)(J5:List Nat)(x3 x4:Option T),J5.length+rs.length<=1000->∃L O,cA (fu 2 (br (av 3) (br (av 4) fq))) y24 (dw k (rs.map Rw.d)) [q,some (.leaf (dS N)),some (.lst (J5.map dI)),x3,x4]=some (.nx [q,some (.leaf (dS N)),some (.lst ((J5++kds N k rs).map dI)),L,O])
 |[],k,J5,x3,x4,_=>⟨x3,x4,by rw[kds,qg2];rfl⟩
 |r::rs,k,J5,x3,x4,h=>by
  have W:fu 2 (br (av 3) (br (av 4) fq)) (.tup [.int (k:Nat),r.d]) [q,some (.leaf (dS N)),some (.lst (J5.map dI)),x3,x4]=some [q,some (.leaf (dS N)),some (.lst (J5.map dI)),some (.leaf (.int (k:Nat))),some (.leaf r.d)]:=rfl
  have Y:y24 [q,some (.leaf (dS N)),some (.lst (J5.map dI)),some (.leaf (.int (k:Nat))),some (.leaf r.d)]=some (.nx [q,some (.leaf (dS N)),some (.lst ((J5++if kdB N r then [k]else []).map dI)),some (.leaf (.int (k:Nat))),some (.leaf r.d)]):=by
   unfold y24;rw[kf,uK];cases kdB N r with
   |false=>rw[ij];simp;rfl
   |true=>rw[ii];rw[kg (l:=J5.map dI) rfl,show vL 3 [q,some (.leaf (dS N)),some (.lst (J5.map dI)),some (.leaf (.int (k:Nat))),some (.leaf r.d)]=some (dI k)from rfl,qa2,fN (by rw[qa1];simp at h;lia)];simp
  obtain⟨L,O,e⟩:=sI N q rs (k+1) (J5++if kdB N r then [k]else []) (some (.leaf (.int (k:Nat)))) (some (.leaf r.d)) (by simp at h ⊢;split<;>simp<;>lia);refine⟨L,O,?_⟩;rw[qa5,dw,bo W Y,e,kds,qj1]
theorem qP(cs ss:List Hd)(J0:List Rw)(q:cs.length+ss.length<=1000)(L:J0.length<=1000):z30 [pgD cs ss J0]=some (.lst ((kds (((cs++ss).filter fun h=>!h.b).map (·.x)) 0 J0).map dI)):=by
 unfold z30;rw[jT];generalize W:((cs++ss).filter fun h=>!h.b).map (·.x)=N
 have O:aA 1 (toT (toD (am q15 (aa (vL 0) ak)))) [some (.leaf (pgD cs ss J0)),none,none,none,none]=some (.nx [some (.leaf (pgD cs ss J0)),some (.leaf (dS N)),none,none,none]):=by have:=lT cs ss (dR J0) q;rw[W]at this;walk_at "k";rw[this];rfl
 obtain⟨y3,y4,Y⟩:=sI N (some (.leaf (pgD cs ss J0))) J0 0 [] none none (by simpa using L);show lH (ar _ _ [some (.leaf (pgD cs ss J0)),none,none,none,none])=_;rw[b8,O,cF,b8];show lH (ar _ _ [some (.leaf (pgD cs ss J0)),some (.leaf (dS N)),some (.lst ([].map dI)),none,none])=_;rw[b8];have Z:dg (dO iB (aa (toD (d2 au (vB 0) (kD (.int 2)))) ak)) (fu 2 (br (av 3) (br (av 4) fq))) y24 [some (.leaf (pgD cs ss J0)),some (.leaf (dS N)),some (.lst (([]:List Nat).map dI)),none,none]=cA (fu 2 (br (av 3) (br (av 4) fq))) y24 (dw 0 (J0.map Rw.d)) [some (.leaf (pgD cs ss J0)),some (.leaf (dS N)),some (.lst (([]:List Nat).map dI)),none,none]:=rfl;rw[Z,Y,cF];rfl
def bks:Nat->List Rw->List Nat
 |_,[]=>[]
 |k,r::rs=>(r.outs k).filter (fun j=>decide (j<=k))++bks (k+1) rs
def bks_mem:∀{k:Nat}{rs:List Rw},j∈bks k rs↔∃i r,rs[i]?=some r/\j∈r.outs (k+i)/\j<=k+i
 |k,[]=>by simp[bks]
 |k,r::rs=>by
  rw[bks,qd6,bks_mem,qg9];constructor
  .rintro(⟨h1,h2⟩|⟨i,q,h1,h2,h3⟩)
   .exact⟨0,r,rfl,h1,by simpa using h2⟩
   .exact⟨i+1,q,h1,by rw[show k+(i+1)=k+1+i by lia];exact h2,by lia⟩
  .rintro⟨i,q,h1,h2,h3⟩;cases i with
   |zero=>cases h1;exact .inl ⟨h2,by simpa using h3⟩
   |succ i=>exact .inr ⟨i,q,h1,by rw[show k+1+i=k+(i+1)by lia];exact h2,by lia⟩
def sJ:∀(k:Nat)(rs:List Rw),(bks k rs).length<=2*rs.length
 |_,[]=>nL _
 |k,r::rs=>by have h1:=sJ (k+1) rs;have h2:=qb5 (qd7 (fun j=>decide (j<=k)) (r.outs k)) (r.outs_len k);rw[bks,qb7,qc2];lia
theorem uL(k:Nat)(js:List Nat):cb (av 0) q29 (vL 0) [none,some (.leaf (.int (k:Nat)))] (js.map dI)=some ((js.filter fun j=>decide (j<=k)).map dI):=cP fun j _=>⟨_,rfl,by unfold q29;show some (decide (((j:Nat):Int)<=(k:Nat)))=_;congr 1;rw[decide_eq_decide];lia,fun _=>rfl⟩
theorem sK(q:Option T):∀(rs:List Rw)(k:Nat)(J5:List Nat)(x2 x3:Option T),J5.length+2*rs.length<=10000->∃O L,cA (fu 2 (br (av 2) (br (av 3) fq))) z18 (dw k (rs.mapIdx fun i r=>.tup ((r.outs (k+i)).map dI))) [q,some (.lst (J5.map dI)),x2,x3]=some (.nx [q,some (.lst ((J5++bks k rs).map dI)),O,L])
 |[],k,J5,x2,x3,_=>⟨x2,x3,by rw[bks,qg2];rfl⟩
 |r::rs,k,J5,x2,x3,h=>by
  rw[qc2]at h;have h2:=qb5 (qd7 (fun j=>decide (j<=k)) (r.outs k)) (r.outs_len k);have W:fu 2 (br (av 2) (br (av 3) fq)) (.tup [.int (k:Nat),.tup ((r.outs k).map dI)]) [q,some (.lst (J5.map dI)),x2,x3]=some [q,some (.lst (J5.map dI)),some (.leaf (.int (k:Nat))),some (.leaf (.tup ((r.outs k).map dI)))]:=rfl
  have Z:z18 [q,some (.lst (J5.map dI)),some (.leaf (.int (k:Nat))),some (.leaf (.tup ((r.outs k).map dI)))]=some (.nx [q,some (.lst ((J5++(r.outs k).filter fun j=>decide (j<=k)).map dI)),some (.leaf (.int (k:Nat))),some (.leaf (.tup ((r.outs k).map dI)))]):=by
   unfold z18;rw[AW (l:=J5.map dI) (m:=((r.outs k).filter fun j=>decide (j<=k)).map dI) rfl,sA (by rw[qa1,qa1];lia)]
   .rw[qe9];rfl
   .show(cb (av 0) q29 (vL 0) [none,some (.leaf (.int (k:Nat)))] ((r.outs k).map dI)).bind mkL=_;rw[uL,qa2,cO (by rw[qa1];lia)]
  obtain⟨O,L,e⟩:=sK q rs (k+1) (J5++(r.outs k).filter fun j=>decide (j<=k)) (some (.leaf (.int (k:Nat)))) (some (.leaf (.tup ((r.outs k).map dI)))) (by rw[qb7];lia);refine⟨O,L,?_⟩;rw[zb7,dw,Nat.add_zero,bo W Z]
  have Y:(fun i r=>Dt.tup (zi7 dI (Rw.outs (k+(i+1)) r)))=fun i r=>Dt.tup (zi7 dI (Rw.outs (k+1+i) r)):=by funext i r;rw[show k+(i+1)=k+1+i by lia]
  rw[Y,e,bks,qj1]
theorem pP(c s:Dt)(J0:List Rw)(q:J0.length<=1000):y20 [.tup [c,s,dR J0]]=some (.lst ((bks 0 J0).map dI)):=by
 unfold y20;rw[jT];obtain⟨Z,Y,L⟩:=sK (some (.leaf (.tup [c,s,dR J0]))) J0 0 [] none none (by simp;lia);have W:=jp c s J0 q;show lH (ar _ _ [some (.leaf (.tup [c,s,dR J0])),some (.lst (([]:List Nat).map dI)),none,none])=_;rw[b8]
 have O:dg (dO iB (aa (toD (am dh (aa (vL 0) ak))) ak)) (fu 2 (br (av 2) (br (av 3) fq))) z18 [some (.leaf (.tup [c,s,dR J0])),some (.lst (([]:List Nat).map dI)),none,none]=cA (fu 2 (br (av 2) (br (av 3) fq))) z18 (dw 0 (J0.mapIdx fun i r=>.tup ((r.outs (0+i)).map dI))) [some (.leaf (.tup [c,s,dR J0])),some (.lst (([]:List Nat).map dI)),none,none]:=by walk_at "k";rw[W];simp only[Nat.zero_add];rfl
 rw[O,L,cF];rfl
theorem dA{α β:Type}(f:α->β)(l:List α)(k:Nat)(h:k<l.length)(d:α):atI (l.map f) (k:Int)=some (f (l.getD k d)):=by unfold atI ixN;rw[if_pos (by lia),qa1,if_pos (by lia)];simp[h]
theorem gH(ns:List Int)(k:Nat):q4 [.lst (ns.map .int),.int k]=some (.leaf (.int (ns.getD k 0))):=by
 unfold q4;walk_at "d";by_cases h:k<ns.length
 .rw[gA (by simpa using h)];walk_at "d";rw[dA Dt.int ns k h 0];rfl
 .rw[gB (by simpa using h)];walk_at "d";simp[List.getD,show ns.length<=k by lia]
theorem ip{i j:Int}(q:0<j)(h1:j<10000000000000):fg (.int i) (.int j)=some (.leaf (.int (i/j))):=if_pos ⟨q,by lia⟩
theorem km(x1:Option T):∀(zs:List Nat)(n:Int)(done:List Nat)(x3:Option T),(∀z∈zs,0<z/\z<10000000000000)->done.length+zs.length<=100->∃(q:Int)(ds:List Nat)(y:Option T),cA (av 3) y62 (zs.map dI) [some (.leaf (.int n)),x1,some (.lst (done.map dI)),x3]=some (.nx [some (.leaf (.int q)),x1,some (.lst ((done++ds).map dI)),y])/\ds.length=zs.length/\∀(i d z:Nat),ds[i]?=some d->zs[i]?=some z->d<z
 |[],n,done,x3,_,_=>⟨n,[],x3,by simp[cA],rfl,fun i d z h=>by simp at h⟩
 |z::zs,n,done,x3,O,L=>by
  obtain⟨h0,h1⟩:=O z (.head _);have m0:=ze6 n (show(z:Int)≠0 by lia);have m1:=Int.emod_lt_of_pos n (show(0:Int)<z by lia);obtain⟨d,hd⟩:∃d:Nat,n%(z:Int)=(d:Int):=⟨(n%(z:Int)).toNat,by lia⟩;obtain⟨q,ds,y,e,Y,Z⟩:=km x1 zs (n/z) (done++[d]) (some (.leaf (dI z))) (fun w hw=>O w (.tail _ hw)) (by simp at L ⊢;lia);refine⟨q,d::ds,y,?_,by simp[Y],fun i d' W h1 h2=>?_⟩
  .rw[qa5,bo (δ1:=[some (.leaf (.int n)),x1,some (.lst (done.map dI)),some (.leaf (dI z))]) (δ2:=[some (.leaf (.int (n/z))),x1,some (.lst ((done++[d]).map dI)),some (.leaf (dI z))]) rfl ?_]
   .rw[e];simp
   .unfold y62 dI;walk_at "d";rw[kg rfl];walk_at "d";rw[fS (by lia),hd];walk_at "d";rw[fN (by rw[qa1];simp at L;lia)];walk_at "d";rw[ip (by lia) (by lia)];walk_at "d";simp[dI]
  .cases i with
   |zero=>simp at h1 h2;subst h1 h2;lia
   |succ i=>exact Z i d' W (by simpa using h1) (by simpa using h2)
theorem iq(n:Int)(zs:List Nat)(O:∀z∈zs,0<z/\z<10000000000000)(W:zs.length<=50):∃ds:List Nat,z12 [.int n,.lst (zs.map dI)]=some (.lst (ds.map dI))/\ds.length=zs.length/\∀(i d z:Nat),ds[i]?=some d->zs[i]?=some z->d<z:=by obtain⟨Y,ds,y,e,q,L⟩:=km (some (.leaf (.lst (zs.map dI)))) zs n [] none O (by simp;lia);refine⟨ds,?_,q,L⟩;unfold z12;walk_at "d";rw[show([]:List Dt)=([]:List Nat).map dI from rfl,e];walk_at "d"
theorem ng{α:Type}(a:Array α):∀(n:Nat)(J5:Array α),((qf3 n a).foldl (· ++ ·) J5).size=J5.size+n*a.size
 |0,J5=>by simp
 |n+1,J5=>by rw[List.replicate_succ,qi6,ng a n,Array.size_append,Nat.succ_mul];lia
def sL(c n:Nat):(iK ⟨#[c]⟩ n).length<=n+1:=by
 unfold iK;split
 .simp[Str.empty,ze8]
 .split
  .simp[ze8]
  .show((qf3 (n:Int).toNat #[c]).foldl (· ++ ·) #[]).size<=n+1;rw[ng];simp
theorem sM(c n:Nat)(h:n<=10):jm (.str ⟨#[c]⟩) (.int n)=some (.leaf (.str (iK ⟨#[c]⟩ n))):=if_pos ⟨by lia,by lia,by simp[ze8]⟩
theorem zO(c d m n:Nat)(q:m<=10)(L:n<=10):∃w:Str,((Option.bind ((Option.bind (jm (.str ⟨#[c]⟩) (.int m)) T.d).bind fun x=>aN x (.str ⟨#[d]⟩)) T.d).bind fun x=>(Option.bind (jm (.str ⟨#[c]⟩) (.int n)) T.d).bind fun y=>aN x y)=some (.leaf (.str w)):=by
 have O:=sL c m;have Y:=sL c n;have W:qb1=16777216:=qz8;refine⟨iK ⟨#[c]⟩ m++⟨#[d]⟩++iK ⟨#[c]⟩ n,?_⟩;rw[sM c m q,sM c n L];show((((aN (.str (iK ⟨#[c]⟩ m)) (.str ⟨#[d]⟩)).bind T.d).bind fun y=>aN y (.str (iK ⟨#[c]⟩ n))))=_;rw[wZ (by simp[ze8]at *;lia)];show aN (.str (iK ⟨#[c]⟩ m++⟨#[d]⟩)) (.str (iK ⟨#[c]⟩ n))=_
 have e:(iK ⟨#[c]⟩ m++(⟨#[d]⟩:Str)).length=(iK ⟨#[c]⟩ m).length+1:=by show((iK ⟨#[c]⟩ m).cps++#[d]).size=_;rw[Array.size_append];rfl
 rw[wZ (by rw[e];lia)]
theorem uM (L x1 x2:Option T) (e0 e1 q O at' sz:Nat) (c k:Nat) (J5:List Str) (Y:Option T) (h2:q<26) (ha:at'<sz) (hz:sz<=6) (hl:J5.length<=1000) :
  ∃(w:Str)(y9:Option T),q50 [L,x1,x2,some (.leaf (.lst ([e0,e1,q,O].map dI))),some (.leaf (dI sz)),some (.leaf (dI at')),some (.leaf (.str ⟨#[c]⟩)),some (.lst (J5.map .str)),some (.leaf (dI k)),Y]=some (.nx [L,x1,x2,some (.leaf (.lst ([e0,e1,q,O].map dI))),some (.leaf (dI sz)),some (.leaf (dI at')),some (.leaf (.str ⟨#[c]⟩)),some (.lst ((J5++[w]).map .str)),some (.leaf (dI k)),y9]):=by
 obtain⟨ch,W,_⟩:=n6 (x:="abcdefghijklmnopqrstuvwxyz") (i:=((q:Int)+(k:Int))%26) (by decide) (by lia) (by
  have:(("abcdefghijklmnopqrstuvwxyz":Str).length:Int)=26:=by decide
  lia)
 obtain⟨w,Z⟩:=zO c ch at' (sz-1-at') (by lia) (by lia)
 refine⟨w,some (.leaf (.str ⟨#[ch]⟩)),?_⟩;unfold q50
 have s1:aA 9 (toT (toD (d2 au (kD (.str "abcdefghijklmnopqrstuvwxyz")) (toD (d2 ck (toD (d2 aN (toD (d2 au (vB 3) (kD (.int 2)))) (vB 8))) (kD (.int 26))))))) [L,x1,x2,some (.leaf (.lst ([e0,e1,q,O].map dI))),some (.leaf (dI sz)),some (.leaf (dI at')),some (.leaf (.str ⟨#[c]⟩)),some (.lst (J5.map .str)),some (.leaf (dI k)),Y]=some (.nx [L,x1,x2,some (.leaf (.lst ([e0,e1,q,O].map dI))),some (.leaf (dI sz)),some (.leaf (dI at')),some (.leaf (.str ⟨#[c]⟩)),some (.lst (J5.map .str)),some (.leaf (dI k)),some (.leaf (.str ⟨#[ch]⟩))]):=by unfold dI;walk_at "k";rw[show au (Dt.str "abcdefghijklmnopqrstuvwxyz") (Dt.int (((q:Int)+(k:Int))%26))=_ from W];rfl
 rw[b8,s1,cF,kg rfl]
 have e:(toD (d2 aN (toD (d2 aN (toD (d2 jm (vB 6) (vB 5))) (vB 9))) (toD (d2 jm (vB 6) (toD (d2 gJ (toD (d2 gJ (vB 4) (kD (.int 1)))) (vB 5))))))) [L,x1,x2,some (.leaf (.lst ([e0,e1,q,O].map dI))),some (.leaf (dI sz)),some (.leaf (dI at')),some (.leaf (.str ⟨#[c]⟩)),some (.lst (J5.map .str)),some (.leaf (dI k)),some (.leaf (.str ⟨#[ch]⟩))]=some (.str w):=by
  have h3:((sz:Nat):Int)-1-((at':Nat):Int)=((sz-1-at':Nat):Int):=by lia
  rw[<- h3]at Z;unfold dI;walk_at "k";rw[Z];rfl
 rw[e,qa2,fN (by rw[qa1];lia)];simp
theorem pQ(O x1 x2:Option T)(e0 e1 q W at' sz c:Nat)(h2:q<26)(ha:at'<sz)(hz:sz<=6):∀(ks:List Nat)(J5:List Str)(x8 L:Option T),J5.length+ks.length<=1000->∃(l:List Str)(Z Y:Option T),l.length=ks.length/\cA (av 8) q50 (ks.map dI) [O,x1,x2,some (.leaf (.lst ([e0,e1,q,W].map dI))),some (.leaf (dI sz)),some (.leaf (dI at')),some (.leaf (.str ⟨#[c]⟩)),some (.lst (J5.map .str)),x8,L]=some (.nx [O,x1,x2,some (.leaf (.lst ([e0,e1,q,W].map dI))),some (.leaf (dI sz)),some (.leaf (dI at')),some (.leaf (.str ⟨#[c]⟩)),some (.lst ((J5++l).map .str)),Z,Y])
 |[],J5,x8,L,_=>⟨[],x8,L,rfl,by rw[qg2];rfl⟩
 |k::ks,J5,x8,L,h=>by
  rw[qc2]at h;obtain⟨w,z9,e⟩:=uM O x1 x2 e0 e1 q W at' sz c k J5 L h2 ha hz (by lia)
  obtain⟨l,Z,Y,hl,q⟩:=pQ O x1 x2 e0 e1 q W at' sz c h2 ha hz ks (J5++[w]) (some (.leaf (dI k))) z9 (by simp;lia)
  refine⟨w::l,Z,Y,by simp[hl],?_⟩;rw[qa5,bo (δ1:=[O,x1,x2,some (.leaf (.lst ([e0,e1,_,W].map dI))),some (.leaf (dI sz)),some (.leaf (dI at')),some (.leaf (.str ⟨#[c]⟩)),some (.lst (J5.map .str)),some (.leaf (dI k)),L]) rfl e,q];simp
def four(h:l.length=4):∃a b c d,l=[a,b,c,d]:=by
 match l,h with
 |[a,b,c,d],_=>exact⟨a,b,c,d,rfl⟩
theorem jr(c:Int)(m:Nat)(hm:m<=100):∃l:List Str,l.length=m/\y15 [.int c,.int m]=some (.lst (l.map .str)):=by
 obtain⟨ds,e1,hl,O⟩:=iq (c*48271%1000000007) [6,6,26,5] (by intro z hz;simp at hz;lia) (by decide);obtain⟨q,L,a2,Z,rfl⟩:=four hl;have h0:=O 0 q 6 rfl rfl;have h1:=O 1 L 6 rfl rfl;have h2:=O 2 a2 26 rfl rfl;have h3:=O 3 Z 5 rfl rfl
 obtain⟨cc,W,_⟩:=n6 (x:="qxzjw") (i:=(Z:Int)) (by decide) (by lia) (by
  have:(("qxzjw":Str).length:Int)=5:=by decide
  lia)
 obtain⟨l,y8,y9,Y,e2⟩:=pQ (some (.leaf (.int c))) (some (.leaf (.int m))) (some (.leaf (.int (c*48271%1000000007)))) q L a2 Z (L%(1+q)) (1+q) cc h2 (qz5 _ (by lia)) (by lia) (qc7 m) [] none none (by simp;lia);refine⟨l,by simpa using Y,?_⟩;unfold y15;walk_at "d";rw[show Dt.lst [Dt.int 6,Dt.int 6,Dt.int 26,Dt.int 5]=.lst ([6,6,26,5].map dI)from rfl,e1];simp only[qa5,qj5,dI];walk_at "d";rw[fS (by lia)];walk_at "d";rw[W];walk_at "d";rw[iU m (by lia),qa2];have e3:(L:Int)%(1+(q:Int))=((L%(1+q):Nat):Int):=by simp
 have e4:(1:Int)+(q:Int)=((1+q:Nat):Int):=by lia
 rw[e3,e4];simp only[qa5,qj5,dI]at e2;rw[e2];rfl
theorem qQ{B:List Str}{k:Nat}(h:k<B.length):au (.lst (B.map .str)) (.int k)=some (.leaf (.str (B.getD k ""))):=by rw[hX,dA Dt.str B k h ""];rfl
def uN{B:List Str}{k:Nat}(h:k<B.length):B.getD k ""∈B:=by simp[qc5,h]
theorem ou(d:Nat)(c:Int)(B:List Str):∃a:Atm,y25 [.int d,.int c,.lst (B.map .str)]=some (.leaf a.d)/\∀x,a=.nm x->x∈B:=by
 unfold y25;walk_at "d";rw[qa1];by_cases h:d<B.length
 .rw[gA (by simpa using h)];walk_at "d";rw[dA Dt.str B d h ""];exact⟨.nm (B.getD d ""),rfl,fun x e=>by cases e;exact uN h⟩
 .rw[gB (by simpa using h)];walk_at "d";by_cases h2:c%3=0
  .rw[gA (by simpa using h2)];walk_at "d";rw[ip (by decide) (by decide)];walk_at "d";exact⟨.vl _,rfl,fun x e=>by cases e⟩
  .rw[gB (by simpa using h2)];walk_at "d";exact⟨.vl _,rfl,fun x e=>by cases e⟩
def Gd(B:List Str)(q:Nat)(r:Rw):Prop:=(∀b∈r.reads,b∈B)/\∀i j,j∈r.outs i->j<q∨j=i+1
def jt{B:List Str}(h:∀x,Atm.nm x∈r.atoms->x∈B):∀b∈r.reads,b∈B:=fun b L=>by
 have L:=onces_mem.mp L
 have q:∀as:List Atm,b∈nms as->Atm.nm b∈as:=fun as=>by
  induction as with
  |nil=>intro h;cases h
  |cons a as O=>
   cases a with
   |nm x=>
    intro h;rcases qa9.mp h with rfl|h
    .exact .head _
    .exact .tail _ (O h)
   |vl i=>exact fun h=>.tail _ (O h)
 exact h b (q _ L)
def Em(h:l.length=7):∃a b c d e f g,l=[a,b,c,d,e,f,g]:=by
 match l,h with
 |[a,b,c,d,e,f,g],_=>exact⟨a,b,c,d,e,f,g,rfl⟩
theorem zP (cell:Int) (many:Nat) (C S B:List Str) (hm:0<many) (hm2:many<=1000) (hC:0<C.length) (hC2:C.length<=100) (hS:S.length<=100) (hB:0<B.length) (hB2:B.length<=100) :
  ∃r:Rw,y41 [.int cell,.int many,.lst (C.map .str),.lst (S.map .str),.lst (B.map .str)]=some (.leaf r.d)/\Gd B many r:=by
 obtain⟨ds,e1,hl,hd⟩:=iq (cell*48271%1000000007) [16,B.length,B.length+2,B.length+2,9,12,many] (by intro z hz;simp at hz;lia) (by simp);obtain⟨k,b,p,q,sg,cc,g,rfl⟩:=Em hl;have h0:=hd 0 k _ rfl rfl;have h1:=hd 1 b _ rfl rfl;have h4:=hd 4 sg _ rfl rfl;have h6:=hd 6 g _ rfl rfl;clear hd hl;obtain⟨a1,ea1,ha1⟩:=ou p cell B;obtain⟨a2,ea2,ha2⟩:=ou q (cell/5) B;have hx:=qQ h1;have hcm:cc%C.length<C.length:=qz5 _ hC;have hc:=qQ hcm
 obtain⟨sn,hsn,_⟩:=n6 (x:="+-*<=&|^+") (i:=(sg:Int)) (by decide) (by lia) (by
  have:(("+-*<=&|^+":Str).length:Int)=9:=by decide
  lia)
 simp only[qa5,qj5,dI]at e1;unfold y41;walk_at "d";rw[qa1,show z12 [Dt.int (cell*48271%1000000007),Dt.lst [Dt.int 16,Dt.int B.length,Dt.int ((B.length:Int)+2),Dt.int ((B.length:Int)+2),Dt.int 9,Dt.int 12,Dt.int many]]=_ from e1];walk_at "d";rw[ea1];walk_at "d";rw[ip (by decide) (by decide)];walk_at "d";rw[ea2];walk_at "d";rw[dA Dt.str B b h1 ""];walk_at "d";rw[qa1,fS (by lia)];walk_at "d";rw[show((cc:Nat):Int)%((C.length:Nat):Int)=((cc%C.length:Nat):Int)by simp,dA Dt.str C _ hcm ""];walk_at "d";generalize C.getD (cc%C.length) ""=cn;generalize B.getD b ""=xn;have hk:(k:Int)=0∨(k:Int)=1∨(k:Int)=2∨(k:Int)=3∨(k:Int)=4∨(k:Int)=5∨(k:Int)=6∨(k:Int)=7∨(k:Int)=8∨(k:Int)=9∨(k:Int)=10∨(k:Int)=11∨(k:Int)=12∨(k:Int)=13∨(k:Int)=14∨(k:Int)=15:=by lia
 clear hx hc h0;have g0:∀(r:Rw),(∀x,Atm.nm x∈r.atoms->x∈B)->(∀i j,j∈r.outs i->j<many∨j=i+1)->Gd B many r:=fun r x y=>⟨jt x,y⟩
 have q0:∀x,Atm.nm x∈([]:List Atm)->x∈B:=fun x h=>by cases h
 have q1:∀x,Atm.nm x∈[a1]->x∈B:=fun x h=>ha1 x (qa6.mp h).symm
 have q2:∀x,Atm.nm x∈[a1,a2]->x∈B:=fun x h=>by
  rcases qa9.mp h with h|h
  .exact ha1 x h.symm
  .exact ha2 x (qa6.mp h).symm
 have o1:∀i j:Nat,j∈[i+1]->j<many∨j=i+1:=fun i j h=>.inr (qa6.mp h)
 have o2:∀i j:Nat,j∈[g,i+1]->j<many∨j=i+1:=fun i j h=>by
  rcases qa9.mp h with rfl|h
  .exact .inl h6
  .exact .inr (qa6.mp h)
 have o3:∀i j:Nat,j∈[g]->j<many∨j=i+1:=fun i j h=>.inl (qa6.mp h▸h6)
 rcases hk with hk|hk|hk|hk|hk|hk|hk|hk|hk|hk|hk|hk|hk|hk|hk|hk<;>rw[hk]<;>clear hk
 .walk_at "k";exact⟨.copy xn a1,rfl,g0 _ q1 o1⟩
 .walk_at "k";rw[hsn];exact⟨.op xn ⟨#[sn]⟩ a1 a2,rfl,g0 _ q2 o1⟩
 .walk_at "k";rw[hsn];exact⟨.op xn ⟨#[sn]⟩ a1 a2,rfl,g0 _ q2 o1⟩
 .walk_at "k";exact⟨.load xn cn,rfl,g0 _ q0 o1⟩
 .walk_at "k";exact⟨.load xn cn,rfl,g0 _ q0 o1⟩
 .walk_at "k";exact⟨.store cn a1,rfl,g0 _ q1 o1⟩
 .walk_at "k";exact⟨.store cn a1,rfl,g0 _ q1 o1⟩
 .walk_at "k";rw[qa1];by_cases z:0<S.length
  .rw[gA (by simpa using z)];walk_at "k";rw[qa1,fS (by lia)];walk_at "k";rw[show((cc:Nat):Int)%((S.length:Nat):Int)=((cc%S.length:Nat):Int)by simp,dA Dt.str S _ (qz5 _ z) ""];walk_at "k";exact⟨.take xn (S.getD (cc%S.length) "") a1,rfl,g0 _ q1 o1⟩
  .rw[gB (by simpa using z)];walk_at "k";exact⟨.load xn cn,rfl,g0 _ q0 o1⟩
 .walk_at "k";rw[qa1];by_cases z:0<S.length
  .rw[gA (by simpa using z)];walk_at "k";rw[qa1,fS (by lia)];walk_at "k";rw[show((cc:Nat):Int)%((S.length:Nat):Int)=((cc%S.length:Nat):Int)by simp,dA Dt.str S _ (qz5 _ z) ""];walk_at "k";exact⟨.lay (S.getD (cc%S.length) "") a1 a2,rfl,g0 _ q2 o1⟩
  .rw[gB (by simpa using z)];walk_at "k";exact⟨.store cn a1,rfl,g0 _ q1 o1⟩
 .walk_at "k";exact⟨.hear xn,rfl,g0 _ q0 o1⟩
 .walk_at "k";exact⟨.say a1,rfl,g0 _ q1 o1⟩
 .walk_at "k";exact⟨.iff a1 g,rfl,g0 _ q1 o2⟩
 .walk_at "k";exact⟨.iff a1 g,rfl,g0 _ q1 o2⟩
 .walk_at "k";exact⟨.go g,rfl,g0 _ q0 o3⟩
 .walk_at "k";exact⟨.fin a1,rfl,g0 _ q1 fun i j h=>by cases h⟩
 .walk_at "k";rw[hsn];exact⟨.op xn ⟨#[sn]⟩ a1 a2,rfl,g0 _ q2 o1⟩
theorem qR{D:List Nat}(h:j<D.length):atI (D.map dI) (j:Int)=some (dI (D.getD j 0)):=dA dI D j h 0
theorem uO (Y x1 x2 x3 x6 Z L O q W:Option T) (D:List Nat) (N:List Str) (st:Int) (J5:List Hd) (k:Nat) (hD:D.length=12) (hN:N.length=13) (hk:k<8) (hl:J5.length<=1000) :
  ∃h:Hd,z32 [Y,x1,x2,x3,some (.leaf (.lst (D.map dI))),some (.leaf (.lst (N.map .str))),x6,Z,some (.leaf (.int st)),some (.lst (J5.map hdD)),some (.leaf (dI k)),L,O,q,W]=some (.nx [Y,x1,x2,x3,some (.leaf (.lst (D.map dI))),some (.leaf (.lst (N.map .str))),x6,Z,some (.leaf (.int st)),some (.lst ((J5++[h]).map hdD)),some (.leaf (dI k)),L,O,q,W]):=by
 have i1:k<N.length:=by lia
 have i2:3+k%6<D.length:=by lia
 refine⟨⟨N.getD k "",(st+k)*982451653%wide,decide (((D.getD (3+k%6) 0:Nat):Int)=1)⟩,?_⟩;unfold z32;rw[kg rfl]
 have e:toD (aT (aa (toD (d2 au (vB 5) (vB 10))) (aa (toD (d2 ck (toD (d2 eU (toD (d2 aN (vB 8) (vB 10))) (kD (.int 982451653)))) (toD (d2 qj (kD (.int 2)) (kD (.int 40)))))) (aa (toD (d2 (gEq false) (toD (d2 au (vB 4) (toD (d2 aN (kD (.int 3)) (toD (d2 ck (vB 10) (kD (.int 6)))))))) (kD (.int 1)))) ak)))) [Y,x1,x2,x3,some (.leaf (.lst (D.map dI))),some (.leaf (.lst (N.map .str))),x6,Z,some (.leaf (.int st)),some (.lst (J5.map hdD)),some (.leaf (dI k)),L,O,q,W]=some (hdD ⟨N.getD k "",(st+k)*982451653%wide,decide (((D.getD (3+k%6) 0:Nat):Int)=1)⟩):=by rw[show dI k=Dt.int (k:Nat)from rfl];walk_at "d";rw[dA Dt.str N k i1 ""];walk_at "d";rw[show(3:Int)+((k:Nat):Int)%6=((3+k%6:Nat):Int)by lia,qR i2];unfold dI;walk_at "d";rfl
 rw[e,qa2,fN (by rw[qa1];lia)];simp
theorem pR(x0 x1 x2 x3 x6 x7 L O q W:Option T)(D:List Nat)(N:List Str)(st:Int)(hD:D.length=12)(hN:N.length=13):∀(ks:List Nat)(J5:List Hd)(Y:Option T),(∀k∈ks,k<8)->J5.length+ks.length<=1000->∃(hs:List Hd)(Z:Option T),hs.length=ks.length/\cA (av 10) z32 (ks.map dI) [x0,x1,x2,x3,some (.leaf (.lst (D.map dI))),some (.leaf (.lst (N.map .str))),x6,x7,some (.leaf (.int st)),some (.lst (J5.map hdD)),Y,L,O,q,W]=some (.nx [x0,x1,x2,x3,some (.leaf (.lst (D.map dI))),some (.leaf (.lst (N.map .str))),x6,x7,some (.leaf (.int st)),some (.lst ((J5++hs).map hdD)),Z,L,O,q,W])
 |[],J5,Y,_,_=>⟨[],Y,rfl,by rw[qg2];rfl⟩
 |k::ks,J5,Y,hk,h=>by rw[qc2]at h;obtain⟨w,e⟩:=uO x0 x1 x2 x3 x6 x7 L O q W D N st J5 k hD hN (hk k (.head _)) (by lia);obtain⟨l,Z,hl,e2⟩:=pR x0 x1 x2 x3 x6 x7 L O q W D N st hD hN ks (J5++[w]) (some (.leaf (dI k))) (fun j hj=>hk j (.tail _ hj)) (by simp;lia);refine⟨w::l,Z,by simp[hl],?_⟩;rw[qa5,bo (δ1:=[x0,x1,x2,x3,some (.leaf (.lst (D.map dI))),some (.leaf (.lst (N.map .str))),x6,x7,some (.leaf (.int st)),some (.lst (J5.map hdD)),some (.leaf (dI k)),L,O,q,W]) rfl e,e2];simp
theorem qS (W x1 x2 x3 x6 Z Y L q O:Option T) (D:List Nat) (N:List Str) (st:Int) (J5:List Hd) (k:Nat) (hD:D.length=12) (hN:N.length=13) (hk:k<4) (hl:J5.length<=1000) :
  ∃h:Hd,y31 [W,x1,x2,x3,some (.leaf (.lst (D.map dI))),some (.leaf (.lst (N.map .str))),x6,Z,some (.leaf (.int st)),Y,some (.leaf (dI k)),some (.lst (J5.map hdD)),L,q,O]=some (.nx [W,x1,x2,x3,some (.leaf (.lst (D.map dI))),some (.leaf (.lst (N.map .str))),x6,Z,some (.leaf (.int st)),Y,some (.leaf (dI k)),some (.lst ((J5++[h]).map hdD)),L,q,O]):=by
 have i1:8+k<N.length:=by lia
 have i2:9+k%2<D.length:=by lia
 have i3:7-k<D.length:=by lia
 refine⟨⟨N.getD (8+k) "",1+((D.getD (9+k%2) 0:Nat):Int),decide (((D.getD (7-k) 0:Nat):Int)=1)⟩,?_⟩;unfold y31;rw[kg rfl]
 have e:toD (aT (aa (toD (d2 au (vB 5) (toD (d2 aN (kD (.int 8)) (vB 10))))) (aa (toD (d2 aN (kD (.int 1)) (toD (d2 au (vB 4) (toD (d2 aN (kD (.int 9)) (toD (d2 ck (vB 10) (kD (.int 2)))))))))) (aa (toD (d2 (gEq false) (toD (d2 au (vB 4) (toD (d2 gJ (kD (.int 7)) (vB 10))))) (kD (.int 1)))) ak)))) [W,x1,x2,x3,some (.leaf (.lst (D.map dI))),some (.leaf (.lst (N.map .str))),x6,Z,some (.leaf (.int st)),Y,some (.leaf (dI k)),some (.lst (J5.map hdD)),L,q,O]=some (hdD ⟨N.getD (8+k) "",1+((D.getD (9+k%2) 0:Nat):Int),decide (((D.getD (7-k) 0:Nat):Int)=1)⟩):=by rw[show dI k=Dt.int (k:Nat)from rfl];walk_at "d";rw[show(8:Int)+((k:Nat):Int)=((8+k:Nat):Int)by lia,dA Dt.str N (8+k) i1 ""];walk_at "d";rw[show(9:Int)+((k:Nat):Int)%2=((9+k%2:Nat):Int)by lia,qR i2,show(7:Int)-((k:Nat):Int)=((7-k:Nat):Int)by lia,qR i3];unfold dI;walk_at "d";rfl
 rw[e,qa2,fN (by rw[qa1];lia)];simp
theorem lU(Z x1 x2 x3 x6 x7 x9 L q O:Option T)(D:List Nat)(N:List Str)(st:Int)(hD:D.length=12)(hN:N.length=13):∀(ks:List Nat)(J5:List Hd)(W:Option T),(∀k∈ks,k<4)->J5.length+ks.length<=1000->∃(hs:List Hd)(Y:Option T),hs.length=ks.length/\cA (av 10) y31 (ks.map dI) [Z,x1,x2,x3,some (.leaf (.lst (D.map dI))),some (.leaf (.lst (N.map .str))),x6,x7,some (.leaf (.int st)),x9,W,some (.lst (J5.map hdD)),L,q,O]=some (.nx [Z,x1,x2,x3,some (.leaf (.lst (D.map dI))),some (.leaf (.lst (N.map .str))),x6,x7,some (.leaf (.int st)),x9,Y,some (.lst ((J5++hs).map hdD)),L,q,O])
 |[],J5,W,_,_=>⟨[],W,rfl,by rw[qg2];rfl⟩
 |k::ks,J5,W,hk,h=>by rw[qc2]at h;obtain⟨w,e⟩:=qS Z x1 x2 x3 x6 x7 x9 L q O D N st J5 k hD hN (hk k (.head _)) (by lia);obtain⟨l,Y,hl,e2⟩:=lU Z x1 x2 x3 x6 x7 x9 L q O D N st hD hN ks (J5++[w]) (some (.leaf (dI k))) (fun j hj=>hk j (.tail _ hj)) (by simp;lia);refine⟨w::l,Y,by simp[hl],?_⟩;rw[qa5,bo (δ1:=[Z,x1,x2,x3,some (.leaf (.lst (D.map dI))),some (.leaf (.lst (N.map .str))),x6,x7,some (.leaf (.int st)),x9,some (.leaf (dI k)),some (.lst (J5.map hdD)),L,q,O]) rfl e,e2];simp
theorem sN(fe:De->Option Dt)(q:fe=toD (d2 au (vB 0) (kD (.int 0))))(cs:List Hd):cb (av 0) bN fe [none] (cs.map hdD)=some ((cs.map (·.x)).map .str):=by
 have:=ci (f:=hdD) (h:=fun h:Hd=>Dt.str h.x) (bb:=av 0) (ft:=bN) (fe:=fe) (δ:=[none]) (l:=cs) fun h _=>⟨[some (.leaf (hdD h))],rfl,rfl,by rw[q];rfl⟩
 rw[this,qc4];rfl
theorem xC (L x1 x2 x3 x4 W x6 x8 q:Option T) (B:List Str) (cs ss:List Hd) (all:List Int) (J5:List Rw) (c:Int) (hB:0<B.length) (O:B.length<=100) (hc:0<cs.length) (Y:cs.length<=100) (Z:ss.length<=100) (ha:all.length<=100) (hl:J5.length<=1000) :
  ∃r:Rw,z31 [L,x1,x2,x3,x4,W,x6,some (.leaf (.lst (B.map .str))),x8,some (.lst (cs.map hdD)),q,some (.lst (ss.map hdD)),some (.lst (J5.map Rw.d)),some (.leaf (.lst (all.map .int))),some (.leaf (.int c))]=some (.nx [L,x1,x2,x3,x4,W,x6,some (.leaf (.lst (B.map .str))),x8,some (.lst (cs.map hdD)),q,some (.lst (ss.map hdD)),some (.lst ((J5++[r]).map Rw.d)),some (.leaf (.lst (all.map .int))),some (.leaf (.int c))])/\Gd B (all.length+1) r:=by
 obtain⟨r,er,hr⟩:=zP c (all.length+1) (cs.map (·.x)) (ss.map (·.x)) B (by lia) (by lia) (by simpa using hc) (by simpa using Y) (by simpa using Z) hB O;refine⟨r,?_,hr⟩;have e1:=sN q55 rfl cs;have e2:=sN z54 rfl ss;unfold z31;rw[kg rfl]
 have e:toD (am y41 (aa (vL 14) (aa (toD (d2 aN (toD (am cS (aa (vB 13) ak))) (kD (.int 1)))) (aa (toD (bA [none] (fIt (vB 9)) (av 0) bN q55)) (aa (toD (bA [none] (fIt (vB 11)) (av 0) bN z54)) (aa (vL 7) ak)))))) [L,x1,x2,x3,x4,W,x6,some (.leaf (.lst (B.map .str))),x8,some (.lst (cs.map hdD)),q,some (.lst (ss.map hdD)),some (.lst (J5.map Rw.d)),some (.leaf (.lst (all.map .int))),some (.leaf (.int c))]=some r.d:=by walk_at "d";rw[e1,e2,qa2,qa2,cO (by simp;lia),cO (by simp;lia)];walk_at "d";rw[qa1,show y41 [Dt.int c,Dt.int ((all.length:Int)+1),Dt.lst ((cs.map (·.x)).map .str),Dt.lst ((ss.map (·.x)).map .str),Dt.lst (B.map .str)]=_ from er];rfl
 rw[e,qa2,fN (by rw[qa1];lia)];simp
theorem sO(Y x1 x2 x3 x4 x5 x6 x8 L:Option T)(B:List Str)(cs ss:List Hd)(all:List Int)(hB:0<B.length)(Z:B.length<=100)(hc:0<cs.length)(hc2:cs.length<=100)(hs:ss.length<=100)(ha:all.length<=100):∀(ls:List Int)(J5:List Rw)(O:Option T),J5.length+ls.length<=1000->∃(rs:List Rw)(W:Option T),rs.length=ls.length/\(∀r∈rs,Gd B (all.length+1) r)/\cA (av 14) z31 (ls.map .int) [Y,x1,x2,x3,x4,x5,x6,some (.leaf (.lst (B.map .str))),x8,some (.lst (cs.map hdD)),L,some (.lst (ss.map hdD)),some (.lst (J5.map Rw.d)),some (.leaf (.lst (all.map .int))),O]=some (.nx [Y,x1,x2,x3,x4,x5,x6,some (.leaf (.lst (B.map .str))),x8,some (.lst (cs.map hdD)),L,some (.lst (ss.map hdD)),some (.lst ((J5++rs).map Rw.d)),some (.leaf (.lst (all.map .int))),W])
 |[],J5,O,_=>⟨[],O,rfl,fun r hr=>(by cases hr),by rw[qg2];rfl⟩
 |c::ls,J5,O,h=>by
  rw[qc2]at h;obtain⟨r,e,hr⟩:=xC Y x1 x2 x3 x4 x5 x6 x8 L B cs ss all J5 c hB Z hc hc2 hs ha (by lia);obtain⟨l,W,hl,hg,e2⟩:=sO Y x1 x2 x3 x4 x5 x6 x8 L B cs ss all hB Z hc hc2 hs ha ls (J5++[r]) (some (.leaf (.int c))) (by simp;lia);refine⟨r::l,W,by simp[hl],fun q hq=>?_,?_⟩
  .rcases qa9.mp hq with rfl|hq
   .exact hr
   .exact hg q hq
  .rw[qa5,bo (δ1:=[Y,x1,x2,x3,x4,x5,x6,some (.leaf (.lst (B.map .str))),x8,some (.lst (cs.map hdD)),L,some (.lst (ss.map hdD)),some (.lst (J5.map Rw.d)),some (.leaf (.lst (all.map .int))),some (.leaf (.int c))]) rfl e,e2];simp
structure Prg(B:List Str)(J0:List Rw):Prop where
 b:B.length<=12
 n:J0.length<=60
 rd:∀(i:Nat)(r:Rw)(b:Str),J0[i]?=some r->b∈r.reads->b∈B
 out:∀(i:Nat)(r:Rw)(j:Nat),J0[i]?=some r->j∈r.outs i->j<J0.length
 last:∃(i:Nat)(a:Atm),J0[i]?=some (Rw.fin a)
theorem Prg.pos{B:List Str}(h:Prg B J0):0<J0.length:=by obtain⟨i,a,e⟩:=h.last;have:=(gX e).1;lia
variable{rs:List Rw}
theorem CI{B:List Str}{a:Atm}(Z:B.length<=12)(hn:rs.length<=59)(O:∀r∈rs,Gd B (rs.length+1) r)(ha:∀x,a=.nm x->x∈B):Prg B (rs++[.fin a]):=by
 have q:∀(i:Nat)(r:Rw),(rs++[Rw.fin a])[i]?=some r->(i<rs.length/\r∈rs)∨(i=rs.length/\r=.fin a):=fun i r h=>by
  by_cases z:i<rs.length
  .rw[qc8 z]at h;exact .inl ⟨z,qd0 h⟩
  .have hi:=(gX h).1;simp at hi;obtain rfl:i=rs.length:=by lia
   rw[gR (nL _),zi5]at h;cases h;exact .inr ⟨rfl,rfl⟩
 refine⟨Z,by simp;lia,fun i r b h Y=>?_,fun i r j h W=>?_,rs.length,a,by simp⟩
 .rcases q i r h with ⟨_,L⟩|⟨_,rfl⟩
  .exact(O r L).1 b Y
  .exact jt (fun x hx=>ha x (qa6.mp hx).symm) b Y
 .rcases q i r h with ⟨hi,L⟩|⟨_,rfl⟩
  .rw[qb7,ql9];rcases(O r L).2 i j W with z|z<;>lia
  .cases W
noncomputable def prT:De->Option Out:=(ar (aA 7 (toT (toD (am y15 (aa (toD (am q4 (aa (vL 0) (aa (kD (.int 2)) ak)))) (aa (toD (d2 au (vB 6) (kD (.int 2)))) ak))))))
  (ar (aA 8 (toT (toD (am q4 (aa (vL 0) (aa (kD (.int 3)) ak))))))
  (ar (aA 9 (bE ak))
  (ar (dg (dO fY (aa (toD (d2 au (vB 6) (kD (.int 0)))) ak)) (av 10) z32)
  (ar (aA 11 (bE ak))
  (ar (dg (dO fY (aa (toD (d2 au (vB 6) (kD (.int 1)))) ak)) (av 10) y31)
  (ar (aA 12 (bE ak))
  (ar (aA 13 (toT (toD (vSl (vB 0) (c9 (kD (.int 4))) (c9 (toD (d2 aN (kD (.int 4)) (vB 1))))))))
  (ar (dg (fIt (vL 13)) (av 14) z31)
  (ar (z11 12 (toD (aT (aa (kD (.str "end")) (aa (toD (am y25 (aa (toD (d2 ck (vB 3) (toD (d2 aN (toD (am cS (aa (vB 7) ak))) (kD (.int 1)))))) (aa (vL 8) (aa (vL 7) ak))))) ak)))))
  (bw (aT (aa (toD (am cy (aa (vB 9) ak))) (aa (toD (am cy (aa (vB 11) ak))) (aa (toD (am cy (aa (vB 12) ak))) ak)))))))))))))))
theorem xD(ns:List Int):∃q:List Int,gSl (.lst (ns.map .int)) (some 4) (some 12)=some (.lst (q.map .int))/\q.length<=8:=by
 refine⟨(ns.drop (HT.sIx (ns.map Dt.int).length 0 (some 4))).take (HT.sIx (ns.map Dt.int).length (ns.map Dt.int).length (some 12)-HT.sIx (ns.map Dt.int).length 0 (some 4)),?_,?_⟩
 .show some (T.lst (kr (ns.map Dt.int) (some 4) (some 12)))=_;unfold kr;rw[zh5,zb4]
 .have L:=HT.Ez (ns.map Dt.int).length 0 4;have O:=HT.Ez (ns.map Dt.int).length (ns.map Dt.int).length 12;rw[show(some (4:Int))=some (((4:Nat):Int))from rfl,show(some (12:Int))=some (((12:Nat):Int))from rfl,L,O];simp;lia
theorem CJ (ns:List Int) (q:Int) (D:List Nat) (N:List Str) (a b c:Nat) (hD:D.length=12) (hN:N.length=13) (ha:1<=a) (ha2:a<=8) (hb:b<=4) (hc:1<=c) (hc2:c<=12) :
  ∃(cs ss:List Hd)(J0:List Rw)(B:List Str),lH (prT [some (.leaf (.lst (ns.map .int))),some (.leaf (.int 8)),some (.leaf (.bl false)),some (.leaf (.int q)),some (.leaf (.lst (D.map dI))),some (.leaf (.lst (N.map .str))),some (.leaf (.lst [.int a,.int b,.int c])),none,none,none,none,none,none,none,none])=some (.leaf (pgD cs ss J0))/\0<cs.length/\cs.length<=8/\ss.length<=4/\Prg B J0:=by
 obtain⟨B,hB,eB⟩:=jr (ns.getD 2 0) c (by lia);obtain⟨ls,els,hls⟩:=xD ns;have c2:q4 [.lst (ns.map .int),.int 2]=some (.leaf (.int (ns.getD 2 0))):=gH ns 2;have c3:q4 [.lst (ns.map .int),.int 3]=some (.leaf (.int (ns.getD 3 0))):=gH ns 3;generalize ns.getD 2 0=n2 at c2 eB;generalize ns.getD 3 0=W at c3;obtain⟨cs,Y,l1,e1⟩:=pR (some (.leaf (.lst (ns.map .int)))) (some (.leaf (.int 8))) (some (.leaf (.bl false))) (some (.leaf (.int q))) (some (.leaf (.lst [.int a,.int b,.int c]))) (some (.leaf (.lst (B.map .str)))) none none none none D N W hD hN (qc7 a) [] none (fun k hk=>by have:=qe1.mp hk;lia) (by simp;lia);rw[qk8]at l1;obtain⟨ss,Z,l2,e2⟩:=lU (some (.leaf (.lst (ns.map .int)))) (some (.leaf (.int 8))) (some (.leaf (.bl false))) (some (.leaf (.int q))) (some (.leaf (.lst [.int a,.int b,.int c]))) (some (.leaf (.lst (B.map .str)))) (some (.lst (cs.map hdD))) none none none D N W hD hN (qc7 b) [] Y (fun k hk=>by have:=qe1.mp hk;lia) (by simp;lia);rw[qk8]at l2;obtain⟨rs,y14,l3,hg,e3⟩:=sO (some (.leaf (.lst (ns.map .int)))) (some (.leaf (.int 8))) (some (.leaf (.bl false))) (some (.leaf (.int q))) (some (.leaf (.lst (D.map dI)))) (some (.leaf (.lst (N.map .str)))) (some (.leaf (.lst [.int a,.int b,.int c]))) (some (.leaf (.int W))) Z B cs ss ls (by lia) (by lia) (by lia) (by lia) (by lia) (by lia) ls [] none (by simp;lia);obtain⟨at',O,hat⟩:=ou (q%((B.length:Int)+1)).toNat W B
 have L:((q%((B.length:Int)+1)).toNat:Int)=q%((B.length:Int)+1):=by have:=ze6 q (show((B.length:Int)+1)≠0 by lia);lia
 rw[L]at O;refine⟨cs,ss,rs++[.fin at'],B,?_,by lia,by lia,by lia,CI (by lia) (by lia) (fun r hr=>by rw[l3];exact hg r hr) hat⟩;unfold prT;walk_at "d";rw[c2];walk_at "d";rw[eB];walk_at "d";rw[c3];walk_at "d";rw[qj5,qs2]at e1 e2 e3;rw[iU a (by lia),qa2,e1];walk_at "d";rw[iU b (by lia),qa2,e2];walk_at "d";rw[show gSl (Dt.lst (ns.map Dt.int)) (some 4) (some (4+8))=_ from els];walk_at "d";rw[e3];walk_at "d";rw[kg rfl];walk_at "d";rw[qa1,fS (by lia)];walk_at "d";rw[O];walk_at "d";rw[fN (by rw[qa1];lia)];walk_at "d";unfold pgD dR;rw[qe9];rfl
theorem qT:q40=ce 15 ((ar (aA 3 (toT (toD (d2 ck (toD (d2 eU (toD (am q4 (aa (vL 0) (aa (kD (.int 0)) ak)))) (kD (.int 69621)))) (kD (.int 1000000007))))))
  (ar (aA 4 (toT (toD (am z12 (aa (vL 3) (aa (toD (bE (aa (kD (.int 4)) (aa (kD (.int 3)) (aa (kD (.int 4)) (aa (kD (.int 2)) (aa (kD (.int 2)) (aa (kD (.int 2)) (aa (kD (.int 2)) (aa (kD (.int 2)) (aa (kD (.int 2)) (aa (kD (.int 8)) (aa (kD (.int 8)) (aa (kD (.int 4)) ak)))))))))))))) ak))))))
  (ar (aA 5 (toT (toD (am y15 (aa (toD (am q4 (aa (vL 0) (aa (kD (.int 1)) ak)))) (aa (kD (.int 13)) ak))))))
  (ar (aA 6 (toT (toD (bE (aa (toD (d2 aN (kD (.int 1)) (toD (d2 au (vB 4) (kD (.int 0)))))) (aa (toD (d2 au (vB 4) (kD (.int 1)))) (aa (toD (d2 aN (kD (.int 2)) (toD (d2 au (vB 4) (kD (.int 2)))))) ak)))))))
  (ar (sIf (fG (e7 (vB 2)) (tB2 (gEq false) (toD (d2 au (vB 4) (kD (.int 11)))) (kD (.int 1)))) (aA 6 (toT (toD (bE (aa (kD (.int 8)) (aa (kD (.int 4)) (aa (kD (.int 12)) ak))))))) bV)
  prT)))))):=rfl
theorem qU(ns:List Int):∃(cs ss:List Hd)(J0:List Rw)(B:List Str),q40 [.lst (ns.map .int),.int 8,.bl false]=some (.leaf (pgD cs ss J0))/\0<cs.length/\cs.length<=8/\ss.length<=4/\Prg B J0:=by
 have Z:q4 [.lst (ns.map .int),.int 0]=some (.leaf (.int (ns.getD 0 0))):=gH ns 0;have c1:q4 [.lst (ns.map .int),.int 1]=some (.leaf (.int (ns.getD 1 0))):=gH ns 1;generalize ns.getD 0 0=Y at Z;generalize ns.getD 1 0=n1 at c1;obtain⟨N,hN,eN⟩:=jr n1 13 (by decide);obtain⟨D,eD,q,hd⟩:=iq (Y*69621%1000000007) [4,3,4,2,2,2,2,2,2,8,8,4] (by intro z O;simp at O;lia) (by decide);have q:D.length=12:=q;have L:∀j z:Nat,j<12->([4,3,4,2,2,2,2,2,2,8,8,4]:List Nat)[j]?=some z->D.getD j 0<z:=fun j z hj O=>hd j _ z (by simp[q,hj]) O
 have g0:=L 0 4 (by decide) rfl;have g1:=L 1 3 (by decide) rfl;have g2:=L 2 4 (by decide) rfl;have a0:(D.map dI)[0]?=some (dI (D.getD 0 0)):=by simp[q]
 have a1:(D.map dI)[1]?=some (dI (D.getD 1 0)):=by simp[q]
 have a2:(D.map dI)[2]?=some (dI (D.getD 2 0)):=by simp[q]
 have a11:(D.map dI)[11]?=some (dI (D.getD 11 0)):=by simp[q]
 clear hd L;have W:z12 [Dt.int (Y*69621%1000000007),Dt.lst [Dt.int 4,Dt.int 3,Dt.int 4,Dt.int 2,Dt.int 2,Dt.int 2,Dt.int 2,Dt.int 2,Dt.int 2,Dt.int 8,Dt.int 8,Dt.int 4]]=some (.lst (D.map dI)):=eD;have rest:=CJ ns (Y*69621%1000000007) D N;rw[qT];walk_at "d";rw[Z];walk_at "d";rw[W];walk_at "d";rw[c1];walk_at "d";rw[show y15 [.int n1,.int 13]=_ from eN];walk_at "d";rw[a0,a1,a2];simp only[dI];walk_at "d";exact rest (1+D.getD 0 0) (D.getD 1 0) (2+D.getD 2 0) q hN (by lia) (by lia) (by lia) (by lia) (by lia)
noncomputable def sG(P C:Dt)(kept:List Nat)(J0:List Rw)(E w:List Nat)(h:Nat):De:=[some (.leaf P),some (.leaf C),some (.leaf (.lst (kept.map dI))),some (.leaf (dW J0)),some (.leaf (.lst (E.map dI))),some (.lst (w.map dI)),some (.leaf (dI h))]
def oy(h:f δ=some x)(h2:itD x=some ds):fIt f δ=some ds:=by unfold fIt;rw[h];exact h2
variable{E:List Nat}{h:Nat}
theorem zQ(hE:stay J0 E=E)(hl:∀i∈E,i<J0.length)(L:h∈E):∃j,j∈E/\∀(P C:Dt)(kept w:List Nat),toD (d2 au (toD (bA [none,some 4] (fIt (toD (d2 au (vB 3) (vB 6)))) (av 0) q25 (vL 0))) (kD (.int 0))) (sG P C kept J0 E w h)=some (dI j):=by
 obtain⟨r0,hr⟩:∃r0,J0[h]?=some r0:=⟨J0[h]'(hl h L),by simp[hl h L]⟩;rw[<- hE]at L;obtain⟨_,q⟩:=qg9.mp L;obtain⟨j0,W,Y⟩:=zb8.mp q
 have Z:(r0.outs h).filter (fun j=>decide (j∈E))≠[]:=fun z=>by have:j0∈(r0.outs h).filter (fun j=>decide (j∈E)):=qg9.mpr ⟨by rw[<- sD hr];exact W,Y⟩;rw[z]at this;cases this
 have hc:cb (av 0) q25 (vL 0) [none,some (.leaf (.lst (E.map dI)))] ((r0.outs h).map dI)=some (((r0.outs h).filter fun j=>decide (j∈E)).map dI):=cP fun j _=>⟨[some (.leaf (dI j)),some (.leaf (.lst (E.map dI)))],rfl,by unfold q25;show((cB false (dI j) (.lst (E.map dI))).bind asB)=_;rw[fJ];rfl,fun _=>rfl⟩
 have hl2:((r0.outs h).filter fun j=>decide (j∈E)).length<=2:=qb5 (qd7 _ _) (Rw.outs_len _ _);cases O:(r0.outs h).filter (fun j=>decide (j∈E))with
 |nil=>exact absurd O Z
 |cons j r=>
  have hj:j∈(r0.outs h).filter (fun j=>decide (j∈E)):=by rw[O];exact .head _
  have k2:=(qg9.mp hj).2;refine⟨j,of_decide_eq_true k2,fun P C kept w=>?_⟩;have a1:toD (d2 au (vB 3) (vB 6)) (sG P C kept J0 E w h)=some (.tup ((r0.outs h).map dI)):=aB (t:=.leaf (.tup ((r0.outs h).map dI))) ((b9 (x:=dW J0) (y:=dI h) rfl rfl).trans (kH hr));have a2:=aB (gj (src:=[none,some 4]) (bb:=av 0) (ft:=q25) (fe:=vL 0) (oy a1 rfl) (show cb (av 0) q25 (vL 0) (dC [none,some 4] (sG P C kept J0 E w h)) ((r0.outs h).map dI)=some (((r0.outs h).filter fun j=>decide (j∈E)).map dI)from hc) (by rw[qa1];lia));rw[O]at a2
  exact aB (t:=.leaf (dI j)) ((b9 (x:=.lst ((j::r).map dI)) a2 (show kD (.int 0) (sG P C kept J0 E w h)=some (.int ((0:Nat):Int))from rfl)).trans (by rw[hX,bJ];rfl))
structure Chn(E w:List Nat)(h:Nat):Prop where
 nd:w.Nodup
 all:∀i∈w++[h],i∈E
variable{w:List Nat}
def Chn.step(c:Chn E w h)(O:h∉w)(W:j∈E):Chn E (w++[h]) j:=by
 refine⟨qk9.mpr ⟨c.nd,by simp,fun a q b L e=>O (by rw[qa6.mp L]at e;exact e▸q)⟩,fun i hi=>?_⟩;rcases qd6.mp hi with hi|hi
 .exact c.all i hi
 .rw[qa6.mp hi];exact W
variable{P C:Dt}
theorem uP {kept:List Nat} (L:w.length<1000) (q:∀ (P C:Dt) (kept w:List Nat),toD (d2 au (toD (bA [none,some 4] (fIt (toD (d2 au (vB 3) (vB 6)))) (av 0) q25 (vL 0))) (kD (.int 0))) (sG P C kept J0 E w h)=some (dI j)) :
  q39 (sG P C kept J0 E w h)=some (.nx (sG P C kept J0 E (w++[h]) j)):=by
 unfold q39
 rw[aC (δ':=sG P C kept J0 E (w++[h]) h) ((iQ (l:=w.map dI) (d:=dI h) rfl rfl (by rw[qa1];lia)).trans (by unfold sG;rw[qe9];rfl))]
 exact aW (t:=.leaf (dI j)) (by unfold toT;rw[q P C kept (w++[h])];rfl)
theorem ni{P C:Dt}{kept:List Nat}(W:stay J0 E=E)(O:∀i∈E,i<J0.length)(hn:E.length<=500):∀(f:Nat)(w:List Nat)(h:Nat),Chn E w h->E.length<f+w.length->∃q h',bt z50 q39 f (sG P C kept J0 E w h)=some (.nx (sG P C kept J0 E q h'))/\Chn E q h'/\h'∈q
 |0,w,h,c,hf=>by
  have:=bY c.nd fun i hi=>c.all i (qf6 _ hi)
  lia
 |f+1,w,h,c,hf=>by
  have L:z50 (sG P C kept J0 E w h)=some (!decide (h∈w)):=ib (x:=dI h) (y:=.lst (w.map dI)) rfl rfl fJ;have hwl:=bY c.nd fun i hi=>c.all i (qf6 _ hi)
  by_cases z:h∈w
  .rw[decide_eq_true z]at L;exact⟨w,h,xy L,c,z⟩
  .rw[decide_eq_false z]at L;obtain⟨j,Z,Y⟩:=zQ W O (c.all h (by simp));obtain⟨q,h',e,c',z'⟩:=ni (P:=P) (C:=C) (kept:=kept) W O hn f (w++[h]) j (c.step z Z) (by simp;lia);exact⟨q,h',by rw[xx L (uP (by lia) Y),e],c',z'⟩
theorem xE{g:Dt->List Dt->Option T}{fo:De->Option Dt}{o:Dt}(h:fo δ=some o)(h2:f δ=some x):j8 g fo (aa f ak) δ=g o [x]:=by unfold j8 aa ak;rw[h,h2];rfl
theorem zR(w:List Nat):nV (w.map dI)=some (w.map fun j:Nat=>(j:Int)):=by have:=lC (w.map fun j:Nat=>(j:Int));rw[qc4]at this;exact this
theorem xF(O:h∈w)(W:w.length<=1000):∃i:Nat,w[i]?=some h/\dy (.lst (w.map dI)) [dI h]=some (.leaf (.int (i:Nat))):=by
 have L:(h:Int)∈w.map fun j:Nat=>(j:Int):=qd2.mpr ⟨h,O,rfl⟩
 have q:=qz7.mpr L;refine⟨(w.map fun j:Nat=>(j:Int)).idxOf (h:Int),?_,?_⟩
 .have e:=List.getElem_idxOf q;rw[qa1]at q;rw[List.getElem_map]at e;rw[gQ q];congr 1;lia
 .show((nV (w.map dI)).bind fun ns=>if(h:Int)∈ns/\ns.length<=100000 then some (T.leaf (.int (ns.idxOf (h:Int):Nat)))else none)=_;rw[zR,qa2,if_pos ⟨L,by simp;lia⟩]
def xG{l:List Dt}{k:Nat}:gSl (.lst l) (some ((k:Nat):Int)) none=some (.lst (l.drop k)):=by
 have e:=HT.Ez l.length 0 k;show some (T.lst (kr l (some ((k:Nat):Int)) none))=_;unfold kr;rw[e,HT.Dx];by_cases z:k<=l.length
 .rw[Nat.min_eq_left z,zc3 (by simp)]
 .rw[Nat.min_eq_right (by lia),zc7 (nL _),zc7 (by lia)];simp
def zS {c b:Dt} {ks:List (Nat×List Str)} (hn:J0.length<=500) (Z:ks.length<=1000) :
  ∃d,q31 [pcD c s J0,kcD b ks]=some (.leaf d):=by
 have ek:=jq b ks Z;have ew:=jp c s J0 (by lia);generalize ks.map (·.1)=kept at ek ⊢;have nd0:((qc7 J0.length).filter fun i=>!decide (i∈kept)).Nodup:=List.nodup_range.sublist qn6
 have q:∀i,i∈(qc7 J0.length).filter (fun i=>!decide (i∈kept))↔i<J0.length/\i∉kept:=fun i=>by rw[qg9,qe1];simp
 obtain⟨E,ee,hE,ndE,O,_⟩:=qO J0 ((qc7 J0.length).filter fun i=>!decide (i∈kept)) hn (fun i hi=>((q i).mp hi).1) nd0
 have lE:E.length<=J0.length:=by
  have:=bY ndE (m:=qc7 J0.length) fun x hx=>qe1.mpr ((q x).mp (O x hx)).1
  simpa using this
 have hF:∀r,ar (sIf (tB2 (gEq false) (toD (am cS (aa (vB 4) ak))) (kD (.int 0))) (bw (toT (kD .non))) bV)
  (ar (aA 5 (bE ak))
  (ar (aA 6 (toT (toD (d2 au (vB 4) (kD (.int 0))))))
  (ar (bt z50 q39 100000)
  (bw (aT (aa (kD (.str "ring")) (aa (toD (vSl (vB 5) (c9 (toD (j8 dy (vB 5) (aa (vB 6) ak)))) dY)) ak))))))) [some (.leaf (pcD c s J0)),some (.leaf (kcD b ks)),some (.leaf (.lst (kept.map dI))),some (.leaf (dW J0)),some (.leaf (.lst (E.map dI))),none,none]=some (.rt r)->q31 [pcD c s J0,kcD b ks]=some r:=fun r h=>by
  unfold q31;refine il ?_;show ar _ _ [some (.leaf (pcD c s J0)),some (.leaf (kcD b ks)),none,none,none,none,none]=_
  have e1:dO fY (aa (toD (am cS (aa (vB 3) ak))) ak) [some (.leaf (pcD c s J0)),some (.leaf (kcD b ks)),some (.leaf (.lst (kept.map dI))),some (.leaf (dW J0)),none,none,none]=some ((qc7 J0.length).map dI):=by unfold dW;walk_at "k";rw[List.length_mapIdx,iU _ (by lia)]
  have a2:=aB (gj (src:=[none,some 2]) (bb:=av 0) (ft:=z51) (fe:=vL 0) e1 (uJ kept J0.length) (by rw[qa1];exact qb5 (qd7 _ _) (by simp;lia)))
  rw[aC (aW (t:=.leaf (.lst (kept.map dI))) (di (aB (cu (x:=kcD b ks) rfl |>.trans ek))))];rw[aC (aW (t:=.leaf (dW J0)) (di (aB (cu (x:=pcD c s J0) rfl |>.trans ew))))];show ar _ _ [some (.leaf (pcD c s J0)),some (.leaf (kcD b ks)),some (.leaf (.lst (kept.map dI))),some (.leaf (dW J0)),none,none,none]=_;rw[aC (aW (t:=.leaf (.lst (E.map dI))) (di (aB (cx (f:=vL 3) (x:=dW J0) (y:=.lst (((qc7 J0.length).filter fun i=>!decide (i∈kept)).map dI)) rfl a2 |>.trans ee))))];exact h
 have ht:tB2 (gEq false) (toD (am cS (aa (vB 4) ak))) (kD (.int 0)) [some (.leaf (pcD c s J0)),some (.leaf (kcD b ks)),some (.leaf (.lst (kept.map dI))),some (.leaf (dW J0)),some (.leaf (.lst (E.map dI))),none,none]=some (decide (((E.map dI).length:Int)=0)):=rfl;rw[qa1]at ht;by_cases L:E=[]
 .exact⟨.non,hF (.leaf .non) (AZ (ht.trans (by simp[L])) rfl)⟩
 .obtain⟨e0,W⟩:∃e0,E[0]?=some e0:=⟨E[0]'(List.length_pos_iff.mpr L),by simp[List.length_pos_iff.mpr L]⟩;have Y:e0∈E:=qd0 W;have lE2:∀i∈E,i<J0.length:=fun i hi=>((q i).mp (O i hi)).1
  have c0:Chn E [] e0:=⟨qt5,fun i hi=>by rw[qa6.mp hi];exact Y⟩;obtain⟨w,h,ew2,cw,hw⟩:=ni (P:=pcD c s J0) (C:=kcD b ks) (kept:=kept) hE lE2 (by lia) 100000 [] e0 c0 (by simp;lia);have wl:w.length<=E.length:=bY cw.nd fun i hi=>cw.all i (qf6 _ hi)
  obtain⟨i,hi,ei⟩:=xF hw (by lia);refine⟨.tup [.str "ring",.lst ((w.drop i).map dI)],hF _ ?_⟩
  rw[xB (ht.trans (by simp[L])),aC (aW (t:=.lst []) rfl),aC (δ':=sG (pcD c s J0) (kcD b ks) kept J0 E [] e0) (aW (t:=.leaf (dI e0)) (di (aB (t:=.leaf (dI e0)) ((b9 (x:=.lst (E.map dI)) (y:=.int ((0:Nat):Int)) rfl rfl).trans (by rw[hX,bJ,qb3,W];rfl))))),aC ew2]
  refine dX ?_
  have v1:vSl (vB 5) (c9 (toD (j8 dy (vB 5) (aa (vB 6) ak)))) dY (sG (pcD c s J0) (kcD b ks) kept J0 E w h)=some (.lst ((w.drop i).map dI)):=by have m1:toD (j8 dy (vB 5) (aa (vB 6) ak)) (sG (pcD c s J0) (kcD b ks) kept J0 E w h)=some (.int (i:Nat)):=aB ((xE (g:=dy) (o:=.lst (w.map dI)) (x:=dI h) rfl rfl).trans ei);unfold vSl c9 dY;rw[m1];show gSl (.lst (w.map dI)) (some ((i:Nat):Int)) none=_;rw[xG,zb4]
  exact sE (x:=.str "ring") rfl (aB v1)
def plc(N:List Str)(J0:List Rw):List Nat:=(hJ (cR ((kds N 0 J0++bks 0 J0).map fun j:Nat=>(j:Int)))).map Int.toNat
theorem xH(N:List Str)(J0:List Rw):(hJ (cR ((kds N 0 J0++bks 0 J0).map fun j:Nat=>(j:Int)))).map Dt.int=(plc N J0).map dI:=by
 unfold plc;rw[qc4];refine qw1 fun x q=>?_
 rw[jS,gz]at q;obtain⟨j,_,rfl⟩:=qd2.mp q;rfl
def plc_mem:j∈plc N J0↔j∈kds N 0 J0∨j∈bks 0 J0:=by
 unfold plc;rw[<- qd6,qd2];constructor
 .rintro⟨x,q,rfl⟩;rw[jS,gz]at q;obtain⟨j,L,rfl⟩:=qd2.mp q;exact L
 .intro h;exact⟨(j:Int),by rw[jS,gz];exact qd2.mpr ⟨j,h,rfl⟩,rfl⟩
theorem qV(q:∀(i:Nat)(r:Rw)(j:Nat),J0[i]?=some r->j∈r.outs i->j<J0.length)(h:j∈plc N J0):j<J0.length:=by
 rcases plc_mem.mp h with h|h
 .obtain⟨_,r,h1,_⟩:=kds_mem.mp h;exact(gX h1).1
 .obtain⟨i,r,h1,h2,_⟩:=bks_mem.mp h;rw[Nat.zero_add]at h2;exact q i r j h1 h2
def zT{l:List Int}(L:l.Nodup)(h:∀x∈l,∃j:Nat,j<n/\x=(j:Int)):l.length<=n:=by
 have:=bY L (m:=(qc7 n).map fun j:Nat=>(j:Int)) fun x O=>by obtain⟨j,q,rfl⟩:=h x O;exact qd2.mpr ⟨j,qe1.mpr q,rfl⟩
 simpa using this
theorem kn{N:List Str}(L:∀(i:Nat)(r:Rw)(j:Nat),J0[i]?=some r->j∈r.outs i->j<J0.length):(cR ((kds N 0 J0++bks 0 J0).map fun j:Nat=>(j:Int))).length<=J0.length:=zT (nY _) fun x q=>by rw[gz]at q;obtain⟨j,O,rfl⟩:=qd2.mp q;exact⟨j,qV (N:=N) L (plc_mem.mpr (qd6.mp O)),rfl⟩
theorem oz(q:∀(i:Nat)(r:Rw)(j:Nat),J0[i]?=some r->j∈r.outs i->j<J0.length):(plc N J0).length<=J0.length:=by unfold plc;rw[qa1,(eF _).length_eq];exact kn q
def jW(N:List Str)(J0:List Rw)(J3:List (List Str)):List (Nat×List Str):=(plc N J0).map fun j=>(j,J3.getD j [])
def kJ{B:List Str}(F:Fnd J0 B J3)(h:j<J0.length):J3[j]?=some (J3.getD j []):=by
 have:j<J3.length:=by rw[F.len];exact h
 simp[this]
variable{cs ss:List Hd}
theorem iE {B:List Str} (hB:∀ (i:Nat) (r:Rw) (b:Str),J0[i]?=some r->b∈r.reads->b∈B) (q:∀ (i:Nat) (r:Rw) (j:Nat),J0[i]?=some r->j∈r.outs i->j<J0.length) (hb:B.length<=12) (hn:J0.length<=60) (h0:0<J0.length) (O:cs.length+ss.length<=1000) (Y:z20 [pgD cs ss J0]=some (.lst (J3.map dS))) (F:Fnd J0 B J3) :
  z23 [pgD cs ss J0]=some (.leaf (cdD (J3.getD 0 []) (jW (((cs++ss).filter fun h=>!h.b).map (·.x)) J0 J3))):=by
 have L:=qP cs ss J0 O (by lia);have W:=pP (.tup (cs.map hdD)) (.tup (ss.map hdD)) J0 (by lia);generalize ((cs++ss).filter fun h=>!h.b).map (·.x)=N at L ⊢;have l1:=sH N 0 J0;have l2:=sJ 0 J0
 have Z:aN (.lst ((kds N 0 J0).map dI)) (.lst ((bks 0 J0).map dI))=some (.lst (((kds N 0 J0++bks 0 J0).map fun j:Nat=>(j:Int)).map .int)):=by rw[n8 (by rw[qa1,qa1];lia),<- qe9,qc4];rfl
 have es:=pB (ns:=(kds N 0 J0++bks 0 J0).map fun j:Nat=>(j:Int)) (by rw[qa1,qb7];lia) (qx4 (kn q) (by lia));rw[xH]at es;unfold z23;rw[jT]
 have s1:aA 1 (toT (toD (am (z20) (aa (vL 0) ak)))) [some (.leaf (pgD cs ss J0)),none,none]=some (.nx [some (.leaf (pgD cs ss J0)),some (.leaf (dF J3)),none]):=by walk_at "k";rw[Y];rfl
 have s2:aA 2 (toT (toD (am f9 (aa (toD (d2 aN (toD (am z30 (aa (vL 0) ak))) (toD (am y20 (aa (vL 0) ak))))) ak)))) [some (.leaf (pgD cs ss J0)),some (.leaf (dF J3)),none]=some (.nx [some (.leaf (pgD cs ss J0)),some (.leaf (dF J3)),some (.leaf (.lst ((plc N J0).map dI)))]):=by walk_at "k";rw[L,W];walk_at "k";rw[Z];walk_at "k";rw[es];rfl
 show lH (ar _ _ [some (.leaf (pgD cs ss J0)),none,none])=_;rw[b8,s1,cF,b8,s2,cF]
 have hc:cb (av 0) bN z49 [none,some (.leaf (dF J3))] ((plc N J0).map dI)=some ((jW N J0 J3).map kpD):=by
  have:=cP (f:=dI) (h:=fun j=>kpD (j,J3.getD j [])) (p:=fun _=>true) (bb:=av 0) (ft:=bN) (fe:=z49) (δ:=[none,some (.leaf (dF J3))]) (l:=plc N J0) fun j hj=>⟨[some (.leaf (dI j)),some (.leaf (dF J3))],rfl,rfl,fun _=>by unfold z49;have h2:=qN (kJ F (qV q hj));unfold dI;walk_at "k";rw[h2];rfl⟩
  rw[this,List.filter_eq_self.mpr fun _ _=>rfl];unfold jW;rw[qc4];rfl
 have h2:=qN (kJ F h0);walk_at "k"
 have l3:((jW N J0 J3).map kpD).length<=1000000:=by have:=oz (N:=N) q;unfold jW;simp;lia
 rw[show au (dF J3) (.int 0)=_ from h2,hc,qa2,qa2,cO l3];rfl
theorem orE{f g:De->Option Bool}{a:Bool}(h1:f δ=some a)(h2:a=false->g δ=some b):fOr f g δ=some (a||b):=by
 rw[Ee,h1];cases a with
 |true=>rfl
 |false=>exact h2 rfl
theorem eI{fs:De->Option (List Dt)}(h:fs δ=some ds)(q:ds.length<=1000):toD (bE fs) δ=some (.lst ds):=aB (t:=.lst ds) (by rw[lI,h,qa2,cO (by lia)])
theorem cG{fs:De->Option (List Dt)}(h:fs δ=some ds)(q:ds.length<=1000):toD (aT fs) δ=some (.tup ds):=aB (t:=.leaf (.tup ds)) (io h q)
theorem sP{l m:List Dt}(h1:fa δ=some (.lst l))(h2:fb δ=some (.lst m))(q:l.length+m.length<=1000):toD (d2 aN fa fb) δ=some (.lst (l++m)):=aB (t:=.lst (l++m)) ((b9 h1 h2).trans (n8 (by lia)))
variable{a:Nat}
theorem fO{b c:Nat}(h1:fa δ=some (dI a))(h2:fb δ=some (dI b))(h:c=a+b):toD (d2 aN fa fb) δ=some (dI c):=aB (t:=.leaf (dI c)) ((b9 h1 h2).trans (by rw[h];exact congrArg (fun z:Int=>some (T.leaf (.int z))) (Int.natCast_add a b).symm))
theorem oA{l:List Dt}(h:f δ=some (.lst l))(q:n=l.length):toD (am cS (aa f ak)) δ=some (dI n):=aB (t:=.leaf (dI n)) ((cu h).trans (by rw[q];rfl))
theorem xI(bx:List Str)(lo hi:Option Int):∃m:List Str,gSl (.lst (bx.map .str)) lo hi=some (.lst (m.map .str))/\m.length<=bx.length:=by
 refine⟨(bx.drop (HT.sIx (bx.map Dt.str).length 0 lo)).take (HT.sIx (bx.map Dt.str).length (bx.map Dt.str).length hi-HT.sIx (bx.map Dt.str).length 0 lo),?_,?_⟩
 .show some (T.lst (kr (bx.map Dt.str) lo hi))=_;unfold kr;rw[zh5,zb4]
 .rw[qq2,qu2];lia
theorem xJ{l:List Str}(h:f δ=some (.lst (l.map .str)))(q:l.length<64):toD (am cy (aa (toD (am eY (aa f ak))) ak)) δ=some (.tup ((fj (cR l)).map .str)):=by have a:=aB ((cu h).trans (ki q));exact aB (t:=.leaf _) ((cu (x:=.lst ((fj (cR l)).map .str)) a).trans rfl)
noncomputable def ctS(P:Dt)(x1:Option T)(bx:List Str)(J3:List (List Str))(n:Int)(S:List Nat)(J5:List (Nat×List Str))(q x8:Option T):De:=[some (.leaf P),x1,some (.leaf (.lst (bx.map .str))),some (.leaf (dF J3)),some (.leaf (.int n)),some (.leaf (.lst (S.map dI))),some (.lst (J5.map kpD)),q,x8]
section
variable{P:Dt}{x1:Option T}{bx:List Str}{J3:List (List Str)}{S:List Nat}
theorem sQ{n:Int}{l:List Str}{fi:De->Option Dt}{c:Int}(hc:0<c)(hc2:c<100)(h2:vB 2 δ=some (.lst (bx.map .str)))(h3:vB 3 δ=some (dF J3))(W:vB 4 δ=some (.int n))(hi:fi δ=some (dI j))(Y:J3[j]?=some l)(hl:l.length<=12)(hb:bx.length<=2):∃m:List Str,m.length<=14/\toD (d2 aN (toD (d2 au (vB 3) fi)) (toD (vSl (vB 2) dY (c9 (toD (d2 ck (toD (d2 fg (vB 4) (kD (.int c)))) (kD (.int 2)))))))) δ=some (.lst (m.map .str)):=by
 obtain⟨m,Z,hm⟩:=xI bx none (some (n/c%2));refine⟨l++m,by simp;lia,?_⟩
 have L:toD (d2 au (vB 3) fi) δ=some (.lst (l.map .str)):=aB (t:=.leaf (dS l)) ((b9 h3 hi).trans (by unfold dF dI;rw[hX,bJ,qb3,Y];rfl))
 have O:toD (d2 fg (vB 4) (kD (.int c))) δ=some (.int (n/c)):=aB (t:=.leaf _) ((b9 W (y:=.int c) rfl).trans (ip hc (by lia)));have q:toD (d2 ck (toD (d2 fg (vB 4) (kD (.int c)))) (kD (.int 2))) δ=some (.int (n/c%2)):=aB (t:=.leaf _) ((b9 O (y:=.int 2) rfl).trans (fS (by decide)))
 have e2:toD (vSl (vB 2) dY (c9 (toD (d2 ck (toD (d2 fg (vB 4) (kD (.int c)))) (kD (.int 2)))))) δ=some (.lst (m.map .str)):=aB (t:=.lst (m.map .str)) (by unfold vSl c9 dY;rw[h2,q];exact Z)
 rw[sP L e2 (by simp;lia),qe9]
theorem xK {n:Int} {J5:List (Nat×List Str)} {x8:Option T} {l:List Str} (hf:J3[j]?=some l) (W:l.length<=12) (hb:bx.length<=2) (ha:J5.length<=1000) :
  ∃(n':Int)(L:List (Nat×List Str))(y8:Option T),z44 (ctS P x1 bx J3 n S J5 (some (.leaf (dI j))) x8)=some (.nx (ctS P x1 bx J3 n' S L (some (.leaf (dI j))) y8))/\(L=J5∨∃q,L=J5++[(j,q)]):=by
 have s1:aA 4 (toT (toD (d2 ck (toD (d2 eU (vB 4) (kD (.int 69621)))) (kD (.int 1000000007))))) (ctS P x1 bx J3 n S J5 (some (.leaf (dI j))) x8)=some (.nx (ctS P x1 bx J3 (n*69621%1000000007) S J5 (some (.leaf (dI j))) x8)):=by unfold ctS;walk_at "d"
 generalize n*69621%1000000007=n1 at s1;have Z:tB2 (cB false) (vB 7) (vB 5) (ctS P x1 bx J3 n1 S J5 (some (.leaf (dI j))) x8)=some (decide (j∈S)):=ib (x:=dI j) (y:=.lst (S.map dI)) rfl rfl fJ
 have Y:tB2 (gEq false) (toD (d2 ck (vB 4) (kD (.int 3)))) (kD (.int 0)) (ctS P x1 bx J3 n1 S J5 (some (.leaf (dI j))) x8)=some (decide (n1%3=0)):=by unfold ctS;walk_at "d"
 have O:=orE (g:=tB2 (gEq false) (toD (d2 ck (vB 4) (kD (.int 3)))) (kD (.int 0))) Z fun _=>Y
 unfold z44;rw[aC s1];cases z:(decide (j∈S)||decide (n1%3=0))with
 |false=>rw[z]at O;exact⟨n1,J5,x8,by rw[iP O];rfl,.inl rfl⟩
 |true=>
  rw[z]at O;obtain⟨m,hm,em⟩:=sQ (δ:=ctS P x1 bx J3 n1 S J5 (some (.leaf (dI j))) x8) (n:=n1) (fi:=vB 7) (c:=3) (by decide) (by decide) rfl rfl rfl rfl hf W hb;refine⟨n1,J5++[(j,fj (cR m))],some (.leaf (.lst (m.map .str))),?_,.inr ⟨_,rfl⟩⟩;rw[iO O,aC (δ':=ctS P x1 bx J3 n1 S J5 (some (.leaf (dI j))) (some (.leaf (.lst (m.map .str))))) ((aW (t:=.leaf (.lst (m.map .str))) (di em)).trans rfl)];have e:=cG (fs:=aa (vL 7) (aa (toD (am cy (aa (toD (am eY (aa (vB 8) ak))) ak))) ak)) (δ:=ctS P x1 bx J3 n1 S J5 (some (.leaf (dI j))) (some (.leaf (.lst (m.map .str))))) (ao (d:=dI j) rfl (ao (xJ (l:=m) rfl (by lia)) rfl)) (by simp)
  exact(iQ (l:=J5.map kpD) rfl e (by rw[qa1];lia)).trans (by unfold ctS;rw[qe9];rfl)
theorem jM (hf:∀ j,j<J0.length->∃ l,J3[j]?=some l/\l.length<=12) (hb:bx.length<=2):∀ (js:List Nat) (n:Int) (J5:List (Nat×List Str)) (W x8:Option T),(∀ j∈js,j<J0.length)->J5.length+js.length<=1000->(∀ k∈J5,k.1<J0.length)→
  ∃(n':Int)(L:List (Nat×List Str))(Y Z:Option T),cA (av 7) z44 (js.map dI) (ctS P x1 bx J3 n S J5 W x8)=some (.nx (ctS P x1 bx J3 n' S L Y Z))/\(∀k∈L,k.1<J0.length)/\L.length<=J5.length+js.length
 |[],n,J5,W,x8,_,_,h=>⟨n,J5,W,x8,rfl,h,nL _⟩
 |j::js,n,J5,W,x8,hj,hl,h=>by
  rw[qc2]at hl;obtain⟨l,e1,e2⟩:=hf j (hj j (.head _));obtain⟨n1,O,Z,eb,q⟩:=xK (P:=P) (x1:=x1) (S:=S) (n:=n) (J5:=J5) (x8:=x8) e1 e2 hb (by lia)
  have q2:(∀k∈O,k.1<J0.length)/\O.length<=J5.length+1:=by
   rcases q with rfl|⟨q,rfl⟩
   .exact⟨h,by lia⟩
   .refine⟨fun k hk=>?_,by simp⟩;rcases qd6.mp hk with hk|hk
    .exact h k hk
    .rw[qa6.mp hk];exact hj j (.head _)
  obtain⟨n',L,Y,z8,e,r1,r2⟩:=jM hf hb js n1 O (some (.leaf (dI j))) Z (fun k hk=>hj k (.tail _ hk)) (by lia) q2.1;refine⟨n',L,Y,z8,?_,r1,by rw[qc2];lia⟩;rw[qa5,bo (δ1:=ctS P x1 bx J3 n S J5 (some (.leaf (dI j))) x8) rfl eb];exact e
end
theorem qW {cs ss:List Hd} {B:List Str} (p:Prg B J0) (hh:cs.length+ss.length<=100) (q:Int) (bx:List Str) (Z:bx.length<=2) :
  ∃(bg:List Str)(ks:List (Nat×List Str)),z38 [pgD cs ss J0,.int q,.lst (bx.map .str)]=some (.leaf (cdD bg ks))/\(∀k∈ks,k.1<J0.length)/\ks.length<=60:=by
 have hn:=p.n;obtain⟨J3,en,F,_⟩:=iT (c:=.tup (cs.map hdD)) (s:=.tup (ss.map hdD)) p.rd p.out p.b (by lia);have hf:∀j,j<J0.length->∃l,J3[j]?=some l/\l.length<=12:=fun j O=>⟨J3.getD j [],kJ F O,qb5 (F.short (kJ F O)) p.b⟩
 have ea:=iE (cs:=cs) (ss:=ss) p.rd p.out p.b hn p.pos (by lia) en F
 have W:∃(n:Int)(S:List Nat),∀g:De->Option Out,(ar (aA 3 (toT (toD (am z20 (aa (vL 0) ak)))))
  (ar (aA 4 (toT (toD (d2 ck (toD (d2 eU (vB 1) (kD (.int 48271)))) (kD (.int 1000000007))))))
  (ar (aA 5 (toT (toD (bE ak))))
  (ar (sIf (tB2 (ix fun i j=>decide (j<i)) (toD (d2 ck (vB 4) (kD (.int 4)))) (kD (.int 0))) (aA 5 (toT (toD (bA [none,none] (fIt (toD (d2 au (toD (am z23 (aa (vL 0) ak))) (kD (.int 1))))) (fu 2 (br (av 0) (br (av 1) fq))) bN (vL 0))))) bV)
  (ar (aA 6 (bE ak)) g))))) [some (.leaf (pgD cs ss J0)),some (.leaf (.int q)),some (.leaf (.lst (bx.map .str))),none,none,none,none,none,none]=g (ctS (pgD cs ss J0) (some (.leaf (.int q))) bx J3 n S [] none none):=by
  have s1:aA 3 (toT (toD (am z20 (aa (vL 0) ak)))) [some (.leaf (pgD cs ss J0)),some (.leaf (.int q)),some (.leaf (.lst (bx.map .str))),none,none,none,none,none,none]=some (.nx [some (.leaf (pgD cs ss J0)),some (.leaf (.int q)),some (.leaf (.lst (bx.map .str))),some (.leaf (dF J3)),none,none,none,none,none]):=(aW (t:=.leaf (dF J3)) (di (aB (t:=.lst (J3.map dS)) ((cu (x:=pgD cs ss J0) rfl).trans en)))).trans rfl
  have Y:aA 4 (toT (toD (d2 ck (toD (d2 eU (vB 1) (kD (.int 48271)))) (kD (.int 1000000007))))) [some (.leaf (pgD cs ss J0)),some (.leaf (.int q)),some (.leaf (.lst (bx.map .str))),some (.leaf (dF J3)),none,none,none,none,none]=some (.nx [some (.leaf (pgD cs ss J0)),some (.leaf (.int q)),some (.leaf (.lst (bx.map .str))),some (.leaf (dF J3)),some (.leaf (.int (q*48271%1000000007))),none,none,none,none]):=by walk_at "d"
  generalize q*48271%1000000007=n at Y;have s3:aA 5 (toT (toD (bE ak))) [some (.leaf (pgD cs ss J0)),some (.leaf (.int q)),some (.leaf (.lst (bx.map .str))),some (.leaf (dF J3)),some (.leaf (.int n)),none,none,none,none]=some (.nx [some (.leaf (pgD cs ss J0)),some (.leaf (.int q)),some (.leaf (.lst (bx.map .str))),some (.leaf (dF J3)),some (.leaf (.int n)),some (.leaf (.lst [])),none,none,none]):=rfl
  have L:tB2 (ix fun i j=>decide (j<i)) (toD (d2 ck (vB 4) (kD (.int 4)))) (kD (.int 0)) [some (.leaf (pgD cs ss J0)),some (.leaf (.int q)),some (.leaf (.lst (bx.map .str))),some (.leaf (dF J3)),some (.leaf (.int n)),some (.leaf (.lst [])),none,none,none]=some (decide (0<n%4)):=by walk_at "d"
  by_cases z:0<n%4
  .rw[decide_eq_true z]at L;refine⟨n,(jW (((cs++ss).filter fun h=>!h.b).map (·.x)) J0 J3).map (·.1),fun g=>?_⟩;have a1:fIt (toD (d2 au (toD (am z23 (aa (vL 0) ak))) (kD (.int 1)))) [some (.leaf (pgD cs ss J0)),some (.leaf (.int q)),some (.leaf (.lst (bx.map .str))),some (.leaf (dF J3)),some (.leaf (.int n)),some (.leaf (.lst [])),none,none,none]=some ((jW (((cs++ss).filter fun h=>!h.b).map (·.x)) J0 J3).map kpD):=oy (aB (t:=.leaf (.tup ((jW (((cs++ss).filter fun h=>!h.b).map (·.x)) J0 J3).map kpD))) ((b9 (aB (t:=.leaf _) ((cu (x:=pgD cs ss J0) rfl).trans ea)) (y:=.int 1) rfl).trans rfl)) rfl
   have a2:=aB (gj (src:=[none,none]) (bb:=fu 2 (br (av 0) (br (av 1) fq))) (ft:=bN) (fe:=vL 0) a1 (ys:=((jW (((cs++ss).filter fun h=>!h.b).map (·.x)) J0 J3).map (·.1)).map dI) (by
    rw[qc4];exact ci fun k _=>⟨_,rfl,rfl,rfl⟩) (by
    have:=oz (N:=((cs++ss).filter fun h=>!h.b).map (·.x)) p.out;unfold jW;rw[qa1,qa1,qa1];lia))
   rw[aC s1,aC Y,aC s3,b8,iO L,aW (t:=.leaf (.lst (((jW (((cs++ss).filter fun h=>!h.b).map (·.x)) J0 J3).map (·.1)).map dI))) (di a2),cF];rfl
  .rw[decide_eq_false z]at L;refine⟨n,[],fun g=>?_⟩;rw[aC s1,aC Y,aC s3,b8,iP L];rfl
 obtain⟨n,S,W⟩:=W;obtain⟨n',J5,y7,y8,e,r1,r2⟩:=jM (P:=pgD cs ss J0) (x1:=some (.leaf (.int q))) (S:=S) hf Z (qc7 J0.length) n [] none none (fun j O=>qe1.mp O) (by simp;lia) (fun k hk=>by cases hk);obtain⟨l0,f0,f1⟩:=hf 0 p.pos;obtain⟨m,hm,em⟩:=sQ (δ:=ctS (pgD cs ss J0) (some (.leaf (.int q))) bx J3 n' S J5 y7 y8) (n:=n') (fi:=kD (.int 0)) (j:=0) (c:=5) (by decide) (by decide) rfl rfl rfl rfl f0 f1 Z;refine⟨fj (cR m),J5,?_,r1,by simp at r2;lia⟩;unfold z38;refine dRt ?_;show ar _ _ [some (.leaf (pgD cs ss J0)),some (.leaf (.int q)),some (.leaf (.lst (bx.map .str))),none,none,none,none,none,none]=_;rw[W,b8,iN]
 have er:dO fY (aa (toD (am cS (aa (toD (d2 au (vB 0) (kD (.int 2)))) ak))) ak) (ctS (pgD cs ss J0) (some (.leaf (.int q))) bx J3 n S [] none none)=some ((qc7 J0.length).map dI):=by unfold ctS pgD dR;walk_at "k";rw[qa1,iU _ (by lia)]
 rw[er,qa2,e,cF];exact dX (io (ao (xJ em (by lia)) (ao (aB (t:=.leaf (.tup (J5.map kpD))) ((cu (x:=.lst (J5.map kpD)) rfl).trans rfl)) rfl)) (by simp))
abbrev Pl(r:Rw):Prop:=r.reads=[]/\∀i j,j∈r.outs i->j=i+1
def flS(q:Int)(x1:Option T)(b0 b1:Str)(J5:List Rw)(x4 L:Option T):De:=[some (.leaf (.int q)),x1,some (.leaf (.lst [.str b0,.str b1])),some (.lst (J5.map Rw.d)),x4,L]
theorem uQ (n:Int) (x1:Option T) (b0 b1:Str) (J5:List Rw) (k:Nat) (W:Option T) (ha:J5.length<=1000) :
  ∃(r:Rw)(y5:Option T),y46 (flS n x1 b0 b1 J5 (some (.leaf (dI k))) W)=some (.nx (flS n x1 b0 b1 (J5++[r]) (some (.leaf (dI k))) y5))/\Pl r:=by
 have s1:aA 5 (toT (toD (d2 ck (toD (d2 eU (toD (d2 aN (vB 0) (toD (d2 eU (vB 4) (kD (.int 7919)))))) (kD (.int 48271)))) (kD (.int 1000000007))))) (flS n x1 b0 b1 J5 (some (.leaf (dI k))) W)=some (.nx (flS n x1 b0 b1 J5 (some (.leaf (dI k))) (some (.leaf (.int ((n+(k:Int)*7919)*48271%1000000007)))))):=by unfold flS dI;walk_at "d"
 generalize (n+(k:Int)*7919)*48271%1000000007=m at s1;have L:toD (d2 au (vB 2) (toD (lb (kD (.int 1))))) (flS n x1 b0 b1 J5 (some (.leaf (dI k))) (some (.leaf (.int m))))=some (.str b1):=rfl;have d1:toD (d2 fg (vB 5) (kD (.int 2))) (flS n x1 b0 b1 J5 (some (.leaf (dI k))) (some (.leaf (.int m))))=some (.int (m/2)):=aB (t:=.leaf _) ((b9 (x:=.int m) (y:=.int 2) rfl rfl).trans (ip (by decide) (by decide)));have m1:toD (d2 ck (vB 5) (kD (.int 3))) (flS n x1 b0 b1 J5 (some (.leaf (dI k))) (some (.leaf (.int m))))=some (.int (m%3)):=aB (t:=.leaf _) ((b9 (x:=.int m) (y:=.int 3) rfl rfl).trans (fS (by decide)));have Y:=eI (ao (cG (ao (f:=kD (.str "copy")) rfl (ao L (ao (f:=vL 5) (d:=.int m) rfl (show ak _=some []from rfl)))) (by simp)) (ao (cG (ao (f:=kD (.str "say")) rfl (ao d1 (show ak _=some []from rfl))) (by simp)) (ao (cG (ao (f:=kD (.str "hear")) rfl (ao L (show ak _=some []from rfl))) (by simp)) (show ak _=some []from rfl)))) (by simp)
 have O:∃r:Rw,Pl r/\au (.lst [.tup [.str "copy",.str b1,.int m],.tup [.str "say",.int (m/2)],.tup [.str "hear",.str b1]]) (.int (m%3))=some (.leaf r.d):=by
  have h0:=ze6 m (show(3:Int)≠0 by decide);have h1:=Int.emod_lt_of_pos m (show(0:Int)<3 by decide);have:m%3=0∨m%3=1∨m%3=2:=by lia
  rcases this with h|h|h<;>rw[h]
  .exact⟨.copy b1 (.vl m),⟨rfl,fun i j q=>qa6.mp q⟩,rfl⟩
  .exact⟨.say (.vl (m/2)),⟨rfl,fun i j q=>qa6.mp q⟩,rfl⟩
  .exact⟨.hear b1,⟨rfl,fun i j q=>qa6.mp q⟩,rfl⟩
 obtain⟨r,hr,Z⟩:=O;refine⟨r,some (.leaf (.int m)),?_,hr⟩;unfold y46;rw[aC s1]
 exact(iQ (l:=J5.map Rw.d) (d:=r.d) rfl (aB (t:=.leaf r.d) ((b9 Y m1).trans Z)) (by rw[qa1];lia)).trans (by unfold flS;rw[qe9];rfl)
theorem sU(n:Int)(x1:Option T)(b0 b1:Str):∀(ks:List Nat)(J5:List Rw)(x4 L:Option T),J5.length+ks.length<=1000->(∀r∈J5,Pl r)->∃(rs:List Rw)(y4 W:Option T),cA (av 4) y46 (ks.map dI) (flS n x1 b0 b1 J5 x4 L)=some (.nx (flS n x1 b0 b1 rs y4 W))/\rs.length=J5.length+ks.length/\∀r∈rs,Pl r
 |[],J5,x4,L,_,h=>⟨J5,x4,L,rfl,rfl,h⟩
 |k::ks,J5,x4,L,Y,h=>by
  rw[qc2]at Y;obtain⟨r,W,e1,Z⟩:=uQ n x1 b0 b1 J5 k L (by lia)
  obtain⟨rs,z4,z5,e2,l2,h2⟩:=sU n x1 b0 b1 ks (J5++[r]) (some (.leaf (dI k))) W (by simp;lia) fun q O=>by
   rcases qd6.mp O with O|O
   .exact h q O
   .rw[qa6.mp O];exact Z
  refine⟨rs,z4,z5,?_,by simp at l2 ⊢;lia,h2⟩;rw[qa5,bo (δ1:=flS n x1 b0 b1 J5 (some (.leaf (dI k))) L) rfl e1];exact e2
theorem uR(n:Int)(k:Nat)(b0 b1:Str)(hk:k<=10):∃rs:List Rw,y45 [.int n,dI k,.lst [.str b0,.str b1]]=some (.lst (rs.map Rw.d))/\rs.length=k/\∀r∈rs,Pl r:=by
 obtain⟨rs,W,O,e,l,h⟩:=sU n (some (.leaf (dI k))) b0 b1 (qc7 k) [] none none (by simp;lia) fun r L=>by cases L
 refine⟨rs,?_,by simpa using l,h⟩;unfold y45;refine dRt ?_;show ar _ _ [some (.leaf (.int n)),some (.leaf (dI k)),some (.leaf (.lst [.str b0,.str b1])),none,none,none]=_;rw[aC (δ':=flS n (some (.leaf (dI k))) b0 b1 [] none none) rfl,b8,iN]
 have q:dO fY (aa (vL 1) ak) (flS n (some (.leaf (dI k))) b0 b1 [] none none)=some ((qc7 k).map dI):=by unfold flS dI;walk_at "k";exact iU k (by lia)
 rw[q,qa2,e];rfl
def nine(h:l.length=9):∃a b c d e f g i j,l=[a,b,c,d,e,f,g,i,j]:=by
 match l,h with
 |[a,b,c,d,e,f,g,i,j],_=>exact⟨a,b,c,d,e,f,g,i,j,rfl⟩
noncomputable def rb(Y:Option T)(P:Dt)(b0 b1 mo:Str)(n:Int)(D:List Nat)(f0 f1 f2 f3:List Rw)(nm:Str)(st:Int)(Z:Option T)(W:List Hd)(R Fi:List Rw)(q O L:Option T):De:=[Y,some (.leaf P),some (.leaf (.lst [.str b0,.str b1])),some (.leaf (.str mo)),some (.leaf (.int n)),some (.leaf (.lst (D.map dI))),some (.leaf (.lst [.lst (f0.map Rw.d),.lst (f1.map Rw.d),.lst (f2.map Rw.d),.lst (f3.map Rw.d)])),some (.leaf (.str nm)),some (.leaf (.int st)),Z,some (.leaf (.tup (W.map hdD))),some (.leaf (.lst (R.map Rw.d))),some (.leaf (.lst (Fi.map Rw.d))),q,O,L]
noncomputable def rbR(b0 b1 nm:Str)(d5 d8:Nat)(at':Atm)(R Fi f1 f2 f3:List Rw):List Rw:=[.go (1+R.length)]++R++Fi++[.iff at' (1+R.length+Fi.length+2+f1.length+2+f2.length),.store nm (.nm b0)]++f1++[.load b1 nm]++f2++[.go (1+2*d8)]++[.store nm (.vl d5)]++f3
abbrev Gr(B:List Str)(r:Rw):Prop:=(∀b∈r.reads,b∈B)/\∀i j,j∈r.outs i->j=1∨j=i+1
theorem CK{B:List Str}{k:Nat}(hB:B.length<=12)(hn:rs.length<=59)(hk:k<rs.length+1)(O:∀r∈rs,Gd B (rs.length+1) r)(hf:∃(i:Nat)(a:Atm),rs[i]?=some (Rw.fin a)):Prg B (rs++[.go k]):=by
 have q:∀(i:Nat)(r:Rw),(rs++[Rw.go k])[i]?=some r->(i<rs.length/\r∈rs)∨(i=rs.length/\r=.go k):=fun i r h=>by
  by_cases z:i<rs.length
  .rw[qc8 z]at h;exact .inl ⟨z,qd0 h⟩
  .have hi:=(gX h).1;simp at hi;obtain rfl:i=rs.length:=by lia
   rw[gR (nL _),zi5]at h;cases h;exact .inr ⟨rfl,rfl⟩
 obtain⟨Z,a0,e0⟩:=hf;refine⟨hB,by simp;lia,fun i r b h Y=>?_,fun i r j h W=>?_,Z,a0,by rw[qc8 (gX e0).1];exact e0⟩
 .rcases q i r h with ⟨_,L⟩|⟨_,rfl⟩
  .exact(O r L).1 b Y
  .cases Y
 .rcases q i r h with ⟨hi,L⟩|⟨_,rfl⟩
  .rw[qb7,ql9];rcases(O r L).2 i j W with z|z<;>lia
  .rw[qa6.mp W,qb7,ql9];exact hk
theorem Eo{B:List Str}(h:Gr B r)(L:1<n):Gd B n r:=⟨h.1,fun i j q=>(h.2 i j q).elim (fun z=>.inl (by lia)) .inr⟩
theorem pS{B:List Str}(h:Pl r):Gr B r:=⟨fun b q=>(by rw[h.1]at q;cases q),fun i j L=>.inr (h.2 i j L)⟩
variable{b0 b1:Str}{d5 d8:Nat}{at':Atm}{R Fi f1 f2 f3:List Rw}
theorem zU{nm:Str}:(rbR b0 b1 nm d5 d8 at' R Fi f1 f2 f3).length=1+R.length+Fi.length+2+f1.length+1+f2.length+1+1+f3.length:=by unfold rbR;simp only[qb7,qc2,qv8]
theorem CL{nm:Str}{N:Nat}(hN:N=1+R.length+Fi.length+2+f1.length+1+f2.length+1+1+f3.length+1)(h8:d8<2)(ha:∀x,at'=.nm x->x=b0)(hR:∀r∈R++Fi++f1++f2++f3,Gr [b0,b1] r):∀r∈rbR b0 b1 nm d5 d8 at' R Fi f1 f2 f3,Gd [b0,b1] N r:=fun r W=>by
 have g:∀q,q∈R++Fi++f1++f2++f3->Gd [b0,b1] N q:=fun q hq=>Eo (hR q hq) (by lia)
 have Z:∀k,k<N->Gd [b0,b1] N (.go k):=fun k hk=>⟨fun b O=>(by cases O),fun i j L=>by rw[qa6.mp L];exact .inl hk⟩
 unfold rbR at W;simp only[qd6,qa9,qh3,or_false]at W g;rcases W with (((((((((rfl|h)|h)|(rfl|rfl))|h)|rfl)|h)|rfl)|rfl)|h)
 .exact Z _ (by lia)
 .exact g r (by simp[h])
 .exact g r (by simp[h])
 .refine⟨jt fun x Y=>?_,fun i j L=>?_⟩
  .rw[ha x (qa6.mp Y).symm];exact .head _
  .rcases qa9.mp L with rfl|L
   .exact .inl (by lia)
   .exact .inr (qa6.mp L)
 .refine⟨jt fun x Y=>?_,fun i j L=>.inr (qa6.mp L)⟩;cases qa6.mp Y;exact .head _
 .exact g r (by simp[h])
 .exact⟨fun b O=>(by cases O),fun i j L=>.inr (qa6.mp L)⟩
 .exact g r (by simp[h])
 .exact Z _ (by lia)
 .exact⟨fun b O=>(by cases O),fun i j L=>.inr (qa6.mp L)⟩
 .exact g r (by simp[h])
theorem gk{F:De->Option Dt}{G:De->Option Out}{d:Dt}{r:Option Out}(h:F δ=some d)(k:G (δ.set i (some (.leaf d)))=r):ar (aA i (toT F)) G δ=r:=by rw[aC (aW (di h))];exact k
theorem xL(l:List Hd)(lo hi:Option Int):∃m:List Hd,wU (.tup (l.map hdD)) lo hi=some (.leaf (.tup (m.map hdD)))/\m.length<=l.length:=by
 by_cases z:HT.sIx (l.map hdD).length 0 lo=0/\HT.sIx (l.map hdD).length (l.map hdD).length hi=(l.map hdD).length
 .exact⟨l,if_pos z,nL _⟩
 .refine⟨(l.drop (HT.sIx (l.map hdD).length 0 lo)).take (HT.sIx (l.map hdD).length (l.map hdD).length hi-HT.sIx (l.map hdD).length 0 lo),(if_neg z).trans ?_,?_⟩
  .unfold kr;rw[zh5,zb4]
  .rw[qq2,qu2];lia
theorem xM{L q:De->Option (Option Int)}{lo hi:Option Int}{t:T}(h:fa δ=some x)(h1:L δ=some lo)(h2:q δ=some hi)(k:wU x lo hi=some t):toD (pz fa L q) δ=t.d:=aB (by unfold pz;rw[h,qa2,h1,qa2,h2,qa2,k])
theorem dk{l m:List Rw}(h1:fa δ=some (.lst (l.map Rw.d)))(h2:fb δ=some (.lst (m.map Rw.d)))(q:l.length+m.length<=1000):toD (d2 aN fa fb) δ=some (.lst ((l++m).map Rw.d)):=by rw[sP h1 h2 (by simp;lia),qe9]
noncomputable def rbT:De->Option Out:=(ar (aA 13 (toT (toD (d2 aN (kD (.int 1)) (toD (am cS (aa (vB 11) ak)))))))
  (ar (aA 14 (toT (toD (d2 aN (toD (d2 aN (toD (d2 aN (vB 13) (toD (am cS (aa (vB 12) ak))))) (kD (.int 2)))) (toD (am cS (aa (toD (d2 au (vB 6) (kD (.int 1)))) ak)))))))
  (ar (aA 15 (toT (toD (aT (aa (kD (.str "if")) (aa (toD (d2 au (toD (bE (aa (toD (d2 au (vB 2) (kD (.int 0)))) (aa (toD (d2 au (vB 5) (kD (.int 5)))) ak)))) (toD (d2 au (vB 5) (kD (.int 4)))))) (aa (toD (d2 aN (toD (d2 aN (vB 14) (kD (.int 2)))) (toD (am cS (aa (toD (d2 au (vB 6) (kD (.int 2)))) ak))))) ak)))))))
  (ar (aA 11 (toT (toD (d2 aN (toD (d2 aN (toD (d2 aN (toD (d2 aN (toD (bE (aa (toD (aT (aa (kD (.str "go")) (aa (vL 13) ak)))) ak))) (vB 11))) (vB 12))) (toD (bE (aa (vL 15) (aa (toD (aT (aa (kD (.str "store")) (aa (vL 7) (aa (toD (d2 au (vB 2) (kD (.int 0)))) ak))))) ak)))))) (toD (d2 au (vB 6) (kD (.int 1))))))))
  (ar (aA 11 (toT (toD (d2 aN (toD (d2 aN (toD (d2 aN (vB 11) (toD (bE (aa (toD (aT (aa (kD (.str "load")) (aa (toD (d2 au (vB 2) (toD (lb (kD (.int 1)))))) (aa (vL 7) ak))))) ak))))) (toD (d2 au (vB 6) (kD (.int 2)))))) (toD (bE (aa (toD (aT (aa (kD (.str "go")) (aa (toD (d2 aN (kD (.int 1)) (toD (d2 eU (kD (.int 2)) (toD (d2 au (vB 5) (kD (.int 8)))))))) ak)))) ak)))))))
  (ar (aA 11 (toT (toD (d2 aN (toD (d2 aN (toD (d2 aN (vB 11) (toD (bE (aa (toD (aT (aa (kD (.str "store")) (aa (vL 7) (aa (toD (d2 au (vB 5) (kD (.int 5)))) ak))))) ak))))) (toD (d2 au (vB 6) (kD (.int 3)))))) (toD (bE (aa (toD (aT (aa (kD (.str "go")) (aa (vL 14) ak)))) ak)))))))
  (bw (aT (aa (toD (pz (toD (d2 lB (vB 10) (toD (pz (toD (d2 au (vB 1) (kD (.int 0)))) (c9 (kD (.int 1))) dY)))) dY (c9 (kD (.int 8))))) (aa (toD (d2 au (vB 1) (kD (.int 1)))) (aa (toD (am cy (aa (vB 11) ak))) ak)))))))))))
theorem CM (x0:Option T) (h:Hd) (cs ss:List Hd) (J0:List Rw) (b0 b1 mo:Str) (n:Int) (d0 d1 d2' d3 q d5 d6 d7 d8:Nat) (f0 f1 f2 f3:List Rw) (nm:Str) (st:Int) (x9:Option T) (L:List Hd) (R Fi:List Rw) (h4:q<2) (hc:cs.length<=8) (hh:L.length<=2) (l1:f1.length<=1) (l2:f2.length<=1) (l3:f3.length<=1) (lR:R.length<=10) (lF:Fi.length<=1) :
  ∃(W:List Hd)(at':Atm),W.length<=20/\(∀x,at'=.nm x->x=b0)/\rbT (rb x0 (pgD (h::cs) ss J0) b0 b1 mo n [d0,d1,d2',d3,q,d5,d6,d7,d8] f0 f1 f2 f3 nm st x9 L R Fi none none none)=some (.rt (.leaf (pgD W ss (rbR b0 b1 nm d5 d8 at' R Fi f1 f2 f3++[Rw.go (1+R.length+Fi.length+2+f1.length)])))):=by
 obtain⟨at',Z,eat⟩:∃at':Atm,(∀x,at'=.nm x->x=b0)/\au (.lst [.str b0,dI d5]) (dI q)=some (.leaf at'.d):=by
  have:q=0∨q=1:=by lia
  rcases this with rfl|rfl
  .exact⟨.nm b0,fun x hx=>(by cases hx;rfl),rfl⟩
  .exact⟨.vl d5,fun x hx=>(by cases hx),rfl⟩
 obtain⟨m1,e1,k1⟩:=xL (h::cs) (some 1) none;obtain⟨m2,e2,k2⟩:=xL (L++m1) none (some 8);refine⟨m2,at',by simp at k1 k2;lia,Z,?_⟩;unfold rbT;refine gk (d:=dI (1+R.length)) (fO (a:=1) rfl (oA (l:=R.map Rw.d) rfl (by simp)) rfl) ?_;refine gk (d:=dI (1+R.length+Fi.length+2+f1.length)) (fO (fO (b:=2) (fO (a:=1+R.length) rfl (oA (l:=Fi.map Rw.d) rfl (by simp)) rfl) rfl rfl) (oA (l:=f1.map Rw.d) rfl (by simp)) rfl) ?_;refine gk (d:=(Rw.iff at' (1+R.length+Fi.length+2+f1.length+2+f2.length)).d) (cG (ds:=[.str "if",at'.d,dI (1+R.length+Fi.length+2+f1.length+2+f2.length)]) (ao rfl (ao (aB (t:=.leaf at'.d) ((b9 (eI (ds:=[.str b0,dI d5]) (ao rfl (ao rfl rfl)) (by simp)) (y:=dI q) rfl).trans eat)) (ao (fO (fO (a:=1+R.length+Fi.length+2+f1.length) (b:=2) rfl rfl rfl) (oA (l:=f2.map Rw.d) rfl (by simp)) rfl) rfl))) (by simp)) ?_;refine gk (d:=.lst (([Rw.go (1+R.length)]++R++Fi++[Rw.iff at' (1+R.length+Fi.length+2+f1.length+2+f2.length),Rw.store nm (.nm b0)]++f1).map Rw.d)) (dk (dk (dk (dk (l:=[Rw.go (1+R.length)]) (m:=R) (eI (ao (cG (ao rfl (ao (d:=dI (1+R.length)) rfl rfl)) (by simp)) rfl) (by simp)) rfl (by simp;lia)) (m:=Fi) rfl (by simp;lia)) (m:=[Rw.iff at' (1+R.length+Fi.length+2+f1.length+2+f2.length),Rw.store nm (.nm b0)]) (eI (ao rfl (ao (cG (ao rfl (ao rfl (ao rfl rfl))) (by simp)) rfl)) (by simp)) (by simp;lia)) (m:=f1) rfl (by simp;lia)) ?_;generalize O:([Rw.go (1+R.length)]++R++Fi++[Rw.iff at' (1+R.length+Fi.length+2+f1.length+2+f2.length),Rw.store nm (.nm b0)]++f1:List Rw)=R2;have lR2:R2.length<=20:=by rw[<- O];simp;lia
 refine gk (d:=.lst ((R2++[Rw.load b1 nm]++f2++[Rw.go (1+2*d8)]).map Rw.d)) (dk (dk (dk (l:=R2) (m:=[Rw.load b1 nm]) rfl (eI (ao (cG (ao rfl (ao rfl (ao rfl rfl))) (by simp)) rfl) (by simp)) (by simp;lia)) (m:=f2) rfl (by simp;lia)) (m:=[Rw.go (1+2*d8)]) (eI (ao (cG (ao rfl (ao (fO (a:=1) (b:=2*d8) rfl (aB (t:=.leaf (dI (2*d8))) ((b9 (x:=.int 2) (y:=dI d8) rfl rfl).trans (by unfold dI;walk_at "d";simp))) rfl) rfl)) (by simp)) rfl) (by simp)) (by simp;lia)) ?_
 generalize Y:(R2++[Rw.load b1 nm]++f2++[Rw.go (1+2*d8)]:List Rw)=R3;have lR3:R3.length<=30:=by rw[<- Y];simp;lia
 refine gk (d:=.lst ((R3++[Rw.store nm (.vl d5)]++f3++[Rw.go (1+R.length+Fi.length+2+f1.length)]).map Rw.d)) (dk (dk (dk (l:=R3) (m:=[Rw.store nm (.vl d5)]) rfl (eI (ao (cG (ao rfl (ao rfl (ao rfl rfl))) (by simp)) rfl) (by simp)) (by simp;lia)) (m:=f3) rfl (by simp;lia)) (m:=[Rw.go (1+R.length+Fi.length+2+f1.length)]) (eI (ao (cG (ao rfl (ao rfl rfl)) (by simp)) rfl) (by simp)) (by simp;lia)) ?_
 have hR4:R3++[Rw.store nm (.vl d5)]++f3++[Rw.go (1+R.length+Fi.length+2+f1.length)]=rbR b0 b1 nm d5 d8 at' R Fi f1 f2 f3++[Rw.go (1+R.length+Fi.length+2+f1.length)]:=by unfold rbR;rw[<- Y,<- O]
 rw[hR4];generalize rbR b0 b1 nm d5 d8 at' R Fi f1 f2 f3++[Rw.go (1+R.length+Fi.length+2+f1.length)]=R4
 exact dX (io (ao (xM (aB ((b9 (g:=lB) (fa:=vB 10) (x:=.tup (L.map hdD)) rfl (xM (x:=.tup ((h::cs).map hdD)) rfl rfl rfl e1)).trans (sF hdD L m1 (by simp at k1;lia)))) rfl rfl e2) (ao rfl (ao (aB (t:=.leaf (.tup (R4.map Rw.d))) ((cu (x:=.lst (R4.map Rw.d)) rfl).trans rfl)) rfl))) (by simp))
noncomputable def rbM:De->Option Out:=(sIf (tB2 (gEq false) (toD (d2 au (vB 5) (kD (.int 8)))) (kD (.int 1))) (ar (aA 10 (toT (toD (d2 mI (vB 10) (toD (aT (aa (toD (aT (aa (vL 3) (aa (vL 8) (aa (kD (.bl false)) ak))))) ak)))))))
  (ar (aA 11 (toT (toD (d2 aN (toD (bE (aa (toD (aT (aa (kD (.str "store")) (aa (vL 3) (aa (toD (d2 au (vB 5) (kD (.int 6)))) ak))))) (aa (toD (aT (aa (kD (.str "end")) (aa (toD (d2 au (vB 5) (kD (.int 7)))) ak)))) (aa (toD (aT (aa (kD (.str "store")) (aa (vL 7) (aa (toD (d2 au (vB 5) (kD (.int 5)))) ak))))) ak))))) (toD (d2 au (vB 6) (kD (.int 0))))))))
  (ar (aA 11 (toT (toD (d2 aN (vB 11) (toD (bE (aa (toD (aT (aa (kD (.str "load")) (aa (toD (d2 au (vB 2) (toD (lb (kD (.int 1)))))) (aa (vL 3) ak))))) (aa (toD (aT (aa (kD (.str "go")) (aa (kD (.int 1)) ak)))) ak))))))))
  (aA 12 (toT (toD (bE (aa (toD (aT (aa (kD (.str "store")) (aa (vL 3) (aa (toD (d2 au (vB 5) (kD (.int 7)))) ak))))) ak)))))))) bV)
structure RbG(b0 b1:Str)(hs:List Hd)(R Fi:List Rw):Prop where
 h:hs.length<=2
 r:R.length<=10
 f:Fi.length<=1
 g:∀r∈R++Fi,Gr [b0,b1] r
 e:∃a,Rw.fin a∈R
theorem ju{B:List Str}(c:Str)(v:Int):Gr B (.store c (.vl v)):=⟨fun b L=>(by cases L),fun i j q=>.inr (qa6.mp q)⟩
theorem xN{B:List Str}(v:Int):Gr B (.fin (.vl v)):=⟨fun b L=>(by cases L),fun i j q=>(by cases q)⟩
theorem zV{B:List Str}(x c:Str):Gr B (.load x c):=⟨fun b L=>(by cases L),fun i j q=>.inr (qa6.mp q)⟩
def Ep{B:List Str}:Gr B (.go 1):=⟨fun b L=>(by cases L),fun i j q=>.inl (qa6.mp q)⟩
theorem CN (Z:Option T) (P:Dt) (b0 b1 q:Str) (n:Int) (d0 d1 Y d3 d4 d5 O L d8:Nat) (f0 f1 f2 f3:List Rw) (nm:Str) (st:Int) (x9:Option T) (h:Hd) (h8:d8<2) (l0:f0.length<=1) (p0:∀ r∈f0,Pl r) :
  ∃(hs:List Hd)(R Fi:List Rw),RbG b0 b1 hs R Fi/\rbM (rb Z P b0 b1 q n [d0,d1,Y,d3,d4,d5,O,L,d8] f0 f1 f2 f3 nm st x9 [h] ([Rw.store nm (.vl O)]++f0++[Rw.fin (.vl L)]) [] none none none)=some (.nx (rb Z P b0 b1 q n [d0,d1,Y,d3,d4,d5,O,L,d8] f0 f1 f2 f3 nm st x9 hs R Fi none none none)):=by
 have:d8=0∨d8=1:=by lia
 rcases this with rfl|rfl
 .refine⟨[h],[Rw.store nm (.vl O)]++f0++[Rw.fin (.vl L)],[],⟨by simp,by simp;lia,by simp,fun r W=>?_,.vl L,by simp⟩,?_⟩
  .simp only[qd6,qa9,qh3,or_false]at W;rcases W with (rfl|W)|rfl
   .exact ju _ _
   .exact pS (p0 r W)
   .exact xN _
  .unfold rbM;rw[iP rfl];rfl
 .refine⟨[h,⟨q,st,false⟩],[Rw.store q (.vl O),Rw.fin (.vl L),Rw.store nm (.vl d5)]++f0++[Rw.load b1 q,Rw.go 1],[Rw.store q (.vl L)],⟨by simp,by simp;lia,by simp,fun r W=>?_,_,.tail _ (.head _)⟩,?_⟩
  .simp only[qd6,qa9,qh3,or_false]at W;rcases W with (((rfl|rfl|rfl)|W)|(rfl|rfl))|rfl
   .exact ju _ _
   .exact xN _
   .exact ju _ _
   .exact pS (p0 r W)
   .exact zV _ _
   .exact Ep
   .exact ju _ _
  .unfold rbM;rw[iO rfl];refine gk (d:=.tup ([h,⟨q,st,false⟩].map hdD)) (aB (t:=.leaf (.tup ([h,⟨q,st,false⟩].map hdD))) ((b9 (x:=.tup [hdD h]) (y:=.tup [hdD ⟨q,st,false⟩]) rfl (cG (ao (cG (ao rfl (ao rfl (ao rfl rfl))) (by simp)) rfl) (by simp))).trans (show mI (.tup [hdD h]) (.tup [hdD ⟨q,st,false⟩])=_ from Ca (l:=[hdD h]) (m:=[hdD ⟨q,st,false⟩]) ⟨small (by simp),by simp,by simp⟩))) ?_;show ar _ _ (rb Z P b0 b1 q n [d0,d1,Y,d3,d4,d5,O,L,1] f0 f1 f2 f3 nm st x9 [h,⟨q,st,false⟩] ([Rw.store nm (.vl O)]++f0++[Rw.fin (.vl L)]) [] none none none)=_;refine gk (d:=.lst (([Rw.store q (.vl O),Rw.fin (.vl L),Rw.store nm (.vl d5)]++f0).map Rw.d)) (dk (l:=[Rw.store q (.vl O),Rw.fin (.vl L),Rw.store nm (.vl d5)]) (m:=f0) (eI (ao (cG (ao rfl (ao rfl (ao rfl rfl))) (by simp)) (ao (cG (ao rfl (ao rfl rfl)) (by simp)) (ao (cG (ao rfl (ao rfl (ao rfl rfl))) (by simp)) rfl))) (by simp)) rfl (by simp;lia)) ?_;show ar _ _ (rb Z P b0 b1 q n [d0,d1,Y,d3,d4,d5,O,L,1] f0 f1 f2 f3 nm st x9 [h,⟨q,st,false⟩] ([Rw.store q (.vl O),Rw.fin (.vl L),Rw.store nm (.vl d5)]++f0) [] none none none)=_;refine gk (d:=.lst (([Rw.store q (.vl O),Rw.fin (.vl L),Rw.store nm (.vl d5)]++f0++[Rw.load b1 q,Rw.go 1]).map Rw.d)) (dk (l:=[Rw.store q (.vl O),Rw.fin (.vl L),Rw.store nm (.vl d5)]++f0) (m:=[Rw.load b1 q,Rw.go 1]) rfl (eI (ao (cG (ao rfl (ao rfl (ao rfl rfl))) (by simp)) (ao (cG (ao rfl (ao rfl rfl)) (by simp)) rfl)) (by simp)) (by simp;lia)) ?_;exact(aW (t:=.leaf (.lst ([Rw.store q (.vl L)].map Rw.d))) (di (eI (ao (cG (ao rfl (ao rfl (ao rfl rfl))) (by simp)) rfl) (by simp)))).trans rfl
theorem xO(n:Int)(b0 b1:Str)(d:List Nat)(hd:∀k,k<4->∃x,d[k]?=some x/\x<=1):∃f0 f1 f2 f3:List Rw,(∀f∈[f0,f1,f2,f3],f.length<=1/\∀r∈f,Pl r)/\cb (av 0) bN z13 [none,some (.leaf (.lst [.str b0,.str b1])),some (.leaf (.int n)),some (.leaf (.lst (d.map dI)))] ((qc7 4).map dI)=some [.lst (f0.map Rw.d),.lst (f1.map Rw.d),.lst (f2.map Rw.d),.lst (f3.map Rw.d)]:=by
 have one:∀k,k<4->∃f:List Rw,(f.length<=1/\∀r∈f,Pl r)/\z13 [some (.leaf (dI k)),some (.leaf (.lst [.str b0,.str b1])),some (.leaf (.int n)),some (.leaf (.lst (d.map dI)))]=some (.lst (f.map Rw.d)):=fun k hk=>by
  obtain⟨x,Y,hx1⟩:=hd k hk;obtain⟨rs,e,l,h⟩:=uR (n+31*(k:Int)) x b0 b1 (by lia);refine⟨rs,⟨by lia,h⟩,?_⟩;unfold z13;refine aB (t:=.lst (rs.map Rw.d)) ((ia (x:=.int (n+31*(k:Int))) (y:=dI x) (z:=.lst [.str b0,.str b1]) ?_ ?_ rfl).trans e)
  .unfold dI;walk_at "d"
  .exact aB (t:=.leaf (dI x)) ((b9 (x:=.lst (d.map dI)) (y:=dI k) rfl rfl).trans (by unfold dI;rw[hX,bJ,qb3,Y];rfl))
 obtain⟨f0,O,e0⟩:=one 0 (by decide);obtain⟨f1,p1,Z⟩:=one 1 (by decide);obtain⟨f2,p2,e2⟩:=one 2 (by decide);obtain⟨f3,W,L⟩:=one 3 (by decide);refine⟨f0,f1,f2,f3,fun f q=>?_,?_⟩
 .simp only[qa9,qh3,or_false]at q;rcases q with rfl|rfl|rfl|rfl
  .exact O
  .exact p1
  .exact p2
  .exact W
 .have st:∀(k:Nat)(y:Dt)(ds ys:List Dt),z13 [some (.leaf (dI k)),some (.leaf (.lst [.str b0,.str b1])),some (.leaf (.int n)),some (.leaf (.lst (d.map dI)))]=some y->cb (av 0) bN z13 [none,some (.leaf (.lst [.str b0,.str b1])),some (.leaf (.int n)),some (.leaf (.lst (d.map dI)))] ds=some ys->cb (av 0) bN z13 [none,some (.leaf (.lst [.str b0,.str b1])),some (.leaf (.int n)),some (.leaf (.lst (d.map dI)))] (dI k::ds)=some (y::ys):=fun k y ds ys h1 h2=>by unfold cb;rw[h2];show((z13 [some (.leaf (dI k)),some (.leaf (.lst [.str b0,.str b1])),some (.leaf (.int n)),some (.leaf (.lst (d.map dI)))]).bind _)=_;rw[h1];rfl
  exact st 0 _ _ _ e0 (st 1 _ _ _ Z (st 2 _ _ _ e2 (st 3 _ _ _ L rfl)))
theorem CO{fd:De->Option Dt}{d:Dt}(h1:fd δ=some d)(h2:bb d δ=some δ2):vM fd bb δ=some (.nx δ2):=by unfold vM;rw[h1,qa2,h2];rfl
def lV (c:Int) (h:Hd) (cs ss:List Hd) (J0:List Rw) (b0 b1 mo:Str) (hc:cs.length<=8) :
  ∃(Z:List Hd)(O:List Rw),z22 [.int c,pgD (h::cs) ss J0,.lst [.str b0,.str b1],.str mo]=some (.leaf (pgD Z ss O))/\Prg [b0,b1] O/\Z.length<=20:=by
 obtain⟨n,hn⟩:∃n,c*69621%1000000007=n:=⟨_,rfl⟩;obtain⟨D,eD,hD,hd⟩:=iq n [2,2,2,2,2,5,5,5,2] (by intro z hz;simp at hz;lia) (by decide);obtain⟨d0,d1,q,d3,d4,d5,Y,W,d8,rfl⟩:=nine hD
 obtain⟨f0,f1,f2,f3,hf,ef⟩:=xO n b0 b1 [d0,d1,q,d3,d4,d5,Y,W,d8] fun k hk=>by
  have:k=0∨k=1∨k=2∨k=3:=by lia
  rcases this with rfl|rfl|rfl|rfl
  .exact⟨d0,rfl,qt2 (hd 0 d0 2 rfl rfl)⟩
  .exact⟨d1,rfl,qt2 (hd 1 d1 2 rfl rfl)⟩
  .exact⟨q,rfl,qt2 (hd 2 q 2 rfl rfl)⟩
  .exact⟨d3,rfl,qt2 (hd 3 d3 2 rfl rfl)⟩
 have h4:d4<2:=hd 4 d4 2 rfl rfl;have h8:d8<2:=hd 8 d8 2 rfl rfl;obtain⟨l0,p0⟩:=hf f0 (.head _);obtain⟨l1,p1⟩:=hf f1 (.tail _ (.head _));obtain⟨l2,p2⟩:=hf f2 (.tail _ (.tail _ (.head _)));obtain⟨l3,p3⟩:=hf f3 (.tail _ (.tail _ (.tail _ (.head _))));obtain⟨hs,R,Fi,G,em⟩:=CN (some (.leaf (.int c))) (pgD (h::cs) ss J0) b0 b1 mo n d0 d1 q d3 d4 d5 Y W d8 f0 f1 f2 f3 h.x h.n (some (.leaf (.bl h.b))) ⟨h.x,h.n,decide (n%8=1)⟩ h8 l0 p0;obtain⟨Z,at',q1,q2,et⟩:=CM (some (.leaf (.int c))) h cs ss J0 b0 b1 mo n d0 d1 q d3 d4 d5 Y W d8 f0 f1 f2 f3 h.x h.n (some (.leaf (.bl h.b))) hs R Fi h4 hc G.h l1 l2 l3 G.r G.f;have gr:=G.r;have gf:=G.f
 have hR:∀r∈R++Fi++f1++f2++f3,Gr [b0,b1] r:=fun r L=>by
  simp only[qd6]at L;rcases L with (((L|L)|L)|L)|L
  .exact G.g r (qf6 _ L)
  .exact G.g r (qc3 _ L)
  .exact pS (p1 r L)
  .exact pS (p2 r L)
  .exact pS (p3 r L)
 have ll:=zU (b0:=b0) (b1:=b1) (nm:=h.x) (d5:=d5) (d8:=d8) (at':=at') (R:=R) (Fi:=Fi) (f1:=f1) (f2:=f2) (f3:=f3);refine⟨Z,rbR b0 b1 h.x d5 d8 at' R Fi f1 f2 f3++[Rw.go (1+R.length+Fi.length+2+f1.length)],?_,CK (by simp) (by lia) (k:=1+R.length+Fi.length+2+f1.length) (by lia) (CL (by lia) h8 q2 hR) ?_,q1⟩
 .unfold z22;refine dRt ?_;show ar _ _ [some (.leaf (.int c)),some (.leaf (pgD (h::cs) ss J0)),some (.leaf (.lst [.str b0,.str b1])),some (.leaf (.str mo)),none,none,none,none,none,none,none,none,none,none,none,none]=_;refine gk (d:=.int n) (by rw[<- hn];walk_at "d") ?_;refine gk (d:=.lst ([d0,d1,q,d3,d4,d5,Y,W,d8].map dI)) (aB (t:=.lst ([d0,d1,q,d3,d4,d5,Y,W,d8].map dI)) ((cx (x:=.int n) (y:=.lst ([2,2,2,2,2,5,5,5,2].map dI)) rfl rfl).trans eD)) ?_;refine gk (d:=.lst [.lst (f0.map Rw.d),.lst (f1.map Rw.d),.lst (f2.map Rw.d),.lst (f3.map Rw.d)]) (aB (t:=.lst [.lst (f0.map Rw.d),.lst (f1.map Rw.d),.lst (f2.map Rw.d),.lst (f3.map Rw.d)]) (gj (ds:=(qc7 4).map dI) rfl ef (by simp))) ?_;rw[aC (δ':=[some (.leaf (.int c)),some (.leaf (pgD (h::cs) ss J0)),some (.leaf (.lst [.str b0,.str b1])),some (.leaf (.str mo)),some (.leaf (.int n)),some (.leaf (.lst ([d0,d1,q,d3,d4,d5,Y,W,d8].map dI))),some (.leaf (.lst [.lst (f0.map Rw.d),.lst (f1.map Rw.d),.lst (f2.map Rw.d),.lst (f3.map Rw.d)])),some (.leaf (.str h.x)),some (.leaf (.int h.n)),some (.leaf (.bl h.b)),none,none,none,none,none,none]) (CO (d:=hdD h) (aB (t:=.leaf (hdD h)) ((b9 (x:=.tup ((h::cs).map hdD)) (y:=.int ((0:Nat):Int)) (aB (t:=.leaf (.tup ((h::cs).map hdD))) ((b9 (x:=pgD (h::cs) ss J0) (y:=.int 0) rfl rfl).trans rfl)) rfl).trans (by rw[xb,bJ];rfl))) rfl)];refine gk (d:=.tup ([Hd.mk h.x h.n (decide (n%8=1))].map hdD)) (cG (ao (cG (ao rfl (ao rfl (ao (d:=.bl (decide (n%8=1))) (by walk_at "d") rfl))) (by simp)) rfl) (by simp)) ?_;refine gk (d:=.lst (([Rw.store h.x (.vl Y)]++f0++[Rw.fin (.vl W)]).map Rw.d)) (dk (dk (l:=[Rw.store h.x (.vl Y)]) (m:=f0) (eI (ao (cG (ao rfl (ao rfl (ao rfl rfl))) (by simp)) rfl) (by simp)) rfl (by simp;lia)) (m:=[Rw.fin (.vl W)]) (eI (ao (cG (ao rfl (ao rfl rfl)) (by simp)) rfl) (by simp)) (by simp;lia)) ?_;refine gk (d:=.lst (([]:List Rw).map Rw.d)) rfl ?_;show ar rbM rbT (rb (some (.leaf (.int c))) (pgD (h::cs) ss J0) b0 b1 mo n [d0,d1,q,d3,d4,d5,Y,W,d8] f0 f1 f2 f3 h.x h.n (some (.leaf (.bl h.b))) [⟨h.x,h.n,decide (n%8=1)⟩] ([Rw.store h.x (.vl Y)]++f0++[Rw.fin (.vl W)]) [] none none none)=_;rw[aC em];exact et
 .obtain⟨a,ha⟩:=G.e;obtain⟨i,hi⟩:=qj9 (show Rw.fin a∈rbR b0 b1 h.x d5 d8 at' R Fi f1 f2 f3 by unfold rbR;simp[ha]);exact⟨i,a,hi⟩
def jv(kept:List Nat)(J0:List Rw):List Dt:=J0.mapIdx fun k r=>.lst (((r.outs k).filter fun w=>!decide (w∈kept)).map dI)
theorem y144(kept outs:List Nat)(L:outs.length<=10):y65 [some (.leaf (.tup (outs.map dI))),some (.leaf (.lst (kept.map dI)))]=some (.lst ((outs.filter fun w=>!decide (w∈kept)).map dI)):=by
 unfold y65;walk_at "k"
 rw[cP (h:=dI) (p:=fun w=>!decide (w∈kept)) fun w q=>⟨_,rfl,by unfold z98;walk_at "k";rw[fJ];rfl,fun _=>rfl⟩]
 walk_at "k";rw[cO (by rw[qa1];exact qb5 (qd7 _ _) (by lia))];walk_at "k"
theorem xP(c s b:Dt)(J0:List Rw)(ks:List (Nat×List Str))(h:J0.length<=1000)(hk:ks.length<=1000):q26 [.tup [c,s,dR J0],.tup [b,.tup (ks.map kpD)]]=some (.lst (jv (ks.map (·.1)) J0)):=by unfold q26;walk_at "k";rw[jq b ks hk];walk_at "k";rw[jp c s J0 h];walk_at "k";unfold jv;rw[qy0,qy0,ci (h:=fun p:Rw×Nat=>Dt.lst (((p.1.outs p.2).filter fun w=>!decide (w∈ks.map (·.1))).map dI)) fun p hp=>⟨_,rfl,rfl,y144 _ _ (qb5 (Rw.outs_len _ _) (by decide))⟩];walk_at "k";rw[cO (by rw[qa1,List.length_zipIdx];lia)];walk_at "k"
def ms:Mrk->Str
 |.fresh=>"fresh"|.seen=>"seen"|.safe=>"safe"|.spoilt=>"spoilt"
theorem oB:∀{a b:Mrk},ms a=ms b->a=b:=fun {a b} h=>by cases a<;>cases b<;>first|rfl|(exfalso;revert h;unfold ms;decide +kernel)
theorem Er(a b:Mrk):decide (ms a=ms b)=decide (a=b):=by rw[decide_eq_decide];exact⟨oB,fun h=>by rw[h]⟩
theorem Es(r:Rw)(nm:Str)(x:Option T):tB2 (cB false) (toD (d2 au (vB 1) (kD (.int 0)))) (toD (aT (aa (kD (.str "load")) (aa (kD (.str "take")) ak)))) [x,some (.leaf r.d),some (.leaf (.str nm))]=some (match r with|.load _ _=>true|.take _ _ _=>true|_=>false):=by cases r<;>simp only[Rw.d]<;>walk_at "k"
theorem Et(r:Rw)(nm:Str)(x:Option T):tB2 (cB false) (toD (d2 au (vB 1) (kD (.int 0)))) (toD (aT (aa (kD (.str "store")) (aa (kD (.str "lay")) ak)))) [x,some (.leaf r.d),some (.leaf (.str nm))]=some (match r with|.store _ _=>true|.lay _ _ _=>true|_=>false):=by cases r<;>simp only[Rw.d]<;>walk_at "k"
theorem Eu(r:Rw)(nm:Str)(x:Option T):tB2 (gEq false) (toD (d2 au (vB 1) (kD (.int 0)))) (kD (.str "store")) [x,some (.leaf r.d),some (.leaf (.str nm))]=some (match r with|.store _ _=>true|_=>false):=by cases r<;>simp only[Rw.d]<;>walk_at "k"
theorem oC(a b:Mrk)(x y:Option T):tB2 (gEq false) (vB 0) (kD (.str (ms b))) [some (.leaf (.str (ms a))),x,y]=some (decide (a=b)):=by rw[<- Er];rfl
theorem sV(m:Mrk)(r:Rw)(nm:Str):y34 [.str (ms m),r.d,.str nm]=some (.leaf (.str (ms (mb m r nm)))):=by
 have q:fG (tB2 (gEq false) (vB 0) (kD fA)) (fG (tB2 (cB false) (toD (d2 au (vB 1) (kD (.int 0)))) (toD (aT (aa (kD (.str "load")) (aa (kD (.str "take")) ak))))) (tB2 (gEq false) (toD (d2 au (vB 1) (kD (.int 2)))) (vB 2))) [some (.leaf (.str (ms m))),some (.leaf r.d),some (.leaf (.str nm))]=some (decide (m=.fresh)&&r.gets nm):=by
  rw[jU,show tB2 (gEq false) (vB 0) (kD fA) [some (.leaf (.str (ms m))),some (.leaf r.d),some (.leaf (.str nm))]=_ from oC m .fresh _ _];cases decide (m=.fresh)
  .rfl
  .rw[ii,jU,Es];cases r<;>rfl
 have L:fG (tB2 (gEq false) (vB 0) (kD fA)) (fG (tB2 (gEq false) (toD (d2 au (vB 1) (kD (.int 0)))) (kD (.str "store"))) (tB2 (gEq false) (toD (d2 au (vB 1) (kD (.int 1)))) (vB 2))) [some (.leaf (.str (ms m))),some (.leaf r.d),some (.leaf (.str nm))]=some (decide (m=.fresh)&&r.stores nm):=by
  rw[jU,show tB2 (gEq false) (vB 0) (kD fA) [some (.leaf (.str (ms m))),some (.leaf r.d),some (.leaf (.str nm))]=_ from oC m .fresh _ _];cases decide (m=.fresh)
  .rfl
  .rw[ii,jU,Eu];cases r<;>rfl
 have O:fG (tB2 (gEq false) (vB 0) (kD lD)) (fG (tB2 (cB false) (toD (d2 au (vB 1) (kD (.int 0)))) (toD (aT (aa (kD (.str "store")) (aa (kD (.str "lay")) ak))))) (tB2 (gEq false) (toD (d2 au (vB 1) (kD (.int 1)))) (vB 2))) [some (.leaf (.str (ms m))),some (.leaf r.d),some (.leaf (.str nm))]=some (decide (m=.seen)&&r.puts nm):=by
  rw[jU,show tB2 (gEq false) (vB 0) (kD lD) [some (.leaf (.str (ms m))),some (.leaf r.d),some (.leaf (.str nm))]=_ from oC m .seen _ _];cases decide (m=.seen)
  .rfl
  .rw[ii,jU,Et];cases r<;>rfl
 unfold y34;rw[jT];show lH (ar _ _ [some (.leaf (.str (ms m))),some (.leaf r.d),some (.leaf (.str nm))])=_;rw[b8,kf,q];cases h1:(decide (m=.fresh)&&r.gets nm)with
 |true=>
  have:m=.fresh/\r.gets nm=true:=by simpa using h1
  rw[this.1];simp only[mb,this.2,if_true];rfl
 |false=>
  rw[ij,bV,cF,b8,kf,L];cases h2:(decide (m=.fresh)&&r.stores nm)with
  |true=>
   have:m=.fresh/\r.stores nm=true:=by simpa using h2
   rw[this.1]at h1 ⊢;simp only[decide_true,qj3]at h1;simp only[mb,this.2,h1,if_true,qe7,if_false];rfl
  |false=>
   rw[ij,bV,cF,b8,kf,O];cases h3:(decide (m=.seen)&&r.puts nm)with
   |true=>
    have:m=.seen/\r.puts nm=true:=by simpa using h3
    rw[this.1];simp only[mb,this.2,if_true];rfl
   |false=>
    rw[ij,bV,cF];cases m with
    |fresh=>simp only[decide_true,qj3]at h1 h2;simp only[mb,h1,h2,qe7,if_false];rfl
    |seen=>simp only[decide_true,qj3]at h3;simp only[mb,h3,qe7,if_false];rfl
    |safe=>rfl
    |spoilt=>rfl
def eZ(t:Nat×Mrk):Dt:=.tup [dI t.1,.str (ms t.2)]
theorem kK(h:J0[i]?=some r):au (dR J0) (dI i)=some (.leaf r.d):=by unfold dR dI;rw[xb,bJ,qb3,h];rfl
theorem CP{kept:List Nat}(h:J0[i]?=some r):au (.lst (jv kept J0)) (dI i)=some (.leaf (.lst (((r.outs i).filter fun w=>!decide (w∈kept)).map dI))):=by unfold jv dI;rw[hX,bJ,List.getElem?_mapIdx,h];rfl
def sW(t:Nat×Mrk):au (eZ t) (.int 0)=some (.leaf (dI t.1)):=by unfold eZ;walk_at "k"
def A0(t:Nat×Mrk):au (eZ t) (.int 1)=some (.leaf (.str (ms t.2))):=by unfold eZ;walk_at "k"
theorem Ev{a b:Mrk}:decide (ms a=ms b)=decide (a=b):=by rw[decide_eq_decide];exact⟨oB,fun h=>by rw[h]⟩
theorem uS{nm:Str}{t:Nat×Mrk}(h:t.1<J0.length):iw 3 cJ [.str nm,dR J0] [eZ t]=some (.leaf (.bl (qL J0 nm t))):=by
 have q:J0[t.1]?=some J0[t.1]:=gQ h;unfold iw
 show(match cJ [some (.leaf (eZ t)),some (.leaf (.str nm)),some (.leaf (dR J0))]with
  |some (.rt t)=>some t|some (.nx _)=>some (.leaf .non)|_=>none)=_
 have e:cJ [some (.leaf (eZ t)),some (.leaf (.str nm)),some (.leaf (dR J0))]=some (.rt (.leaf (.bl (qL J0 nm t)))):=by unfold cJ;walk_at "k";rw[A0,sW];walk_at "k";rw[kK q];walk_at "k";rw[sV];unfold jn;walk_at "k";unfold qL;simp only[q];rw[<- Ev];rfl
 rw[e]
theorem zW{kept:List Nat}{nm:Str}{t:Nat×Mrk}(h:t.1<J0.length):iw 5 cI [.str nm,dR J0,.lst (jv kept J0)] [eZ t]=some (.lst ((oj J0 kept nm t).map eZ)):=by
 have q:J0[t.1]?=some J0[t.1]:=gQ h;unfold iw
 show(match cI [some (.leaf (eZ t)),none,some (.leaf (.str nm)),some (.leaf (dR J0)),some (.leaf (.lst (jv kept J0)))]with
  |some (.rt t)=>some t|some (.nx _)=>some (.leaf .non)|_=>none)=_
 have e:cI [some (.leaf (eZ t)),none,some (.leaf (.str nm)),some (.leaf (dR J0)),some (.leaf (.lst (jv kept J0)))]=some (.rt (.lst ((oj J0 kept nm t).map eZ))):=by
  unfold cI;walk_at "k";rw[A0,sW];walk_at "k";rw[kK q];walk_at "k";rw[sV];unfold nZ;walk_at "k";unfold oj;simp only[q];generalize L:mb t.2 J0[t.1] nm=m;by_cases e:m=.safe
  .rw[gA (by simp[e,ms]),if_pos e];walk_at "k"
  .rw[gB (by simp only[decide_eq_false_iff_not];exact fun z=>e (oB (b:=.safe) z)),if_neg e];walk_at "k";rw[sW];walk_at "k";rw[CP q];walk_at "k";rw[ci (h:=fun w:Nat=>eZ (w,m)) fun w _=>⟨_,rfl,rfl,by unfold y77 eZ;walk_at "k"⟩];walk_at "k";rw[cO (by rw[qa1];exact qb5 (qd7 _ _) (qb5 (Rw.outs_len _ _) (by decide))),qc4];walk_at "k";rfl
 rw[e]
def ky(t:Nat×Mrk):Int×Str:=((t.1:Int),ms t.2)
theorem CQ(a b:Nat×Mrk)(h:ky a=ky b):a=b:=by unfold ky at h;simp only[Prod.mk.injEq]at h;exact Prod.ext (by lia) (oB h.2)
def Un(n:Nat):List (Nat×Mrk):=(qc7 n).flatMap fun k=>[(k,.fresh),(k,.seen),(k,.safe),(k,.spoilt)]
def mem_Un{t:Nat×Mrk}:t∈Un n↔t.1<n:=by
 unfold Un;rw[List.mem_flatMap];constructor
 .rintro⟨k,hk,h⟩;have hk:=qe1.mp hk;simp at h;rcases h with rfl|rfl|rfl|rfl<;>exact hk
 .intro h;refine⟨t.1,qe1.mpr h,?_⟩;obtain⟨k,m⟩:=t;cases m<;>simp
def CS(n:Nat):(Un n).length=4*n:=by
 unfold Un;induction n with
 |zero=>rfl
 |succ n q=>rw[List.range_succ,List.flatMap_append,qb7,q];simp;lia
def kps(kp:List (Nat×List Str)):List Nat:=kp.map (·.1)
def plain(cs ss:List Hd):List Str:=((cs++ss).filter fun h=>!h.b).map (·.x)
def sl8(P C:Dt)(nm:Str)(x3 x4 q:Option T):De:=[some (.leaf P),some (.leaf C),some (.leaf (.str nm)),x3,x4,none,none,q]
def endS:Option (List (Nat×Mrk))->T
 |none=>.leaf .non
 |some q=>.lst ((q.reverse.map (·.1)).map dI)
theorem qX {b:Dt} {kp:List (Nat×List Str)} {nm:Str} (hl:cs.length+ss.length<=1000) (h:nm∈plain cs ss) (hr:J0.length<=1000) (Z:0<J0.length) (hk:kp.length<=1000) (Y:∀ k∈kps kp,k<J0.length) (hO:∀ (k:Nat) (r:Rw) (w:Nat),J0[k]?=some r->w∈r.outs k->w<J0.length) :
  ∃r:Option (List (Nat×Mrk)),z56 [pgD cs ss J0,kcD b kp,.str nm]=some (endS r)∧(r=none->∀t,Rch (oj J0 (kps kp) nm) (gF (kps kp)) t->qL J0 nm t=false)/\∀q,r=some q->q.length<=10000/\∃t,Wy (oj J0 (kps kp) nm) (qL J0 nm) (gF (kps kp)) t q/\qL J0 nm t=true:=by
 obtain⟨r,h1,h2,h3⟩:=xp (ky:=ky) CQ (U:=Un J0.length) (J4:=gF (kps kp)) (beh:=oj J0 (kps kp) nm) (fit:=qL J0 nm)
  (fun t L u hu=>by obtain⟨r,e,_,g,_⟩:=CC hu;exact mem_Un.mpr (hO _ r _ e g))
  (by rw[CS];lia)
  (fun t L=>by
   unfold oj;split
   .simp
   .split
    .simp
    .rw[qa1];exact qb5 (qd7 _ _) (qb5 (Rw.outs_len _ _) (by decide)))
  (fun t L=>by
   obtain⟨k,O,rfl⟩:=qd2.mp L;refine mem_Un.mpr ?_;rcases qa9.mp O with rfl|z
   .exact Z
   .exact Y k z)
  (by unfold gF kps;simp;lia)
 refine⟨r,?_,h2,fun q z=>⟨qb5 (h3 q z).1 (by decide),(h3 q z).2⟩⟩;have W:∀q,r=some q->q.length<=10000:=fun q z=>qb5 (h3 q z).1 (by decide)
 unfold z56;refine il ?_;show ar _ _ (sl8 (pgD cs ss J0) (kcD b kp) nm none none none)=_
 have t1:tB2 (cB true) (vB 2) (toD (am q15 (aa (vL 0) ak))) (sl8 (pgD cs ss J0) (kcD b kp) nm none none none)=some false:=by unfold sl8;walk_at "k";rw[lT cs ss _ hl];walk_at "k";rw[gIn_strs];simp only[if_true];rw[show(((cs++ss).filter fun h=>!h.b).map (·.x))=plain cs ss from rfl,decide_eq_true h];rfl
 have t3:aA 4 (toT (toD (am q26 (aa (vL 0) (aa (vL 1) ak))))) (sl8 (pgD cs ss J0) (kcD b kp) nm (some (.leaf (dR J0))) none none)=some (.nx (sl8 (pgD cs ss J0) (kcD b kp) nm (some (.leaf (dR J0))) (some (.leaf (.lst (jv (kps kp) J0)))) none)):=by refine(aW (t:=.leaf (.lst (jv (kps kp) J0))) ?_).trans rfl;show(((q26 [pgD cs ss J0,kcD b kp]).bind T.d).map T.leaf)=_;show(((q26 [pcD _ _ J0,kcD b kp]).bind T.d).map T.leaf)=_;rw[xP _ _ _ J0 kp hr hk];rfl
 rw[aC (by rw[iP t1];rfl),aC (δ':=sl8 (pgD cs ss J0) (kcD b kp) nm (some (.leaf (dR J0))) none none) (aW rfl),aC t3];show ar _ _ (sl8 (pgD cs ss J0) (kcD b kp) nm (some (.leaf (dR J0))) (some (.leaf (.lst (jv (kps kp) J0)))) none)=_
 have f0:z81 (sl8 (pgD cs ss J0) (kcD b kp) nm (some (.leaf (dR J0))) (some (.leaf (.lst (jv (kps kp) J0)))) none)=some (.lst ((gF (kps kp)).map (nD ky))):=by unfold z81 sl8;walk_at "k";rw[jq b kp hk];walk_at "k";rw[w4 (small (by simp;lia))];walk_at "k";rw[show(Dt.int 0::(kp.map (fun x=>x.1)).map dI)=(0::kps kp).map dI from rfl,ci (h:=fun k:Nat=>eZ (k,.fresh)) fun k _=>⟨_,rfl,rfl,by unfold q119 eZ fA;walk_at "k";rfl⟩];walk_at "k";rw[cO (by unfold kps;simp;lia)];unfold gF;rw[qc4];rfl
 have fr:fRt [2,3,4] [2,3] ["place","mark","name","rows","inner"] ["place","name","rows"] cI cJ z81 q80 (sl8 (pgD cs ss J0) (kcD b kp) nm (some (.leaf (dR J0))) (some (.leaf (.lst (jv (kps kp) J0)))) none)=some (resR ky r):=by
  refine wc (d0:=.lst ((gF (kps kp)).map (nD ky))) (a:=[.str nm,dR J0,.lst (jv (kps kp) J0)]) (b:=[.str nm,dR J0]) f0 rfl rfl fun f1 f2 F0 hne=>?_
  refine h1 _ f1 f2 F0 (fun t L=>?_) fun t L=>?_
  .rw[v9];exact zW (mem_Un.mp L)
  .rw[wa hne];exact uS (mem_Un.mp L)
 rw[aC (aW fr)];cases r with
 |none=>rfl
 |some q=>
  have hwl:q.length<=10000:=W q rfl;show bw _ [some (.leaf (pgD cs ss J0)),some (.leaf (kcD b kp)),some (.leaf (.str nm)),some (.leaf (dR J0)),some (.leaf (.lst (jv (kps kp) J0))),none,none,some (.lst (q.reverse.map (nD ky)))]=_;walk_at "k"
  rw[ci (h:=fun t:Nat×Mrk=>dI t.1) fun t _=>⟨[some (.leaf (eZ t))],rfl,rfl,by unfold y123;walk_at "k";rw[sW];rfl⟩]
  walk_at "k";rw[cO (by rw[qa1,List.length_reverse];lia)];show some (Out.rt (.lst (q.reverse.map fun t=>dI t.1)))=some (Out.rt (.lst ((q.reverse.map (·.1)).map dI)));rw[qc4];rfl
def kI(j:Nat):Key:=.inl (j:Int)
def qY(z:kI a=kI j):a=j:=by unfold kI at z;have:=qx6.inj z;lia
def pD:Option Nat->Dt
 |none=>.non
 |some h=>dI h
def cfT(cf:CF Nat):T:=.dct (cf.map fun p=>(kI p.1,pD p.2))
def cfD(cf:CF Nat):Dt:=.dct (cf.map fun p=>kI p.1) (cf.map fun p=>pD p.2)
def m8(cf:CF Nat):(cfT cf).d=some (cfD cf):=by unfold cfT T.d;dsimp only;rw[qc4,qc4];rfl
theorem gG(t:Nat):∀cf:CF Nat,dn (cf.map fun p=>kI p.1) (cf.map fun p=>pD p.2) (kI t)=(look cf t).map pD
 |[]=>rfl
 |p::cf=>by
  simp only[qa5,dn];unfold look;by_cases h:p.1=t
  .rw[if_pos (by rw[h]),zc6 (by simpa using h)];rfl
  .rw[if_neg fun z=>h (qY z),qs4 (by simpa using h),gG t cf];rfl
theorem xk(cf:CF Nat)(t:Nat){q:Option Nat}(h:look cf t=some q):au (cfD cf) (dI t)=some (.leaf (pD q)):=by show(dn (cf.map fun p=>kI p.1) (cf.map fun p=>pD p.2) (kI t)).map T.leaf=_;rw[gG,h];rfl
theorem xl(cf:CF Nat)(t:Nat):(look cf t).isSome=decide (t∈ks cf):=by unfold look ks;rw[qk7,qi4,List.find?_isSome];simp
theorem Ew(cf:CF Nat)(t:Nat):cB true (dI t) (cfD cf)=some (.leaf (.bl (!decide (t∈ks cf)))):=by show some (T.leaf (.bl (!(dn (cf.map fun p=>kI p.1) (cf.map fun p=>pD p.2) (kI t)).isSome)))=_;rw[gG,qk7,xl]
def sT(cf:CF Nat)(q:Dt)(J5:List Nat)(h:Dt):De:=[some (.leaf (cfD cf)),some (.leaf q),some (.lst (J5.map dI)),some (.leaf h)]
variable{cf:CF Nat}
theorem oo {W:Dt}:∀ {t:Nat} {L:List Nat},Tr cf t L->∀ (n:Nat) (J5:List Nat),L.length<n->J5.length+L.length<100000→
  bt z121 z78 n (sT cf W J5 (dI t))=some (.nx (sT cf W (J5++L) .non)):=by
 intro t L tr
 have one:∀(t:Nat)(J5:List Nat)(q:Option Nat),look cf t=some q->J5.length<100000->z78 (sT cf W J5 (dI t))=some (.nx (sT cf W (J5++[t]) (pD q))):=by
  intro t J5 q hq O;unfold z78
  rw[aC (iQ (l:=J5.map dI) (d:=dI t) rfl rfl (by rw[qa1];lia)),aW (t:=.leaf (pD q)) (by show((au (cfD cf) (dI t)).bind T.d).map T.leaf=_;rw[xk cf t hq];rfl)]
  unfold sT;rw[qe9];rfl
 induction tr with
 |@one t h=>intro n J5 Y O;obtain⟨n,rfl⟩:∃m,n=m+2:=⟨n-2,by simp at Y;lia⟩;rw[gC rfl (one t J5 none h (by lia))];exact kG rfl
 |@more t p r h r' Z=>intro n J5 Y O;obtain⟨n,rfl⟩:∃m,n=m+1:=⟨n-1,by lia⟩;rw[gC rfl (one t J5 (some p) h (by simp at O;lia))];have:=Z n (J5++[t]) (by simp at Y;lia) (by simp at O ⊢;lia);rw[show pD (some p)=dI p from rfl,this,qj1];rfl
theorem jV{t:Nat}{q:List Nat}(L:Tr cf t q)(O:q.length<10000):y56 [cfD cf,dI t]=some (.lst (q.reverse.map dI)):=by unfold y56;refine il ?_;show ar _ _ [some (.leaf (cfD cf)),some (.leaf (dI t)),none,none]=_;rw[aC (aW (t:=.lst []) (by rw[lI];show((some []).bind mkL)=_;rw[qa2,cO (by simp)])),aC (δ':=sT cf (dI t) [] (dI t)) (aW rfl),aC (oo L 100000 [] (by lia) (by simp;lia)),qs2];show some (Out.rt (.lst (q.map dI).reverse))=_;rw[List.map_reverse]
variable{f1 f2:J9}{F0:Hp}{G:Orc}
def sR(st:Dt)(f1 f2:J9)(F0:Hp)(cf:CF Nat)(x4 x6 q x8:Option T):De:=[some (.leaf st),some (.fn f1 F0),some (.fn f2 F0),some (cfT cf),x4,some (.lst ((ks cf).map dI)),x6,q,x8]
theorem im(t:Nat)(q:Option Nat):∀{cf:CF Nat},t∉ks cf->iJ (cf.map fun p=>(kI p.1,pD p.2)) (kI t) (pD q)=(cf++[(t,q)]).map fun p=>(kI p.1,pD p.2)
 |[],_=>rfl
 |p::cf,h=>by have h:t∉p.1::ks cf:=h;rw[qa5,iJ,if_neg fun z=>h (by rw[qY z];exact .head _),im t q fun z=>h (.tail _ z)];rfl
def sB(h:(ks cf).Nodup):((cf.map fun p=>(kI p.1,pD p.2)).map (·.1)).Nodup:=by
 have:((ks cf).map kI).Nodup:=by rw[qw8,qz4];exact qs9 (fun {a b}(z:a≠b) e=>z (qY e)) h
 rw[qc4];unfold ks at this;rw[qc4]at this;exact this
def fT(cf:CF Nat):(ks cf).length=cf.length:=qa1 ..
variable{st:Dt}{x4 x6:Option T}
def xm {t:Nat} (O:(ks cf).Nodup) (W:cf.length<100000) :
  z73 G (sR st f1 f2 F0 cf x4 x6 (some (.leaf (dI h))) (some (.leaf (dI t))))=some (.nx (sR st f1 f2 F0 (fL h cf t) x4 x6 (some (.leaf (dI h))) (some (.leaf (dI t))))):=by
 have L:tB2 (cB true) (vB 8) (vB 3) (sR st f1 f2 F0 cf x4 x6 (some (.leaf (dI h))) (some (.leaf (dI t))))=some (!decide (t∈ks cf)):=ib (x:=dI t) rfl (m8 cf) (Ew cf t);unfold z73;by_cases q:t∈ks cf
 .rw[decide_eq_true q]at L;rw[iP L,show fL h cf t=cf from if_pos q];rfl
 .rw[decide_eq_false q]at L;rw[iO L,show fL h cf t=cf++[(t,some h)]from if_neg q,aC (AX (i:=3) (kd:=dI t) (k:=kI t) (d:=pD (some h)) (l:=cf.map fun p=>(kI p.1,pD p.2)) rfl rfl rfl rfl (by rw[qa1];lia) (sB O)),im t (some h) q];refine(iQ (i:=5) (l:=(ks cf).map dI) (d:=dI t) rfl rfl (by rw[qa1,fT];lia)).trans ?_;unfold sR;rw[fI,qe9 (f:=dI)];rfl
theorem oq{t:Nat}(q:(ks cf).Nodup):(ks (fL h cf t)).Nodup:=by obtain⟨_,_,_,h3,_⟩:=cZ h [t] cf;exact h3 q
def lN(h t:Nat)(cf:CF Nat):(fL h cf t).length<=cf.length+1:=by unfold fL;split<;>simp
def pJ:∀ (ts:List Nat) (cf:CF Nat) (x8:Option T),(ks cf).Nodup->cf.length+ts.length<100000→
  ∃q,cA (av 8) (z73 G) (ts.map dI) (sR st f1 f2 F0 cf x4 x6 (some (.leaf (dI h))) x8)=some (.nx (sR st f1 f2 F0 (cQ h cf ts) x4 x6 (some (.leaf (dI h))) q))
 |[],cf,x8,_,_=>⟨x8,rfl⟩
 |t::ts,cf,x8,L,O=>by rw[qc2]at O;obtain⟨q,e⟩:=pJ ts (fL h cf t) (some (.leaf (dI t))) (oq L) (by have:=lN h t cf;lia);refine⟨q,?_⟩;rw[qa5,bo rfl (xm L (by lia))];exact e
noncomputable def bfI(beh:Nat->List Nat)(fit:Nat->Bool):Nat->CF Nat->Nat->Option (Nat×CF Nat)
 |0,_,_=>none
 |n+1,cf,k=>match cf[k]? with
  |none=>none
  |some (h,_)=>if fit h then some (h,cf)else bfI beh fit n (cQ h cf (beh h)) (k+1)
variable{beh:Nat->List Nat}{fit:Nat->Bool}{U:List Nat}
theorem pT {J4:List Nat} (W:∀ t∈U,∀ u∈beh t,u∈U) (Z:∃ t,Rch beh J4 t/\fit t=true):∀ (n:Nat) (cf:CF Nat) (k:Nat),BI beh fit J4 cf k->(∀ t∈ks cf,t∈U)->k<=cf.length->U.length<n+k→
  ∃h L k',bfI beh fit n cf k=some (h,L)/\BI beh fit J4 L k'/\(∀t∈ks L,t∈U)/\fit h=true/\h∈ks L
 |0,cf,k,B,O,hk,hn=>by have:=bY B.nd O;rw[fT]at this;lia
 |n+1,cf,k,B,O,hk,hn=>by
  unfold bfI;cases q:cf[k]? with
  |none=>
   have:=qg7.mp q;have e:k=cf.length:=by lia
   subst e;obtain⟨t,h1,h2⟩:=Z;rw[B.none h1]at h2;cases h2
  |some x=>
   obtain⟨h,p⟩:=x;dsimp only;cases Y:fit h with
   |true=>exact⟨h,cf,k,rfl,B,O,Y,eG q⟩
   |false=>have hk':=(gX q).1;obtain⟨e,h1,_⟩:=cZ h (beh h) cf;exact pT W Z n _ (k+1) (B.step q Y) (gE O (W h (O h (eG q)))) (by rw[h1,qb7];lia) (by lia)
theorem A1 {st:Dt} {x4:Option T} (hU:∀ t∈U,∀ u∈beh t,u∈U) (hUl:U.length<=10000) (hbl:∀ t∈U,(beh t).length<=1000) (h1:∀ t∈U,((G f1 F0 [dI t]).bind T.d).bind itD=some ((beh t).map dI)) (h2:∀ t∈U,G f2 F0 [dI t]=some (.leaf (.bl (fit t)))) :
  ∀(n:Nat)(cf:CF Nat)(k:Nat)(Z x8:Option T)(h:Nat)(W:CF Nat),(ks cf).Nodup->(∀t∈ks cf,t∈U)->bfI beh fit n cf k=some (h,W)→
   ∀c,y56 [cfD W,dI h]=some c->bt (B8 G) (q71 G) n (sR st f1 f2 F0 cf x4 (some (.leaf (.int k))) Z x8)=some (.rt c)
 |0,cf,k,Z,x8,h,W,nd,hc,L=>by cases L
 |n+1,cf,k,Z,x8,h',W,nd,hc,L=>by
  intro c ht
  have hcl:cf.length<=10000:=by have:=bY nd hc;rw[fT]at this;lia
  have O:B8 G (sR st f1 f2 F0 cf x4 (some (.leaf (.int k))) Z x8)=some (decide ((k:Int)<cf.length)):=by refine ib (x:=.int k) rfl (y:=.int (cf.length:Nat)) ?_ rfl;show some (Dt.int (((ks cf).map dI).length:Nat))=_;rw[qa1,fT]
  unfold bfI at L;cases q:cf[k]? with
  |none=>rw[q]at L;cases L
  |some x=>
   obtain⟨h,pq⟩:=x;rw[q]at L;dsimp only at L;have hkl:=(gX q).1;have Y:h∈U:=hc h (eG q);rw[decide_eq_true (by lia)]at O
   have s1:aA 7 (toT (toD (d2 au (vB 5) (vB 6)))) (sR st f1 f2 F0 cf x4 (some (.leaf (.int k))) Z x8)=some (.nx (sR st f1 f2 F0 cf x4 (some (.leaf (.int k))) (some (.leaf (dI h))) x8)):=by
    refine(aW (t:=.leaf (dI h)) ?_).trans rfl;show((au (.lst ((ks cf).map dI)) (.int k)).bind T.d).map T.leaf=_;rw[hX,bJ,qb3];have:(ks cf)[k]?=some h:=by unfold ks;rw[qb3,q];rfl
    rw[this];rfl
   have s2:o4 (fun i j=>i+j) 6 (kD (.int 1)) (sR st f1 f2 F0 cf x4 (some (.leaf (.int k))) (some (.leaf (dI h))) x8)=some (.nx (sR st f1 f2 F0 cf x4 (some (.leaf (.int ((k+1:Nat):Int)))) (some (.leaf (dI h))) x8)):=by show some (Out.nx _)=some (Out.nx _);rw[show((k+1:Nat):Int)=(k:Int)+1 by lia];rfl
   have tf:e7 (toD (vCl G 2 (aa (vL 7) ak))) (sR st f1 f2 F0 cf x4 (some (.leaf (.int ((k+1:Nat):Int)))) (some (.leaf (dI h))) x8)=some (fit h):=by show(((G f2 F0 [dI h]).bind T.d).bind tZ)=_;rw[h2 h Y];rfl
   cases hf:fit h with
   |true=>rw[hf]at L tf;cases L;refine pG O ?_;unfold q71;rw[aC s1,aC s2];refine n5 ?_;rw[iO tf];show((cfT cf).d.bind fun d=>bw (am y56 (aa (vL 3) (aa (vL 7) ak))) ((sR st f1 f2 F0 cf x4 (some (.leaf (.int ((k+1:Nat):Int)))) (some (.leaf (dI h'))) x8).set 3 (some (.leaf d))))=_;rw[m8,qa2];exact dX ht
   |false=>
    rw[hf]at L tf;simp only[qe7,if_false]at L;obtain⟨e,p1,p2,p3,p4⟩:=cZ h (beh h) cf;obtain⟨y8,hpE⟩:=pJ (G:=G) (st:=st) (f1:=f1) (f2:=f2) (F0:=F0) (x4:=x4) (x6:=some (.leaf (.int ((k+1:Nat):Int)))) (h:=h) (beh h) cf x8 nd (by have:=hbl h Y;lia)
    have body:q71 G (sR st f1 f2 F0 cf x4 (some (.leaf (.int k))) Z x8)=some (.nx (sR st f1 f2 F0 (cQ h cf (beh h)) x4 (some (.leaf (.int ((k+1:Nat):Int)))) (some (.leaf (dI h))) y8)):=by unfold q71;rw[aC s1,aC s2,aC (by rw[iP tf];rfl)];show((((G f1 F0 [dI h]).bind T.d).bind itD).bind fun ds=>cA (av 8) (z73 G) ds (sR st f1 f2 F0 cf x4 (some (.leaf (.int ((k+1:Nat):Int)))) (some (.leaf (dI h))) x8))=_;rw[h1 h Y];exact hpE
    rw[gC O body];exact A1 hU hUl hbl h1 h2 n (cQ h cf (beh h)) (k+1) (some (.leaf (dI h))) y8 h' W (p3 nd) (gE hc (hU h Y)) L c ht
theorem CT {s0:Nat} (hU:∀ t∈U,∀ u∈beh t,u∈U) (hUl:U.length<=9000) (O:∀ t∈U,(beh t).length<=1000) (hs:s0∈U) (hx:∃ t,Rch beh [s0] t/\fit t=true) :
  ∃ (t:Nat) (L:List Nat),Wy beh fit [s0] t L/\fit t=true/\L.length<=9001/\∀(G:Orc)(f1 f2:J9)(F0:Hp),(∀t∈U,((G f1 F0 [dI t]).bind T.d).bind itD=some ((beh t).map dI))->(∀t∈U,G f2 F0 [dI t]=some (.leaf (.bl (fit t))))→
      z97 G (.lst [dI s0]) f1 f2 F0=some (.lst (L.reverse.map dI)):=by
 have B0:BI beh fit [s0] [(s0,none)] 0:=BI.start (J4:=[s0])
 have Z:∀t∈ks [(s0,(none:Option Nat))],t∈U:=fun t W=>by
  have:t=s0:=by simpa[ks] using W
  rw[this];exact hs
 obtain⟨t,cf,k',e,B,hc,hf,W⟩:=pT hU hx 100000 [(s0,none)] 0 B0 Z (qh8 _) (by lia);obtain⟨i,q,Y⟩:=gi W;obtain⟨L,tr,wy,hl⟩:=B.trace i t q Y;have hi:=(gX Y).1
 have hcl:cf.length<=9000:=by have:=bY B.nd hc;rw[fT]at this;lia
 refine⟨t,L,wy,hf,by lia,fun G f1 f2 F0 g1 g2=>?_⟩;have hw:=A1 (st:=.lst [dI s0]) (x4:=some (.leaf (dI s0))) hU (by lia) O g1 g2 100000 [(s0,none)] 0 none none t cf (by simp[ks]) Z e _ (jV tr (by lia))
 have hg:∀{g:De->Option Out}{r:T},g (deR 9 (.lst [dI s0]) f1 f2 F0)=some (.rt r)->nN 9 g (.lst [dI s0]) f1 f2 F0=some r:=fun {g r} z=>by unfold nN;rw[z]
 unfold z97;refine hg ?_
 have e2:dg (fIt (vL 0)) (av 4) (z89 G) [some (.leaf (.lst [dI s0])),some (.fn f1 F0),some (.fn f2 F0),some (.dct []),none,none,none,none,none]=some (.nx [some (.leaf (.lst [dI s0])),some (.fn f1 F0),some (.fn f2 F0),some (cfT [(s0,none)]),some (.leaf (dI s0)),none,none,none,none]):=by show cA (av 4) (z89 G) [dI s0] [some (.leaf (.lst [dI s0])),some (.fn f1 F0),some (.fn f2 F0),some (.dct []),none,none,none,none,none]=_;rw[bo rfl (by unfold z89;exact AX (kd:=dI s0) (k:=kI s0) (d:=.non) (l:=[]) rfl rfl rfl rfl (by simp) (by simp))];rfl
 show ar _ _ [some (.leaf (.lst [dI s0])),some (.fn f1 F0),some (.fn f2 F0),none,none,none,none,none,none]=_;rw[aC (aW rfl)];show ar _ _ [some (.leaf (.lst [dI s0])),some (.fn f1 F0),some (.fn f2 F0),some (.dct []),none,none,none,none,none]=_;rw[aC e2,aC (δ':=sR (.lst [dI s0]) f1 f2 F0 [(s0,none)] (some (.leaf (dI s0))) none none none) (aW rfl),aC (δ':=sR (.lst [dI s0]) f1 f2 F0 [(s0,none)] (some (.leaf (dI s0))) (some (.leaf (.int ((0:Nat):Int)))) none none) (aW rfl)];exact n5 hw
end P53
namespace P53
open PySem L2
variable{i:Nat}{c s:Dt}
section
variable{J0:List Rw}{b:Str}
def oD(J0:List Rw)(b:Str)(t:Nat):List Nat:=match J0[t]? with
 |some r=>if r.sets=some b then []else r.outs t
 |none=>[]
def uT(J0:List Rw)(b:Str)(t:Nat):Bool:=match J0[t]? with
 |some r=>decide (b∈r.reads)
 |none=>false
def zX{t u:Nat}(h:u∈oD J0 b t):∃r,J0[t]?=some r/\r.sets≠some b/\u∈r.outs t:=by
 unfold oD at h;split at h
 .rename_i r e;split at h
  .cases h
  .exact⟨r,e,by assumption,h⟩
 .cases h
def uU(h:Needs J0 i b):∀s,Rch (oD J0 b) [s] i->∃t,Rch (oD J0 b) [s] t/\uT J0 b t=true:=by
 induction h with
 |here L Y=>intro s q;refine⟨_,q,?_⟩;unfold uT;rw[L];exact decide_eq_true Y
 |on L h1 W _ O=>intro s q;refine O s (.more q ?_);unfold oD;rw[L];dsimp only;rw[if_neg h1];exact W
theorem uV{t:Nat}(h:t<J0.length):((iw 4 bK [.str b,dR J0,dW J0] [dI t]).bind T.d).bind itD=some ((oD J0 b t).map dI):=by
 have q:J0[t]?=some J0[t]:=gQ h;generalize J0[t]=r at q
 have e:bK [some (.leaf (dI t)),some (.leaf (.str b)),some (.leaf (dR J0)),some (.leaf (dW J0))]=some (.rt (if r.sets=some b then .lst []else .leaf (.tup ((r.outs t).map dI)))):=by
  have W:=aB (t:=.leaf r.d) ((b9 (δ:=[some (.leaf (dI t)),some (.leaf (.str b)),some (.leaf (dR J0)),some (.leaf (dW J0))]) (fa:=vB 2) (fb:=vB 0) (x:=dR J0) (y:=dI t) rfl rfl).trans (kK q));have O:=aB ((cu (F:=z59) W).trans (pK r))
  have Y:tB2 (gEq false) (toD (am z59 (aa (toD (d2 au (vB 2) (vB 0))) ak))) (vB 1) [some (.leaf (dI t)),some (.leaf (.str b)),some (.leaf (dR J0)),some (.leaf (dW J0))]=some (decide (r.sets=some b)):=by
   refine ib (x:=match r.sets with|some x=>.str x|none=>.non) (O.trans (by cases r.sets<;>rfl)) (y:=.str b) rfl ?_;cases Z:r.sets with
   |none=>rfl
   |some x=>rw[Cc];congr 3;simp
  have L:d2 au (vB 3) (vB 0) [some (.leaf (dI t)),some (.leaf (.str b)),some (.leaf (dR J0)),some (.leaf (dW J0))]=some (.leaf (.tup ((r.outs t).map dI))):=(b9 (x:=dW J0) (y:=dI t) rfl rfl).trans (kH q);unfold bK;refine dX ?_;rw[Ed,Y];by_cases z:r.sets=some b
  .rw[decide_eq_true z,ii,if_pos z,lI];show((some []).bind mkL)=_;rw[qa2,cO (by simp)]
  .rw[decide_eq_false z,ij,L,if_neg z]
 unfold iw
 show(((match bK [some (.leaf (dI t)),some (.leaf (.str b)),some (.leaf (dR J0)),some (.leaf (dW J0))]with
  |some (.rt t)=>some t|some (.nx _)=>some (.leaf .non)|_=>none).bind T.d).bind itD)=_
 rw[e];unfold oD;rw[q];dsimp only;by_cases z:r.sets=some b
 .rw[if_pos z,if_pos z];rfl
 .rw[if_neg z,if_neg z];rfl
theorem zY{t:Nat}(h:t<J0.length):iw 3 bT [.str b,dR J0] [dI t]=some (.leaf (.bl (uT J0 b t))):=by
 have q:J0[t]?=some J0[t]:=gQ h;generalize J0[t]=r at q
 have e:bT [some (.leaf (dI t)),some (.leaf (.str b)),some (.leaf (dR J0))]=some (.rt (.leaf (.bl (uT J0 b t)))):=by have O:=aB (t:=.leaf r.d) ((b9 (δ:=[some (.leaf (dI t)),some (.leaf (.str b)),some (.leaf (dR J0))]) (fa:=vB 2) (fb:=vB 0) (x:=dR J0) (y:=dI t) rfl rfl).trans (kK q));have L:=aB ((cu (F:=y59) O).trans (pL r));unfold bT;refine dX ((b9 (x:=.str b) rfl L).trans (gIn_strs.trans ?_));unfold uT;rw[q];rfl
 unfold iw
 show(match bT [some (.leaf (dI t)),some (.leaf (.str b)),some (.leaf (dR J0))]with
  |some (.rt t)=>some t|some (.nx _)=>some (.leaf .non)|_=>none)=_
 rw[e]
theorem CU {s0:Nat} (hn:J0.length<=500) (O:s0<J0.length) (hO:∀ (i:Nat) (r:Rw) (j:Nat),J0[i]?=some r->j∈r.outs i->j<J0.length) (hN:Needs J0 s0 b) :
  ∃W:List Nat,q32 [pcD c s J0,dI s0,.str b]=some (.lst (W.map dI)):=by
 obtain⟨t,Z,wy,ft,hl,Y⟩:=CT (s0:=s0) (U:=qc7 J0.length) (beh:=oD J0 b) (fit:=uT J0 b)
  (fun t _ u hu=>by obtain⟨r,e,_,ho⟩:=zX hu;exact qe1.mpr (hO t r u e ho))
  (by simp;lia)
  (fun t _=>by
   unfold oD;split
   .split
    .simp
    .exact qb5 (Rw.outs_len _ _) (by decide)
   .simp)
  (qe1.mpr O) (uU hN s0 (.one (.head _)))
 refine⟨Z.reverse,?_⟩;have ew:=jp c s J0 (by lia);unfold q32;refine il ?_;show ar _ _ [some (.leaf (pcD c s J0)),some (.leaf (dI s0)),some (.leaf (.str b)),none,none,none,none]=_;rw[aC (aW rfl)];show ar _ _ [some (.leaf (pcD c s J0)),some (.leaf (dI s0)),some (.leaf (.str b)),some (.leaf (dR J0)),none,none,none]=_
 rw[aC (aW (t:=.leaf (dW J0)) (by show(((dh [pcD c s J0]).bind T.d).map T.leaf)=_;rw[show dh [pcD c s J0]=_ from ew];rfl))]
 refine dX ?_;refine wc (d0:=.lst [dI s0]) (a:=[.str b,dR J0,dW J0]) (b:=[.str b,dR J0]) ?_ rfl rfl fun f1 f2 F0 q=>?_
 .unfold q73;refine(aB (t:=.lst [dI s0]) ?_).trans rfl;rw[lI];show((some [dI s0]).bind mkL)=_;rw[qa2,cO (by simp)]
 .refine Y _ f1 f2 F0 (fun t L=>?_) fun t L=>?_
  .rw[v9];exact uV (qe1.mp L)
  .rw[wa q];exact zY (qe1.mp L)
end
variable{neg:Bool}{l:List Str}
theorem xQ{x:Str}:cB neg (.str x) (.tup (l.map .str))=some (.leaf (.bl (if neg then !decide (x∈l)else decide (x∈l)))):=by rw[D9 (by rw[fB];rfl),sy]
def plD(p:Nat×List Str×Bool):Dt:=.tup [dI p.1,.tup (p.2.1.map .str),.bl p.2.2]
def lsD(b:Str)(W:List Nat)(bg:Bool):Dt:=.tup [.str "lost",.str b,.lst (W.map dI),.bl bg]
variable{J3:List (List Str)}{bg:List Str}
section
variable{c s:Dt}{J0:List Rw}{x1 x2 x3:Option T}
def dls(P:Dt)(x1 x2 x3:Option T)(p:Nat×List Str×Bool)(q:Option T):De:=[some (.leaf P),x1,x2,x3,some (.leaf (dI p.1)),some (.leaf (.tup (p.2.1.map .str))),some (.leaf (.bl p.2.2)),q]
theorem sX (Y:J0.length<=500) (L:∀ (i:Nat) (r:Rw) (j:Nat),J0[i]?=some r->j∈r.outs i->j<J0.length) (p:Nat×List Str×Bool) (hp:p.1<J0.length):∀ (l:List Str) (q:Option T),(∀ b∈l,Needs J0 p.1 b)→
  (∃y,cA (av 7) y18 (l.map .str) (dls (pcD c s J0) x1 x2 x3 p q)=some (.nx (dls (pcD c s J0) x1 x2 x3 p y)))∨
  ∃d,cA (av 7) y18 (l.map .str) (dls (pcD c s J0) x1 x2 x3 p q)=some (.rt (.leaf d))
 |[],q,_=>.inl ⟨q,rfl⟩
 |b::l,q,h=>by
  have Z:tB2 (cB true) (vB 7) (vB 5) (dls (pcD c s J0) x1 x2 x3 p (some (.leaf (.str b))))=some (!decide (b∈p.2.1)):=ib (x:=.str b) (y:=.tup (p.2.1.map .str)) rfl rfl xQ;by_cases O:b∈p.2.1
  .have step:cA (av 7) y18 ((b::l).map .str) (dls (pcD c s J0) x1 x2 x3 p q)=_:=bo (δ1:=dls (pcD c s J0) x1 x2 x3 p (some (.leaf (.str b)))) (δ2:=dls (pcD c s J0) x1 x2 x3 p (some (.leaf (.str b)))) rfl (by unfold y18;rw[kf,Z,decide_eq_true O];rfl)
   rw[step];exact sX Y L p hp l _ fun d hd=>h d (.tail _ hd)
  .obtain⟨W,ew⟩:=CU (c:=c) (s:=s) Y hp L (h b (.head _));refine .inr ⟨lsD b W p.2.2,?_⟩
   have e0:y18 (dls (pcD c s J0) x1 x2 x3 p (some (.leaf (.str b))))=some (.rt (.leaf (lsD b W p.2.2))):=by unfold y18;rw[kf,Z,decide_eq_false O];show bw _ (dls (pcD c s J0) x1 x2 x3 p (some (.leaf (.str b))))=_;exact dX (io (ao rfl (ao rfl (ao (aB (t:=.lst (W.map dI)) ((ia (x:=pcD c s J0) (y:=dI p.1) (z:=.str b) rfl rfl rfl).trans ew)) (ao rfl rfl)))) (by simp))
   show((y18 (dls (pcD c s J0) x1 x2 x3 p (some (.leaf (.str b))))).bind _)=_;rw[e0];rfl
theorem pU {B:List Str} (F:Fnd J0 B J3) (hn:J0.length<=500) (Y:∀ (i:Nat) (r:Rw) (j:Nat),J0[i]?=some r->j∈r.outs i->j<J0.length):∀ (ps:List (Nat×List Str×Bool)) (x4 O x6 L:Option T),(∀ p∈ps,p.1<J0.length)→
  (∃y,cA (fu 3 (br (av 4) (br (av 5) (br (av 6) fq)))) q18 (ps.map plD) [some (.leaf (pcD c s J0)),x1,some (.leaf (dF J3)),x3,x4,O,x6,L]=some (.nx y))∨
  ∃d,cA (fu 3 (br (av 4) (br (av 5) (br (av 6) fq)))) q18 (ps.map plD) [some (.leaf (pcD c s J0)),x1,some (.leaf (dF J3)),x3,x4,O,x6,L]=some (.rt (.leaf d))
 |[],x4,O,x6,L,_=>.inl ⟨_,rfl⟩
 |p::ps,x4,O,x6,L,h=>by
  have hp:=h p (.head _);obtain⟨l,Z⟩:∃l,J3[p.1]?=some l:=⟨J3[p.1]'(by rw[F.len];exact hp),by simp⟩
  have e2:fIt (toD (d2 au (vB 2) (vB 4))) (dls (pcD c s J0) x1 (some (.leaf (dF J3))) x3 p L)=some (l.map .str):=oy (aB (t:=.leaf (dS l)) ((b9 (x:=dF J3) (y:=dI p.1) rfl rfl).trans (by unfold dF dI;rw[hX,bJ,qb3,Z];rfl))) rfl
  have W:q18 (dls (pcD c s J0) x1 (some (.leaf (dF J3))) x3 p L)=cA (av 7) y18 (l.map .str) (dls (pcD c s J0) x1 (some (.leaf (dF J3))) x3 p L):=by unfold q18 dg;rw[e2];rfl
  rcases sX (c:=c) (s:=s) (x1:=x1) (x2:=some (.leaf (dF J3))) (x3:=x3) hn Y p hp l L (fun b hb=>F.nd p.1 l b Z hb)with ⟨y,e⟩|⟨d,e⟩
  .have step:cA (fu 3 (br (av 4) (br (av 5) (br (av 6) fq)))) q18 ((p::ps).map plD) [some (.leaf (pcD c s J0)),x1,some (.leaf (dF J3)),x3,x4,O,x6,L]=_:=bo (δ1:=dls (pcD c s J0) x1 (some (.leaf (dF J3))) x3 p L) rfl (W.trans e);rw[step];exact pU F hn Y ps _ _ _ y fun q hq=>h q (.tail _ hq)
  .refine .inr ⟨d,?_⟩;show((q18 (dls (pcD c s J0) x1 (some (.leaf (dF J3))) x3 p L)).bind _)=_;rw[W,e];rfl
def xR(bg:List Str)(ks:List (Nat×List Str)):List (Nat×List Str×Bool):=(0,bg,true)::ks.map fun k=>(k.1,k.2,false)
theorem zZ {B:List Str} {ks:List (Nat×List Str)} (F:Fnd J0 B J3) (O:z20 [pcD c s J0]=some (.lst (J3.map dS))) (hn:J0.length<=500) (h0:0<J0.length) (Y:∀ (i:Nat) (r:Rw) (j:Nat),J0[i]?=some r->j∈r.outs i->j<J0.length) (hk:∀ k∈ks,k.1<J0.length) (Z:ks.length<=900) :
  ∃d,q33 [pcD c s J0,kcD (.tup (bg.map .str)) ks]=some (.leaf d):=by
 have q:∀o,cA (fu 3 (br (av 4) (br (av 5) (br (av 6) fq)))) q18 ((xR bg ks).map plD) [some (.leaf (pcD c s J0)),some (.leaf (kcD (.tup (bg.map .str)) ks)),some (.leaf (dF J3)),some (.leaf (.lst ((xR bg ks).map plD))),none,none,none,none]=o->q33 [pcD c s J0,kcD (.tup (bg.map .str)) ks]=lH (pE o (bw (toT (kD .non)))):=fun o W=>by unfold q33;walk_at "k";rw[show z20 [pcD c s J0]=_ from O];walk_at "k";rw[ci (h:=fun k:Nat×List Str=>plD (k.1,k.2,false)) fun k _=>⟨_,rfl,rfl,by unfold z96 kpD;walk_at "k";rfl⟩];walk_at "k";rw[cO (by rw[qa1];lia)];walk_at "k";rw[n8 (by simp;lia)];walk_at "k";rw[show Dt.tup [Dt.int 0,Dt.tup (zi7 Dt.str bg),Dt.bl true]=plD (0,bg,true)from rfl,show zi7 (fun k:Nat×List Str=>plD (k.1,k.2,false)) ks=(ks.map fun k=>(k.1,k.2,false)).map plD by rw[qc4];rfl,<- qa5];show lH (pE (cA _ q18 ((xR bg ks).map plD) _) _)=_;rw[<- W];rfl
 rcases pU (c:=c) (s:=s) (x1:=some (.leaf (kcD (.tup (bg.map .str)) ks))) (x3:=some (.leaf (.lst ((xR bg ks).map plD)))) F hn Y (xR bg ks) none none none none (fun p hp=>by
  rcases qa9.mp hp with rfl|hp
  .exact h0
  .obtain⟨k,L,rfl⟩:=qd2.mp hp;exact hk k L)with ⟨y,e⟩|⟨d,e⟩
 .exact⟨_,q _ e⟩
 .exact⟨_,q _ e⟩
end
def Rw.isFin:Rw->Bool
 |.fin _=>true
 |_=>false
def fE(kept:List Nat):Nat->List Rw->Option Nat
 |_,[]=>none
 |k,r::rs=>if Rw.isFin r&&!decide (k∈kept)then some k else fE kept (k+1) rs
theorem xS(P C:Option T)(kept:List Nat)(k:Nat)(r:Rw):q35 [P,C,some (.leaf (.lst (kept.map dI))),some (.leaf (dI k)),some (.leaf r.d)]=if Rw.isFin r&&!decide (k∈kept)then some (.rt (.leaf (.tup [.str "end",dI k])))else some (.nx [P,C,some (.leaf (.lst (kept.map dI))),some (.leaf (dI k)),some (.leaf r.d)]):=by
 unfold q35;cases r<;>(simp only[Rw.d,Rw.isFin];walk_at "k")<;>try rfl
 rw[fJ];walk_at "k";by_cases h:k∈kept<;>simp[h]<;>rfl
theorem pV (P C:Option T) (kept:List Nat):∀ (rs:List Rw) (k:Nat) (x3 x4:Option T),∃ L O,cA (fu 2 (br (av 3) (br (av 4) fq))) q35 (dw k (rs.map Rw.d)) [P,C,some (.leaf (.lst (kept.map dI))),x3,x4]=match fE kept k rs with
  |some n=>some (.rt (.leaf (.tup [.str "end",dI n])))
  |none=>some (.nx [P,C,some (.leaf (.lst (kept.map dI))),L,O])
 |[],k,x3,x4=>⟨x3,x4,rfl⟩
 |r::rs,k,x3,x4=>by
  obtain⟨L,O,e⟩:=pV P C kept rs (k+1) (some (.leaf (dI k))) (some (.leaf r.d));refine⟨L,O,?_⟩;have q:=xS P C kept k r;unfold fE;cases W:Rw.isFin r&&!decide (k∈kept)with
  |true=>rw[W]at q;show((q35 [P,C,some (.leaf (.lst (kept.map dI))),some (.leaf (dI k)),some (.leaf r.d)]).bind _)=_;rw[q];rfl
  |false=>rw[W]at q;show((q35 [P,C,some (.leaf (.lst (kept.map dI))),some (.leaf (dI k)),some (.leaf r.d)]).bind _)=_;rw[q];exact e
variable{J0:List Rw}
def CV {b:Dt} {ks:List (Nat×List Str)} (L:J0.length<=500) (q:ks.length<=1000) :
  y36 [pcD c s J0,kcD b ks]=some (.leaf (match fE (ks.map (·.1)) 0 J0 with
   |some n=>.tup [.str "end",dI n]
   |none=>.non)):=by
 unfold y36;walk_at "k";rw[show y13 [kcD b ks]=_ from jq b ks q];walk_at "k";unfold iB dR;walk_at "k";obtain⟨O,W,e⟩:=pV (some (.leaf (pcD c s J0))) (some (.leaf (kcD b ks))) (ks.map (·.1)) J0 0 none none;rw[e];cases fE (ks.map (·.1)) 0 J0<;>rfl
variable{P C:Dt}
theorem lW:∀(l:List Str)(x2 x3:Option T),(∀nm∈l,∃d,(z56 [P,C,.str nm]).bind T.d=some d)->(∃O L,cA (av 2) z16 (l.map .str) [some (.leaf P),some (.leaf C),x2,x3]=some (.nx [some (.leaf P),some (.leaf C),O,L]))∨∃d,cA (av 2) z16 (l.map .str) [some (.leaf P),some (.leaf C),x2,x3]=some (.rt (.leaf d))
 |[],x2,x3,_=>.inl ⟨x2,x3,rfl⟩
 |nm::l,x2,x3,h=>by
  obtain⟨d,W⟩:=h nm (.head _)
  have s1:aA 3 (toT (toD (am z56 (aa (vL 0) (aa (vL 1) (aa (vL 2) ak)))))) [some (.leaf P),some (.leaf C),some (.leaf (.str nm)),x3]=some (.nx [some (.leaf P),some (.leaf C),some (.leaf (.str nm)),some (.leaf d)]):=by refine(aW (t:=.leaf d) (di ?_)).trans rfl;unfold toD;rw[ia (x:=P) (y:=C) (z:=.str nm) rfl rfl rfl];exact W
  have q:tB2 (gIs true) (vB 3) (kD .non) [some (.leaf P),some (.leaf C),some (.leaf (.str nm)),some (.leaf d)]=some (!g8 d):=rfl;cases z:g8 d with
  |true=>
   have b:z16 [some (.leaf P),some (.leaf C),some (.leaf (.str nm)),x3]=some (.nx [some (.leaf P),some (.leaf C),some (.leaf (.str nm)),some (.leaf d)]):=by unfold z16;rw[aC s1,iP (q.trans (by rw[z];rfl))];rfl
   have st:cA (av 2) z16 ((nm::l).map .str) [some (.leaf P),some (.leaf C),x2,x3]=_:=bo (δ1:=[some (.leaf P),some (.leaf C),some (.leaf (.str nm)),x3]) rfl b;rw[st];exact lW l _ _ fun n Y=>h n (.tail _ Y)
  |false=>
   refine .inr ⟨.tup [.str "spoil",.str nm,d],?_⟩
   have b:z16 [some (.leaf P),some (.leaf C),some (.leaf (.str nm)),x3]=some (.rt (.leaf (.tup [.str "spoil",.str nm,d]))):=by unfold z16;rw[aC s1,iO (q.trans (by rw[z];rfl))];exact dX (io (ao rfl (ao rfl (ao rfl rfl))) (by simp))
   show((z16 [some (.leaf P),some (.leaf C),some (.leaf (.str nm)),x3]).bind _)=_;rw[b];rfl
structure Inp(cs ss:List Hd)(J0:List Rw)(B:List Str)(ks:List (Nat×List Str)):Prop where
 hB:∀(i:Nat)(r:Rw)(b:Str),J0[i]?=some r->b∈r.reads->b∈B
 hO:∀(i:Nat)(r:Rw)(j:Nat),J0[i]?=some r->j∈r.outs i->j<J0.length
 l0:0<J0.length
 l1:J0.length<=60
 hb:B.length<=12
 hh:cs.length+ss.length<=100
 hk:∀k∈ks,k.1<J0.length
 hkl:ks.length<=60
variable{cs ss:List Hd}
theorem uW{B:List Str}{ks:List (Nat×List Str)}(I:Inp cs ss J0 B ks)(b:Dt):∃d,q28 [pgD cs ss J0,kcD b ks]=some (.leaf d):=by
 have h1:=I.l1;have h2:=I.hh;have h3:=I.hkl
 have e0:fIt (toD (am q15 (aa (vL 0) ak))) [some (.leaf (pgD cs ss J0)),some (.leaf (kcD b ks)),none,none]=some ((plain cs ss).map .str):=by unfold fIt;rw[aB ((cu (x:=pgD cs ss J0) rfl).trans (lT cs ss _ (by lia)))];rfl
 rcases lW (P:=pgD cs ss J0) (C:=kcD b ks) (plain cs ss) none none (fun nm q=>by
  obtain⟨r,e,_⟩:=qX (b:=b) (kp:=ks) (by lia) q (by lia) I.l0 (by lia) (fun k hk=>by obtain⟨p,hp,rfl⟩:=qd2.mp hk;exact I.hk p hp) I.hO
  rw[e];cases r<;>exact⟨_,rfl⟩)with ⟨y2,y3,e⟩|⟨d,e⟩
 .refine⟨.non,?_⟩;unfold q28;refine dRt ?_;show ar _ _ [some (.leaf (pgD cs ss J0)),some (.leaf (kcD b ks)),none,none]=_;rw[b8,iN,e0,qa2,e];rfl
 .refine⟨d,?_⟩;unfold q28;refine dRt ?_;show ar _ _ [some (.leaf (pgD cs ss J0)),some (.leaf (kcD b ks)),none,none]=_;rw[b8,iN,e0,qa2,e];rfl
def pW(a b:Dt):Dt:=if g8 a then b else a
theorem xT {a r l:Dt} (Z:y36 [P,C]=some (.leaf a)) (Y:q31 [P,C]=some (.leaf r)) (W:q28 [P,C]=some (.leaf s)) (O:q33 [P,C]=some (.leaf l)) :
  y94 [P,C]=some (.leaf (pW (pW (pW a r) s) l)):=by
 have st:∀(F:List Dt->Option T)(d:Dt)(x:Option T),F [P,C]=some (.leaf d)->aA 2 (toT (toD (am F (aa (vL 0) (aa (vL 1) ak))))) [some (.leaf P),some (.leaf C),x]=some (.nx [some (.leaf P),some (.leaf C),some (.leaf d)]):=fun F d x h=>by refine(aW (t:=.leaf d) (di (aB (t:=.leaf d) ((cx (x:=P) (y:=C) rfl rfl).trans h)))).trans rfl
 have q:∀(F:List Dt->Option T)(a d:Dt),F [P,C]=some (.leaf d)->sIf (tB2 (gIs false) (vB 2) (kD .non)) (aA 2 (toT (toD (am F (aa (vL 0) (aa (vL 1) ak)))))) bV [some (.leaf P),some (.leaf C),some (.leaf a)]=some (.nx [some (.leaf P),some (.leaf C),some (.leaf (pW a d))]):=fun F a d h=>by
  have L:tB2 (gIs false) (vB 2) (kD .non) [some (.leaf P),some (.leaf C),some (.leaf a)]=some (g8 a):=rfl;unfold pW;cases z:g8 a with
  |true=>rw[iO (L.trans (by rw[z])),st F d _ h];rfl
  |false=>rw[iP (L.trans (by rw[z]))];rfl
 unfold y94;refine dRt ?_;show ar _ _ [some (.leaf P),some (.leaf C),none]=_;rw[aC (st _ _ _ Z),aC (q _ _ _ Y),aC (q _ _ _ W),aC (q _ _ _ O)];rfl
theorem uX{J0:List Rw}{B:List Str}{ks:List (Nat×List Str)}(I:Inp cs ss J0 B ks)(bg:List Str):∃b:Bool,q17 [pgD cs ss J0,cdD bg ks]=some (.leaf (.bl b)):=by have h1:=I.l1;have h3:=I.hkl;obtain⟨Y,Z⟩:∃d,y36 [pgD cs ss J0,kcD (.tup (bg.map .str)) ks]=some (.leaf d):=⟨_,CV (c:=.tup (cs.map hdD)) (s:=.tup (ss.map hdD)) (b:=.tup (bg.map .str)) (J0:=J0) (ks:=ks) (by lia) (by lia)⟩;obtain⟨dr,O⟩:=zS (c:=.tup (cs.map hdD)) (s:=.tup (ss.map hdD)) (b:=.tup (bg.map .str)) (J0:=J0) (ks:=ks) (by lia) (by lia);obtain⟨ds,es⟩:=uW I (.tup (bg.map .str));obtain⟨J3,W,F,_⟩:=iT (c:=.tup (cs.map hdD)) (s:=.tup (ss.map hdD)) I.hB I.hO I.hb (by lia);obtain⟨dl,L⟩:=zZ (c:=.tup (cs.map hdD)) (s:=.tup (ss.map hdD)) (bg:=bg) F W (by lia) I.l0 I.hO I.hk (by lia);have q:=xT Z O es L;generalize pW (pW (pW Y dr) ds) dl=d at q;refine⟨g8 d,?_⟩;unfold q17;exact dRt (dX ((b9 (aB ((cx (x:=pgD cs ss J0) (y:=kcD (.tup (bg.map .str)) ks) rfl rfl).trans q)) (y:=.non) rfl).trans rfl))
theorem ir{α:Type}{f:α->Dt}(h:∀a b,eR (f a) (f b)=true):∀l m:List α,cmpbs (l.map f) (m.map f)=true
 |[],_=>by simp[cmpbs]
 |_::_,[]=>by simp[cmpbs]
 |a::l,b::m=>by rw[qa5,qa5];unfold cmpbs;rw[h a b,ir h l m];rfl
def jw{α:Type}{f:α->Dt}{n:Nat}(h:∀a,gn (f a)<=n):∀l:List α,deeps (l.map f)<=n
 |[]=>qh8 _
 |a::l=>by have h1:=h a;have h2:=jw h l;rw[qa5];unfold deeps;lia
def sY(x y:Str):eR (.str x) (.str y)=true:=rfl
def pX(x:Str):gn (.str x)<=0:=by simp[gn]
theorem CW(p q:Nat×List Str):eR (kpD p) (kpD q)=true:=by unfold kpD;simp only[eR,cmpbs,ir sY,qn5];rfl
def z0(p:Nat×List Str):gn (kpD p)<=5:=by have:=jw pX p.2;simp only[kpD,gn,deeps,dI];lia
theorem Aa(bs:List Str)(L q:List (Nat×List Str)):gEq neg (cdD bs L) (cdD bs q)=some (.leaf (.bl (if neg then !peqs (L.map kpD) (q.map kpD)else peqs (L.map kpD) (q.map kpD)))):=by
 unfold cdD;have h1:=jw pX bs;have h2:=jw z0 L;refine xa ((D5 ?_).trans ?_)
 .rw[qb2];refine⟨?_,decide_eq_true ?_⟩
  .simp only[cmpbs,eR,ir sY,ir CW,za3]
  .simp only[deeps,gn];lia
 .simp only[peqs,peq,peqs_self,qj3,qn5]
def pY:∀{l m:List Dt},peqs l m=true->l.length=m.length
 |[],[],_=>rfl
 |[],_::_,h=>by simp[peqs]at h
 |_::_,[],h=>by simp[peqs]at h
 |_::l,_::m,h=>by unfold peqs at h;rw[qc2,qc2,pY (qp7.mp h).2]
def les(j:Nat)(ks:List (Nat×List Str)):List (Nat×List Str):=ks.filter fun k=>!decide ((k.1:Int)=(j:Int))
theorem xU(C:De->Option Bool)(q:C=tB2 (gEq true) (toD (d2 au (vB 0) (kD (.int 0)))) (vB 1))(j:Nat)(ks:List (Nat×List Str)):cb (av 0) C (vL 0) [none,some (.leaf (dI j))] (ks.map kpD)=some ((les j ks).map kpD):=cP fun k _=>⟨[some (.leaf (kpD k)),some (.leaf (dI j))],rfl,by subst q;rfl,fun _=>rfl⟩
def Ab(j:Nat)(ks:List (Nat×List Str)):(les j ks).length<=ks.length:=qd7 _ _
variable{δ:De}
theorem sZ(x:Dt)(j:Nat)(ks:List (Nat×List Str))(hl:ks.length<=1000)(C:De->Option Bool)(q:C=tB2 (gEq true) (toD (d2 au (vB 0) (kD (.int 0)))) (vB 1)){a:Nat}(h1:δ[i]?=some (some (.leaf (cdD bg ks))))(h2:δ[a]?=some (some (.leaf (dI j)))):aT (aa (toD (d2 au (vB i) (kD (.int 0)))) (aa (toD (am cy (aa (toD (bA [none,some a] (fIt (toD (d2 au (vB i) (kD (.int 1))))) (av 0) C (vL 0))) ak))) ak)) δ=some (.leaf (cdD bg (les j ks))):=by
 have b1:vB i δ=some (cdD bg ks):=by unfold vB;rw[h1];rfl
 have W:toD (d2 au (vB i) (kD (.int 0))) δ=some (.tup (bg.map .str)):=aB (t:=.leaf _) ((b9 b1 (y:=.int 0) rfl).trans rfl);have O:toD (d2 au (vB i) (kD (.int 1))) δ=some (.tup (ks.map kpD)):=aB (t:=.leaf _) ((b9 b1 (y:=.int 1) rfl).trans rfl)
 have Y:fIt (toD (d2 au (vB i) (kD (.int 1)))) δ=some (ks.map kpD):=by unfold fIt;rw[O];rfl
 have L:=aB (gj (src:=[none,some a]) (bb:=av 0) (ft:=C) (fe:=vL 0) Y (ys:=(les j ks).map kpD) (by
  have:dC [none,some a] δ=[none,some (.leaf (dI j))]:=by simp[dC,h2]
  rw[this];exact xU C q j ks) (by
  have:=Ab j ks;rw[qa1];lia))
 have Z:=aB (t:=.leaf (.tup ((les j ks).map kpD))) ((cu (F:=cy) L).trans rfl);exact sE W Z
theorem qZ(j:Nat)(bg:List Str)(ks:List (Nat×List Str))(q:ks.length<=1000):y57 [cdD bg ks,dI j]=some (.leaf (cdD bg (les j ks))):=by unfold y57;rw[jT];show lH (bw _ [some (.leaf (cdD bg ks)),some (.leaf (dI j))])=_;unfold bw;rw[sZ .non j ks q q116 rfl (i:=0) (a:=1) (bg:=bg) rfl rfl];rfl
def jx(j:Nat)(ks:List (Nat×List Str)):(les j ks).Sublist ks:=qn6
theorem lX{a b:List (Nat×List Str)}(h:a.Sublist b):gEq neg (cdD bg a) (cdD bg b)=some (.leaf (.bl (if neg then !decide (a.length=b.length)else decide (a.length=b.length)))):=by
 rw[Aa]
 have:peqs (a.map kpD) (b.map kpD)=decide (a.length=b.length):=by
  by_cases z:a.length=b.length
  .rw[h.eq_of_length z,peqs_self];simp
  .rw[decide_eq_false z];cases e:peqs (a.map kpD) (b.map kpD)with
   |false=>rfl
   |true=>have:=pY e;simp at this;exact absurd this z
 rw[this]
def gS(P:Dt)(x1:Option T)(bg:List Str)(l:List (Nat×List Str))(x3 x4:Option T):De:=[some (.leaf P),x1,some (.leaf (cdD bg l)),x3,x4]
def rS(P:Dt)(bg:List Str)(l:List (Nat×List Str))(x2 x3:Option T):De:=[some (.leaf P),some (.leaf (cdD bg l)),x2,x3]
def tS(P:Dt)(bg:List Str)(l:List (Nat×List Str))(x2:Option T):De:=[some (.leaf P),some (.leaf (cdD bg l)),x2]
section
variable{P:Dt}{bg:List Str}{H:List (Nat×List Str)->Bool}{N:Nat}
def goT(H:List (Nat×List Str)->Bool):List Nat->List (Nat×List Str)->List (Nat×List Str)
 |[],l=>l
 |j::js,l=>goT H js (if H (les j l)then les j l else l)
def goG(H:List (Nat×List Str)->Bool)(ks:List (Nat×List Str)):List (Nat×List Str):=goT H (ks.map (·.1)) ks
def jy:∀(js:List Nat)(l:List (Nat×List Str)),(goT H js l).Sublist l
 |[],l=>qt3 _
 |j::js,l=>by
  unfold goT;split
  .exact(jy js _).trans (jx j l)
  .exact jy js l
abbrev HolP(P:Dt)(bg:List Str)(ks0:List (Nat×List Str))(H:List (Nat×List Str)->Bool):Prop:=ks0.length<=60/\∀ks:List (Nat×List Str),ks.Sublist ks0->q17 [P,cdD bg ks]=some (.leaf (.bl (H ks)))
theorem HolP.sub{q ks:List (Nat×List Str)}(h:HolP P bg q H)(s:ks.Sublist q):HolP P bg ks H:=⟨qb5 s.length_le h.1,fun k z=>h.2 k (z.trans s)⟩
theorem oE{F:List Dt->Option T}{k:Nat}{x y:Dt}{b:Bool}(h1:vL i δ=some x)(h2:vL k δ=some y)(h:F [x,y]=some (.leaf (.bl b))):e7 (toD (am F (aa (vL i) (aa (vL k) ak)))) δ=some b:=by unfold e7;rw[aB ((cx h1 h2).trans h)];rfl
theorem tj(x1:Option T):∀(js:List Nat)(l:List (Nat×List Str))(x3 x4:Option T),HolP P bg l H->∃q L,cA (av 3) q43 (js.map dI) (gS P x1 bg l x3 x4)=some (.nx (gS P x1 bg (goT H js l) q L))
 |[],l,x3,x4,_=>⟨x3,x4,rfl⟩
 |j::js,l,x3,x4,h=>by
  have s1:aA 4 (toT (toD (am y57 (aa (vL 2) (aa (vL 3) ak))))) (gS P x1 bg l (some (.leaf (dI j))) x4)=some (.nx (gS P x1 bg l (some (.leaf (dI j))) (some (.leaf (cdD bg (les j l)))))):=(aW (t:=.leaf (cdD bg (les j l))) (di (aB (t:=.leaf _) ((cx (x:=cdD bg l) (y:=dI j) rfl rfl).trans (qZ j bg l (by have:=h.1;lia)))))).trans rfl
  have O:e7 (toD (am q17 (aa (vL 0) (aa (vL 4) ak)))) (gS P x1 bg l (some (.leaf (dI j))) (some (.leaf (cdD bg (les j l)))))=some (H (les j l)):=oE (x:=P) (y:=cdD bg (les j l)) rfl rfl (h.2 _ (jx j l))
  have b:q43 (gS P x1 bg l (some (.leaf (dI j))) x4)=some (.nx (gS P x1 bg (if H (les j l)then les j l else l) (some (.leaf (dI j))) (some (.leaf (cdD bg (les j l)))))):=by
   unfold q43;rw[aC s1];cases z:H (les j l)with
   |true=>rw[iO (O.trans (by rw[z]))];rfl
   |false=>rw[iP (O.trans (by rw[z]))];rfl
  obtain⟨q,L,e⟩:=tj x1 js (if H (les j l)then les j l else l) (some (.leaf (dI j))) (some (.leaf (cdD bg (les j l)))) (by
   split
   .exact h.sub (jx j l)
   .exact h)
  refine⟨q,L,?_⟩;rw[qa5,bo (δ1:=(gS P x1 bg l (some (.leaf (dI j))) x4)) rfl b,e];rfl
theorem tm{ks:List (Nat×List Str)}(h:HolP P bg ks H):q30 [P,cdD bg ks]=some (.leaf (cdD bg (goG H ks))):=by
 obtain⟨q,L,e⟩:=tj (some (.leaf (cdD bg ks))) (ks.map (·.1)) ks none none h;unfold q30;refine dRt ?_;show ar _ _ [some (.leaf P),some (.leaf (cdD bg ks)),none,none,none]=_;rw[aC (δ':=(gS P (some (.leaf (cdD bg ks))) bg ks none none)) rfl,b8,iN]
 have e0:fIt (toD (am y13 (aa (vL 1) ak))) (gS P (some (.leaf (cdD bg ks))) bg ks none none)=some ((ks.map (·.1)).map dI):=by unfold fIt;rw[aB ((cu (x:=cdD bg ks) rfl).trans (jq _ ks (by have:=h.1;lia)))];rfl
 rw[e0,qa2,e];rfl
theorem pZ:∀(js:List Nat)(l:List (Nat×List Str))(x2 x3:Option T),HolP P bg l H->∃L q,cA (av 2) y49 (js.map dI) (rS P bg l x2 x3)=some (.nx (rS P bg (goT H js l) L q))
 |[],l,x2,x3,_=>⟨x2,x3,rfl⟩
 |j::js,l,x2,x3,h=>by
  have s1:aA 3 (toT (toD (aT (aa (toD (d2 au (vB 1) (kD (.int 0)))) (aa (toD (am cy (aa (toD (bA [none,some 2] (fIt (toD (d2 au (vB 1) (kD (.int 1))))) (av 0) z69 (vL 0))) ak))) ak))))) (rS P bg l (some (.leaf (dI j))) x3)=some (.nx (rS P bg l (some (.leaf (dI j))) (some (.leaf (cdD bg (les j l)))))):=(aW (t:=.leaf (cdD bg (les j l))) (di (aB (t:=.leaf _) (sZ .non j l (by have:=h.1;lia) z69 rfl (i:=1) (a:=2) (bg:=bg) rfl rfl)))).trans rfl
  have O:e7 (toD (am q17 (aa (vL 0) (aa (vL 3) ak)))) (rS P bg l (some (.leaf (dI j))) (some (.leaf (cdD bg (les j l)))))=some (H (les j l)):=oE (x:=P) (y:=cdD bg (les j l)) rfl rfl (h.2 _ (jx j l))
  have b:y49 (rS P bg l (some (.leaf (dI j))) x3)=some (.nx (rS P bg (if H (les j l)then les j l else l) (some (.leaf (dI j))) (some (.leaf (cdD bg (les j l)))))):=by
   unfold y49;rw[aC s1];cases z:H (les j l)with
   |true=>rw[iO (O.trans (by rw[z]))];rfl
   |false=>rw[iP (O.trans (by rw[z]))];rfl
  obtain⟨L,q,e⟩:=pZ js (if H (les j l)then les j l else l) (some (.leaf (dI j))) (some (.leaf (cdD bg (les j l)))) (by
   split
   .exact h.sub (jx j l)
   .exact h)
  refine⟨L,q,?_⟩;rw[qa5,bo (δ1:=(rS P bg l (some (.leaf (dI j))) x3)) rfl b,e];rfl
theorem xV{ks:List (Nat×List Str)}(h:HolP P bg ks H):y39 [P,cdD bg ks]=some (.leaf (cdD bg (goG H ks))):=by
 obtain⟨O,L,e⟩:=pZ (ks.map (·.1)) ks none none h;unfold y39;refine dRt ?_;show ar _ _ (rS P bg ks none none)=_;rw[b8,iN]
 have q:fIt (toD (d2 au (vB 1) (kD (.int 1)))) (rS P bg ks none none)=some (ks.map kpD):=by unfold fIt;rw[aB (t:=.leaf (.tup (ks.map kpD))) ((b9 (x:=cdD bg ks) (y:=.int 1) rfl rfl).trans rfl)];rfl
 have e0:fIt (toD (bA [none] (fIt (toD (d2 au (vB 1) (kD (.int 1))))) (av 0) bN q70)) (rS P bg ks none none)=some ((ks.map (·.1)).map dI):=by exact oy (aB (gj (src:=[none]) (bb:=av 0) (ft:=bN) (fe:=q70) q (ys:=(ks.map (·.1)).map dI) (by rw[qc4];exact ci fun k _=>⟨_,rfl,rfl,rfl⟩) (by have:=h.1;simp;lia))) rfl
 rw[e0,qa2,e];rfl
def l8(H:List (Nat×List Str)->Bool):Nat->List (Nat×List Str)->List (Nat×List Str)
 |0,ks=>ks
 |n+1,ks=>if(goG H ks).length=ks.length then ks else l8 H n (goG H ks)
def tp:∀(n m:Nat)(ks:List (Nat×List Str)),ks.length<n->ks.length<m->l8 H n ks=l8 H m ks
 |0,_,_,h,_=>absurd h (qo8 _)
 |_,0,_,_,h=>absurd h (qo8 _)
 |n+1,m+1,ks,h,h'=>by
  unfold l8;split
  .rfl
  .rename_i z;have:=(jy (H:=H) (ks.map (·.1)) ks).length_le;have:(goG H ks).length<ks.length:=Nat.lt_of_le_of_ne this z;exact tp n m _ (by lia) (by lia)
theorem tq:∀(f:Nat)(ks:List (Nat×List Str)),HolP P bg ks H->ks.length<f->∃x,bt q94 z93 f (tS P bg ks (some (.leaf (cdD bg (goG H ks)))))=some (.nx [some (.leaf P),x,some (.leaf (cdD bg (l8 H f ks)))])
 |0,_,_,h=>absurd h (qo8 _)
 |f+1,ks,h,O=>by
  have q:=jy (H:=H) (ks.map (·.1)) ks;have c:q94 (tS P bg ks (some (.leaf (cdD bg (goG H ks)))))=some (!decide ((goG H ks).length=ks.length)):=ib (x:=cdD bg (goG H ks)) (y:=cdD bg ks) rfl rfl (lX q);unfold l8;by_cases z:(goG H ks).length=ks.length
  .have L:goG H ks=ks:=q.eq_of_length z;refine⟨some (.leaf (cdD bg ks)),?_⟩;rw[if_pos z,xy (c.trans (by rw[decide_eq_true z];rfl)),L];rfl
  .rw[decide_eq_false z]at c;have lt:(goG H ks).length<ks.length:=Nat.lt_of_le_of_ne q.length_le z;have h2:=h.sub q;obtain⟨x,e⟩:=tq f (goG H ks) h2 (by lia);refine⟨x,?_⟩
   rw[if_neg z,xx c (δ2:=(tS P bg (goG H ks) (some (.leaf (cdD bg (goG H (goG H ks))))))) (by unfold z93;rw[aC (δ':=(tS P bg (goG H ks) (some (.leaf (cdD bg (goG H ks)))))) rfl];exact(aW (t:=.leaf (cdD bg (goG H (goG H ks)))) (di (aB (t:=.leaf _) ((cx (x:=P) (y:=cdD bg (goG H ks)) rfl rfl).trans (tm h2))))).trans rfl)]
   exact e
theorem Ac{ks:List (Nat×List Str)}(h:HolP P bg ks H):y47 [P,cdD bg ks]=some (.leaf (cdD bg (if H ks then l8 H (ks.length+1) ks else ks))):=by
 have q:t0 (e7 (toD (am q17 (aa (vL 0) (aa (vL 1) ak))))) (tS P bg ks none)=some (!H ks):=by unfold t0;rw[oE (x:=P) (y:=cdD bg ks) rfl rfl (h.2 _ (qt3 _))];rfl
 unfold y47;refine dRt ?_;show ar _ _ (tS P bg ks none)=_;cases z:H ks with
 |false=>exact AZ (q.trans (by rw[z];rfl)) rfl
 |true=>obtain⟨x,e⟩:=tq 100000 ks h (by have:=h.1;lia);rw[xB (q.trans (by rw[z];rfl)),aC (δ':=(tS P bg ks (some (.leaf (cdD bg (goG H ks)))))) ((aW (t:=.leaf (cdD bg (goG H ks))) (di (aB (t:=.leaf _) ((cx (x:=P) (y:=cdD bg ks) rfl rfl).trans (tm h))))).trans rfl),aC e,tp 100000 (ks.length+1) ks (by have:=h.1;lia) (by lia)];rfl
def dl9(P:Dt)(q x2 x3 x4 O:Option T)(bg:List Str)(ks:List (Nat×List Str))(L x8:Option T):De:=[q,some (.leaf P),x2,x3,x4,O,some (.leaf (cdD bg ks)),L,x8]
theorem xW(q x2 x3 x4 L:Option T):∀(js:List Nat)(ks:List (Nat×List Str))(O x8:Option T),HolP P bg ks H->∃Y Z,cA (av 7) q58 (js.map dI) (dl9 P q x2 x3 x4 L bg ks O x8)=some (.nx (dl9 P q x2 x3 x4 L bg (l8 H js.length ks) Y Z))
 |[],ks,O,x8,_=>⟨O,x8,rfl⟩
 |j::js,ks,O,x8,h=>by
  have sb:=jy (H:=H) (ks.map (·.1)) ks
  have s1:aA 8 (toT (toD (am y39 (aa (vL 1) (aa (vL 6) ak))))) (dl9 P q x2 x3 x4 L bg ks (some (.leaf (dI j))) x8)=some (.nx (dl9 P q x2 x3 x4 L bg ks (some (.leaf (dI j))) (some (.leaf (cdD bg (goG H ks)))))):=(aW (t:=.leaf (cdD bg (goG H ks))) (di (aB (t:=.leaf _) ((cx (x:=P) (y:=cdD bg ks) rfl rfl).trans (xV h))))).trans rfl
  have W:tB2 (gEq false) (vB 8) (vB 6) (dl9 P q x2 x3 x4 L bg ks (some (.leaf (dI j))) (some (.leaf (cdD bg (goG H ks)))))=some (decide ((goG H ks).length=ks.length)):=ib (x:=cdD bg (goG H ks)) (y:=cdD bg ks) rfl rfl (lX sb);rw[qc2];unfold l8;by_cases z:(goG H ks).length=ks.length
  .rw[decide_eq_true z]at W;rw[if_pos z];refine⟨some (.leaf (dI j)),some (.leaf (cdD bg (goG H ks))),?_⟩
   have b:q58 (dl9 P q x2 x3 x4 L bg ks (some (.leaf (dI j))) x8)=some (.bk (dl9 P q x2 x3 x4 L bg ks (some (.leaf (dI j))) (some (.leaf (cdD bg (goG H ks)))))):=by unfold q58;rw[aC s1,b8,iO W];rfl
   show((q58 (dl9 P q x2 x3 x4 L bg ks (some (.leaf (dI j))) x8)).bind _)=_;rw[b];rfl
  .rw[decide_eq_false z]at W;rw[if_neg z]
   have b:q58 (dl9 P q x2 x3 x4 L bg ks (some (.leaf (dI j))) x8)=some (.nx (dl9 P q x2 x3 x4 L bg (goG H ks) (some (.leaf (dI j))) (some (.leaf (cdD bg (goG H ks)))))):=by unfold q58;rw[aC s1,xB W];rfl
   obtain⟨Y,Z,e⟩:=xW q x2 x3 x4 L js (goG H ks) (some (.leaf (dI j))) (some (.leaf (cdD bg (goG H ks)))) (h.sub sb);refine⟨Y,Z,?_⟩;rw[qa5,bo (δ1:=dl9 P q x2 x3 x4 L bg ks (some (.leaf (dI j))) x8) rfl b];exact e
end
def five(h:l.length=5):∃a b c d e,l=[a,b,c,d,e]:=by
 match l,h with
 |[a,b,c,d,e],_=>exact⟨a,b,c,d,e,rfl⟩
noncomputable def lwE:De->Option Out:=(ar (aA 6 (toT (vL 3)))
  (ar (sIf (e7 (toD (am q17 (aa (vL 1) (aa (vL 3) ak))))) (dg (dO fY (aa (toD (d2 aN (toD (am cS (aa (toD (d2 au (vB 3) (kD (.int 1)))) ak))) (kD (.int 1)))) ak)) (av 7) q58) bV)
  (bw (d2 (gEq false) (toD (am y47 (aa (vL 1) (aa (vL 3) ak)))) (vB 6)))))
theorem xX (O x2 x4 W:Option T) {B:List Str} {bg:List Str} {ks:List (Nat×List Str)} (p:Prg B J0) (hh:cs.length+ss.length<=100) (hk:∀ k∈ks,k.1<J0.length) (hl:ks.length<=60) :
  lwE [O,some (.leaf (pgD cs ss J0)),x2,some (.leaf (cdD bg ks)),x4,W,none,none,none]=some (.rt (.leaf (.bl true))):=by
 have hol:∀l:List (Nat×List Str),l.Sublist ks->∃b:Bool,q17 [pgD cs ss J0,cdD bg l]=some (.leaf (.bl b)):=fun l L=>uX ⟨p.rd,p.out,p.pos,p.n,p.b,hh,fun k hk2=>hk k (L.subset hk2),qb5 L.length_le hl⟩ bg
 have H:HolP (pgD cs ss J0) bg ks (fun l=>match q17 [pgD cs ss J0,cdD bg l]with|some (.leaf (.bl b))=>b|_=>false):=⟨hl,fun l L=>by obtain⟨b,e⟩:=hol l L;dsimp only;rw[e]⟩
 generalize (fun l=>match q17 [pgD cs ss J0,cdD bg l]with|some (.leaf (.bl b))=>b|_=>false)=Y at H;clear hol;generalize pgD cs ss J0=P at H ⊢;have t1:e7 (toD (am q17 (aa (vL 1) (aa (vL 3) ak)))) (dl9 P O x2 (some (.leaf (cdD bg ks))) x4 W bg ks none none)=some (Y ks):=oE (x:=P) (y:=cdD bg ks) rfl rfl (H.2 _ (qt3 _))
 have Z:∀(q:List (Nat×List Str))(y7 y8:Option T),q=(if Y ks then l8 Y (ks.length+1) ks else ks)->bw (d2 (gEq false) (toD (am y47 (aa (vL 1) (aa (vL 3) ak)))) (vB 6)) (dl9 P O x2 (some (.leaf (cdD bg ks))) x4 W bg q y7 y8)=some (.rt (.leaf (.bl true))):=fun q y7 y8 hq=>by refine dX ((b9 (aB (t:=.leaf (cdD bg q)) ((cx (x:=P) (y:=cdD bg ks) rfl rfl).trans (by rw[Ac H,hq]))) (y:=cdD bg q) rfl).trans ((lX (qt3 q)).trans ?_));simp
 unfold lwE;rw[aC (δ':=dl9 P O x2 (some (.leaf (cdD bg ks))) x4 W bg ks none none) rfl];cases z:Y ks with
 |false=>rw[z]at t1;rw[b8,iP t1];exact Z ks none none (by rw[z];rfl)
 |true=>
  rw[z]at t1;obtain⟨y7,y8,e⟩:=xW (P:=P) (bg:=bg) (H:=Y) O x2 (some (.leaf (cdD bg ks))) x4 W (qc7 (ks.length+1)) ks none none H;rw[b8,iO t1,iN]
  have er:dO fY (aa (toD (d2 aN (toD (am cS (aa (toD (d2 au (vB 3) (kD (.int 1)))) ak))) (kD (.int 1)))) ak) (dl9 P O x2 (some (.leaf (cdD bg ks))) x4 W bg ks none none)=some ((qc7 (ks.length+1)).map dI):=by
   have a:toD (d2 aN (toD (am cS (aa (toD (d2 au (vB 3) (kD (.int 1)))) ak))) (kD (.int 1))) (dl9 P O x2 (some (.leaf (cdD bg ks))) x4 W bg ks none none)=some (dI (ks.length+1)):=fO (a:=ks.length) (b:=1) (aB (t:=.leaf (dI ks.length)) ((cu (x:=.tup (ks.map kpD)) (aB (t:=.leaf (.tup (ks.map kpD))) ((b9 (x:=cdD bg ks) (y:=.int 1) rfl rfl).trans rfl))).trans (by show some (T.leaf (.int ((ks.map kpD).length:Nat)))=_;rw[qa1];rfl))) rfl rfl
   unfold dO;rw[ao a (show ak _=some []from rfl),qa2];exact iU (ks.length+1) (by lia)
  rw[er,qa2,e,qk8,cF];exact Z _ y7 y8 (by rw[z];rfl)
def s6(ns:List Int)(x1 x2 x3 x4 q:Option T):De:=[some (.leaf (.lst (ns.map .int))),x1,x2,x3,x4,q,none,none,none]
def main(ns:List Int)(h:ns.length<=63):su [.lst (ns.map .int)]=some (.leaf (.bl true)):=by
 obtain⟨cs,ss,J0,B,e1,hc0,hc,hs,p⟩:=qU ns;have c1:q4 [.lst (ns.map .int),.int 1]=some (.leaf (.int (ns.getD 1 0))):=gH ns 1;have c2:q4 [.lst (ns.map .int),.int 2]=some (.leaf (.int (ns.getD 2 0))):=gH ns 2;have c3:q4 [.lst (ns.map .int),.int 3]=some (.leaf (.int (ns.getD 3 0))):=gH ns 3;generalize ns.getD 1 0=n1 at c1;generalize ns.getD 2 0=n2 at c2;generalize ns.getD 3 0=W at c3;obtain⟨L,hL,eL⟩:=jr n2 5 (by decide);obtain⟨a,b,c,d,e,rfl⟩:=five hL;obtain⟨N,hN,eN⟩:=jr n1 13 (by decide);obtain⟨bg,ks,ec,k1,k2⟩:=qW (cs:=cs) (ss:=ss) p (by lia) W [e,a] (by simp);unfold su;refine dRt ?_;show ar _ _ [some (.leaf (.lst (ns.map .int))),none,none,none,none,none,none,none,none]=_;refine gk (d:=pgD cs ss J0) (aB (t:=.leaf _) ((ia (x:=.lst (ns.map .int)) (y:=.int 8) (z:=.bl false) rfl rfl rfl).trans e1)) ?_;refine gk (d:=.lst [.str a,.str b,.str c,.str d,.str e]) (aB (t:=.lst ([a,b,c,d,e].map .str)) ((cx (x:=.int n2) (y:=.int 5) (aB (t:=.leaf _) ((cx (x:=.lst (ns.map .int)) (y:=.int 2) rfl rfl).trans c2)) rfl).trans eL)) ?_;refine gk (d:=cdD bg ks) (aB (t:=.leaf _) ((ia (x:=pgD cs ss J0) (y:=.int W) (z:=.lst [.str e,.str a]) rfl (aB (t:=.leaf _) ((cx (x:=.lst (ns.map .int)) (y:=.int 3) rfl rfl).trans c3)) rfl).trans ec)) ?_;refine gk (d:=.int (W*48271%1000000007)) ?_ ?_
 .refine aB (t:=.leaf _) ((b9 (x:=.int (W*48271)) (y:=.int 1000000007) (aB (t:=.leaf _) ((b9 (x:=.int W) (y:=.int 48271) (aB (t:=.leaf _) ((cx (x:=.lst (ns.map .int)) (y:=.int 3) rfl rfl).trans c3)) rfl).trans ?_)) rfl).trans (fS (by decide)));walk_at "d"
 generalize W*48271%1000000007=n;refine gk (d:=.lst (N.map .str)) (aB (t:=.lst (N.map .str)) ((cx (x:=.int n1) (y:=.int 13) (aB (t:=.leaf _) ((cx (x:=.lst (ns.map .int)) (y:=.int 1) rfl rfl).trans c1)) rfl).trans eN)) ?_;show ar (sIf _ _ _) lwE (s6 ns (some (.leaf (pgD cs ss J0))) (some (.leaf (.lst [.str a,.str b,.str c,.str d,.str e]))) (some (.leaf (cdD bg ks))) (some (.leaf (.int n))) (some (.leaf (.lst (N.map .str)))))=_
 have Y:tB2 (gEq false) (toD (d2 ck (vB 4) (kD (.int 5)))) (kD (.int 1)) (s6 ns (some (.leaf (pgD cs ss J0))) (some (.leaf (.lst [.str a,.str b,.str c,.str d,.str e]))) (some (.leaf (cdD bg ks))) (some (.leaf (.int n))) (some (.leaf (.lst (N.map .str)))))=some (decide (n%5=1)):=by unfold s6;walk_at "d"
 by_cases z:n%5=1
 .rw[decide_eq_true z]at Y;cases cs with
  |nil=>exact absurd hc0 (by simp)
  |cons Z cs=>
   obtain⟨O,q,er,p2,l2⟩:=lV (n/5) Z cs ss J0 a b (N.getD 12 "") (by simp at hc;lia);have hn2:=p2.n;obtain⟨J3,en,F,_⟩:=iT (c:=.tup (O.map hdD)) (s:=.tup (ss.map hdD)) p2.rd p2.out p2.b (by lia);have ea:=iE (cs:=O) (ss:=ss) p2.rd p2.out p2.b hn2 p2.pos (by lia) en F;have pl:=oz (N:=((O++ss).filter fun h=>!h.b).map (·.x)) p2.out;rw[b8,iO Y]
   have s1:aA 1 (toT (toD (am z22 (aa (toD (d2 fg (vB 4) (kD (.int 5)))) (aa (vL 1) (aa (toD (vSl (vB 2) dY (c9 (kD (.int 2))))) (aa (toD (d2 au (vB 5) (kD (.int 12)))) ak))))))) (s6 ns (some (.leaf (pgD (Z::cs) ss J0))) (some (.leaf (.lst [.str a,.str b,.str c,.str d,.str e]))) (some (.leaf (cdD bg ks))) (some (.leaf (.int n))) (some (.leaf (.lst (N.map .str)))))=some (.nx (s6 ns (some (.leaf (pgD O ss q))) (some (.leaf (.lst [.str a,.str b,.str c,.str d,.str e]))) (some (.leaf (cdD bg ks))) (some (.leaf (.int n))) (some (.leaf (.lst (N.map .str)))))):=by refine(aW (t:=.leaf (pgD O ss q)) (di (aB (t:=.leaf (pgD O ss q)) ?_))).trans rfl;unfold am;rw[ao (d:=.int (n/5)) (aB (t:=.leaf _) ((b9 (x:=.int n) (y:=.int 5) rfl rfl).trans (ip (by decide) (by decide)))) (ao (d:=pgD (Z::cs) ss J0) rfl (ao (d:=.lst [.str a,.str b]) rfl (ao (d:=.str (N.getD 12 "")) (aB (t:=.leaf _) ((b9 (x:=.lst (N.map .str)) (y:=.int ((12:Nat):Int)) rfl rfl).trans (qQ (by lia)))) (show ak _=some []from rfl)))),qa2];exact er
   rw[aC s1,aW (t:=.leaf (cdD (J3.getD 0 []) (jW (((O++ss).filter fun h=>!h.b).map (·.x)) q J3))) (di (aB (t:=.leaf _) ((cu (x:=pgD O ss q) rfl).trans ea))),cF];refine xX _ _ _ _ p2 (by lia) (fun k hk=>?_) ?_
   .obtain⟨j,hj,rfl⟩:=qd2.mp hk;exact qV p2.out hj
   .unfold jW;rw[qa1];lia
 .rw[decide_eq_false z]at Y;rw[b8,iP Y,show bV (s6 ns (some (.leaf (pgD cs ss J0))) (some (.leaf (.lst [.str a,.str b,.str c,.str d,.str e]))) (some (.leaf (cdD bg ks))) (some (.leaf (.int n))) (some (.leaf (.lst (N.map .str)))))=some (.nx (s6 ns (some (.leaf (pgD cs ss J0))) (some (.leaf (.lst [.str a,.str b,.str c,.str d,.str e]))) (some (.leaf (cdD bg ks))) (some (.leaf (.int n))) (some (.leaf (.lst (N.map .str))))))from rfl,cF];exact xX _ _ _ _ p (by lia) k1 k2
def oF(K:xA9):Sp:=fun vs H Q _=>∃(a:J9)(ns:List Int),vs=[.ref a]/\SqL K H a (ns.map V.int)/\ns.length<=63/\rX H/\∀H',Q (.bl true) H'
variable{K:xA9}
def CY{vs:List V}{H:Hp}{Q:VK}{E:XK}(h:oF K vs H Q E):spD K 1 su vs H Q E:=by
 obtain⟨a,ns,rfl,O,L,W,q⟩:=h;refine⟨H,[.lst (ns.map .int)],.leaf (.bl true),Same.refl H,rfl,?_,main ns L,fun v H' F' S st o _=>?_⟩
 .simp only[Reps,Rep];exact⟨_,[],rfl,⟨a,_,rfl,O,Reps.map (fun _=>gp) ns⟩,rfl⟩
 .have o:Rep K F' (.bl true) v:=o;simp only[Rep]at o;subst o;exact q H'
variable{h:Heap}
theorem all_mk{l:xT9}{w:Ja}{mg:Str->Option Value}{fa:J9}(X:K.In h)(G:h.Ns qc1 mg)(hfa:mg "law"=some (.ref fa))
 (a0:AtF K "_law_cell_at" y38)
 (a1:AtF K "gives" q96)
 (a2:AtF K "atoms" y96)
 (a3:AtF K "reads" q67)
 (a4:AtF K "needed_ahead" q21)
 (a5:AtF K "ways_of" y90)
 (a6:AtF K "ways" hV)
 (a7:AtF K "needed" z47)
 (a8:AtF K "plain_names" z53)
 (a9:AtF K "rows_by_kind" y29)
 (a10:AtF K "rows_led_back_to" z21)
 (a11:AtF K "all_places" z17)
 (a12:AtF K "_law_cutting" q12)
 (a13:AtF K "_law_digits" y53)
 (a14:AtF K "_law_names" z40)
 (a15:AtF K "_law_atom" z52)
 (a16:AtF K "_law_row" y43)
 (a17:AtF K "_law_program" y12)
 (a18:AtF K "kept_rows" y70)
 (a19:AtF K "end_fault" z46)
 (a20:AtF K "traced" z66)
 (a21:AtF K "route" z68)
 {cc22 Pt22:J9} (a22:AtC K "way_to_reading" z7 cc22 Pt22) (hd22:xJ9 K cc22 Pt22=true) (to22:nj K "way_to_reading"=some (Pt22,kM "way_to_reading" (bi z7)))
 (a23:AtF K "lost_fault" z41)
 (a24:AtF K "endless_rows" q22)
 (a25:AtF K "ring_fault" q23)
 (a26:AtF K "inner_ways" y30)
 (a27:AtF K "mark_behind" y23)
 (a28:AtF K "traced" q46)
 (a29:AtF K "route" q42)
 {cc30 Pt30:J9} (a30:AtC K "spoilt" y17 cc30 Pt30) (hd30:xJ9 K cc30 Pt30=true) (to30:nj K "spoilt"=some (Pt30,kM "spoilt" (bi y17)))
 (a31:AtF K "spoil_fault" z34)
 (a32:AtF K "fault" z57)
 (a33:AtF K "holds" y97)
 (a34:AtF K "_law_round" y37)
 (a35:AtF K "_law_filled" z45)
 (a36:AtF K "_law_round_about" y11)
 (a37:AtF K "without" q72)
 (a38:AtF K "gone_through" z25)
 (a39:AtF K "thinned" y58)
 (a40:AtF K "law" dU)
 (z_any:xB9 K qc1 "any"=some none)
 (z_enumerate:xB9 K qc1 "enumerate"=some none)
 (z_isinstance:xB9 K qc1 "isinstance"=some none)
 (z_len:xB9 K qc1 "len"=some none)
 (z_list:xB9 K qc1 "list"=some none)
 (z_range:xB9 K qc1 "range"=some none)
 (z_reversed:xB9 K qc1 "reversed"=some none)
 (z_set:xB9 K qc1 "set"=some none)
 (z_sorted:xB9 K qc1 "sorted"=some none)
 (z_str:xB9 K qc1 "str"=some none)
 (z_tuple:xB9 K qc1 "tuple"=some none)
 {d_A:J9} {o_A:Obj} {m_A:Nat} {t0_A:Tok} {t1_A:Tok} {t2_A:Tok} {t3_A:Tok} {t4_A:Tok} {t5_A:Tok} {t6_A:Tok} {t7_A:Tok} {Y:J9} {a1_A:J9} {O:J9} {L:J9} {Z:J9} {q:J9} {a6_A:J9} {a7_A:J9} (b_A:xB9 K qc1 "ATOM_PLACES"=some (some (.ref d_A))) (l_A:K.lookup d_A=some o_A) (e_A:o_A.ExactDict) (f_A:o_A.data=.dict #[⟨qk4 w.params "copy",.str "copy" t0_A,.ref Y⟩,⟨qk4 w.params "op",.str "op" t1_A,.ref a1_A⟩,⟨qk4 w.params "store",.str "store" t2_A,.ref O⟩,⟨qk4 w.params "take",.str "take" t3_A,.ref L⟩,⟨qk4 w.params "lay",.str "lay" t4_A,.ref Z⟩,⟨qk4 w.params "say",.str "say" t5_A,.ref q⟩,⟨qk4 w.params "if",.str "if" t6_A,.ref a6_A⟩,⟨qk4 w.params "end",.str "end" t7_A,.ref a7_A⟩] m_A) (z_A:(d_A==qh9)=false)
 {o0_A:Obj} {i0_A:Array Value} {m0_A:Nat} (l0_A:K.lookup Y=some o0_A) (e0_A:o0_A.cls=.type "tuple") (f0_A:o0_A.data=.seq i0_A m0_A) (r0_A:Vals [V.int 2,V.int 3] i0_A.toList)
 {o1_A:Obj} {i1_A:Array Value} {m1_A:Nat} (l1_A:K.lookup a1_A=some o1_A) (e1_A:o1_A.cls=.type "tuple") (f1_A:o1_A.data=.seq i1_A m1_A) (r1_A:Vals [V.int 3,V.int 5] i1_A.toList)
 {o2_A:Obj} {i2_A:Array Value} {m2_A:Nat} (l2_A:K.lookup O=some o2_A) (e2_A:o2_A.cls=.type "tuple") (f2_A:o2_A.data=.seq i2_A m2_A) (r2_A:Vals [V.int 2,V.int 3] i2_A.toList)
 {o3_A:Obj} {i3_A:Array Value} {m3_A:Nat} (l3_A:K.lookup L=some o3_A) (e3_A:o3_A.cls=.type "tuple") (f3_A:o3_A.data=.seq i3_A m3_A) (r3_A:Vals [V.int 3,V.int 4] i3_A.toList)
 {o4_A:Obj} {i4_A:Array Value} {m4_A:Nat} (l4_A:K.lookup Z=some o4_A) (e4_A:o4_A.cls=.type "tuple") (f4_A:o4_A.data=.seq i4_A m4_A) (r4_A:Vals [V.int 2,V.int 4] i4_A.toList)
 {o5_A:Obj} {i5_A:Array Value} {m5_A:Nat} (l5_A:K.lookup q=some o5_A) (e5_A:o5_A.cls=.type "tuple") (f5_A:o5_A.data=.seq i5_A m5_A) (r5_A:Vals [V.int 1,V.int 2] i5_A.toList)
 {o6_A:Obj} {i6_A:Array Value} {m6_A:Nat} (l6_A:K.lookup a6_A=some o6_A) (e6_A:o6_A.cls=.type "tuple") (f6_A:o6_A.data=.seq i6_A m6_A) (r6_A:Vals [V.int 1,V.int 2] i6_A.toList)
 {o7_A:Obj} {i7_A:Array Value} {m7_A:Nat} (l7_A:K.lookup a7_A=some o7_A) (e7_A:o7_A.cls=.type "tuple") (f7_A:o7_A.data=.seq i7_A m7_A) (r7_A:Vals [V.int 1,V.int 2] i7_A.toList)
 {u_D:Value} (b_D:xB9 K qc1 "FRESH"=some (some u_D)) (r_D:RelV (.str "fresh") u_D)
 {u_F:Value} (b_F:xB9 K qc1 "SAFE"=some (some u_F)) (r_F:RelV (.str "safe") u_F)
 {u_E:Value} (b_E:xB9 K qc1 "SEEN"=some (some u_E)) (r_E:RelV (.str "seen") u_E)
 {d_B:J9} {o_B:Obj} {i_B:Array Value} {m_B:Nat} (b_B:xB9 K qc1 "SETTING"=some (some (.ref d_B))) (l_B:K.lookup d_B=some o_B) (e_B:o_B.cls=.type "tuple") (f_B:o_B.data=.seq i_B m_B) (r_B:Vals [V.str "copy",V.str "op",V.str "load",V.str "take",V.str "hear"] i_B.toList)
 {u_C:Value} (b_C:xB9 K qc1 "SPOILT"=some (some u_C)) (r_C:RelV (.str "spoilt") u_C)
 (zIS:qG K=true)
 (kd_str:qm K "str")
 : ∃fd:qp2,(∀(s:qa4)(v:Value),qz9 s fd ⟨[v],[]⟩ [("_law_script",v)])/\∀base:Heap,K.In base->base.Ns qc1 mg->qu mg base->FnOk l.prog w K mg base CX0 11 fa fd ["_law_script"] (oF K):=by
 obtain⟨f40,oc40,od40,an40,sl40,kV40,dc40,pm40,cd40,ct40,a40,l40,c40,k40⟩:=a40;have e:=hfa.symm.trans (xI9 X G a40);cases e;have T:Txt l.prog w K mg:={n_any:=xG9 X G z_any,n_enumerate:=xG9 X G z_enumerate,n_isinstance:=xG9 X G z_isinstance,n_len:=xG9 X G z_len,n_list:=xG9 X G z_list,n_range:=xG9 X G z_range,n_reversed:=xG9 X G z_reversed,n_set:=xG9 X G z_set,n_sorted:=xG9 X G z_sorted,n_str:=xG9 X G z_str,n_tuple:=xG9 X G z_tuple,g_A:=yT [("copy",t0_A,.ref Y,.ref Y),("op",t1_A,.ref a1_A,.ref a1_A),("store",t2_A,.ref O,.ref O),("take",t3_A,.ref L,.ref L),("lay",t4_A,.ref Z,.ref Z),("say",t5_A,.ref q,.ref q),("if",t6_A,.ref a6_A,.ref a6_A),("end",t7_A,.ref a7_A,.ref a7_A)] (xI9 X G b_A) l_A e_A f_A z_A (show(["copy","op","store","take","lay","say","if","end"]:List Str).Nodup by decide +kernel) (by simp[RelV]) (fun F=>yU (.cons (dP l0_A e0_A f0_A r0_A (by decide) (by simp[Reps,Rep])) (.cons (dP l1_A e1_A f1_A r1_A (by decide) (by simp[Reps,Rep])) (.cons (dP l2_A e2_A f2_A r2_A (by decide) (by simp[Reps,Rep])) (.cons (dP l3_A e3_A f3_A r3_A (by decide) (by simp[Reps,Rep])) (.cons (dP l4_A e4_A f4_A r4_A (by decide) (by simp[Reps,Rep])) (.cons (dP l5_A e5_A f5_A r5_A (by decide) (by simp[Reps,Rep])) (.cons (dP l6_A e6_A f6_A r6_A (by decide) (by simp[Reps,Rep])) (.cons (dP l7_A e7_A f7_A r7_A (by decide) (by simp[Reps,Rep])) .nil))))))))),g_D:=jf ⟨_,xI9 X G b_D,r_D⟩,g_F:=jf ⟨_,xI9 X G b_F,r_F⟩,g_E:=jf ⟨_,xI9 X G b_E,r_E⟩,g_B:=v3 (xI9 X G b_B) l_B e_B f_B r_B (by decide) (fun F=>by simp[Reps,Rep]),g_C:=jf ⟨_,xI9 X G b_C,r_C⟩,is:=zIS,k_str:=kd_str};refine⟨xC9 "law" "law" (cK dU) (bi dU) (ac dU) .none kV40 dc40 pm40 an40 cd40 ct40,fun s v=>.of_eq rfl,fun base kb _ bm=>?_⟩;have q13:=y120 (base:=base) T (a0.df X G fun _ _ _ _ _ _=>el2 fun _ _=>rfl);have y82:=y143 (base:=base) T (a1.df X G fun _ _ _ _ _ _=>el1 fun _=>rfl);have q127:=y141 (base:=base) T (a2.df X G fun _ _ _ _ _ _=>el1 fun _=>rfl);have z82:=y142 T (a3.df X G fun _ _ _ _ _ _=>el1 fun _=>rfl) q127;have y69:=y119 T (a4.df X G fun _ _ _ _ _ _=>el2 fun _ _=>rfl) y82 z82;have z113:=z140 (base:=base) T (a5.df X G fun _ _ _ _ _ _=>el2 fun _ _=>rfl);have h_ways:=z145 T (a6.df X G fun _ _ _ _ _ _=>el1 fun _=>rfl) z113;have z43:=z141 T (a7.df X G fun _ _ _ _ _ _=>el1 fun _=>rfl) y69 h_ways;have z19:=y126 (base:=base) T (a8.df X G fun _ _ _ _ _ _=>el1 fun _=>rfl);have q65:=y122 T (a9.df X G fun _ _ _ _ _ _=>el1 fun _=>rfl) z19;have y48:=z108 T (a10.df X G fun _ _ _ _ _ _=>el1 fun _=>rfl) h_ways;have q38:=y130 T (a11.df X G fun _ _ _ _ _ _=>el1 fun _=>rfl) z43 q65 y48;have y66:=q121 T (a12.df X G fun _ _ _ _ _ _=>el3 fun _ _ _=>rfl) q38 z43;have z14:=q129 (base:=base) T (a13.df X G fun _ _ _ _ _ _=>el2 fun _ _=>rfl);have z26:=q130 T (a14.df X G fun _ _ _ _ _ _=>el2 fun _ _=>rfl) z14;have q37:=y133 (base:=base) T (a15.df X G fun _ _ _ _ _ _=>el3 fun _ _ _=>rfl);have z100:=q138 T (a16.df X G fun _ _ _ _ _ _=>el5 fun _ _ _ _ _=>rfl) q37 z14;have q68:=y121 T (a17.df X G fun _ _ _ _ _ _=>el3 fun _ _ _=>rfl) q37 q13 z14 z26 z100;have q14:=y134 (base:=base) T (a18.df X G fun _ _ _ _ _ _=>el1 fun _=>rfl);have z94:=q135 T (a19.df X G fun _ _ _ _ _ _=>el2 fun _ _=>rfl) q14
 have y118:=y140 (base:=base) T (a20.df X G fun _ _ _ _ _ _=>el2 fun _ _=>rfl);have q125:=q144 T (a21.df X G fun _ _ _ _ _ _=>el3 fun _ _ _=>rfl) y118;have y54:=q114 T (a22.df X G fun _ _ _ _ _ _=>el3 fun _ _ _=>rfl) (TabB.mk' kb hd22 bm) (se rfl to22) y82 z82 q125 h_ways;have q84:=z130 T (a23.df X G fun _ _ _ _ _ _=>el2 fun _ _=>rfl) z43 y54;have z70:=q122 (base:=base) T (a24.df X G fun _ _ _ _ _ _=>el2 fun _ _=>rfl);have z84:=y129 T (a25.df X G fun _ _ _ _ _ _=>el2 fun _ _=>rfl) z70 q14 h_ways;have y84:=y131 T (a26.df X G fun _ _ _ _ _ _=>el2 fun _ _=>rfl) q14 h_ways;have y52:=z127 (base:=base) T (a27.df X G fun _ _ _ _ _ _=>el3 fun _ _ _=>rfl);have z92:=z133 (base:=base) T (a28.df X G fun _ _ _ _ _ _=>el2 fun _ _=>rfl);have z102:=z138 T (a29.df X G fun _ _ _ _ _ _=>el3 fun _ _ _=>rfl) z92;have y117:=q141 T (a30.df X G fun _ _ _ _ _ _=>el3 fun _ _ _=>rfl) (TabB.mk' kb hd30 bm) (se rfl to30) y84 q14 y52 z19 z102;have q74:=z126 T (a31.df X G fun _ _ _ _ _ _=>el2 fun _ _=>rfl) z19 y117;have z124:=q142 T (a32.df X G fun _ _ _ _ _ _=>el2 fun _ _=>rfl) z94 q84 z84 q74;have q34:=q143 T (a33.df X G fun _ _ _ _ _ _=>el2 fun _ _=>rfl) z124;have y83:=z131 T (a34.df X G fun _ _ _ _ _ _=>el2 fun _ _=>rfl) q34;have y73:=q124 (base:=base) T (a35.df X G fun _ _ _ _ _ _=>el3 fun _ _ _=>rfl);have q48:=z107 T (a36.df X G fun _ _ _ _ _ _=>el4 fun _ _ _ _=>rfl) z14 y73;have z112:=y139 (base:=base) T (a37.df X G fun _ _ _ _ _ _=>el2 fun _ _=>rfl);have q51:=z120 T (a38.df X G fun _ _ _ _ _ _=>el2 fun _ _=>rfl) q34 q14 z112;have z111:=q140 T (a39.df X G fun _ _ _ _ _ _=>el2 fun _ _=>rfl) q51 q34;exact(B9 T (nA (st:=dU) l40 c40 k40) q13 y66 z26 q68 y83 q48 q38 q34 z111).imp fun vs H Q E z=>CY z
theorem EG{ts:List J9}(X:K.In h)(Y:∀P∈ts,h.get? P=some (xK9 #[])){Z L:J9}(a0:AtC K "way_to_reading" z7 Z L)(hd0:xJ9 K Z L=true)(n0:K.lookup L=none)(m0:L∈ts){O q:J9}(a1:AtC K "spoilt" y17 O q)(hd1:xJ9 K O q=true)(n1:K.lookup q=none)(m1:q∈ts)(e:dL K=[(L,kM "way_to_reading" (bi z7)),(q,kM "spoilt" (bi y17))])(ne:L≠q):TabsIn K h:=TabsIn.two X e ne n0 n1 hd0 hd1 (Y _ m0) (Y _ m1)
theorem walk {l:xT9} {q:qc6} {loose:List Str} {XP:(Str->Option Value)->Heap->Prop} {YP:Ja->Heap->Prop} {d:DefRec} {K:Params->xA9} (hn:l.most=some 63) (L:d.params.defaults=[])
  (Y:∀(w:Ja)(h:Heap),YP w h->(K w.params).In h) (hT:∀(w:Ja)(h:Heap),YP w h->TabsIn (K w.params) h)
  (F:∀(w:Ja)(mg:Str->Option Value)(fa:J9)(h:Heap),(K w.params).In h->h.Ns qc1 mg->mg d.name=some (.ref fa)→
   ∃fd:qp2,(∀(s:qa4)(u:Value),qz9 s fd ⟨[u],[]⟩ [("_law_script",u)])/\∀base:Heap,(K w.params).In base->base.Ns qc1 mg->qu mg base->FnOk l.prog w (K w.params) mg base CX0 11 fa fd ["_law_script"] (oF (K w.params))) :
  PySem.W.WalkO q loose XP YP l.row.toRowW d [] (fun f vs=>PySem.call f vs):=
 L2.DZ (n:=63) (k:=11) (x:="_law_script") (CX:=fun _=>CX0) (sp:=fun w=>oF (K w.params)) hn (by decide) L ⟨rfl,by decide,by decide⟩ Y hT F (fun _ _ a ns O Z hS=>⟨a,ns,rfl,hS,O,Z,fun _=>rfl⟩) fun _ _ _ _ _ z=>z
end P53
open PySem PySem.W PyProof.Rows
local macro_rules | `(tactic| walk_at "f") => `(tactic| (refine' L2.AtF.mk ?za ?zl ?zc ?zk; (case za => k_is); (case zl => k_is); (case zc => k_is); (case zk => k_is)))
local macro_rules | `(tactic| walk_at "c") => `(tactic| (refine' L2.AtC.mk ?za ?zl ?zc ?zk ?zx ?zp; (case za => k_is); (case zl => k_is); (case zc => k_is); (case zk => k_is); (case zx => k_is); (case zp => exact rfl)))
set_option maxRecDepth 100000 in
set_option maxHeartbeats 0 in
theorem PySem.Challenge.cw_dimhouse_k53_thinned_holds : PySem.Challenge.rw_dimhouse_k53_thinned.Holds := by
 w_on;o_law
 refine holds_open (q:=P53.seen) (loose:=[PySem.Str.ofString "ATOM_PLACES"]) (Xt:=fun s=>xlAt P53.seen [] s&&recOk (zh9 (zf2 PySem.Challenge.rw_dimhouse_k53_thinned.row)) s) (XP:=XL P53.seen []) (Yf:=Hook.obs P53.hook) (Ya:=Hook.val P53.hook) (YP:=Hook.says P53.hook) (N:=2974) ?hl (Hook.of P53.hook) (Hook.keeps P53.hook) (fun s e=>xl_of s (qp7.mp e).1) XL.keeps (by rfl) (by rfl) (by rfl) (fun s e=>recFacts_of (qp7.mp e).2) (by rfl) (by first | assumption | decide +kernel) (by decide +kernel) ⟨rfl,rfl,rfl,rfl,rfl,by decide +kernel⟩ ?hw ?hc
 case hl=>exact LeftO.of_split "special-get-raises" fun w=>P53.map_two (P53.run_false w) (P53.run_true w)
 case hw=>w_witness2
 delta P53.hook
 k_fill
 refine P53.walk (l:=PySem.Challenge.rw_dimhouse_k53_thinned) rfl rfl (fun w h Y=>PySem.W.km_in_of Y) ?T ?F
 case T =>
  intro w h Y;refine' P53.EG (PySem.W.km_in_of Y) (PySem.W.km_tabs_of Y) ?a0 ?hd0 ?n0 ?m0 ?a1 ?hd1 ?n1 ?m1 ?e ?ne
  (case a0=>walk_at "c")
  (case hd0=>kernel_rfl)
  (case n0=>kernel_rfl)
  (case m0=>simp)
  (case a1=>walk_at "c")
  (case hd1=>kernel_rfl)
  (case n1=>kernel_rfl)
  (case m1=>simp)
  (case e=>kernel_rfl)
  (case ne=>decide)
 case F =>
  intro w mg fa h O G L;refine' P53.all_mk O G L ?a0 ?a1 ?a2 ?a3 ?a4 ?a5 ?a6 ?a7 ?a8 ?a9 ?a10 ?a11 ?a12 ?a13 ?a14 ?a15 ?a16 ?a17 ?a18 ?a19 ?a20 ?a21 ?a22 ?hd22 ?to22 ?a23 ?a24 ?a25 ?a26 ?a27 ?a28 ?a29 ?a30 ?hd30 ?to30 ?a31 ?a32 ?a33 ?a34 ?a35 ?a36 ?a37 ?a38 ?a39 ?a40 ?z_any ?z_enumerate ?z_isinstance ?z_len ?z_list ?z_range ?z_reversed ?z_set ?z_sorted ?z_str ?z_tuple ?b_A ?l_A ?e_A ?f_A ?z_A ?l0_A ?e0_A ?f0_A ?r0_A ?l1_A ?e1_A ?f1_A ?r1_A ?l2_A ?e2_A ?f2_A ?r2_A ?l3_A ?e3_A ?f3_A ?r3_A ?l4_A ?e4_A ?f4_A ?r4_A ?l5_A ?e5_A ?f5_A ?r5_A ?l6_A ?e6_A ?f6_A ?r6_A ?l7_A ?e7_A ?f7_A ?r7_A ?b_D ?r_D ?b_F ?r_F ?b_E ?r_E ?b_B ?l_B ?e_B ?f_B ?r_B ?b_C ?r_C ?zIS ?kd_str
  (case a0=>walk_at "f")
  (case a1=>walk_at "f")
  (case a2=>walk_at "f")
  (case a3=>walk_at "f")
  (case a4=>walk_at "f")
  (case a5=>walk_at "f")
  (case a6=>walk_at "f")
  (case a7=>walk_at "f")
  (case a8=>walk_at "f")
  (case a9=>walk_at "f")
  (case a10=>walk_at "f")
  (case a11=>walk_at "f")
  (case a12=>walk_at "f")
  (case a13=>walk_at "f")
  (case a14=>walk_at "f")
  (case a15=>walk_at "f")
  (case a16=>walk_at "f")
  (case a17=>walk_at "f")
  (case a18=>walk_at "f")
  (case a19=>walk_at "f")
  (case a20=>walk_at "f")
  (case a21=>walk_at "f")
  (case a22=>walk_at "c")
  (case hd22=>kernel_rfl)
  (case to22=>kernel_rfl)
  (case a23=>walk_at "f")
  (case a24=>walk_at "f")
  (case a25=>walk_at "f")
  (case a26=>walk_at "f")
  (case a27=>walk_at "f")
  (case a28=>walk_at "f")
  (case a29=>walk_at "f")
  (case a30=>walk_at "c")
  (case hd30=>kernel_rfl)
  (case to30=>kernel_rfl)
  (case a31=>walk_at "f")
  (case a32=>walk_at "f")
  (case a33=>walk_at "f")
  (case a34=>walk_at "f")
  (case a35=>walk_at "f")
  (case a36=>walk_at "f")
  (case a37=>walk_at "f")
  (case a38=>walk_at "f")
  (case a39=>walk_at "f")
  (case a40=>walk_at "f")
  (case z_any | z_enumerate | z_isinstance | z_len | z_list | z_range | z_reversed | z_set | z_sorted | z_str | z_tuple | b_A | l_A=>k_is)
  (case e_A=>exact ⟨rfl,rfl,rfl⟩)
  (case f_A=>rfl)
  (case z_A=>rfl)
  (case l0_A=>k_is)
  (case e0_A=>rfl)
  (case f0_A=>rfl)
  (case r0_A=>exact (.cons ⟨_,rfl⟩ (.cons ⟨_,rfl⟩ .nil)))
  (case l1_A=>k_is)
  (case e1_A=>rfl)
  (case f1_A=>rfl)
  (case r1_A=>exact (.cons ⟨_,rfl⟩ (.cons ⟨_,rfl⟩ .nil)))
  (case l2_A=>k_is)
  (case e2_A=>rfl)
  (case f2_A=>rfl)
  (case r2_A=>exact (.cons ⟨_,rfl⟩ (.cons ⟨_,rfl⟩ .nil)))
  (case l3_A=>k_is)
  (case e3_A=>rfl)
  (case f3_A=>rfl)
  (case r3_A=>exact (.cons ⟨_,rfl⟩ (.cons ⟨_,rfl⟩ .nil)))
  (case l4_A=>k_is)
  (case e4_A=>rfl)
  (case f4_A=>rfl)
  (case r4_A=>exact (.cons ⟨_,rfl⟩ (.cons ⟨_,rfl⟩ .nil)))
  (case l5_A=>k_is)
  (case e5_A=>rfl)
  (case f5_A=>rfl)
  (case r5_A=>exact (.cons ⟨_,rfl⟩ (.cons ⟨_,rfl⟩ .nil)))
  (case l6_A=>k_is)
  (case e6_A=>rfl)
  (case f6_A=>rfl)
  (case r6_A=>exact (.cons ⟨_,rfl⟩ (.cons ⟨_,rfl⟩ .nil)))
  (case l7_A=>k_is)
  (case e7_A=>rfl)
  (case f7_A=>rfl)
  (case r7_A=>exact (.cons ⟨_,rfl⟩ (.cons ⟨_,rfl⟩ .nil)))
  (case b_D=>k_is)
  (case r_D=>exact ⟨_,rfl⟩)
  (case b_F=>k_is)
  (case r_F=>exact ⟨_,rfl⟩)
  (case b_E=>k_is)
  (case r_E=>exact ⟨_,rfl⟩)
  (case b_B | l_B=>k_is)
  (case e_B=>rfl)
  (case f_B=>rfl)
  (case r_B=>exact (.cons ⟨_,rfl⟩ (.cons ⟨_,rfl⟩ (.cons ⟨_,rfl⟩ (.cons ⟨_,rfl⟩ (.cons ⟨_,rfl⟩ .nil))))))
  (case b_C=>k_is)
  (case r_C=>exact ⟨_,rfl⟩)
  (case zIS=>kernel_rfl)
  (case kd_str=>exact fun d Z=>by cases d<;>first | (cases Z;done) | k_is | rfl)
