import PyProof.Rows.All
import KE.KNest
import Wide.All
import OpenK.AllK
import Wide.FinOn
import Lean
import PyProof.EqAt
import PyProof.EqKinds
import PyProof.TupleCall
import PySem.Challenge.RW_dimhouse_k52_whole_made
open Array renaming length_toList→qd8,getElem?_eq_getElem→qh0,getElem?_eq_none→qo8,getElem?_toList→qp5,toList_append→qx1,toList_push→za3
open Bool renaming and_eq_true→qb3,false_ne_true→qb6,false_eq_true→qf4,not_eq_true'→qi1,or_eq_true→qi8,true_and→qi9,eq_iff_iff→qj8,and_true→qo2,and_eq_true_iff→qq7,and_false→qu1,and_eq_false_imp→qu5,or_eq_false_iff→qv5,or_false→qv6,and_self→qv7,false_and→zg4,false_or→zi3,true_or→zj5
open Classical renaming byContradiction→qz0
open False renaming elim→qg9
open ForInStep renaming yield→qp4
open Int renaming toNat_natCast→qe2,emod_nonneg→qx5,emod_lt_of_pos→qy8
open Lean renaming maxHeartbeats→qp8,maxRecDepth→qr5
open List renaming length_map→qa1,mem_singleton→qa4,map_cons→qa6,mem_cons→qa8,getElem?_map→qb1,getElem?_append_left→qb4,getD_eq_getElem?_getD→qb5,size_toArray→qb7,mem_map→qb8,length_append→qc0,replicate→qc1,map_map→qc6,mem_append_right→qc7,mem_of_getElem?→qc8,getElem?_append_right→qc9,range→qd0,length_cons→qd2,mem_cons_of_mem→qd5,length_filter_le→qd6,mem_append→qe1,mem_cons_self→qe7,mem_range→qe9,mem_append_left→qf0,map_append→qf5,getElem?_set_self→qf6,mem_filter→qg4,append_nil→qg5,lookup_cons→qg6,not_mem_nil→qg7,pairwise_cons→qh4,foldl_cons→qh6,getElem?_eq_none_iff→qh7,replicate_succ→qh9,nodup_cons→qi6,append_assoc→qj5,map_nil→qj9,all_eq_true→qk1,getElem?_of_mem→qk3,getElem?_replicate→qk4,all_cons→qk5,any_cons→qk6,getElem?_cons_succ→qk7,nodup_append→ql0,length_replicate→qm0,length_singleton→qm1,getElem?_eq_getElem→qm9,flatten_cons→qn3,length_range→qn5,reverse_cons→qo0,filter_sublist→qo3,length_pos_iff→qo4,length→qp2,find?_cons→qp3,nodup_iff_pairwise_ne→qq4,getElem?_zip_eq_some→qr0,getElem_mem→qr4,length_reverse→qr6,set_cons_zero→qs5,set_cons_succ→qs6,nil_append→qt0,sum_cons→qt1,nodup_nil→qu2,length_take→qu9,length_drop→qv1,ext_getElem→qv2,eq_nil_of_length_eq_zero→qv3,filterMap_cons→qw4,of_mem_zip→qw8,length_nil→qw9,map_congr_left→qx2,length_eraseIdx_of_lt→qx9,mem_filterMap→qy2,getElem?_drop→qy6,mem_of_find?_eq_some→qz1,mapIdx_eq_zipIdx_map→qz3,getElem?_take_of_lt→qz5,take_sublist→qz6,pairwise_map→za4,ext_getElem?→za6,idxOf_lt_length_iff→za7,pairwise_mergeSort→zb6,length_eq_zero_iff→zc0,getElem?_cons_zero→zc2,map_drop→zc3,cons_append→zc4,mapIdx_cons→zc5,any_eq_true→zc6,take_of_length_le→zd1,pairwise_lt_range→zd2,find?_cons_of_neg→zd4,drop_of_length_le→zd5,getElem?_toArray→ze7,getElem?_eq_none→zf4,foldl→zf8,map_take→zi7,all_nil→zj7,map→zj9,Perm→zk5
open List.Pairwise renaming nil→qq1,imp→qt7
open List.Perm renaming refl→qz2
open List.Sublist renaming refl→qu0
open Nat renaming le_trans→qb9,lt_of_lt_of_le→qc2,ne_of_lt→qc4,lt_succ_of_lt→qi3,zero_le→qi7,le_of_lt→qj1,lt_succ_self→ql7,lt_irrefl→ql8,ne_of_gt→ql9,not_lt_zero→qn7,le_refl→qp1,le_of_lt_succ→qt9,sub_self→qu7,not_lt→qw2,lt_trans→qy4,lt_of_le_of_lt→qy5,lt_of_le_of_ne→qy9,mod_lt→za5,le_succ→zb5,zero_add→zf5,mul_le_mul→zg8,succ_mul→zj4
open Ne renaming symm→qq5
open Option renaming bind_some→qa3,map_some→qm8,isSome_map→qq0,join_some→qr2,isSome_iff_exists→qs0,bind_eq_some_iff→qs2,map_eq_some_iff→qt2
open Option.some renaming inj→qd9,injEq→qt3
open PyProof.Rows renaming callWith_type1→qf9,slot_tuple_getitem→qg0,envOfC→qz4,subscriptTail_builtinR→zc9,AllBare→zd7,IntsAre→zh0,subscriptTail→zi2
open PyProof.Rows.F renaming plain_set_update_loop→qs8,entry_set_update_loop→zb9
open PySem renaming Value→Vz,wpAny_pure→qa2,Shared→qa5,starEach→qa7,sizeLine→qb2,mainGlobals→qc3,Program→qd1,wpAny_newObj_type→qd4,bootBuiltins→qd7,Around→qe0,wpAny_callSpecial?_slot→qe5,wpAny_call_entry→qf1,wpAny_setState_of→qf2,compareOp→qf7,rawInt→qf8,SetTable→qg3,cellsFrom→qh1,wpAny_bind→qh3,behindInMarks→qh8,wpAny_truthy_bool→qi0,wpAny_holding→qi5,sysModules→qj0,Arguments→qj2,foldedSetIterable→qj3,Builtin→qj4,backTo→qj6,wpAny_setField→qj7,wpAny_typeNameOfWhole_keyiter→qk2,wpAny_mono→qk9,wpAny_ite_split→ql2,binaryOp→ql4,builtinLookup_eq_fast→qm2,firstArgMember→qm5,assignEach→qn0,wpAny_passesOwn→qn1,wpAny_typeNameOf_keyiter→qn6,scanBound→qn8,swapsWith→qo5,wpAny_askSetting→qo6,wpAny_Call_Name_kw→qo9,NameKind→qp0,codeAny_builtin→qp6,FuncData→qp9,codeAny→qq6,codeAmong→qq8,wpAny_fieldsOf→qr1,wpAny_isInstance→qr3,codeAny_mono→qr9,tupleKind_room_in1→qs4,wpAny_attempt→qs7,typeLookup_type→qs9,wpAny_pyIter_list→qt4,wpAny_field→qt5,sliceBounds→qt6,fits_of_scanBound→qt8,wpAny_seqItems→qu3,wpAny_typeOf→qu4,noFill_tuple_add→qv0,plainId_quiet→qw0,builtinsNs→qw1,wpAny_rule→qw3,wpAny_execs_nil→qw5,letOwnedTupleGo→qw6,sizeLine_eq→qw7,wpAny_specialOf→qx0,pyNext→qy0,wpAny_pyIter_tuple→qy1,concat_meets→qy3,wpAny_comprehension_free→qz7,wpAny_pyIter_slot→za0,wpAny_dictEntries→za1,BindsTo→za9,seq_tuple_add→zb0,getItem→zb1,attributeBase→zb2,wpAny_of_eq→zb3,wpAny_handled→zb4,setField→zb7,relayAll→zb8,setNext→zc1,wpAny_pyNext_range_end→zc7,wpAny_pyIter_rangeiter→zc8,codeAny_compStart_list→zd0,TriplesOk→zd6,storeName→zd8,wpAny_storeName_local→zd9,wpAny_isTrue_Compare1→ze0,assign→ze1,holding→ze2,Keyword→ze3,InCallC→ze4,codeAny_call_function→ze5,wpAny_dictEpoch→zf0,wpAny_isOneOf_keyiter→zf1,pickOrder→zf2,wpAny_updateSeq→zf3,typeLookup→zf6,call_meets→zf9,closureFor→zg0,compPost→zg1,setEntries→zg2,IsPart→zg5,isSubtype_stop→zg6,isSubtype_type→zg7,IsRangeIter→zg9,subscripted→zh1,keywordEach→zh2,valueAt→zh3,wpAny_throw→zh5,tupleKind→zh7,wpAny_standAt→zh8,swapsWithSole→zh9,swappedStores→zi0,bindArgs→zi1,newExc→zi4,raiseNew→zi5,wpAny_call→zi8,callerA→zi9,setsByText→zj0,pyIter→zj2,name_of_addr→zj3,newTuple→zj8,treeTable→zk0,PassesOwn→zk3,DictEntry→zk4
open PySem.Around renaming under_plainId→qm7
open PySem.AutoSeq1 renaming wpAny_loadPart'→qs1
open PySem.Builtin.Dict renaming showsAll→ze9
open PySem.Builtin.Dict_items renaming ownsTuple→qv9
open PySem.Builtin.List renaming listExtendWith→qh2,listLengthHint→ql1,listTooLong→qn4,listSameRef→qn9,listItems→zd3
open PySem.Builtin.Range renaming rangeSize→qd3,rangeFitsLong→qx4
open PySem.Builtin.Slice renaming slicePlaces→qm3,sliceAdjust→qq9,sliceApplied→qx7
open PySem.Builtin.SmallTypes renaming nextOf→qm4
open PySem.Builtin.Str renaming occurrences→qs3
open PySem.Builtin.Tuple renaming tupleExact→qn2,tupleItemsOf→qx8
open PySem.Calls renaming Name_function_global→qx6
open PySem.F renaming slot_dict_keyiterator_next→qi4,slot_tuple_iterator_next→ql6,called_set→qp7,args_dict_keyiterator_next_1→qu6,entry_dict_keyiterator_next→qv4,args_tuple_iterator_next_1→qv8,entry_tuple_iterator_next→qx3
open PySem.Heap renaming get?_push_size→qa9,lt_size→qb0,get?_update_self→qe6,size_push→qg1,get?_push_of_some→ql3,get?_update_other→ql5,SameBut→qo1,ExtBut→zh4
open PySem.Heap.SameBut renaming update→qe8
open PySem.NameKind renaming free→qe3
open PySem.Obj renaming data_mapFields→qe4,isFreed_of_fields→qi2,mapSeq→qo7,cls_mapFields→qq2,mapFields→qq3
open PySem.PassesOwn renaming never→qc5
open PySem.PyData renaming keyHash→qk8
open PySem.SeqAt renaming EqAt→qg8,RcAt→qz8,RcNeAt→ze8
open PySem.SeqAt.EqAt renaming of_refs→qy7,same→ze6
open PySem.SeqAt.RcAt renaming lists_lengths→qz9
open PySem.SetTable renaming below→qg2,grown→qm6,insertAt→za2
open PySem.Shared renaming TypeIs→zi6
open PySem.Str renaming ofString→qa0,length→zf7
open PySem.Value renaming ref→qf3,none→qh5,type→qk0,bool→qr7,isStrOf→zh6,int→zk1,str→zk2
open PySem.W.OpenRow renaming toRowW→zg3
open PySem.W.RowW renaming records→zj1
open PySem.pickOrder renaming go→zj6
open Sum renaming inr→qu8,inl→za8
open True renaming intro→qr8
set_option Elab.async false
set_option linter.all false
namespace P52
open PySem PySem.W PyProof.Rows
section
local macro_rules | `(tactic| o_head $_) => `(tactic| exact (by assumption : ∀ p : Prop, p) _)
set_option maxRecDepth 100000 in
set_option maxHeartbeats 0 in
def pre(q:∀p:Prop,p):PySem.Challenge.rw_dimhouse_k52_whole_made.row.Holds:=by k_head
end
def seen:qd1:={PySem.Challenge.pw_dimhouse_k52_whole_made with main:={PySem.Challenge.pw_dimhouse_k52_whole_made.main with body:=[1,2,3,4,6,7,8,9,10,11,12,14,15,16,17,18,19,20,21,22,24,25,26,27,28,29,30,31,33,34,35,36,37,38,39,41,42,43,44,45,46,47,48,49,50,51,52,53,54,55].filterMap fun i=>PySem.Challenge.pw_dimhouse_k52_whole_made.main.body[i]?}}
noncomputable abbrev hook:Hook:=kmHook P52.pre.heap_1 [2,3,15,17,18,20,21,22,25,26,27,29,30,32,33,34,36,37,39,40,41,42,43,44,45,46,47,48,49,50,51,53,54,56,57,58,60,61,63,64,65,67,68,70,71,72,75,76,77,80,81,82,85,86,87,90,91,92,95,96,97,99,100,102,103,104,107,108,109,111,112,114,115,116,119,120,121,124,125,126,128,129,131,132,133,135,136,138,139,140,143,144,145,147,148,150,151,152,154,155,157,158,159,162,163,164,166,167,169,170,171,174,175,176,179,180,181,183,184,186,187,188,190,191,193,194,195,197,198,200,201,202,204,205,207,208,209,211,212,214,215,216,218,219,221,222,223,225,226,228,229,230,232,233,235,236,237,239,240,242,243,244,247,248,249,252,253,254,256,257,259,260,261,264,265,266,268,269,271,272,273,276,277,278,280,281,283,284,285,288,289,290,293,294] (fun _=>by kernel_rfl) [134,105]
def map_two {α β γ:Type} {x:Option α} {f:α→β} {g:α→γ} {a:β} {b:γ} (h:x.map f=some a) (h':x.map g=some b):x.map (fun s=>(f s,g s))=some (a,b):=by
  cases x with
  |none=>cases h
  |some s=>simp only[qm8,qt3]at h h' ⊢;rw[h,h']
set_option maxRecDepth 100000 in
set_option maxHeartbeats 0 in
theorem run_false(w:World):(fencedOpening zk0 PySem.Challenge.rw_dimhouse_k52_whole_made.row.prog w 3274).map (fun s₀=>(topFrom zk0 PySem.Challenge.rw_dimhouse_k52_whole_made.row.prog (w.withFollow "special-get-raises" false) 3274 s₀).map (fun s=>(openSeen seen [PySem.Str.ofString "ATOM_PLACES"] (importedModules PySem.Challenge.rw_dimhouse_k52_whole_made.row.prog.main.body) (fun s=>xlAt seen [] s&&recOk (zj1 (zg3 PySem.Challenge.rw_dimhouse_k52_whole_made.row)) s) true s,Hook.obs hook s)))=some (some (openGood seen [PySem.Str.ofString "ATOM_PLACES"],Hook.val hook (w.withFollow "special-get-raises" false))):=by kernel_rfl
set_option maxRecDepth 100000 in
set_option maxHeartbeats 0 in
theorem run_true(w:World):(fencedOpening zk0 PySem.Challenge.rw_dimhouse_k52_whole_made.row.prog w 3274).map (fun s₀=>(topFrom zk0 PySem.Challenge.rw_dimhouse_k52_whole_made.row.prog (w.withFollow "special-get-raises" true) 3274 s₀).map (fun s=>(openSeen seen [PySem.Str.ofString "ATOM_PLACES"] (importedModules PySem.Challenge.rw_dimhouse_k52_whole_made.row.prog.main.body) (fun s=>xlAt seen [] s&&recOk (zj1 (zg3 PySem.Challenge.rw_dimhouse_k52_whole_made.row)) s) true s,Hook.obs hook s)))=some (some (openGood seen [PySem.Str.ofString "ATOM_PLACES"],Hook.val hook (w.withFollow "special-get-raises" true))):=by kernel_rfl
end P52
set_option maxRecDepth 100000
set_option maxHeartbeats 4000000
set_option compiler.extract_closed false
open PySem.W renaming Frag→xA9,nsIn→xB9,fnOf→xC9,kia_one→xD9,mg_none_of→xE9,keepIn→xF9,fnX→xG9,codeIn→xH9,mg_of→xI9,tabObj→xJ9,codeHdIn→xK9,kitOne→xL9,kitx_dict→xM9,CodeHd→xN9,instObj→xO9,methodObj→xP9,kitx_list→xQ9,cellsFrom_some→xR9,codeHd_of_K→xS9,OpenLaw→xT9
open PySem renaming Addr→J9,World→Ja,Stmt→Jb,Expr→Jc,Scope→Jd
noncomputable section
def ω{p:Prop}(h:¬p:=by decide +kernel):p=False:=eq_false h
def χ{p:Prop}(h:p:=by decide +kernel):p:=h
def Ψ{p:Prop}(h:p:=by walk_at "x"):p:=h
def Θ{p:Prop}(h:p:=by lia):p:=h
def Ξ{p:Prop}(h:p:=by simp):p:=h
def Ω{p:Prop}(h:p:=by decide):p:=h
open Option renaming some→ς,none→ψ
open Bool renaming true→θ,false→ξ
abbrev η:=@List
abbrev ζ:=@Option
def bS{α β:Type _}{o:ζ α}{f:α->ζ β}{b:β}(h:o.bind f=ς b):∃a,o=ς a/\f a=ς b:=qs2.mp h
def mS{α β:Type _}{o:ζ α}{f:α->β}{b:β}(h:o.map f=ς b):∃a,o=ς a/\f a=b:=qt2.mp h
def gX{α:Type _}{l:η α}{i:Nat}{a:α}(h:l[i]?=ς a):∃z:i<l.length,l[i]=a:=List.getElem?_eq_some_iff.mp h
open PySem PySem.Spec PyProof.Rows in abbrev gN := @List.getElem?_set_ne
open PySem PySem.Spec PyProof.Rows in abbrev gP := @Heap.get?_push_of_some
open PySem PySem.Spec PyProof.Rows in abbrev wB := @wpAny_bind
open PySem PySem.Spec PyProof.Rows in abbrev gR := @List.getElem?_append_right
open PySem PySem.Spec PyProof.Rows in abbrev gQ := @List.getElem?_eq_getElem
open PySem PySem.Spec PyProof.Rows in abbrev nL := @Nat.le_refl
set_option maxRecDepth 100000
namespace L2
open PySem PySem.Spec PyProof.Rows
abbrev Key:=Sum Int Str
def kK:Key->Vz->Bool
 |.inl k,v=>Value.isInt k v
 |.inr x,v=>zh6 x v
noncomputable def keyH(w:Ja):Key->Int
 |.inl k=>hashInt k
 |.inr x=>hashStr w x
def bT:∀{k:Key}{v:Vz},kK k v=θ->(∃i t,k=za8 i/\v=zk1 i t)∨(∃x t,k=qu8 x/\v=zk2 x t)
 |.inl i,v,h=>by obtain⟨t,e⟩:=Value.isInt_shape (k:=i) (v:=v) h;exact .inl ⟨i,t,rfl,e⟩
 |.inr x,v,h=>by obtain⟨t,e⟩:=Value.isStrOf_shape (x:=x) (v:=v) h;exact .inr ⟨x,t,rfl,e⟩
def uc(i:Int)(t:Tok):kK (.inl i) (.int i t)=θ:=by simp[kK,Value.isInt]
def ud(x:Str)(t:Tok):kK (.inr x) (.str x t)=θ:=by simp[kK,zh6]
def BZ(a b:Int):decide ((za8 a:Key)=za8 b)=(a==b):=by
 by_cases e:a=b
 .subst e;simp
 .have h:¬ (za8 a:Key)=za8 b:=fun q=>e (za8.inj q)
  rw[decide_eq_false h];exact(beq_eq_false_iff_ne.mpr e).symm
def B0(a b:Str):decide ((qu8 a:Key)=qu8 b)=decide (a=b):=by
 by_cases e:a=b
 .subst e;simp
 .have h:¬ (qu8 a:Key)=qu8 b:=fun q=>e (qu8.inj q)
  rw[decide_eq_false h,decide_eq_false e]
def B1(a:Int)(b:Str):decide ((za8 a:Key)=qu8 b)=ξ:=decide_eq_false (fun q=>nomatch q)
def B2(a:Str)(b:Int):decide ((qu8 a:Key)=za8 b)=ξ:=decide_eq_false (fun q=>nomatch q)
def bM(prog:qd1)(w:Ja):PySem.KeyKind prog w Key where
 is:=kK
 hash:=keyH w
 inj:=fun v a b U O=>by
  rcases bT U with ⟨i,t,rfl,rfl⟩|⟨x,t,rfl,rfl⟩
  .rcases bT O with ⟨j,u,rfl,e⟩|⟨y,u,rfl,e⟩
   .injection e with q _;rw[q]
   .exact nomatch e
  .rcases bT O with ⟨j,u,rfl,e⟩|⟨y,u,rfl,e⟩
   .exact nomatch e
   .injection e with q _;rw[q]
 byValue:=fun k v h=>by rcases bT h with ⟨i,t,rfl,rfl⟩|⟨x,t,rfl,rfl⟩<;>rfl
 pyHash:=fun L h=>by
  rcases bT L with ⟨i,t,rfl,rfl⟩|⟨x,t,rfl,rfl⟩
  .exact wpAny_pyHash_int h
  .exact wpAny_pyHash_str h
 eqBool:=fun W L h=>by
  rcases bT W with ⟨i,t,rfl,rfl⟩|⟨x,t,rfl,rfl⟩
  .rcases bT L with ⟨j,u,rfl,rfl⟩|⟨y,u,rfl,rfl⟩
   .rw[BZ]at h;exact wpAny_eqBool_int h
   .rw[B1]at h;exact qg8.int_str i t y u _ _ _ _ h
  .rcases bT L with ⟨j,u,rfl,rfl⟩|⟨y,u,rfl,rfl⟩
   .rw[B2]at h;exact qg8.str_int x t j u _ _ _ _ h
   .rw[B0]at h;exact wpAny_eqBool_str h
 «strs»:=fun k x t v h=>by
  rcases bT h with ⟨i,u,rfl,e⟩|⟨y,u,rfl,e⟩
  .exact nomatch e
  .injection e with q _;subst q;cases v<;>rfl
def oS(prog:qd1)(w:Ja)(i:Int)(t:Tok):(bM prog w).is (.inl i) (.int i t)=θ:=uc i t
def gI(prog:qd1)(w:Ja)(x:Str)(t:Tok):(bM prog w).is (.inr x) (.str x t)=θ:=ud x t
inductive V where
 |non|bl (b:Bool)|int (i:Int)|str (x:Str)|byt (b:Array UInt8)|flt (b:UInt64)|ref (a:J9)|ty (n:String)
 deriving DecidableEq
def RelV:V->Vz->Prop
 |.non,u=>u=qh5
 |.bl b,u=>u=qr7 b
 |.int i,u=>∃t,u=zk1 i t
 |.str x,u=>∃t,u=zk2 x t
 |.byt b,u=>∃t,u=Value.bytes b t
 |.flt b,u=>∃t,u=Value.float b t
 |.ref a,u=>u=qf3 a
 |.ty n,u=>u=qk0 n
abbrev Vals:η V->η Vz->Prop:=Paired RelV
variable{xs:η V}{us:η Vz}
def Vals.length(r:Vals xs us):xs.length=us.length:=Paired.length r
theorem Vals.get:∀{xs:η V}{us:η Vz}{i:Nat}{x:V},Vals xs us->xs[i]?=ς x->∃u,us[i]?=ς u/\RelV x u
 |_,_,_,_,.nil,e=>by simp at e
 |_,_,0,_,.cons r _,e=>by simp at e;subst e;exact⟨_,rfl,r⟩
 |_,_,i+1,x,.cons _ t,e=>by obtain⟨u,h1,h2⟩:=Vals.get (i:=i) (x:=x) t (by simpa using e);exact⟨u,by simpa using h1,h2⟩
variable{u:Vz}
theorem Vals.set{x:V}(r:RelV x u):∀{xs:η V}{us:η Vz}(i:Nat),Vals xs us->Vals (xs.set i x) (us.set i u)
 |_,_,_,.nil=>.nil
 |_,_,0,.cons _ t=>.cons r t
 |_,_,i+1,.cons q t=>.cons q (Vals.set r i t)
theorem Vals.append:∀{xs ys:η V}{us ws:η Vz},Vals xs us->Vals ys ws->Vals (xs++ys) (us++ws)
 |_,_,_,_,.nil,s=>s
 |_,_,_,_,.cons r t,s=>.cons r (Vals.append t s)
theorem Vals.take:∀{xs:η V}{us:η Vz}(n:Nat),Vals xs us->Vals (xs.take n) (us.take n)
 |_,_,0,_=>.nil
 |_,_,_+1,.nil=>.nil
 |_,_,n+1,.cons r t=>.cons r (Vals.take n t)
theorem Vals.drop:∀{xs:η V}{us:η Vz}(n:Nat),Vals xs us->Vals (xs.drop n) (us.drop n)
 |_,_,0,r=>r
 |_,_,_+1,.nil=>.nil
 |_,_,n+1,.cons _ t=>Vals.drop n t
def RelO:ζ V->ζ Vz->Prop
 |some v,ς u=>RelV v u
 |none,ψ=>True
 |_,_=>False
def KV{κ:Type}:η (κ×V)->η (κ×Vz)->Prop:=Paired fun(p:κ×V)(q:κ×Vz)=>p.1=q.1/\RelV p.2 q.2
def kV:Key->V
 |.inl i=>.int i
 |.inr x=>.str x
inductive HO where
 |e (xs:List V)
 |t (xs:List V)
 |dK (J6:List (Key×V))|dT (J6:List (List Key×V))
 |set (S:Int->Bool) (n:Nat)
 |ins (C dx:J9) (fs:List (Str×V))
 |own (x:J9)
 |xd (fs:List (Str×V))
 |met (f x:J9)
 |rng (lo hi:Int)
 |frz (o:Obj) (u:HO)
 |tbl (ps:Array Vz)
 |code (q:Str)
 |ctab (qs:List ((Nat×Nat)×Str))
 |ext (φ:Heap->Prop)
abbrev Hp:=J9->ζ HO
def upd(H:Hp)(a:J9)(o:HO):Hp:=fun b=>if b=a then ς o else H b
variable{H:Hp}{a:J9}{o:HO}
def aU:upd H a o a=ς o:=by unfold upd;rw[if_pos rfl]
variable{b:J9}
def aF(h:b≠a):upd H a o b=H b:=by unfold upd;rw[if_neg h]
def Ew{u:HO}(h:H a=ς o)(h':H b=ς u)(d:o≠u):a≠b:=by intro e;subst e;rw[h]at h';exact d (qd9 h')
def bX(h:H a=ς o)(h':H b=ψ):a≠b:=by intro e;subst e;rw[h]at h';cases h'
section
variable(P:qd1)(w:Ja)
def ObjOk(H:Hp)(h:Heap)(a:J9):HO->Prop
 |.e xs=>xs.length<=qb2/\∃(J8:η Vz)(n:Nat),Vals xs J8/\h.get? a=ς {cls:=.type "list",data:=.seq J8.toArray n}
 |.t xs=>xs.length<=qb2/\∃J8:η Vz,Vals xs J8/\IsTup h a J8.toArray
 |.dK J6=>J6.length<=qb2/\(a==qj0)=ξ/\∃vs,KV J6 vs/\h.DictOf (bM P w) a vs
 | .dT J6=>J6.length<=qb2/\(a==qj0)=ξ/\∃xs:η (η Key×J9×Vz),
     Paired (fun(p:η Key×V)(q:η Key×J9×Vz)=>p.1=q.1/\H q.2.1=ς (.t (p.1.map kV))/\RelV p.2 q.2.2) J6 xs∧
     ∃o es ep,h.get? a=ς o/\o.ExactDict/\o.data=.dict es ep/\es.toList=xs.map (entryOfKey (zh7 (bM P w)))/\(xs.map (·.1)).Nodup
 |.set S n=>h.SetOf (intKind P w) a S n
 |.ins C dx fs=>H dx=ς (.own a)/\fs.length<=1000/\dx≠a/\h.get? a=ς (xO9 C dx)∧∃mA,h.Ns1 dx mA/\(∀f,RelO (fs.lookup f) (mA f))/\PySem.Within mA (fs.map (·.1))
 |.own _=>∃o,h.get? a=ς o
 |.xd fs=>∃mA,h.Ns1 a mA/\∀f,RelO (fs.lookup f) (mA f)
 |.rng lo hi=>∃t u v,h.get? a=ς {cls:=.type "range",data:=.fields #[.int lo t,.int hi u,.int 1 v]}
 |.frz o u=>h.get? a=ς o/\ObjOk H h a u
 |.tbl ps=>h.get? a=ς {cls:=.none,data:=.fields ps}
 |.code q=>h.CodeRec (.ref a) q
 |.ctab qs=>∃ps:Array Vz,h.get? a=ς {cls:=.none,data:=.fields ps}/\zd6 ps.toList/\∀(pos:Pos)(q:Str)(v:Vz),((pos.line,pos.col),q)∈qs->qq8 pos ps.toList=ς v->∃c o,v=.ref c/\H c=ς (.frz o (.code q))
 |.met f x=>h.get? a=ς (xP9 (.ref f) (.ref x))
 |.ext φ=>φ h/\(∃o,h.get? a=ς o)/\∀h1 h2:Heap,φ h1->(∀o,h1.get? a=ς o->h2.get? a=ς o)->φ h2
def HOk(H:Hp)(h:Heap):Prop:=∀a o,H a=ς o->ObjOk P w H h a o
end
section
variable{P:qd1}{w:Ja}{H H':Hp}{h h':Heap}{a:J9}{o:HO}
def ObjOk.lt(x:ObjOk P w H h a o):a<h.objs.size:=by
 cases o with
 |e xs=>obtain⟨_,_,_,_,e⟩:=x;exact qb0 e
 |t xs=>obtain⟨_,_,_,p⟩:=x;exact p.lt
 |dK J6=>obtain⟨_,_,_,_,o,_,_,e,_⟩:=x;exact qb0 e
 |dT J6=>obtain⟨_,_,_,_,o,_,_,e,_⟩:=x;exact qb0 e
 |set S n=>obtain⟨o,_,_,_,e,_⟩:=x;exact qb0 e
 |ins C dx fs=>obtain⟨_,_,_,e,_⟩:=x;exact qb0 e
 |own y=>obtain⟨_,e⟩:=x;exact qb0 e
 |xd fs=>obtain⟨_,⟨_,_,_,e,_⟩,_⟩:=x;exact qb0 e
 |rng lo hi=>obtain⟨_,_,_,e⟩:=x;exact qb0 e
 |frz ob u=>obtain⟨e,_⟩:=x;exact qb0 e
 |tbl ps=>exact qb0 (show h.get? a=ς _ from x)
 |code q=>obtain⟨c,o,vs,t,e,g,_⟩:=x;cases e;exact qb0 g
 |ctab qs=>obtain⟨ps,g,_⟩:=x;exact qb0 g
 |met f y=>exact qb0 (show h.get? a=ς _ from x)
 |ext φ=>obtain⟨_,⟨_,e⟩,_⟩:=x;exact qb0 e
theorem Paired.mapP{α β:Type}{F G:α->β->Prop}:∀{q:η α}{L:η β},Paired F q L->(∀a b,F a b->G a b)->Paired G q L
 |_,_,.nil,_=>.nil
 |_,_,.cons r t,f=>.cons (f _ _ r) (Paired.mapP t f)
def ObjOk.stay (x:ObjOk P w H h a o) (k:∀ b u,(b=a∨H b=ς (.own a))->h.get? b=ς u->h'.get? b=ς u)
  (O:∀b,H b=ς (.own a)->H' b=ς (.own a)) (Z:∀b xs,H b=ς (.t xs)->H' b=ς (.t xs)) (L:∀b ob q,H b=ς (.frz ob (.code q))->H' b=ς (.frz ob (.code q))):ObjOk P w H' h' a o:=by
 induction o with
 |e xs=>obtain⟨z,J8,n,r,e⟩:=x;exact⟨z,J8,n,r,k _ _ (.inl rfl) e⟩
 |t xs=>obtain⟨z,J8,r,ob,e,c⟩:=x;exact⟨z,J8,r,ob,k _ _ (.inl rfl) e,c⟩
 |dK J6=>obtain⟨z,y,vs,r,ob,es,ep,e,c⟩:=x;exact⟨z,y,vs,r,ob,es,ep,k _ _ (.inl rfl) e,c⟩
 |dT J6=>obtain⟨z,y,xs,r,ob,es,ep,e,c⟩:=x;exact⟨z,y,xs,Paired.mapP r fun p q z=>⟨z.1,Z _ _ z.2.1,z.2.2⟩,ob,es,ep,k _ _ (.inl rfl) e,c⟩
 |set S n=>obtain⟨ob,es,ep,t,e,c⟩:=x;exact⟨ob,es,ep,t,k _ _ (.inl rfl) e,c⟩
 |ins C dx fs=>obtain⟨d,z,Y,e,mA,⟨od,es,ep,e2,c⟩,r⟩:=x;exact⟨O _ d,z,Y,k _ _ (.inl rfl) e,mA,⟨od,es,ep,k _ _ (.inr d) e2,c⟩,r⟩
 |own y=>obtain⟨ob,e⟩:=x;exact⟨ob,k _ _ (.inl rfl) e⟩
 |xd fs=>obtain⟨mA,⟨od,es,ep,e,c⟩,r⟩:=x;exact⟨mA,⟨od,es,ep,k _ _ (.inl rfl) e,c⟩,r⟩
 |rng lo hi=>obtain⟨t,u,v,e⟩:=x;exact⟨t,u,v,k _ _ (.inl rfl) e⟩
 |frz ob u ih=>obtain⟨e,q⟩:=x;exact⟨k _ _ (.inl rfl) e,ih q⟩
 |tbl ps=>have e:h.get? a=ς {cls:=.none,data:=.fields ps}:=x;show h'.get? a=ς {cls:=.none,data:=.fields ps};exact k a _ (.inl rfl) e
 |code q=>obtain⟨c,o,vs,t,e,g,r⟩:=x;cases e;exact⟨a,o,vs,t,rfl,k a _ (.inl rfl) g,r⟩
 |ctab qs=>obtain⟨ps,g,r1,U⟩:=x;exact⟨ps,k a _ (.inl rfl) g,r1,fun pos q v h1 h2=>let ⟨c,ob,e,g⟩:=U pos q v h1 h2;⟨c,ob,e,L c ob q g⟩⟩
 |met f y=>have e:h.get? a=ς (xP9 (.ref f) (.ref y)):=x;show h'.get? a=ς (xP9 (.ref f) (.ref y));exact k a _ (.inl rfl) e
 |ext φ=>obtain⟨p,⟨o,e⟩,st⟩:=x;exact⟨st _ _ p fun o q=>k _ _ (.inl rfl) q,⟨o,k _ _ (.inl rfl) e⟩,st⟩
def HOk.lt(x:HOk P w H h)(e:H a=ς o):a<h.objs.size:=(x a o e).lt
def HOk.fresh(x:HOk P w H h)(e:h.objs.size<=a):H a=ψ:=by
 cases q:H a with
 |none=>rfl
 |some u=>exact absurd (qc2 (x.lt q) e) (ql8 _)
def HOk.kept(x:HOk P w H h)(k:∀b u,h.get? b=ς u->h'.get? b=ς u):HOk P w H h':=fun a o e=>(x a o e).stay (fun b u _ q=>k b u q) (fun _ q=>q) (fun _ _ q=>q) fun _ _ _ q=>q
def HOk.laid(x:HOk P w H h)(k:∀b u,h.get? b=ς u->h'.get? b=ς u)(hp:h.objs.size<=a)(new:ObjOk P w (upd H a o) h' a o):HOk P w (upd H a o) h':=fun b u e=>by
 have L:=x.fresh hp;by_cases O:b=a
 .subst O;rw[aU]at e;cases e;exact new
 .rw[aF O]at e;exact(x b u e).stay (fun c v _ q=>k c v q) (fun c q=>by rw[aF (bX q L)];exact q) (fun c xs q=>by rw[aF (bX q L)];exact q) fun c ob xs q=>by rw[aF (bX q L)];exact q
end
def Rd(H:Hp)(a:J9)(u:HO):Prop:=H a=ς u∨∃o,H a=ς (.frz o u)
def Rd.of{u:HO}(h:H a=ς u):Rd H a u:=.inl h
variable{P:qd1}{w:Ja}{h:Heap}
def Rd.ok{u:HO}(r:Rd H a u)(x:HOk P w H h):ObjOk P w H h a u:=by
 rcases r with r|⟨o,r⟩
 .exact x a u r
 .obtain⟨_,q⟩:=x a _ r;exact q
def Mut:ζ HO->Prop
 |some (.e _)=>True
 |some (.dK _)=>True
 |some (.dT _)=>True
 |some (.set _ _)=>True
 |some (.ins _ _ _)=>True
 |some (.ext _)=>True
 |_=>False
section
variable{P:qd1}{w:Ja}{H:Hp}{h h':Heap}{x e:J9}{o':HO}
def HOk.write (ok:HOk P w H h) (U:Mut (H x)) (he:e=x∨H e=ς (.own x)) (k:∀ b u,b≠e->h.get? b=ς u->h'.get? b=ς u) (heo:∃ u,h'.get? e=ς u)
  (new:ObjOk P w (upd H x o') h' x o'):HOk P w (upd H x o') h':=fun b u q=>by
 have O:∀c y,H c=ς (.own y)->c≠x:=fun c y r z=>by subst z;rw[r]at U;exact U
 have Y:∀c xs,H c=ς (.t xs)->c≠x:=fun c xs r z=>by subst z;rw[r]at U;exact U
 have W:∀c ob xs,H c=ς (.frz ob (.code xs))->c≠x:=fun c ob xs r z=>by subst z;rw[r]at U;exact U
 by_cases Z:b=x
 .subst Z;rw[aU]at q;cases q;exact new
 .rw[aF Z]at q;by_cases L:b=e
  .have q':H b=ς (.own x):=by
    rcases he with z|z
    .exact absurd (L.trans z) Z
    .rw[L];exact z
   rw[q]at q';cases q'
   obtain⟨v,hv⟩:=heo;exact⟨v,by rw[L];exact hv⟩
  .refine(ok b u q).stay (fun c v hc r=>k c v ?_ r) (fun c r=>by rw[aF (O c b r)];exact r) (fun c xs r=>by rw[aF (Y c xs r)];exact r) fun c ob xs r=>by rw[aF (W c ob xs r)];exact r
   rcases hc with rfl|hc
   .exact L
   .rintro rfl;rcases he with z|z
    .exact O c b hc z
    .rw[hc]at z;cases z;exact Z rfl
end
structure Un(fs ex:List J9)(H H':Hp)(h h':Heap):Prop where
 keep:∀b o,h.get? b=ς o->H b=ψ->b∉fs->b∉ex->h'.get? b=ς o
 slot:∀b o,h.get? b=ς o->H b=ψ->b∈fs->b∉ex->∃sl,h'.get? b=ς {o with slots:=sl}
 free:∀b o,h.get? b=ς o->H b=ψ->b∉ex->H' b=ψ
 there:∀b o,h.get? b=ς o->b∉ex->∃o',h'.get? b=ς o'
 tups:∀b xs,H b=ς (.t xs)->H' b=ς (.t xs)
 frzs:∀b o u,H b=ς (.frz o u)->H' b=ς (.frz o u)
 tbls:∀b ps,H b=ς (.tbl ps)->∃more,H' b=ς (.tbl (ps++more))
 cts:∀b qs,H b=ς (.ctab qs)->H' b=ς (.ctab qs)
section
variable{fs fs' ex ex':η J9}{H H1 H2:Hp}{h h1 h2 h':Heap}{a x e:J9}{o:HO}
def Un.any(u:Un fs ex H H1 h h1){ob:Obj}(q:h.get? b=ς ob)(n:H b=ψ)(L:b∉ex):∃sl,h1.get? b=ς {ob with slots:=sl}:=by
 by_cases O:b∈fs
 .exact u.slot b ob q n O L
 .exact⟨ob.slots,u.keep b ob q n O L⟩
theorem Un.kept(k:∀b u,h.get? b=ς u->h'.get? b=ς u):Un fs ex H H h h':=⟨fun b ob q _ _ _=>k b ob q,fun b ob q _ _ _=>⟨ob.slots,k b ob q⟩,fun _ _ _ n _=>n,fun b ob q _=>⟨ob,k b ob q⟩,fun _ _ q=>q,fun _ _ _ q=>q,fun _ ps q=>⟨#[],by rw[q];simp⟩,fun _ _ q=>q⟩
def Un.refl:Un fs ex H H h h:=Un.kept fun _ _ q=>q
def Un.laid(k:∀b u,h.get? b=ς u->h'.get? b=ς u)(hp:h.objs.size<=a)(L:H a=ψ):Un fs ex H (upd H a o) h h' where
 keep:=fun b u q _ _ _=>k b u q
 slot:=fun b u q _ _ _=>⟨u.slots,k b u q⟩
 free:=fun b u q n _=>by rw[aF (qc4 (qc2 (qb0 q) hp))];exact n
 there:=fun b u q _=>⟨u,k b u q⟩
 tups:=fun b xs q=>by rw[aF (bX q L)];exact q
 frzs:=fun b u xs q=>by rw[aF (bX q L)];exact q
 tbls:=fun b ps q=>⟨#[],by rw[aF (bX q L),q];simp⟩
 cts:=fun b qs q=>by rw[aF (bX q L)];exact q
def Un.write(O:Mut (H x))(he:e=x∨H e=ς (.own x))(k:∀b u,b≠e->h.get? b=ς u->h'.get? b=ς u)(W:∃u,h'.get? e=ς u):Un fs ex H (upd H x o) h h':=by
 have Z:∀b,H b=ψ->b≠x:=fun b n z=>by subst z;rw[n]at O;exact O
 have Y:∀b,H b=ψ->b≠e:=fun b n z=>by
  subst z;rcases he with r|r
  .exact Z b n r
  .rw[n]at r;cases r
 have U:∀b u,H b=ς u->¬ Mut (ς u)->b≠x:=fun b u q nm z=>by subst z;rw[q]at O;exact nm O
 refine⟨fun b u q n _ _=>k b u (Y b n) q,fun b u q n _ _=>⟨u.slots,k b u (Y b n) q⟩,fun b u q n _=>by rw[aF (Z b n)];exact n,fun b u q _=>?_,fun b xs q=>by rw[aF (U b _ q fun z=>z)];exact q,fun b u xs q=>by rw[aF (U b _ q fun z=>z)];exact q,fun b ps q=>⟨#[],by rw[aF (U b _ q fun z=>z),q];simp⟩,fun b xs q=>by rw[aF (U b _ q fun z=>z)];exact q⟩
 by_cases L:b=e
 .subst L;exact W
 .exact⟨u,k b u L q⟩
end
noncomputable def trk(h:Heap)(H:Hp):η J9:=(qd0 h.objs.size).filter fun a=>(H a).isSome
def l6(h:Heap)(H:Hp):Heap:=PySem.W.hideAll h (trk h H)
def ue(h:Heap)(H:Hp):(l6 h H).objs.size=h.objs.size:=PySem.W.hideAll_size _ _
def vw{o:Obj}(e:h.get? b=ς o)(n:H b=ψ):(l6 h H).get? b=ς o:=PySem.W.hideAll_get _ e fun L=>by have q:(H b).isSome=θ:=(qg4.mp L).2;rw[n]at q;simp at q
def zd{o:Obj}(e:(l6 h H).get? b=ς o):h.get? b=ς o/\H b=ψ:=by
 have L:h.get? b=ς o:=PySem.W.of_hideAll (trk h H) e;refine⟨L,?_⟩;cases q:H b with
 |none=>rfl
 |some x=>have O:b∈trk h H:=qg4.mpr ⟨qe9.mpr (qb0 L),by simp[q]⟩;have z:(l6 h H).get? b=ψ:=PySem.W.hideAll_none (trk h H) O;rw[z]at e;cases e
noncomputable def ze(g h:Heap)(L:J9):η (J9×Obj):=(qd0 h.objs.size).filterMap fun a=>if a=L∨(g.get? a).isSome=θ then ψ else(h.get? a).map fun o=>(a,o)
def rest(g h:Heap)(L d:J9):η (J9×Obj):=(ze g h L).filter fun p=>decide (p.1≠d)
def nestNames:η Str:=["way_to_reading","spoilt"]
noncomputable def oT(x:Str)(ss:η Jb):η ((Nat×Nat)×Str):=ss.filterMap fun st=>match st with
 |.FunctionDef name _ _ _ _ _ _ _ _ pos=>ς ((pos.line,pos.col),x++".<locals>."++name)
 |_=>ψ
def qm(K:xA9)(x:Str):ζ (J9×η ((Nat×Nat)×Str)):=match PySem.W.tabIn K x with
 |some (_,P)=>(match xB9 K qc3 x with
  |some (ς (.ref f))=>(match K.lookup f with
   |some o=>(match o.data with
    |.func fd=>(match fd.body with
     |.stmts b=>ς (P,oT x b)
     |_=>ψ)
    |_=>ψ)
   |none=>ψ)
  |_=>ψ)
 |none=>ψ
def dD(K:xA9):η (J9×η ((Nat×Nat)×Str)):=nestNames.filterMap (qm K)
structure Mod(K:xA9)(mg:Str->Option Vz)(base:Heap):Prop where
 kin:K.In base
 glob:base.Ns qc3 mg
 blt:∃mb,base.Ns qw1 mb/\∀x:Str,x≠"__name__"->mb x=qd7 x
 nolimit:base.NoLimit
structure Cx where
 prog:qd1
 w:Ja
 K:xA9
 mg:Str->Option Vz
 base:Heap
 A:qe0
 N:List Str
 s₀:qa5
 H₀:Hp
 env:Env
 outer:List Env
 stack:List Env
 ex:List J9
 fn:Str->Bool
 calm:Bool
 pn:List (J9×Obj)
 xe:Vz->qa5->Prop
def frs(l:η Env):η J9:=l.filterMap (·.frame)
abbrev Cx.fs(X:Cx):η J9:=frs X.outer
def Vis(sc:Jd)(x:Str):Prop:=sc.names.lookup x=ς .local∨sc.names.lookup x=ς .cell∨sc.names.lookup x=ς .free
def Loc(sc:Jd)(x:Str):Prop:=sc.names.lookup x=ς .local∨sc.names.lookup x=ς .cell
def Look(env:Env)(h:Heap)(m:Str->ζ Vz)(x:Str)(u:Vz):Prop:=(env.kindOf x=ς .local/\m x=ς u)∨((env.kindOf x=ς .cell∨env.kindOf x=ς .free)/\∃c,env.cells.lookup x=ς c/\h.IsCell c (ς u))
structure Cx.Ok(X:Cx):Prop where
 mod:Mod X.K X.mg X.base
 kind:X.env.scope.kind=.function
 glob:X.env.globals=qc3
 blt:X.env.builtins=qw1
 above:X.s₀.heap.objs.size<=X.env.locals
 inj:∀x y c,X.env.cells.lookup x=ς c->X.env.cells.lookup y=ς c->x=y
 has:∀x,(X.env.kindOf x=ς .cell∨X.env.kindOf x=ς .free)->∃c,X.env.cells.lookup x=ς c
 cab:∀x c,X.fn x=θ->X.env.cells.lookup x=ς c->X.s₀.heap.objs.size<=c
 hd:X.calm=θ->X.A.handled=ψ
 frames:X.A.frames=ς X.stack
 stk:X.stack=X.outer∨(X.stack=X.env::X.outer/\X.env.frame=ς X.env.locals)
 exf:∀b∈X.ex,b≠X.env.locals/\∀x c,X.env.cells.lookup x=ς c->c≠b
 bs:∀b o,X.base.get? b=ς o->X.s₀.heap.get? b=ς o/\X.H₀ b=ψ
 bsz:X.base.objs.size<=X.s₀.heap.objs.size
 noex:∀b o,X.base.get? b=ς o->b∉X.ex
 exfs:∀b∈X.ex,b∉X.fs
 funs:X.s₀.heap.FunFrames X.base X.outer
 frf:∀b∈X.fs,X.H₀ b=ψ
 tb:∀p∈dD X.K,X.H₀ p.1=ς (.ctab p.2)
structure Inv(X:Cx)(J1:List (J9×Obj))(σ:List (Option V))(H:Hp)(s:qa5):Prop where
 ok:X.Ok
 os:s.os=X.s₀.os
 bare:zd7 s.gens
 base:Un X.fs X.ex X.H₀ H X.s₀.heap s.heap
 loc:∃m,s.heap.Ns X.env.locals m/\∀(i:Nat)(x:Str)(v:V),X.N[i]?=ς x->σ[i]?=ς (ς v)->Vis X.env.scope x->∃u,RelV v u/\Look X.env s.heap m x u
 cell:∀x c,X.env.cells.lookup x=ς c->∃v,s.heap.IsCell c v
 free:H X.env.locals=ψ
 freeC:∀x c,X.env.cells.lookup x=ς c->H c=ψ
 pin:∀p∈X.pn++J1,s.heap.get? p.1=ς p.2/\H p.1=ψ/\p.1≠X.env.locals/\p.1∉X.fs/\∀v,p.2.data≠.cell v
 hok:HOk X.prog X.w H s.heap
 len:σ.length=X.N.length
variable{g':Array GenState}{t' i j:Nat}{d':Drawn}{ch:η J9}{it:J9}{N:η Str}{x:Str}{M:Model}{A:qe0}{E:Vz->qa5->Prop}{v:V}{Q:Unit->qa5->Prop}{s':qa5}
section
variable{X:Cx}{J1:η (J9×Obj)}{σ:η (ζ V)}{H H':Hp}{s:qa5}{h':Heap}
def Cx.Ok.nofr(ok:X.Ok){o:Obj}(e:X.base.get? b=ς o):b∉X.fs:=fun q=>by have:=(ok.funs.mem q).1;rw[e]at this;cases this
theorem Inv.bs(I:Inv X J1 σ H s):∀b o,X.base.get? b=ς o->s.heap.get? b=ς o/\H b=ψ:=fun b o e=>⟨I.base.keep b o (I.ok.bs b o e).1 (I.ok.bs b o e).2 (I.ok.nofr e) (I.ok.noex b o e),I.base.free b o (I.ok.bs b o e).1 (I.ok.bs b o e).2 (I.ok.noex b o e)⟩
def Inv.bk(I:Inv X J1 σ H s):∀b o,X.base.get? b=ς o->s.heap.get? b=ς o:=fun b o e=>(I.bs b o e).1
def Inv.mod(I:Inv X J1 σ H s):Mod X.K X.mg X.base:=I.ok.mod
def Inv.kIn(I:Inv X J1 σ H s):X.K.In s.heap:=I.ok.mod.kin.keeps I.bk
def Inv.fr(I:Inv X J1 σ H s):∃m,Fr X.base X.env.locals s.heap m:=
 let ⟨m,hn,_⟩:=I.loc
 ⟨m,hn,I.bk,qb9 I.ok.bsz I.ok.above⟩
def Inv.lt(I:Inv X J1 σ H s):X.env.locals<s.heap.objs.size:=let ⟨_,hn,_⟩:=I.loc;hn.lt
def Inv.sz(I:Inv X J1 σ H s):X.s₀.heap.objs.size<=s.heap.objs.size:=qb9 I.ok.above (qj1 I.lt)
def Inv.nofs(I:Inv X J1 σ H s)(h:s.heap.objs.size<=a):a∉X.fs:=fun q=>by obtain⟨_,o,L,_⟩:=I.ok.funs.mem q;exact absurd (qc2 (qb0 L) (qb9 I.sz h)) (ql8 _)
def Inv.cne(I:Inv X J1 σ H s):∀x c,X.env.cells.lookup x=ς c->c≠X.env.locals:=fun x c e z=>by obtain⟨v,o,O,U⟩:=I.cell x c e;obtain⟨m,⟨o',es,ep,q,L,_⟩,_⟩:=I.loc;rw[z,q]at O;cases O;rw[L]at U;cases U
def Inv.funs(I:Inv X J1 σ H s):s.heap.FunFrames X.base X.outer:=by
 have all:∀(l:η Env),(∀b∈frs l,b∈X.fs)->X.s₀.heap.FunFrames X.base l->s.heap.FunFrames X.base l:=by
  intro l;induction l with
  |nil=>intro _ _;trivial
  |cons env r Y=>
   intro W Z;obtain⟨hk,⟨L,o,U,hn,ho,hd⟩,hr⟩:=Z;have O:L∈X.fs:=W L (by unfold frs;rw[qw4,U];exact qe7);obtain⟨sl,e⟩:=I.base.slot L o ho (I.ok.frf L O) O fun z=>I.ok.exfs L z O
   exact⟨hk,⟨L,_,U,hn,e,hd⟩,Y (fun b q=>W b (by unfold frs;rw[qw4,U];exact qd5 _ q)) hr⟩
 exact all X.outer (fun _ q=>q) I.ok.funs
def Inv.stack(I:Inv X J1 σ H s):s.heap.FunFrames X.base X.stack:=by
 rcases I.ok.stk with e|⟨e,L⟩
 .rw[e];exact I.funs
 .rw[e];obtain⟨m,q,_⟩:=I.loc;refine .cons (by rw[I.ok.kind];decide) L q ?_ I.funs;exact Heap.get?_none_of_le (qb9 I.ok.bsz I.ok.above)
def Inv.stkSub(I:Inv X J1 σ H s):∀b∈frs X.stack,b∈X.env.locals::X.fs:=fun b q=>by
 rcases I.ok.stk with e|⟨e,L⟩
 .rw[e]at q;exact qd5 _ q
 .rw[e]at q;unfold frs at q;rw[qw4,L]at q;exact q
def Inv.stkFree(I:Inv X J1 σ H s):∀b∈frs X.stack,H b=ψ:=fun b q=>by
 rcases qa8.mp (I.stkSub b q)with e|q
 .rw[e];exact I.free
 .obtain⟨_,o,L,_⟩:=I.ok.funs.mem q;exact I.base.free b o L (I.ok.frf b q) fun z=>I.ok.exfs b z q
def Inv.step(I:Inv X J1 σ H s)
 (O:∀b∈ch,(b∈X.ex∨X.s₀.heap.objs.size<=b)/\b≠X.env.locals/\(∀x c,X.env.cells.lookup x=ς c->c≠b)/\∀p∈X.pn++J1,p.1≠b)
 (keep:∀b o,b≠X.env.locals->b∉X.fs->b∉ch->s.heap.get? b=ς o->H b=ψ->h'.get? b=ς o)
 (slot:∀b o,b≠X.env.locals->b∈X.fs->b∉ch->s.heap.get? b=ς o->H b=ψ->∃sl,h'.get? b=ς {o with slots:=sl}) (free:∀b o,b∉ch->s.heap.get? b=ς o->H b=ψ->H' b=ψ)
 (there:∀b o,b∉ch->s.heap.get? b=ς o->∃o',h'.get? b=ς o')
 (tups:∀b xs,H b=ς (.t xs)->H' b=ς (.t xs)) (frzs:∀b o u,H b=ς (.frz o u)->H' b=ς (.frz o u)) (tbls:∀b ps,H b=ς (.tbl ps)->∃more,H' b=ς (.tbl (ps++more))) (cts:∀b qs,H b=ς (.ctab qs)->H' b=ς (.ctab qs))
 (ns:∀m,s.heap.Ns X.env.locals m->h'.Ns X.env.locals m) (hok:HOk X.prog X.w H' h') (hg:zd7 g') :
  Inv X J1 σ H' {s with heap:=h',gens:=g',drawn:=d',toks:=t'}:=by
 have neL:∀b o,X.s₀.heap.get? b=ς o->b≠X.env.locals:=fun b o e=>qc4 (qc2 (qb0 e) I.ok.above)
 have Z:∀b o,X.s₀.heap.get? b=ς o->b∉X.ex->b∉ch:=fun b o e L hb=>by
  rcases(O b hb).1 with z|z
  .exact L z
  .exact absurd (qc2 (qb0 e) z) (ql8 _)
 have U:∀x c,X.env.cells.lookup x=ς c->∀v,s.heap.IsCell c v->h'.IsCell c v:=fun x c e v ⟨o,ho,hd⟩=>by
  have W:c∉ch:=fun z=>(O c z).2.2.1 x c e rfl
  by_cases hc:c∈X.fs
  .obtain⟨sl,q⟩:=slot c o (I.cne x c e) hc W ho (I.freeC x c e);exact⟨_,q,hd⟩
  .exact⟨o,keep c o (I.cne x c e) hc W ho (I.freeC x c e),hd⟩
 refine⟨I.ok,I.os,hg,⟨fun b o e n hb L=>?_,fun b o e n hb L=>?_,fun b o e n L=>?_,fun b o e L=>?_,fun b xs e=>tups b xs (I.base.tups b xs e),fun b o xs e=>frzs b o xs (I.base.frzs b o xs e),fun b ps e=>?_,fun b qs e=>cts b qs (I.base.cts b qs e)⟩,?_,fun x c e=>?_,?_,fun x c e=>?_,fun p hp=>?_,hok,I.len⟩
 .exact keep b o (neL b o e) hb (Z b o e L) (I.base.keep b o e n hb L) (I.base.free b o e n L)
 .obtain⟨sl,Y⟩:=I.base.slot b o e n hb L;obtain⟨sl',e2⟩:=slot b _ (neL b o e) hb (Z b o e L) Y (I.base.free b o e n L);exact⟨sl',e2⟩
 .obtain⟨o',Y⟩:=I.base.there b o e L;exact free b o' (Z b o e L) Y (I.base.free b o e n L)
 .obtain⟨o',Y⟩:=I.base.there b o e L;exact there b o' (Z b o e L) Y
 .obtain⟨m1,Y⟩:=I.base.tbls b ps e;obtain⟨m2,e2⟩:=tbls b _ Y;exact⟨m1++m2,by rw[e2,Array.append_assoc]⟩
 .obtain⟨m,hn,hl⟩:=I.loc;refine⟨m,ns m hn,fun i x v Y e2 e3=>?_⟩;obtain⟨u,r,l⟩:=hl i x v Y e2 e3;refine⟨u,r,?_⟩;rcases l with l|⟨k,c,e,z⟩
  .exact .inl l
  .exact .inr ⟨k,c,e,U x c e _ z⟩
 .obtain⟨v,z⟩:=I.cell x c e;exact⟨v,U x c e v z⟩
 .obtain⟨m,⟨o,_,_,ho,_⟩,_⟩:=I.loc;exact free _ o (fun z=>(O _ z).2.1 rfl) ho I.free
 .obtain⟨v,o,ho,hd⟩:=I.cell x c e;exact free c o (fun z=>(O c z).2.2.1 x c e rfl) ho (I.freeC x c e)
 .obtain⟨e,n,ne,nf,d⟩:=I.pin p hp;have W:p.1∉ch:=fun z=>(O p.1 z).2.2.2 p hp rfl
  exact⟨keep p.1 p.2 ne nf W e n,free p.1 p.2 W e n,ne,nf,d⟩
def Inv.un(I:Inv X J1 σ H s)(u:Un X.fs [] H H' s.heap h')(L:HOk X.prog X.w H' h'):Inv X J1 σ H' {s with heap:=h',toks:=t'}:=by
 obtain⟨m,⟨o,es,ep,Y,r⟩,_⟩:=id I.loc;obtain⟨sl,Z⟩:=u.any Y I.free Ξ
 exact I.step (g':=s.gens) (d':=s.drawn) (ch:=[]) (fun _ z=>nomatch z) (fun b o _ O _ e n=>u.keep b o e n O Ξ) (fun b o _ O _ e n=>u.slot b o e n O Ξ) (fun b o _ e n=>u.free b o e n Ξ) (fun b o _ e=>u.there b o e Ξ) u.tups u.frzs u.tbls u.cts (fun m' hm=>by
  obtain⟨o',W,U,q,r'⟩:=hm;rw[Y]at q;cases q
  exact⟨_,W,U,Z,r'⟩) L I.bare
def Inv.call{ch:η J9}(I:Inv X J1 σ H s)(u:Un (frs X.stack) ch H H' s.heap h')(U:HOk X.prog X.w H' h')(hg:zd7 g')
 (O:∀b∈ch,(b∈X.ex∨X.s₀.heap.objs.size<=b)/\b≠X.env.locals/\(∀x c,X.env.cells.lookup x=ς c->c≠b)/\∀p∈X.pn++J1,p.1≠b) :
  Inv X J1 σ H' {s with heap:=h',gens:=g',drawn:=d',toks:=t'}:=by
 obtain⟨m,⟨o,es,ep,ho,r⟩,_⟩:=id I.loc;obtain⟨sl,Z⟩:=u.any ho I.free fun z=>(O _ z).2.1 rfl
 exact I.step (ch:=ch) O (fun b o Z hb q e n=>u.keep b o e n (fun z=>(qa8.mp (I.stkSub b z)).elim Z hb) q) (fun b o _ _ q e n=>u.any e n q) (fun b o q e n=>u.free b o e n q) (fun b o q e=>u.there b o e q) u.tups u.frzs u.tbls u.cts (fun m' hm=>by
  obtain⟨o',Y,W,L,r'⟩:=hm;rw[ho]at L;cases L
  exact⟨_,Y,W,Z,r'⟩) U hg
def Inv.turned(I:Inv X J1 σ H s)(k:∀b o,b≠it->s.heap.get? b=ς o->h'.get? b=ς o)(Y:H it=ψ)(U:it≠X.env.locals)
 (h1:it∈X.ex∨X.s₀.heap.objs.size<=it) (h2:∀x c,X.env.cells.lookup x=ς c->c≠it) (h3:∀p∈X.pn++J1,p.1≠it):Inv X J1 σ H {s with heap:=h',toks:=t'}:=by
 have O:∀b u,H b=ς u->b≠it:=fun b u e z=>by rw[z,Y]at e;cases e
 refine I.step (g':=s.gens) (d':=s.drawn) (ch:=[it]) (fun b W=>?_) (fun b o _ _ L e _=>k b o (fun z=>L (by simp[z])) e) (fun b o _ _ L e _=>⟨o.slots,k b o (fun z=>L (by simp[z])) e⟩) (fun _ _ _ _ n=>n)
  (fun b o L e=>⟨o,k b o (fun z=>L (by simp[z])) e⟩) (fun _ _ e=>e) (fun _ _ _ e=>e) (fun b ps e=>⟨#[],by rw[e];simp⟩) (fun _ _ e=>e) (fun m hm=>?_) (fun b u e=>?_) I.bare
 .have e:b=it:=by simpa using W
  subst e;exact⟨h1,U,h2,h3⟩
 .obtain⟨o,es,ep,Z,r⟩:=hm;exact⟨o,es,ep,k _ o (qq5 U) Z,r⟩
 .refine(I.hok b u e).stay (fun c v L q=>k c v ?_ q) (fun _ q=>q) (fun _ _ q=>q) fun _ _ _ q=>q
  rcases L with z|z
  .rw[z];exact O b u e
  .exact O c _ z
def Inv.tok(I:Inv X J1 σ H s)(t:Nat):Inv X J1 σ H {s with toks:=t}:=I.un (h':=s.heap) (t':=t) Un.refl I.hok
def Inv.kept(I:Inv X J1 σ H s)(k:∀b u,s.heap.get? b=ς u->h'.get? b=ς u):Inv X J1 σ H {s with heap:=h',toks:=t'}:=I.un (Un.kept k) (I.hok.kept k)
def Inv.laid (I:Inv X J1 σ H s) (k:∀ b u,s.heap.get? b=ς u->h'.get? b=ς u) (hp:s.heap.objs.size<=a) (new:ObjOk X.prog X.w (upd H a o) h' a o) :
  Inv X J1 σ (upd H a o) {s with heap:=h',toks:=t'}:=I.un (Un.laid k hp (I.hok.fresh hp)) (I.hok.laid k hp new)
theorem Inv.write{x e:J9}(I:Inv X J1 σ H s)(O:Mut (H x))(L:e=x∨H e=ς (.own x))(k:∀b u,b≠e->s.heap.get? b=ς u->h'.get? b=ς u)(q:∃u,h'.get? e=ς u)(new:ObjOk X.prog X.w (upd H x o) h' x o):Inv X J1 σ (upd H x o) {s with heap:=h',toks:=t'}:=I.un (Un.write O L k q) (I.hok.write O L k q new)
theorem Inv.weak{q:η (ζ V)}(I:Inv X J1 σ H s)(U:q.length=σ.length)(w:∀(i:Nat) v,q[i]?=ς (ς v)->σ[i]?=ς (ς v)):Inv X J1 q H s:=⟨I.ok,I.os,I.bare,I.base,let ⟨m,hn,hl'⟩:=I.loc;⟨m,hn,fun i x v O W L=>hl' i x v O (w i v W) L⟩,I.cell,I.free,I.freeC,I.pin,I.hok,U.trans I.len⟩
theorem Inv.pins_of{q:η (J9×Obj)}(I:Inv X J1 σ H s)(h:∀p∈q,s.heap.get? p.1=ς p.2/\H p.1=ψ/\p.1≠X.env.locals/\p.1∉X.fs/\∀v,p.2.data≠.cell v):Inv X q σ H s:=⟨I.ok,I.os,I.bare,I.base,I.loc,I.cell,I.free,I.freeC,fun p hp=>(qe1.mp hp).elim (fun z=>I.pin p (qf0 _ z)) (h p),I.hok,I.len⟩
def oU(O:N.Nodup)(a:N[i]?=ς x)(b:N[j]?=ς x):i=j:=by obtain⟨h1,q⟩:=gX a;obtain⟨h2,L⟩:=gX b;exact(List.getElem_inj O).mp (q.trans L.symm)
def mm(I:Inv X J1 σ H s)(hN:X.N.Nodup)(hi:X.N[i]?=ς x)(Y:Loc X.env.scope x)(r:RelV v u)
 (h:∀s',Inv X J1 (σ.set i (ς v)) H s'->(∃a,qo1 a s.heap s'.heap/\(a=X.env.locals∨X.env.cells.lookup x=ς a))->Q () s') (hf:X.fn x=θ∨X.env.scope.names.lookup x=ς .local:=by first|exact .inl rfl|exact .inr rfl|assumption):wpAny M A (zd8 X.env x u) Q E s:=by
 obtain⟨m,hn,hl⟩:=id I.loc;have hcls:(X.env.scope.kind==.class||(X.env.scope.kind==.module&&X.env.locals != X.env.globals))=ξ:=by rw[I.ok.kind];rfl
 have hiσ:i<σ.length:=by rw[I.len];exact(gX hi).1
 have cne:=I.cne
 have U:∀{a:J9}{h':Heap},(∃o,s.heap.get? a=ς o/\H a=ψ)->qo1 a s.heap h'->HOk X.prog X.w H h':=fun {a h'} ha L b ob e=>by
  obtain⟨_,_,Z⟩:=ha;refine(I.hok b ob e).stay (fun c w' W q=>(L.2 c ?_).trans q) (fun _ q=>q) (fun _ _ q=>q) fun _ _ _ q=>q
  rintro rfl;rcases W with rfl|W
  .rw[Z]at e;cases e
  .rw[Z]at W;cases W
 rcases Y with hk|hk
 .refine zd9 hk hn (fun h' hn' L=>?_) hcls;obtain⟨oL,_,_,hoL,_⟩:=id hn;refine h _ ⟨I.ok,I.os,I.bare,⟨fun b o e n hb Y=>?_,fun b o e n hb Y=>?_,I.base.free,fun b o e Y=>?_,I.base.tups,I.base.frzs,I.base.tbls,I.base.cts⟩,⟨_,hn',fun j y v' O e2 e3=>?_⟩,fun y c e=>?_,I.free,I.freeC,fun p hp=>?_,U ⟨oL,hoL,I.free⟩ L,by simpa using I.len⟩ ⟨_,L,.inl rfl⟩
  .exact(L.2 b (qc4 (qc2 (qb0 e) I.ok.above))).trans (I.base.keep b o e n hb Y)
  .obtain⟨sl,O⟩:=I.base.slot b o e n hb Y;exact⟨sl,(L.2 b (qc4 (qc2 (qb0 e) I.ok.above))).trans O⟩
  .obtain⟨o',O⟩:=I.base.there b o e Y;exact⟨o',(L.2 b (qc4 (qc2 (qb0 e) I.ok.above))).trans O⟩
  .by_cases hj:j=i
   .subst hj;rw[hi]at O;cases O
    rw[qf6 hiσ]at e2;cases e2;exact⟨u,r,.inl ⟨hk,Ξ⟩⟩
   .rw[gN (qq5 hj)]at e2;obtain⟨u',r',q⟩:=hl j y v' O e2 e3;refine⟨u',r',?_⟩;rcases q with ⟨k,e⟩|⟨k,c,e,z⟩
    .refine .inl ⟨k,?_⟩;have:y≠x:=fun e=>hj (oU hN O (e▸hi))
     simp[this,e]
    .exact .inr ⟨k,c,e,z.sameBut L (cne y c e)⟩
  .obtain⟨w',z⟩:=I.cell y c e;exact⟨w',z.sameBut L (cne y c e)⟩
  .obtain⟨e,n,ne,nf,d⟩:=I.pin p hp;exact⟨(L.2 p.1 ne).trans e,n,ne,nf,d⟩
 .have hfn:X.fn x=θ:=by
   rcases hf with z|z
   .exact z
   .rw[z]at hk;cases hk
  obtain⟨c,W⟩:=I.ok.has x (.inl hk);obtain⟨w',z⟩:=I.cell x c W;refine wpAny_storeName_cell I.ok.kind hk W z (fun h' hc' L=>?_);obtain⟨oc,hoc,hocd⟩:=id z;refine h {s with heap:=h'} ⟨I.ok,I.os,I.bare,⟨fun b o e n hb Y=>?_,fun b o e n hb Y=>?_,I.base.free,fun b o e Y=>?_,I.base.tups,I.base.frzs,I.base.tbls,I.base.cts⟩,⟨m,hn.sameBut L (qq5 (cne x c W)),fun j y v' O e2 e3=>?_⟩,fun y c' e=>?_,I.free,I.freeC,fun p hp=>?_,U ⟨oc,hoc,I.freeC x c W⟩ L,by simpa using I.len⟩ ⟨c,L,.inr W⟩
  .exact(L.2 b (qc4 (qc2 (qb0 e) (I.ok.cab x c hfn W)))).trans (I.base.keep b o e n hb Y)
  .obtain⟨sl,O⟩:=I.base.slot b o e n hb Y;exact⟨sl,(L.2 b (qc4 (qc2 (qb0 e) (I.ok.cab x c hfn W)))).trans O⟩
  .obtain⟨o',O⟩:=I.base.there b o e Y;exact⟨o',(L.2 b (qc4 (qc2 (qb0 e) (I.ok.cab x c hfn W)))).trans O⟩
  .by_cases hj:j=i
   .subst hj;rw[hi]at O;cases O
    rw[qf6 hiσ]at e2;cases e2;exact⟨u,r,.inr ⟨.inl hk,c,W,hc'⟩⟩
   .rw[gN (qq5 hj)]at e2;obtain⟨u',r',q⟩:=hl j y v' O e2 e3;refine⟨u',r',?_⟩;rcases q with q|⟨k,c',e,z'⟩
    .exact .inl q
    .refine .inr ⟨k,c',e,z'.sameBut L ?_⟩;rintro rfl;exact hj (oU hN O (I.ok.inj _ _ _ e W▸hi))
  .by_cases hcc:c'=c
   .subst hcc;exact⟨_,hc'⟩
   .obtain⟨w2,z2⟩:=I.cell y c' e;exact⟨w2,z2.sameBut L hcc⟩
  .obtain⟨e,n,ne,nf,d⟩:=I.pin p hp;refine⟨(L.2 p.1 ?_).trans e,n,ne,nf,d⟩;intro q;rw[q,hoc]at e;have q':oc=p.2:=qd9 e;exact d w' (by rw[<- q'];exact hocd)
def iL(I:Inv X J1 σ H s)(q:X.N.Nodup)(hi:X.N[i]?=ς x)(O:Loc X.env.scope x)(r:RelV v u)
 (h:∀s',Inv X J1 (σ.set i (ς v)) H s'->Q () s') (L:X.fn x=θ∨X.env.scope.names.lookup x=ς .local:=by first|exact .inl rfl|exact .inr rfl|assumption):wpAny M A (zd8 X.env x u) Q E s:=
 mm I q hi O r (fun s' U _=>h s' U) L
def Inv.call'(I:Inv X J1 σ H s)(O:s'.os=s.os)(u:Un (frs X.stack) ch H H' s.heap s'.heap)(q:HOk X.prog X.w H' s'.heap)(U:zd7 s'.gens)
 (L:∀b∈ch,(b∈X.ex∨X.s₀.heap.objs.size<=b)/\b≠X.env.locals/\(∀x c,X.env.cells.lookup x=ς c->c≠b)/\∀p∈X.pn++J1,p.1≠b):Inv X J1 σ H' s':=by
 obtain⟨h',g',d',t',o'⟩:=s';have e:o'=s.os:=O;subst e;exact I.call (g':=g') (t':=t') (d':=d') u q U L
end
abbrev XK:=Vz->ζ J9->Hp->Prop
abbrev St:=η (ζ V)
abbrev VK:=V->Hp->Prop
abbrev TE:=St->Hp->VK->Prop
abbrev TT:=St->Hp->(Bool->Hp->Prop)->Prop
abbrev TA:=St->Hp->(η V->Hp->Prop)->Prop
structure Ends where
 nx:St->Hp->Prop
 rt:VK
 bk:St->Hp->Prop:=fun _ _=>False
 ct:St->Hp->Prop:=fun _ _=>False
abbrev TS:=Ends->St->Hp->Prop
def EP(X:Cx)(J1:η (J9×Obj))(σ:St)(Q:VK)(u:Vz)(s':qa5):Prop:=∃v H',Inv X J1 σ H' s'/\RelV v u/\Q v H'
def TP(X:Cx)(J1:η (J9×Obj))(σ:St)(Q:Bool->Hp->Prop)(b:Bool)(s':qa5):Prop:=∃H',Inv X J1 σ H' s'/\Q b H'
def AP(X:Cx)(J1:η (J9×Obj))(σ:St)(Q:η V->Hp->Prop)(us:η Vz)(s':qa5):Prop:=∃vs H',Inv X J1 σ H' s'/\Vals vs us/\Q vs H'
def SP(X:Cx)(J1:η (J9×Obj))(D:Ends)(f:Flow)(s':qa5):Prop:=
 match f with
 |.next=>∃q H',Inv X J1 q H' s'/\D.nx q H'
 |.brk=>∃q H',Inv X J1 q H' s'/\D.bk q H'
 |.cont=>∃q H',Inv X J1 q H' s'/\D.ct q H'
 |.ret u=>∃v q H',Inv X J1 q H' s'/\RelV v u/\D.rt v H'
def PE(X:Cx)(e:Jc)(t:TE):Prop:=∀(J1:η (J9×Obj))(s:qa5)(σ:St)(H:Hp)(Q:VK),Inv X J1 σ H s->t σ H Q->wpAny (model X.prog X.w) X.A (eval e X.env) (EP X J1 σ Q) X.xe s
def PT(X:Cx)(e:Jc)(t:TT):Prop:=∀(J1:η (J9×Obj))(s:qa5)(σ:St)(H:Hp)(Q:Bool->Hp->Prop),Inv X J1 σ H s->t σ H Q->wpAny (model X.prog X.w) X.A (isTrue e X.env (eval e X.env)) (TP X J1 σ Q) X.xe s
def PW(X:Cx)(e:Jc)(t:TT):Prop:=∀(q:Sem Vz)(J1:η (J9×Obj))(s:qa5)(σ:St)(H:Hp)(Q:Bool->Hp->Prop),Inv X J1 σ H s->t σ H Q->wpAny (model X.prog X.w) X.A (isTrue e X.env q) (TP X J1 σ Q) X.xe s
variable{X:Cx}{e:Jc}
def PW.pt{t:TT}(h:PW X e t):PT X e t:=h _
def PA(X:Cx)(es:η Jc)(t:TA):Prop:=∀(pos:Pos)(J1:η (J9×Obj))(s:qa5)(σ:St)(H:Hp)(Q:η V->Hp->Prop),Inv X J1 σ H s->t σ H Q->wpAny (model X.prog X.w) X.A (spliced (qj6 pos (qa7 es X.env))) (AP X J1 σ Q) X.xe s
def PS(X:Cx)(st:Jb)(t:TS):Prop:=∀(J1:η (J9×Obj))(s:qa5)(σ:St)(H:Hp)(D:Ends),Inv X J1 σ H s->t D σ H->wpAny (model X.prog X.w) X.A (exec st X.env) (SP X J1 D) X.xe s
def PSs(X:Cx)(st:η Jb)(t:TS):Prop:=∀(J1:η (J9×Obj))(s:qa5)(σ:St)(H:Hp)(D:Ends),Inv X J1 σ H s->t D σ H->wpAny (model X.prog X.w) X.A (execs st X.env) (SP X J1 D) X.xe s
variable{s:qa5}
def thn{α:Type}{t:Sem α}{Q q:α->qa5->Prop}(h:wpAny M A t Q E s)(L:∀a s,Q a s->q a s):wpAny M A t q E s:=qk9 h L fun _ _ x=>x
variable{J1:η (J9×Obj)}{σ:St}{R:V->V->Hp->Prop}{pos:Pos}{c:Jc}
section
variable{X:Cx}
def bin{a b:Jc}{ta tb:TE}(U:PE X a ta)(W:PE X b tb)(I:Inv X J1 σ H s)(h:ta σ H fun x H1=>tb σ H1 fun y H2=>R x y H2)
 {α:Type} {Q:α->qa5->Prop} {f:Vz->Vz->Sem α}
 (hf:∀v u O x y H2,Inv X J1 σ H2 O->RelV x v->RelV y u->R x y H2->wpAny (model X.prog X.w) X.A (f v u) Q X.xe O) :
  wpAny (model X.prog X.w) X.A (eval a X.env) (fun v q=>wpAny (model X.prog X.w) X.A (eval b X.env) (fun u L=>wpAny (model X.prog X.w) X.A (f v u) Q X.xe L) X.xe q) X.xe s:=by
 refine thn (U J1 s σ H _ I h) fun v s1 ⟨x,H1,Z,r1,q1⟩=>?_
 refine thn (W J1 s1 σ H1 _ Z q1) fun u O ⟨y,H2,I2,Y,q2⟩=>?_
 exact hf v u O x y H2 I2 r1 Y q2
def iM(i:Nat):TE:=fun σ H Q=>∃v,σ[i]?=ς (ς v)/\Q v H
def tC(v:V):TE:=fun _ H Q=>Q v H
def B3(Y:X.N[i]?=ς x)(hv:Vis X.env.scope x)(O:(x==("__debug__":Str))=ξ:=by decide)(L:(x==("__classdict__":Str))=ξ:=by decide):PE X (.Name x pos) (iM i):=by
 intro J1 s σ H Q I h;obtain⟨v,e,h⟩:=h;obtain⟨m,Z,W⟩:=I.loc;obtain⟨u,r,l⟩:=W i x v Y e hv;have fin:EP X J1 σ Q u s:=⟨v,H,I,r,h⟩;rcases l with ⟨hk,hm⟩|⟨hk,c,U,q⟩
 .exact wpAny_Name (wpAny_loadName_local I.ok.kind hk Z hm fin) O
 .rcases hk with hk|hk
  .exact wpAny_Name (wpAny_loadName_cell I.ok.kind hk U q fin) O
  .exact wpAny_Name (wpAny_loadName_free I.ok.kind hk U q fin L) O
def B4{i j pos}:PE X (.Constant (.int i) j pos) (tC (.int i)):=fun _ _ _ H _ I h=>wpAny_Constant_int ⟨.int i,H,I.tok _,⟨_,rfl⟩,h⟩
def Ey{b j pos}:PE X (.Constant (.bool b) j pos) (tC (.bl b)):=fun _ _ _ H _ I h=>Constant_bool ⟨.bl b,H,I,rfl,h⟩
def B5{j pos}:PE X (.Constant .none j pos) (tC .non):=fun _ _ _ H _ I h=>Constant_none ⟨.non,H,I,rfl,h⟩
def B6{x j pos}:PE X (.Constant (.str x) j pos) (tC (.str x)):=fun _ _ _ H _ I h=>Calls.Constant_str ⟨.str x,H,I.tok _,⟨_,rfl⟩,h⟩
def Gl(X:Cx)(x:Str):Prop:=X.env.kindOf x=ς .globalImplicit
def nz{Q:Vz->qa5->Prop}(I:Inv X J1 σ H s)(O:Gl X x)(q:X.mg x=ς u)(h:Q u s)
 (L:(x==("__debug__":Str))=ξ:=by decide):wpAny (model X.prog X.w) X.A (eval (.Name x pos) X.env) Q E s:=
 qx6 I.ok.kind O (Calls.loadGlobal_global (by rw[I.ok.glob];exact I.mod.glob.keeps I.bk) q h) L
def fW{Q:Vz->qa5->Prop}(I:Inv X J1 σ H s)(W:Gl X x)(O:X.mg x=ψ)(L:qd7 x=ς u)(h:Q u s)
 (q:x≠"__name__":=by decide) (U:(x==("__debug__":Str))=ξ:=by decide):wpAny (model X.prog X.w) X.A (eval (.Name x pos) X.env) Q E s:=by
 obtain⟨mb,h1,h2⟩:=I.mod.blt;exact qx6 I.ok.kind W (Calls.loadGlobal_builtin (by rw[I.ok.glob];exact I.mod.glob.keeps I.bk) O (by rw[I.ok.blt];exact h1.keeps I.bk) ((h2 x q).trans L) h) U
def zf(O:Gl X x)(q:X.mg x=ς u)(r:RelV v u)(L:(x==("__debug__":Str))=ξ:=by decide):PE X (.Name x pos) (tC v):=fun _ _ _ H _ I h=>nz I O q ⟨v,H,I,r,h⟩ L
def zg(W:Gl X x)(O:X.mg x=ψ)(L:qd7 x=ς u)(r:RelV v u)(q:x≠"__name__":=by decide)(U:(x==("__debug__":Str))=ξ:=by decide):PE X (.Name x pos) (tC v):=fun _ _ _ H _ I h=>fW I W O L ⟨v,H,I,r,h⟩ q U
variable{a b:Jc}{ta tb:TE}{pos:Pos}
def PC(X:Cx)(O:CmpOp)(a b:Jc)(t:TE):Prop:=
 ∀(J1:η (J9×Obj))(s:qa5)(σ:St)(H:Hp)(Q:VK),Inv X J1 σ H s->t σ H Q→
  wpAny (model X.prog X.w) X.A (eval a X.env) (fun v L=>wpAny (model X.prog X.w) X.A (eval b X.env) (fun u q=>wpAny (model X.prog X.w) X.A (qf7 O v u) (EP X J1 σ Q) X.xe q) X.xe L) X.xe s
def tB(t:TE):TT:=fun σ H Q=>t σ H fun x H1=>∃c,x=.bl c/\Q c H1
def B7{q:CmpOp}{t:TE}(h:PC X q a b t)(h1:qh8 q b=ξ:=by first|exact nobehind _ Ω Ω|rfl):PE X (.Compare a [q] [b] pos) t:=fun J1 s σ H Q I L=>wpAny_Compare1 (h J1 s σ H Q I L) h1
theorem nA{L:CmpOp}{t:TE}(h:PC X L a b t)(h1:qh8 L b=ξ:=by first|exact nobehind _ Ω Ω|rfl):PT X (.Compare a [L] [b] pos) (tB t):=by intro J1 s σ H Q I W;refine ze0 (thn (h J1 s σ H _ I W) fun v s1 h1=>thn h1 fun u Z h2=>thn h2 fun c Y ⟨x,H1,O,U,q1⟩=>?_) h1;obtain⟨d,rfl,q⟩:=q1;cases U;exact qi0 ⟨H1,O,q⟩
variable{tA tB':TT}{rest:η Jc}
def tAnd(t u:TT):TT:=fun σ H Q=>t σ H fun c H1=>if c=θ then u σ H1 Q else Q ξ H1
def tOr(t u:TT):TT:=fun σ H Q=>t σ H fun c H1=>if c=θ then Q θ H1 else u σ H1 Q
def tNot(t:TT):TT:=fun σ H Q=>t σ H fun c H1=>Q (!c) H1
def zh(q:PT X a tA):PW X (.BoolOp .And [a] pos) tA:=by
 intro L J1 s σ H Q I h;refine isTrue_and (thn (q J1 s σ H Q I h) fun c s1 e=>?_);cases c with
 |true=>exact isTrue_and_nil e
 |false=>exact e
def B8(q:PT X a tA):PW X (.BoolOp .Or [a] pos) tA:=by
 intro L J1 s σ H Q I h;refine isTrue_or (thn (q J1 s σ H Q I h) fun c s1 e=>?_);cases c with
 |false=>exact isTrue_or_nil e
 |true=>exact e
def B9(L:PT X a tA)(O:PW X (.BoolOp .And (b::rest) pos) tB'):PW X (.BoolOp .And (a::b::rest) pos) (tAnd tA tB'):=by
 intro U J1 s σ H Q I h;refine isTrue_and (thn (L J1 s σ H _ I h) fun c s1 ⟨H1,q,q1⟩=>?_);cases c with
 |true=>exact O U J1 s1 σ H1 Q q q1
 |false=>exact⟨H1,q,q1⟩
def Ez(L:PT X a tA)(O:PW X (.BoolOp .Or (b::rest) pos) tB'):PW X (.BoolOp .Or (a::b::rest) pos) (tOr tA tB'):=by
 intro U J1 s σ H Q I h;refine isTrue_or (thn (L J1 s σ H _ I h) fun c s1 ⟨H1,q,q1⟩=>?_);cases c with
 |true=>exact⟨H1,q,q1⟩
 |false=>exact O U J1 s1 σ H1 Q q q1
def Ca(q:PT X a tA):PT X (.UnaryOp .Not a pos) (tNot tA):=by intro J1 s σ H Q I h;exact isTrue_not (q J1 s σ H (fun c H1=>Q (!c) H1) I h)
def EA(ta tb:TE):TE:=fun σ H Q=>ta σ H fun x H1=>∃c,x=.bl c/\if c=θ then tb σ H1 Q else Q (.bl ξ) H1
def tOrV(ta tb:TE):TE:=fun σ H Q=>ta σ H fun x H1=>∃c,x=.bl c/\if c=θ then Q (.bl θ) H1 else tb σ H1 Q
def EB(ta:TE):TE:=fun σ H Q=>ta σ H fun x H1=>∃c,x=.bl c/\Q (.bl (!c)) H1
def Cb{op}{t:TE}(h:PE X a t):PE X (.BoolOp op [a] pos) t:=fun J1 s σ H Q I q=>BoolOp_one (h J1 s σ H Q I q)
def Cc(L:PE X a ta)(O:PE X (.BoolOp .And (b::rest) pos) tb):PE X (.BoolOp .And (a::b::rest) pos) (EA ta tb):=by
 intro J1 s σ H Q I h;refine BoolOp_and (thn (L J1 s σ H _ I h) fun v s1 ⟨x,H1,q,U,q1⟩=>?_);obtain⟨c,rfl,q1⟩:=q1;cases U;refine qi0 ?_;cases c with
 |true=>exact O J1 s1 σ H1 Q q q1
 |false=>exact⟨.bl ξ,H1,q,rfl,q1⟩
def EC(L:PE X a ta)(O:PE X (.BoolOp .Or (b::rest) pos) tb):PE X (.BoolOp .Or (a::b::rest) pos) (tOrV ta tb):=by
 intro J1 s σ H Q I h;refine BoolOp_or (thn (L J1 s σ H _ I h) fun v s1 ⟨x,H1,q,U,q1⟩=>?_);obtain⟨c,rfl,q1⟩:=q1;cases U;refine qi0 ?_;cases c with
 |false=>exact O J1 s1 σ H1 Q q q1
 |true=>exact⟨.bl θ,H1,q,rfl,q1⟩
def Cd(q:PE X a ta):PE X (.UnaryOp .Not a pos) (EB ta):=by intro J1 s σ H Q I h;refine UnaryOp_ (thn (q J1 s σ H _ I h) fun v s1 ⟨x,H1,L,O,q1⟩=>?_);obtain⟨c,rfl,q1⟩:=q1;cases O;exact not_of (qi0 ⟨.bl (!c),H1,L,rfl,q1⟩)
def tIf(t:TT)(ta tb:TE):TE:=fun σ H Q=>t σ H fun c H1=>if c=θ then ta σ H1 Q else tb σ H1 Q
def vz(U:PT X c tA)(L:PE X a ta)(O:PE X b tb):PE X (.IfExp c a b pos) (tIf tA ta tb):=by
 intro J1 s σ H Q I h;refine wpAny_IfExp (thn (U J1 s σ H _ I h) fun d s1 ⟨H1,q,q1⟩=>?_);cases d with
 |true=>exact L J1 s1 σ H1 Q q q1
 |false=>exact O J1 s1 σ H1 Q q q1
end
def SqL(K:xA9)(H:Hp)(a:J9)(xs:η V):Prop:=Rd H a (.e xs)∨∃(o:Obj)(J8:Array Vz)(n:Nat),K.lookup a=ς o/\o.cls=.type "list"/\o.dict=ψ/\o.data=.seq J8 n/\J8.size<=qb2/\Vals xs J8.toList
def SqT(K:xA9)(H:Hp)(a:J9)(xs:η V):Prop:=H a=ς (.t xs)∨∃(o:Obj)(J8:Array Vz)(n:Nat),K.lookup a=ς o/\o.cls=.type "tuple"/\o.data=.seq J8 n/\J8.size<=qb2/\Vals xs J8.toList
noncomputable def absV:Vz->ζ V
 |.none=>ς .non
 |.bool b=>ς (.bl b)
 |.int i _=>ς (.int i)
 |.str x _=>ς (.str x)
 |.bytes b _=>ς (.byt b)
 |.float b _=>ς (.flt b)
 |.ref a=>ς (.ref a)
 |.type n=>ς (.ty n)
 |_=>ψ
def RelV.abs{x:V}(r:RelV x u):absV u=ς x:=by
 cases x with
 |non=>cases r;rfl
 |bl _=>cases r;rfl
 |int _=>obtain⟨t,rfl⟩:=r;rfl
 |str _=>obtain⟨t,rfl⟩:=r;rfl
 |byt _=>obtain⟨t,rfl⟩:=r;rfl
 |flt _=>obtain⟨t,rfl⟩:=r;rfl
 |ref _=>cases r;rfl
 |ty _=>cases r;rfl
variable{y:V}
def RelV.inj{x:V}(r:RelV x u)(q:RelV y u):x=y:=qd9 (r.abs.symm.trans q.abs)
theorem Vals.inj:∀{xs ys:η V}{us:η Vz},Vals xs us->Vals ys us->xs=ys
 |_,_,_,.nil,.nil=>rfl
 |_,_,_,.cons r t,.cons r' t'=>by rw[r.inj r',Vals.inj t t']
variable{K:xA9}
section
variable{X:Cx}{J1:η (J9×Obj)}{σ:St}{H:Hp}{s:qa5}{a:J9}{xs ys:η V}
def SqL.of(h:H a=ς (.e xs)):SqL K H a xs:=.inl (.inl h)
def SqT.of(h:H a=ς (.t xs)):SqT K H a xs:=.inl h
def Inv.list(I:Inv X J1 σ H s)(h:SqL X.K H a xs):∃J8:η Vz,Vals xs J8/\PlainL s.heap a J8.toArray/\xs.length<=qb2:=by
 rcases h with h|⟨o,J8,n,hk,L,O,q,U,r⟩
 .obtain⟨z,J8,n,r,e⟩:=h.ok I.hok;exact⟨J8,r,⟨_,n,e,rfl,rfl,rfl⟩,z⟩
 .refine⟨J8.toList,r,⟨o,n,I.kIn a o hk,L,O,by simpa using q⟩,?_⟩;have e:=r.length;simp only[qd8]at e;lia
def Inv.tuple(I:Inv X J1 σ H s)(h:SqT X.K H a xs):∃J8:η Vz,Vals xs J8/\IsTup s.heap a J8.toArray/\xs.length<=qb2:=by
 rcases h with h|⟨o,J8,n,hk,L,q,O,r⟩
 .obtain⟨z,J8,r,p⟩:=(Rd.of h).ok I.hok;exact⟨J8,r,p,z⟩
 .refine⟨J8.toList,r,⟨o,I.kIn a o hk,L,n,by simpa using q⟩,?_⟩;have e:=r.length;simp only[qd8]at e;lia
def Inv.list_inj(I:Inv X J1 σ H s)(h:SqL X.K H a xs)(h':SqL X.K H a ys):xs=ys:=by
 obtain⟨J8,r,⟨o,n,e,_,_,d⟩,_⟩:=I.list h;obtain⟨its',r',⟨o',O,q,_,_,d'⟩,_⟩:=I.list h';rw[e]at q;cases q
 rw[d]at d';injection d' with L _;have:J8=its':=by simpa using congrArg Array.toList L
 subst this;exact r.inj r'
def Inv.tuple_inj(I:Inv X J1 σ H s)(h:SqT X.K H a xs)(h':SqT X.K H a ys):xs=ys:=by
 obtain⟨J8,r,⟨o,e,_,n,d⟩,_⟩:=I.tuple h;obtain⟨its',r',⟨o',q,_,O,d'⟩,_⟩:=I.tuple h';rw[e]at q;cases q
 rw[d]at d';injection d' with L _;have:J8=its':=by simpa using congrArg Array.toList L
 subst this;exact r.inj r'
end
noncomputable abbrev Cx.wish(X:Cx)(E:Vz->qa5->Prop):Cx:={X with xe:=E}
abbrev Cx.nox(X:Cx):Cx:=X.wish fun _ _=>False
def Cx.Ok.wish(ok:X.Ok)(E:Vz->qa5->Prop):(X.wish E).Ok:=⟨ok.mod,ok.kind,ok.glob,ok.blt,ok.above,ok.inj,ok.has,ok.cab,ok.hd,ok.frames,ok.stk,ok.exf,ok.bs,ok.bsz,ok.noex,ok.exfs,ok.funs,ok.frf,ok.tb⟩
def Cx.Ok.unwish(ok:(X.wish E).Ok):X.Ok:=⟨ok.mod,ok.kind,ok.glob,ok.blt,ok.above,ok.inj,ok.has,ok.cab,ok.hd,ok.frames,ok.stk,ok.exf,ok.bs,ok.bsz,ok.noex,ok.exfs,ok.funs,ok.frf,ok.tb⟩
section
variable{X:Cx}{J1:η (J9×Obj)}{σ:St}{H:Hp}{s:qa5}{E:Vz->qa5->Prop}
def Inv.wish(I:Inv X J1 σ H s)(E:Vz->qa5->Prop):Inv (X.wish E) J1 σ H s:=⟨I.ok.wish E,I.os,I.bare,I.base,I.loc,I.cell,I.free,I.freeC,I.pin,I.hok,I.len⟩
def Inv.unwish(I:Inv (X.wish E) J1 σ H s):Inv X J1 σ H s:=⟨I.ok.unwish,I.os,I.bare,I.base,I.loc,I.cell,I.free,I.freeC,I.pin,I.hok,I.len⟩
def SP.unwish{D:Ends}{f:Flow}(h:SP (X.wish E) J1 D f s'):SP X J1 D f s':=by
 cases f with
 |next=>obtain⟨L,H',I,q⟩:=h;exact⟨L,H',I.unwish,q⟩
 |brk=>obtain⟨L,H',I,q⟩:=h;exact⟨L,H',I.unwish,q⟩
 |cont=>obtain⟨L,H',I,q⟩:=h;exact⟨L,H',I.unwish,q⟩
 |ret u=>obtain⟨v,L,H',I,r,q⟩:=h;exact⟨v,L,H',I.unwish,r,q⟩
def PSs.nox{st:η Jb}{t:TS}(h:PSs X.nox st t):PSs X st t:=fun J1 s σ H D I L=>qk9 (h J1 s σ H D (I.wish _) L) (fun _ _ q=>q.unwish) fun _ _ z=>qg9 z
end
variable{tc:TT}
section
variable{X:Cx}{st:Jb}{rest:η Jb}{t u:TS}{e:Jc}{te:TE}{pos:Pos}
def ED:TS:=fun D σ H=>D.nx σ H
def tSeq(t u:TS):TS:=fun D σ H=>t {D with nx:=u D} σ H
def zi:PSs X [] ED:=fun _ _ σ H _ I h=>qw5 ⟨σ,H,I,h⟩
def iN(h1:PS X st t)(h2:PSs X rest u):PSs X (st::rest) (tSeq t u):=by
 intro J1 s σ H D I h;refine wpAny_execs_cons (thn (h1 J1 s σ H {D with nx:=u D} I h) fun f s1 q=>?_);cases f with
 |next=>obtain⟨L,H',O,q⟩:=q;exact h2 J1 s1 L H' D O q
 |ret v=>exact q
 |brk=>exact q
 |cont=>exact q
def zj(h1:PS X st t):PSs X [st] t:=by
 intro J1 s σ H D I h;refine wpAny_execs_cons (thn (h1 J1 s σ H D I h) fun f s1 q=>?_);cases f with
 |next=>exact qw5 q
 |ret v=>exact q
 |brk=>exact q
 |cont=>exact q
def Inv.quiet(I:Inv X J1 σ H s):interactive X.env=ξ:=by simp[interactive,I.ok.kind]
def EE(te:TE):TS:=fun D σ H=>te σ H fun _ H1=>D.nx σ H1
def rV(q:PE X e te)(O:qo5 e ψ pos.line X.env=pure ξ:=by rfl):PS X (.Expr e pos) (EE te):=by intro J1 s σ H D I h;exact wpAny_Expr_any (thn (q J1 s σ H _ I h) fun v s1 ⟨x,H1,L,U,q1⟩=>⟨σ,H1,L,q1⟩) I.quiet O
def tRet(te:TE):TS:=fun D σ H=>te σ H D.rt
def vA(q:PE X e te):PS X (.Return (ς e) pos) (tRet te):=by intro J1 s σ H D I h;exact wpAny_Return_some (thn (q J1 s σ H _ I h) fun v s1 ⟨x,H1,O,L,q1⟩=>⟨x,σ,H1,O,L,q1⟩)
def tIfS(c:TT)(t u:TS):TS:=fun D σ H=>c σ H fun b H1=>if b=θ then t D σ H1 else u D σ H1
def EF{a b:η Jb}(U:PT X c tc)(L:PSs X a t)(O:PSs X b u):PS X (.If c a b pos) (tIfS tc t u):=by
 intro J1 s σ H D I h;refine wpAny_If (thn (U J1 s σ H _ I h) fun d s1 ⟨H1,q,q1⟩=>?_);cases d with
 |true=>exact L J1 s1 σ H1 D q q1
 |false=>exact O J1 s1 σ H1 D q q1
end
abbrev TG:=V->St->Hp->(St->Hp->Prop)->Prop
abbrev TGs:=η V->St->Hp->(St->Hp->Prop)->Prop
def PG(X:Cx)(q:Jc)(t:TG):Prop:=
 ∀(J1:η (J9×Obj))(s:qa5)(σ:St)(H:Hp)(v:V)(u:Vz)(Q:St->Hp->Prop),Inv X J1 σ H s->RelV v u->t v σ H Q→
  wpAny (model X.prog X.w) X.A (ze1 q X.env u) (fun _ s'=>∃L H',Inv X J1 L H' s'/\Q L H') X.xe s
def PGs(X:Cx)(ts:η Jc)(t:TGs):Prop:=
 ∀(J1:η (J9×Obj))(s:qa5)(σ:St)(H:Hp)(vs:η V)(us:η Vz)(Q:St->Hp->Prop),Inv X J1 σ H s->Vals vs us->t vs σ H Q→
  wpAny (model X.prog X.w) X.A (assignInOrder ((qn0 ts X.env).map (·.2)) us) (fun _ s'=>∃q H',Inv X J1 q H' s'/\Q q H') X.xe s
abbrev Ce:=V->V->V->Hp->(Hp->Prop)->Prop
def PSet(X:Cx)(t:Ce):Prop:=
 ∀(J1:η (J9×Obj))(s:qa5)(σ:St)(H:Hp)(o i v:V)(q L u:Vz)(Q:Hp->Prop),Inv X J1 σ H s->RelV o q->RelV i L->RelV v u->t o i v H Q→
  wpAny (model X.prog X.w) X.A (setItem q L u) (fun _ s'=>∃H',Inv X J1 σ H' s'/\Q H') X.xe s
abbrev TIp:=V->V->Hp->VK->Prop
def PIp(X:Cx)(q:Operator)(t:TIp):Prop:=
 ∀(J1:η (J9×Obj))(s:qa5)(σ:St)(H:Hp)(x y:V)(v u:Vz)(Q:VK),Inv X J1 σ H s->RelV x v->RelV y u->t x y H Q→
  wpAny (model X.prog X.w) X.A (inplaceOp q v u) (EP X J1 σ Q) X.xe s
variable{es:η Jc}{n:Nat}{tg:Jc}{te:TE}{g:TG}{pos':Pos}
section
variable{X:Cx}{pos:Pos}
def kL(i:Nat):TG:=fun v σ H Q=>Q (σ.set i (ς v)) H
theorem rW(q:X.N.Nodup)(hi:X.N[i]?=ς x)(O:Loc X.env.scope x)(L:X.fn x=θ∨X.env.scope.names.lookup x=ς .local:=by first|exact .inl rfl|exact .inr rfl|assumption):PG X (.Name x pos) (kL i):=by intro J1 s σ H v u Q I r h;exact wpAny_assign_Name (iL I q hi O r (fun s' U=>⟨_,H,U,h⟩) L)
def gNil:TGs:=fun vs σ H Q=>vs=[]/\Q σ H
def EG(t:TG)(u:TGs):TGs:=fun vs σ H Q=>∃v r,vs=v::r/\t v σ H fun q H'=>u r q H' Q
def zm:PGs X [] gNil:=by intro J1 s σ H vs us Q I r h;obtain⟨e,h⟩:=h;subst e;cases r;exact assignInOrder_nil ⟨σ,H,I,h⟩
def vC{t:TG}{u:TGs}(h1:PG X e t)(h2:PGs X es u)
 (W:(qn0 (e::es) X.env).map (·.2)=ze1 e X.env::(qn0 es X.env).map (·.2):=by rfl):PGs X (e::es) (EG t u):=by
 intro J1 s σ H vs us Q I r h;obtain⟨v,Y,O,h⟩:=h;subst O;cases r with
 |cons r L=>rw[W];refine assignInOrder_cons (thn (h1 J1 s σ H _ _ _ I r h) fun _ s1 ⟨q,H1,U,q1⟩=>?_);exact h2 J1 s1 q H1 _ _ Q U L q1
def gTup(K:xA9)(n:Nat)(t:TGs):TG:=fun v σ H Q=>∃a xs,v=.ref a/\SqT K H a xs/\xs.length=n/\t xs σ H Q
def Cf{k:Nat}{t:TGs}(hc:X.calm=θ)(h:PGs X es t)
 (W:(qn0 es X.env).length=n:=by rfl) (L:(qn0 es X.env).findIdx? (·.1)=ψ:=by rfl):PG X (.Tuple es k pos) (gTup X.K n t):=by
 intro J1 s σ H v u Q I r q;obtain⟨a,xs,Y,hq,U,q⟩:=q;subst Y;cases r;obtain⟨J8,O,ht,hz⟩:=I.tuple hq;refine assign_Tuple_tuple (I.ok.hd hc) ht (by simp[W,<- U,O.length]) L fun h' hx=>?_
 have Z:Inv X J1 σ H {s with heap:=h'}:=I.kept (t':=s.toks) fun b o e=>hx b o (qc4 (qb0 e)) e
 exact h J1 _ σ H xs _ Q Z (by simpa using O) q
def gSub(to ti:TE)(t:Ce):TG:=fun v σ H Q=>to σ H fun o H1=>ti σ H1 fun i H2=>t o i v H2 fun q=>Q σ q
def Cg {o i:Jc} {to ti:TE} {t:Ce} (O:PE X o to) (hi:PE X i ti) (Y:PSet X t)
  (ha:∀v,ze1 (.Subscript o i pos) X.env v=(do
   let q <- ze2 [v] (eval o X.env);let L <- ze2 [v,q] (eval i X.env)
   standAt pos
   ze2 [v,q,L] (setItem q L v)
   release [v,q,L] []):=by intro _;rfl):PG X (.Subscript o i pos) (gSub to ti t):=by
 intro J1 s σ H v u Q I r h;rw[ha];refine wB (qi5 (thn (O J1 s σ H _ I h) fun q s1 ⟨x,H1,W,Z,q1⟩=>?_));refine wB (qi5 (thn (hi J1 s1 σ H1 _ W q1) fun L s2 ⟨y,H2,I2,U,q2⟩=>?_));refine wB (zh8 (wB (qi5 (thn (Y J1 s2 σ H2 x y v q L u _ I2 Z U r q2) fun _ s3 ⟨H3,I3,q3⟩=>?_))));exact wpAny_release ⟨σ,H3,I3,q3⟩
def zn(te:TE)(g:TG):TS:=fun D σ H=>te σ H fun x H1=>g x σ H1 D.nx
def vD(L:PE X e te)(Z:PG X tg g)(U:zh9 [tg] e pos.line X.env=pure ξ:=by rfl)(Y:zi0 [tg] e X.env=pure ψ:=by rfl)
 (h1:(qn0 [tg] X.env).map (·.2)=[ze1 tg X.env]:=by rfl):PS X (.Assign [tg] e pos) (zn te g):=by
 intro J1 s σ H D I h;refine wpAny_Assign_stores (thn (L J1 s σ H _ I h) fun v s1 ⟨x,H1,O,W,q1⟩=>?_) U Y;rw[h1];exact thn (Z J1 s1 σ H1 x v _ O W q1) fun _ s2 q=>q
def Ch (L:X.N.Nodup) (hi:X.N[i]?=ς x) (Z:Loc X.env.scope x) (q:PE X e te) (U:qo5 e (ς (.Name x pos')) pos.line X.env=pure ξ:=by rfl) (Y:X.fn x=θ∨X.env.scope.names.lookup x=ς .local:=by first | exact .inl rfl | exact .inr rfl | assumption) :
  PS X (.Assign [.Name x pos'] e pos) (zn te (kL i)):=by
 intro J1 s σ H D I h;refine wpAny_Assign_Name (thn (q J1 s σ H _ I h) fun v s1 ⟨y,H1,O,W,q1⟩=>?_) U;exact iL O L hi Z W (fun s2 I2=>⟨_,H1,I2,q1⟩) Y
def tAug(i:Nat)(te:TE)(ti:TIp):TS:=fun D σ H=>∃x,σ[i]?=ς (ς x)/\te σ H fun y H1=>ti x y H1 fun z H2=>D.nx (σ.set i (ς z)) H2
def Ci {U:Operator} {ti:TIp} (Z:X.N.Nodup) (hi:X.N[i]?=ς x) (O:Loc X.env.scope x) (he:PE X e te) (ho:PIp X U ti) (hf:X.fn x=θ∨X.env.scope.names.lookup x=ς .local:=by first | exact .inl rfl | exact .inr rfl | assumption) :
  PS X (.AugAssign (.Name x pos') U e pos) (tAug i te ti):=by
 intro J1 s σ H D I h;obtain⟨v,e1,h⟩:=h;obtain⟨m,hn,hl⟩:=I.loc;have W:Vis X.env.scope x:=by rcases O with k|k;exact .inl k;exact .inr (.inl k)
 obtain⟨u,r,l⟩:=hl i x v hi e1 W;refine wpAny_AugAssign_Name ?_
 have Y:wpAny (model X.prog X.w) X.A (eval e X.env) (fun w L=>wpAny (model X.prog X.w) X.A (inplaceOp U u w) (fun r s₃=>wpAny (model X.prog X.w) X.A (zd8 X.env x r) (fun _=>SP X J1 D .next) X.xe s₃) X.xe L) X.xe s:=by
  refine thn (he J1 s σ H _ I h) fun w s1 ⟨y,H1,I1,r1,q1⟩=>?_
  refine thn (ho J1 s1 σ H1 v y u w _ I1 r r1 q1) fun z s2 ⟨zv,H2,I2,r2,q2⟩=>?_
  exact iL I2 Z hi O r2 (fun s3 I3=>⟨_,H2,I3,q2⟩) hf
 rcases l with ⟨hk,hm⟩|⟨hk,c,hc,q⟩
 .exact wpAny_loadName_local I.ok.kind hk hn hm Y
 .rcases hk with hk|hk
  .exact wpAny_loadName_cell I.ok.kind hk hc q Y
  .rcases O with k|k
   .have:X.env.scope.names.lookup x=ς .free:=hk;rw[k]at this;cases this
   .have:X.env.scope.names.lookup x=ς .free:=hk;rw[k]at this;cases this
def ipI(f:Int->Int->Int):TIp:=fun x y H Q=>∃i j,x=.int i/\y=.int j/\Q (.int (f i j)) H
def Cj:PIp X .Add (ipI fun i j=>i+j):=by intro J1 s σ H x y v u Q I U O h;obtain⟨i,j,L,W,q⟩:=h;subst L;subst W;obtain⟨t,rfl⟩:=U;obtain⟨t',rfl⟩:=O;exact iadd_int ⟨.int _,H,I.tok _,⟨_,rfl⟩,q⟩
end
variable{body:η Jb}{tb:TS}
section
variable{X:Cx}{pos:Pos}
def Ck(c:TT)(tb:TS):TS:=fun D σ H=>∃W:Nat->St->Hp->Prop,(∃m,W m σ H)/\∀m σ H,W m σ H→
 c σ H fun b H1=>if b=θ then ∃N:St->Hp->Prop,(∀q H',N q H'->∃L,L<m/\W L q H')/\tb {D with nx:=N,ct:=N,bk:=D.nx} σ H1 else D.nx σ H1
def vE(hp:zk3 (model X.prog X.w) X.A X.env X.xe)(hc:PT X c tc)(hb:PSs X body tb):PS X (.While c body [] pos) (Ck tc tb):=by
 intro J1 s σ H D I h;obtain⟨W,⟨m0,w0⟩,O⟩:=h;refine wpAny_While (codeAny_whileLoop (fun n s'=>∃Y H',Inv X J1 Y H' s'/\W n Y H') ?_ m0 ⟨σ,H,I,w0⟩);rintro n s1 ⟨L,H1,I1,w1⟩;refine qn1 hp (thn (hc J1 s1 L H1 _ I1 (O n L H1 w1)) fun b s2 ⟨H2,I2,q2⟩=>?_);cases b with
 |true=>
  obtain⟨N,hN,q2⟩:=q2;rw[if_pos rfl];refine qn1 hp (thn (hb J1 s2 L H2 _ I2 q2) fun f s3 Z=>?_);cases f with
  |next=>obtain⟨q,U,I3,n3⟩:=Z;obtain⟨m',hm,w3⟩:=hN q U n3;exact⟨m',hm,q,U,I3,w3⟩
  |cont=>obtain⟨q,U,I3,n3⟩:=Z;obtain⟨m',hm,w3⟩:=hN q U n3;exact⟨m',hm,q,U,I3,w3⟩
  |brk=>exact Z
  |ret v=>exact Z
 |false=>rw[if_neg qb6];exact qw5 ⟨L,H2,I2,q2⟩
end
structure It where
 go:Nat->Hp->Prop
 yld:Nat->Hp->V->Hp->Prop
 stop:Nat->Hp->Prop
def iq(X:Cx)(J1:η (J9×Obj))(H:Hp)(b:J9):Prop:=H b=ψ/\b≠X.env.locals/\b∉X.fs/\(b∈X.ex∨X.s₀.heap.objs.size<=b)/\(∀x c,X.env.cells.lookup x=ς c->c≠b)/\∀p∈X.pn++J1,p.1≠b
def Inv.fpOk{H':Hp}(I:Inv X J1 σ H s)(L:s.heap.objs.size<=b)(O:H' b=ψ):iq X J1 H' b:=by
 refine⟨O,ql9 (qc2 I.lt L),I.nofs L,.inr (qb9 I.sz L),fun x c e z=>?_,fun p hp z=>?_⟩
 .obtain⟨v,q⟩:=I.cell x c e;exact absurd (qc2 q.lt (by rw[z];exact L)) (ql8 _)
 .exact absurd (qc2 (qb0 (I.pin p hp).1) (by rw[z];exact L)) (ql8 _)
structure Turn(P:qd1)(w:Ja)(K:xA9)(tg:Jc)(J:It)(fp:List J9)(it:J9)(tn:Nat->Heap->Prop):Prop where
 mem:it∈fp
 obj:∀i h,tn i h->∀b∈fp,∃o,h.get? b=ς o/\∀v,o.data≠.cell v
 keep:∀i h h',tn i h->(∀b∈fp,∀o,h.get? b=ς o->h'.get? b=ς o)->tn i h'
 item:∀(X:Cx),X.prog=P->X.w=w->X.K=K->X.calm=θ->∀(i:Nat)(J1:List (J9×Obj))(s:qa5)(σ:St)(H:Hp)(E:Vz->qa5->Prop),Inv X J1 σ H s->(∀b∈fp,iq X J1 H b)->tn i s.heap->J.go i H→
  wpAny (model P w) X.A (qy0 (.ref it)) (fun r s1=>∃u,r=ς u∧wpAny (model P w) X.A (qw6 tg (.ref it) u) (fun _ s2=>∃x H',Inv X J1 σ H' s2/\RelV x u/\J.yld i H x H'/\tn (i+1) s2.heap/\∀b∈fp,H' b=ψ) E s1) E s
 done:∀(X:Cx),X.prog=P->X.w=w->X.K=K->X.calm=θ->∀(i:Nat)(J1:List (J9×Obj))(s:qa5)(σ:St)(H:Hp)(E:Vz->qa5->Prop),Inv X J1 σ H s->(∀b∈fp,iq X J1 H b)->tn i s.heap->J.stop i H→
  wpAny (model P w) X.A (qy0 (.ref it)) (fun r s1=>r=ψ/\Inv X J1 σ H s1) E s
 self:∀(A:qe0)(i:Nat)(s:qa5)(Q E:Vz->qa5->Prop),tn i s.heap->Q (.ref it) s->wpAny (model P w) A (zj2 (.ref it)) Q E s
abbrev TI:=St->Hp->(It->Hp->Prop)->Prop
def PIE(X:Cx)(J1:η (J9×Obj))(σ:St)(tg:Jc)(R:It->Hp->Prop)(q:Vz)(L:qa5):Prop:=∃(it:J9)(fp:η J9)(O:Nat->Heap->Prop)(J:It)(H':Hp),q=.ref it/\Inv X J1 σ H' L/\Turn X.prog X.w X.K tg J fp it O/\O 0 L.heap/\(∀b∈fp,iq X J1 H' b)/\R J H'
def PI(X:Cx)(tg iter:Jc)(wi:TI):Prop:=
 ∀(J1:η (J9×Obj))(s:qa5)(σ:St)(H:Hp)(R:It->Hp->Prop),Inv X J1 σ H s->wi σ H R→
  wpAny (model X.prog X.w) X.A (eval iter X.env) (fun v s1=>wpAny (model X.prog X.w) X.A (zj2 v) (PIE X J1 σ tg R) X.xe s1) X.xe s
def mn{o:Obj}{n:String}{vs:Array Vz}(U:s.heap.get? it=ς o)(L:o.cls=.type n)(W:o.data=.fields vs)
 (O:["enumerate","zip","dict_itemiterator","dict_reverseitemiterator","odict_iterator","itertools.zip_longest","itertools.pairwise"].contains n=ξ) (q:Q () s):wpAny M A (qw6 tg (.ref it) u) Q E s:=by
 unfold qw6
 cases tg<;>first
  |exact qa2 q
  | (cases u<;>first
      |exact qa2 q
      | (refine wB (wpAny_load U ?_)
         rw[L,W];show wpAny M A (if(["enumerate","zip","dict_itemiterator","dict_reverseitemiterator","odict_iterator","itertools.zip_longest","itertools.pairwise"].contains n&&vs[0]?==ς (qf8 _))=θ then _ else _) Q E s;rw[if_neg (by intro h;rw[O,zg4]at h;cases h)];exact qa2 q))
def Itl(K:xA9)(a:J9):It:=⟨fun i H=>∃xs x,SqL K H a xs/\xs[i]?=ς x,fun i H x H'=>H'=H/\∀xs,SqL K H a xs->xs[i]?=ς x,fun i H=>∃xs,SqL K H a xs/\xs.length<=i⟩
def Itt(K:xA9)(a:J9):It:=⟨fun i H=>∃xs x,SqT K H a xs/\xs[i]?=ς x,fun i H x H'=>H'=H/\∀xs,SqT K H a xs->xs[i]?=ς x,fun i H=>∃xs,SqT K H a xs/\xs.length<=i⟩
def Itr(lo:Int)(n:Nat):It:=⟨fun i _=>i<n,fun i H x H'=>H'=H/\x=.int (lo+i),fun i _=>n<=i⟩
def ug(a it:J9):Turn P w K tg (Itl K a) [it] it (fun i h=>h.IsListIter it a i) where
 mem:=by simp
 obj:=fun i h st b q=>by
  have e:b=it:=by simpa using q
  subst e;obtain⟨o,e,c,d⟩:=st;exact⟨o,e,fun v z=>by rw[d]at z;cases z⟩
 keep:=fun i h h' st k=>st.at fun o e=>k it Ξ o e
 item:=by
  intro X hP Y W hc i J1 s σ H E I O st hg;subst hP Y W;obtain⟨xs,x,U,Z⟩:=hg;obtain⟨J8,rv,p,hz⟩:=I.list U;obtain⟨u,hu,ru⟩:=rv.get Z;obtain⟨f0,f1,f2,f3,f4,f5⟩:=O it Ξ;refine wpAny_pyNext_list_item st p.isList (x:=u) (by simpa using hu) fun h' L sb=>?_
  have I1:Inv X J1 σ H {s with heap:=h'}:=I.turned (t':=s.toks) (fun b o q e=>(sb.2 b q).trans e) f0 f1 f3 f4 f5;obtain⟨o,e,c,d⟩:=id L;exact⟨u,rfl,mn (s:={s with heap:=h'}) e c d Ω ⟨x,H,I1,ru,⟨rfl,fun ys hy=>by rw[I.list_inj hy U];exact Z⟩,L,fun b q=>(O b q).1⟩⟩
 done:=by intro X hP Y W hc i J1 s σ H E I O st hg;subst hP Y W;obtain⟨xs,U,Z⟩:=hg;obtain⟨J8,rv,p,hz⟩:=I.list U;obtain⟨f0,f1,f2,f3,f4,f5⟩:=O it Ξ;have hl:=rv.length;exact wpAny_pyNext_list_end (I.ok.hd hc) st p.isList (by simp;lia) fun h' eb=>⟨rfl,I.turned (t':=s.toks) (fun b o q e=>eb b o q e) f0 f1 f3 f4 f5⟩
 self:=fun _ _ _ _ _ st h=>wpAny_pyIter_listiter st h
def qo(a it:J9):Turn P w K tg (Itt K a) [it] it (fun i h=>h.IsTupleIter it a i) where
 mem:=by simp
 obj:=fun i h st b q=>by
  have e:b=it:=by simpa using q
  subst e;obtain⟨o,e,c,d⟩:=st;exact⟨o,e,fun v z=>by rw[d]at z;cases z⟩
 keep:=fun i h h' st k=>st.at fun o e=>k it Ξ o e
 item:=by
  intro X hP Y W hc i J1 s σ H E I O st hg;subst hP Y W;obtain⟨xs,x,U,Z⟩:=hg;obtain⟨J8,rv,p,hz⟩:=I.tuple U;obtain⟨u,hu,ru⟩:=rv.get Z;obtain⟨f0,f1,f2,f3,f4,f5⟩:=O it Ξ;refine wpAny_pyNext_tuple_item st (show s.heap.IsTuple a J8.toArray from p) (x:=u) (by simpa using hu) fun h' L sb=>?_
  have I1:Inv X J1 σ H {s with heap:=h'}:=I.turned (t':=s.toks) (fun b o q e=>(sb.2 b q).trans e) f0 f1 f3 f4 f5;obtain⟨o,e,c,d⟩:=id L;exact⟨u,rfl,mn (s:={s with heap:=h'}) e c d Ω ⟨x,H,I1,ru,⟨rfl,fun ys hy=>by rw[I.tuple_inj hy U];exact Z⟩,L,fun b q=>(O b q).1⟩⟩
 done:=by intro X hP Y W hc i J1 s σ H E I O st hg;subst hP Y W;obtain⟨xs,U,Z⟩:=hg;obtain⟨J8,rv,p,hz⟩:=I.tuple U;obtain⟨f0,f1,f2,f3,f4,f5⟩:=O it Ξ;have hl:=rv.length;exact wpAny_pyNext_tuple_end (I.ok.hd hc) st (show s.heap.IsTuple a J8.toArray from p) (by simp;lia) fun h' eb=>⟨rfl,I.turned (t':=s.toks) (fun b o q e=>eb b o q e) f0 f1 f3 f4 f5⟩
 self:=fun _ _ _ _ _ st h=>wpAny_pyIter_tupleiter st h
def qp{w:Ja}(it:J9)(lo:Int)(n:Nat):Turn P w K tg (Itr lo n) [it] it (fun i h=>zg9 h it (lo+(i:Nat)*1) ((n:Int)-(i:Nat)) 1) where
 mem:=by simp
 obj:=fun i h st b q=>by
  have e:b=it:=by simpa using q
  subst e
  exact⟨_,st,fun v z=>by have z':Data.fields _=Data.cell v:=z;cases z'⟩
 keep:=fun i h h' st k=>k it Ξ _ st
 item:=by
  intro X hP Z U Y i J1 s σ H E I O st hg;subst hP Z U;obtain⟨f0,f1,f2,f3,f4,f5⟩:=O it Ξ;have W:=Walks.range (prog:=X.prog) (w:=X.w) (I.ok.hd Y) it lo 1 n;refine W.item i s _ _ hg st fun v h' tk hv L kk=>?_
  obtain⟨t,rfl⟩:=hv;have I1:Inv X J1 σ H {s with heap:=h',toks:=tk}:=I.turned (fun b o q e=>kk b o (by simpa using q) e) f0 f1 f3 f4 f5;refine⟨_,rfl,mn (s:={s with heap:=h',toks:=tk}) (n:="range_iterator") L rfl rfl Ω ⟨.int (lo+i),H,I1,⟨t,?_⟩,⟨rfl,rfl⟩,L,fun b q=>(O b q).1⟩⟩;rw[Int.mul_one]
 done:=by intro X hP Z U Y i J1 s σ H E I O st hg;subst hP Z U;obtain⟨f0,f1,f2,f3,f4,f5⟩:=O it Ξ;exact zc7 (I.ok.hd Y) st (by have:n<=i:=hg;lia) fun h' eb=>⟨rfl,I.turned (t':=s.toks) (fun b o q e=>eb b o q e) f0 f1 f3 f4 f5⟩
 self:=fun _ _ _ _ _ st h=>zc8 st h
variable{l:Jc}{tl:TE}{ta:TA}{p:Pos}{fp:η J9}
section
variable{X:Cx}{tg:Jc}
def EH(K:xA9)(tl:TE):TI:=fun σ H R=>tl σ H fun x H1=>∃a,x=.ref a/\(∃xs,SqL K H1 a xs)/\R (Itl K a) H1
def iTup(K:xA9)(tl:TE):TI:=fun σ H R=>tl σ H fun x H1=>∃a,x=.ref a/\(∃xs,SqT K H1 a xs)/\R (Itt K a) H1
def rX(U:PE X l tl):PI X tg l (EH X.K tl):=by
 intro J1 s σ H R I h;refine thn (U J1 s σ H _ I h) fun v s1 ⟨x,H1,L,W,q1⟩=>?_
 obtain⟨a,e,⟨xs,Y⟩,q⟩:=q1;subst e;cases W;obtain⟨J8,Z,p,hz⟩:=L.list Y;refine qt4 p.isList ?_;refine⟨s1.heap.objs.size,[s1.heap.objs.size],_,_,H1,rfl,L.kept (t':=s1.toks) fun b o e=>gP _ e,ug a _,⟨_,qa9 _ rfl,rfl,rfl⟩,fun b O=>?_,q⟩;have e:b=s1.heap.objs.size:=by simpa using O
 subst e;exact L.fpOk (nL _) (L.hok.fresh (nL _))
def vF(U:PE X l tl):PI X tg l (iTup X.K tl):=by
 intro J1 s σ H R I h;refine thn (U J1 s σ H _ I h) fun v s1 ⟨x,H1,L,W,q1⟩=>?_
 obtain⟨a,e,⟨xs,Y⟩,q⟩:=q1;subst e;cases W;obtain⟨J8,Z,p,hz⟩:=L.tuple Y;refine qy1 (show s1.heap.IsTuple a J8.toArray from p) ?_;refine⟨s1.heap.objs.size,[s1.heap.objs.size],_,_,H1,rfl,L.kept (t':=s1.toks) fun b o e=>gP _ e,qo a _,⟨_,qa9 _ rfl,rfl,rfl⟩,fun b O=>?_,q⟩;have e:b=s1.heap.objs.size:=by simpa using O
 subst e;exact L.fpOk (nL _) (L.hok.fresh (nL _))
def oV{R:It->Hp->Prop}{lo hi:Int}{t u v:Tok}{tk:Nat}(I:Inv X J1 σ H s)(h1:-(2^62)<=lo)(h2:lo<2^62)(h3:-(2^62)<=hi)(W:hi<2^62)
 (q:R (Itr lo (hi-lo).toNat) H):wpAny (model X.prog X.w) X.A (zj2 (.ref s.heap.objs.size)) (PIE X J1 σ tg R) E {s with heap:=s.heap.push {cls:=.type "range",data:=.fields #[.int lo t,.int hi u,.int 1 v]},toks:=tk}:=by
 refine wpAny_pyIter_range (IsRange.new ..) (small_one h1 h2 h3 W) ?_;have L:Inv X J1 σ H {s with heap:=s.heap.push {cls:=.type "range",data:=.fields #[.int lo t,.int hi u,.int 1 v]},toks:=tk}:=I.kept fun b o e=>gP _ e
 refine⟨(s.heap.push {cls:=.type "range",data:=.fields #[.int lo t,.int hi u,.int 1 v]}).objs.size,[(s.heap.push {cls:=.type "range",data:=.fields #[.int lo t,.int hi u,.int 1 v]}).objs.size],_,_,H,rfl,L.kept (t':=tk) fun b o e=>gP _ e,qp _ lo (hi-lo).toNat,?_,fun b O=>?_,q⟩
 .have Y:lo+((0:Nat):Int)*1=lo:=by simp
  have U:(((hi-lo).toNat:Nat):Int)-((0:Nat):Int)=qd3 lo hi 1:=by rw[rangeSize_one];split<;>lia
  show zg9 _ _ (lo+((0:Nat):Int)*1) ((((hi-lo).toNat:Nat):Int)-((0:Nat):Int)) 1;rw[Y,U];exact qa9 _ rfl
 .have e:b=(s.heap.push {cls:=.type "range",data:=.fields #[.int lo t,.int hi u,.int 1 v]}).objs.size:=by simpa using O
  subst e;exact L.fpOk (nL _) (L.hok.fresh (nL _))
def A5(ta:TA):TI:=fun σ H R=>ta σ H fun vs H1=>∃j:Int,vs=[.int j]/\-(2^62)<=j/\j<2^62/\R (Itr 0 j.toNat) H1
def A6(ta:TA):TI:=fun σ H R=>ta σ H fun vs H1=>∃i j:Int,vs=[.int i,.int j]/\(-(2^62)<=i/\i<2^62/\-(2^62)<=j/\j<2^62)/\R (Itr i (j-i).toNat) H1
def uh{a:Jc}(Y:Gl X "range")(hm:X.mg "range"=ψ)(L:PA X [a] ta)(W:qa7 [a] X.env=[(ξ,eval a X.env)]:=by rfl):PI X tg (.Call (.Name "range" p) [a] [] pos) (A5 ta):=by
 intro J1 s σ H R I h;refine Call_ (fW I Y hm boot_range (qf9 (thn (L pos J1 s σ H _ I h) fun us s1 ⟨vs,H1,U,Z,q1⟩=>?_) W rfl));obtain⟨j,e,q1,q2,q⟩:=q1;subst e;cases Z with
 |cons r O=>cases O;obtain⟨t,rfl⟩:=r;exact call_range_1 (oV U Θ Θ q1 q2 (by simpa using q))
def ui {a b:Jc} (hg:Gl X "range") (hm:X.mg "range"=ψ) (ha:PA X [a,b] ta) (Y:qa7 [a,b] X.env=[(ξ,eval a X.env),(ξ,eval b X.env)]:=by rfl) (L:qa7 [b] X.env=[(ξ,eval b X.env)]:=by rfl) :
  PI X tg (.Call (.Name "range" p) [a,b] [] pos) (A6 ta):=by
 intro J1 s σ H R I h;refine Call_ (fW I hg hm boot_range (qf9 (thn (ha pos J1 s σ H _ I h) fun us s1 ⟨vs,H1,W,Z,q1⟩=>?_) (by rw[Y,L]) (by rw[L];rfl)));obtain⟨i,j,e,⟨q1,q2,q3,U⟩,q⟩:=q1;subst e;cases Z with
 |cons r O=>
  cases O with
  |cons r' O=>cases O;obtain⟨t,rfl⟩:=r;obtain⟨t',rfl⟩:=r';exact call_range_2 (oV W q1 q2 q3 U q)
def tFor(wi:TI)(g:TG)(tb:TS):TS:=fun D σ H=>wi σ H fun J H1=>∃W:Nat->Nat->St->Hp->Prop,(∃m,W 0 m σ H1)/\∀i m σ H,W i m σ H→ (J.stop i H/\D.nx σ H)∨(J.go i H/\∃N:St->Hp->Prop,(∀q H',N q H'->∃O,O<m/\W (i+1) O q H')/\∀x H',J.yld i H x H'->g x σ H' fun L H2=>tb {D with nx:=N,ct:=N,bk:=D.nx} L H2)
def ju(fp:η J9)(h:Heap):η (J9×Obj):=fp.filterMap fun b=>(h.get? b).map fun o=>(b,o)
def dE{o:Obj}(q:b∈fp)(e:h.get? b=ς o):(b,o)∈ju fp h:=qy2.mpr ⟨b,q,by rw[e];rfl⟩
def uj{p:J9×Obj}(hp:p∈ju fp h):p.1∈fp/\h.get? p.1=ς p.2:=by
 obtain⟨b,L,e⟩:=qy2.mp hp;cases q:h.get? b with
 |none=>rw[q]at e;cases e
 |some o=>rw[q]at e;have O:(b,o)=p:=qd9 e;subst O;exact⟨L,q⟩
def Inv.pinned(I:Inv X J1 σ H s)(U:∀b∈fp,iq X J1 H b)(O:∀b∈fp,∃o,s.heap.get? b=ς o/\∀v,o.data≠.cell v):Inv X (J1++ju fp s.heap) σ H s:=
 I.pins_of fun p hp=>(qe1.mp hp).elim (fun z=>I.pin p (qc7 _ z)) fun z=>by
  obtain⟨q,e⟩:=uj z;obtain⟨f0,f1,f2,_⟩:=U p.1 q;obtain⟨o,L,d⟩:=O p.1 q;rw[e]at L;cases L
  exact⟨e,f0,f1,f2,d⟩
def Inv.unpinned{q:η (J9×Obj)}(I:Inv X (J1++q) σ H s):Inv X J1 σ H s:=I.pins_of fun p hp=>I.pin p (qc7 _ (qf0 _ hp))
def Cl{iter:Jc}{wi:TI}(hp:zk3 (model X.prog X.w) X.A X.env X.xe)(hc:X.calm=θ)(hi:PI X tg iter wi)(hg:PG X tg g)(O:PSs X body tb)
 (hs:∀x,qj3 iter X.env x=pure x:=by intro _;rfl):PS X (.For tg iter body [] pos) (tFor wi g tb):=by
 intro J1 s σ H D I h;refine wpAny_For (thn (hi J1 s σ H _ I h) fun v s1 h1=>thn h1 fun itv s2 h2=>?_) hs;obtain⟨it,fp,tn,J,H2,e,I2,T,st2,f2,W,⟨m0,w0⟩,turn⟩:=h2;subst e
 -- what stays θ of the iterator's objects through the loop
 have Y:∀{H':Hp},(∀b∈fp,H' b=ψ)->∀b∈fp,iq X J1 H' b:=fun hn b O=>⟨hn b O,(f2 b O).2⟩
 refine codeAny_forLoop_any (fun n s'=>∃i U H',Inv X J1 U H' s'/\tn i s'.heap/\(∀b∈fp,H' b=ψ)/\W i n U H') ?_ m0 ⟨0,σ,H2,I2,st2,fun b O=>(f2 b O).1,w0⟩;rintro n s3 ⟨i,L,H3,I3,st3,fr3,w3⟩;rcases turn i n L H3 w3 with ⟨stop,qn⟩|⟨go,N,hN,step⟩
 .refine qn1 hp (thn (T.done X rfl rfl rfl hc i J1 s3 L H3 X.xe I3 (Y fr3) st3 stop) fun r s4 ⟨hr,I4⟩=>?_);subst hr;exact qw5 ⟨L,H3,I4,qn⟩
 .refine qn1 hp (thn (T.item X rfl rfl rfl hc i J1 s3 L H3 X.xe I3 (Y fr3) st3 go) fun r s4 ⟨u,hr,h4⟩=>?_);subst hr;refine qn1 hp (thn h4 fun _ s5 ⟨x,H5,I5,r5,y5,st5,fr5⟩=>?_);have I5':=I5.pinned (Y fr5) (T.obj _ _ st5);refine qn1 hp (thn (hg _ s5 L H5 x u _ I5' r5 (step x H5 y5)) fun _ s6 ⟨σ6,H6,I6,q6⟩=>?_);refine qn1 hp (thn (O _ s6 σ6 H6 _ I6 q6) fun f s7 q7=>?_)
  have again:∀{q:St}{H7:Hp},Inv X (J1++ju fp s5.heap) q H7 s7->N q H7->∃m,m<n/\∃i U H',Inv X J1 U H' s7/\tn i s7.heap/\(∀b∈fp,H' b=ψ)/\W i m U H':=fun {q H7} Z n7=>by obtain⟨m',hm,w7⟩:=hN q H7 n7;refine⟨m',hm,i+1,q,H7,Z.unpinned,T.keep _ _ _ st5 fun b O o e=>(Z.pin (b,o) (qc7 _ (qc7 _ (dE O e)))).1,fun b O=>?_,w7⟩;obtain⟨o,e,d⟩:=T.obj _ _ st5 b O;exact(Z.pin (b,o) (qc7 _ (qc7 _ (dE O e)))).2.1
  cases f with
  |next=>obtain⟨q,H7,Z,n7⟩:=q7;exact again Z n7
  |cont=>obtain⟨q,H7,Z,n7⟩:=q7;exact again Z n7
  |brk=>obtain⟨q,H7,Z,q7⟩:=q7;exact⟨q,H7,Z.unpinned,q7⟩
  |ret v=>obtain⟨x7,q,H7,Z,r7,q7⟩:=q7;exact⟨x7,q,H7,Z.unpinned,r7,q7⟩
end
abbrev R2:=V->V->Hp->VK->Prop
def OpR(X:Cx)(f:Vz->Vz->Sem Vz)(r:R2):Prop:=
 ∀(J1:η (J9×Obj))(s:qa5)(σ:St)(H:Hp)(x y:V)(v u:Vz)(Q:VK),Inv X J1 σ H s->RelV x v->RelV y u->r x y H Q→
  wpAny (model X.prog X.w) X.A (f v u) (EP X J1 σ Q) X.xe s
def UnR(X:Cx)(f:Vz->Sem Vz)(r:V->Hp->VK->Prop):Prop:=
 ∀(J1:η (J9×Obj))(s:qa5)(σ:St)(H:Hp)(x:V)(v:Vz)(Q:VK),Inv X J1 σ H s->RelV x v->r x H Q→
  wpAny (model X.prog X.w) X.A (f v) (EP X J1 σ Q) X.xe s
def du(X:Cx)(f:Vz)(r:η V->Hp->VK->Prop):Prop:=
 ∀(J1:η (J9×Obj))(s:qa5)(σ:St)(H:Hp)(xs:η V)(us:η Vz)(Q:VK),Inv X J1 σ H s->Vals xs us->r xs H Q→
  wpAny (model X.prog X.w) X.A (call f us) (EP X J1 σ Q) X.xe s
def TruR(X:Cx)(r:V->Hp->(Bool->Hp->Prop)->Prop):Prop:=
 ∀(J1:η (J9×Obj))(s:qa5)(σ:St)(H:Hp)(x:V)(v:Vz)(Q:Bool->Hp->Prop),Inv X J1 σ H s->RelV x v->r x H Q→
  wpAny (model X.prog X.w) X.A (truthy v) (TP X J1 σ Q) X.xe s
def tOp(r:R2)(ta tb:TE):TE:=fun σ H Q=>ta σ H fun x H1=>tb σ H1 fun y H2=>r x y H2 Q
def tUn(r:V->Hp->VK->Prop)(ta:TE):TE:=fun σ H Q=>ta σ H fun x H1=>r x H1 Q
def rI(C:Int->Int->Prop)(g:Int->Int->V):R2:=fun x y H Q=>∃i j,x=.int i/\y=.int j/\C i j/\Q (g i j) H
def rI0(g:Int->Int->V):R2:=fun x y H Q=>∃i j,x=.int i/\y=.int j/\Q (g i j) H
def rU(g:Int->V):V->Hp->VK->Prop:=fun x H Q=>∃i,x=.int i/\Q (g i) H
variable{f:Vz->Vz->Sem Vz}{r:R2}
section
variable{X:Cx}{a b c:Jc}{ta tb tc:TE}{pos:Pos}
def Cm(U:PE X a ta)(W:PE X b tb)(I:Inv X J1 σ H s)
 (h:ta σ H fun x H1=>tb σ H1 fun y H2=>R x y H2) {Q:Vz->qa5->Prop} 
 (hf:∀v u O x y H2,Inv X J1 σ H2 O->RelV x v->RelV y u->R x y H2->wpAny (model X.prog X.w) X.A (f v u) Q X.xe O) :
  wpAny (model X.prog X.w) X.A (eval a X.env) (fun v q=>wpAny (model X.prog X.w) X.A (eval b X.env) (fun u L=>wpAny (model X.prog X.w) X.A (f v u) Q X.xe L) X.xe q) X.xe s:=by
 refine thn (U J1 s σ H _ I h) fun v s1 ⟨x,H1,Z,r1,q1⟩=>?_
 refine thn (W J1 s1 σ H1 _ Z q1) fun u O ⟨y,H2,I2,Y,q2⟩=>?_
 exact hf v u O x y H2 I2 r1 Y q2
def EI{L:Operator}(W:OpR X (ql4 L) r)(O:PE X a ta)(U:PE X b tb):PE X (.BinOp a L b pos) (tOp r ta tb):=by intro J1 s σ H Q I h;exact wpAny_BinOp (Cm O U I h fun v u Z x y H2 I2 rx Y q=>W J1 Z σ H2 x y v u Q I2 rx Y q)
def EJ{q:UnaryOp}{r:V->Hp->VK->Prop}(O:UnR X (unaryOp q) r)(L:PE X a ta):PE X (.UnaryOp q a pos) (tUn r ta):=by intro J1 s σ H Q I h;exact UnaryOp_ (thn (L J1 s σ H _ I h) fun v s1 ⟨x,H1,U,W,q1⟩=>O J1 s1 σ H1 x v Q U W q1)
def opI{C:Int->Int->Prop}{g:Int->Int->Int}
 (L:∀(i j:Int)(t u:Tok)(s:qa5)(Q E:Vz->qa5->Prop),C i j->Q (.int (g i j) s.toks) {s with toks:=s.toks+1}->wpAny (model X.prog X.w) X.A (f (.int i t) (.int j u)) Q E s) :
  OpR X f (rI C fun i j=>.int (g i j)):=by
 intro J1 s σ H x y v u Q I W O h;obtain⟨i,j,rfl,rfl,U,q⟩:=h;obtain⟨t,rfl⟩:=W;obtain⟨t',rfl⟩:=O;exact L i j t t' s _ _ U ⟨.int (g i j),H,I.tok _,⟨_,rfl⟩,q⟩
def opI0{g:Int->Int->Int}
 (L:∀(i j:Int)(t u:Tok)(s:qa5)(Q E:Vz->qa5->Prop),Q (.int (g i j) s.toks) {s with toks:=s.toks+1}->wpAny (model X.prog X.w) X.A (f (.int i t) (.int j u)) Q E s) :
  OpR X f (rI0 fun i j=>.int (g i j)):=by
 intro J1 s σ H x y v u Q I U O h;obtain⟨i,j,rfl,rfl,q⟩:=h;obtain⟨t,rfl⟩:=U;obtain⟨t',rfl⟩:=O;exact L i j t t' s _ _ ⟨.int (g i j),H,I.tok _,⟨_,rfl⟩,q⟩
def Co{g:Int->Int->Bool}
 (L:∀(i j:Int)(t u:Tok)(s:qa5)(Q E:Vz->qa5->Prop),Q (.bool (g i j)) s->wpAny (model X.prog X.w) X.A (f (.int i t) (.int j u)) Q E s) :
  OpR X f (rI0 fun i j=>.bl (g i j)):=by
 intro J1 s σ H x y v u Q I U O h;obtain⟨i,j,rfl,rfl,q⟩:=h;obtain⟨t,rfl⟩:=U;obtain⟨t',rfl⟩:=O;exact L i j t t' s _ _ ⟨.bl (g i j),H,I,rfl,q⟩
def Cp(i j:Int):Prop:=0<=j/\j<=1000000/\i.natAbs<2^64
def CMul(i j:Int):Prop:=(-(2^64)<i/\i<2^64)∨(-(2^64)<j/\j<2^64)
def CMul.ok{i j:Int}(h:CMul i j):IntMulOk i j:=by
 rcases h with ⟨h1,h2⟩|⟨h1,h2⟩
 .exact .of_left (intBits_le_64 h1 h2)
 .exact .of_right (intBits_le_64 h1 h2)
def Cq:OpR X (ql4 .Add) (rI0 fun i j=>.int (i+j)):=opI0 fun _ _ _ _ _ _ _ q=>add_int q
def Cr:OpR X (ql4 .Sub) (rI0 fun i j=>.int (i-j)):=opI0 fun _ _ _ _ _ _ _ q=>sub_int q
def vG:OpR X (ql4 .Mult) (rI CMul fun i j=>.int (i*j)):=opI fun _ _ _ _ _ _ _ L q=>mul_int q L.ok
def nB:OpR X (ql4 .Mod) (rI (fun _ j=>0<j) fun i j=>.int (i%j)):=opI fun i j _ _ _ _ _ L q=>by have h1:(0:Int)<j:=L;exact mod_int' Θ (by rw[Int.fmod_eq_emod_of_nonneg i Θ];exact q)
def kM:OpR X (ql4 .Pow) (rI Cp fun i j=>.int (i^j.toNat)):=opI fun _ _ _ _ _ _ _ L q=>pow_int_small L.1 L.2.1 L.2.2 q
def unI {f:Vz->Sem Vz} {g:Int->Int}
  (L:∀(i:Int)(t:Tok)(s:qa5)(Q E:Vz->qa5->Prop),Q (.int (g i) s.toks) {s with toks:=s.toks+1}->wpAny (model X.prog X.w) X.A (f (.int i t)) Q E s) :
  UnR X f (rU fun i=>.int (g i)):=by
 intro J1 s σ H x v Q I O h;obtain⟨i,rfl,q⟩:=h;obtain⟨t,rfl⟩:=O;exact L i t s _ _ ⟨.int (g i),H,I.tok _,⟨_,rfl⟩,q⟩
def Cs:UnR X (unaryOp .USub) (rU fun i=>.int (-i)):=unI fun _ _ _ _ _ q=>neg_int q
end
noncomputable def Ct:V->V->Bool
 |.non,.non=>θ|.non,.int _=>θ|.int _,.non=>θ|.non,.bl _=>θ|.bl _,.non=>θ|.non,.str _=>θ|.str _,.non=>θ
 |.int _,.int _=>θ|.bl _,.bl _=>θ|.str _,.str _=>θ|.byt _,.byt _=>θ
 |.int _,.str _=>θ|.str _,.int _=>θ|.bl _,.str _=>θ|.str _,.bl _=>θ
 |_,_=>ξ
def rEq:R2:=fun x y H Q=>Ct x y=θ/\Q (.bl (decide (x=y))) H
def rNe:R2:=fun x y H Q=>Ct x y=θ/\Q (.bl (!decide (x=y))) H
def rY{i j:Int}:decide (V.int i=V.int j)=(i==j):=by rw[qj8];simp
def vH{i j:Bool}:decide (V.bl i=V.bl j)=(i==j):=by rw[qj8];simp
def rZ{i j:Str}:decide (V.str i=V.str j)=(i==j):=by rw[qj8];simp
def r6{i j:Array UInt8}:decide (V.byt i=V.byt j)=(i.toList==j.toList):=by rw[qj8];cases i;cases j;simp
variable{r':R2}
section
variable{X:Cx}{a b c:Jc}{ta tb tc:TE}{pos:Pos}
def bt{Q:VK}{k k':Bool}(I:Inv X J1 σ H s)(q:Q (.bl k) H)(e:k=k'):EP X J1 σ Q (.bool k') s:=by subst e;exact⟨.bl k,H,I,rfl,q⟩
def EK:OpR X (qf7 .Eq) rEq:=by
 intro J1 s σ H x y v u Q I U L h;obtain⟨O,q⟩:=h;cases x with
 |non=>
  cases U;cases y with
  |non=>cases L;exact PySem.EqNone.eq_none_none (bt I q Ξ)
  |bl j=>cases L;exact PySem.EqNone.eq_none_bool (bt I q Ξ)
  |int j=>obtain⟨t',rfl⟩:=L;exact PySem.EqNone.eq_none_int (bt I q Ξ)
  |str j=>obtain⟨t',rfl⟩:=L;exact PySem.EqNone.eq_none_str (bt I q Ξ)
  |_=>exact absurd (show ξ=θ from O) qb6
 |bl i=>
  cases U;cases y with
  |non=>cases L;exact PySem.EqNone.eq_bool_none (bt I q Ξ)
  |bl j=>cases L;exact eq_bool (bt I q vH)
  |str j=>obtain⟨t',rfl⟩:=L;exact PySem.EqMixed.eq_bool_str (bt I q Ξ)
  |_=>exact absurd (show ξ=θ from O) qb6
 |int i=>
  obtain⟨t,rfl⟩:=U;cases y with
  |non=>cases L;exact PySem.EqNone.eq_int_none (bt I q Ξ)
  |int j=>obtain⟨t',rfl⟩:=L;exact eq_int (bt I q rY)
  |str j=>obtain⟨t',rfl⟩:=L;exact PySem.EqMixed.eq_int_str (bt I q Ξ)
  |_=>exact absurd (show ξ=θ from O) qb6
 |str i=>
  obtain⟨t,rfl⟩:=U;cases y with
  |non=>cases L;exact PySem.EqNone.eq_str_none (bt I q Ξ)
  |bl j=>cases L;exact PySem.EqMixed.eq_str_bool (bt I q Ξ)
  |int j=>obtain⟨t',rfl⟩:=L;exact PySem.EqMixed.eq_str_int (bt I q Ξ)
  |str j=>obtain⟨t',rfl⟩:=L;exact eq_str (bt I q rZ)
  |_=>exact absurd (show ξ=θ from O) qb6
 |byt i=>
  obtain⟨t,rfl⟩:=U;cases y with
  |byt j=>obtain⟨t',rfl⟩:=L;exact PySem.W.eq_bytes (bt I q r6)
  |_=>exact absurd (show ξ=θ from O) qb6
 |_=>cases y<;>exact absurd (show ξ=θ from O) qb6
def EL:OpR X (qf7 .NotEq) rNe:=by
 intro J1 s σ H x y v u Q I U L h;obtain⟨O,q⟩:=h;cases x with
 |non=>
  cases U;cases y with
  |non=>cases L;exact PySem.EqNone.ne_none_none (bt I q Ξ)
  |bl j=>cases L;exact PySem.EqNone.ne_none_bool (bt I q Ξ)
  |int j=>obtain⟨t',rfl⟩:=L;exact PySem.EqNone.ne_none_int (bt I q Ξ)
  |str j=>obtain⟨t',rfl⟩:=L;exact PySem.EqNone.ne_none_str (bt I q Ξ)
  |_=>exact absurd (show ξ=θ from O) qb6
 |bl i=>
  cases U;cases y with
  |non=>cases L;exact PySem.EqNone.ne_bool_none (bt I q Ξ)
  |bl j=>cases L;exact ne_bool (bt I q (congrArg not vH))
  |str j=>obtain⟨t',rfl⟩:=L;exact PySem.EqMixed.ne_bool_str (bt I q Ξ)
  |_=>exact absurd (show ξ=θ from O) qb6
 |int i=>
  obtain⟨t,rfl⟩:=U;cases y with
  |non=>cases L;exact PySem.EqNone.ne_int_none (bt I q Ξ)
  |int j=>obtain⟨t',rfl⟩:=L;exact ne_int (bt I q (congrArg not rY))
  |str j=>obtain⟨t',rfl⟩:=L;exact PySem.EqMixed.ne_int_str (bt I q Ξ)
  |_=>exact absurd (show ξ=θ from O) qb6
 |str i=>
  obtain⟨t,rfl⟩:=U;cases y with
  |non=>cases L;exact PySem.EqNone.ne_str_none (bt I q Ξ)
  |bl j=>cases L;exact PySem.EqMixed.ne_str_bool (bt I q Ξ)
  |int j=>obtain⟨t',rfl⟩:=L;exact PySem.EqMixed.ne_str_int (bt I q Ξ)
  |str j=>obtain⟨t',rfl⟩:=L;exact ne_str (bt I q (congrArg not rZ))
  |_=>exact absurd (show ξ=θ from O) qb6
 |byt i=>
  obtain⟨t,rfl⟩:=U;cases y with
  |byt j=>obtain⟨t',rfl⟩:=L;exact PySem.W.ne_bytes (bt I q (congrArg not r6))
  |_=>exact absurd (show ξ=θ from O) qb6
 |_=>cases y<;>exact absurd (show ξ=θ from O) qb6
def vI:OpR X (qf7 .Lt) (rI0 fun i j=>.bl (decide (i<j))):=Co fun _ _ _ _ _ _ _ q=>lt_int q
def r8:OpR X (qf7 .LtE) (rI0 fun i j=>.bl (decide (i<=j))):=Co fun _ _ _ _ _ _ _ q=>le_int q
def A7:OpR X (qf7 .Gt) (rI0 fun i j=>.bl (decide (j<i))):=Co fun _ _ _ _ _ _ _ q=>gt_int q
def uk:OpR X (qf7 .In) (fun x y H Q=>∃i j,x=.str i/\y=.str j/\Q (.bl (!(qs3 j i 0 j.length 1).isEmpty)) H):=by intro J1 s σ H x y v u Q I O L h;obtain⟨i,j,rfl,rfl,q⟩:=h;obtain⟨t,rfl⟩:=O;obtain⟨t',rfl⟩:=L;exact in_str (bt I q rfl)
def jv:OpR X (qf7 .Is) (fun x y H Q=>y=.non/\Q (.bl (decide (x=.non))) H):=by
 intro J1 s σ H x y v u Q I L O h;obtain⟨rfl,q⟩:=h;cases O;refine is_none_gen (bt I q ?_)
 cases x<;>first
  |(cases L;rfl)
  |(obtain⟨t,rfl⟩:=L;rfl)
def kn:OpR X (qf7 .IsNot) (fun x y H Q=>y=.non/\Q (.bl (!decide (x=.non))) H):=by
 intro J1 s σ H x y v u Q I L O h;obtain⟨rfl,q⟩:=h;cases O;refine isnot_none_gen (bt I q ?_)
 cases x<;>first
  |(cases L;rfl)
  |(obtain⟨t,rfl⟩:=L;rfl)
def OpR.or(h:OpR X f r)(h':OpR X f r'):OpR X f (fun x y H Q=>r x y H Q∨r' x y H Q):=by
 intro J1 s σ H x y v u Q I O L q;rcases q with q|q
 .exact h J1 s σ H x y v u Q I O L q
 .exact h' J1 s σ H x y v u Q I O L q
def bI(b:Jc){q:CmpOp}(h:q≠.In:=by decide)(h2:q≠.NotIn:=by decide):qh8 q b=ξ:=by
 have L:(q==CmpOp.In)=ξ:=by cases q<;>first|rfl|exact absurd rfl h
 have O:(q==CmpOp.NotIn)=ξ:=by cases q<;>first|rfl|exact absurd rfl h2
 cases b<;>simp[qh8,L,O]
theorem r9{L:CmpOp}(W:OpR X (qf7 L) r)(O:PE X a ta)(U:PE X b tb)(hm:qh8 L b=ξ):PE X (.Compare a [L] [b] pos) (tOp r ta tb):=by intro J1 s σ H Q I h;exact wpAny_Compare1 (Cm O U I h fun v u Z x y H2 I2 rx Y q=>W J1 Z σ H2 x y v u Q I2 rx Y q) hm
def EM(t:TE):TT:=fun σ H Q=>t σ H fun x H'=>∃k,x=.bl k/\Q k H'
def nC{q:CmpOp}(O:OpR X (qf7 q) r)(ha:PE X a ta)(L:PE X b tb)(hm:qh8 q b=ξ):PT X (.Compare a [q] [b] pos) (EM (tOp r ta tb)):=by
 intro J1 s σ H Q I h
 refine ze0 (thn (ha J1 s σ H _ I h) fun v s1 ⟨x,H1,W,Z,q1⟩=>thn (L J1 s1 σ H1 _ W q1) fun u s2 ⟨y,H2,I2,U,q2⟩=>thn (O J1 s2 σ H2 x y v u _ I2 Z U q2) fun c s3 ⟨z,H3,I3,Y,k,e,q3⟩=>?_) hm
 subst e;cases Y;exact qi0 ⟨H3,I3,q3⟩
def vJ(r r':R2)(ta tb tc:TE):TE:=fun σ H Q=>ta σ H fun x H1=>tb σ H1 fun y H2=>r x y H2 fun z q=>∃k,z=.bl k∧(if k=θ then tc σ q fun O L=>r' y O L Q else Q (.bl ξ) q)
def vK{O q:CmpOp}(ho:OpR X (qf7 O) r)(L:OpR X (qf7 q) r')(ha:PE X a ta)(hb:PE X b tb)(hc:PE X c tc)
 (hm:lastMarks [O,q] [b,c]=ξ:=by with_unfolding_all rfl):PE X (.Compare a [O,q] [b,c] pos) (vJ r r' ta tb tc):=by
 intro J1 s σ H Q I h
 refine Compare_chain (thn (ha J1 s σ H _ I h) fun v s1 ⟨x,H1,I1,r1,q1⟩=>chain_link (thn (hb J1 s1 σ H1 _ I1 q1) fun u s2 ⟨y,H2,I2,U,q2⟩=>thn (ho J1 s2 σ H2 x y v u _ I2 r1 U q2) fun d s3 ⟨z,W,Y,r3,k,e,Z⟩=>?_)) hm
 subst e;cases r3;refine qi0 ?_;cases k with
 |false=>exact ite_ff ⟨.bl ξ,W,Y,rfl,Z⟩
 |true=>exact ite_tt (chain_last (thn (hc J1 s3 σ W _ Y Z) fun w' s4 ⟨z',H4,I4,r4,q4⟩=>L J1 s4 σ H4 y z' u w' Q I4 U r4 q4))
def Cu(K:xA9)(x:V)(H:Hp)(k:Bool):Prop:=
 match x with
 |.non=>k=ξ
 |.bl b=>k=b
 |.int i=>k=(i != 0)
 |.str y=>y.length<=qb2/\k=((y.length:Int) != 0)
 |.byt y=>y.size<=qb2/\k=((y.size:Int) != 0)
 |.ref p=>(∃xs,SqL K H p xs/\k=!xs.isEmpty)∨(∃xs,SqT K H p xs/\k=!xs.isEmpty)∨∃J6,H p=ς (.dK J6)/\k=!J6.isEmpty
 |_=>False
def qq{κ:Type}{J6:η (κ×V)}{vs:η (κ×Vz)}(r:KV J6 vs):(!vs.isEmpty)=!J6.isEmpty:=by cases r<;>rfl
def kN{J8:η Vz}(r:Vals xs J8):(!J8.toArray.isEmpty)=!xs.isEmpty:=by cases r<;>simp
def jw:(qb2:Nat)<2^63:=by rw[qw7];decide
def Cv:TruR X (fun x H Q=>∃k,Cu X.K x H k/\Q k H):=by
 intro J1 s σ H x v Q I rx h;obtain⟨k,e,q⟩:=h;have hl:=jw;have hs:qb2=16777216:=qw7;cases x with
 |non=>cases rx;have e':k=ξ:=e;subst e';exact truthy_none ⟨H,I,q⟩
 |bl b=>cases rx;have e':k=b:=e;subst e';exact qi0 ⟨H,I,q⟩
 |int i=>obtain⟨t,rfl⟩:=rx;have e':k=(i != 0):=e;subst e';exact PySem.P.truthy_int ⟨H,I,q⟩
 |str y=>obtain⟨t,rfl⟩:=rx;obtain⟨hy,e'⟩:y.length<=qb2/\k=((y.length:Int) != 0):=e;subst e';exact PySem.P.truthy_str Θ ⟨H,I.tok _,q⟩
 |byt y=>obtain⟨t,rfl⟩:=rx;obtain⟨hy,e'⟩:y.size<=qb2/\k=((y.size:Int) != 0):=e;subst e';exact PySem.W.truthy_bytes Θ ⟨H,I.tok _,q⟩
 |ref p=>
  cases rx;have e':(∃xs,SqL X.K H p xs/\k=!xs.isEmpty)∨(∃xs,SqT X.K H p xs/\k=!xs.isEmpty)∨∃J6,H p=ς (.dK J6)/\k=!J6.isEmpty:=e;rcases e' with ⟨xs,hx,e'⟩|⟨xs,hx,e'⟩|⟨J6,hx,e'⟩
  .subst e';obtain⟨J8,r,pl,hz⟩:=I.list hx;have hlen:=r.length;exact wpAny_truthy_list pl.isList (by simp only[qb7];lia) ⟨H,I.tok _,by rw[kN r];exact q⟩
  .subst e';obtain⟨J8,r,pl,hz⟩:=I.tuple hx;have hlen:=r.length;exact truthy_tuple pl (by simp only[qb7];lia) ⟨H,I.tok _,by rw[kN r];exact q⟩
  .subst e';obtain⟨hz,hS,vs,r,m⟩:J6.length<=qb2/\(p==qj0)=ξ/\∃vs,KV J6 vs/\s.heap.DictOf (bM X.prog X.w) p vs:=I.hok p _ hx;have hlen:J6.length=vs.length:=Paired.length r;exact wpAny_truthy_dict hS m Θ ⟨H,I.tok _,by rw[qq r];exact q⟩
 |_=>exact(show False from e).elim
def vM (L:PE X a ta) (O:∀ q,isTrue a X.env q=(do let v <- q;standAt a.pos;ze2 [v] (truthy v))) :
  PT X a (fun σ H Q=>ta σ H fun x H'=>∃k,Cu X.K x H' k/\Q k H'):=by
 intro J1 s σ H Q I h;exact isTrue_plain (thn (L J1 s σ H _ I h) fun v s1 ⟨x,H1,U,W,q1⟩=>Cv J1 s1 σ H1 x v Q U W q1) (O _)
theorem qr:OpR X (ql4 .Add) (fun x y H Q=>∃i j,x=.str i/\y=.str j/\i.length+j.length<=qb2/\Q (.str (i++j)) H):=by intro J1 s σ H x y v u Q I U L h;obtain⟨i,j,rfl,rfl,O,q⟩:=h;obtain⟨t,rfl⟩:=U;obtain⟨t',rfl⟩:=L;exact add_str (fun t' tk=>⟨.str (i++j),H,I.tok _,⟨_,rfl⟩,q⟩) O
def gJ{x:V}(r:Vals [x] us):∃u,us=[u]/\RelV x u:=by
 cases r with
 |cons q L=>cases L;exact⟨_,rfl,q⟩
def EN{x:V}(r:Vals [x,y] us):∃u w',us=[u,w']/\RelV x u/\RelV y w':=by
 cases r with
 |cons O U=>
  cases U with
  |cons q L=>cases L;exact⟨_,_,rfl,O,q⟩
def LenV(K:xA9)(x:V)(H:Hp)(n:Nat):Prop:=
 match x with
 |.str y=>y.length<=qb2/\n=y.length
 |.byt y=>y.size<=qb2/\n=y.size
 |.ref p=>(∃xs,SqL K H p xs/\n=xs.length)∨∃xs,SqT K H p xs/\n=xs.length
 |_=>False
def vN:du X (.builtin "len") (fun xs H Q=>∃x n,xs=[x]/\LenV X.K x H n/\Q (.int n) H):=by
 intro J1 s σ H xs us Q I r h;obtain⟨x,n,rfl,e,q⟩:=h;obtain⟨u,rfl,rx⟩:=gJ r;have hl:=jw;have hs:qb2=16777216:=qw7;cases x with
 |str y=>obtain⟨t,rfl⟩:=rx;obtain⟨hy,e'⟩:y.length<=qb2/\n=y.length:=e;subst e';exact len_str Θ ⟨.int _,H,I.tok _,⟨_,rfl⟩,q⟩
 |byt y=>obtain⟨t,rfl⟩:=rx;obtain⟨hy,e'⟩:y.size<=qb2/\n=y.size:=e;subst e';exact PySem.W.len_bytes Θ ⟨.int _,H,I.tok _,⟨_,rfl⟩,q⟩
 |ref p=>
  cases rx;have e':(∃xs,SqL X.K H p xs/\n=xs.length)∨∃xs,SqT X.K H p xs/\n=xs.length:=e;rcases e' with ⟨xs,hx,e'⟩|⟨xs,hx,e'⟩
  .subst e';obtain⟨J8,r',pl,hz⟩:=I.list hx;have hlen:=r'.length;exact Calls.call_len_list pl.isList (by simp only[qb7];lia) ⟨.int xs.length,H,I.tok _,⟨_,by simp only[qb7];rw[hlen]⟩,q⟩
  .subst e';obtain⟨J8,r',pl,hz⟩:=I.tuple hx;have hlen:=r'.length;exact len_tuple pl (by simp only[qb7];lia) ⟨.int xs.length,H,I.tok _,⟨_,by simp only[qb7];rw[hlen]⟩,q⟩
 |_=>exact(show False from e).elim
end
structure ObjM(h:Heap)(x dx C:J9)(mA:Str->Option Vz):Prop where
 obj:h.get? x=ς (xO9 C dx)
 ns:h.Ns1 dx mA
 ne:dx≠x
variable{dx:J9}{mA:Str->ζ Vz}
def ul(n:h.Ns1 dx mA):∃od,h.get? dx=ς od/\∀name,PySem.W.lookIn name od=ς (mA name):=by
 obtain⟨o,es,ep,O,U,hk,_,Z⟩:=n;refine⟨o,O,fun name=>?_⟩;have e:=Z name;unfold nsFind findBy at e;rw[<- Array.find?_toList]at e;unfold PySem.W.lookIn;rw[U];dsimp only;split
 .rename_i y q;rw[q]at e;exact congrArg ς e
 .rename_i q;rw[q]at e
  have a:es.toList.any (·.refKey)=ξ:=by rw[List.any_eq_false];intro y hy;obtain⟨z,t,L⟩:=hk y (Array.mem_toList_iff.mp hy);simp[zk4.refKey,L]
  have Y:¬ es.toList.any (·.refKey)=θ:=by rw[a];exact qb6
  rw[if_neg Y];exact congrArg ς e
variable{C:J9}
def ObjM.look{x:J9}(I:ObjM h x dx C mA):∃od,PySem.W.InstAt h x (xO9 C dx) C (ς od)/\∀name,PySem.W.lookIn name od=ς (mA name):=
 let ⟨od,ho,hl⟩:=ul I.ns
 ⟨od,⟨I.obj,rfl,rfl,ho⟩,hl⟩
section
variable{prog:qd1}{w:Ja}{A:qe0}{E:Vz->qa5->Prop}{s:qa5}{K:xA9}{x dx C f:J9}{mA:Str->ζ Vz}{name:Str}{v:Vz}
end
def RelO.some_of{o:ζ Vz}(r:RelO (ς v) o):∃u,o=ς u/\RelV v u:=by
 cases o with
 |none=>exact(show False from r).elim
 |some u=>exact⟨u,rfl,r⟩
section
variable{P:qd1}{w:Ja}{H H':Hp}{h h':Heap}{a C dx:J9}{fs fs':η (Str×V)}
theorem zo(L:HOk P w H h)(e:H a=ς (.ins C dx fs)):∃mA,ObjM h a dx C mA/\(∀f,RelO (fs.lookup f) (mA f))/\PySem.Within mA (fs.map (·.1))/\fs.length<=1000/\H dx=ς (.own a):=by obtain⟨d,z,O,ob,mA,n,r,q⟩:=(show ObjOk P w H h a (.ins C dx fs)from L a _ e);exact⟨mA,⟨ob,n,O⟩,r,q,z,d⟩
end
structure Cls(K:xA9)(C:J9):Prop where
 pg:PySem.W.plainGet K C Str.empty=θ
 hd:PySem.W.hasDictIn K C=θ
 po:PySem.W.plainOver K C=θ
 sa:PySem.W.findIn K (.ref C) "__setattr__"=ς (ς (.builtin "object.__setattr__"))
def Cls.get(c:Cls K C)(f:Str):PySem.W.plainGet K C f=θ:=c.pg
section
variable{X:Cx}{J1:η (J9×Obj)}{σ:St}{H:Hp}{s:qa5}{a C dx:J9}{fs:η (Str×V)}{f:Str}{v:V}{A:qe0}{E:Vz->qa5->Prop}
end
section
variable{X:Cx}{o e value:Jc}{f:Str}{pos pos' tpos:Pos}{ta tv:TE}
end
section
variable{X:Cx}{J1:η (J9×Obj)}{σ:St}{H:Hp}{s:qa5}{A:qe0}{E Q:Vz->qa5->Prop}{c:Vz}{b:Bool}
inductive TyOf(K:xA9)(H:Hp):V->Vz->Prop where
 |non:TyOf K H .non (.type "NoneType")
 |bl (x:Bool):TyOf K H (.bl x) (.type "bool")
 |int (i:Int):TyOf K H (.int i) (.type "int")
 |str (x:Str):TyOf K H (.str x) (.type "str")
 |flt (x:UInt64):TyOf K H (.flt x) (.type "float")
 |e {a:J9} {xs:List V} (e:H a=ς (.e xs)):TyOf K H (.ref a) (.type "list")
 |frz {a:J9} {o:Obj} {xs:List V} (e:H a=ς (.frz o (.e xs))):TyOf K H (.ref a) (.type "list")
 |t {a:J9} {xs:List V} (e:H a=ς (.t xs)):TyOf K H (.ref a) (.type "tuple")
 |dK {a:J9} {J6:List (Key×V)} (e:H a=ς (.dK J6)):TyOf K H (.ref a) (.type "dict")
 |dT {a:J9} {J6:List (List Key×V)} (e:H a=ς (.dT J6)):TyOf K H (.ref a) (.type "dict")
 | ins {a C dx:J9} {fs:List (Str×V)} (e:H a=ς (.ins C dx fs)) (cl:Cls K C) (ha:PySem.W.findIn K (.ref C) "__class__"=ς (ς (.builtin "object.__class__")))
     (hn:PySem.W.specialIn K (.builtin "object.__class__") "__get__"=ς (ς (.builtin "getset_descriptor.__get__"))) (htk:PySem.W.takesIn K (.builtin "object.__class__")=ς θ)
     (hm:PySem.W.mroIn K C (.type "object")=ς θ):TyOf K H (.ref a) (.ref C)
def ib {x:V} {t:Vz} (I:Inv X J1 σ H s) (U:RelV x u) (ty:TyOf X.K H x t) (e:xL9 X.K t c=ς b) (h:∀ tk,Q (.bool b) {s with toks:=tk}) :
  wpAny (model X.prog X.w) A (call (.builtin "isinstance") [u,c]) Q E s:=by
 cases ty with
 |non=>cases (show u=qh5 from U);exact xD9 PySem.W.kitx_none I.kIn qr8 e (fun z=>nomatch z) h
 |bl y=>cases (show u=qr7 y from U);exact xD9 PySem.W.kitx_bool I.kIn qr8 e (fun z=>nomatch z) h
 |int i=>obtain⟨t,q⟩:=(show ∃t,u=zk1 i t from U);cases q;exact xD9 PySem.W.kitx_int I.kIn qr8 e (fun z=>nomatch z) h
 |str y=>obtain⟨t,q⟩:=(show ∃t,u=zk2 y t from U);cases q;exact xD9 PySem.W.kitx_str I.kIn qr8 e (fun z=>nomatch z) h
 |flt y=>obtain⟨t,q⟩:=(show ∃t,u=Value.float y t from U);cases q;exact xD9 PySem.W.kitx_float I.kIn qr8 e (fun z=>nomatch z) h
 |@e a xs L=>cases (show u=qf3 a from U);obtain⟨_,_,n,_,h1⟩:=(show ObjOk X.prog X.w H s.heap a (.e xs)from I.hok a _ L);exact xD9 xQ9 I.kIn ⟨_,h1,rfl⟩ e (fun z=>nomatch z) h
 |@frz a ob xs L=>cases (show u=qf3 a from U);obtain⟨_,_,_,n,_,h1⟩:=(show ObjOk X.prog X.w H s.heap a (.frz ob (.e xs))from I.hok a _ L);exact xD9 xQ9 I.kIn ⟨_,h1,rfl⟩ e (fun z=>nomatch z) h
 |@t a xs L=>cases (show u=qf3 a from U);obtain⟨_,_,_,p⟩:=(show ObjOk X.prog X.w H s.heap a (.t xs)from I.hok a _ L);obtain⟨o,h1,h2,_⟩:=p;exact xD9 PySem.W.kitx_tuple I.kIn ⟨o,h1,h2⟩ e (fun z=>nomatch z) h
 |@dK a J6 L=>cases (show u=qf3 a from U);obtain⟨_,_,vs,_,p⟩:=(show ObjOk X.prog X.w H s.heap a (.dK J6)from I.hok a _ L);obtain⟨o,es,ep,h1,h2,_⟩:=p;exact xD9 xM9 I.kIn ⟨o,h1,h2.1⟩ e (fun z=>nomatch z) h
 |@dT a J6 L=>cases (show u=qf3 a from U);obtain⟨_,_,xs,_,o,es,ep,h1,h2,_⟩:=(show ObjOk X.prog X.w H s.heap a (.dT J6)from I.hok a _ L);exact xD9 xM9 I.kIn ⟨o,h1,h2.1⟩ e (fun z=>nomatch z) h
 |@ins a C dx fs L cl ha Z Y hm=>cases (show u=qf3 a from U);obtain⟨mA,O,_⟩:=zo I.hok L;obtain⟨od,J,_⟩:=O.look;exact xD9 (PySem.W.kitx_own (cl.get _) cl.hd ha Z Y hm) I.kIn J e (fun z=>nomatch z) h
end
structure Room(k:Nat)(A:qe0):Prop where
 hd:A.handled=ψ
 dp:A.depth+3*k+5<recursionLimit
 un:A.units+16*k+200<cLine
def Room.mono{k:Nat}(r:Room k A)(h:j<=k):Room j A:=⟨r.hd,by have:=r.dp;lia,by have:=r.un;lia⟩
def Room.deeper{k:Nat}(r:Room (k+1) A)(env:Env):Room k (A.deeper env):=⟨r.hd,by have:=r.dp;show A.depth+1+3*k+5<_;lia,by have:=r.un;show A.units+3+16*k+200<_;lia⟩
def Room.depth{k:Nat}(r:Room k A):A.depth<recursionLimit:=by have:=r.dp;lia
def Room.units{k:Nat}(r:Room k A):A.units+64<cLine:=by have:=r.un;lia
def tNil:TA:=fun _ H Q=>Q [] H
def EO(ta:TE)(q:TA):TA:=fun σ H Q=>ta σ H fun x H1=>q σ H1 fun xs H2=>Q (x::xs) H2
section
variable{X:Cx}{e:Jc}{es:η Jc}{te:TE}{t:TA}{pos:Pos}
def fX:PA X [] tNil:=fun _ _ _ _ H Q I h=>Calls.spliced_nil ⟨[],H,I,.nil,h⟩
theorem di(q:PE X e te)(L:PA X es t)(W:qa7 (e::es) X.env=(ξ,eval e X.env)::qa7 es X.env:=by rfl):PA X (e::es) (EO te t):=by intro pos J1 s σ H Q I h;rw[W];show wpAny _ _ (spliced ((ξ,eval e X.env)::qj6 pos (qa7 es X.env))) _ _ s;refine Calls.spliced_cons (thn (q J1 s σ H _ I h) fun u s1 ⟨x,H1,U,Y,q1⟩=>?_);exact thn (L pos J1 s1 σ H1 _ U q1) fun us s2 ⟨xs,H2,Z,O,q2⟩=>⟨x::xs,H2,Z,.cons Y O,q2⟩
def tTup(t:TA):TE:=fun σ H Q=>t σ H fun xs H1=>xs.length<=qb2/\∀p,H1 p=ψ->Q (.ref p) (upd H1 p (.t xs))
def tLst(t:TA):TE:=fun σ H Q=>t σ H fun xs H1=>xs.length<=qb2/\∀p,H1 p=ψ->Q (.ref p) (upd H1 p (.e xs))
theorem Cw{x1}(h:PA X es t):PE X (.Tuple es x1 pos) (tTup t):=by intro J1 s σ H Q I U;refine wpAny_Tuple_spliced (thn (h pos J1 s σ H _ I U) fun us s1 ⟨xs,H1,L,r,z,q⟩=>⟨by rw[<- r.length];exact z,?_⟩);have O:H1 s1.heap.objs.size=ψ:=L.hok.fresh (nL _);refine⟨.ref s1.heap.objs.size,upd H1 s1.heap.objs.size (.t xs),L.laid (t':=s1.toks) (fun b u e=>gP _ e) (nL _) ?_,rfl,q _ O⟩;exact⟨z,us,r,⟨_,qa9 _ rfl,rfl,_,rfl⟩⟩
theorem Cy(h:PA X es t):PE X (.List es pos) (tLst t):=by intro J1 s σ H Q I U;refine wpAny_List_spliced (thn (h pos J1 s σ H _ I U) fun us s1 ⟨xs,H1,L,r,z,q⟩=>⟨by rw[<- r.length];exact z,?_⟩);have O:H1 s1.heap.objs.size=ψ:=L.hok.fresh (nL _);refine⟨.ref s1.heap.objs.size,upd H1 s1.heap.objs.size (.e xs),L.laid (t':=s1.toks) (fun b u e=>gP _ e) (nL _) ?_,rfl,q _ O⟩;exact⟨z,us,0,r,qa9 _ rfl⟩
end
abbrev Sp:=η V->Hp->VK->XK->Prop
abbrev CXT:=η Env->Hp->qa5->XK->Vz->qa5->Prop
structure Env0(P:qd1)(w:Ja)(K:xA9)(mg:Str->Option Vz)(base:Heap)(A:qe0)(outer:List Env)(s:qa5)(H:Hp):Prop where
 frames:A.frames=ς outer
 mod:Mod K mg base
 bs:∀b o,base.get? b=ς o->s.heap.get? b=ς o/\H b=ψ
 bsz:base.objs.size<=s.heap.objs.size
 funs:s.heap.FunFrames base outer
 frf:∀b∈frs outer,H b=ψ
 hok:HOk P w H s.heap
 bare:zd7 s.gens
 tb:∀p∈dD K,H p.1=ς (.ctab p.2)
def CE(outer:η Env)(P:qd1)(w:Ja)(H:Hp)(s:qa5)(Q:VK)(u:Vz)(s':qa5):Prop:=∃v H',s'.os=s.os/\zd7 s'.gens/\Un (frs outer) [] H H' s.heap s'.heap/\HOk P w H' s'.heap/\RelV v u/\Q v H'
def CR(CX:CXT)(outer:η Env)(P:qd1)(w:Ja)(H:Hp)(s:qa5)(Q:VK)(E:XK)(r:Result)(s':qa5):Prop:=
 match r with
 |.ok (.ret u)=>CE outer P w H s Q u s'
 |.ok _=>False
 |.error e=>CX outer H s E e s'
structure FnOk(P:qd1)(w:Ja)(K:xA9)(mg:Str->Option Vz)(base:Heap)(CX:CXT)(k:Nat)(f:J9)(fd:qp9)(ps:List Str)(sp:Sp):Prop where
 len:∀vs H Q E,sp vs H Q E->vs.length=ps.length
 run:∀(A:qe0)(outer:List Env)(s:qa5)(H:Hp)(args:Args)(us:List Vz)(vs:List V)(Q:VK)(E:XK),Room k A->Env0 P w K mg base A outer s H->za9 s fd args (ps.zip us)->Vals vs us->sp vs H Q E→
  qq6 (model P w) A (.call (.ref f) args) (CR CX outer P w H s Q E) s
variable{mg:Str->ζ Vz}{base:Heap}{CX:CXT}{fd:qp9}{ps:η Str}{sp:Sp}
def FnOk.imp{k:Nat}{f:J9}{L:Sp}(F:FnOk P w K mg base CX k f fd ps sp)
 (h:∀vs H Q E,L vs H Q E->sp vs H Q E):FnOk P w K mg base CX k f fd ps L:=
 ⟨fun vs H Q E q=>F.len vs H Q E (h _ _ _ _ q),fun A outer s H O us vs Q E Y U W Z hs=>F.run A outer s H O us vs Q E Y U W Z (h _ _ _ _ hs)⟩
section
variable{X:Cx}{J1:η (J9×Obj)}{σ:St}{H:Hp}{s s':qa5}
def Inv.env0(I:Inv X J1 σ H s):Env0 X.prog X.w X.K X.mg X.base X.A X.stack s H:=⟨I.ok.frames,I.ok.mod,I.bs,qb9 I.ok.bsz I.sz,I.stack,I.stkFree,I.hok,I.bare,fun p hp=>I.base.cts _ _ (I.ok.tb p hp)⟩
theorem Inv.after{Q:VK}(I:Inv X J1 σ H s)(h:CE X.stack X.prog X.w H s Q u s'):EP X J1 σ Q u s':=by obtain⟨v,H',os,L,un,O,r,q⟩:=h;obtain⟨W,g,d,t,U⟩:=s';obtain rfl:U=s.os:=os;exact⟨v,H',I.call (h':=W) (g':=g) (d':=d) (t':=t) (ch:=[]) un O L (fun b z=>absurd z Ξ),r,q⟩
end
def vO(sp:Sp)(dvs:η V)(E:XK)(t:TA):TE:=fun σ H Q=>t σ H fun vs H1=>sp (vs++dvs) H1 Q E
def Binds(K:xA9)(fd:qp9)(ps:η Str)(ds:η Vz):Prop:=∀(s:qa5)(us:η Vz),K.In s.heap->(us++ds).length=ps.length->za9 s fd ⟨us,[]⟩ (ps.zip (us++ds))
def Binds.all(h:∀us:η Vz,us.length=ps.length->zi1 fd ⟨us,[]⟩=pure (ps.zip us)):Binds K fd ps []:=fun s us _ q=>by rw[qg5]at q ⊢;exact .of_eq (h us q)
def qt(CX:CXT)(X:Cx)(E:XK):Prop:=∀(J1:η (J9×Obj))(σ:St)(H:Hp)(s:qa5)(e:Vz)(s':qa5),Inv X J1 σ H s->CX X.stack H s E e s'->X.xe e s'
variable{vs:η V}
section
variable{X:Cx}{CX:CXT}{k:Nat}{f C:J9}{fd:qp9}{ps:η Str}{sp:Sp}{dvs:η V}{ds:η Vz}{E:XK}{x m:Str}{p pos apos:Pos}{e o:Jc}{es:η Jc}{ta:TE}{t:TA}
def Cz{Q:VK}(F:FnOk X.prog X.w X.K X.mg X.base CX k f fd ps sp)(W:Room k X.A)(O:Binds X.K fd ps ds)(Y:Vals dvs ds)(Z:qt CX X E)
 (I:Inv X J1 σ H s) (r:Vals vs us) (h:sp (vs++dvs) H Q E):wpAny (model X.prog X.w) X.A (call (.ref f) us) (EP X J1 σ Q) X.xe s:=by
 have L:Vals (vs++dvs) (us++ds):=r.append Y;have U:(us++ds).length=ps.length:=by rw[<- L.length];exact F.len _ _ _ _ h
 refine zi8 (qr9 (F.run X.A X.stack s H ⟨us,[]⟩ (us++ds) (vs++dvs) Q E W I.env0 (O s us I.kIn U) L h) fun r s' q=>?_);cases r with
 |error e=>exact Z J1 σ H s e s' I q
 |ok fl=>
  cases fl with
  |ret u=>exact I.after q
  |next=>exact qg9 q
  |brk=>exact qg9 q
  |cont=>exact qg9 q
def zq (F:FnOk X.prog X.w X.K X.mg X.base CX k f fd ps sp) (hr:Room k X.A) (hg:Gl X x) (hm:X.mg x=ς (.ref f)) (hk:xF9 X.K (.ref f)=θ) (Z:Binds X.K fd ps ds) (hd:Vals dvs ds) (hx:qt CX X E)
  (Y:PA X (e::es) t) (L:(x==("__debug__":Str))=ξ:=by decide) (he:qa7 (e::es) X.env=(ξ,eval e X.env)::qa7 es X.env:=by rfl) (O:(qj6 pos (qa7 es X.env)).any (·.1)=ξ:=by rfl) :
  PE X (.Call (.Name x p) (e::es) [] pos) (vO sp dvs E t):=by
 intro J1 s σ H Q I h;refine qo9 (nz I hg hm ?_ L);refine PySem.W.callWith_K (h₀:=X.base) I.ok.mod.kin hk (thn (Y pos J1 s σ H _ I h) fun us s1 ⟨vs,H1,U,r,q⟩=>⟨U.kIn,?_⟩) he O;exact Cz F hr Z hd hx U r q
end
section
variable{X:Cx}{CX:CXT}{k:Nat}{f C:J9}{fd:qp9}{ps ks:η Str}{sp:Sp}{E:XK}{x m:Str}{p pos apos kpos:Pos}{e o:Jc}{es:η Jc}{kws:η ze3}{te ta:TE}{t tk:TA}{nm:ζ Str}
variable{g:η Vz->η Vz->η Vz}{gV:η V->η V->η V}
end
structure FnScope(N P:List Str)(sc:Jd):Prop where
 kind:sc.kind=.function
 co:sc.isCoroutine=ξ
 gen:sc.isGenerator=ξ
 nd:N.Nodup
 pre:N.take P.length=P
 par:∀x∈P,sc.names.lookup x=ς .local∨sc.names.lookup x=ς .cell
 nofree:∀y∈sc.names,y.2≠.free
variable{kindOf:Str->ζ qp0}
theorem mq:∀{binds:η (Str×Vz)}{m:Str->ζ Vz},(∀v,(x,v)∉binds)->bindL kindOf binds m x=m x
 |[],_,_=>rfl
 |(n,v)::r,m,h=>by
  unfold bindL;rw[mq fun w hw=>h w (qd5 _ hw)];split
  .have:x≠n:=by rintro rfl;exact h v qe7
   simp[this]
  .rfl
theorem mr:∀{binds:η (Str×Vz)}{m:Str->ζ Vz},(∀v,(x,v)∉binds)->bindC kindOf binds m x=m x
 |[],_,_=>rfl
 |(n,v)::r,m,h=>by
  unfold bindC;rw[mr fun w hw=>h w (qd5 _ hw)];split
  .rfl
  .have:x≠n:=by rintro rfl;exact h v qe7
   simp[this]
theorem jx {v:Vz}:∀ {P:η Str} {vs:η Vz} {i:Nat} {m:Str->ζ Vz},P.Nodup->P[i]?=ς x->vs[i]?=ς v->kindOf x=ς .local→
  bindL kindOf (P.zip vs) m x=ς v
 |[],_,_,_,_,h,_,_=>by simp at h
 |_::_,[],_,_,_,_,h,_=>by simp at h
 |p::P,w::vs,0,m,nd,h1,h2,hk=>by
  simp at h1 h2;subst h1;subst h2
  show bindL kindOf ((p,w)::P.zip vs) m p=_;unfold bindL;rw[mq fun v hv=>(qi6.mp nd).1 (qw8 hv).1,if_pos hk];simp
 |p::P,w::vs,i+1,m,nd,h1,h2,hk=>by show bindL kindOf ((p,w)::P.zip vs) m x=_;unfold bindL;exact jx (i:=i) (qi6.mp nd).2 (by simpa using h1) (by simpa using h2) hk
theorem jy {v:Vz}:∀ {P:η Str} {vs:η Vz} {i:Nat} {m:Str->ζ Vz},P.Nodup->P[i]?=ς x->vs[i]?=ς v->kindOf x≠ς .local→
  bindC kindOf (P.zip vs) m x=ς v
 |[],_,_,_,_,h,_,_=>by simp at h
 |_::_,[],_,_,_,_,h,_=>by simp at h
 |p::P,w::vs,0,m,nd,h1,h2,hk=>by
  simp at h1 h2;subst h1;subst h2
  show bindC kindOf ((p,w)::P.zip vs) m p=_;unfold bindC;rw[mr fun v hv=>(qi6.mp nd).1 (qw8 hv).1,if_neg hk];simp
 |p::P,w::vs,i+1,m,nd,h1,h2,hk=>by show bindC kindOf ((p,w)::P.zip vs) m x=_;unfold bindC;exact jy (i:=i) (qi6.mp nd).2 (by simpa using h1) (by simpa using h2) hk
noncomputable def start(N:η Str)(vs:η V):St:=vs.map ς++qc1 (N.length-vs.length) ψ
noncomputable def kO(CX:CXT)(P:qd1)(w:Ja)(K:xA9)(mg:Str->ζ Vz)(base:Heap)(N:η Str)(qual:Str)(scope:Jd)(f:J9)(L:Vz)(A:qe0)(outer:η Env)(s:qa5)(H:Hp)(E:XK):Cx where
 prog:=P
 w:=w
 K:=K
 mg:=mg
 base:=base
 A:=A.deeper (qz4 qual scope s.heap.objs.size f L)
 N:=N
 s₀:=s
 H₀:=H
 env:=qz4 qual scope s.heap.objs.size f L
 outer:=outer
 stack:=qz4 qual scope s.heap.objs.size f L::outer
 ex:=[]
 calm:=true
 fn:=fun _=>θ
 pn:=[]
 xe:=fun e s'=>wpAny (model P w) (A.deeper (qz4 qual scope s.heap.objs.size f L)) (leaving (qz4 qual scope s.heap.objs.size f L) e) (fun _ q=>CX outer H s E e q) (fun O q=>CX outer H s E O q) s'
def iO{sc:Jd}(h:sc.names.lookup x=ς .cell):∃c,(qh1 n sc.names []).lookup x=ς c:=by have q:=xR9 sc.names n [] (.inl h);exact qs0.mp q
variable{qual:Str}{scope:Jd}
def um{f:J9}{W:Vz}{outer:η Env}{s1:qa5}{E:XK} 
 (S:FnScope N ps scope) (Z:A.handled=ψ) (e0:Env0 P w K mg base A outer s H) (hl:vs.length=ps.length) (r:Vals vs us)
 (x:ze4 s s.heap.objs.size (bindL (qz4 qual scope s.heap.objs.size f W).kindOf (ps.zip us) fun _=>ψ) (qh1 (s.heap.objs.size+1) scope.names []) (bindC (qz4 qual scope s.heap.objs.size f W).kindOf (ps.zip us) fun _=>ψ) s1) :
  Inv (kO CX P w K mg base N qual scope f W A outer s H E) [] (start N vs) H s1:=by
 have hpl:ps.length<=N.length:=by have:=congrArg qp2 S.pre;rw[qu9]at this;lia
 obtain⟨h1,tk,rfl,hk⟩:=x.done;have L:∀b:J9,b∉(kO CX P w K mg base N qual scope f W A outer s H E).ex:=fun b z=>absurd (show b∈([]:η J9)from z) Ξ
 refine⟨⟨e0.mod,S.kind,rfl,rfl,nL _,fun y z c h1 h2=>?_,fun y O=>?_,fun y c _ h=>?_,fun _=>Z,qe0.frames_deeper e0.frames,.inr ⟨rfl,rfl⟩,fun b z=>absurd z (L b),e0.bs,e0.bsz,fun b _ _=>L b,fun b z=>absurd z (L b),e0.funs,e0.frf,e0.tb⟩,rfl,e0.bare,Un.kept hk,⟨_,x.toInCall.ns,fun i y v h1 h2 h3=>?_⟩,fun y c h=>⟨_,x.cell y c h⟩,e0.hok.fresh (qp1 _),fun y c h=>?_,fun p hp=>absurd (show p∈([]:η (J9×Obj))from hp) Ξ,e0.hok.kept hk,?_⟩
 .exact zj3 x.apart (PySem.mem_of_lookup h1) (PySem.mem_of_lookup h2)
 .have O:scope.names.lookup y=ς .cell∨scope.names.lookup y=ς .free:=O;rcases O with O|O
  .exact iO O
  .exact absurd rfl (S.nofree _ (PySem.mem_of_lookup O))
 .exact qj1 (x.above y c (PySem.mem_of_lookup h))
 .have hi:i<vs.length:=by
   unfold start at h2;by_cases hi:i<vs.length
   .exact hi
   .rw[qc9 (by simpa using hi)]at h2;rw[qk4]at h2;split at h2<;>cases h2
  have ha:vs[i]?=ς v:=by
   unfold start at h2;rw[qb4 (by simpa using hi),qb1]at h2;cases e:vs[i]? with
   |none=>rw[e]at h2;cases h2
   |some a=>rw[e]at h2;cases h2;rfl
  obtain⟨u,Y,rv⟩:=r.get ha
  have hp:ps[i]?=ς y:=by rw[<- S.pre,qz5 Θ];exact h1
  have U:ps.Nodup:=by rw[<- S.pre];exact S.nd.sublist (qz6 _ _)
  refine⟨u,rv,?_⟩;rcases S.par y (qc8 hp)with k|k
  .exact .inl ⟨k,jx U hp Y k⟩
  .obtain⟨c,e⟩:=iO (n:=s.heap.objs.size+1) k;refine .inr ⟨.inl k,c,e,?_⟩;have q:=x.cell y c e;rw[jy U hp Y (by show scope.names.lookup y≠_;rw[k];decide)]at q;exact q
 .exact e0.hok.fresh (qj1 (x.above y c (PySem.mem_of_lookup h)))
 .unfold start;show _=N.length;rw[qc0,qa1,qm0];lia
def A8{k:Nat}{f:J9}{name:Str}{params:qj2}{dV kV doc pm cdv ct oc:Vz}{an od:ζ J9}
 {osl:Array (ζ Vz)} (lk:K.lookup f=ς ⟨oc,od,.func (xC9 name qual params body scope dV kV doc pm an cdv ct),osl⟩) (hcd:xH9 K cdv qual=θ) (S:FnScope N ps scope)
 (len:∀vs H Q E,sp vs H Q E->vs.length=ps.length)
 (U:∀(A:qe0)(outer:η Env)(s:qa5)(H:Hp)(vs:η V)(Q:VK)(E:XK),Room k (A.deeper (qz4 qual scope s.heap.objs.size f cdv))->sp vs H Q E→
 ∃t,PSs (kO CX P w K mg base N qual scope f cdv A outer s H E) body t/\t {nx:=fun _ H'=>Q .non H',rt:=Q} (start N vs) H) :
  FnOk P w K mg base CX (k+1) f (xC9 name qual params body scope dV kV doc pm an cdv ct) ps sp:=by
 refine⟨len,fun A outer s H args us vs Q E hr e0 hb r Z=>?_⟩;have hl:=len _ _ _ _ Z;have KX:K.In s.heap:=e0.mod.kin.keeps fun b o e=>(e0.bs b o e).1
 have lim:s.heap.NoLimit:=e0.mod.nolimit.keeps fun b o e=>(e0.bs b o e).1
 have O:∀y∈ps.zip us,scope.names.lookup y.1=ς .local∨(scope.names.lookup y.1=ς .cell/\((qh1 (s.heap.objs.size+1) scope.names []).lookup y.1).isSome=θ):=fun⟨n,v⟩ hy=>by
  rcases S.par n (qw8 hy).1 with q|q
  .exact .inl q
  .exact .inr ⟨q,xR9 _ _ _ (.inl q)⟩
 refine ze5 hr.depth (KX _ _ lk) rfl S.co S.gen rfl (PySem.W.codeRec_of KX hcd) (hb _ _ _ _ ?_);refine wpAny_newFunctionEnv_cells S.kind O fun env he s1 x=>?_
 subst he;refine⟨lim.keeps x.toInCall.keep,codeAny_func ?_⟩;obtain⟨t,ht,hq⟩:=U A outer s H vs Q E (hr.deeper _) Z;have I:Inv (kO CX P w K mg base N qual scope f cdv A outer s H E) [] (start N vs) H s1:=um S hr.hd e0 hl r x;refine qk9 (ht [] s1 (start N vs) H _ I hq) (fun fl s' Y=>?_) fun e s' Y=>Y
 have fin:∀{L:St}{H':Hp}{v:V}{u:Vz},Inv (kO CX P w K mg base N qual scope f cdv A outer s H E) [] L H' s'->RelV v u->Q v H'->CE outer P w H s Q u s':=fun {L H' v u} J rv q=>⟨v,H',J.os,J.bare,J.base,J.hok,rv,q⟩
 cases fl with
 |ret u=>obtain⟨v,L,H',J,rv,q⟩:=Y;exact fin J rv q
 |next=>obtain⟨L,H',J,q⟩:=Y;exact fin (v:=V.non) (u:=qh5) J rfl q
 |brk=>obtain⟨_,_,_,q⟩:=Y;exact qg9 q
 |cont=>obtain⟨_,_,_,q⟩:=Y;exact qg9 q
section
variable{X:Cx}{x:Str}{p pos:Pos}{e:Jc}{es:η Jc}{t:TA}{id T:String}{r:η V->Hp->VK->Prop}
def tCB(r:η V->Hp->VK->Prop)(t:TA):TE:=fun σ H Q=>t σ H fun vs H1=>r vs H1 Q
def vP (hc:du X (.builtin id) r) (hg:Gl X x) (hm:X.mg x=ψ) (Y:qd7 x=ς (.builtin id)) (O:PA X (e::es) t) (W:x≠"__name__":=by decide) (q:(x==("__debug__":Str))=ξ:=by decide)
  (U:qa7 (e::es) X.env=(ξ,eval e X.env)::qa7 es X.env:=by rfl) (L:(qj6 pos (qa7 es X.env)).any (·.1)=ξ:=by rfl):PE X (.Call (.Name x p) (e::es) [] pos) (tCB r t):=by
 intro J1 s σ H Q I h;refine qo9 (fW I hg hm Y ?_ W q);exact PyProof.Rows.callWith_builtin1 (thn (O pos J1 s σ H _ I h) fun us s1 ⟨vs,H1,Z,r1,q1⟩=>hc J1 s1 σ H1 vs us Q Z r1 q1) U L
def uo (hc:du X (.type T) r) (hg:Gl X x) (hm:X.mg x=ψ) (Y:qd7 x=ς (.type T)) (O:PA X (e::es) t) (W:x≠"__name__":=by decide) (q:(x==("__debug__":Str))=ξ:=by decide)
  (U:qa7 (e::es) X.env=(ξ,eval e X.env)::qa7 es X.env:=by rfl) (L:(qj6 pos (qa7 es X.env)).any (·.1)=ξ:=by rfl):PE X (.Call (.Name x p) (e::es) [] pos) (tCB r t):=by
 intro J1 s σ H Q I h;refine qo9 (fW I hg hm Y ?_ W q);exact qf9 (thn (O pos J1 s σ H _ I h) fun us s1 ⟨vs,H1,Z,r1,q1⟩=>hc J1 s1 σ H1 vs us Q Z r1 q1) U L
end
end L2
namespace HT
open PySem PyProof.Rows
section
open PySem.SeqAt
open PySem.AutoSeq1 (wpAny_loadPart')
open PySem.MeetsSeq PySem.MeetsSeq2 PySem.MeetsSeq3
end
variable{Q:Vz->qa5->Prop}{vu:Vz}{lo hi:ζ Int}
section
variable{prog:qd1}{w:Ja}{A:qe0}{E:Vz->qa5->Prop}{s:qa5}
def FO{t b:J9}{vs ws:η Vz}(ht:IsTup s.heap t vs.toArray)(hb:IsTup s.heap b ws.toArray)(hv:vs≠[])
 (h1:ws=[]->Q (.ref t) s) (h2:ws≠[]->Q (.ref s.heap.objs.size) {s with heap:=s.heap.push {cls:=.type "tuple",data:=.seq (vs++ws).toArray}})
 (hsz:vs.length+ws.length<=qb2):wpAny (model prog w) A (ql4 .Add (.ref t) (.ref b)) Q E s:=by
 obtain⟨⟨cls,dd,data,sl⟩,Y,hc,n,hd⟩:=id ht;obtain⟨⟨cls2,L,data2,U⟩,q,O,n2,W⟩:=id hb;simp only at hc hd O W;subst hc hd O W;have e:vs.toArray++ws.toArray=(vs++ws).toArray:=by simp
 by_cases Z:ws=[]
 .exact qy3 ⟨_,Y,rfl⟩ ⟨_,q,rfl⟩ qv0 zb0 PySem.F.slot_tuple_add PySem.F.entry_tuple_add (PySem.F.args_tuple_add_2 _ _)
   (tuple_addW1 t b vs.toArray ws.toArray n n2 dd L sl U (by simpa using hv) (by simp[Z])) ⟨Y,q,h1 Z⟩
 .refine qy3 ⟨_,Y,rfl⟩ ⟨_,q,rfl⟩ qv0 zb0 PySem.F.slot_tuple_add PySem.F.entry_tuple_add (PySem.F.args_tuple_add_2 _ _)
   (tuple_addW2 t b vs.toArray ws.toArray n n2 dd L sl U (by simpa using hv) (by simpa using Z) (by rw[qb7,qb7];exact hsz)) ⟨Y,q,?_⟩
  rw[e];exact h2 Z
def sIx(n d:Nat):ζ Int->Nat
 |none=>d
 |some v=>if v<0 then(v+(n:Int)).toNat else min v.toNat n
def EQ(n d:Nat):sIx n d ψ=d:=rfl
def FP(n d k:Nat):sIx n d (ς (k:Int))=min k n:=by show(if(k:Int)<0 then((k:Int)+(n:Int)).toNat else min (k:Int).toNat n)=min k n;rw[if_neg Θ,qe2]
def CA(n d:Nat)(L:d<=n)(o:ζ Int):sIx n d o<=n:=by
 cases o with
 |none=>exact L
 |some v=>
  show(if v<0 then(v+(n:Int)).toNat else min v.toNat n)<=n;by_cases q:v<0
  .rw[if_pos q];lia
  .rw[if_neg q];exact Nat.min_le_right _ _
def se(v:Int)(n d:Nat):(if v<0 then max (v+(n:Int)) 0 else min v (n:Int))=((sIx n d (ς v):Nat):Int):=by
 show(if v<0 then max (v+(n:Int)) 0 else min v (n:Int))=(((if v<0 then(v+(n:Int)).toNat else min v.toNat n):Nat):Int);by_cases q:v<0
 .simp only[if_pos q];lia
 .simp only[if_neg q];lia
def qu(lo hi:ζ Int)(n:Nat):qq9 lo hi 1 (n:Int)=(((sIx n 0 lo:Nat):Int),((sIx n n hi:Nat):Int)):=by
 have h1:¬ ((1:Int)<0):=by lia
 unfold qq9;simp only[h1,if_false];refine Prod.ext ?_ ?_
 .cases lo with
  |none=>rfl
  |some v=>exact se v n 0
 .cases hi with
  |none=>rfl
  |some v=>exact se v n n
def qv(i j:Nat):qm3 (i:Int) (j:Int) 1=j-i:=by
 unfold qm3;have h1:(1:Int) > 0:=by lia
 simp only[h1,if_true,Int.ediv_one];split<;>lia
def kP{v:Vz}{o:ζ Int}{Q:ζ Int->qa5->Prop}(p:zg5 v o)(h:Q o s):wpAny (model prog w) A (qj4.Slice.slicePartIndex v) Q E s:=by
 cases p with
 |none=>exact slicePart_none h
 |int i t=>exact slicePart_int h
def fI{sl:J9}{vl:Vz}{n:Nat}{Q:Int×Int×Nat->qa5->Prop}(O:s.heap.IsSliceOf sl vl vu .none)(U:zg5 vl lo)(W:zg5 vu hi)
 (h:Q (((sIx n 0 lo:Nat):Int),1,sIx n n hi-sIx n 0 lo) s):wpAny (model prog w) A (qx7 (.ref sl) (pure (n:Int))) Q E s:=by
 obtain⟨Z,L,Y,q⟩:=id O;unfold qx7 qj4.Slice.sliceFields;refine wB (wB (qt5 L q (x:=vl) rfl (wB (qt5 L q (x:=vu) rfl (wB (qt5 L q (x:=.none) rfl (qa2 ?_)))))));refine wB (slicePart_none ?_);show wpAny _ _ (if((1:Int)==0)=θ then _ else _) _ _ s;rw[if_neg Ω];refine wB (kP U (wB (kP W (wB (qa2 ?_)))));show wpAny _ _ (match qq9 lo hi 1 (n:Int)with|(lo,hi)=>pure (lo,(1:Int),qm3 lo hi 1)) _ _ s;rw[qu lo hi n];show wpAny _ _ (pure (((sIx n 0 lo:Nat):Int),(1:Int),qm3 ((sIx n 0 lo:Nat):Int) ((sIx n n hi:Nat):Int) 1)) _ _ s;rw[qv];exact qa2 h
def vQ(xs:Array Vz)(i k:Nat):((qd0 k).filterMap fun(m:Nat)=>xs[((i:Int)+(m:Int)*1).toNat]?).toArray=((xs.toList.drop i).take k).toArray:=by
 have e:(fun(m:Nat)=>xs[((i:Int)+(m:Int)*1).toNat]?)=fun m=>xs[i+m]?:=by
  funext m;have:((i:Int)+(m:Int)*1).toNat=i+m:=by lia
  rw[this]
 rw[e];have:=pick_run xs i k;rw[List.filterMap_map]at this;have q:((fun x=>xs[x]?) ∘ fun x=>i+x)=fun m=>xs[i+m]?:=rfl
 rw[q]at this;rw[this]
def sf{t sl:J9}{L:Array Vz}{vl:Vz}(U:IsTup s.heap t L)(hs:s.heap.IsSliceOf sl vl vu .none)(pl:zg5 vl lo)(pu:zg5 vu hi)
 (hw:¬ (sIx L.size 0 lo=0/\sIx L.size L.size hi=L.size))
 (h:Q (.ref s.heap.objs.size) {s with heap:=s.heap.push {cls:=.type "tuple",data:=.seq ((L.toList.drop (sIx L.size 0 lo)).take (sIx L.size L.size hi-sIx L.size 0 lo)).toArray}})
 (hsz:L.size<=qb2):wpAny (model prog w) A (zb1 (.ref t) (.ref sl)) Q E s:=by
 have O:sizeOk (.seq ((L.toList.drop (sIx L.size 0 lo)).take (sIx L.size L.size hi-sIx L.size 0 lo)).toArray):=by show((L.toList.drop (sIx L.size 0 lo)).take (sIx L.size L.size hi-sIx L.size 0 lo)).toArray.size<=qb2;rw[qb7,qu9,qv1,qd8];lia
 have hj:sIx L.size L.size hi<=L.size:=CA _ _ (nL _) hi;obtain⟨os,Z,Y,hds⟩:=id hs;have hTs:s.TypeIs (.ref sl) "slice":=⟨os,Z,Y⟩;unfold zb1
 try with_reducible refine qi5 ?_
 first|refine wB (qa2 ?_)|skip
 refine wB (wpAny_sequenceKey U.typeIs Ω ?_)
 refine wB (qe5 (name:=qa0 "__getitem__") U.typeIs qg0
  (qf1 qg0 U.typeIs entry_tuple_getitem ?_ (args_tuple_getitem _ _)))
 show wpAny _ _ (qx8 (.ref t) >>= _) _ _ s;refine wB (tupleItemsOf_ U ?_);refine wB (qu4 hTs ?_);rw[if_pos Ω];refine wB (fI hs pl pu ?_)
 have W:¬ ((((sIx L.size 0 lo:Nat):Int)==0&&(1:Int)==1&&(sIx L.size L.size hi-sIx L.size 0 lo)==L.size)=θ):=by intro q;rw[qb3,qb3]at q;have q1:((sIx L.size 0 lo:Nat):Int)=0:=eq_of_beq q.1.1;have q2:sIx L.size L.size hi-sIx L.size 0 lo=L.size:=eq_of_beq q.2;exact hw ⟨Θ,Θ⟩
 show wpAny _ _ (if(((sIx L.size 0 lo:Nat):Int)==0&&(1:Int)==1&&(sIx L.size L.size hi-sIx L.size 0 lo)==L.size)=θ then _ else _) _ _ s;rw[if_neg W,vQ]
 first
  |exact wB (m:=qn2 _) (qd4 (qa2 ⟨_,rfl,qa2 h⟩) O)
  |exact wB (m:=qn2 _) (qd4 (wB (qa2 (qa2 ⟨_,rfl,qa2 h⟩))) O)
  |exact wB (wB (m:=qn2 _) (qd4 (qa2 (qa2 ⟨_,rfl,qa2 h⟩)) O))
  |exact wB (wB (m:=qn2 _) (qd4 (qa2 ⟨_,rfl,qa2 h⟩) O))
end
end HT
namespace L2
open PySem PySem.Spec PyProof.Rows
abbrev TO:=St->Hp->(ζ Int->Hp->Prop)->Prop
def PO(X:Cx)(e:ζ Jc)(t:TO):Prop:=
 ∀(J1:η (J9×Obj))(s:qa5)(σ:St)(H:Hp)(Q:ζ Int->Hp->Prop),Inv X J1 σ H s->t σ H Q→
  wpAny (model X.prog X.w) X.A (evalPart e X.env) (fun u s'=>∃o H',Inv X J1 σ H' s'/\zg5 u o/\Q o H') X.xe s
def zr:TO:=fun _ H Q=>Q ψ H
def ER(t:TE):TO:=fun σ H Q=>t σ H fun x H1=>∃i,x=.int i/\Q (ς i) H1
def qw{ns:η Int}:∀{us:η Vz},Vals (ns.map V.int) us->zh0 us ns:=by
 induction ns with
 |nil=>intro us r;rw[qj9]at r;cases r;exact .nil
 |cons n ns q=>
  intro us r;rw[qa6]at r;cases r with
  |cons L O=>obtain⟨t,e⟩:=L;subst e;exact .cons n t (q O)
variable{r:V->ζ Int->ζ Int->Hp->VK->Prop}{xs:η V}{us:η Vz}
section
variable{X:Cx}{e:Jc}{te:TE}{lo hi:ζ Jc}{tl th:TO}{pos p2:Pos}
def zt:PO X ψ zr:=by intro J1 s σ H Q I h;rw[evalPart_none];exact qa2 ⟨ψ,H,I,.none,h⟩
def zu(h:PE X e te):PO X (ς e) (ER te):=by
 intro J1 s σ H Q I U;rw[evalPart_some];refine thn (h J1 s σ H _ I U) fun u s1 ⟨x,H1,L,O,q1⟩=>?_
 obtain⟨i,rfl,q⟩:=q1;obtain⟨t,rfl⟩:=O;exact⟨ς i,H1,L,.int i t,q⟩
def SlR(X:Cx)(r:V->ζ Int->ζ Int->Hp->VK->Prop):Prop:=
 ∀(J1:η (J9×Obj))(s:qa5)(σ:St)(H:Hp)(x:V)(v vl vu:Vz)(lo hi:ζ Int)(sl:J9)(Q:VK),Inv X J1 σ H s->RelV x v->s.heap.IsSliceOf sl vl vu .none->zg5 vl lo->zg5 vu hi->r x lo hi H Q→
  ∃T id,zf6 (.type T) "__getitem__"=pure (ς (.builtin id))/\s.TypeIs v T/\wpAny (model X.prog X.w) X.A (zb1 v (.ref sl)) (EP X J1 σ Q) X.xe s
def SlR.or{r':V->ζ Int->ζ Int->Hp->VK->Prop}(h:SlR X r)(h':SlR X r'):SlR X (fun x lo hi H Q=>r x lo hi H Q∨r' x lo hi H Q):=by
 intro J1 s σ H x v vl vu lo hi sl Q I W U L O q;rcases q with q|q
 .exact h J1 s σ H x v vl vu lo hi sl Q I W U L O q
 .exact h' J1 s σ H x v vl vu lo hi sl Q I W U L O q
def tSl(r:V->ζ Int->ζ Int->Hp->VK->Prop)(te:TE)(tl th:TO):TE:=fun σ H Q=>te σ H fun x H1=>tl σ H1 fun l H2=>th σ H2 fun u q=>r x l u q Q
def oW(W:SlR X r)(he:PE X e te)(hl:PO X lo tl)(hu:PO X hi th):PE X (.Subscript e (.Slice lo hi ψ p2) pos) (tSl r te tl th):=by
 intro J1 s σ H Q I h;refine Subscript_ (thn (he J1 s σ H _ I h) fun v s1 ⟨x,H1,Y,r1,q1⟩=>?_);refine wpAny_Slice (thn (hl J1 s1 σ H1 _ Y q1) fun vl s2 ⟨l,H2,I2,U,q2⟩=>thn (hu J1 s2 σ H2 _ I2 q2) fun vu L ⟨u,O,I3,pu,q3⟩=>?_);rw[evalPart_none];refine qa2 ?_;have I4:Inv X J1 σ O {L with heap:=L.heap.push {cls:=.type "slice",data:=.fields #[vl,vu,.none]}}:=I3.kept (t':=L.toks) fun b ob q=>gP _ q
 obtain⟨T,id,hT,Z,hg⟩:=W J1 {L with heap:=L.heap.push {cls:=.type "slice",data:=.fields #[vl,vu,.none]}} σ O x v vl vu l u L.heap.objs.size Q I4 r1 (Heap.IsSliceOf.new ..) U pu q3;show wpAny (model X.prog X.w) X.A (zi2 e (.Slice lo hi ψ p2) v (.ref L.heap.objs.size)) (EP X J1 σ Q) X.xe {L with heap:=L.heap.push {cls:=.type "slice",data:=.fields #[vl,vu,.none]}};exact tail_any (ops:=[.ref L.heap.objs.size,v]) Z hT hg (by with_unfolding_all rfl)
def oX(xs:η V)(lo hi:ζ Int):η V:=(xs.drop (HT.sIx xs.length 0 lo)).take (HT.sIx xs.length xs.length hi-HT.sIx xs.length 0 lo)
def jR(xs:η V)(lo hi:ζ Int):(oX xs lo hi).length<=xs.length:=by unfold oX;rw[qu9,qv1];lia
def rSlT(K:xA9):V->ζ Int->ζ Int->Hp->VK->Prop:=fun x lo hi H Q=>∃a xs,x=.ref a/\SqT K H a xs∧¬ (HT.sIx xs.length 0 lo=0/\HT.sIx xs.length xs.length hi=xs.length)/\∀p,H p=ψ->Q (.ref p) (upd H p (.t (oX xs lo hi)))
def CB:SlR X (rSlT X.K):=by
 intro J1 s σ H x v vl vu lo hi sl Q I rx Z W Y h;obtain⟨a,xs,rfl,hx,hw,q⟩:=h;cases rx;obtain⟨J8,r,O,U⟩:=I.tuple hx;have L:J8.toArray.size=xs.length:=by rw[qb7];exact r.length.symm
 refine⟨"tuple",_,qg0.lookup,O.typeIs,?_⟩;refine HT.sf O Z W Y (by rw[L];exact hw) ?_ (by rw[L];exact U);rw[L];refine⟨.ref s.heap.objs.size,_,I.laid (t':=s.toks) (o:=.t (oX xs lo hi)) (fun b ob q=>gP _ q) (nL _) ?_,rfl,q _ (I.hok.fresh (nL _))⟩;exact⟨qb9 (jR xs lo hi) U,_,(r.drop (HT.sIx xs.length 0 lo)).take (HT.sIx xs.length xs.length hi-HT.sIx xs.length 0 lo),IsTup.new _ _⟩
def A9(K:xA9):R2:=fun x y H Q=>∃a b xs ys,x=.ref a/\y=.ref b/\SqT K H a xs/\SqT K H b ys/\xs≠[]/\xs.length+ys.length<=qb2∧(ys=[]->Q (.ref a) H)/\(ys≠[]->∀p,H p=ψ->Q (.ref p) (upd H p (.t (xs++ys))))
def Vals.nil_iff(r:Vals xs us):us=[]↔xs=[]:=by
 cases r with
 |nil=>simp
 |cons _ _=>simp
theorem zw:OpR X (ql4 .Add) (A9 X.K):=by intro J1 s σ H x y v u Q I rx ry h;obtain⟨a,b,xs,ys,rfl,rfl,ha,Y,Z,U,q1,q2⟩:=h;cases rx;cases ry;obtain⟨J8,O,p1,_⟩:=I.tuple ha;obtain⟨W,L,p2,_⟩:=I.tuple Y;refine HT.FO p1 p2 (fun z=>Z (O.nil_iff.mp z)) (fun z=>⟨.ref a,H,I,rfl,q1 (L.nil_iff.mp z)⟩) (fun z=>?_) (by rw[<- O.length,<- L.length];exact U);refine⟨.ref s.heap.objs.size,_,I.laid (t':=s.toks) (o:=.t (xs++ys)) (fun b ob q=>gP _ q) (nL _) ?_,rfl,q2 (fun w=>z (L.nil_iff.mpr w)) _ (I.hok.fresh (nL _))⟩;exact⟨by rw[qc0];exact U,_,O.append L,IsTup.new _ _⟩
end
noncomputable def ixN(n:Nat)(i:Int):ζ Nat:=if 0<=i then(if i<n then ς i.toNat else ψ)else if -(n:Int)<=i then ς (i+n).toNat else ψ
def atI{α:Type}(xs:η α)(i:Int):ζ α:=(ixN xs.length i).bind fun j=>xs[j]?
variable{n j:Nat}{i:Int}
def sh(h:ixN n i=ς j):seqIndex? i n=ς j/\j<n/\-(n:Int)<=i/\i<n:=by
 unfold ixN at h;by_cases q:0<=i
 .rw[if_pos q]at h;by_cases h1:i<n
  .rw[if_pos h1]at h;have e:i.toNat=j:=qd9 h;exact⟨by rw[seqIndex_of q h1,e],Θ,Θ,h1⟩
  .rw[if_neg h1]at h;cases h
 .rw[if_neg q]at h;by_cases h1:-(n:Int)<=i
  .rw[if_pos h1]at h;have e:(i+n).toNat=j:=qd9 h;exact⟨by rw[seqIndex_neg Θ h1,e],Θ,h1,Θ⟩
  .rw[if_neg h1]at h;cases h
def nE{α:Type}{xs:η α}{v:α}(h:atI xs i=ς v):∃j,seqIndex? i xs.length=ς j/\xs[j]?=ς v/\j<xs.length/\-(xs.length:Int)<=i/\i<xs.length:=by
 unfold atI at h;cases e:ixN xs.length i with
 |none=>rw[e]at h;cases h
 |some j=>rw[e]at h;obtain⟨h1,h2,h3,q⟩:=sh e;exact⟨j,h1,h,h2,h3,q⟩
def zy{α:Type}{xs:η α}{v:α}(h:xs[j]?=ς v):atI xs (j:Int)=ς v:=by
 have q:j<xs.length:=(gX h).1
 have e:ixN xs.length (j:Int)=ς j:=by unfold ixN;rw[if_pos Θ,if_pos Θ];simp
 unfold atI;rw[e];exact h
def si(b:Jc):Prop:=∀o i,zh1 b ξ o i=operate [o,i] (zb1 o i)
def IxR(X:Cx)(r:R2):Prop:=
 ∀(value q:Jc)(J1:η (J9×Obj))(s:qa5)(σ:St)(H:Hp)(x y:V)(v u:Vz)(Q:VK),Inv X J1 σ H s->RelV x v->RelV y u->r x y H Q→
  zh1 q ξ v u=operate [v,u] (zb1 v u)->wpAny (model X.prog X.w) X.A (zi2 value q v u) (EP X J1 σ Q) X.xe s
def MtR(X:Cx)(id:String)(r:V->η V->Hp->VK->Prop):Prop:=
 ∀(J1:η (J9×Obj))(s:qa5)(σ:St)(H:Hp)(x:V)(xs:η V)(v:Vz)(us:η Vz)(Q:VK),Inv X J1 σ H s->RelV x v->Vals xs us->r x xs H Q→
  wpAny (model X.prog X.w) X.A (call (.builtin id) (v::us)) (EP X J1 σ Q) X.xe s
variable{J1:η (J9×Obj)}{σ:St}{H:Hp}{s:qa5}{p:J9}{J8 its':η Vz}{A:qe0}{y x:V}{u v:Vz}
section
variable{X:Cx}{a b:Jc}{ta tb:TE}{pos:Pos}
def IxR.or{r r':R2}(h:IxR X r)(h':IxR X r'):IxR X (fun x y H Q=>r x y H Q∨r' x y H Q):=by
 intro value L J1 s σ H x y v u Q I W O q U;rcases q with q|q
 .exact h value L J1 s σ H x y v u Q I W O q U
 .exact h' value L J1 s σ H x y v u Q I W O q U
def ES{r:R2}(W:IxR X r)(L:PE X a ta)(O:PE X b tb)(Y:si b):PE X (.Subscript a b pos) (tOp r ta tb):=by intro J1 s σ H Q I h;exact Subscript_ (Cm L O I h fun v u Z x y H2 I2 rx U q=>W a b J1 Z σ H2 x y v u Q I2 rx U q (Y _ _))
def rIxL(K:xA9):R2:=fun x y H Q=>∃p xs i v,x=.ref p/\y=.int i/\SqL K H p xs/\atI xs i=ς v/\Q v H
def rIxT(K:xA9):R2:=fun x y H Q=>∃p xs i v,x=.ref p/\y=.int i/\SqT K H p xs/\atI xs i=ς v/\Q v H
def rIxS:R2:=fun x y H Q=>∃z i c,x=.str z/\y=.int i/\z.length<=qb2/\atI z.cps.toList i=ς c/\Q (.str ⟨#[c]⟩) H
def ix_list:IxR X (rIxL X.K):=by
 intro value slice J1 s σ H x y v u Q I rx ry h hs;obtain⟨p,xs,i,z,rfl,rfl,hq,he,q⟩:=h;cases rx;obtain⟨t,rfl⟩:=ry;obtain⟨J8,r,pl,hz⟩:=I.list hq;obtain⟨j,h1,h2,h3,h4,h5⟩:=nE he;obtain⟨w,ew,rw'⟩:=r.get h2;have hl:=r.length;have hn:=jw;have fin:EP X J1 σ Q w s:=⟨z,H,I,rw',q⟩;by_cases h0:0<=i
 .have hj:i.toNat=j:=by rw[seqIndex_of h0 h5]at h1;exact qd9 h1
  exact item_listR pl.isList h0 Θ (by rw[hj];simpa using ew) fin hs
 .have hj:(i+(J8.toArray.size:Int)).toNat=j:=by rw[seqIndex_neg Θ h4]at h1;rw[qb7,<- hl];exact qd9 h1
  exact zc9 (x:=w) pl.isList.typeIs slot_list_getitem.lookup
   (wpAny_getItem_list_neg (Q:=fun r s'=>r=w/\EP X J1 σ Q r s') pl.isList Θ (by rw[qb7]<;>lia) Θ (by rw[hj];simpa using ew) ⟨rfl,fin⟩) hs
def ix_tup:IxR X (rIxT X.K):=by
 intro value slice J1 s σ H x y v u Q I rx ry h hs;obtain⟨p,xs,i,z,rfl,rfl,hq,he,q⟩:=h;cases rx;obtain⟨t,rfl⟩:=ry;obtain⟨J8,r,pl,hz⟩:=I.tuple hq;obtain⟨j,h1,h2,h3,h4,h5⟩:=nE he;obtain⟨w,ew,rw'⟩:=r.get h2;have hl:=r.length;have hn:=jw;have fin:EP X J1 σ Q w s:=⟨z,H,I,rw',q⟩
 exact zc9 (x:=w) pl.typeIs slot_tuple_getitem.lookup
  (getItem_tuple (j:=j) (Q:=fun r s'=>r=w/\EP X J1 σ Q r s') pl Θ Θ (by rw[qb7,<- hl];exact h1) (by simpa using ew) ⟨rfl,fin⟩) hs
def CC:IxR X rIxS:=by
 intro value slice J1 s σ H x y v u Q I rx ry h hs;obtain⟨z,i,c,rfl,rfl,hz,he,q⟩:=h;obtain⟨t,rfl⟩:=rx;obtain⟨t',rfl⟩:=ry;obtain⟨j,h1,h2,h3,h4,h5⟩:=nE he;have hl:z.cps.toList.length=z.length:=by simp[zf7]
 rw[hl]at h1 h4 h5;have hn:=jw
 exact tail_any (typeIs_str s z t) slot_str_getitem.lookup (getItem_str (c:=c) (by have e1:decide (i < -(2^63:Int))=ξ:=decide_eq_false Θ;have e2:decide (i ≥ 2^63)=ξ:=decide_eq_false Θ;rw[e1,e2,qv6]) (by rw[h1];simpa using h2) ⟨.str ⟨#[c]⟩,H,I.tok _,⟨_,rfl⟩,q⟩) hs
def rIx(K:xA9):R2:=fun x y H Q=>rIxL K x y H Q∨rIxT K x y H Q∨rIxS x y H Q
def CD:IxR X (rIx X.K):=ix_list.or (ix_tup.or CC)
def qx(J8:η Vz)(n j:Nat)(u:Vz):qo7 (·.setIfInBounds j u) {cls:=.type "list",data:=.seq J8.toArray n}={cls:=.type "list",data:=.seq (J8.set j u).toArray n}:=by simp[qo7]
def Inv.lst (I:Inv X J1 σ H s) (h:H p=ς (.e xs)) :
  ∃(J8:η Vz)(n:Nat),Vals xs J8/\s.heap.get? p=ς {cls:=.type "list",data:=.seq J8.toArray n}/\xs.length<=qb2:=by
 obtain⟨z,J8,n,r,e⟩:=I.hok p _ h;exact⟨J8,n,r,e,z⟩
def Inv.lstUpd{ys:η V}{L:Nat}{f:Obj->Obj}(I:Inv X J1 σ H s)(h:H p=ς (.e xs))
 (Y:s.heap.get? p=ς {cls:=.type "list",data:=.seq J8.toArray n}) (O:f {cls:=.type "list",data:=.seq J8.toArray n}={cls:=.type "list",data:=.seq its'.toArray L}) (r:Vals ys its') (W:ys.length<=qb2) (t:Nat) :
  Inv X J1 σ (upd H p (.e ys)) {s with heap:=s.heap.update p f,toks:=t}:=by
 have e:(s.heap.update p f).get? p=ς {cls:=.type "list",data:=.seq its'.toArray L}:=by rw[qe6 f Y (by rw[O]<;>rfl),O]
 refine I.write (x:=p) (e:=p) (by rw[h];trivial) (.inl rfl) (fun b u U q=>(ql5 _ _ (qq5 U)).trans q) ⟨_,e⟩ ?_;exact⟨W,its',L,r,e⟩
def ET:V->V->V->Hp->(Hp->Prop)->Prop:=fun o i v H Q=>∃p xs k j,o=.ref p/\i=.int k/\H p=ς (.e xs)/\ixN xs.length k=ς j/\Q (upd H p (.e (xs.set j v)))
def vR:PSet X ET:=by
 intro J1 s σ H o i v ov iv u Q I ro ri rv h;obtain⟨p,xs,k,j,rfl,rfl,hp,hj,q⟩:=h;cases ro;obtain⟨t,rfl⟩:=ri;obtain⟨J8,n,r,ho,hz⟩:=I.lst hp;obtain⟨h1,h2,h3,h4⟩:=sh hj;have hl:=r.length;have hn:=jw
 have I':Inv X J1 σ (upd H p (.e (xs.set j v))) {s with heap:=s.heap.update p (qo7 (·.setIfInBounds j u))}:=I.lstUpd hp ho (qx J8 n j u) (r.set rv j) (by rw[List.length_set];exact hz) s.toks
 by_cases h0:0<=k
 .have hk:k.toNat=j:=by rw[seqIndex_of h0 h4]at h1;exact qd9 h1
  exact PySem.W.ki_setAt ho h0 Θ (by rw[qb7,<- hl];exact h4) (by rw[hk];exact⟨_,I',q⟩)
 .have hk:(k+(J8.toArray.size:Int)).toNat=j:=by rw[seqIndex_neg Θ h3]at h1;rw[qb7,<- hl];exact qd9 h1
  exact PySem.W.ki_setBack ho Θ (by rw[qb7,<- hl];exact h3) Θ (by rw[hk];exact⟨_,I',q⟩)
def nG(lo hi:ζ Int)(n:Nat):(qt6 lo hi ψ n).1=((HT.sIx n 0 lo:Nat):Int)/\(qt6 lo hi ψ n).2.1=((HT.sIx n n hi:Nat):Int)/\(qt6 lo hi ψ n).2.2=1:=by
 refine⟨?_,?_,rfl⟩
 .cases lo with
  |none=>simp[qt6,HT.sIx]
  |some i=>
   simp only[qt6,HT.sIx,Option.getD_none,show(1:Int) > 0 by decide,if_true];by_cases h:i<0
   .simp only[h,if_true]<;>lia
   .simp only[h,if_false]<;>lia
 .cases hi with
  |none=>simp[qt6,HT.sIx]
  |some i=>
   simp only[qt6,HT.sIx,Option.getD_none,show(1:Int) > 0 by decide,if_true];by_cases h:i<0
   .simp only[h,if_true]<;>lia
   .simp only[h,if_false]<;>lia
theorem l7(J8:η Vz)(lo hi:ζ Int):slicePick J8.toArray lo hi ψ=((J8.drop (HT.sIx J8.length 0 lo)).take (HT.sIx J8.length J8.length hi-HT.sIx J8.length 0 lo)).toArray:=by obtain⟨h1,h2,h3⟩:=nG lo hi J8.toArray.size;unfold slicePick;rw[h1,h2,h3];simp only[sliceRange_one,pick_run,qb7]<;>rfl
def rSlL(K:xA9):V->ζ Int->ζ Int->Hp->VK->Prop:=fun x lo hi H Q=>∃a xs,x=.ref a/\SqL K H a xs/\∀p,H p=ψ->Q (.ref p) (upd H p (.e (oX xs lo hi)))
theorem zz:SlR X (rSlL X.K):=by intro J1 s σ H x v vl vu lo hi sl Q I rx Y U W h;obtain⟨a,xs,rfl,hx,q⟩:=h;cases rx;obtain⟨J8,r,O,Z⟩:=I.list hx;have L:=r.length;refine⟨"list",_,slot_list_getitem.lookup,O.isList.typeIs,?_⟩;refine wpAny_getItem_list_slice O.isList Y U W .none Ξ ?_ (by rw[qb7]<;>lia);rw[l7,<- L];refine⟨.ref s.heap.objs.size,_,I.laid (t':=s.toks) (o:=.e (oX xs lo hi)) (fun b ob q=>gP _ q) (nL _) ?_,rfl,q _ (I.hok.fresh (nL _))⟩;exact⟨qb9 (jR xs lo hi) Z,_,0,(r.drop (HT.sIx xs.length 0 lo)).take (HT.sIx xs.length xs.length hi-HT.sIx xs.length 0 lo),qa9 _ rfl⟩
def iu:V->Bool
 |.non=>θ
 |.bl _=>θ
 |.int _=>θ
 |.str _=>θ
 |_=>ξ
noncomputable def eqV:V->V->Bool
 |.non,.non=>θ
 |.bl a,.bl b=>a==b
 |.bl a,.int b=>(if a then 1 else 0)==b
 |.int a,.bl b=>a==(if b then 1 else 0)
 |.int a,.int b=>a==b
 |.str a,.str b=>a==b
 |_,_=>ξ
def jz(L:RelV y u)(q:RelV x v)(U:iu y=θ)(O:iu x=θ):qg8 A s u v (eqV y x):=by
 cases y with
 |non=>
  cases L;cases x with
  |non=>cases q;exact ze6 _
  |bl b=>cases q;exact qg8.none_bool b
  |int b=>obtain⟨t,rfl⟩:=q;exact qg8.none_int b t
  |str b=>obtain⟨t,rfl⟩:=q;exact qg8.none_str b t
  |_=>exact absurd (show ξ=θ from O) qb6
 |bl a=>
  cases L;cases x with
  |non=>cases q;exact qg8.bool_none a
  |bl b=>cases q;exact qg8.bool_bool a b
  |int b=>obtain⟨t,rfl⟩:=q;exact qg8.bool_int a b t
  |str b=>obtain⟨t,rfl⟩:=q;exact qg8.bool_str a b t
  |_=>exact absurd (show ξ=θ from O) qb6
 |int a=>
  obtain⟨t',rfl⟩:=L;cases x with
  |non=>cases q;exact qg8.int_none a t'
  |bl b=>cases q;exact qg8.int_bool a t' b
  |int b=>obtain⟨t,rfl⟩:=q;exact qg8.int_int a t' b t
  |str b=>obtain⟨t,rfl⟩:=q;exact qg8.int_str a t' b t
  |_=>exact absurd (show ξ=θ from O) qb6
 |str a=>
  obtain⟨t',rfl⟩:=L;cases x with
  |non=>cases q;exact qg8.str_none a t'
  |bl b=>cases q;exact qg8.str_bool a t' b
  |int b=>obtain⟨t,rfl⟩:=q;exact qg8.str_int a t' b t
  |str b=>obtain⟨t,rfl⟩:=q;exact qg8.str_str a t' b t
  |_=>exact absurd (show ξ=θ from O) qb6
 |_=>exact absurd (show ξ=θ from U) qb6
def eqU(x:V)(u:Vz):Bool:=match u with
 |.none=>eqV .non x
 |.bool b=>eqV (.bl b) x
 |.int i _=>eqV (.int i) x
 |.str z _=>eqV (.str z) x
 |_=>ξ
def vS(r:RelV y u)(f:iu y=θ):eqU x u=eqV y x:=by
 cases y with
 |non=>cases r;rfl
 |bl b=>cases r;rfl
 |int i=>obtain⟨t,rfl⟩:=r;rfl
 |str z=>obtain⟨t,rfl⟩:=r;rfl
 |_=>exact absurd (show ξ=θ from f) qb6
theorem iP:∀{xs:η V}{us:η Vz},Vals xs us->xs.all iu=θ->us.any (eqU x)=xs.any fun y=>eqV y x
 |_,_,.nil,_=>rfl
 |y::xs,u::us,.cons r t,f=>by rw[qk5,qb3]at f;rw[qk6,qk6,vS r f.1,iP t f.2]
theorem gK(L:RelV x v)(O:iu x=θ):∀{xs:η V}{us:η Vz},Vals xs us->xs.all iu=θ->∀u∈us,qg8 A s u v (eqU x u)
 |_,_,.nil,_=>fun u q=>by cases q
 |y::xs,u::us,.cons r t,f=>fun U q=>by
  rw[qk5,qb3]at f;rcases qa8.mp q with rfl|q
  .rw[vS r f.1];exact jz r L f.1 O
  .exact gK L O t f.2 U q
def inV(x:V)(xs:η V):Bool:=xs.any fun y=>eqV y x
def rIn(K:xA9)(neg:Bool):R2:=fun x y H Q=>∃p xs,y=.ref p/\(SqL K H p xs∨SqT K H p xs)/\iu x=θ/\xs.all iu=θ/\Q (.bl (if neg then !inV x xs else inV x xs)) H
def uq:OpR X (qf7 .In) (rIn X.K ξ):=by
 intro J1 s σ H x y v u Q I W Z h;obtain⟨p,xs,rfl,L,Y,fs,q⟩:=h;cases Z;rcases L with L|L
 .obtain⟨J8,r,O,hz⟩:=I.list L;refine SeqAt.in_listAt (eqU x) O.isList (fun w U=>gK W Y r fs w (by simpa using U)) ⟨.bl _,H,I,rfl,?_⟩;rw[show J8.toArray.any (eqU x)=J8.any (eqU x)by simp,iP r fs];exact q
 .obtain⟨J8,r,O,hz⟩:=I.tuple L;refine SeqAt.in_tupleAt (eqU x) O (fun w U=>gK W Y r fs w (by simpa using U)) ⟨.bl _,H,I,rfl,?_⟩;rw[show J8.toArray.any (eqU x)=J8.any (eqU x)by simp,iP r fs];exact q
def nH:OpR X (qf7 .NotIn) (rIn X.K θ):=by
 intro J1 s σ H x y v u Q I W Z h;obtain⟨p,xs,rfl,L,Y,fs,q⟩:=h;cases Z;rcases L with L|L
 .obtain⟨J8,r,O,hz⟩:=I.list L;refine SeqAt.notIn_listAt (eqU x) O.isList (fun w U=>gK W Y r fs w (by simpa using U)) ⟨.bl _,H,I,rfl,?_⟩;rw[show J8.toArray.any (eqU x)=J8.any (eqU x)by simp,iP r fs];exact q
 .obtain⟨J8,r,O,hz⟩:=I.tuple L;refine SeqAt.notIn_tupleAt (eqU x) O (fun w U=>gK W Y r fs w (by simpa using U)) ⟨.bl _,H,I,rfl,?_⟩;rw[show J8.toArray.any (eqU x)=J8.any (eqU x)by simp,iP r fs];exact q
theorem nI:OpR X (qf7 .NotIn) (fun x y H Q=>∃i j,x=.str i/\y=.str j/\Q (.bl (!(!(qs3 j i 0 j.length 1).isEmpty))) H):=by intro J1 s σ H x y v u Q I O L h;obtain⟨i,j,rfl,rfl,q⟩:=h;obtain⟨t,rfl⟩:=O;obtain⟨t',rfl⟩:=L;exact notIn_str ⟨.bl _,H,I,rfl,q⟩
def cZ:du X (.type "tuple") (fun xs H Q=>∃p ys,xs=[.ref p]/\((SqL X.K H p ys/\∀l,H l=ψ->Q (.ref l) (upd H l (.t ys)))∨(SqT X.K H p ys/\Q (.ref p) H))):=by
 intro J1 s σ H xs us Q I r h;obtain⟨p,ys,rfl,h⟩:=h;obtain⟨u,rfl,rx⟩:=gJ r;cases rx;rcases h with ⟨O,q⟩|⟨O,q⟩
 .obtain⟨J8,r',L,Y⟩:=I.list O;have W:=r'.length;refine call_tuple_list L.isList (fun h' kp=>?_) (by simp only[qb7]<;>lia);have U:Inv X J1 σ H {s with heap:=h'}:=I.kept (t':=s.toks) kp
  have Z:Inv X J1 σ (upd H h'.objs.size (.t ys)) {s with heap:=h'.push {cls:=.type "tuple",data:=.seq J8.toArray}}:=U.laid (t':=s.toks) (fun b o e=>gP _ e) (nL _) (show ObjOk X.prog X.w _ _ _ (.t ys)from⟨Y,J8,r',IsTup.new _ _⟩)
  exact⟨.ref h'.objs.size,_,Z,rfl,q _ (U.hok.fresh (nL _))⟩
 .obtain⟨J8,r',L,Y⟩:=I.tuple O;exact call_tuple_same L ⟨.ref p,H,I,rfl,q⟩
def tyV(K:xA9)(T:String)(x:V)(H:Hp):Prop:=match x with
 |.str _=>T="str"
 |.int _=>T="int"
 |.ref p=>(T="list"/\∃xs,SqL K H p xs)∨(T="tuple"/\∃o,K.lookup p=ς o/\o.cls=.type "tuple"/\o.dict=ψ)∨(T="dict"/\((∃J6,H p=ς (.dK J6))∨∃J6,H p=ς (.dT J6)))∨(T="set"/\∃S n,H p=ς (.set S n))
 |_=>False
def CG {T:String} (I:Inv X J1 σ H s) (r:RelV x v) (ty:tyV X.K T x H) :
  s.TypeIs v T/\∀a,v=.ref a->∃ob,s.heap.get? a=ς ob/\ob.dict=ψ:=by
 cases x with
 |str z=>obtain⟨t,rfl⟩:=r;cases (show T="str" from ty);exact⟨typeIs_str s z t,fun _ e=>nomatch e⟩
 |int i=>obtain⟨t,rfl⟩:=r;cases (show T="int" from ty);exact⟨typeIs_int s i t,fun _ e=>nomatch e⟩
 |ref p=>
  cases r;rcases ty with ⟨rfl,xs,W⟩|⟨rfl,o,hk,U,q⟩|⟨rfl,hk⟩|⟨rfl,S,n,hk⟩
  .obtain⟨J8,_,O,_⟩:=I.list W;refine⟨O.isList.typeIs,fun a e=>?_⟩;cases e;obtain⟨o,n,e,c,q,_⟩:=O;exact⟨o,e,q⟩
  .refine⟨⟨o,I.kIn p o hk,U⟩,fun a e=>?_⟩;cases e;exact⟨o,I.kIn _ o hk,q⟩
  .have z:∃o,s.heap.get? p=ς o/\o.ExactDict:=by
    rcases hk with ⟨J6,hk⟩|⟨J6,hk⟩
    .obtain⟨_,_,_,_,o,_,_,e,ex,_⟩:=I.hok p _ hk;exact⟨o,e,ex⟩
    .obtain⟨_,_,_,_,o,_,_,e,ex,_⟩:=I.hok p _ hk;exact⟨o,e,ex⟩
   obtain⟨o,e,ex⟩:=z;refine⟨⟨o,e,ex.1⟩,fun a L=>?_⟩;cases L;exact⟨o,e,ex.2.1⟩
  .obtain⟨o,_,_,_,e,ex,_⟩:=I.hok p _ hk;refine⟨⟨o,e,ex.1⟩,fun a L=>?_⟩;cases L;exact⟨o,e,ex.2.1⟩
 |_=>exact qg9 ty
def tBM(K:xA9)(T:String)(r:V->η V->Hp->VK->Prop)(to:TE)(t:TA):TE:=fun σ H Q=>to σ H fun x H1=>tyV K T x H1/\t σ H1 fun xs H2=>r x xs H2 Q
variable{o e:Jc}{es:η Jc}{to:TE}{t:TA}{name:Str}{apos cpos:Pos}{T id:String}{r:V->η V->Hp->VK->Prop}
def vT (pa:PlainAttrs T) (slot:Slot T name id) (W:typeOf (.builtin id)=pure (.type "method_descriptor")) (hm:MtR X id r) (ho:PE X o to) (ha:PA X (e::es) t)
  (O:zb2 o name X.env (eval o X.env)=eval o X.env:=by rfl)
  (U:((qj6 cpos (qa7 (e::es) X.env)).all (fun x=>!x.1)&&(backToKw cpos (zh2 [] X.env)).all (fun x=>x.1.isSome)
   && decide ((e::es).length+([]:η ze3).length+(if([]:η ze3).isEmpty then 0 else 1)<30))=θ:=by rfl)
  (L:(apos.endLine==cpos.line)=θ:=by rfl) (hs:qa7 (e::es) X.env=(ξ,eval e X.env)::qa7 es X.env:=by rfl) (q:(qj6 cpos (qa7 es X.env)).any (·.1)=ξ:=by rfl) :
  PE X (.Call (.Attribute o name apos) (e::es) [] cpos) (tBM X.K T r to t):=by
 intro J1 s σ H Q I h;refine wpAny_Call_method_late O U L rfl (thn (ho J1 s σ H _ I h) fun v s1 ⟨x,H1,Z,r1,ty,q1⟩=>?_);obtain⟨h1,h2⟩:=CG Z r1 ty;refine⟨T,id,pa,slot,W,h1,h2,?_⟩;have Y:=ha cpos J1 s1 σ H1 _ Z q1;rw[hs]at Y ⊢;refine Calls.callWith_builtin (by show(ξ||(qj6 cpos (qa7 es X.env)).any (·.1))=ξ;rw[q]<;>rfl) (Calls.evalArgs_plain ?_);exact thn Y fun us s2 ⟨vs,H2,I2,r2,q2⟩=>hm J1 s2 σ H2 x vs v us Q I2 r1 r2 q2
/- xs.append(e),list.index on a module's tuple .. are MtR facts of 06m -/
end
def MtM(X:Cx)(id:String)(r:V->η V->Hp->VK->Prop):Prop:=
 ∀(J1:η (J9×Obj))(s:qa5)(σ:St)(H:Hp)(x:V)(xs:η V)(v:Vz)(us:η Vz)(Q:VK),Inv X J1 σ H s->RelV x v->Vals xs us->r x xs H Q→
  wpAny (model X.prog X.w) X.A (call (.builtin id) (v::us)) (EP X J1 σ Q) X.xe s
def Vals.one:∀{x:V}{us:η Vz},Vals [x] us->∃u,us=[u]/\RelV x u
 |_,_,.cons r .nil=>⟨_,rfl,r⟩
theorem Vals.rep(h:Vals xs us):∀k:Nat,Vals (qc1 k xs).flatten (qc1 k us).flatten
 |0=>.nil
 |k+1=>by rw[qh9,qh9,qn3,qn3];exact Vals.append h (Vals.rep h k)
theorem mt (J8:η Vz):∀ (k:Nat) (J5:η Vz),
  zf8 (fun L q=>L++q) J5.toArray (qc1 k J8.toArray)=(J5++(qc1 k J8).flatten).toArray
 |0,J5=>by simp
 |k+1,J5=>by
  have e:J5.toArray++J8.toArray=(J5++J8).toArray:=by simp
  have O:(J5++J8)++(qc1 k J8).flatten=J5++(qc1 (k+1) J8).flatten:=by rw[qh9,qn3,qj5]
  rw[<- O,<- mt J8 k (J5++J8),<- e,qh9,qh6]
variable{t':Nat}
section
variable{X:Cx}{J1:η (J9×Obj)}{σ:St}{H:Hp}{s:qa5}{l b:J9}{xs ys zs:η V}
def Inv.lset{f:Array Vz->Array Vz}(I:Inv X J1 σ H s)(W:H l=ς (.e xs))
 (e:s.heap.get? l=ς {cls:=.type "list",data:=.seq J8.toArray n}) (O:f J8.toArray=its'.toArray) (Z:Vals ys its') (U:ys.length<=qb2) :
  Inv X J1 σ (upd H l (.e ys)) {s with heap:=s.heap.update l (qo7 f),toks:=t'}:=by
 have q:=PySem.IsL.update e f;rw[O]at q;refine I.write (x:=l) (e:=l) (by rw[W];exact trivial) (.inl rfl) (fun b' u L Y=>(ql5 s.heap (qo7 f) (qq5 L)).trans Y) ⟨_,q⟩ ?_;exact⟨U,its',_,Z,q⟩
def Inv.lnew (I:Inv X J1 σ H s) (L:Vals ys J8) (O:ys.length<=qb2) :
  Inv X J1 σ (upd H s.heap.objs.size (.e ys)) {s with heap:=s.heap.push {cls:=.type "list",data:=.seq J8.toArray},toks:=t'}:=
 I.laid (fun _ _ q=>gP _ q) (nL _) ⟨O,J8,0,L,qa9 _ rfl⟩
def Inv.fresh(I:Inv X J1 σ H s):H s.heap.objs.size=ψ:=I.hok.fresh (nL _)
def Inv.lstM(I:Inv X J1 σ H s)(q:H l=ς (.e xs)):xs.length<=qb2/\∃(J8:η Vz)(n:Nat),Vals xs J8/\xs.length=J8.length/\s.heap.get? l=ς {cls:=.type "list",data:=.seq J8.toArray n}:=by obtain⟨z,J8,n,r,e⟩:=I.hok l _ q;exact⟨z,J8,n,r,r.length,e⟩
def oY(h:n<=qb2):qn4 n=ξ:=by unfold qn4;exact decide_eq_false Θ
end
section
variable{X:Cx}
def zA:V->η V->Hp->VK->Prop:=fun x vs H Q=>∃l xs y,x=.ref l/\vs=[y]/\H l=ς (.e xs)/\xs.length<qb2/\Q .non (upd H l (.e (xs++[y])))
theorem jA:MtM X "list.append" zA:=by intro J1 s σ H x vs v us Q I U O h;obtain⟨l,xs,y,rfl,rfl,L,Z,q⟩:=h;cases U;obtain⟨u,rfl,W⟩:=O.one;obtain⟨z,J8,n,r,Y,e⟩:=I.lstM L;refine zf9 F.slot_list_append ⟨_,e,rfl⟩ F.entry_list_append (F.args_list_append_2 _ _) (PySem.list_append l J8.toArray n u (by rw[qb7];lia)) ⟨e,?_⟩;refine⟨.non,_,I.lset (its':=J8++[u]) L e Ξ (r.append (.cons W .nil)) ?_,rfl,q⟩;rw[qc0,qm1];lia
def zB:V->η V->Hp->VK->Prop:=fun x vs H Q=>∃l b xs zs,x=.ref l/\vs=[.ref b]/\H l=ς (.e xs)/\H b=ς (.e zs)/\xs.length+zs.length<=qb2/\Q .non (upd H l (.e (xs++zs)))
def ur:MtM X "list.extend" zB:=by
 intro J1 s σ H x vs v us Q I rx rv h;obtain⟨l,b,xs,zs,rfl,rfl,W,Y,hz,q⟩:=h;cases rx;obtain⟨u,rfl,ru⟩:=rv.one;cases ru;obtain⟨z,J8,n,r,hl,e⟩:=I.lstM W;obtain⟨z2,L,n2,Z,hl2,e2⟩:=I.lstM Y;have U:J8.toArray.size+L.toArray.size<=qb2:=by rw[qb7,qb7];lia
 have O:¬ (!J8.toArray.isEmpty&&qn4 (J8.toArray.size+L.toArray.size))=θ:=by rw[oY U,qu1];exact qb6
 refine zf9 F.slot_list_extend ⟨_,e,rfl⟩ F.entry_list_extend (F.args_list_extend_2 _ _)
  (AutoSeq1.list_extend_list_list_0 l J8.toArray n b L.toArray n2 O (by rw[qb7];lia) Θ) ⟨e,e2,?_⟩
 refine⟨.non,_,I.lset (its':=J8++L) W e Ξ (r.append Z) ?_,rfl,q⟩;rw[qc0];lia
def sj{α:Type}(xs:η α)(k:Nat):(qc1 k xs).flatten.length=k*xs.length:=by
 induction k with
 |zero=>simp
 |succ k q=>rw[qh9,qn3,qc0,q,zj4,Nat.add_comm]
end
section
variable{prog:qd1}{w:Ja}{A:qe0}{E:Vz->qa5->Prop}{s:qa5}
end
section
variable{X:Cx}
end
variable{o:ζ V}
section
variable{κ:Type}[DecidableEq κ]
noncomputable def fJ(J6:η (κ×V))(k:κ):ζ V:=(J6.find? fun kv=>decide (kv.1=k)).map (·.2)
noncomputable def fY(J6:η (κ×V))(k:κ)(v:V):η (κ×V):=if(J6.any fun kv=>decide (kv.1=k))=θ then J6.map (fun kv=>if kv.1=k then(kv.1,v)else kv)else J6++[(k,v)]
def iQ{p:κ×V}{r:η (κ×V)}{k:κ}(e:p.1=k):fJ (p::r) k=ς p.2:=by simp[fJ,qp3,e]
def gM{p:κ×V}{r:η (κ×V)}{k:κ}(e:¬ p.1=k):fJ (p::r) k=fJ r k:=by simp[fJ,qp3,e]
theorem oZ(k:κ):∀J6:η (κ×V),(J6.any fun kv=>decide (kv.1=k))=(fJ J6 k).isSome
 |[]=>rfl
 |p::r=>by
  rw[qk6];by_cases e:p.1=k
  .simp only[iQ e,decide_eq_true e,zj5,Option.isSome_some]
  .rw[gM e,decide_eq_false e,zi3];exact oZ k r
def jS(J6:η (κ×V))(k:κ)(v:V):(fY J6 k v).length<=J6.length+1:=by
 unfold fY;split
 .rw[qa1];lia
 .rw[qc0,qd2,qw9];lia
def RelO.isSome_eq{u:ζ Vz}(r:RelO o u):o.isSome=u.isSome:=by
 cases o with
 |none=>cases u with
  |none=>rfl
  |some _=>exact(show False from r).elim
 |some _=>cases u with
  |none=>exact(show False from r).elim
  |some _=>rfl
def RelO.getD{u:ζ Vz}{d:V}{d':Vz}(r:RelO o u)(rd:RelV d d'):RelV (o.getD d) (u.getD d'):=by
 cases o with
 |none=>cases u with
  |none=>exact rd
  |some _=>exact(show False from r).elim
 |some _=>cases u with
  |none=>exact(show False from r).elim
  |some _=>exact r
def KV.val{J6:η (κ×V)}{vs:η (κ×Vz)}(r:KV J6 vs)(k:κ):RelO (fJ J6 k) (zh3 vs k):=by
 unfold KV at r;induction r with
 |nil=>exact qr8
 |@cons p q ps qs h t O=>
  obtain⟨h1,h2⟩:=h;by_cases e:p.1=k
  .have L:q.1=k:=h1.symm.trans e;have b:zh3 (q::qs) k=ς q.2:=by simp[zh3,qp3,L]
   rw[iQ e,b];exact h2
  .have L:¬ q.1=k:=fun z=>e (h1.trans z)
   have b:zh3 (q::qs) k=zh3 qs k:=by simp[zh3,qp3,L]
   rw[gM e,b];exact O
def KV.any{J6:η (κ×V)}{vs:η (κ×Vz)}(r:KV J6 vs)(k:κ):(J6.any fun kv=>decide (kv.1=k))=vs.any fun kv=>decide (kv.1=k):=by
 unfold KV at r;induction r with
 |nil=>rfl
 |cons h t q=>rw[qk6,qk6,q,h.1]
def KV.repl {J6:η (κ×V)} {vs:η (κ×Vz)} (r:KV J6 vs) (k:κ) (O:RelV y u) :
  KV (J6.map fun kv=>if kv.1=k then(kv.1,y)else kv) (vs.map fun kv=>if kv.1=k then(kv.1,u)else kv):=by
 unfold KV at r ⊢;induction r with
 |nil=>exact .nil
 |@cons p q ps qs h t L=>
  rw[qa6,qa6];refine .cons ?_ L;obtain⟨h1,h2⟩:=h;by_cases e:p.1=k
  .rw[if_pos e,if_pos (h1.symm.trans e)];exact⟨h1,O⟩
  .rw[if_neg e,if_neg (fun z=>e (h1.trans z))];exact⟨h1,h2⟩
def KV.put{J6:η (κ×V)}{vs:η (κ×Vz)}(r:KV J6 vs)(k:κ)(q:RelV y u):KV (fY J6 k y) (stored vs k u):=by
 unfold fY stored;rw[r.any k];by_cases e:(vs.any fun kv=>decide (kv.1=k))=θ
 .rw[if_pos e,if_pos e];exact r.repl k q
 .rw[if_neg e,if_neg e];exact Paired.snoc r ⟨rfl,q⟩
def KV.length{J6:η (κ×V)}{vs:η (κ×Vz)}(r:KV J6 vs):J6.length=vs.length:=Paired.length r
end
variable{P:qd1}{w:Ja}
def kQ{k:Key}(r:RelV (kV k) u):(bM P w).is k u=θ:=by
 cases k with
 |inl i=>obtain⟨t,e⟩:=(show ∃t,u=zk1 i t from r);subst e;exact oS P w i t
 |inr x=>obtain⟨t,e⟩:=(show ∃t,u=zk2 x t from r);subst e;exact gI P w x t
theorem mw:∀{ks:η Key}{us:η Vz},Vals (ks.map kV) us->ItemsAre (bM P w) ks us
 |[],_,r=>by rw[qj9]at r;cases r;exact .nil
 |k::ks,_,r=>by
  rw[qa6]at r;cases r with
  |cons h t=>exact .cons (kQ h) (mw t)
abbrev KT(H:Hp):η (η Key×V)->η (η Key×J9×Vz)->Prop:=Paired fun p q=>p.1=q.1/\H q.2.1=ς (.t (p.1.map kV))/\RelV p.2 q.2.2
variable{J6:η (η Key×V)}
def KT.val{xs:η (η Key×J9×Vz)}(r:KT H J6 xs)(k:η Key):RelO (fJ J6 k) ((atKey xs k).map (·.2)):=by
 induction r with
 |nil=>exact qr8
 |@cons p q ps qs h t O=>
  obtain⟨h1,_,h2⟩:=h;by_cases e:p.1=k
  .have L:q.1=k:=h1.symm.trans e;have b:atKey (q::qs) k=ς q.2:=by simp[atKey,qp3,L]
   rw[iQ e,b];exact h2
  .have L:¬ q.1=k:=fun z=>e (h1.trans z)
   have b:atKey (q::qs) k=atKey qs k:=by simp[atKey,qp3,L]
   rw[gM e,b];exact O
def KT.repl {xs:η (η Key×J9×Vz)} (r:KT H J6 xs) (k:η Key) (O:RelV y u) :
  KT H (J6.map fun kv=>if kv.1=k then(kv.1,y)else kv) (xs.map (putAt k u)):=by
 induction r with
 |nil=>exact .nil
 |@cons p q ps qs h t L=>
  rw[qa6,qa6];refine .cons ?_ L;obtain⟨h1,h2,h3⟩:=h;unfold putAt;by_cases e:p.1=k
  .rw[if_pos e,if_pos (h1.symm.trans e)];exact⟨h1,h2,O⟩
  .rw[if_neg e,if_neg (fun z=>e (h1.trans z))];exact⟨h1,h2,h3⟩
variable{b:J9}
def KT.put {xs:η (η Key×J9×Vz)} (r:KT H J6 xs) (k:η Key) (O:H b=ς (.t (k.map kV))) (L:RelV y u) :
  KT H (fY J6 k y) (storedH xs k b u):=by
 have e:(J6.any fun kv=>decide (kv.1=k))=(atKey xs k).isSome:=by rw[oZ,(r.val k).isSome_eq,qq0]
 unfold fY storedH;rw[e];by_cases q:(atKey xs k).isSome=θ
 .rw[if_pos q,if_pos q];exact r.repl k L
 .rw[if_neg q,if_neg q];exact Paired.snoc r ⟨rfl,O,L⟩
variable{H':Hp}
def KT.keeps{xs:η (η Key×J9×Vz)}(r:KT H J6 xs)(q:∀b ys,H b=ς (.t ys)->H' b=ς (.t ys)):KT H' J6 xs:=Paired.mapP r fun _ _ z=>⟨z.1,q _ _ z.2.1,z.2.2⟩
section
variable{P:qd1}{w:Ja}{H:Hp}{h:Heap}{a:J9}
def Ba{u:HO}(ok:HOk P w H h)(e:Rd H a u):ObjOk P w H h a u:=e.ok ok
def mx{J6:η (Key×V)}(ok:HOk P w H h)(e:Rd H a (.dK J6)):J6.length<=qb2/\(a==qj0)=ξ/\∃vs,KV J6 vs/\h.DictOf (bM P w) a vs:=show ObjOk P w H h a (.dK J6)from Ba ok e
def EU{J6:η (Key×V)}(ok:HOk P w H h)(e:H a=ς (.dK J6)):J6.length<=qb2/\(a==qj0)=ξ/\∃vs,KV J6 vs/\h.DictOf (bM P w) a vs:=mx ok (.inl e)
def kR{ks:η Key}(ok:HOk P w H h)(e:H a=ς (.t (ks.map kV))):(zh7 (bM P w)).is h ks a:=by obtain⟨_,J8,r,o,h1,h2,n,h3⟩:=(show ObjOk P w H h a (.t (ks.map kV))from ok a _ e);exact⟨o,J8.toArray,n,h1,h2,h3,by simpa using mw r⟩
def o4 (ok:HOk P w H h) (e:Rd H a (.dT J6)):J6.length<=qb2/\(a==qj0)=ξ∧
  ∃xs,KT H J6 xs/\h.DictOfH (zh7 (bM P w)) a xs:=by
 obtain⟨z,y,xs,r,o,es,ep,h1,h2,h3,W,Y⟩:=(show ObjOk P w H h a (.dT J6)from Ba ok e);refine⟨z,y,xs,r,o,es,ep,h1,h2,h3,W,fun x L=>?_,Y⟩
 have all:∀{l:η (η Key×V)}{m:η (η Key×J9×Vz)},KT H l m->∀x∈m,(zh7 (bM P w)).is h x.1 x.2.1:=by
  intro l m q;induction q with
  |nil=>intro x L;exact nomatch L
  |@cons p q ps qs O t U=>
   intro x L;rcases qa8.mp L with e|L
   .subst e;exact kR ok (by rw[<- O.1];exact O.2.1)
   .exact U x L
 exact all r x L
def EV(ok:HOk P w H h)(e:H a=ς (.dT J6)):J6.length<=qb2/\(a==qj0)=ξ∧∃xs,KT H J6 xs/\h.DictOfH (zh7 (bM P w)) a xs:=o4 ok (.inl e)
end
def DGet(H:Hp)(a:J9)(y:V)(r:ζ V):Prop:=(∃J6 k,Rd H a (.dK J6)/\y=kV k/\r=fJ J6 k)∨∃J6 k b,Rd H a (.dT J6)/\y=.ref b/\H b=ς (.t (k.map kV))/\r=fJ J6 k
def DPut(H:Hp)(a:J9)(y v:V)(H':Hp):Prop:=
 (∃J6 k,H a=ς (.dK J6)/\y=kV k/\J6.length<qb2/\H'=upd H a (.dK (fY J6 k v)))∨
 ∃J6 k b,H a=ς (.dT J6)/\y=.ref b/\H b=ς (.t (k.map kV))/\J6.length<qb2/\H'=upd H a (.dT (fY J6 k v))
variable{a:J9}
def DGet.k{J6:η (Key×V)}{k:Key}(e:H a=ς (.dK J6)):DGet H a (kV k) (fJ J6 k):=.inl ⟨J6,k,.inl e,rfl,rfl⟩
def DGet.t{k:η Key}(e:H a=ς (.dT J6))(q:H b=ς (.t (k.map kV))):DGet H a (.ref b) (fJ J6 k):=.inr ⟨J6,k,b,.inl e,rfl,q,rfl⟩
def DPut.k{J6:η (Key×V)}{k:Key}{v:V}(e:H a=ς (.dK J6))(q:J6.length<qb2):DPut H a (kV k) v (upd H a (.dK (fY J6 k v))):=.inl ⟨J6,k,e,rfl,q,rfl⟩
def DPut.t {k:η Key} {v:V} (e:H a=ς (.dT J6)) (q:H b=ς (.t (k.map kV))) (L:J6.length<qb2) :
  DPut H a (.ref b) v (upd H a (.dT (fY J6 k v))):=.inr ⟨J6,k,b,e,rfl,q,L,rfl⟩
variable{Q:Vz->qa5->Prop}{h':Heap}
section
variable{X:Cx}{J1:η (J9×Obj)}{σ:St}{H:Hp}{s:qa5}{a:J9}{y v:V}{u r:Vz}{o:ζ V}{A:qe0}{E:Vz->qa5->Prop}
def Inv.big(I:Inv X J1 σ H s):qj0<s.heap.objs.size:=by have h:qc3<s.heap.objs.size:=(I.mod.glob.keeps I.bk).lt;exact qy4 Ω h
def ut (hu:A.units+1<cLine) (I:Inv X J1 σ H s) (g:DGet H a y (ς v)) (ry:RelV y u) (h:∀ O s',Inv X J1 σ H s'->RelV v O->Q O s') :
  wpAny (model X.prog X.w) A (zb1 (.ref a) u) Q E s:=by
 rcases g with ⟨J6,k,e,W,l⟩|⟨J6,k,b,e,W,eb,l⟩
 .subst W;obtain⟨z,hd,vs,L,U⟩:=mx I.hok e;obtain⟨O,Z,q⟩:=RelO.some_of (v:=v) (o:=zh3 vs k) (by rw[l];exact L.val k);exact wpAny_getItem_of (kQ ry) U.mapOf Z (h O _ (I.tok _) q)
 .subst W;cases (show u=qf3 b from ry);obtain⟨z,hd,xs,L,U⟩:=o4 I.hok e;obtain⟨O,Z,q⟩:=RelO.some_of (v:=v) (o:=(atKey xs k).map (·.2)) (by rw[l];exact L.val k);obtain⟨p,hp,Y⟩:=mS Z;refine wpAny_getItem_heap (qs4 hu) (kR I.hok eb) U hp ?_;rw[Y];exact h O _ (I.tok _) q
def d_in (Z:A.units+1<cLine) (I:Inv X J1 σ H s) (g:DGet H a y o) (Y:RelV y u) (h:∀ s',Inv X J1 σ H s'->Q (.bool o.isSome) s') :
  wpAny (model X.prog X.w) A (qf7 .In u (.ref a)) Q E s:=by
 rcases g with ⟨J6,k,e,U,l⟩|⟨J6,k,b,e,U,eb,l⟩
 .subst U;obtain⟨z,W,vs,L,O⟩:=mx I.hok e;refine wpAny_in_of (kQ Y) W O.mapOf ?_;rw[<- (L.val k).isSome_eq,<- l];exact h _ (I.tok _)
 .subst U;cases (show u=qf3 b from Y);obtain⟨z,W,xs,L,O⟩:=o4 I.hok e;refine wpAny_in_heap (qs4 Z) (kR I.hok eb) W O ?_;have q:=(L.val k).isSome_eq;rw[qq0]at q;rw[<- q,<- l];exact h _ (I.tok _)
def zC (Z:A.units+1<cLine) (I:Inv X J1 σ H s) (g:DGet H a y o) (Y:RelV y u) (h:∀ s',Inv X J1 σ H s'->Q (.bool (!o.isSome)) s') :
  wpAny (model X.prog X.w) A (qf7 .NotIn u (.ref a)) Q E s:=by
 rcases g with ⟨J6,k,e,U,l⟩|⟨J6,k,b,e,U,eb,l⟩
 .subst U;obtain⟨z,W,vs,L,O⟩:=mx I.hok e;refine wpAny_notIn_of (kQ Y) W O.mapOf ?_;rw[<- (L.val k).isSome_eq,<- l];exact h _ (I.tok _)
 .subst U;cases (show u=qf3 b from Y);obtain⟨z,W,xs,L,O⟩:=o4 I.hok e;refine wpAny_notIn_heap (qs4 Z) (kR I.hok eb) W O ?_;have q:=(L.val k).isSome_eq;rw[qq0]at q;rw[<- q,<- l];exact h _ (I.tok _)
def sk {ob:HO} (I:Inv X J1 σ H s) (W:Mut (H a)) (L:qo1 a s.heap h') (O:∃ q,h'.get? a=ς q) (new:ObjOk X.prog X.w (upd H a ob) h' a ob) :
  Inv X J1 σ (upd H a ob) {s with heap:=h',toks:=t'}:=
 I.write (x:=a) (e:=a) W (.inl rfl) (fun b q U z=>(L.2 b U).trans z) O new
def CH {J6:η (Key×V)} {vs:η (Key×Vz)} (z:J6.length<=qb2) (L:(a==qj0)=ξ) (q:KV J6 vs) (O:h'.DictOf (bM P w) a vs) :
  ObjOk P w H' h' a (.dK J6):=⟨z,L,vs,q,O⟩
def uu {Q:Unit->qa5->Prop} (hu:A.units+1<cLine) (I:Inv X J1 σ H s) (g:DPut H a y v H') (ry:RelV y u) (rv:RelV v r) (h:∀ s',Inv X J1 σ H' s'->Q () s') :
  wpAny (model X.prog X.w) A (setItem (.ref a) u r) Q E s:=by
 rcases g with ⟨J6,k,e,W,l,eH⟩|⟨J6,k,b,e,W,eb,l,eH⟩
 .subst W eH;obtain⟨z,Y,vs,L,dd⟩:=EU I.hok e;have hz:vs.length<=qb2:=by rw[<- L.length];exact z
  have hl:(fY J6 k v).length<=qb2:=by have:=jS J6 k v;lia
  refine wpAny_setItem_pairs (hsz:=hz) (kQ ry) dd fun h' O Z=>h _ ?_
  have he:∃q,h'.get? a=ς q:=let ⟨q,_,_,U,_⟩:=O;⟨q,U⟩;exact sk I (by rw[e];exact qr8) Z he (CH hl Y (L.put k rv) O)
 .subst W eH;cases (show u=qf3 b from ry);obtain⟨z,Y,xs,L,dd⟩:=EV I.hok e;have hz:xs.length<=qb2:=by rw[<- Paired.length L];exact z
  have hl:(fY J6 k v).length<=qb2:=by have:=jS J6 k v;lia
  refine wpAny_setItem_heap (hsz:=hz) (qs4 hu) (kR I.hok eb) dd fun h' O Z=>h _ ?_
  obtain⟨q,es,ep,U,h2,h3,h4,_,h5⟩:=O;refine sk I (by rw[e];exact qr8) Z ⟨q,U⟩ ⟨hl,Y,_,(L.put k eb rv).keeps fun c ys ec=>?_,q,es,ep,U,h2,h3,h4,h5⟩;rw[aF (Ew ec e (fun z=>nomatch z))];exact ec
end
section
variable{X:Cx}{J1:η (J9×Obj)}{σ:St}{H:Hp}{s:qa5}{a:J9}{J6:η (Key×V)}{k:Key}{u:Vz}{A:qe0}{E:Vz->qa5->Prop}
end
def uv(i:Jc):Prop:=∀q L,zh1 i ξ q L=operate [q,L] (zb1 q L)
def sq{prog:qd1}{E:Vz->qa5->Prop}{env:Env}{value q:Jc}{pos:Pos}{T id:String} 
 (Y:zf6 (.type T) "__getitem__"=pure (ς (.builtin id))) (Z:uv q)
 (h:wpAny (model prog w) A (eval value env) (fun o O=>wpAny (model prog w) A (eval q env) (fun i s₂=>s₂.TypeIs o T/\wpAny (model prog w) A (zb1 o i) Q E s₂) E O) E s) :
  wpAny (model prog w) A (eval (.Subscript value q pos) env) Q E s:=by
 refine Subscript_ (qk9 h (fun o O U=>qk9 U (fun i s₂ L=>?_) fun _ _ x=>x) fun _ _ x=>x);obtain⟨W,L⟩:=L;unfold zi2;refine wB ?_;rw[getitemInPython_of_ne W.not_modules];refine wB (qx0 W Y ?_)
 have fin:wpAny (model prog w) A (zh1 q ξ o i) (fun r s₃=>wpAny (model prog w) A (letTemporaryGo value o r >>= fun _=>pure r) Q E s₃) E s₂:=by rw[Z o i];exact wpAny_operating (qk9 L (fun r s₃ h₃=>wB (wpAny_letTemporaryGo (qa2 h₃))) fun _ _ x=>x)
 first
  |exact qa2 (wB fin)
  |exact wB (qa2 (wB fin))
  |exact wB fin
def o5{X:Cx}(I:Inv X J1 σ H s)(g:DGet H a y o):s.TypeIs (.ref a) "dict":=by
 rcases g with ⟨J6,k,e,_,_⟩|⟨J6,k,b,e,_,_,_⟩
 .obtain⟨_,_,vs,_,q⟩:=mx I.hok e;exact q.typeIs
 .obtain⟨_,_,xs,_,q⟩:=o4 I.hok e;exact q.typeIs
def EW(td ty:TE):TE:=fun σ H Q=>td σ H fun x H1=>ty σ H1 fun y H2=>∃a v,x=.ref a/\DGet H2 a y (ς v)/\Q v H2
def tDIn(ty td:TE):TE:=fun σ H Q=>ty σ H fun y H1=>td σ H1 fun x H2=>∃a o,x=.ref a/\DGet H2 a y o/\Q (.bl o.isSome) H2
def sr(ty td:TE):TE:=fun σ H Q=>ty σ H fun y H1=>td σ H1 fun x H2=>∃a o,x=.ref a/\DGet H2 a y o/\Q (.bl (!o.isSome)) H2
def EX(td ty tv:TE):TS:=fun D σ H=>tv σ H fun v H1=>td σ H1 fun x H2=>ty σ H2 fun y L=>∃a q,x=.ref a/\DPut L a y v q/\D.nx σ q
section
variable{X:Cx}{o i e value:Jc}{pos pos' tpos:Pos}{td ty tv:TE}
theorem su(hu:X.A.units+1<cLine)(O:PE X o td)(hi:PE X i ty)(W:uv i):PE X (.Subscript o i pos) (EW td ty):=by intro J1 s σ H Q I h;refine sq PySem.F.slot_dict_getitem.lookup W (thn (O J1 s σ H _ I h) fun u s1 ⟨x,H1,U,rx,q1⟩=>thn (hi J1 s1 σ H1 _ U q1) fun iv s2 ⟨y,H2,L,Z,a,v,ex,g,q2⟩=>?_);subst ex;obtain rfl:u=qf3 a:=rx;exact⟨o5 L g,ut hu L g Z fun w' s3 Y q=>⟨v,H2,Y,q,q2⟩⟩
def vU(O:X.A.units+1<cLine)(hi:PE X i ty)(q:PE X o td):PC X .In i o (tDIn ty td):=by
 intro J1 s σ H Q I h;refine thn (hi J1 s σ H _ I h) fun iv s1 ⟨y,H1,U,L,q1⟩=>thn (q J1 s1 σ H1 _ U q1) fun u s2 ⟨x,H2,Z,Y,a,W,ex,g,q2⟩=>?_
 subst ex;obtain rfl:u=qf3 a:=Y;exact d_in O Z g L fun s3 I3=>⟨.bl W.isSome,H2,I3,rfl,q2⟩
def my(O:X.A.units+1<cLine)(hi:PE X i ty)(q:PE X o td):PC X .NotIn i o (sr ty td):=by
 intro J1 s σ H Q I h;refine thn (hi J1 s σ H _ I h) fun iv s1 ⟨y,H1,U,L,q1⟩=>thn (q J1 s1 σ H1 _ U q1) fun u s2 ⟨x,H2,Z,Y,a,W,ex,g,q2⟩=>?_
 subst ex;obtain rfl:u=qf3 a:=Y;exact zC O Z g L fun s3 I3=>⟨.bl (!W.isSome),H2,I3,rfl,q2⟩
def sv (hu:X.A.units+1<cLine) (q:PE X o td) (hi:PE X i ty) (hv:PE X value tv) (U:qo5 value (ς (.Subscript o i pos')) pos.line X.env=pure ξ) :
  PS X (.Assign [.Subscript o i pos'] value pos) (EX td ty tv):=by
 intro J1 s σ H D I h;refine wpAny_Assign_Subscript (thn (hv J1 s σ H _ I h) fun r s1 ⟨v,H1,O,rv,q1⟩=>thn (q J1 s1 σ H1 _ O q1) fun u s2 ⟨x,H2,Z,rx,q2⟩=>thn (hi J1 s2 σ H2 _ Z q2) fun iv s3 ⟨y,H3,Y,ry,a,L,ex,g,q3⟩=>?_) U;subst ex;obtain rfl:u=qf3 a:=rx;exact uu hu Y g ry rv fun s4 W=>⟨σ,L,W,q3⟩
end
def vV(h:Heap)(q:qj0<h.objs.size):ObjOk P w H (h.push {cls:=.type "dict",data:=.dict #[]}) h.objs.size (.dT []):=⟨qi7 _,beq_eq_false_iff_ne.mpr (qq5 (qc4 q)),[],.nil,_,#[],0,qa9 _ rfl,⟨rfl,rfl,rfl⟩,rfl,rfl,qu2⟩
def CI:TE:=fun _ H Q=>∀p,H p=ψ->Q (.ref p) (upd H p (.dT []))
section
variable{X:Cx}{pos:Pos}
def vW:PE X (.Dict [] [] pos) CI:=fun J1 s σ H Q I h=>wpAny_Dict_empty ⟨.ref s.heap.objs.size,_,I.laid (a:=s.heap.objs.size) (o:=.dT []) (t':=s.toks) (fun _ _ q=>gP _ q) (nL _) (vV s.heap I.big),rfl,h _ (I.hok.fresh (nL _))⟩
end
section
variable{X:Cx}{J1:η (J9×Obj)}{σ:St}{H:Hp}{s:qa5}{a:J9}{y d:V}{u r:Vz}{o:ζ V}{A:qe0}{E:Vz->qa5->Prop}
end
section
variable{X:Cx}{o e f:Jc}{apos cpos:Pos}{td ty tx:TE}
end
section
variable{X:Cx}{J1:η (J9×Obj)}{σ:St}{H:Hp}{s:qa5}{a:J9}{J6:η (Key×V)}{A:qe0}{E:Vz->qa5->Prop}
end
section
variable{X:Cx}{J1:η (J9×Obj)}{σ:St}{H:Hp}{s:qa5}{a:J9}{y:V}{u:Vz}{A:qe0}{E:Vz->qa5->Prop}
end
end L2
namespace Att
open PySem PySem.W PySem.Calls PyProof.Rows
variable{P:Params}{h:Heap}
def ke:∀(ns:η Int)(vs:η Vz),WellAll P h vs (ns.map WData.int)->zh0 vs ns:=by
 intro ns;induction ns with
 |nil=>intro vs w;rw[qj9]at w;cases w;exact .nil
 |cons n ns q=>
  intro vs w;rw[qa6]at w;cases w with
  |cons a b=>cases a;exact .cons _ _ (q _ b)
variable{l:OpenLaw}{n:Nat}
def uw(hn:l.most=ς n){args:η WData}{L:η Vz}
 (O:l.row.toRowW.claim.pre args=θ) (hwl:WellAll P h L args) :
  ∃a vs ns,L=[qf3 a]/\args=[WData.list (ns.map WData.int)]/\h.get? a=ς {cls:=.type "list",data:=.seq vs.toArray}/\zh0 vs ns/\ns.length<=n:=by
 have hsh:WShape.hasAll [] args [.list .int]=θ:=(pre_splitW O).1;have hc:l.pre.holds [] {args:=args}=θ:=(pre_splitW O).2;obtain⟨d,r,rfl,h1,h2⟩:=hasAllW_cons hsh;obtain rfl:=hasAllW_nil h2;obtain⟨xs,rfl,h3⟩:=hasW_list h1;obtain⟨ns,rfl⟩:=items_int h3
 have W:ns.length<=n:=by
  unfold OpenLaw.pre at hc
  have Y:(WTm.not (.lt (.lit (.int (n:Int))) (.len (.arg 0)))).holds [] {args:=[.list (ns.map .int)]}=θ:=by have Y:=(holds_andW hc).1;rw[hn]at Y;exact Y
  have Z:=condW_of Y (w_not (w_lt w_lit (w_len_list (w_arg rfl))));rw[qa1]at Z;refine Nat.le_of_not_lt fun q=>?_
  have q':(n:Int)<((ns.length:Nat):Int):=by lia
  first
   |(rw[decide_eq_true q']at Z;exact absurd Z Ω)
   |(simp at Z;lia)
 cases hwl with
 |cons w1 w2=>
  cases w2;cases w1 with
  |list ho U=>exact⟨_,_,ns,rfl,rfl,ho,ke ns _ U,W⟩
def ux(l:OpenLaw)(args:η WData):l.row.toRowW.claim.post args (.bool θ) args=θ:=
 postW_of (r:=l.row.toRowW) (X:=(θ==θ))
  (show WShape.has [] (.bool θ) .bool=θ by first|rfl|decide|simp[WShape.has,WShape.arms,WShape.armsAll])
  (show(WTm.eq .res (.lit (.bool θ))).value [] {args:=args,res:=ς (.bool θ),after:=args}=ς (.bool (θ==θ))from w_eq_bool (w_res rfl) w_lit) rfl
def Bb{q:qd1}{loose:η Str}{XP:(Str->ζ Vz)->Heap->Prop}{YP:Ja->Heap->Prop}{d:DefRec}
 (hn:l.most=ς n) (hdf:d.params.defaults=[])
 (call:∀(w:Ja)(s₀ L:qa5)(mg mb:Str->ζ Vz)(fa:J9)(o:Obj)(pm cd doc:Vz)(a:J9)(vs:η Vz)(ns:η Int),
 Ground q loose [] XP w s₀ mg mb L.heap->YP w L.heap→
 L.heap.get? fa=ς o->o.data=.func (docDef d.name d.params d.body d.scope pm cd doc)->L.heap.CodeRec cd d.name->mg d.name=ς (.ref fa)→
 L.heap.get? a=ς {cls:=.type "list",data:=.seq vs.toArray}->zh0 vs ns->ns.length<=n->L.gens=#[]→
 qq6 (model l.prog w) zi9 (.call (.ref fa) ⟨[.ref a],[]⟩) (fun r s'=>r=.ok (.ret (.bool θ))/\OldK L.heap s'.heap/\s'.os=L.os/\zd7 s'.gens) L) :
  WalkO q loose XP YP l.row.toRowW d [] (fun f vs=>PySem.call f vs):=by
 intro w s₀ L mg mb G Y fa o pm cd doc dV kV ho hd hcd hD hmg hg args vals as Z hlay hrd hwl hlo;obtain rfl:dV=.none:=Dflts.none hD hdf;obtain rfl:kV=.none:=Dflts.noKw hD;obtain⟨a,vs,ns,rfl,rfl,U,O,W⟩:=uw hn Z hwl;refine enter_call (qr9 (call w s₀ L mg mb fa o pm cd doc a vs ns G Y ho (fd_plain hd) hcd hmg U O W hg) fun r s' hq=>?_);obtain⟨rfl,h2,h3,h4⟩:=hq;exact⟨.inl ⟨.bool θ,.bool θ,[],rfl,fun _=>rfl,.bool θ,ux l _,fun _=>⟨qq1,fun _ hm=>(nomatch hm)⟩⟩,h2,h3,h4⟩
section
variable{prog:qd1}{w:Ja}{A:qe0}{E:Vz->qa5->Prop}{s:qa5}{K:Frag}
end
end Att
namespace L2
open PySem PySem.Spec PyProof.Rows
theorem mz:∀{vs:η Vz}{ns:η Int},zh0 vs ns->Vals (ns.map V.int) vs
 |_,_,.nil=>.nil
 |_,_,.cons n t h=>.cons ⟨t,rfl⟩ (mz h)
end L2
/- THE LAST THEOREM (shape;LID,My.* are yours):
   My.Adr: a structure of the addresses that your layer names (classes,functions);My.Txt K t: a structure (Prop) of the equations over K;
   My.txt_mk:{K} {implicit addresses ..} (e1:nsIn K qc3 "law"=ς (ς (.ref f))) (e2:K.lookup f=ς ⟨oc,od,.func (fnOf "law" "law" params body scope dV kV doc pm an cdv ct),sl⟩) (e3:codeIn K cdv "law"=θ) ..:∃t,My.Txt K t
(the tactic k_is has no namespace: write k_is) -/
namespace L2
open PySem PySem.Spec PyProof.Rows
def ck(s:Jb):qj2:=match s with
 |.FunctionDef _ a _ _ _ _ _ _ _ _=>a
 |_=>{posonlyargs:=[],args:=[],vararg:=ψ,kwonlyargs:=[],kw_defaults:=[],kwarg:=ψ,defaults:=[]}
def bc(s:Jb):η Jb:=match s with
 |.FunctionDef _ _ b _ _ _ _ _ _ _=>b
 |_=>[]
def ac(s:Jb):Jd:=match s with
 |.FunctionDef _ _ _ _ _ _ sc _ _ _=>sc
 |_=>{kind:=.function,names:=[],isGenerator:=false,isCoroutine:=false}
abbrev CX0:CXT:=fun _ _ _ _ _ _=>False
abbrev E0:XK:=fun _ _ _=>False
variable{X:Cx}
def EY:qt CX0 X E0:=fun _ _ _ _ _ _ _ h=>h.elim
structure Fun(K:xA9)(x qual:Str)(st:Jb)(f:J9)(fd:qp9):Prop where
 ex:∃(oc:Vz)(od:Option J9)(kV doc pm:Vz)(an:Option J9)(cdv ct:Vz)(osl:Array (Option Vz)),fd=xC9 x qual (ck st) (bc st) (ac st) .none kV doc pm an cdv ct/\K.lookup f=ς ⟨oc,od,.func fd,osl⟩/\xH9 K cdv qual=θ
 kp:xF9 K (.ref f)=θ
variable{x qual:Str}{st:Jb}{f:J9}{fd:qp9}{N ps:η Str}{sp:Sp}{oc doc pm cdv:Vz}{od an:ζ J9}{osl:Array (ζ Vz)}
section
variable{P:qd1}{w:Ja}{K:xA9}{mg:Str->ζ Vz}{base:Heap}
def Fun.ok{k:Nat}(F:Fun K x qual st f fd)(S:FnScope N ps (ac st))(len:∀vs H Q E,sp vs H Q E->vs.length=ps.length)
 (L:∀(cdv:Vz)(A:qe0)(outer:η Env)(s:qa5)(H:Hp)(vs:η V)(Q:VK)(E:XK),Room k (A.deeper (qz4 qual (ac st) s.heap.objs.size f cdv))->sp vs H Q E→
 ∃t,PSs (kO CX0 P w K mg base N qual (ac st) f cdv A outer s H E).nox (bc st) t/\t {nx:=fun _ H'=>Q .non H',rt:=Q} (start N vs) H):FnOk P w K mg base CX0 (k+1) f fd ps sp:=by
 obtain⟨oc,od,kV,doc,pm,an,cdv,ct,osl,rfl,Y,U⟩:=F.ex;refine A8 Y U S len fun A outer s H vs Q E W O=>?_
 obtain⟨t,h,q⟩:=L cdv A outer s H vs Q E W O;exact⟨t,h.nox,q⟩
def Fun.binds(F:Fun K x qual st f fd)
 (h:∀(kV doc pm:Vz)(an:ζ J9)(cdv ct:Vz)(us:η Vz),us.length=ps.length->zi1 (xC9 x qual (ck st) (bc st) (ac st) .none kV doc pm an cdv ct) ⟨us,[]⟩=pure (ps.zip us)):Binds K fd ps []:=by
 obtain⟨oc,od,kV,doc,pm,an,cdv,ct,osl,rfl,L,q⟩:=F.ex;exact .all (h kV doc pm an cdv ct)
theorem nJ{kV ct:Vz}(l:K.lookup f=ς ⟨oc,od,.func (xC9 x qual (ck st) (bc st) (ac st) .none kV doc pm an cdv ct),osl⟩)(c:xH9 K cdv qual=θ)(k:xF9 K (.ref f)=θ):Fun K x qual st f (xC9 x qual (ck st) (bc st) (ac st) .none kV doc pm an cdv ct):=⟨⟨oc,od,kV,doc,pm,an,cdv,ct,osl,rfl,l,c⟩,k⟩
end
variable{A:qe0}
def jT{k:Nat}(q:Room k A):A.units+1<cLine:=qy5 (Nat.add_le_add_left (by decide:1<=64) _) q.units
section
variable{X:Cx}
end
def Same(H H':Hp):Prop:=∀b o,H b=ς o->H' b=ς o
def Same.refl(H:Hp):Same H H:=fun _ _ h=>h
variable{H:Hp}
def Same.trans{H1 H2:Hp}(a:Same H H1)(b:Same H1 H2):Same H H2:=fun c o h=>b c o (a c o h)
variable{H':Hp}
def Same.free(e:Same H H'){l:J9}(h:H' l=Option.none):H l=Option.none:=by
 cases q:H l with
 |none=>rfl
 |some o=>rw[e l o q]at h;cases h
variable{K:xA9}{a:J9}{xs:η V}
def Same.seq(e:Same H H')(h:SqL K H a xs):SqL K H' a xs:=by
 rcases h with (h|⟨o,h⟩)|h
 .exact .inl (.inl (e _ _ h))
 .exact .inl (.inr ⟨o,e _ _ h⟩)
 .exact .inr h
section
variable{κ:Type}[DecidableEq κ]
end
set_option maxRecDepth 100000
set_option maxHeartbeats 4000000
theorem dP:∀(names:η (Str×qp0))(n:Nat)(J5:η (Str×J9)),qh1 n names J5=qh1 n names []++J5
 |[],_,_=>rfl
 |(x,k)::r,n,J5=>by
  unfold qh1;split
  .rw[dP r (n+1) ((x,n)::J5),dP r (n+1) [(x,n)],qj5];rfl
  .exact dP r n J5
theorem dG{α:Type}:∀{l m:η (Str×α)},(l++m).lookup x=(l.lookup x).or (m.lookup x)
 |[],m=>by simp
 |(k,v)::l,m=>by
  rw[zc4,qg6,qg6];cases x==k with
  |true=>rfl
  |false=>exact dG
variable{n:Str}{Q:Unit->qa5->Prop}{c:J9}
section
variable{M:Model}{A:qe0}{E:Vz->qa5->Prop}{s₀ s:qa5}{m cm:Str->ζ Vz}{env:Env}{cs:η (Str×J9)}
def stLX{v:Vz}(x:ze4 s₀ env.locals m cs cm s)(hk:env.scope.kind=.function)(W:env.kindOf n=ς .local)
 (h:∀s',ze4 s₀ env.locals (fun y=>if y=n then ς v else m y) cs cm s'->Q () s'):wpAny M A (zd8 env n v) Q E s:=by
 refine zd9 W x.toInCall.ns (fun h' L q=>h _ ⟨⟨?_,L,fun b o e=>?_,x.toInCall.fresh⟩,fun k c U=>?_,x.apart,x.above⟩) (by rw[hk];rfl)
 .obtain⟨O,tk,rfl⟩:=x.toInCall.same;exact⟨h',_,rfl⟩
 .exact q.extBut b o (qc4 (qc2 (qb0 e) x.toInCall.fresh)) (x.toInCall.keep b o e)
 .exact(x.cell k c U).sameBut q (ql9 (x.above k c (PySem.mem_of_lookup U)))
def stCX{v:Vz}(x:ze4 s₀ env.locals m cs cm s)(hk:env.scope.kind=.function)(hl:env.kindOf n=ς .cell)
 (W:cs.lookup n=ς c) (Z:env.cells.lookup n=ς c)
 (h:∀s',ze4 s₀ env.locals m cs (fun y=>if y=n then ς v else cm y) s'->Q () s'):wpAny M A (zd8 env n v) Q E s:=by
 have U:=x.above n c (PySem.mem_of_lookup W);refine wpAny_storeName_cell hk hl Z (x.cell n c W) fun h' Y O=>h _ ⟨⟨?_,x.toInCall.ns.sameBut O (qc4 U),fun b o e=>?_,x.toInCall.fresh⟩,fun k c' q=>?_,x.apart,x.above⟩
 .obtain⟨h₁,tk,rfl⟩:=x.toInCall.same;exact⟨h',_,rfl⟩
 .exact O.extBut b o (qc4 (qy4 (qc2 (qb0 e) x.toInCall.fresh) U)) (x.toInCall.keep b o e)
 .by_cases L:k=n
  .subst L;rw[W]at q;cases q
   simpa using Y
  .rw[if_neg L];exact(x.cell k c' q).sameBut O fun e=>L (zj3 x.apart (PySem.mem_of_lookup q) (e▸PySem.mem_of_lookup W))
theorem gO (f:Str×Vz->PUnit->Sem (ForInStep PUnit)) (hf:∀ n v u,f (n,v) u=(do zd8 env n v;pure (.yield ⟨⟩))) (hk:env.scope.kind=.function) (U:∀ n c,cs.lookup n=ς c->env.cells.lookup n=ς c) :
  ∀(binds:η (Str×Vz))(m cm:Str->ζ Vz)(s:qa5)(Q:PUnit->qa5->Prop),ze4 s₀ env.locals m cs cm s→
   (∀x∈binds,env.kindOf x.1=ς .local∨(env.kindOf x.1=ς .cell/\(cs.lookup x.1).isSome=θ))→
   (∀s',ze4 s₀ env.locals (bindL env.kindOf binds m) cs (bindC env.kindOf binds cm) s'->Q ⟨⟩ s')->wpAny M A (forIn binds ⟨⟩ f) Q E s
 |[],m,cm,s,Q,x,_,h=>by rw[List.forIn_nil];exact qa2 (h s x)
 |(n,v)::r,m,cm,s,Q,x,q,h=>by
  rw[List.forIn_cons,hf];have hr:∀y∈r,env.kindOf y.1=ς .local∨(env.kindOf y.1=ς .cell/\(cs.lookup y.1).isSome=θ):=fun y hy=>q y (qd5 _ hy)
  rcases q (n,v) qe7 with W|⟨W,Z⟩
  .refine wB (wB (stLX x hk W fun s' x'=>qa2 (gO f hf hk U r _ _ s' Q x' hr fun L O=>h L ?_)));unfold bindL bindC;rw[if_pos W,if_pos W];exact O
  .obtain⟨c,Z⟩:=qs0.mp Z;have Y:¬ env.kindOf n=ς .local:=by rw[W];decide
   refine wB (wB (stCX x hk W Z (U n c Z) fun s' x'=>qa2 (gO f hf hk U r _ _ s' Q x' hr fun L O=>h L ?_)));unfold bindL bindC;rw[if_neg Y,if_neg Y];exact O
end
variable{E:Vz->qa5->Prop}{s:qa5}{scope:Jd}
def zD{M:Model}{L:J9}{cl:η (Str×J9)}{binds:η (Str×Vz)}{O:ζ J9}{code:Vz}{q:J9}{Q:Env->qa5->Prop}
 (hk:scope.kind=.function)
 (U:∀x∈binds,scope.names.lookup x.1=ς .local∨(scope.names.lookup x.1=ς .cell/\((qh1 (s.heap.objs.size+1) scope.names []).lookup x.1).isSome=θ))
 (hQ:∀env,env=newEnv scope s.heap.objs.size L (qh1 (s.heap.objs.size+1) scope.names []++cl) qual O code ψ q→
 ∀s',ze4 s env.locals (bindL env.kindOf binds fun _=>ψ) (qh1 (s.heap.objs.size+1) scope.names []) (bindC env.kindOf binds fun _=>ψ) s'->Q env s') :
  wpAny M A (newFunctionEnv scope L cl binds qual O code ψ q) Q E s:=by
 simp only[newFunctionEnv,Option.isSome_none,qf4,if_false];refine wB (wpAny_alloc ?_);refine qh3 (wpAny_layCells _ (fun name W cells=>by cases Y:W==qp0.cell<;>simp[Y]) _ _ _ _ ?_);have ok:=cellsFrom_ok scope.names (s.heap.push {cls:=.type "frame",data:=.dict #[]}) (s.heap.objs.size+1) [] ⟨fun _ _ Z=>(nomatch Z),qq1⟩ (by rw[qg1];exact nL _);rw[qg1]at ok;rw[show({s with heap:=s.heap.push {cls:=.type "frame",data:=.dict #[]}}:qa5).heap.objs.size=s.heap.objs.size+1 from qg1 ..,dP]
 refine wB (gO (s₀:=s) (cs:=qh1 (s.heap.objs.size+1) scope.names []) (env:=newEnv scope s.heap.objs.size L (qh1 (s.heap.objs.size+1) scope.names []++cl) qual O code ψ q)
  _ (fun _ _ _=>rfl) hk (fun n c h=>by show(qh1 (s.heap.objs.size+1) scope.names []++cl).lookup n=ς c;rw[dG,h];rfl) binds (fun _=>ψ) (fun _=>ψ) _ _
  ⟨⟨⟨_,_,rfl⟩,(Heap.Ns.new s.heap (.type "frame")).keeps (pushCells_keeps _ _),fun b o e=>pushCells_keeps _ _ b o (gP _ e),nL _⟩,fun n c hc=>(ok.empty n c (PySem.mem_of_lookup hc)).1,ok.apart,fun n c Z=>(ok.empty n c Z).2⟩
  U fun s' x=>qa2 (hQ _ rfl s' x))
noncomputable def fZ(names:η (Str×qp0))(cells:η (Str×J9)):η (Str×J9):=names.foldl (fun cs q=>if q.2==qe3 then(q.1,(cells.lookup q.1).getD 0)::cs else cs) []
variable{cells:η (Str×J9)}{env:Env}
theorem sw (W:env.cells=cells):∀ (names:η (Str×qp0)) (J5:η (Str×J9)),(∀ x∈names,x.2=.free->∃ c,cells.lookup x.1=ς c)→
  (forIn names J5 (fun(x:Str×qp0)(r:η (Str×J9))=>if(x.2==qe3)=θ then(do let c <- cellOf env x.1;pure (qp4 ((x.1,c)::r)))else(pure (qp4 r):Sem _)))
   = (pure (names.foldl (fun cs O=>if O.2==qe3 then(O.1,(cells.lookup O.1).getD 0)::cs else cs) J5):Sem (η (Str×J9)))
 |[],J5,_=>rfl
 |x::r,J5,h=>by
  have U:=fun J5=>sw W r J5 fun y Y=>h y (qd5 _ Y)
  simp only[List.forIn_cons,qh6];cases e:(x.2==qe3)with
  |false=>simp only[qf4,if_false];exact U J5
  |true=>
   obtain⟨c,L⟩:=h x qe7 (by simpa using e);have q:cellOf env x.1=pure c:=by unfold cellOf;rw[W,L]
   simp only[if_true,q,L,Option.getD_some];exact U _
def iA{env:Env}(h:∀x∈scope.names,x.2=.free->∃c,env.cells.lookup x.1=ς c):zg0 scope env=pure (fZ scope.names env.cells):=by have:=sw (env:=env) rfl scope.names [] h;unfold zg0 fZ;rw[<- this];simp only[bind_pure]
theorem mB:∀ {names:η (Str×qp0)} {J5:η (Str×J9)} {x:Str} {c:J9},(∀ y∈names,y.2=.free->∃ c,cells.lookup y.1=ς c)→
  (names.foldl (fun cs O=>if O.2==qe3 then(O.1,(cells.lookup O.1).getD 0)::cs else cs) J5).lookup x=ς c->(∀c,J5.lookup x=ς c->cells.lookup x=ς c)->cells.lookup x=ς c
 |[],J5,x,c,_,h,q=>q c h
 |y::r,J5,x,c,U,h,q=>by
  simp only[qh6]at h;refine mB (fun z W=>U z (qd5 _ W)) h ?_;intro c' h';split at h'
  .rename_i Y;obtain⟨c0,e0⟩:=U y qe7 (by simpa using Y);rw[qg6]at h';split at h'
   .rename_i Z;have L:x=y.1:=by simpa using Z
    rw[e0]at h';subst L;rw[e0];simpa using h'
   .exact q c' h'
  .exact q c' h'
variable{names:η (Str×qp0)}
def gT(q:∀y∈names,y.2=.free->∃c,cells.lookup y.1=ς c)(h:(fZ names cells).lookup x=ς c):cells.lookup x=ς c:=mB q h fun c h=>by simp at h
theorem mC:∀ {names:η (Str×qp0)} {J5:η (Str×J9)} {x:Str},((x,qe3)∈names∨(J5.lookup x).isSome)→
  ((names.foldl (fun cs q=>if q.2==qe3 then(q.1,(cells.lookup q.1).getD 0)::cs else cs) J5).lookup x).isSome
 |[],J5,x,h=>by simpa using h
 |y::r,J5,x,h=>by
  simp only[qh6];refine mC ?_;rcases h with h|h
  .rcases qa8.mp h with e|h
   .subst e;right;simp[qg6]
   .exact .inl h
  .right;split
   .rw[qg6];split
    .rfl
    .exact h
   .exact h
def o6(h:(x,qe3)∈names):∃c,(fZ names cells).lookup x=ς c:=qs0.mp (mC (.inl h))
structure CmpScope(N:List Str)(outer scope:Jd)(M:List Str)(src:List (Option Nat)):Prop where
 kind:scope.kind=.function
 nocell:∀y∈scope.names,y.2≠.cell
 free:∀y∈scope.names,y.2=.free->outer.names.lookup y.1=ς .cell∨outer.names.lookup y.1=ς .free
 names:∀y∈scope.names,y.2=.local->scope.names.lookup y.1=ς .local
 lf:∀y∈scope.names,y.2=.free->scope.names.lookup y.1=ς .free
 len:M.length=src.length
 nd:M.Nodup
 src:∀p∈M.zip src,∀j∈p.2,N[j]?=ς p.1/\(p.1,qe3)∈scope.names
noncomputable def stC(src:η (ζ Nat))(σ:St):St:=src.map fun o=>o.bind fun j=>(σ[j]?).join
def cxC(X:Cx)(M:η Str)(scope:Jd)(C:J9)(s:qa5)(H:Hp)(ex:η J9):Cx:={X with N:=M,s₀:=s,H₀:=H,env:=compEnvC scope (fZ scope.names X.env.cells) C X.env,outer:=X.stack,ex:=ex,fn:=fun _=>ξ,pn:=[],xe:=fun _ _=>False}
def PTs(X:Cx)(ifs:η Jc)(t:TT):Prop:=
 ∀(J1:η (J9×Obj))(s:qa5)(σ:St)(H:Hp)(Q:Bool->Hp->Prop),Inv X J1 σ H s->t σ H Q→
  wpAny (model X.prog X.w) X.A (forIn ifs θ fun c r=>if r=θ then do let ok <- isTrue c X.env (eval c X.env);pure (qp4 ok)else pure (qp4 r)) (TP X J1 σ Q) X.xe s
def tYes:TT:=fun _ H Q=>Q θ H
def zE:PTs X [] tYes:=fun J1 s σ H Q I h=>wpAny_tests_nil ⟨H,I,h⟩
def zF{c:Jc}{t:TT}(h:PT X c t):PTs X [c] t:=fun J1 s σ H Q I q=>wpAny_tests_one (h J1 s σ H Q I q)
def Wk(a b:St):Prop:=a.length=b.length/\∀(i:Nat) v,a[i]?=ς (ς v)->b[i]?=ς (ς v)
def o7(src:η (ζ Nat))(wi:TI)(g:TG)(tt:TT)(te:TE):TE:=fun σ H Q=>wi σ H fun J H1=>∀D,H1 D=ψ->∃W:Nat->Nat->Hp->Prop,(∃m,W 0 m (upd H1 D (.e [])))/\∀i m H,W i m H→
 (J.stop i H/\Q (.ref D) H)∨(J.go i H/\∃N:Hp->Prop,(∀H',N H'->∃L,L<m/\W (i+1) L H')/\∀x H',J.yld i H x H'→
  g x (stC src σ) H' fun q H2=>Wk (stC src σ) q/\tt q H2 fun b U=>if b=θ then te q U fun v O=>∃ys,O D=ς (.e ys)/\ys.length<qb2/\N (upd O D (.e (ys++[v])))else N U)
variable{w:Ja}{pos:Pos}
def iR{prog:qd1}{R:Result->qa5->Prop}{elt q iter:Jc}{ifs:η Jc}{it J5:Vz}(I:Nat->qa5->Prop)
 (Z:∀n s,I n s->wpAny (model prog w) A (qy0 it) (fun r O=>match r with
 |none=>R (.ok .next) O
 |some v=>wpAny (model prog w) A (qw6 q it v) (fun _ L=>wpAny (model prog w) A (ze1 q env v) (fun _ U=>
 wpAny (model prog w) A (forIn ifs θ fun c r=>if r=θ then do let ok <- isTrue c env (eval c env);pure (qp4 ok)else pure (qp4 r)) (fun ok s₃ =>
 if ok=θ then wpAny (model prog w) A (eval elt env) (fun x s₄ =>
 wpAny (model prog w) A (call (.builtin "list.append") [J5,x]) (fun _ s₅=>∃m,m<n/\I m s₅) (fun _ _=>False) s₄) (fun _ _=>False) s₃
 else ∃m,m<n/\I m s₃) (fun _ _=>False) U) (fun _ _=>False) L) (fun _ _=>False) O) (fun _ _=>False) s)
 (n:Nat) (h:I n s) :
  qq6 (model prog w) A (.compLoop (.ListComp elt [⟨q,iter,ifs,0⟩] scope pos) 0 it J5 env) R s:=by
 refine codeAny_loop rfl I (fun n s hI=>?_) n h;show wpAny _ A ((compTurn (.ListComp elt [⟨q,iter,ifs,0⟩] scope pos) 0 it J5 env).onRaise (fun x=>do noteFrame x env;theTreesLotGoes x)) _ _ s;refine wpAny_noted ?_;rw[compTurn_list];refine wB (zh8 (wB (qk9 (Z n s hI) (fun r O W=>?_) fun _ _ h'=>h'.elim)));cases r with
 |none=>exact qa2 W
 |some v=>
  refine wB (qk9 W (fun _ L Y=>?_) fun _ _ h'=>h'.elim);refine wB (qk9 Y (fun _ U h₂=>wB (qk9 h₂ (fun ok s₃ h₃=>?_) fun _ _ h'=>h'.elim)) fun _ _ h'=>h'.elim);cases ok with
  |false=>exact qa2 ⟨rfl,h₃⟩
  |true=>exact wB (wB (qk9 h₃ (fun x s₄ h₄=>wB (qk9 h₄ (fun _ s₅ h₅=>qa2 (qa2 ⟨rfl,h₅⟩)) fun _ _ h'=>h'.elim)) fun _ _ h'=>h'.elim))
variable{σ:St}
section
variable{X:Cx}{elt tg iter:Jc}{ifs:η Jc}{scope:Jd}{pos:Pos}{M:η Str}{src:η (ζ Nat)}{wi:TI}{g:TG}{tt:TT}{te:TE}
def nM(Y:∀y∈scope.names,y.2≠.cell)(h:(relabel scope env).names.lookup x=ς .cell∨(relabel scope env).names.lookup x=ς .free):(x,qe3)∈scope.names:=by
 have q:∀k,(relabel scope env).names.lookup x=ς k->(k=.cell∨k=.free)->(x,qe3)∈scope.names:=by
  intro k hk L;have W:=PySem.mem_of_lookup hk;unfold relabel at W;obtain⟨⟨n,Z⟩,O,e⟩:=qb8.mp W;dsimp only at e;split at e
  .rename_i U;simp only[qb3]at U;have:Z=.free:=by simpa using U.1.1
   subst this;cases e;exact O
  .cases e;rcases L with z|z
   .subst z;exact absurd rfl (Y _ O)
   .subst z;exact O
 rcases h with h|h
 .exact q _ h (.inl rfl)
 .exact q _ h (.inr rfl)
def o8{J1:η (J9×Obj)}{s1:qa5}{fp:η J9}{m1:Str->ζ Vz}(S:CmpScope X.N X.env.scope scope M src)(I:Inv X J1 σ H s)(hf:∀b∈fp,iq X J1 H b)
 (hfl:∀b∈fp,b<s.heap.objs.size) (hn:s1.heap.Ns s.heap.objs.size m1) (hk:∀b o,s.heap.get? b=ς o->s1.heap.get? b=ς o) (hos:s1.os=s.os) (hg:s1.gens=s.gens) :
  Inv (cxC X M scope s.heap.objs.size s H fp) [] (stC src σ) H s1:=by
 have Y:∀x∈scope.names,x.2=.free->∃c,X.env.cells.lookup x.1=ς c:=fun x Z L=>I.ok.has x.1 (S.free x Z L)
 have sub:∀x c,(fZ scope.names X.env.cells).lookup x=ς c->X.env.cells.lookup x=ς c:=fun x c h=>gT Y h
 have U:∀c v,s.heap.IsCell c v->s1.heap.IsCell c v:=fun c v ⟨o,ho,hd⟩=>⟨o,hk c o ho,hd⟩
 refine⟨⟨I.ok.mod,S.kind,I.ok.glob,I.ok.blt,nL _,fun y z c h1 h2=>I.ok.inj y z c (sub _ _ h1) (sub _ _ h2),fun x Z=>o6 (nM S.nocell Z),fun x c h=>(nomatch h),I.ok.hd,I.ok.frames,.inl rfl,
  fun b W=>⟨qc4 (hfl b W),fun x c h=>(hf b W).2.2.2.2.1 x c (sub _ _ h)⟩,I.bs,qb9 I.ok.bsz I.sz,fun b o e W=>?_,fun b W z=>?_,I.stack,I.stkFree,fun p hp=>I.base.cts _ _ (I.ok.tb p hp)⟩,
  hos,(by rw[hg];exact I.bare),Un.kept hk,⟨m1,hn,fun i x v h1 h2 h3=>?_⟩,fun x c h=>?_,I.hok.fresh (qp1 _),fun x c h=>I.freeC x c (sub _ _ h),fun p hp=>absurd hp (by simp[cxC]),I.hok.kept hk,?_⟩
 .rcases(hf b W).2.2.2.1 with z|z
  .exact I.ok.noex b o e z
  .exact absurd (qc2 (qb0 e) (qb9 I.ok.bsz z)) (ql8 _)
 .rcases qa8.mp (I.stkSub b z)with q|q
  .exact(hf b W).2.1 q
  .exact(hf b W).2.2.1 q
 . -- a name taken over
   have h1:M[i]?=ς x:=h1;unfold stC at h2;rw[qb1]at h2;cases hs:src[i]? with
   |none=>rw[hs]at h2;cases h2
   |some o=>
    rw[hs]at h2;simp only[qm8,qt3]at h2;cases o with
    |none=>cases h2
    |some j=>
     simp only[qa3]at h2
     have hmem:(x,ς j)∈M.zip src:=by
      have:(M.zip src)[i]?=ς (x,ς j):=by rw[qr0];exact⟨h1,hs⟩
      exact qc8 this
     obtain⟨hN,L⟩:=S.src _ hmem j rfl
     have hσ:σ[j]?=ς (ς v):=by
      cases e:σ[j]? with
      |none=>rw[e]at h2;cases h2
      |some o=>rw[e]at h2;simp only[qr2]at h2;rw[h2]
     have O:=S.free _ L rfl;obtain⟨m,hm,hl⟩:=I.loc;obtain⟨u,r,l⟩:=hl j x v hN hσ (.inr O);refine⟨u,r,?_⟩
     have hloc:X.env.kindOf x≠ς .local:=by show X.env.scope.names.lookup x≠_;rcases O with q|q<;>rw[q]<;>decide
     rcases l with l|⟨_,c,e,z⟩
     .exact absurd l.1 hloc
     .obtain⟨c',e'⟩:=o6 (cells:=X.env.cells) L;have:=sub _ _ e';rw[e]at this;cases this;refine .inr ⟨?_,c,e',U _ _ z⟩;rcases h3 with q|q
      .exact absurd q (by
        -- a name that is free in the block is not local there
        exact(by
         intro q
         have:scope.names.lookup x=ς .local:=by
          have W:∀(names:η (Str×qp0)),(names.map fun(n,k)=>if(k==qe3&&X.env.scope.kind==.function&&X.env.kindOf n==ς .cell)then(n,qp0.cell)else(n,k)).lookup x=ς .local->names.lookup x=ς .local:=by
           intro names;induction names with
           |nil=>intro h;simp at h
           |cons y r ih=>
            obtain⟨n,k⟩:=y;intro h;simp only[qa6]at h;by_cases Z:x=n
            .subst Z;split at h
             .simp[qg6]at h
             .simpa[qg6] using h
            .have hx':(x==n)=ξ:=by simpa using Z
             split at h
             .simp only[qg6,hx']at h ⊢;exact ih h
             .simp only[qg6,hx']at h ⊢;exact ih h
          exact W _ q
         rw[S.lf _ L rfl]at this;cases this))
      .exact q
 .obtain⟨v,z⟩:=I.cell x c (sub _ _ h);exact⟨v,U _ _ z⟩
 .show(stC src σ).length=M.length;unfold stC;rw[qa1,S.len]
def vX (S:CmpScope X.N X.env.scope scope M src) (hc:X.calm=θ) (hi:PI X tg iter wi) (hg:M.Nodup->∀ C s H ex,PG (cxC X M scope C s H ex) tg g) (ht:∀ C s H ex,PTs (cxC X M scope C s H ex) ifs tt)
  (he:∀C s H ex,PE (cxC X M scope C s H ex) elt te) (hs:∀x,qj3 iter X.env x=pure x:=by intro _;rfl) :
  PE X (.ListComp elt [⟨tg,iter,ifs,0⟩] scope pos) (o7 src wi g tt te):=by
 intro J1 s σ H Q I h;rw[eval_ListComp];have Z:∀x∈scope.names,x.2=.free->∃c,X.env.cells.lookup x.1=ς c:=fun x hx hfr=>I.ok.has x.1 (S.free x hx hfr)
 refine qz7 (use:=ψ) rfl hs (iA Z) S.kind S.names (thn (hi J1 s σ H _ I h) fun v s1 h1=>thn h1 fun itv s2 h2=>?_);obtain⟨it,fp,tn,J,H2,rfl,I2,T,st2,f2,hq⟩:=h2;refine qd4 ?_;have I3:Inv X J1 σ (upd H2 s2.heap.objs.size (.e [])) {s2 with heap:=s2.heap.push {cls:=.type "list",dict:=ψ,data:=.seq ([]:η Vz).toArray},toks:=s2.toks}:=I2.lnew (J8:=[]) (ys:=[]) (t':=s2.toks) .nil Ξ;have hD:H2 s2.heap.objs.size=ψ:=I2.fresh;obtain⟨W,⟨m0,w0⟩,turn⟩:=hq _ hD;generalize hDn:s2.heap.objs.size=D at*
 generalize hs3:({s2 with heap:=s2.heap.push {cls:=.type "list",dict:=ψ,data:=.seq ([]:η Vz).toArray},toks:=s2.toks}:qa5)=U at*
 have f3:∀b∈fp,iq X J1 (upd H2 D (.e [])) b:=fun b L=>⟨by obtain⟨o,e,_⟩:=T.obj _ _ st2 b L;rw[aF (by rw[<- hDn];exact qc4 (qb0 e))];exact(f2 b L).1,(f2 b L).2⟩
 have k23:∀b o,s2.heap.get? b=ς o->U.heap.get? b=ς o:=fun b o e=>by rw[<- hs3];exact gP _ e
 have st3:tn 0 U.heap:=T.keep _ _ _ st2 fun b _ o e=>k23 b o e
 have fl3:∀b∈fp,b<U.heap.objs.size:=fun b L=>by obtain⟨o,e,_⟩:=T.obj _ _ st3 b L;exact qb0 e
 refine wpAny_newFunctionEnv S.nocell (by intro y hy;simp at hy) (fun h₁ hns₁ hsb₁=>?_) S.kind;have k34:∀b o,U.heap.get? b=ς o->h₁.get? b=ς o:=fun b o e=>hsb₁.extBut b o (qc4 (qb0 e)) (gP _ e)
 generalize hs4:({U with heap:=h₁,toks:=U.toks+([]:η (Str×Vz)).length}:qa5)=s4
 have I4:Inv (cxC X M scope U.heap.objs.size U (upd H2 D (.e [])) fp) [] (stC src σ) (upd H2 D (.e [])) s4:=by rw[<- hs4];exact o8 S I3 f3 fl3 hns₁ k34 rfl rfl
 have st4:tn 0 s4.heap:=T.keep _ _ _ st3 fun b _ o e=>by rw[<- hs4];exact k34 b o e
 generalize O:cxC X M scope U.heap.objs.size U (upd H2 D (.e [])) fp=Y at*
 have hg':PG Y tg g:=by rw[<- O];exact hg S.nd _ _ _ _
 have ht':PTs Y ifs tt:=by rw[<- O];exact ht _ _ _ _
 have he':PE Y elt te:=by rw[<- O];exact he _ _ _ _
 have eP:Y.prog=X.prog:=by rw[<- O];rfl
 have eW:Y.w=X.w:=by rw[<- O];rfl
 have eK:Y.K=X.K:=by rw[<- O];rfl
 have eA:Y.A=X.A:=by rw[<- O];rfl
 have ex':Y.xe=fun _ _=>False:=by rw[<- O];rfl
 have ec:Y.calm=θ:=by rw[<- O];exact hc
 have eE:Y.env=compEnvC scope (fZ scope.names X.env.cells) U.heap.objs.size X.env:=by rw[<- O];rfl
 have stat:∀{H':Hp},(∀b∈fp,H' b=ψ)->∀b∈fp,iq Y [] H' b:=fun hn b L=>by
  rw[<- O];refine⟨hn b L,qc4 (fl3 b L),fun z=>?_,.inl L,fun x c h=>(f3 b L).2.2.2.2.1 x c (gT Z h),fun p hp=>absurd hp (by simp[cxC])⟩;rcases qa8.mp (I3.stkSub b z)with q|q
  .exact(f3 b L).2.1 q
  .exact(f3 b L).2.2.1 q
 -- behind the block
 have fin:∀(H':Hp)(s':qa5),Inv Y [] (stC src σ) H' s'->Q (.ref D) H'->zg1 (model X.prog X.w) X.A X.xe ψ (EP X J1 σ Q) (.ref D) U.heap.objs.size (.ok .next) s':=by
  intro H' s' J' q;rw[<- O]at J';obtain⟨m,hn,_⟩:=id J'.loc;refine⟨m,hn,fun h' sb=>⟨.ref D,H',?_,rfl,q⟩⟩;have hC:H' U.heap.objs.size=ψ:=J'.free;have un:Un (frs X.stack) fp (upd H2 D (.e [])) H' U.heap s'.heap:=J'.base;have kC:∀b o,b≠U.heap.objs.size->s'.heap.get? b=ς o->h'.get? b=ς o:=fun b o L e=>sb.extBut b o L e
  have un':Un (frs X.stack) fp (upd H2 D (.e [])) H' U.heap h':=
   ⟨fun b o e n L hx=>kC b o (qc4 (qb0 e)) (un.keep b o e n L hx),
    fun b o e n L hx=>by obtain⟨sl,e'⟩:=un.slot b o e n L hx;exact⟨sl,kC b _ (qc4 (qb0 e)) e'⟩,
    un.free,
    fun b o e hx=>by obtain⟨o',e'⟩:=un.there b o e hx;exact⟨o',kC b _ (qc4 (qb0 e)) e'⟩,un.tups,un.frzs,un.tbls,un.cts⟩
  have hok':HOk X.prog X.w H' h':=fun b u e=>by
   have nb:b≠U.heap.objs.size:=fun z=>by rw[z,hC]at e;cases e
   refine(J'.hok b u e).stay (fun c v hc' q=>kC c v ?_ q) (fun _ q=>q) (fun _ _ q=>q) fun _ _ _ q=>q
   rcases hc' with z|z
   .rw[z];exact nb
   .intro w;rw[w,hC]at z;cases z
  exact I3.call' (s':={s' with heap:=h'}) (show s'.os=U.os from J'.os) un' hok' J'.bare fun b L=>⟨(f3 b L).2.2.2.1,(f3 b L).2.1,(f3 b L).2.2.2.2.1,(f3 b L).2.2.2.2.2⟩
 have loop:∀s4':qa5,s4'=s4->qq6 (model X.prog X.w) X.A (.compLoop (.ListComp elt [⟨tg,iter,ifs,0⟩] scope pos) 0 (.ref it) (.ref D) Y.env) (zg1 (model X.prog X.w) X.A X.xe ψ (EP X J1 σ Q) (.ref D) U.heap.objs.size) s4':=by
  rintro _ rfl;refine iR (fun n s'=>∃i H',Inv Y [] (stC src σ) H' s'/\tn i s'.heap/\(∀b∈fp,H' b=ψ)/\W i n H') ?_ m0 ⟨0,_,I4,st4,fun b L=>(f3 b L).1,w0⟩;rintro n s5 ⟨i,H5,I5,st5,fr5,w5⟩;rcases turn i n H5 w5 with ⟨stop,qn⟩|⟨go,N,hN,step⟩
  .have:=T.done Y eP eW eK ec i [] s5 (stC src σ) H5 (fun _ _=>False) I5 (stat fr5) st5 stop;rw[eA]at this;refine thn this fun r s6 ⟨hr,I6⟩=>?_
   subst hr;exact fin H5 s6 I6 qn
  .have:=T.item Y eP eW eK ec i [] s5 (stC src σ) H5 (fun _ _=>False) I5 (stat fr5) st5 go;rw[eA]at this;refine thn this fun r s6 ⟨u,hr,h6⟩=>?_
   subst hr;refine thn h6 fun _ s7 ⟨x,H7,I7,r7,y7,st7,fr7⟩=>?_
   have I7':=I7.pinned (stat fr7) (T.obj _ _ st7);have a1:=hg' _ s7 (stC src σ) H7 x u _ I7' r7 (step x H7 y7);rw[ex',eP,eW,eA]at a1;refine thn a1 fun _ s8 ⟨σ8,H8,I8,wk8,q8⟩=>?_
   have a2:=ht' _ s8 σ8 H8 _ I8 q8;rw[ex',eP,eW,eA]at a2;refine thn a2 fun ok s9 ⟨H9,I9,q9⟩=>?_
   have again:∀{H7':Hp}{s':qa5},Inv Y ([]++ju fp s7.heap) σ8 H7' s'->N H7'->∃m,m<n/\∃i H',Inv Y [] (stC src σ) H' s'/\tn i s'.heap/\(∀b∈fp,H' b=ψ)/\W i m H':=fun {H7' s'} J7 n7=>by obtain⟨m',hm,w7⟩:=hN H7' n7;refine⟨m',hm,i+1,H7',J7.unpinned.weak wk8.1 wk8.2,T.keep _ _ _ st7 fun b L o e=>(J7.pin (b,o) (qc7 _ (qc7 _ (dE L e)))).1,fun b L=>?_,w7⟩;obtain⟨o,e,d⟩:=T.obj _ _ st7 b L;exact(J7.pin (b,o) (qc7 _ (qc7 _ (dE L e)))).2.1
   cases ok with
   |false=>exact again I9 q9
   |true=>
    have a3:=he' _ s9 σ8 H9 _ I9 q9;rw[ex',eP,eW,eA]at a3;refine thn a3 fun v s10 ⟨y,H10,I10,r10,ys,hl,hz,q10⟩=>?_
    have a4:=jA (X:=Y) _ s10 σ8 H10 (.ref D) [y] (.ref D) [v] (fun _ H'=>N H') I10 rfl (.cons r10 .nil) ⟨D,ys,y,rfl,rfl,hl,hz,q10⟩;rw[ex',eP,eW,eA]at a4;refine thn a4 fun _ s11 ⟨_,H11,I11,_,q11⟩=>?_
    exact again I11 q11
 have e4:∀c:Env,c=Y.env->qq6 (model X.prog X.w) X.A (.compStart (.ListComp elt [⟨tg,iter,ifs,0⟩] scope pos) 0 (.ref it) (.ref D) c) (zg1 (model X.prog X.w) X.A X.xe ψ (EP X J1 σ Q) (.ref D) U.heap.objs.size) s4:=by rintro _ rfl;exact zd0 (loop _ rfl) (T.self _ _ _ _ _ st4 (loop _ rfl))
 exact e4 _ (by rw[eE];rfl)
end
def Its(x:Str):It:=⟨fun i _=>i<x.cps.size,fun i H v H'=>H'=H/\∃c,x.cps[i]?=ς c/\v=.str ⟨#[c]⟩,fun i _=>i=x.cps.size⟩
variable{P:qd1}{tg:Jc}
def uy(x:Str)(t:Tok)(it:J9):Turn P w K tg (Its x) [it] it (fun i h=>h.IsStrIter it "str_ascii_iterator" x t i) where
 mem:=by simp
 obj:=fun i h st b L=>by
  have e:b=it:=by simpa using L
  subst e;obtain⟨o,e,c,d⟩:=st;exact⟨o,e,fun v z=>by rw[d]at z;cases z⟩
 keep:=fun i h h' st k=>let ⟨o,ho,r⟩:=st;⟨o,k it Ξ o ho,r⟩
 item:=by
  intro X hP Y W hc i J1 s σ H E I U st q;subst hP Y W;obtain⟨f0,f1,f2,f3,Z,f5⟩:=U it Ξ;have q:i<x.cps.size:=q;refine wpAny_pyNext_ascii_item st (c:=x.cps[i]) (by simp[q]) fun h' O sb=>?_
  have I1:Inv X J1 σ H {s with heap:=h',toks:=s.toks+1}:=I.turned (t':=s.toks+1) (fun b o L e=>(sb.2 b L).trans e) f0 f1 f3 Z f5;obtain⟨o,e,c,d⟩:=id O;exact⟨_,rfl,mn (s:={s with heap:=h',toks:=s.toks+1}) e c d Ω ⟨.str ⟨#[x.cps[i]]⟩,H,I1,⟨_,rfl⟩,⟨rfl,x.cps[i],by simp[q],rfl⟩,O,fun b L=>(U b L).1⟩⟩
 done:=by intro X hP Y W hc i J1 s σ H E I U st q;subst hP Y W;have q:i=x.cps.size:=q;obtain⟨f0,f1,f2,f3,Z,f5⟩:=U it Ξ;exact wpAny_pyNext_ascii_end (I.ok.hd hc) st (by simp[q]) fun h' eb=>⟨rfl,I.turned (t':=s.toks) (fun b o L e=>eb b o L e) f0 f1 f3 Z f5⟩
 self:=fun _ _ _ _ _ st h=>wpAny_pyIter_striter_ascii st h
def uz(x:Str)(t:Tok)(it:J9):Turn P w K tg (Its x) [it] it (fun i h=>h.IsStrIter it "str_iterator" x t i) where
 mem:=by simp
 obj:=fun i h st b L=>by
  have e:b=it:=by simpa using L
  subst e;obtain⟨o,e,c,d⟩:=st;exact⟨o,e,fun v z=>by rw[d]at z;cases z⟩
 keep:=fun i h h' st k=>let ⟨o,ho,r⟩:=st;⟨o,k it Ξ o ho,r⟩
 item:=by
  intro X hP Y W hc i J1 s σ H E I U st q;subst hP Y W;obtain⟨f0,f1,f2,f3,Z,f5⟩:=U it Ξ;have q:i<x.cps.size:=q;refine wpAny_pyNext_wide_item st (c:=x.cps[i]) (by simp[q]) fun h' O sb=>?_
  have I1:Inv X J1 σ H {s with heap:=h',toks:=s.toks+1}:=I.turned (t':=s.toks+1) (fun b o L e=>(sb.2 b L).trans e) f0 f1 f3 Z f5;obtain⟨o,e,c,d⟩:=id O;exact⟨_,rfl,mn (s:={s with heap:=h',toks:=s.toks+1}) e c d Ω ⟨.str ⟨#[x.cps[i]]⟩,H,I1,⟨_,rfl⟩,⟨rfl,x.cps[i],by simp[q],rfl⟩,O,fun b L=>(U b L).1⟩⟩
 done:=by intro X hP Y W hc i J1 s σ H E I U st q;subst hP Y W;have q:i=x.cps.size:=q;obtain⟨f0,f1,f2,f3,Z,f5⟩:=U it Ξ;exact wpAny_pyNext_wide_end (I.ok.hd hc) st (by simp[q]) fun h' eb=>⟨rfl,I.turned (t':=s.toks) (fun b o L e=>eb b o L e) f0 f1 f3 Z f5⟩
 self:=fun _ _ _ _ _ st h=>wpAny_pyIter_striter_wide st h
section
variable{X:Cx}{tg:Jc}
def iStr(tl:TE):TI:=fun σ H R=>tl σ H fun v H1=>∃x,v=.str x/\R (Its x) H1
def vY{l:Jc}{tl:TE}(W:PE X l tl):PI X tg l (iStr tl):=by
 intro J1 s σ H R I h;refine thn (W J1 s σ H _ I h) fun v s1 ⟨y,H1,L,Y,q1⟩=>?_
 obtain⟨x,e,q⟩:=q1;subst e;obtain⟨t,rfl⟩:=Y
 have fin:∀b∈[s1.heap.objs.size],iq X J1 H1 b:=fun b U=>by
  have e:b=s1.heap.objs.size:=by simpa using U
  subst e;exact L.fpOk (nL _) (L.hok.fresh (nL _))
 cases O:x.cps.all (· < 128)
 .refine wpAny_pyIter_wide O ?_;exact⟨s1.heap.objs.size,[s1.heap.objs.size],_,_,H1,rfl,L.kept (t':=s1.toks) fun b o e=>gP _ e,uz x t _,⟨_,qa9 _ rfl,rfl,rfl⟩,fin,q⟩
 .refine wpAny_pyIter_ascii O ?_;exact⟨s1.heap.objs.size,[s1.heap.objs.size],_,_,H1,rfl,L.kept (t':=s1.toks) fun b o e=>gP _ e,uy x t _,⟨_,qa9 _ rfl,rfl,rfl⟩,fin,q⟩
theorem iB:∀{bs:η Bool}{us:η Vz},Vals (bs.map V.bl) us->us=bs.map qr7
 |[],_,.nil=>rfl
 |b::r,_,.cons h t=>by have h:_=qr7 b:=h;rw[h,iB t];rfl
def mD{bs:η Bool}:(qd0 bs.length).map (fun i=>bs.getD i ξ)=bs:=by
 apply qv2
 .simp
 .intro i h1 h2;simp at h1;simp[h1]
def o9(hc:X.calm=θ):du X (.builtin "all") (fun xs H Q=>∃(a:J9)(bs:η Bool),xs=[.ref a]/\SqL X.K H a (bs.map V.bl)/\Q (.bl (bs.all id)) H):=by
 intro J1 s σ H xs us Q I r h;obtain⟨a,bs,rfl,hq,q⟩:=h;obtain⟨u,rfl,ru⟩:=gJ r;cases ru;obtain⟨J8,rv,p,hz⟩:=I.list hq;have Z:=iB rv;subst Z
 have U:a≠s.heap.objs.size:=by obtain⟨o,n,e,_⟩:=p;exact qc4 (qb0 e)
 refine call_all_walk (qt4 p.isList ⟨s.heap.objs.size,_,_,_,_,_,fun i=>bs.getD i ξ,rfl,Walks.list (A:=X.A.in1) (I.ok.hd hc) _ a U (bs.map qr7).toArray,⟨⟨_,qa9 _ rfl,rfl,rfl⟩,?_⟩,?_,?_⟩)
 .obtain⟨o,W,Y⟩:=p.isList;exact⟨o,gP _ W,Y⟩
 .intro i v s' Q' E' L O;rw[ze7,qb1]at L;cases e:bs[i]? with
  |none=>rw[e]at L;cases L
  |some b=>rw[e]at L;cases L;refine qi0 ?_;dsimp only at O;rw[qb5,e]at O;exact O
 .intro h' tk hk;refine⟨.bl _,H,I.kept (h':=h') (t':=tk) fun b o e=>hk b o (fun z=>?_) (gP _ e),rfl,?_⟩
  .have z:b=s.heap.objs.size:=by simpa using z
   subst z;exact absurd (qb0 e) (ql8 _)
  .have e:(qd0 (bs.map qr7).toArray.size).all (fun i=>bs.getD i ξ)=bs.all id:=by
    conv=>rhs;rw[<- mD (bs:=bs)]
    rw[List.all_map];simp
   rw[e];exact q
def pb(hc:X.calm=θ):du X (.builtin "any") (fun xs H Q=>∃(a:J9)(bs:η Bool),xs=[.ref a]/\SqL X.K H a (bs.map V.bl)/\Q (.bl (bs.any id)) H):=by
 intro J1 s σ H xs us Q I r h;obtain⟨a,bs,rfl,hq,q⟩:=h;obtain⟨u,rfl,ru⟩:=gJ r;cases ru;obtain⟨J8,rv,p,hz⟩:=I.list hq;have Z:=iB rv;subst Z
 have U:a≠s.heap.objs.size:=by obtain⟨o,n,e,_⟩:=p;exact qc4 (qb0 e)
 refine call_any_walk (qt4 p.isList ⟨s.heap.objs.size,_,_,_,_,_,fun i=>bs.getD i ξ,rfl,Walks.list (A:=X.A.in1) (I.ok.hd hc) _ a U (bs.map qr7).toArray,⟨⟨_,qa9 _ rfl,rfl,rfl⟩,?_⟩,?_,?_⟩)
 .obtain⟨o,W,Y⟩:=p.isList;exact⟨o,gP _ W,Y⟩
 .intro i v s' Q' E' L O;rw[ze7,qb1]at L;cases e:bs[i]? with
  |none=>rw[e]at L;cases L
  |some b=>rw[e]at L;cases L;refine qi0 ?_;dsimp only at O;rw[qb5,e]at O;exact O
 .intro h' tk hk;refine⟨.bl _,H,I.kept (h':=h') (t':=tk) fun b o e=>hk b o (fun z=>?_) (gP _ e),rfl,?_⟩
  .have z:b=s.heap.objs.size:=by simpa using z
   subst z;exact absurd (qb0 e) (ql8 _)
  .have e:(qd0 (bs.map qr7).toArray.size).any (fun i=>bs.getD i ξ)=bs.any id:=by
    conv=>rhs;rw[<- mD (bs:=bs)]
    rw[List.any_map];simp
   rw[e];exact q
def sx{v:Vz}{o:ζ Int}(h:zg5 v o):∃p:ζ (Int×Tok),v=partValue p/\o=p.map (·.1):=by
 cases o with
 |none=>exact⟨ψ,by cases h<;>rfl,rfl⟩
 |some i=>cases h;exact⟨ς (i,_),rfl,rfl⟩
def rSlS:V->ζ Int->ζ Int->Hp->VK->Prop:=fun x lo hi H Q=>∃z,x=.str z/\z.length<=qb2/\Q (.str (Txt.slice z lo hi)) H
theorem CJ:SlR X rSlS:=by intro J1 s σ H x v vl vu lo hi sl Q I Y U L O h;obtain⟨z,rfl,W,q⟩:=h;obtain⟨t,rfl⟩:=Y;obtain⟨l,rfl,rfl⟩:=sx L;obtain⟨u,rfl,rfl⟩:=sx O;refine⟨"str",_,F.slot_str_getitem.lookup,typeIs_str _ _ _,?_⟩;exact wpAny_getItem_str_slice (l:=l) (u:=u) (st:=ψ) U rfl (post_val_or_str ⟨qb9 (Txt.slice_le z _ _) W,fun t' k=>⟨.str _,H,I.tok _,⟨_,rfl⟩,q⟩⟩)
end
def CK:qd7 "len"=ς (.builtin "len"):=by first|exact PySem.boot_len|exact PyProof.Rows.boot_len|decide +kernel
def vZ:qd7 "all"=ς (.builtin "all"):=by first|exact PySem.boot_all|exact PyProof.Rows.boot_all|decide +kernel
def v0:qd7 "any"=ς (.builtin "any"):=by first|exact PySem.boot_any|exact PyProof.Rows.boot_any|decide +kernel
def l8:qd7 "isinstance"=ς (.builtin "isinstance"):=by first|exact PySem.boot_isinstance|exact PyProof.Rows.boot_isinstance|decide +kernel
def v6:qd7 "int"=ς (.type "int"):=by first|exact PySem.boot_int|exact PyProof.Rows.boot_int|decide +kernel
def CL:qd7 "str"=ς (.type "str"):=by first|exact PySem.boot_str|exact PyProof.Rows.boot_str|decide +kernel
def zG:qd7 "bool"=ς (.type "bool"):=by first|exact PySem.boot_bool|exact PyProof.Rows.boot_bool|decide +kernel
def eZ:qd7 "tuple"=ς (.type "tuple"):=by first|exact PySem.boot_tuple|exact PyProof.Rows.boot_tuple|decide +kernel
def nN:qd7 "list"=ς (.type "list"):=by first|exact PySem.boot_list|exact PyProof.Rows.boot_list|decide +kernel
def nO:qd7 "enumerate"=ς (.type "enumerate"):=by first|exact PySem.boot_enumerate|exact PyProof.Rows.boot_enumerate|decide +kernel
structure OkF(P:qd1)(w:Ja)(K:xA9)(mg:Str->Option Vz)(base:Heap)(x:Str)(k:Nat)(ps:List Str)(sp:Sp):Prop where
 ex:∃f fd,mg x=ς (.ref f)/\xF9 K (.ref f)=θ/\Binds K fd ps []/\FnOk P w K mg base CX0 k f fd ps sp
structure DefF(K:xA9)(mg:Str->Option Vz)(x:Str)(st:Jb)(ps:List Str):Prop where
 ex:∃f fd,mg x=ς (.ref f)/\xF9 K (.ref f)=θ/\Binds K fd ps []/\Fun K x x st f fd
section
variable{P:qd1}{w:Ja}{K:xA9}{mg:Str->ζ Vz}{base:Heap}
def DefF.ok{k:Nat}(F:DefF K mg x st ps)(S:FnScope N ps (ac st))(len:∀vs H Q E,sp vs H Q E->vs.length=ps.length)
 (q:∀(f:J9)(cdv:Vz)(A:qe0)(outer:η Env)(s:qa5)(H:Hp)(vs:η V)(Q:VK)(E:XK),Room k (A.deeper (qz4 x (ac st) s.heap.objs.size f cdv))->sp vs H Q E→
 ∃t,PSs (kO CX0 P w K mg base N x (ac st) f cdv A outer s H E).nox (bc st) t/\t {nx:=fun _ H'=>Q .non H',rt:=Q} (start N vs) H):OkF P w K mg base x (k+1) ps sp:=by
 obtain⟨f,fd,h1,h2,h3,L⟩:=F.ex;exact⟨f,fd,h1,h2,h3,L.ok S len (q f)⟩
def DefF.mk'{kV ct:Vz}{h:Heap}(X:K.In h)(G:h.Ns qc3 mg)
 (a:xB9 K qc3 x=ς (ς (.ref f)))
 (l:K.lookup f=ς ⟨oc,od,.func (xC9 x x (ck st) (bc st) (ac st) .none kV doc pm an cdv ct),osl⟩) (c:xH9 K cdv x=θ) (k:xF9 K (.ref f)=θ)
 (q:∀(kV doc pm:Vz)(an:ζ J9)(cdv ct:Vz)(us:η Vz),us.length=ps.length->zi1 (xC9 x x (ck st) (bc st) (ac st) .none kV doc pm an cdv ct) ⟨us,[]⟩=pure (ps.zip us)):DefF K mg x st ps:=
 ⟨f,_,xI9 X G a,k,(nJ l c k).binds q,nJ l c k⟩
end
section
variable{X:Cx}{k:Nat}{ps:η Str}{sp:Sp}{x:Str}{p pos:Pos}{e:Jc}{es:η Jc}{t:TA}
def v7 (F:OkF X.prog X.w X.K X.mg X.base x k ps sp) (Z:Room k X.A) (O:Gl X x) (U:PA X (e::es) t) (q:(x==("__debug__":Str))=ξ:=by decide)
  (W:qa7 (e::es) X.env=(ξ,eval e X.env)::qa7 es X.env:=by rfl) (L:(qj6 pos (qa7 es X.env)).any (·.1)=ξ:=by rfl):PE X (.Call (.Name x p) (e::es) [] pos) (vO sp [] E0 t):=by
 obtain⟨f,fd,h1,h2,h3,Y⟩:=F.ex;exact zq Y Z O h1 h2 h3 .nil EY U q W L
end
noncomputable def v8(N:η Str)(outer scope:Jd)(M:η Str)(src:η (ζ Nat)):Bool:=
 (match scope.kind with|.function=>θ|_=>ξ)&&
 scope.names.all (fun y=>decide (y.2≠.cell))&&
 scope.names.all (fun y=>!decide (y.2=.free)||(decide (outer.names.lookup y.1=ς .cell)||decide (outer.names.lookup y.1=ς .free)))&&
 scope.names.all (fun y=>!decide (y.2=.local)||decide (scope.names.lookup y.1=ς .local))&&
 scope.names.all (fun y=>!decide (y.2=.free)||decide (scope.names.lookup y.1=ς .free))&&
 decide (M.length=src.length)&&decide M.Nodup&&
 (M.zip src).all (fun p=>match p.2 with|none=>θ|some j=>decide (N[j]?=ς p.1)&&decide ((p.1,qe3)∈scope.names))
variable{src:η (ζ Nat)}
def CmpScope.of{outer:Jd}{M:η Str}(h:v8 N outer scope M src=θ):CmpScope N outer scope M src:=by
 unfold v8 at h;simp only[qb3,qk1,qi8,qi1,decide_eq_true_eq,decide_eq_false_iff_not]at h;obtain⟨⟨⟨⟨⟨⟨⟨h1,h2⟩,h3⟩,W⟩,Y⟩,Z⟩,U⟩,O⟩:=h;refine⟨?_,h2,fun y q e=>(h3 y q).resolve_left fun z=>z e,fun y q e=>(W y q).resolve_left fun z=>z e,fun y q e=>(Y y q).resolve_left fun z=>z e,Z,U,fun p hp j L=>?_⟩
 .revert h1;cases scope.kind<;>simp
 .have:=O p hp;cases e:p.2 with
  |none=>rw[e]at L;cases L
  |some j'=>rw[e]at L this;cases L;simpa using this
def Plain(J:It)(xs:η V)(ok:Hp->Prop):Prop:=∀i H,ok H->(i<xs.length->J.go i H)/\(i=xs.length->J.stop i H)/\∀x H',i<xs.length->J.yld i H x H'->H'=H/\xs[i]?=ς x
def plain_list:Plain (Itl K a) xs (fun H=>SqL K H a xs):=fun i H h=>⟨fun hi=>⟨xs,xs[i],h,by simp[hi]⟩,fun e=>⟨xs,h,Θ⟩,fun x H' _ y=>⟨y.1,y.2 xs h⟩⟩
def plain_tup:Plain (Itt K a) xs (fun H=>SqT K H a xs):=fun i H h=>⟨fun hi=>⟨xs,xs[i],h,by simp[hi]⟩,fun e=>⟨xs,h,Θ⟩,fun x H' _ y=>⟨y.1,y.2 xs h⟩⟩
noncomputable def kS(lo:Int)(n:Nat):η V:=(qd0 n).map fun(i:Nat)=>V.int (lo+i)
def plain_range{lo:Int}{n:Nat}:Plain (Itr lo n) (kS lo n) (fun _=>True):=fun i H h=>by
 refine⟨fun hi=>?_,fun e=>?_,fun x H' hi y=>?_⟩
 .show i<n;simpa[kS] using hi
 .show n<=i;simp[kS]at e;lia
 .obtain⟨e,rfl⟩:=y;refine⟨e,?_⟩;unfold kS at hi ⊢;rw[qa1,qn5]at hi;rw[qb1,List.getElem?_range hi];rfl
def sy(x:Str):η V:=x.cps.toList.map fun c=>V.str ⟨#[c]⟩
def plain_str:Plain (Its x) (sy x) (fun _=>True):=fun i H h=>by
 refine⟨fun hi=>?_,fun e=>?_,fun v H' hi y=>?_⟩
 .show i<x.cps.size;simpa[sy] using hi
 .show i=x.cps.size;simpa[sy] using e
 .obtain⟨e,c,q,rfl⟩:=y;refine⟨e,?_⟩;unfold sy;rw[qb1,qp5,q];rfl
def Bc(src:η (ζ Nat))(g:TG)(tt:TT)(te:TE)(σ:St)(J:It)(H1:Hp)(Q:VK)(D:J9):Prop:=∃W:Nat->Nat->Hp->Prop,(∃m,W 0 m (upd H1 D (.e [])))/\∀i m H,W i m H→
 (J.stop i H/\Q (.ref D) H)∨(J.go i H/\∃N:Hp->Prop,(∀H',N H'->∃L,L<m/\W (i+1) L H')/\∀x H',J.yld i H x H'→
  g x (stC src σ) H' fun q H2=>Wk (stC src σ) q/\tt q H2 fun b U=>if b=θ then te q U fun v O=>∃ys,O D=ς (.e ys)/\ys.length<qb2/\N (upd O D (.e (ys++[v])))else N U)
variable{wi:TI}{g:TG}{te:TE}
def v9{tt:TT}{Q:VK}:o7 src wi g tt te σ H Q=wi σ H fun J H1=>∀D,H1 D=ψ->Bc src g tt te σ J H1 Q D:=rfl
def ForW(g:TG)(tb:TS)(D:Ends)(J:It)(σ:St)(H1:Hp):Prop:=∃W:Nat->Nat->St->Hp->Prop,(∃m,W 0 m σ H1)/\∀i m σ H,W i m σ H→ (J.stop i H/\D.nx σ H)∨(J.go i H/\∃N:St->Hp->Prop,(∀q H',N q H'->∃O,O<m/\W (i+1) O q H')/\∀x H',J.yld i H x H'->g x σ H' fun L H2=>tb {D with nx:=N,ct:=N,bk:=D.nx} L H2)
def zH{tb:TS}{D:Ends}:tFor wi g tb D σ H=wi σ H fun J H1=>ForW g tb D J σ H1:=rfl
variable{v:V}
def wa(O:Gl X x)(q:∃u,X.mg x=ς u/\RelV v u)(L:(x==("__debug__":Str))=ξ:=by decide):PE X (.Name x pos) (tC v):=by obtain⟨u,h1,h2⟩:=q;exact zf O h1 h2 L
noncomputable abbrev iS(qual:Str)(scope:Jd)(L f:J9)(cd:Vz)(cl:η (Str×J9)):Env:=PySem.W.envX qual scope L f cd (qh1 (L+1) scope.names []++cl)
def pd(CX:CXT)(P:qd1)(w:Ja)(K:xA9)(mg:Str->ζ Vz)(base:Heap)(N:η Str)(qual:Str)(scope:Jd)(f:J9)(q:Vz)(cl:η (Str×J9))(A:qe0)(outer:η Env)(s:qa5)(H:Hp)(E:XK)(xe:Vz->qa5->Prop):Cx where
 prog:=P
 w:=w
 K:=K
 mg:=mg
 base:=base
 A:=A.deeper (iS qual scope s.heap.objs.size f q cl)
 N:=N
 s₀:=s
 H₀:=H
 env:=iS qual scope s.heap.objs.size f q cl
 outer:=outer
 stack:=iS qual scope s.heap.objs.size f q cl::outer
 ex:=[]
 calm:=true
 fn:=fun x=>(scope.names.lookup x != ς .free)
 pn:=[]
 xe:=xe
structure ClScope(N ps fr:List Str)(sc:Jd):Prop where
 kind:sc.kind=.function
 co:sc.isCoroutine=ξ
 gen:sc.isGenerator=ξ
 nd:N.Nodup
 pre:N.take ps.length=ps
 post:N.drop (N.length-fr.length)=fr
 room:ps.length+fr.length<=N.length
 par:∀x∈ps,sc.names.lookup x=ς .local∨sc.names.lookup x=ς .cell
 frk:∀x∈fr,sc.names.lookup x=ς .free
 all:∀x,sc.names.lookup x=ς .free->x∈fr
def e7(N:η Str)(vs fs:η V):St:=vs.map ς++(qc1 (N.length-vs.length-fs.length) ψ++fs.map ς)
def gq(c:J9)(o:Obj):HO:=.frz o (.ext fun h=>h.get? c=ς o)
def cX(H:Hp)(cl:η (Str×J9)):Hp:=fun b=>if b∈cl.map (·.2)then ψ else H b
def fK(H:Hp)(cl:η (Str×J9))(H':Hp):Hp:=fun b=>if b∈cl.map (·.2)then H b else H' b
def jB{n:Nat}{sc:Jd}(h:sc.names.lookup x≠ς .cell)(Z:∀y∈sc.names,y.1=x->sc.names.lookup x=ς y.2):(qh1 n sc.names []).lookup x=ψ:=by
 have L:∀(names:η (Str×qp0))(n:Nat)(J5:η (Str×J9)),(∀y∈names,y.1=x->y.2≠.cell)->J5.lookup x=ψ->(qh1 n names J5).lookup x=ψ:=fun names=>by
  induction names with
  |nil=>intro n J5 _ h;exact h
  |cons y r W=>
   intro n J5 q U;obtain⟨a,k⟩:=y;unfold qh1;split
   .rename_i hk;refine W _ _ (fun z O=>q z (.tail _ O)) ?_;rw[qg6];cases Y:x==a with
    |false=>exact U
    |true=>exact absurd (by simpa using hk) (q (a,k) (.head _) (beq_iff_eq.mp Y).symm)
   .exact W _ _ (fun z O=>q z (.tail _ O)) U
 exact L sc.names n [] (fun y q e hk=>h (by rw[Z y q e,hk])) rfl
structure ClAt(H:Hp)(f:J9)(name qual:Str)(params:qj2)(body:List Jb)(scope:Jd)(cl:List (Str×J9))(fr:List Str)(fs:List V)(c':J9)(doc pm ctv:Vz)(fo:Obj)(uf:HO):Prop where
 fn:H f=ς (.frz fo uf)
 dat:fo.data=.func (xG9 name qual params body scope cl .none .none doc pm ψ (.ref c') ctv)
 cod:∃oc,H c'=ς (.frz oc (.code qual))
 cel:∀x c,(x,c)∈cl->∃o u,H c=ς (gq c o)/\o.data=.cell (ς u)
 inj:∀x y c,cl.lookup x=ς c->cl.lookup y=ς c->x=y
 len:fs.length=fr.length
 val:∀(i:Nat)(x:Str)(v:V),fr[i]?=ς x->fs[i]?=ς v->∃c o u,cl.lookup x=ς c/\H c=ς (gq c o)/\o.data=.cell (ς u)/\RelV v u
 nms:∀x c,cl.lookup x=ς c->scope.names.lookup x=ς .free
variable{b:J9}
section
variable{P:qd1}{w:Ja}{H:Hp}{h:Heap}{cl:η (Str×J9)}
def iT(q:b∈cl.map (·.2)):cX H cl b=ψ:=if_pos q
def bB(q:b∉cl.map (·.2)):cX H cl b=H b:=if_neg q
def mE{o:HO}(h:cX H cl b=ς o):b∉cl.map (·.2)/\H b=ς o:=by
 by_cases q:b∈cl.map (·.2)
 .rw[iT q]at h;cases h
 .rw[bB q]at h;exact⟨q,h⟩
def iU(q:b∈cl.map (·.2)):∃x,(x,b)∈cl:=by obtain⟨⟨x,c⟩,L,rfl⟩:=qb8.mp q;exact⟨x,L⟩
def HOk.hide(ok:HOk P w H h)(O:∀x c,(x,c)∈cl->∃o u,H c=ς (gq c o)/\o.data=.cell (ς u)):HOk P w (cX H cl) h:=fun b u e=>by
 obtain⟨Y,e⟩:=mE e
 have L:∀c o,H c=ς o->(∀ob φ,o≠.frz ob (.ext φ))->cX H cl c=ς o:=fun c o q U=>by
  rw[bB fun z=>?_]
  .exact q
  .obtain⟨x,W⟩:=iU z;obtain⟨ob,u,g,_⟩:=O x c W;rw[q]at g;exact U _ _ (qd9 g)
 exact(ok b u e).stay (fun _ _ _ q=>q) (fun c q=>L c _ q fun _ _ z=>nomatch z) (fun c xs q=>L c _ q fun _ _ z=>nomatch z) fun c ob xs q=>L c _ q fun _ _ z=>nomatch z
end
section
variable{CX:CXT}{P:qd1}{w:Ja}{K:xA9}{mg:Str->ζ Vz}{base:Heap}{N ps fr:η Str}{name qual:Str}{params:qj2}{body:η Jb}{scope:Jd}{f c':J9}{cl:η (Str×J9)}{A:qe0}{outer:η Env}{s s1:qa5}{H:Hp}{E:XK}{us:η Vz}{vs fs:η V}{doc pm ctv:Vz}{fo:Obj}{uf:HO}{xe:Vz->qa5->Prop}
theorem qy (S:ClScope N ps fr scope) (C:ClAt H f name qual params body scope cl fr fs c' doc pm ctv fo uf) (U:∀ x,∀ y∈scope.names,y.1=x->scope.names.lookup x=ς y.2) (hd:A.handled=ψ) (e0:Env0 P w K mg base A outer s H) (hl:vs.length=ps.length) (r:Vals vs us)
  (x:ze4 s s.heap.objs.size (bindL (iS qual scope s.heap.objs.size f (.ref c') cl).kindOf (ps.zip us) fun _=>ψ) (qh1 (s.heap.objs.size+1) scope.names []) (bindC (iS qual scope s.heap.objs.size f (.ref c') cl).kindOf (ps.zip us) fun _=>ψ) s1) :
  Inv (pd CX P w K mg base N qual scope f (.ref c') cl A outer s (cX H cl) E xe) [] (e7 N vs fs) (cX H cl) s1:=by
 obtain⟨h1,tk,rfl,hk⟩:=x.done;have hplen:ps.length<=N.length:=qb9 (Nat.le_add_right _ _) S.room
 have own:∀y c,(qh1 (s.heap.objs.size+1) scope.names []).lookup y=ς c->scope.names.lookup y=ς .cell:=fun y c h=>by apply qz0;intro Z;rw[jB Z (U y)]at h;cases h
 have L:∀y c,cl.lookup y=ς c->∃o u,s.heap.get? c=ς o/\o.data=.cell (ς u)/\c<s.heap.objs.size:=fun y c h=>by obtain⟨o,u,g,d⟩:=C.cel y c (PySem.mem_of_lookup h);have q:=(e0.hok c _ g).1;exact⟨o,u,q,d,qb0 q⟩
 have split:∀y c,(qh1 (s.heap.objs.size+1) scope.names []++cl).lookup y=ς c->((qh1 (s.heap.objs.size+1) scope.names []).lookup y=ς c/\s.heap.objs.size<c)∨(cl.lookup y=ς c/\c<s.heap.objs.size):=fun y c h=>by
  rw[dG]at h;cases q:(qh1 (s.heap.objs.size+1) scope.names []).lookup y with
  |some d=>rw[q]at h;cases h;exact .inl ⟨rfl,x.above y _ (PySem.mem_of_lookup q)⟩
  |none=>rw[q]at h;have h:cl.lookup y=ς c:=h;exact .inr ⟨h,let ⟨_,_,_,_,z⟩:=L y c h;z⟩
 have W:∀b:J9,b∉(pd CX P w K mg base N qual scope f (.ref c') cl A outer s (cX H cl) E xe).ex:=fun b z=>absurd (show b∈([]:η J9)from z) Ξ
 have Z:∀b,H b=ψ->cX H cl b=ψ:=fun b h=>by
  by_cases hb:b∈cl.map (·.2)
  .exact iT hb
  .rw[bB hb];exact h
 have htb:∀p∈dD K,cX H cl p.1=ς (.ctab p.2):=fun p hp=>by
  rw[bB fun z=>?_]
  .exact e0.tb p hp
  .obtain⟨x,hx⟩:=iU z;obtain⟨o,u,g,_⟩:=C.cel x _ hx;rw[e0.tb p hp]at g;cases g
 refine⟨⟨e0.mod,S.kind,rfl,rfl,nL _,fun y z c h1 h2=>?_,fun y O=>?_,fun y c hf h=>?_,fun _=>hd,qe0.frames_deeper e0.frames,.inr ⟨rfl,rfl⟩,fun b z=>absurd z (W b),fun b o e=>⟨(e0.bs b o e).1,Z b (e0.bs b o e).2⟩,e0.bsz,fun b _ _=>W b,fun b z=>absurd z (W b),e0.funs,fun b hb=>Z b (e0.frf b hb),htb⟩,rfl,e0.bare,Un.kept hk,⟨_,x.toInCall.ns,fun i y v h1 h2 h3=>?_⟩,fun y c h=>?_,Z _ (e0.hok.fresh (qp1 _)),fun y c h=>?_,fun p hp=>absurd (show p∈([]:η (J9×Obj))from hp) Ξ,(e0.hok.hide C.cel).kept hk,?_⟩
 .rcases split y c h1 with ⟨g1,Y⟩|⟨g1,Y⟩<;>rcases split z c h2 with ⟨g2,l2⟩|⟨g2,l2⟩
  .exact zj3 x.apart (PySem.mem_of_lookup g1) (PySem.mem_of_lookup g2)
  .exact absurd l2 (Nat.lt_asymm Y)
  .exact absurd Y (Nat.lt_asymm l2)
  .exact C.inj y z c g1 g2
 .have O:scope.names.lookup y=ς .cell∨scope.names.lookup y=ς .free:=O;show ∃c,(qh1 (s.heap.objs.size+1) scope.names []++cl).lookup y=ς c;rw[dG];rcases O with O|O
  .obtain⟨c,e⟩:=iO (n:=s.heap.objs.size+1) O;exact⟨c,by rw[e];rfl⟩
  .rw[jB (by rw[O];decide) (U y)];obtain⟨i,hi⟩:=qk3 (S.all y O);have hlt:i<fs.length:=by rw[C.len];exact(gX hi).1
   obtain⟨c,_,_,e,_⟩:=C.val i y fs[i] hi (by simp[hlt]);exact⟨c,e⟩
 .have hf:(scope.names.lookup y != ς .free)=θ:=hf;rcases split y c h with ⟨_,Y⟩|⟨g1,_⟩
  .exact qj1 Y
  .rw[C.nms y c g1]at hf;simp at hf
 .by_cases hi:i<vs.length
  .have ha:vs[i]?=ς v:=by
    unfold e7 at h2;rw[qb4 (by simpa using hi),qb1]at h2;cases e:vs[i]? with
    |none=>rw[e]at h2;cases h2
    |some a=>rw[e]at h2;cases h2;rfl
   obtain⟨u,hu,rv⟩:=r.get ha
   have hp:ps[i]?=ς y:=by rw[<- S.pre,qz5 Θ];exact h1
   have ndP:ps.Nodup:=by rw[<- S.pre];exact S.nd.sublist (qz6 _ _)
   refine⟨u,rv,?_⟩;rcases S.par y (qc8 hp)with k|k
   .exact .inl ⟨k,jx ndP hp hu k⟩
   .obtain⟨c,e⟩:=iO (n:=s.heap.objs.size+1) k;refine .inr ⟨.inl k,c,?_,?_⟩
    .show(qh1 (s.heap.objs.size+1) scope.names []++cl).lookup y=ς c;rw[dG,e];rfl
    .have q:=x.cell y c e;rw[jy ndP hp hu (by show scope.names.lookup y≠_;rw[k];decide)]at q;exact q
  .unfold e7 at h2;rw[qc9 (by simpa using hi)]at h2;rw[qa1]at h2;by_cases hj:i-vs.length<N.length-vs.length-fs.length
   .rw[qb4 (by simpa using hj),qk4]at h2;split at h2<;>cases h2
   .rw[qc9 (by simpa using hj),qm0,qb1]at h2;obtain⟨v',hv,e⟩:=mS h2;cases e;have hroom:=S.room;have hfl:=C.len
    have hfr:fr[i-vs.length-(N.length-vs.length-fs.length)]?=ς y:=by rw[<- S.post,qy6];rw[show N.length-fr.length+(i-vs.length-(N.length-vs.length-fs.length))=i by lia];exact h1
    obtain⟨c,o,u,e1,e2,e3,e4⟩:=C.val _ y v hfr hv;refine⟨u,e4,.inr ⟨.inr (C.nms y c e1),c,?_,?_⟩⟩
    .show(qh1 (s.heap.objs.size+1) scope.names []++cl).lookup y=ς c;rw[dG,jB (by rw[C.nms y c e1];decide) (U y),e1];rfl
    .exact⟨o,hk c o (e0.hok c _ e2).1,e3⟩
 .rcases split y c h with ⟨g1,_⟩|⟨g1,_⟩
  .exact⟨_,x.cell y c g1⟩
  .obtain⟨o,u,q,d,_⟩:=L y c g1;exact⟨_,o,hk c o q,d⟩
 .rcases split y c h with ⟨_,Y⟩|⟨g1,_⟩
  .exact Z _ (e0.hok.fresh (qj1 Y))
  .exact iT (qb8.mpr ⟨(y,c),PySem.mem_of_lookup g1,rfl⟩)
 .unfold e7;show _=N.length;rw[qc0,qc0,qa1,qm0,qa1];have:=S.room;have:=C.len;lia
theorem wb {k:Nat} {args:Args} {Q:VK} (S:ClScope N ps fr scope) (C:ClAt H f name qual params body scope cl fr fs c' doc pm ctv fo uf) (ndn:∀ x,∀ y∈scope.names,y.1=x->scope.names.lookup x=ς y.2) (hr:Room (k+1) A) (e0:Env0 P w K mg base A outer s H)
  (U:za9 s (xG9 name qual params body scope cl .none .none doc pm ψ (.ref c') ctv) args (ps.zip us)) (hl:vs.length=ps.length) (r:Vals vs us)
  (hbody:Room k (A.deeper (iS qual scope s.heap.objs.size f (.ref c') cl))->∃t,PSs (pd CX P w K mg base N qual scope f (.ref c') cl A outer s (cX H cl) E fun _ _=>False) body t/\t {nx:=fun _ H'=>(∀b∈cl.map (·.2),H' b=ψ)->Q .non (fK H cl H'),rt:=fun v H'=>(∀b∈cl.map (·.2),H' b=ψ)->Q v (fK H cl H')} (e7 N vs fs) (cX H cl)) :
  qq6 (model P w) A (.call (.ref f) args) (CR CX outer P w H s Q E) s:=by
 have KX:K.In s.heap:=e0.mod.kin.keeps fun b o e=>(e0.bs b o e).1
 have lim:s.heap.NoLimit:=e0.mod.nolimit.keeps fun b o e=>(e0.bs b o e).1
 have hkind:∀y∈ps.zip us,scope.names.lookup y.1=ς .local∨(scope.names.lookup y.1=ς .cell/\((qh1 (s.heap.objs.size+1) scope.names []).lookup y.1).isSome=θ):=fun⟨n,v⟩ hy=>by
  rcases S.par n (qw8 hy).1 with q|q
  .exact .inl q
  .exact .inr ⟨q,xR9 _ _ _ (.inl q)⟩
 refine ze5 hr.depth (e0.hok f _ C.fn).1 C.dat S.co S.gen rfl (let ⟨_,z⟩:=C.cod;(e0.hok c' _ z).2) (U _ _ _ _ ?_);refine zD S.kind hkind fun env he s1 x=>?_
 subst he;refine⟨lim.keeps x.toInCall.keep,codeAny_func ?_⟩;obtain⟨t,ht,hq⟩:=hbody (hr.deeper _);have I:Inv (pd CX P w K mg base N qual scope f (.ref c') cl A outer s (cX H cl) E fun _ _=>False) [] (e7 N vs fs) (cX H cl) s1:=qy S C ndn hr.hd e0 hl r x;refine qk9 (ht [] s1 (e7 N vs fs) (cX H cl) _ I hq) (fun fl s' hs=>?_) fun e s' hs=>hs.elim
 have fin:∀{Z:St}{H':Hp}{v:V}{u:Vz},Inv (pd CX P w K mg base N qual scope f (.ref c') cl A outer s (cX H cl) E fun _ _=>False) [] Z H' s'->RelV v u->((∀b∈cl.map (·.2),H' b=ψ)->Q v (fK H cl H'))->CE outer P w H s Q u s':=fun {Z H' v u} J rv q=>by
  have cn:∀b,b∈cl.map (·.2)->∃o u,H b=ς (gq b o)/\o.data=.cell (ς u):=fun b U=>by obtain⟨x,hx⟩:=iU U;exact C.cel x b hx
  have kc:∀b o,b∈cl.map (·.2)->s.heap.get? b=ς o->s'.heap.get? b=ς o/\H' b=ψ:=fun b o U q=>by
   obtain⟨o',u,g,d⟩:=cn b U;have hfs:b∉frs outer:=fun z=>by have:=e0.frf b z;rw[g]at this;cases this
   exact⟨J.base.keep b o q (iT U) hfs (fun z=>absurd (show b∈([]:η J9)from z) Ξ),J.base.free b o q (iT U) (fun z=>absurd (show b∈([]:η J9)from z) Ξ)⟩
  have sin:∀{b:J9},b∈cl.map (·.2)->fK H cl H' b=H b:=fun U=>if_pos U
  have O:∀{b:J9},b∉cl.map (·.2)->fK H cl H' b=H' b:=fun U=>if_neg U
  have Y:∀(b:J9)(o:HO),H b=ς o->(∀ob φ,o≠.frz ob (.ext φ))->b∉cl.map (·.2):=fun b o q hno z=>by obtain⟨ob,u,g,_⟩:=cn b z;rw[q]at g;exact hno _ _ (qd9 g)
  have q:=q fun b U=>by obtain⟨o',u',g,d⟩:=cn b U;exact(kc b o' U (e0.hok b _ g).1).2
  refine⟨v,fK H cl H',J.os,J.bare,⟨fun b o q n U hx=>?_,fun b o q n U hx=>?_,fun b o q n hx=>?_,fun b o q hx=>?_,fun b xs q=>?_,fun b o u q=>?_,fun b ps q=>?_,fun b qs q=>?_⟩,fun b o q=>?_,rv,q⟩
  .have L:b∉cl.map (·.2):=fun z=>by obtain⟨_,_,g,_⟩:=cn b z;rw[n]at g;cases g
   exact J.base.keep b o q ((bB L).trans n) U (fun z=>absurd (show b∈([]:η J9)from z) Ξ)
  .have L:b∉cl.map (·.2):=fun z=>by obtain⟨_,_,g,_⟩:=cn b z;rw[n]at g;cases g
   exact J.base.slot b o q ((bB L).trans n) U (fun z=>absurd (show b∈([]:η J9)from z) Ξ)
  .have L:b∉cl.map (·.2):=fun z=>by obtain⟨_,_,g,_⟩:=cn b z;rw[n]at g;cases g
   rw[O L];exact J.base.free b o q ((bB L).trans n) (fun z=>absurd (show b∈([]:η J9)from z) Ξ)
  .exact J.base.there b o q (fun z=>absurd (show b∈([]:η J9)from z) Ξ)
  .have L:=Y b _ q fun _ _ z=>nomatch z
   rw[O L];exact J.base.tups b xs ((bB L).trans q)
  .by_cases L:b∈cl.map (·.2)
   .rw[sin L];exact q
   .rw[O L];exact J.base.frzs b o u ((bB L).trans q)
  .have L:=Y b _ q fun _ _ z=>nomatch z
   rw[O L];exact J.base.tbls b ps ((bB L).trans q)
  .have L:=Y b _ q fun _ _ z=>nomatch z
   rw[O L];exact J.base.cts b qs ((bB L).trans q)
  .by_cases L:b∈cl.map (·.2)
   .rw[sin L]at q;obtain⟨ob,u,g,d⟩:=cn b L;rw[q]at g;cases g;have e1:=(e0.hok b _ q).1;have e2:=(kc b ob L e1).1;exact⟨e2,e2,⟨ob,e2⟩,fun h1 h2 z1 z2=>z2 ob z1⟩
   .rw[O L]at q
    have up:∀c o,H' c=ς o->fK H cl H' c=ς o:=fun c o z=>by
     by_cases hcc:c∈cl.map (·.2)
     .obtain⟨ob,u,g,d⟩:=cn c hcc;have e1:=(e0.hok c _ g).1;rw[(kc c ob hcc e1).2]at z;cases z
     .rw[O hcc];exact z
    exact(J.hok b o q).stay (fun _ _ _ z=>z) (fun c z=>up c _ z) (fun c xs z=>up c _ z) fun c ob xs z=>up c _ z
 cases fl with
 |ret u=>obtain⟨v,Z,H',J,rv,q⟩:=hs;exact fin J rv q
 |next=>obtain⟨Z,H',J,q⟩:=hs;exact fin (v:=V.non) (u:=qh5) J rfl q
 |brk=>obtain⟨_,_,_,q⟩:=hs;exact qg9 q
 |cont=>obtain⟨_,_,_,q⟩:=hs;exact qg9 q
end
structure TabB(mg:Str->Option Vz)(base:Heap)(c P:J9):Prop where
 code:xN9 base c P
 bm:∃bm ob,mg "__builtins__"=ς (.ref bm)/\bm≠qw1/\base.get? bm=ς ob/\ob.cls=.type "module"/\ob.dict=ς qw1/\ob.data=.plain
theorem jU:∀{l m:η Vz},zd6 l->zd6 m->zd6 (l++m)
 |[],m,_,h=>h
 |.int _ _::.int _ _::_::r,m,h,h'=>jU (l:=r) h h'
theorem mF:∀{l m:η Vz},zd6 l->qq8 pos (l++m)=(qq8 pos l).or (qq8 pos m)
 |[],m,_=>by simp[qq8]
 |.int a t::.int b u::c::r,m,h=>by
  have h:zd6 r:=h;show(if _ then _ else qq8 pos (r++m))=Option.or (if _ then _ else qq8 pos r) _;split
  .rfl
  .exact mF h
structure Made(H H':Hp)(lo:Nat)(f c':J9)(qual:Str)(fo:Obj):Prop where
 fn:H' f=ς (.frz fo (.ext fun h=>h.get? f=ς fo))
 cod:∃oc,H' c'=ς (.frz oc (.code qual))
 old:∀b o,H b=ς o->H' b=ς o
 new:∀b o,H' b=ς o->H b=ς o∨(lo<=b/\H b=ψ)
 lof:lo<=f
section
variable{X:Cx}{J1:η (J9×Obj)}{σ:St}{H:Hp}{s:qa5}{c P:J9}{qs:η ((Nat×Nat)×Str)}{name:Str}{params:qj2}{body:η Jb}{scope:Jd}{clos:η (Str×J9)}{pos:Pos}
def zI{Q:Vz->qa5->Prop}(I:Inv X J1 σ H s)(B:TabB X.mg X.base c P)(U:X.env.code=.ref c)(hP:H P=ς (.ctab qs))(hq:((pos.line,pos.col),qual)∈qs)(hun:∀q,((pos.line,pos.col),q)∈qs->q=qual)(hcl:zg0 scope X.env=pure clos)
 (q:∀(f c':J9)(doc pm ctv:Vz)(H':Hp)(s':qa5),Made H H' s.heap.objs.size f c' qual {cls:=.type "function",data:=.func (xG9 name qual params body scope clos .none .none doc pm ψ (.ref c') ctv)}->Inv X J1 σ H' s'->Q (.ref f) s') :
  wpAny (model X.prog X.w) A (makeFunction name qual params (.stmts body) scope X.env [] [] [] pos pos.line) Q E s:=by
 obtain⟨ps,hp,ht,hent⟩:=I.hok P _ hP
 have inB:∀{b:J9}{o:Obj},X.base.get? b=ς o->b≠P:=fun {b o} e z=>by have:=(I.bs b o e).2;rw[z,hP]at this;cases this
 have hg:s.heap.Ns qc3 X.mg:=I.mod.glob.keeps I.bk;obtain⟨bm,ob,b1,b2,b3,b4,b5,b6⟩:=B.bm
 have hgP:qc3≠P:=by obtain⟨o,es,ep,e,_⟩:=I.mod.glob;exact inB e
 have hbG:bm≠qc3:=fun z=>by obtain⟨o,es,ep,e,hd,_⟩:=I.mod.glob;rw[z,e]at b3;cases b3;rw[hd]at b6;cases b6
 have hB:s.heap.BuiltinsAt X.mg P:=⟨bm,ob,b1,b2,hbG,inB b3,I.bk _ _ b3,b4,b5,b6⟩;have C:xN9 s.heap c P:=B.code.keeps I.bk;have lt:∀{b:J9}{o:HO},H b=ς o->b<s.heap.objs.size:=fun h=>I.hok.lt h
 cases hf:qq8 pos ps.toList with
 |some cv=>
  obtain⟨c',oc,rfl,hc'⟩:=hent pos qual cv hq hf;refine PySem.W.makeFunction_hit hcl I.ok.glob hg U C hp ht hf hB fun ctv doc h' tk hk O=>?_
  have hfr:H h'.objs.size=ψ:=I.hok.fresh O
  have I2:=I.laid (a:=h'.objs.size) (o:=.frz {cls:=.type "function",data:=.func (xG9 name qual params body scope clos .none .none doc ((X.mg "__name__").getD .none) ψ (.ref c') ctv)} (.ext fun h=>h.get? h'.objs.size=ς {cls:=.type "function",data:=.func (xG9 name qual params body scope clos .none .none doc ((X.mg "__name__").getD .none) ψ (.ref c') ctv)})) (t':=tk) (h':=h'.push {cls:=.type "function",data:=.func (xG9 name qual params body scope clos .none .none doc ((X.mg "__name__").getD .none) ψ (.ref c') ctv)}) (fun b o e=>gP _ (hk b o e)) O
   ⟨qa9 _ rfl,qa9 _ rfl,⟨_,qa9 _ rfl⟩,fun h1 h2 z1 z2=>z2 _ z1⟩
  refine q _ c' doc _ ctv _ _ ⟨aU,?_,fun b o e=>?_,fun b o e=>?_,O⟩ I2
  .refine⟨oc,?_⟩;rw[aF (qc4 (qc2 (lt hc') O))];exact hc'
  .rw[aF (qc4 (qc2 (lt e) O))];exact e
  .by_cases hb:b=h'.objs.size
   .exact .inr ⟨by rw[hb];exact O,by rw[hb];exact hfr⟩
   .rw[aF hb]at e;exact .inl e
 |none=>
  refine PySem.W.makeFunction_K hcl I.ok.glob hg U C hp ht hf hgP hB fun c' ctv doc h' tk hx Y hlt hrec htb=>?_
  obtain⟨c2,oc,vs,t,e2,hoc,hrec2⟩:=hrec;cases e2;have hfr:H h'.objs.size=ψ:=I.hok.fresh (qb9 Y (qj1 hlt));have hcr:H c'=ψ:=I.hok.fresh Y;have hne:c'≠h'.objs.size:=qc4 hlt;generalize hfo:({cls:=.type "function",data:=.func (xG9 name qual params body scope clos .none .none doc ((X.mg "__name__").getD .none) ψ (.ref c') ctv)}:Obj)=fo;have hfo':(PySem.W.fnMade name qual params body scope clos doc ((X.mg "__name__").getD .none) c' ctv)=fo:=hfo;rw[hfo'];have hfree:fo.isFreed=ξ:=by rw[<- hfo];rfl
  have gf:(h'.push fo).get? h'.objs.size=ς fo:=qa9 _ hfree;let H':Hp:=upd (upd H c' (.frz oc (.code qual))) h'.objs.size (.frz fo (.ext fun h=>h.get? h'.objs.size=ς fo))
  have L:∀b o,H b=ς o->H' b=ς o:=fun b o e=>by show upd (upd H c' (.frz oc (.code qual))) h'.objs.size _ b=ς o;rw[aF (fun z=>by rw[z,hfr]at e;cases e),aF (fun z=>by rw[z,hcr]at e;cases e)];exact e
  have hnew:∀b o,H' b=ς o->H b=ς o∨(s.heap.objs.size<=b/\H b=ψ):=fun b o e=>by
   by_cases h1:b=h'.objs.size
   .exact .inr ⟨by rw[h1];exact qb9 Y (qj1 hlt),by rw[h1];exact hfr⟩
   .by_cases h2:b=c'
    .exact .inr ⟨by rw[h2];exact Y,by rw[h2];exact hcr⟩
    .have e:upd (upd H c' (.frz oc (.code qual))) h'.objs.size _ b=ς o:=e;rw[aF h1,aF h2]at e;exact .inl e
  have kp:∀b o,b≠P->s.heap.get? b=ς o->(h'.push fo).get? b=ς o:=fun b o hb e=>gP _ (hx b o hb e)
  have Z:H' c'=ς (.frz oc (.code qual)):=by show upd (upd H c' (.frz oc (.code qual))) h'.objs.size _ c'=_;rw[aF hne,aU]
  have un:Un X.fs [] H H' s.heap (h'.push fo):=by
   have nP:∀{b:J9},H b=ψ->b≠P:=fun {b} n z=>by rw[z,hP]at n;cases n
   refine⟨fun b o e n _ _=>kp b o (nP n) e,fun b o e n _ _=>⟨o.slots,by rw[kp b o (nP n) e]⟩,fun b o e n _=>?_,fun b o e _=>?_,fun b xs e=>L b _ e,fun b o u e=>L b _ e,fun b ps e=>⟨#[],by rw[L b _ e];simp⟩,fun b qs e=>L b _ e⟩
   .cases z:H' b with
    |none=>rfl
    |some w=>
     rcases hnew b w z with y|⟨y,_⟩
     .rw[n]at y;cases y
     .exact absurd (qb0 e) (qw2.mpr y)
   .by_cases hb:b=P
    .rw[hb];exact⟨_,gP _ htb⟩
    .exact⟨o,kp b o hb e⟩
  have hok:HOk X.prog X.w H' (h'.push fo):=fun b o e=>by
   by_cases h1:b=h'.objs.size
   .subst h1;have e:upd (upd H c' (.frz oc (.code qual))) h'.objs.size _ h'.objs.size=ς o:=e;rw[aU]at e;cases e;exact⟨gf,gf,⟨_,gf⟩,fun h1 h2 z1 z2=>z2 _ z1⟩
   .by_cases h2:b=c'
    .subst h2;rw[Z]at e;cases e;exact⟨gP _ hoc,b,oc,vs,t,rfl,gP _ hoc,hrec2⟩
    .have eH:H b=ς o:=by have e:upd (upd H c' (.frz oc (.code qual))) h'.objs.size _ b=ς o:=e;rw[aF h1,aF h2]at e;exact e
     by_cases h3:b=P
     .subst h3;rw[hP]at eH;cases eH;refine⟨_,gP _ htb,?_,fun pos' q' v h4 h5=>?_⟩
      .rw[qx1];exact jU ht trivial
      .rw[qx1,mF ht]at h5;cases h6:qq8 pos' ps.toList with
       |some v'=>rw[h6]at h5;cases h5;obtain⟨c2,o2,e1,e2⟩:=hent pos' q' _ h4 h6;exact⟨c2,o2,e1,L _ _ e2⟩
       |none=>
        rw[h6]at h5;have h5:qq8 pos' [qf8 pos.line,qf8 pos.col,.ref c']=ς v:=h5;simp only[qf8,qq8]at h5;split at h5
        .rename_i hh;cases h5;refine⟨c',oc,rfl,?_⟩
         have e1:pos'.line=pos.line/\pos'.col=pos.col:=by simp only[qb3,beq_iff_eq]at hh;lia
         rw[e1.1,e1.2]at h4;rw[hun q' h4];exact Z
        .cases h5
     .refine(I.hok b o eH).stay (fun d u hd z=>kp d u ?_ z) (fun d z=>L d _ z) (fun d xs z=>L d _ z) fun d ob xs z=>L d _ z
      rcases hd with rfl|hd
      .exact h3
      .intro z;rw[z,hP]at hd;cases hd
  exact q _ c' doc _ ctv H' _ ⟨by show upd _ _ _ _=_;rw[aU,<- hfo],⟨oc,Z⟩,L,hnew,qb9 Y (qj1 hlt)⟩ (I.un (t':=tk) un hok)
end
section
variable{X:Cx}{K:xA9}{tg:Jc}
end
noncomputable def kU(scope outer:Jd):Jd:={scope with names:=scope.names.map fun(n,k)=>if(k==.free&&outer.kind==.function&&outer.names.lookup n==ς .cell)then(n,.cell)else(n,k)}
noncomputable def eC(sc:Jd)(N:η Str)(i:Nat)(x:Str):Bool:=decide (N[i]?=ς x)&&(decide (sc.names.lookup x=ς .local)||(decide (sc.names.lookup x=ς .cell)||decide (sc.names.lookup x=ς .free)))&&!(x==("__debug__":Str))&&!(x==("__classdict__":Str))
def jC(sc:Jd)(x:Str):Bool:=decide (sc.names.lookup x=ς .local)||decide (sc.names.lookup x=ς .cell)
noncomputable def aM(sc:Jd)(x:Str):Bool:=decide (sc.names.lookup x=ς .globalImplicit)&&!(x==("__debug__":Str))&&!decide (x=("__name__":Str))
section
variable{sc:Jd}{N:η Str}{i:Nat}{x:Str}
def iC(h:eC sc N i x=θ):N[i]?=ς x:=by unfold eC at h;simp only[qb3,decide_eq_true_eq]at h;exact h.1.1.1
def CM(h:eC sc N i x=θ):Vis sc x:=by unfold eC at h;simp only[qb3,qi8,decide_eq_true_eq]at h;exact h.1.1.2
def CN(h:eC sc N i x=θ):(x==("__debug__":Str))=ξ:=by unfold eC at h;simp only[qb3,qi1]at h;exact h.1.2
def EZ(h:eC sc N i x=θ):(x==("__classdict__":Str))=ξ:=by unfold eC at h;simp only[qb3,qi1]at h;exact h.2
def kW(h:jC sc x=θ):Loc sc x:=by unfold jC at h;simp only[qi8,decide_eq_true_eq]at h;exact h
def q119(h:aM sc x=θ):sc.names.lookup x=ς .globalImplicit:=by unfold aM at h;simp only[qb3,decide_eq_true_eq]at h;exact h.1.1
def kX(h:aM sc x=θ):(x==("__debug__":Str))=ξ:=by unfold aM at h;simp only[qb3,qi1]at h;exact h.1.2
def q98(h:aM sc x=θ):x≠("__name__":Str):=by unfold aM at h;simp only[qb3,qi1,decide_eq_false_iff_not]at h;exact h.2
end
def cu(X:Cx)(sc:Jd):Prop:=X.env.scope=sc
variable{i:Nat}
section
variable{X:Cx}{sc:Jd}{N:η Str}{x:Str}{pos p:Pos}
def pvD(i:Nat)(h:eC sc N i x=θ)(e1:cu X sc:=by rfl)(q:X.N=N:=by rfl):PE X (.Name x pos) (iM i):=by have e1:X.env.scope=sc:=e1;subst e1 q;exact B3 (iC h) (CM h) (CN h) (EZ h)
def glD(h:aM sc x=θ)(e1:cu X sc:=by rfl):Gl X x:=by have e1:X.env.scope=sc:=e1;subst e1;exact q119 h
def sA{e:Jc}{pos':Pos}(h:eC sc N i x=θ)(U:jC sc x=θ)(Y:N.Nodup)(L:PE X e te)(e1:cu X sc:=by rfl)(O:X.N=N:=by rfl)(W:X.fn x=θ∨X.env.scope.names.lookup x=ς .local:=by exact .inl rfl)
 (q:qo5 e (ς (.Name x pos')) pos.line X.env=pure ξ:=by rfl):PS X (.Assign [.Name x pos'] e pos) (zn te (kL i)):=by
 have e1:X.env.scope=sc:=e1;subst e1 O;exact Ch Y (iC h) (kW U) L q W
theorem aH(h:eC sc N i x=θ)(q:jC sc x=θ)(U:N.Nodup)(e1:cu X sc:=by rfl)(L:X.N=N:=by rfl)(O:X.fn x=θ∨X.env.scope.names.lookup x=ς .local:=by exact .inl rfl):PG X (.Name x pos) (kL i):=by have e1:X.env.scope=sc:=e1;subst e1 L;exact rW U (iC h) (kW q) O
def loOk(sc:Jd)(x:Str):Bool:=decide (sc.names.lookup x=ς .local)
theorem cE(h:eC sc N i x=θ)(q:loOk sc x=θ)(O:X.N.Nodup)(e1:cu X sc)(L:X.N=N:=by rfl):PG X (.Name x pos) (kL i):=by have e1:X.env.scope=sc:=e1;subst e1 L;have q:X.env.scope.names.lookup x=ς .local:=of_decide_eq_true q;exact rW O (iC h) (.inl q) (.inr q)
def kY(h:aM sc x=θ)(q:∃u,X.mg x=ς u/\RelV v u)(e1:cu X sc:=by rfl):PE X (.Name x pos) (tC v):=wa (glD h e1) q (kX h)
def wc{u:Vz}(h:aM sc x=θ)(L:X.mg x=ψ)(q:qd7 x=ς u)(r:RelV v u)(e1:cu X sc:=by rfl):PE X (.Name x pos) (tC v):=zg (glD h e1) L q r (q98 h) (kX h)
variable{e:Jc}{es:η Jc}{t:TA}{id T:String}{r:η V->Hp->VK->Prop}{k:Nat}{ps:η Str}{sp:Sp}
def ic (h:aM sc x=θ) (U:du X (.builtin id) r) (Y:X.mg x=ψ) (W:qd7 x=ς (.builtin id)) (L:PA X (e::es) t) (e1:cu X sc:=by rfl)
  (O:qa7 (e::es) X.env=(ξ,eval e X.env)::qa7 es X.env:=by rfl) (q:(qj6 pos (qa7 es X.env)).any (·.1)=ξ:=by rfl):PE X (.Call (.Name x p) (e::es) [] pos) (tCB r t):=
 vP U (glD h e1) Y W L (q98 h) (kX h) O q
def iD (h:aM sc x=θ) (U:du X (.type T) r) (Y:X.mg x=ψ) (W:qd7 x=ς (.type T)) (L:PA X (e::es) t) (e1:cu X sc:=by rfl)
  (O:qa7 (e::es) X.env=(ξ,eval e X.env)::qa7 es X.env:=by rfl) (q:(qj6 pos (qa7 es X.env)).any (·.1)=ξ:=by rfl):PE X (.Call (.Name x p) (e::es) [] pos) (tCB r t):=
 uo U (glD h e1) Y W L (q98 h) (kX h) O q
def uA (h:aM sc x=θ) (F:OkF X.prog X.w X.K X.mg X.base x k ps sp) (U:Room k X.A) (L:PA X (e::es) t) (e1:cu X sc:=by rfl)
  (O:qa7 (e::es) X.env=(ξ,eval e X.env)::qa7 es X.env:=by rfl) (q:(qj6 pos (qa7 es X.env)).any (·.1)=ξ:=by rfl):PE X (.Call (.Name x p) (e::es) [] pos) (vO sp [] E0 t):=
 v7 F U (glD h e1) L (kX h) O q
variable{tg a b:Jc}{ta:TA}
def qz(h:aM sc "range"=θ)(O:X.mg "range"=ψ)(L:PA X [a] ta)(e1:cu X sc:=by rfl)(q:qa7 [a] X.env=[(ξ,eval a X.env)]:=by rfl):PI X tg (.Call (.Name "range" p) [a] [] pos) (A5 ta):=uh (glD h e1) O L q
def qA (h:aM sc "range"=θ) (U:X.mg "range"=ψ) (O:PA X [a,b] ta) (e1:cu X sc:=by rfl) (L:qa7 [a,b] X.env=[(ξ,eval a X.env),(ξ,eval b X.env)]:=by rfl) (q:qa7 [b] X.env=[(ξ,eval b X.env)]:=by rfl) :
  PI X tg (.Call (.Name "range" p) [a,b] [] pos) (A6 ta):=ui (glD h e1) U O L q
end
section
variable{X:Cx}{M:η Str}{scope outer:Jd}{C:J9}{s:qa5}{H:Hp}{ex:η J9}{x:Str}{pos p:Pos}
def scC(q:cu X outer):cu (cxC X M scope C s H ex) (kU scope outer):=by have q:X.env.scope=outer:=q;subst q;rfl
end
inductive Dt where
 |non|bl (b:Bool)|int (i:Int)|str (x:Str)|t (l:List Dt)|e (l:List Dt)|dct (ks:List Key) (l:List Dt)|dcT (ks:List (List Key)) (l:List Dt)
mutual
noncomputable def peq:Dt->Dt->Bool
 |.non,.non=>θ
 |.bl a,.bl b=>a==b
 |.bl a,.int j=>(if a then(1:Int)else 0)==j
 |.int i,.bl b=>i==(if b then(1:Int)else 0)
 |.int i,.int j=>i==j
 |.str x,.str y=>x==y
 |.t l,.t m=>peqs l m
 |.e l,.e m=>peqs l m
 |.dct ks l,.dct js m=>decide (ks=js)&&peqs l m
 |.dcT ks l,.dcT js m=>decide (ks=js)&&peqs l m
 |_,_=>ξ
noncomputable def peqs:η Dt->η Dt->Bool
 |[],[]=>θ
 |d::l,e::m=>peq d e&&peqs l m
 |_,_=>ξ
end
mutual
theorem iV:∀d:Dt,peq d d=θ
 |.non=>by simp[peq]
 |.bl b=>by simp[peq]
 |.int i=>by simp[peq]
 |.str x=>by simp[peq]
 |.t l=>by simp only[peq];exact peqs_self l
 |.e l=>by simp only[peq];exact peqs_self l
 |.dct ks l=>by simp only[peq,decide_true,qi9];exact peqs_self l
 |.dcT ks l=>by simp only[peq,decide_true,qi9];exact peqs_self l
theorem peqs_self:∀l:η Dt,peqs l l=θ
 |[]=>by simp[peqs]
 |d::l=>by simp only[peqs,iV d,peqs_self l,qv7]
end
mutual
noncomputable def f6:Dt->Nat
 |.t l=>deeps l+1
 |.e l=>deeps l+1
 |_=>0
noncomputable def deeps:η Dt->Nat
 |[]=>0
 |d::l=>max (f6 d) (deeps l)
end
mutual
def Rep(K:xA9)(H:Hp):Dt->V->Prop
 |.non,v=>v=.non
 |.bl b,v=>v=.bl b
 |.int i,v=>v=.int i
 |.str x,v=>v=.str x
 |.t l,v=>∃a vs,v=.ref a/\SqT K H a vs/\Reps K H l vs
 |.e l,v=>∃a vs,v=.ref a/\SqL K H a vs/\Reps K H l vs
 |.dct ks l,v=>∃a J6,v=.ref a/\Rd H a (.dK J6)/\J6.map (·.1)=ks/\Reps K H l (J6.map (·.2))
 |.dcT ks l,v=>∃a J6,v=.ref a/\Rd H a (.dT J6)/\J6.map (·.1)=ks/\Reps K H l (J6.map (·.2))
def Reps(K:xA9)(H:Hp):η Dt->η V->Prop
 |[],vs=>vs=[]
 |d::l,vs=>∃v ws,vs=v::ws/\Rep K H d v/\Reps K H l ws
end
def Same.tup(e:Same H H')(h:SqT K H a xs):SqT K H' a xs:=by
 rcases h with h|h
 .exact .inl (e _ _ h)
 .exact .inr h
def Same.rd{u:HO}(e:Same H H')(h:Rd H a u):Rd H' a u:=by
 rcases h with h|⟨o,h⟩
 .exact .inl (e _ _ h)
 .exact .inr ⟨o,e _ _ h⟩
mutual
theorem Rep.same{K:xA9}{H H':Hp}(e:Same H H'):∀{d:Dt}{v:V},Rep K H d v->Rep K H' d v
 |.non,v,h=>h
 |.bl _,v,h=>h
 |.int _,v,h=>h
 |.str _,v,h=>h
 |.t l,v,h=>by unfold Rep at h ⊢;obtain⟨a,vs,h1,h2,h3⟩:=h;exact⟨a,vs,h1,e.tup h2,Reps.same e h3⟩
 |.e l,v,h=>by unfold Rep at h ⊢;obtain⟨a,vs,h1,h2,h3⟩:=h;exact⟨a,vs,h1,e.seq h2,Reps.same e h3⟩
 |.dct ks l,v,h=>by unfold Rep at h ⊢;obtain⟨a,vs,h1,h2,h3,h4⟩:=h;exact⟨a,vs,h1,e.rd h2,h3,Reps.same e h4⟩
 |.dcT ks l,v,h=>by unfold Rep at h ⊢;obtain⟨a,vs,h1,h2,h3,h4⟩:=h;exact⟨a,vs,h1,e.rd h2,h3,Reps.same e h4⟩
theorem Reps.same{K:xA9}{H H':Hp}(e:Same H H'):∀{l:η Dt}{vs:η V},Reps K H l vs->Reps K H' l vs
 |[],vs,h=>h
 |d::l,vs,h=>by unfold Reps at h ⊢;obtain⟨v,ws,h1,h2,h3⟩:=h;exact⟨v,ws,h1,Rep.same e h2,Reps.same e h3⟩
end
theorem Reps.length:∀{l:η Dt}{vs:η V},Reps K H l vs->vs.length=l.length
 |[],vs,h=>by unfold Reps at h;rw[h];rfl
 |d::l,vs,h=>by unfold Reps at h;obtain⟨v,ws,rfl,_,h3⟩:=h;simp[Reps.length h3]
theorem Reps.get:∀{l:η Dt}{vs:η V}{i:Nat}{d:Dt},Reps K H l vs->l[i]?=ς d->∃v,vs[i]?=ς v/\Rep K H d v
 |[],vs,i,d,h,e=>by simp at e
 |d0::l,vs,0,d,h,e=>by unfold Reps at h;obtain⟨v,ws,rfl,h2,_⟩:=h;simp at e;subst e;exact⟨v,rfl,h2⟩
 |d0::l,vs,i+1,d,h,e=>by unfold Reps at h;obtain⟨v,ws,rfl,_,h3⟩:=h;obtain⟨u,L,q⟩:=Reps.get (i:=i) h3 (by simpa using e);exact⟨u,by simpa using L,q⟩
theorem Reps.append:∀{l m:η Dt}{vs ws:η V},Reps K H l vs->Reps K H m ws->Reps K H (l++m) (vs++ws)
 |[],m,vs,ws,h,h'=>by unfold Reps at h;rw[h];exact h'
 |d::l,m,vs,ws,h,h'=>by unfold Reps at h;obtain⟨v,us,rfl,h2,h3⟩:=h;show Reps K H (d::(l++m)) (v::(us++ws));unfold Reps;exact⟨v,_,rfl,h2,Reps.append h3 h'⟩
def Reps.one{d:Dt}(h:Rep K H d v):Reps K H [d] [v]:=by unfold Reps;exact⟨v,[],rfl,h,by unfold Reps;rfl⟩
theorem Reps.take:∀{l:η Dt}{vs:η V}(n:Nat),Reps K H l vs->Reps K H (l.take n) (vs.take n)
 |_,_,0,_=>by simp[Reps]
 |[],vs,n+1,h=>by unfold Reps at h;rw[h];simp[Reps]
 |d::l,vs,n+1,h=>by unfold Reps at h;obtain⟨v,us,rfl,h2,h3⟩:=h;show Reps K H (d::l.take n) (v::us.take n);unfold Reps;exact⟨v,_,rfl,h2,Reps.take n h3⟩
theorem Reps.drop:∀{l:η Dt}{vs:η V}(n:Nat),Reps K H l vs->Reps K H (l.drop n) (vs.drop n)
 |_,_,0,h=>h
 |[],vs,n+1,h=>by unfold Reps at h;rw[h];simp[Reps]
 |d::l,vs,n+1,h=>by unfold Reps at h;obtain⟨v,us,rfl,h2,h3⟩:=h;exact Reps.drop n h3
variable{u:η (Key×V)}
section
variable{X:Cx}{J1:η (J9×Obj)}{σ:St}{H:Hp}{s:qa5}{K:xA9}
theorem Inv.notBoth{ys:η V}(I:Inv X J1 σ H s)(h:SqL X.K H a xs)(h':SqT X.K H a ys):False:=by obtain⟨J8,r,O,_⟩:=I.list h;obtain⟨its',r',pt,_⟩:=I.tuple h';obtain⟨o,n,e,U,_⟩:=O;obtain⟨o',L,q,_⟩:=pt;rw[e]at L;cases L;rw[U]at q;injection q with z;exact absurd z Ω
def E1{w:η (Key×V)}(h:Rd H a (.dK u))(h':Rd H a (.dK w)):u=w:=by rcases h with h|⟨o,h⟩<;>rcases h' with h'|⟨o',h'⟩<;>rw[h]at h'<;>cases h'<;>rfl
def E2{u w:η (η Key×V)}(h:Rd H a (.dT u))(h':Rd H a (.dT w)):u=w:=by rcases h with h|⟨o,h⟩<;>rcases h' with h'|⟨o',h'⟩<;>rw[h]at h'<;>cases h'<;>rfl
def ko{u:HO}(h:Rd H a u):∃o,H a=ς o:=by
 rcases h with h|⟨o,h⟩
 .exact⟨_,h⟩
 .exact⟨_,h⟩
def Inv.kNone(I:Inv X J1 σ H s){o:Obj}(h:X.K.lookup a=ς o):H a=ψ:=(I.bs a o (I.ok.mod.kin a o h)).2
def Inv.sqT_dK(I:Inv X J1 σ H s)(h:SqT X.K H a xs)(h':Rd H a (.dK u)):False:=by
 rcases h with h|⟨o,_,_,h,_⟩
 .rcases h' with h'|⟨o',h'⟩<;>rw[h]at h'<;>cases h'
 .obtain⟨o',e⟩:=ko h';rw[I.kNone h]at e;cases e
def Inv.sqT_dT(I:Inv X J1 σ H s){u:η (η Key×V)}(h:SqT X.K H a xs)(h':Rd H a (.dT u)):False:=by
 rcases h with h|⟨o,_,_,h,_⟩
 .rcases h' with h'|⟨o',h'⟩<;>rw[h]at h'<;>cases h'
 .obtain⟨o',e⟩:=ko h';rw[I.kNone h]at e;cases e
def Inv.sqL_dK(I:Inv X J1 σ H s)(h:SqL X.K H a xs)(h':Rd H a (.dK u)):False:=by
 rcases h with h|⟨o,_,_,h,_⟩
 .rcases h with h|⟨o,h⟩<;>rcases h' with h'|⟨o',h'⟩<;>rw[h]at h'<;>cases h'
 .obtain⟨o',e⟩:=ko h';rw[I.kNone h]at e;cases e
def Inv.sqL_dT(I:Inv X J1 σ H s){u:η (η Key×V)}(h:SqL X.K H a xs)(h':Rd H a (.dT u)):False:=by
 rcases h with h|⟨o,_,_,h,_⟩
 .rcases h with h|⟨o,h⟩<;>rcases h' with h'|⟨o',h'⟩<;>rw[h]at h'<;>cases h'
 .obtain⟨o',e⟩:=ko h';rw[I.kNone h]at e;cases e
def we{w:η (η Key×V)}(h:Rd H a (.dK u))(h':Rd H a (.dT w)):False:=by rcases h with h|⟨o,h⟩<;>rcases h' with h'|⟨o',h'⟩<;>rw[h]at h'<;>cases h'
noncomputable def c6:Dt->Nat
 |.non=>0
 |.bl _=>1
 |.int _=>2
 |.str _=>3
 |.t _=>4
 |.e _=>5
 |.dct _ _=>6
 |.dcT _ _=>7
def dU(I:Inv X J1 σ H s){d e:Dt}(h:Rep X.K H d v)(h':Rep X.K H e v):c6 d=c6 e:=by
 cases d<;>cases e<;>first
  |rfl
  |(simp only[Rep]at h h';subst h;cases h';done)
  |(simp only[Rep]at h h';obtain⟨_,_,e,_⟩:=h';rw[h]at e;cases e;done)
  |(simp only[Rep]at h h';obtain⟨_,_,e,_⟩:=h;rw[h']at e;cases e;done)
  | (simp only[Rep]at h h';obtain⟨_,_,rfl,h2,_⟩:=h;obtain⟨_,_,e,q,_⟩:=h';cases e
     first
      |exact(I.sqT_dK h2 q).elim
      |exact(I.sqT_dK q h2).elim
      |exact(I.sqT_dT h2 q).elim
      |exact(I.sqT_dT q h2).elim
      |exact(I.notBoth h2 q).elim
      |exact(I.notBoth q h2).elim
      |exact(I.sqL_dK h2 q).elim
      |exact(I.sqL_dK q h2).elim
      |exact(I.sqL_dT h2 q).elim
      |exact(I.sqL_dT q h2).elim
      |exact(we h2 q).elim
      |exact(we q h2).elim)
mutual
theorem nQ(I:Inv X J1 σ H s):∀(d e:Dt)(v:V),Rep X.K H d v->Rep X.K H e v->peq d e=θ:=fun d=>by
 match d with
 |.t l=>
  intro e v h h';have hk:=dU I h h';cases e<;>first|(simp[c6]at hk;done)|skip
  simp only[Rep]at h h';obtain⟨a,vs,rfl,h2,h3⟩:=h;obtain⟨b,ws,e,h2',h3'⟩:=h';cases e;have:=I.tuple_inj h2 h2';subst this;simp only[peq];exact reps_inj I l _ _ h3 h3'
 |.e l=>
  intro e v h h';have hk:=dU I h h';cases e<;>first|(simp[c6]at hk;done)|skip
  simp only[Rep]at h h';obtain⟨a,vs,rfl,h2,h3⟩:=h;obtain⟨b,ws,e,h2',h3'⟩:=h';cases e;have:=I.list_inj h2 h2';subst this;simp only[peq];exact reps_inj I l _ _ h3 h3'
 |.dct ks l=>
  intro e v h h';have hk:=dU I h h';cases e<;>first|(simp[c6]at hk;done)|skip
  simp only[Rep]at h h';obtain⟨a,vs,rfl,h2,h3,h4⟩:=h;obtain⟨b,ws,e,h2',h3',h4'⟩:=h';cases e;have:=E1 h2 h2';subst this;subst h3 h3';simp only[peq,decide_true,qi9];exact reps_inj I l _ _ h4 h4'
 |.dcT ks l=>
  intro e v h h';have hk:=dU I h h';cases e<;>first|(simp[c6]at hk;done)|skip
  simp only[Rep]at h h';obtain⟨a,vs,rfl,h2,h3,h4⟩:=h;obtain⟨b,ws,e,h2',h3',h4'⟩:=h';cases e;have:=E2 h2 h2';subst this;subst h3 h3';simp only[peq,decide_true,qi9];exact reps_inj I l _ _ h4 h4'
 |.non=>intro e v h h';have hk:=dU I h h';cases e<;>first|(simp[c6]at hk;done)|simp only[peq]
 |.bl b=>intro e v h h';have hk:=dU I h h';cases e<;>first|(simp[c6]at hk;done)|(simp only[Rep]at h h';rw[h]at h';cases h';exact iV _)
 |.int b=>intro e v h h';have hk:=dU I h h';cases e<;>first|(simp[c6]at hk;done)|(simp only[Rep]at h h';rw[h]at h';cases h';exact iV _)
 |.str b=>intro e v h h';have hk:=dU I h h';cases e<;>first|(simp[c6]at hk;done)|(simp only[Rep]at h h';rw[h]at h';cases h';exact iV _)
theorem reps_inj(I:Inv X J1 σ H s):∀(l m:η Dt)(vs:η V),Reps X.K H l vs->Reps X.K H m vs->peqs l m=θ:=fun l=>by
 match l with
 |[]=>
  intro m vs h h';cases m with
  |nil=>simp only[peqs]
  |cons e m=>unfold Reps at h h';obtain⟨v,ws,e,_⟩:=h';rw[h]at e;cases e
 |d::l=>
  intro m vs h h';cases m with
  |nil=>unfold Reps at h h';obtain⟨v,ws,e,_⟩:=h;rw[h']at e;cases e
  |cons e m=>unfold Reps at h h';obtain⟨v,ws,rfl,h2,h3⟩:=h;obtain⟨v',ws',e',h2',h3'⟩:=h';cases e';simp only[peqs,nQ I d _ _ h2 h2',reps_inj I l _ _ h3 h3',qv7]
end
end
end L2
namespace L2
open PySem PySem.Spec PyProof.Rows
mutual
def dX:Dt->Dt->Bool
 |.t l,.t m=>cmpbs l m
 |.e l,.e m=>cmpbs l m
 |d,e=>decide (c6 d<4)&&decide (c6 e<4)
def cmpbs:η Dt->η Dt->Bool
 |d::l,e::m=>dX d e&&cmpbs l m
 |_,_=>θ
end
theorem fL:∀{l m:η Dt}{j:Nat}{d e:Dt},cmpbs l m=θ->l[j]?=ς d->m[j]?=ς e->dX d e=θ
 |[],_,j,d,e,_,h,_=>by simp at h
 |_::_,[],j,d,e,_,_,h=>by simp at h
 |d0::l,e0::m,0,d,e,h,h1,h2=>by simp only[cmpbs,qb3]at h;simp at h1 h2;subst h1 h2;exact h.1
 |d0::l,e0::m,j+1,d,e,h,h1,h2=>by simp only[cmpbs,qb3]at h;exact fL (j:=j) h.2 (by simpa using h1) (by simpa using h2)
theorem gU:∀{l:η Dt}{j:Nat}{d:Dt},l[j]?=ς d->f6 d<=deeps l
 |[],j,d,h=>by simp at h
 |d0::l,0,d,h=>by simp at h;subst h;simp only[deeps];exact Nat.le_max_left ..
 |d0::l,j+1,d,h=>by simp only[deeps];exact qb9 (gU (j:=j) (by simpa using h)) (Nat.le_max_right ..)
def c7(l m:η Dt)(j:Nat):Bool:=peq (l.getD j .non) (m.getD j .non)
theorem e8:∀(l m:η Dt),peqs l m=((qd0 (min l.length m.length)).all (c7 l m)&&l.length==m.length)
 |[],[]=>by simp[peqs]
 |[],_::_=>by simp[peqs]
 |_::_,[]=>by simp[peqs]
 |d::l,e::m=>by
  have L:=e8 l m;simp only[peqs,L,qd2];rw[show min (l.length+1) (m.length+1)=min l.length m.length+1 by lia,List.range_succ_eq_map,qk5,List.all_map];have O:c7 (d::l) (e::m) 0=peq d e:=rfl
  have U:(c7 (d::l) (e::m) ∘ Nat.succ)=c7 l m:=by funext j;rfl
  have q:(l.length+1==m.length+1)=(l.length==m.length):=by rw[qj8];simp
  rw[O,U,q,Bool.and_assoc]
variable{K:xA9}
section
variable{X:Cx}{J1:η (J9×Obj)}{σ:St}{H:Hp}{s:qa5}
def dm{l:η Dt}{vs:η V}{J8:η Vz}(h:Reps X.K H l vs)(r:Vals vs J8){j:Nat}(O:j<J8.length):∃d v,l[j]?=ς d/\Rep X.K H d v/\RelV v J8[j]:=by
 have L:j<l.length:=by rw[<- h.length,r.length];exact O
 obtain⟨v,Y,W⟩:=h.get (i:=j) (d:=l[j]) (by simp[L]);obtain⟨u,q,U⟩:=r.get Y
 have:J8[j]=u:=by have:=gQ O;rw[this]at q;exact qd9 q
 exact⟨l[j],v,by simp[L],W,by rw[this];exact U⟩
def Bd(I:Inv X J1 σ H s):∀(n:Nat){A:qe0}{d e:Dt}{v w:V}{u u':Vz},f6 d<=n->A.units+n<cLine->dX d e=θ->Rep X.K H d v->Rep X.K H e w->RelV v u->RelV w u'->qg8 A s u u' (peq d e):=by
 intro n;induction n with
 |zero=>
  intro A d e v w u u' hd hu O h h' r r'
  cases d<;>cases e<;>first
   |(simp only[Rep]at h h';subst h h';exact jz r r' rfl rfl)
   |(simp only[f6]at hd;lia)
   |(simp[dX,c6]at O)
 |succ n ih=>
  intro A d e v w u u' hd hu O h h' r r';cases d with
  |t l=>
   cases e with
   |t m=>
    have h0:=h;have h0':=h';simp only[Rep]at h h';obtain⟨a,vs,rfl,h2,h3⟩:=h;obtain⟨b,ws,rfl,q,W⟩:=h';cases r;cases r';by_cases U:a=b
    .subst U;have:=nQ I _ _ _ h0 h0';rw[this];exact ze6 _
    obtain⟨J8,rv,pt,_⟩:=I.tuple h2;obtain⟨its',Z,pt',_⟩:=I.tuple q;have n1:J8.length=l.length:=by rw[<- h3.length,rv.length]
    have n2:its'.length=m.length:=by rw[<- W.length,Z.length]
    simp only[peq];rw[e8,<- n1,<- n2];simp only[f6]at hd;simp only[dX]at O
    have key:=qz8.tuples (A:=A) (e:=c7 l m) pt pt' Θ (fun j h1 h2=>by
     have h1':j<J8.length:=by simpa using h1
     have q:j<its'.length:=by simpa using h2
     obtain⟨d,v,g1,g2,g3⟩:=dm h3 rv h1';obtain⟨e,w,Y,g2',g3'⟩:=dm W Z q;have:c7 l m j=peq d e:=by unfold c7;rw[qb5,qb5,g1,Y];rfl
     rw[this];have:=ih (A:=A.in1) (qb9 (gU g1) Θ) (show A.units+1+n<cLine by lia) (fL O g1 Y) g2 g2' g3 g3';simpa using this)
    have key':qz8 A s (.ref a) (.ref b) ((qd0 (min J8.length its'.length)).all (c7 l m)&&J8.length==its'.length):=by simpa using key
    exact qy7 U key'
   |_=>exact absurd O (by simp[dX,c6])
  |e l=>
   cases e with
   |e m=>
    have h0:=h;have h0':=h';simp only[Rep]at h h';obtain⟨a,vs,rfl,h2,h3⟩:=h;obtain⟨b,ws,rfl,q,W⟩:=h';cases r;cases r';by_cases U:a=b
    .subst U;have:=nQ I _ _ _ h0 h0';rw[this];exact ze6 _
    obtain⟨J8,rv,pt,_⟩:=I.list h2;obtain⟨its',Z,pt',_⟩:=I.list q;have n1:J8.length=l.length:=by rw[<- h3.length,rv.length]
    have n2:its'.length=m.length:=by rw[<- W.length,Z.length]
    simp only[peq];rw[e8,<- n1,<- n2];simp only[f6]at hd;simp only[dX]at O;by_cases L:J8.length=its'.length
    .have key:=qz8.lists (A:=A) (e:=c7 l m) pt.isList pt'.isList (by simpa using L) Θ (fun j h1 h2=>by
      have h1':j<J8.length:=by simpa using h1
      have q:j<its'.length:=by simpa using h2
      obtain⟨d,v,g1,g2,g3⟩:=dm h3 rv h1';obtain⟨e,w,Y,g2',g3'⟩:=dm W Z q;have:c7 l m j=peq d e:=by unfold c7;rw[qb5,qb5,g1,Y];rfl
      rw[this];have:=ih (A:=A.in1) (qb9 (gU g1) Θ) (show A.units+1+n<cLine by lia) (fL O g1 Y) g2 g2' g3 g3';simpa using this)
     have e1:(J8.length==its'.length)=θ:=by simpa using L
     rw[e1,qo2,show min J8.length its'.length=J8.length by lia];exact qy7 U (by simpa using key)
    .have e1:(J8.length==its'.length)=ξ:=by simpa using L
     rw[e1,qu1];exact qy7 U (qz9 pt.isList pt'.isList (by simpa using L) Θ)
   |_=>exact absurd O (by simp[dX,c6])
  |non=>cases e<;>first|(simp only[Rep]at h h';subst h h';exact jz r r' rfl rfl)|(simp[dX,c6]at O)
  |bl b=>cases e<;>first|(simp only[Rep]at h h';subst h h';exact jz r r' rfl rfl)|(simp[dX,c6]at O)
  |int b=>cases e<;>first|(simp only[Rep]at h h';subst h h';exact jz r r' rfl rfl)|(simp[dX,c6]at O)
  |str b=>cases e<;>first|(simp only[Rep]at h h';subst h h';exact jz r r' rfl rfl)|(simp[dX,c6]at O)
  |dct ks l=>cases e<;>(simp[dX,c6]at O)
  |dcT ks l=>cases e<;>(simp[dX,c6]at O)
def Be (I:Inv X J1 σ H s) {A:qe0} {d e:Dt} {v w:V} {u u':Vz} (hq:(∃ l m,d=.t l/\e=.t m)∨∃ l m,d=.e l/\e=.e m) (hu:A.units+f6 d<cLine) (hc:dX d e=θ) (h:Rep X.K H d v) (h':Rep X.K H e w) (r:RelV v u) (r':RelV w u') :
  qz8 A s u u' (peq d e)/\ze8 A s u u' (!peq d e):=by
 rcases hq with ⟨l,m,rfl,rfl⟩|⟨l,m,rfl,rfl⟩
 .simp only[Rep]at h h';obtain⟨a,vs,rfl,h2,h3⟩:=h;obtain⟨b,ws,rfl,O,Y⟩:=h';cases r;cases r';obtain⟨J8,rv,pt,_⟩:=I.tuple h2;obtain⟨its',W,L,_⟩:=I.tuple O;have n1:J8.length=l.length:=by rw[<- h3.length,rv.length]
  have n2:its'.length=m.length:=by rw[<- Y.length,W.length]
  simp only[peq];rw[e8,<- n1,<- n2];simp only[f6]at hu;simp only[dX]at hc
  have he:∀j (h1:j<J8.toArray.size)(h2:j<its'.toArray.size),qg8 A.in1 s J8.toArray[j] its'.toArray[j] (c7 l m j):=fun j h1 h2=>by
   have Z:j<J8.length:=by simpa using h1
   have O:j<its'.length:=by simpa using h2
   obtain⟨d,v,g1,g2,g3⟩:=dm h3 rv Z;obtain⟨e,w,U,g2',g3'⟩:=dm Y W O;have:c7 l m j=peq d e:=by unfold c7;rw[qb5,qb5,g1,U];rfl
   rw[this];have:=Bd I (deeps l) (A:=A.in1) (gU g1) (show A.units+1+deeps l<cLine by lia) (fL hc g1 U) g2 g2' g3 g3';simpa using this
  exact⟨by simpa using qz8.tuples (A:=A) (e:=c7 l m) pt L Θ he,by simpa using ze8.tuples (A:=A) (e:=c7 l m) pt L Θ he⟩
 .simp only[Rep]at h h';obtain⟨a,vs,rfl,h2,h3⟩:=h;obtain⟨b,ws,rfl,O,Y⟩:=h';cases r;cases r';obtain⟨J8,rv,pt,_⟩:=I.list h2;obtain⟨its',W,L,_⟩:=I.list O;have n1:J8.length=l.length:=by rw[<- h3.length,rv.length]
  have n2:its'.length=m.length:=by rw[<- Y.length,W.length]
  simp only[peq];rw[e8,<- n1,<- n2];simp only[f6]at hu;simp only[dX]at hc;by_cases q:J8.length=its'.length
  .have he:∀j (h1:j<J8.toArray.size)(h2:j<its'.toArray.size),qg8 A.in1 s J8.toArray[j] its'.toArray[j] (c7 l m j):=fun j h1 h2=>by
    have Z:j<J8.length:=by simpa using h1
    have O:j<its'.length:=by simpa using h2
    obtain⟨d,v,g1,g2,g3⟩:=dm h3 rv Z;obtain⟨e,w,U,g2',g3'⟩:=dm Y W O;have:c7 l m j=peq d e:=by unfold c7;rw[qb5,qb5,g1,U];rfl
    rw[this];have:=Bd I (deeps l) (A:=A.in1) (gU g1) (show A.units+1+deeps l<cLine by lia) (fL hc g1 U) g2 g2' g3 g3';simpa using this
   have e1:(J8.length==its'.length)=θ:=by simpa using q
   rw[e1,qo2,show min J8.length its'.length=J8.length by lia];exact⟨by simpa using qz8.lists (A:=A) (e:=c7 l m) pt.isList L.isList (by simpa using q) Θ he,by simpa using ze8.lists (A:=A) (e:=c7 l m) pt.isList L.isList (by simpa using q) Θ he⟩
  .have e1:(J8.length==its'.length)=ξ:=by simpa using q
   rw[e1,qu1];exact⟨qz9 pt.isList L.isList (by simpa using q) Θ,ze8.lists_lengths pt.isList L.isList (by simpa using q) Θ⟩
def zJ(K:xA9)(neg:Bool):R2:=fun x y H Q=>∃d e,((∃l m,d=.t l/\e=.t m)∨∃l m,d=.e l/\e=.e m)/\Rep K H d x/\Rep K H e y/\dX d e=θ/\f6 d<=60/\Q (.bl (if neg then !peq d e else peq d e)) H
def CO{k:Nat}(U:Room k X.A)(Z:X.K=K):OpR X (qf7 .Eq) (zJ K ξ):=by subst Z;intro J1 s σ H x y v u Q I rx O h;obtain⟨d,e,hq,Y,L,hc,W,q⟩:=h;have hu:=U.units;exact(Be I hq Θ hc Y L rx O).1 _ _ _ _ ⟨.bl (peq d e),H,I,rfl,q⟩
def CP{k:Nat}(U:Room k X.A)(Z:X.K=K):OpR X (qf7 .NotEq) (zJ K θ):=by subst Z;intro J1 s σ H x y v u Q I rx O h;obtain⟨d,e,hq,Y,L,hc,W,q⟩:=h;have hu:=U.units;exact(Be I hq Θ hc Y L rx O).2 _ _ _ _ ⟨.bl (!peq d e),H,I,rfl,q⟩
end
end L2
namespace L2
open PySem PySem.Spec PyProof.Rows
abbrev NT(o:HO):Prop:=∀vs,o≠.t vs
structure Step(F H F' H':Hp):Prop where
 hh:Same H H'
 ff:Same F F'
 fh:Same F' H'
 nw:∀b o,F' b=ς o->F b=ς o∨H b=ψ∨∃vs,H b=ς (.t vs)
variable{u:HO}
section
variable{F H F' H' F1 H1:Hp}{p:J9}{o:HO}
def Step.refl(h:Same F H):Step F H F H:=⟨Same.refl _,Same.refl _,h,fun _ _ e=>.inl e⟩
def Step.trans(a:Step F H F1 H1)(b:Step F1 H1 F' H'):Step F H F' H':=
 ⟨a.hh.trans b.hh,a.ff.trans b.ff,b.fh,fun c o e=>by
  rcases b.nw c o e with z|z|⟨vs,z⟩
  .exact a.nw c o z
  .exact .inr (.inl (a.hh.free z))
  .cases q:H c with
   |none=>exact .inr (.inl rfl)
   |some u=>have:=a.hh c u q;rw[z]at this;cases this;exact .inr (.inr ⟨vs,rfl⟩)⟩
def Same.upd(hp:H p=ψ):Same H (upd H p o):=fun b u e=>by rw[aF (bX e hp)];exact e
def Step.new(h:Same F H)(hp:H p=ψ):Step F H (upd F p o) (upd H p o) where
 hh:=Same.upd hp
 ff:=Same.upd (h.free hp)
 fh:=fun b u e=>by
  by_cases q:b=p
  .subst q;rw[aU]at e ⊢;exact e
  .rw[aF q]at e ⊢;exact h _ _ e
 nw:=fun b u e=>by
  by_cases q:b=p
  .subst q;exact .inr (.inl hp)
  .rw[aF q]at e;exact .inl e
def Step.keepN{b:J9}(st:Step F H F' H')(O:F b=ψ)(L:H b=ς u)(U:NT u:=by intro _ z;cases z):F' b=ψ:=by
 cases q:F' b with
 |none=>rfl
 |some o'=>
  rcases st.nw b o' q with z|z|⟨vs,z⟩
  .rw[O]at z;cases z
  .rw[L]at z;cases z
  .rw[L]at z;cases z;exact absurd rfl (U vs)
def Step.made(h:Same F H)(hp:H p=ψ):Step F H F (upd H p o) where
 hh:=Same.upd hp
 ff:=Same.refl _
 fh:=h.trans (Same.upd hp)
 nw:=fun b u e=>.inl e
end
inductive T where
 |f (d:Dt)|e (l:List Dt)|dct (l:List (Key×Dt))|dcT (l:List (List Key×Dt))|fn (a:J9) (F0:Hp)
noncomputable def T.d:T->ζ Dt
 |.f d=>ς d
 |.e l=>ς (.e l)
 |.dct l=>ς (.dct (l.map (·.1)) (l.map (·.2)))
 |.dcT l=>ς (.dcT (l.map (·.1)) (l.map (·.2)))
 |.fn _ _=>ψ
def T.own:T->Bool
 |.f _|.fn _ _=>ξ
 |_=>θ
def Own(K:xA9)(F H:Hp):T->V->(J9->Prop)->Prop
 |.f d,v,_=>Rep K F d v
 |.e l,v,S=>∃a vs,v=.ref a/\S a/\H a=ς (.e vs)/\Reps K F l vs
 |.dct l,v,S=>∃a J6,v=.ref a/\S a/\H a=ς (.dK J6)/\J6.map (·.1)=l.map (·.1)/\Reps K F (l.map (·.2)) (J6.map (·.2))
 |.dcT l,v,S=>∃a J6,v=.ref a/\S a/\H a=ς (.dT J6)/\J6.map (·.1)=l.map (·.1)/\Reps K F (l.map (·.2)) (J6.map (·.2))
 |.fn a F0,v,_=>v=.ref a/\Same F0 F
def RepB(K:xA9)(F H:Hp):Dt->V->Prop
 |.e l,v=>∃a vs,v=.ref a/\SqL K H a vs/\Reps K F l vs
 |.dct ks l,v=>∃a J6,v=.ref a/\Rd H a (.dK J6)/\J6.map (·.1)=ks/\Reps K F l (J6.map (·.2))
 |.dcT ks l,v=>∃a J6,v=.ref a/\Rd H a (.dT J6)/\J6.map (·.1)=ks/\Reps K F l (J6.map (·.2))
 |.non,v=>v=.non
 |.bl b,v=>v=.bl b
 |.int i,v=>v=.int i
 |.str x,v=>v=.str x
 |.t l,v=>∃a vs,v=.ref a/\SqT K F a vs/\Reps K F l vs
variable{S':J9->Prop}
section
variable{K:xA9}{F H F' H':Hp}{t:T}{v:V}{d:Dt}{S:J9->Prop}
def Own.step(L:Same F F')(O:∀b o,S b->H b=ς o->H' b=ς o)(h:Own K F H t v S):Own K F' H' t v S:=by
 induction t with
 |f d=>exact Rep.same L h
 |e l=>obtain⟨a,vs,e,q,h1,h2⟩:=h;exact⟨a,vs,e,q,O _ _ q h1,h2.same L⟩
 |dct l=>obtain⟨a,vs,e,q,h1,h2,h3⟩:=h;exact⟨a,vs,e,q,O _ _ q h1,h2,h3.same L⟩
 |dcT l=>obtain⟨a,vs,e,q,h1,h2,h3⟩:=h;exact⟨a,vs,e,q,O _ _ q h1,h2,h3.same L⟩
 |fn a F0=>exact⟨h.1,h.2.trans L⟩
def Own.grow(L:∀b,S b->S' b)(h:Own K F H t v S):Own K F H t v S':=by
 induction t with
 |f d=>exact h
 |e l=>obtain⟨a,vs,e,q,h1⟩:=h;exact⟨a,vs,e,L _ q,h1⟩
 |dct l=>obtain⟨a,vs,e,q,h1⟩:=h;exact⟨a,vs,e,L _ q,h1⟩
 |dcT l=>obtain⟨a,vs,e,q,h1⟩:=h;exact⟨a,vs,e,L _ q,h1⟩
 |fn a F0=>exact h
def RepB.of(q:Same F H)(h:Rep K F d v):RepB K F H d v:=by
 cases d with
 |e l=>simp only[Rep]at h;obtain⟨a,vs,e,h1,h2⟩:=h;exact⟨a,vs,e,q.seq h1,h2⟩
 |dct ks l=>simp only[Rep]at h;obtain⟨a,vs,e,h1,h2⟩:=h;exact⟨a,vs,e,q.rd h1,h2⟩
 |dcT ks l=>simp only[Rep]at h;obtain⟨a,vs,e,h1,h2⟩:=h;exact⟨a,vs,e,q.rd h1,h2⟩
 |t l=>simp only[Rep]at h;exact h
 |_=>simp only[Rep]at h;exact h
def RepB.rep(q:Same F H)(h:RepB K F H d v):Rep K H d v:=by
 cases d with
 |e l=>obtain⟨a,vs,e,h1,h2⟩:=h;simp only[Rep];exact⟨a,vs,e,h1,h2.same q⟩
 |dct ks l=>obtain⟨a,vs,e,h1,h2,h3⟩:=h;simp only[Rep];exact⟨a,vs,e,h1,h2,h3.same q⟩
 |dcT ks l=>obtain⟨a,vs,e,h1,h2,h3⟩:=h;simp only[Rep];exact⟨a,vs,e,h1,h2,h3.same q⟩
 |t l=>obtain⟨a,vs,e,h1,h2⟩:=h;simp only[Rep];exact⟨a,vs,e,q.tup h1,h2.same q⟩
 |_=>simp only[Rep];exact h
def RepB.step(q:Same F F')(L:Same H H')(h:RepB K F H d v):RepB K F' H' d v:=by
 cases d with
 |e l=>obtain⟨a,vs,e,h1,h2⟩:=h;exact⟨a,vs,e,L.seq h1,h2.same q⟩
 |dct ks l=>obtain⟨a,vs,e,h1,h2,h3⟩:=h;exact⟨a,vs,e,L.rd h1,h2,h3.same q⟩
 |dcT ks l=>obtain⟨a,vs,e,h1,h2,h3⟩:=h;exact⟨a,vs,e,L.rd h1,h2,h3.same q⟩
 |t l=>obtain⟨a,vs,e,h1,h2⟩:=h;exact⟨a,vs,e,q.tup h1,h2.same q⟩
 |_=>exact h
def Own.repB(L:Same F H)(h:Own K F H t v S)(q:t.d=ς d):RepB K F H d v:=by
 cases t with
 |f d=>cases q;exact RepB.of L h
 |e l=>cases q;obtain⟨a,vs,e,_,h1,h2⟩:=h;exact⟨a,vs,e,SqL.of h1,h2⟩
 |dct l=>cases q;obtain⟨a,vs,e,_,h1,h2⟩:=h;exact⟨a,vs,e,.inl h1,h2⟩
 |dcT l=>cases q;obtain⟨a,vs,e,_,h1,h2⟩:=h;exact⟨a,vs,e,.inl h1,h2⟩
 |fn a F0=>cases q
open Classical in
def qB(F H:Hp)(S:J9->Prop):Hp:=fun b=>if S b then H b else F b
def kr{b:J9}(h:S b):qB F H S b=H b:=if_pos h
def gW{b:J9}(h:¬ S b):qB F H S b=F b:=if_neg h
def nR(q:∀b,S b->F b=ψ):Same F (qB F H S):=fun b o e=>by
 have:¬ S b:=fun z=>by rw[q b z]at e;cases e
 rw[gW this];exact e
def sB(q:Same F H):Same (qB F H S) H:=fun b o e=>by
 by_cases h:S b
 .rw[kr h]at e;exact e
 .rw[gW h]at e;exact q _ _ e
def Own.freeze(U:∀b,S b->F b=ψ)(h:Own K F H t v S)(L:t.d=ς d):Rep K (qB F H S) d v:=by
 have O:=nR (H:=H) U;cases t with
 |f d=>cases L;exact Rep.same O h
 |e l=>cases L;obtain⟨a,vs,e,q,h1,h2⟩:=h;simp only[Rep];exact⟨a,vs,e,SqL.of (by rw[kr q];exact h1),h2.same O⟩
 |dct l=>cases L;obtain⟨a,vs,e,q,h1,h2,h3⟩:=h;simp only[Rep];exact⟨a,vs,e,.inl (by rw[kr q];exact h1),h2,h3.same O⟩
 |dcT l=>cases L;obtain⟨a,vs,e,q,h1,h2,h3⟩:=h;simp only[Rep];exact⟨a,vs,e,.inl (by rw[kr q];exact h1),h2,h3.same O⟩
 |fn a F0=>cases L
end
abbrev Ix:=Nat
abbrev De:=η (ζ T)
structure Sep(K:xA9)(F H:Hp)(B:J9->Prop)(L:Ix->Option (T×V))(S:Ix->J9->Prop):Prop where
 own:∀i t v,L i=ς (t,v)->Own K F H t v (S i)
 out:∀i b,S i b->F b=ψ/\(∃o,H b=ς o/\NT o)/\B b
 dis:∀i j b,S i b->S j b->i=j
noncomputable def pe(δ:De)(σ:St)(i:Nat):ζ (T×V):=match δ[i]?,σ[i]? with
 |some (ς t),ς (ς v)=>ς (t,v)
 |_,_=>ψ
structure Fm where
 K:xA9
 F0:Hp
 H0:Hp
 S0:J9->Prop
def Fm.B(Φ:Fm)(b:J9):Prop:=Φ.H0 b=ψ∨Φ.S0 b
structure En(Φ:Fm)(δ:De)(σ:St)(F H:Hp):Prop where
 fh:Same F H
 prot:∀b o,Φ.H0 b=ς o->¬ Φ.S0 b->H b=ς o
 old:Same Φ.F0 F
 nw:∀b o,F b=ς o->Φ.F0 b=ς o∨Φ.B b∨∃vs,Φ.H0 b=ς (.t vs)
 len:δ.length=σ.length
 has:∀(i:Nat)(t:T),δ[i]?=ς (ς t)->∃v,σ[i]?=ς (ς v)
 sep:∃S,Sep Φ.K F H Φ.B (pe δ σ) S
variable{i j:Nat}{v:V}{p a:J9}{K:xA9}
section
variable{Φ:Fm}{δ:De}{σ:St}{F H F' H':Hp}
def cq{t:T}(h1:δ[i]?=ς (ς t))(h2:σ[i]?=ς (ς v)):pe δ σ i=ς (t,v):=by unfold pe;rw[h1,h2]
def dY{t:T}(h:pe δ σ i=ς (t,v)):δ[i]?=ς (ς t)/\σ[i]?=ς (ς v):=by
 unfold pe at h;split at h
 .rename_i q L;cases h;exact⟨q,L⟩
 .cases h
def En.fresh(e:En Φ δ σ F H)(hp:H p=ψ):Φ.B p:=by
 by_cases h:Φ.S0 p
 .exact .inr h
 .left;cases q:Φ.H0 p with
  |none=>rfl
  |some o=>rw[e.prot p o q h]at hp;cases hp
def Sep.step{B:J9->Prop}{L:Ix->ζ (T×V)}{S:Ix->J9->Prop}(s:Sep K F H B L S)(st:Step F H F' H'):Sep K F' H' B L S where
 own:=fun i t v h=>(s.own i t v h).step st.ff fun b o _ e=>st.hh b o e
 out:=fun i b h=>by obtain⟨h1,⟨o,h2,q⟩,h3⟩:=s.out i b h;exact⟨st.keepN h1 h2 q,⟨o,st.hh _ _ h2,q⟩,h3⟩
 dis:=s.dis
def En.step(e:En Φ δ σ F H)(st:Step F H F' H'):En Φ δ σ F' H' where
 fh:=st.fh
 prot:=fun b o h1 h2=>st.hh _ _ (e.prot b o h1 h2)
 old:=e.old.trans st.ff
 nw:=fun b o h=>by
  rcases st.nw b o h with z|z|⟨vs,z⟩
  .exact e.nw b o z
  .exact .inr (.inl (e.fresh z))
  .cases q:Φ.H0 b with
   |none=>exact .inr (.inl (.inl q))
   |some u=>
    by_cases L:Φ.S0 b
    .exact .inr (.inl (.inr L))
    .rw[e.prot b u q L]at z;cases z;exact .inr (.inr ⟨vs,rfl⟩)
 len:=e.len
 has:=e.has
 sep:=let ⟨S,s⟩:=e.sep;⟨S,s.step st⟩
def En.slot(e:En Φ δ σ F H){t:T}{d:Dt}(h:δ[i]?=ς (ς t))(L:t.d=ς d):∃v,σ[i]?=ς (ς v)/\RepB Φ.K F H d v:=by obtain⟨v,q⟩:=e.has i t h;obtain⟨S,s⟩:=e.sep;exact⟨v,q,(s.own i t v (cq h q)).repB e.fh L⟩
def En.leaf(e:En Φ δ σ F H){d:Dt}(h:δ[i]?=ς (ς (.f d))):∃v,σ[i]?=ς (ς v)/\Rep Φ.K F d v:=by obtain⟨v,q⟩:=e.has i _ h;obtain⟨S,s⟩:=e.sep;exact⟨v,q,s.own i _ v (cq h q)⟩
def dQ{α:Type}{l:η (ζ α)}{x y:ζ α}(h:(l.set i x)[j]?=ς y):(i=j/\y=x)∨(i≠j/\l[j]?=ς y):=by
 by_cases q:i=j
 .subst q;left;rw[List.getElem?_set]at h;simp only[if_true]at h;split at h
  .cases h;exact⟨rfl,rfl⟩
  .cases h
 .right;rw[gN q]at h;exact⟨q,h⟩
def En.put(e:En Φ δ σ F H){t:T}(st:Step F H F' H')(ho:Own Φ.K F' H' t v S')(hs:∀b,S' b->F' b=ψ/\H b=ψ/\∃o,H' b=ς o/\NT o)(i:Nat):En Φ (δ.set i (ς t)) (σ.set i (ς v)) F' H':=by
 have Y:=e.step st;obtain⟨S,s⟩:=e.sep;have s':=s.step st;refine⟨Y.fh,Y.prot,Y.old,Y.nw,by simp[e.len],fun j u h=>?_,fun j b=>if j=i then S' b else S j b,?_,?_,?_⟩
 .rcases dQ h with ⟨rfl,z⟩|⟨U,z⟩
  .have hi:i<σ.length:=by rw[<- e.len];have:=(gX h).1;simpa using this
   exact⟨v,by simp[hi]⟩
  .obtain⟨w,hw⟩:=e.has j u z;exact⟨w,by rw[gN U];exact hw⟩
 .intro j u w h;obtain⟨h1,h2⟩:=dY h;rcases dQ h1 with ⟨rfl,z⟩|⟨U,z⟩
  .rcases dQ h2 with ⟨_,O⟩|⟨Z,_⟩
   .cases z;cases O;show Own _ _ _ _ _ (fun b=>if i=i then S' b else S i b);simp only[if_true];exact ho
   .exact absurd rfl Z
  .rcases dQ h2 with ⟨O,_⟩|⟨_,O⟩
   .exact absurd O U
   .have:¬ j=i:=fun q=>U q.symm
    show Own _ _ _ _ _ (fun b=>if j=i then S' b else S j b);simp only[if_neg this];exact s'.own j u w (cq z O)
 .intro j b h;split at h
  .obtain⟨h1,h2,h3⟩:=hs b h;exact⟨h1,h3,e.fresh h2⟩
  .exact s'.out _ b h
 .have L:∀j b,S j b->¬ S' b:=fun j b h z=>by obtain⟨_,⟨o,h2,_⟩,_⟩:=s.out j b h;rw[(hs b z).2.1]at h2;cases h2
  intro j k b W hk;split at W<;>split at hk
  .rename_i q1 q2;rw[q1,q2]
  .exact absurd W (L _ b hk)
  .exact absurd hk (L _ b W)
  .exact s.dis _ _ b W hk
def uB{t:T}{S:J9->Prop}(L:t.own=θ)(h:Own K F H t (.ref a) S):S a:=by
 cases t with
 |f d=>cases L
 |e l=>obtain⟨b,_,e,q,_⟩:=h;cases e;exact q
 |dct l=>obtain⟨b,_,e,q,_⟩:=h;cases e;exact q
 |dcT l=>obtain⟨b,_,e,q,_⟩:=h;cases e;exact q
 |fn b F0=>cases L
def En.poke (e:En Φ δ σ F H) {t t':T} {o:HO} (h:δ[i]?=ς (ς t)) (L:σ[i]?=ς (ς (.ref a))) (ht:t.own=θ) (Z:∀ S:J9->Prop,S a->Own Φ.K F (upd H a o) t' (.ref a) S) (nt:NT o:=by intro _ z;cases z) :
  En Φ (δ.set i (ς t')) σ F (upd H a o):=by
 obtain⟨S,s⟩:=e.sep;have U:S i a:=uB ht (s.own i t _ (cq h L));obtain⟨fa,⟨oa,ha,_⟩,ba⟩:=s.out _ a U;have hi:i<δ.length:=(gX h).1;refine⟨fun b u z=>?_,fun b u h1 h2=>?_,e.old,e.nw,by simp[e.len],fun j u z=>?_,S,fun j u w z=>?_,fun j b z=>?_,s.dis⟩
 .have:b≠a:=fun q=>by rw[q,fa]at z;cases z
  rw[aF this];exact e.fh _ _ z
 .have:b≠a:=fun q=>by
   subst q;rcases ba with z|z
   .rw[z]at h1;cases h1
   .exact h2 z
  rw[aF this];exact e.prot b u h1 h2
 .rcases dQ z with ⟨rfl,_⟩|⟨W,z⟩
  .exact⟨_,L⟩
  .exact e.has j u z
 .obtain⟨h1,h2⟩:=dY z;rcases dQ h1 with ⟨rfl,O⟩|⟨W,O⟩
  .cases O;rw[L]at h2;cases h2;exact Z _ U
  .refine(s.own j u w (cq O h2)).step (Same.refl _) fun b q Y hq=>?_
   have:b≠a:=fun y=>by subst y;exact W (s.dis _ _ _ Y U).symm
   rw[aF this];exact hq
 .obtain⟨h1,⟨q,h2,n2⟩,h3⟩:=s.out j b z;refine⟨h1,?_,h3⟩;by_cases y:b=a
  .subst y;exact⟨o,aU,nt⟩
  .exact⟨q,by rw[aF y];exact h2,n2⟩
def En.freeze(e:En Φ δ σ F H){t:T}{d:Dt}(h:δ[i]?=ς (ς t))(hd:t.d=ς d):∃F',En Φ (δ.set i (ς (.f d))) σ F' H:=by
 obtain⟨S,s⟩:=e.sep;obtain⟨v,L⟩:=e.has i t h;have so:=s.own i t v (cq h L);have U:∀b,S i b->F b=ψ:=fun b z=>(s.out _ b z).1
 have Z:=nR (H:=H) U;refine⟨qB F H (S i),sB e.fh,e.prot,e.old.trans Z,fun b o z=>?_,by simp[e.len],fun j u z=>?_,fun j b=>S j b/\j≠i,fun j u w z=>?_,fun j b z=>?_,fun j k b h1 h2=>s.dis _ _ b h1.1 h2.1⟩
 .by_cases W:S i b
  .exact .inr (.inl (s.out _ b W).2.2)
  .rw[gW W]at z;exact e.nw b o z
 .rcases dQ z with ⟨rfl,_⟩|⟨Y,z⟩
  .exact⟨_,L⟩
  .exact e.has j u z
 .obtain⟨h1,h2⟩:=dY z;rcases dQ h1 with ⟨rfl,O⟩|⟨Y,O⟩
  .cases O;rw[L]at h2;cases h2;exact so.freeze U hd
  .refine((s.own j u w (cq O h2)).step Z fun _ _ _ q=>q).grow fun b q=>⟨q,fun y=>Y y.symm⟩
 .obtain⟨h1,h2,h3⟩:=s.out j b z.1;refine⟨?_,h2,h3⟩;rw[gW fun y=>z.2 (s.dis _ _ b z.1 y)];exact h1
end
def KO(K:xA9)(F H:Hp)(t:T)(Q:VK):Prop:=∀v H' F' S,Step F H F' H'->Own K F' H' t v S->(∀b,S b->F' b=ψ/\H b=ψ/\∃o,H' b=ς o/\NT o)->Q v H'
def KL(K:xA9)(F H:Hp)(d:Dt)(Q:VK):Prop:=∀v H' F',Step F H F' H'->Rep K F' d v->Q v H'
def KB(K:xA9)(F H:Hp)(d:Dt)(Q:VK):Prop:=∀v H' F',Step F H F' H'->RepB K F' H' d v->Q v H'
section
variable{K:xA9}{F H F1 H1:Hp}{t:T}{d:Dt}{Q:VK}
def KO.step(k:KO K F H t Q)(st:Step F H F1 H1):KO K F1 H1 t Q:=fun v H' F' S s o q=>k v H' F' S (st.trans s) o fun b z=>⟨(q b z).1,st.hh.free (q b z).2.1,(q b z).2.2⟩
def KO.leaf(k:KO K F H (.f d) Q):KL K F H d Q:=fun v H' F' st r=>k v H' F' (fun _=>False) st r fun _ z=>z.elim
def KL.here(k:KL K F H d Q)(q:Same F H)(r:Rep K F d v):Q v H:=k v H F (Step.refl q) r
def KB.to(k:KB K F H d Q):KL K F H d Q:=fun v H' F' st r=>k v H' F' st (RepB.of st.fh r)
def KL.to(O:t.d=ς d)(k:KL K F H d Q):KO K F H t Q:=fun v H' F' S st o q=>by
 refine k v H' (qB F' H' S) ⟨st.hh,st.ff.trans (nR fun b z=>(q b z).1),sB st.fh,fun b u z=>?_⟩ (o.freeze (fun b z=>(q b z).1) O);by_cases L:S b
 .exact .inr (.inl (q b L).2.1)
 .rw[gW L]at z;exact st.nw b u z
def KB.toO(q:t.d=ς d)(k:KB K F H d Q):KO K F H t Q:=fun v H' F' S st o L=>k v H' F' st (o.repB st.fh q)
end
def tO(K:xA9)(f:De->ζ T):TE:=fun σ H Q=>∃ Φ δ F t,Fm.K Φ=K/\En Φ δ σ F H/\f δ=ς t/\KO K F H t Q
def tL(K:xA9)(f:De->ζ Dt):TE:=fun σ H Q=>∃ Φ δ F d,Fm.K Φ=K/\En Φ δ σ F H/\f δ=ς d/\KL K F H d Q
def tBd(K:xA9)(f:De->ζ Dt):TE:=fun σ H Q=>∃ Φ δ F d,Fm.K Φ=K/\En Φ δ σ F H/\f δ=ς d/\KB K F H d Q
def tTr(K:xA9)(f:De->ζ Bool):TT:=fun σ H Q=>∃ Φ δ F b,Fm.K Φ=K/\En Φ δ σ F H/\f δ=ς b/\∀H' F',Step F H F' H'->Q b H'
def DO(X:Cx)(e:Jc)(f:De->ζ T):Prop:=PE X e (tO X.K f)
def DL(X:Cx)(e:Jc)(f:De->ζ Dt):Prop:=PE X e (tL X.K f)
def DB(X:Cx)(e:Jc)(f:De->ζ Dt):Prop:=PE X e (tBd X.K f)
def DT(X:Cx)(e:Jc)(f:De->ζ Bool):Prop:=PT X e (tTr X.K f)
def DW(X:Cx)(e:Jc)(f:De->ζ Bool):Prop:=PW X e (tTr X.K f)
variable{X:Cx}{e:Jc}{t':TE}
def PE.mono{t:TE}(h:PE X e t)(m:∀ σ H Q,t' σ H Q->t σ H Q):PE X e t':=fun J1 s σ H Q I q=>h J1 s σ H Q I (m _ _ _ q)
def PT.mono{t t':TT}(h:PT X e t)(m:∀ σ H Q,t' σ H Q->t σ H Q):PT X e t':=fun J1 s σ H Q I q=>h J1 s σ H Q I (m _ _ _ q)
def PW.mono{t t':TT}(h:PW X e t)(m:∀ σ H Q,t' σ H Q->t σ H Q):PW X e t':=fun L J1 s σ H Q I q=>h L J1 s σ H Q I (m _ _ _ q)
def PA.mono{e:η Jc}{t t':TA}(h:PA X e t)(m:∀ σ H Q,t' σ H Q->t σ H Q):PA X e t':=fun pos J1 s σ H Q I q=>h pos J1 s σ H Q I (m _ _ _ q)
variable{tg:Jc}
def PI.mono{t t':TI}(h:PI X tg e t)(m:∀ σ H Q,t' σ H Q->t σ H Q):PI X tg e t':=fun J1 s σ H Q I q=>h J1 s σ H Q I (m _ _ _ q)
def PG.mono{t t':TG}(h:PG X e t)(m:∀v σ H Q,t' v σ H Q->t v σ H Q):PG X e t':=fun J1 s σ H v u Q I r q=>h J1 s σ H v u Q I r (m _ _ _ _ q)
def PS.mono{e:Jb}{t t':TS}(h:PS X e t)(m:∀D σ H,t' D σ H->t D σ H):PS X e t':=fun J1 s σ H Q I q=>h J1 s σ H Q I (m _ _ _ q)
def PSs.mono{e:η Jb}{t t':TS}(h:PSs X e t)(m:∀D σ H,t' D σ H->t D σ H):PSs X e t':=fun J1 s σ H Q I q=>h J1 s σ H Q I (m _ _ _ q)
def PE.or{t:TE}(h:PE X e t)(h':PE X e t'):PE X e (fun σ H Q=>t σ H Q∨t' σ H Q):=fun J1 s σ H Q I q=>q.elim (h J1 s σ H Q I) (h' J1 s σ H Q I)
def PI.or{t t':TI}(h:PI X tg e t)(h':PI X tg e t'):PI X tg e (fun σ H Q=>t σ H Q∨t' σ H Q):=fun J1 s σ H Q I q=>q.elim (h J1 s σ H Q I) (h' J1 s σ H Q I)
variable{x:Str}{r:R2}{σ:St}{H:Hp}{Q:VK}{vs:η V}{n:Nat}{ds:η Dt}{ps:η Str}
section
variable{X:Cx}{e a b c:Jc}{f:De->ζ T}{g fa fb fc:De->ζ Dt}{pos:Pos}
def toD(f:De->ζ T):De->ζ Dt:=fun δ=>(f δ).bind T.d
def toT(f:De->ζ Dt):De->ζ T:=fun δ=>(f δ).map T.f
def Zl(h:DO X e f):DL X e (toD f):=PE.mono h fun σ H Q ⟨Φ,δ,F,d,L,U,O,k⟩=>by obtain⟨t,q,W⟩:=bS O;exact⟨Φ,δ,F,t,L,U,q,KL.to W k⟩
def Zq(h:DO X e f):DB X e (toD f):=PE.mono h fun σ H Q ⟨Φ,δ,F,d,L,U,O,k⟩=>by obtain⟨t,q,W⟩:=bS O;exact⟨Φ,δ,F,t,L,U,q,KB.toO W k⟩
def Zb(h:DL X e g):DB X e g:=PE.mono h fun σ H Q ⟨Φ,δ,F,d,q,O,L,k⟩=>⟨Φ,δ,F,d,q,O,L,k.to⟩
def Zo(h:DL X e g):DO X e (toT g):=PE.mono h fun σ H Q ⟨Φ,δ,F,t,O,U,q,k⟩=>by
 unfold toT at q;cases L:g δ with
 |none=>rw[L]at q;cases q
 |some d=>rw[L]at q;cases q;exact⟨Φ,δ,F,d,O,U,L,k.leaf⟩
noncomputable def vL(i:Nat):De->ζ Dt:=fun δ=>match δ[i]? with
 |some (ς (.f d))=>ς d
 |_=>ψ
def vB(i:Nat):De->ζ Dt:=fun δ=>match δ[i]? with
 |some (ς t)=>t.d
 |_=>ψ
def aO(h:PE X e (iM i)):DL X e (vL i):=PE.mono h fun σ H Q ⟨Φ,δ,F,d,U,O,L,k⟩=>by
 unfold vL at L;split at L
 .rename_i q;cases L;obtain⟨v,h1,h2⟩:=O.leaf q;exact⟨v,h1,k.here O.fh (U▸h2)⟩
 .cases L
def ao(h:PE X e (iM i)):DB X e (vB i):=PE.mono h fun σ H Q ⟨Φ,δ,F,d,U,O,L,k⟩=>by
 unfold vB at L;split at L
 .rename_i q;obtain⟨v,h1,h2⟩:=O.slot q L;exact⟨v,h1,k v H F (Step.refl O.fh) (U▸h2)⟩
 .cases L
def kD(d:Dt):De->ζ Dt:=fun _=>ς d
def wf{d:Dt}(h:PE X e (tC v))(r:∀F,Rep X.K F d v):DL X e (kD d):=PE.mono h fun σ H Q ⟨Φ,δ,F,d',O,L,q,k⟩=>by cases q;exact k.here L.fh (r F)
def aw{i:Int}{j}:DL X (.Constant (.int i) j pos) (kD (.int i)):=wf B4 fun F=>by simp only[Rep]
def jV{i:Bool}{j}:DL X (.Constant (.bool i) j pos) (kD (.bl i)):=wf Ey fun F=>by simp only[Rep]
def dk{j}:DL X (.Constant .none j pos) (kD .non):=wf B5 fun F=>by simp only[Rep]
def qC{j}:DL X (.Constant (.str x) j pos) (kD (.str x)):=wf B6 fun F=>by simp only[Rep]
def R2D(K:xA9)(r:R2)(g:Dt->Dt->ζ T):Prop:=∀F H x y vx vy (Q:VK) t,Same F H->RepB K F H x vx->RepB K F H y vy->g x y=ς t->KO K F H t Q->r vx vy H Q
def d2(g:Dt->Dt->ζ T)(fa fb:De->ζ Dt):De->ζ T:=fun δ=>(fa δ).bind fun x=>(fb δ).bind fun y=>g x y
theorem mG{g:Dt->Dt->ζ T}(Z:R2D K r g)(h:tO K (d2 g fa fb) σ H Q):tOp r (tBd K fa) (tBd K fb) σ H Q:=by obtain⟨Φ,δ,F,t,U,W,L,k⟩:=h;unfold d2 at L;obtain⟨x,hx,L⟩:=bS L;obtain⟨y,hy,L⟩:=bS L;exact⟨Φ,δ,F,x,U,W,hx,fun v H1 F1 st rv=>⟨Φ,δ,F1,y,U,W.step st,hy,fun Y H2 F2 q O=>Z F2 H2 x y v Y Q t q.fh (rv.step q.ff q.hh) O L (k.step (st.trans q))⟩⟩
def bu{q:Operator}{g:Dt->Dt->ζ T}(U:OpR X (ql4 q) r)(W:R2D X.K r g)(L:DB X a fa)(O:DB X b fb):DO X (.BinOp a q b pos) (d2 g fa fb):=PE.mono (EI U L O) fun σ H Q h=>mG W h
def gY{q:CmpOp}{g:Dt->Dt->ζ T}(U:OpR X (qf7 q) r)(W:R2D X.K r g)(L:DB X a fa)(O:DB X b fb)(Y:qh8 q b=ξ):DO X (.Compare a [q] [b] pos) (d2 g fa fb):=PE.mono (r9 U L O Y) fun σ H Q h=>mG W h
noncomputable def asB:T->ζ Bool
 |.f (.bl b)=>ς b
 |_=>ψ
def tB2(g:Dt->Dt->ζ T)(fa fb:De->ζ Dt):De->ζ Bool:=fun δ=>(d2 g fa fb δ).bind asB
def nS{F:Hp}{t:T}{S:J9->Prop}{b:Bool}(h:asB t=ς b)(o:Own K F H t v S):v=.bl b:=by
 unfold asB at h;split at h
 .cases h;have o:Rep K F (.bl b) v:=o;simp only[Rep]at o;exact o
 .cases h
theorem cK{L:CmpOp}{g:Dt->Dt->ζ T}(W:OpR X (qf7 L) r)(Y:R2D X.K r g)(O:DB X a fa)(U:DB X b fb)(hm:qh8 L b=ξ):DT X (.Compare a [L] [b] pos) (tB2 g fa fb):=PT.mono (nC W O U hm) fun σ H Q ⟨Φ,δ,F,t,Z,en,q,k⟩=>by unfold tB2 at q;obtain⟨z,hz,q⟩:=bS q;refine mG Y ⟨Φ,δ,F,z,Z,en,hz,fun v H' F' S st o hs=>?_⟩;exact⟨t,nS q o,k H' F' st⟩
noncomputable def wg:Dt->ζ Bool
 |.non=>ς ξ
 |.bl b=>ς b
 |.int i=>ς (i != 0)
 |.str x=>if x.length<=qb2 then ς ((x.length:Int) != 0)else ψ
 |.t l=>ς (!l.isEmpty)
 |.e l=>ς (!l.isEmpty)
 |_=>ψ
def cF(f:De->ζ Dt):De->ζ Bool:=fun δ=>(f δ).bind wg
def iW{F:Hp}{l:η Dt}(h:Reps K F l vs):l.isEmpty=vs.isEmpty:=by
 cases l with
 |nil=>unfold Reps at h;rw[h];rfl
 |cons d l=>unfold Reps at h;obtain⟨v,ws,rfl,_⟩:=h;rfl
def zK{F:Hp}{d:Dt}{b:Bool}(L:Same F H)(h:RepB K F H d v)(q:wg d=ς b):Cu K v H b:=by
 cases d with
 |non=>cases h;cases q;rfl
 |bl x=>cases h;cases q;rfl
 |int x=>cases h;cases q;rfl
 |str x=>
  cases h;simp only[wg]at q;split at q
  .cases q;exact⟨by assumption,rfl⟩
  .cases q
 |t l=>obtain⟨a,vs,rfl,h1,h2⟩:=h;cases q;exact .inr (.inl ⟨vs,L.tup h1,by rw[iW h2]⟩)
 |e l=>obtain⟨a,vs,rfl,h1,h2⟩:=h;cases q;exact .inl ⟨vs,h1,by rw[iW h2]⟩
 |dct ks l=>cases q
 |dcT ks l=>cases q
theorem c8(O:DB X a fa)(U:∀q,isTrue a X.env q=(do let v <- q;standAt a.pos;ze2 [v] (truthy v))):DT X a (cF fa):=PT.mono (vM O U) fun σ H Q ⟨Φ,δ,F,b,Y,Z,L,k⟩=>by unfold cF at L;obtain⟨d,W,L⟩:=bS L;exact⟨Φ,δ,F,d,Y,Z,W,fun v H' F' st r=>⟨b,zK st.fh r L,k H' F' st⟩⟩
def dH(f:De->ζ Bool):De->ζ Bool:=fun δ=>(f δ).map (!·)
def cY(f g:De->ζ Bool):De->ζ Bool:=fun δ=>(f δ).bind fun b=>if b then g δ else ς ξ
def fOr(f g:De->ζ Bool):De->ζ Bool:=fun δ=>(f δ).bind fun b=>if b then ς θ else g δ
variable{ta tb tc:De->ζ Bool}{rest:η Jc}
def kZ(h:DT X a ta):DT X (.UnaryOp .Not a pos) (dH ta):=PT.mono (Ca h) fun σ H Q ⟨Φ,δ,F,b,O,U,L,k⟩=>by
 unfold dH at L;cases q:ta δ with
 |none=>rw[q]at L;cases L
 |some c=>rw[q]at L;cases L;exact⟨Φ,δ,F,c,O,U,q,fun H' F' st=>k H' F' st⟩
def sC(h:DT X a ta):DW X (.BoolOp .And [a] pos) ta:=zh h
def k5(h:DT X a ta):DW X (.BoolOp .Or [a] pos) ta:=B8 h
def qD(h:DT X a ta)(h':DW X (.BoolOp .And (b::rest) pos) tb):DW X (.BoolOp .And (a::b::rest) pos) (cY ta tb):=PW.mono (B9 h h') fun σ H Q ⟨Φ,δ,F,t,O,U,L,k⟩=>by
 unfold cY at L;obtain⟨c,W,L⟩:=bS L;refine⟨Φ,δ,F,c,O,U,W,fun H' F' st=>?_⟩;split at L
 .rename_i q;rw[if_pos q];exact⟨Φ,δ,F',t,O,U.step st,L,fun H2 Z Y=>k H2 Z (st.trans Y)⟩
 .rename_i q;rw[if_neg q];cases L;exact k H' F' st
def iX(h:DT X a ta)(h':DW X (.BoolOp .Or (b::rest) pos) tb):DW X (.BoolOp .Or (a::b::rest) pos) (fOr ta tb):=PW.mono (Ez h h') fun σ H Q ⟨Φ,δ,F,t,O,U,L,k⟩=>by
 unfold fOr at L;obtain⟨c,W,L⟩:=bS L;refine⟨Φ,δ,F,c,O,U,W,fun H' F' st=>?_⟩;split at L
 .rename_i q;rw[if_pos q];cases L;exact k H' F' st
 .rename_i q;rw[if_neg q];exact⟨Φ,δ,F',t,O,U.step st,L,fun H2 Z Y=>k H2 Z (st.trans Y)⟩
def DW.t(h:DW X a ta):DT X a ta:=h.pt
noncomputable def pf:Dt->ζ Bool
 |.bl b=>ς b
 |_=>ψ
def zL(f:De->ζ Dt):De->ζ T:=fun δ=>(f δ).bind fun x=>(pf x).map fun b=>.f (.bl (!b))
def kg(f:De->ζ Dt)(g:De->ζ T):De->ζ T:=fun δ=>(f δ).bind fun x=>(pf x).bind fun b=>if b then g δ else ς (.f (.bl ξ))
def vOr(f:De->ζ Dt)(g:De->ζ T):De->ζ T:=fun δ=>(f δ).bind fun x=>(pf x).bind fun b=>if b then ς (.f (.bl θ))else g δ
def vIf(c:De->ζ Bool)(f g:De->ζ T):De->ζ T:=fun δ=>(c δ).bind fun b=>if b then f δ else g δ
def nT{F:Hp}{x:Dt}{b:Bool}(h:pf x=ς b)(r:RepB K F H x v):v=.bl b:=by
 unfold pf at h;split at h
 .cases h;exact r
 .cases h
def nU{F:Hp}{b:Bool}:Rep K F (.bl b) (.bl b):=by simp only[Rep]
def f7{F:Hp}{b:Int}:Rep K F (.int b) (.int b):=by simp only[Rep]
def iY{F:Hp}{b:Str}:Rep K F (.str b) (.str b):=by simp only[Rep]
def iZ{F:Hp}:Rep K F .non .non:=by simp only[Rep]
variable{oa ob:De->ζ T}
def wj(h:DB X a fa):DO X (.UnaryOp .Not a pos) (zL fa):=PE.mono (Cd h) fun σ H Q ⟨Φ,δ,F,t,O,U,L,k⟩=>by
 unfold zL at L;obtain⟨x,W,L⟩:=bS L;cases q:pf x with
 |none=>rw[q]at L;cases L
 |some b=>rw[q]at L;cases L;exact⟨Φ,δ,F,x,O,U,W,fun v H' F' st r=>⟨b,nT q r,(k.step st).leaf.here st.fh nU⟩⟩
def wm{op}(h:DO X a oa):DO X (.BoolOp op [a] pos) oa:=Cb h
def qE(h:DB X a fa)(h':DO X (.BoolOp .And (b::rest) pos) ob):DO X (.BoolOp .And (a::b::rest) pos) (kg fa ob):=PE.mono (Cc h h') fun σ H Q ⟨Φ,δ,F,t,O,U,L,k⟩=>by
 unfold kg at L;obtain⟨x,Y,L⟩:=bS L;obtain⟨b,W,L⟩:=bS L;refine⟨Φ,δ,F,x,O,U,Y,fun v H' F' st r=>⟨b,nT W r,?_⟩⟩;split at L
 .rename_i q;rw[if_pos q];exact⟨Φ,δ,F',t,O,U.step st,L,k.step st⟩
 .rename_i q;rw[if_neg q];cases L;exact(k.step st).leaf.here st.fh nU
def E3(h:DB X a fa)(h':DO X (.BoolOp .Or (b::rest) pos) ob):DO X (.BoolOp .Or (a::b::rest) pos) (vOr fa ob):=PE.mono (EC h h') fun σ H Q ⟨Φ,δ,F,t,O,U,L,k⟩=>by
 unfold vOr at L;obtain⟨x,Y,L⟩:=bS L;obtain⟨b,W,L⟩:=bS L;refine⟨Φ,δ,F,x,O,U,Y,fun v H' F' st r=>⟨b,nT W r,?_⟩⟩;split at L
 .rename_i q;rw[if_pos q];cases L;exact(k.step st).leaf.here st.fh nU
 .rename_i q;rw[if_neg q];exact⟨Φ,δ,F',t,O,U.step st,L,k.step st⟩
def wn(W:DT X c tc)(h:DO X a oa)(h':DO X b ob):DO X (.IfExp c a b pos) (vIf tc oa ob):=PE.mono (vz W h h') fun σ H Q ⟨Φ,δ,F,t,O,U,L,k⟩=>by
 unfold vIf at L;obtain⟨x,Y,L⟩:=bS L;refine⟨Φ,δ,F,x,O,U,Y,fun H' F' st=>?_⟩;split at L
 .rename_i q;rw[if_pos q];exact⟨Φ,δ,F',t,O,U.step st,L,k.step st⟩
 .rename_i q;rw[if_neg q];exact⟨Φ,δ,F',t,O,U.step st,L,k.step st⟩
def ph(K:xA9)(F H:Hp):η Dt->η V->Prop
 |[],vs=>vs=[]
 |d::l,vs=>∃v ws,vs=v::ws/\RepB K F H d v/\ph K F H l ws
def tAL(K:xA9)(f:De->ζ (η Dt)):TA:=fun σ H Q=>∃ Φ δ F ds,Fm.K Φ=K/\En Φ δ σ F H/\f δ=ς ds/\∀vs H' F',Step F H F' H'->Reps K F' ds vs->Q vs H'
def tAB(K:xA9)(f:De->ζ (η Dt)):TA:=fun σ H Q=>∃ Φ δ F ds,Fm.K Φ=K/\En Φ δ σ F H/\f δ=ς ds/\∀vs H' F',Step F H F' H'->ph K F' H' ds vs->Q vs H'
structure DA(X:Cx)(es:List Jc)(f:De->Option (List Dt)):Prop where
 len:∀ δ ds,f δ=ς ds->ds.length=es.length
 pa:PA X es (tAL X.K f)
structure DAB(X:Cx)(es:List Jc)(f:De->Option (List Dt)):Prop where
 len:∀ δ ds,f δ=ς ds->ds.length=es.length
 pa:PA X es (tAB X.K f)
def af:De->ζ (η Dt):=fun _=>ς []
def aa(f:De->ζ Dt)(g:De->ζ (η Dt)):De->ζ (η Dt):=fun δ=>(f δ).bind fun d=>(g δ).bind fun ds=>ς (d::ds)
variable{es:η Jc}{fs:De->ζ (η Dt)}
def mH{f:De->ζ Dt}(h:∀ δ ds,fs δ=ς ds->ds.length=n):∀ δ ds,aa f fs δ=ς ds->ds.length=n+1:=fun δ ds q=>by unfold aa at q;obtain⟨x,O,q⟩:=bS q;obtain⟨y,L,q⟩:=bS q;cases q;simp[h δ y L]
def aD:DA X [] af:=⟨fun _ _ h=>by cases h;rfl,PA.mono fX fun σ H Q ⟨Φ,δ,F,ds,O,L,q,k⟩=>by cases q;exact k [] H F (Step.refl L.fh) (by simp only[Reps])⟩
def dv:DAB X [] af:=⟨fun _ _ h=>by cases h;rfl,PA.mono fX fun σ H Q ⟨Φ,δ,F,ds,O,L,q,k⟩=>by cases q;exact k [] H F (Step.refl L.fh) rfl⟩
theorem au(h:DL X e g)(h':DA X es fs)(Y:qa7 (e::es) X.env=(ξ,eval e X.env)::qa7 es X.env:=by rfl):DA X (e::es) (aa g fs):=⟨mH h'.len,PA.mono (di h h'.pa Y) fun σ H Q ⟨Φ,δ,F,ds,L,O,q,k⟩=>by unfold aa at q;obtain⟨x,Z,q⟩:=bS q;obtain⟨y,hy,q⟩:=bS q;cases q;exact⟨Φ,δ,F,x,L,O,Z,fun v H1 F1 st r=>⟨Φ,δ,F1,y,L,O.step st,hy,fun vs H2 F2 U W=>k (v::vs) H2 F2 (st.trans U) (by simp only[Reps];exact⟨v,vs,rfl,r.same U.ff,W⟩)⟩⟩⟩
theorem cP(h:DB X e g)(h':DAB X es fs)(Y:qa7 (e::es) X.env=(ξ,eval e X.env)::qa7 es X.env:=by rfl):DAB X (e::es) (aa g fs):=⟨mH h'.len,PA.mono (di h h'.pa Y) fun σ H Q ⟨Φ,δ,F,ds,O,U,q,k⟩=>by unfold aa at q;obtain⟨x,Z,q⟩:=bS q;obtain⟨y,hy,q⟩:=bS q;cases q;exact⟨Φ,δ,F,x,O,U,Z,fun v H1 F1 st r=>⟨Φ,δ,F1,y,O,U.step st,hy,fun vs H2 F2 L W=>k (v::vs) H2 F2 (st.trans L) ⟨v,vs,rfl,r.step L.ff L.hh,W⟩⟩⟩⟩
def av(f:De->ζ (η Dt)):De->ζ T:=fun δ=>(f δ).bind fun ds=>if ds.length<=qb2 then ς (.f (.t ds))else ψ
def aR(f:De->ζ (η Dt)):De->ζ T:=fun δ=>(f δ).bind fun ds=>if ds.length<=qb2 then ς (.e ds)else ψ
def e9{x1}(h:DA X es fs):DO X (.Tuple es x1 pos) (av fs):=PE.mono (Cw h.pa) fun σ H Q ⟨Φ,δ,F,t,U,W,q,k⟩=>by
 unfold av at q;obtain⟨ds,O,q⟩:=bS q;split at q
 .rename_i L;cases q;refine⟨Φ,δ,F,ds,U,W,O,fun vs H1 F1 st r=>⟨by rw[r.length];exact L,fun p hp=>?_⟩⟩;refine(k.step st).leaf _ _ _ (Step.new st.fh hp) ?_;simp only[Rep];exact⟨p,vs,rfl,SqT.of aU,r.same (Same.upd (st.fh.free hp))⟩
 .cases q
def fA{F:Hp}(k:KO K F H (.e ds) Q)(q:Same F H)(r:Reps K F ds vs)(hp:H p=ψ):Q (.ref p) (upd H p (.e vs)):=by
 refine k _ _ F (fun b=>b=p) (Step.made q hp) ⟨p,vs,rfl,rfl,aU,r⟩ fun b z=>?_
 subst z;exact⟨q.free hp,hp,_,aU,nofun⟩
def bR(h:DA X es fs):DO X (.List es pos) (aR fs):=PE.mono (Cy h.pa) fun σ H Q ⟨Φ,δ,F,t,U,W,q,k⟩=>by
 unfold aR at q;obtain⟨ds,O,q⟩:=bS q;split at q
 .rename_i L;cases q;exact⟨Φ,δ,F,ds,U,W,O,fun vs H1 F1 st r=>⟨by rw[r.length];exact L,fun p hp=>fA (k.step st) st.fh r hp⟩⟩
 .cases q
def CRD(K:xA9)(r:η V->Hp->VK->Prop)(g:η Dt->ζ T):Prop:=∀F H ds vs (Q:VK) t,Same F H->ph K F H ds vs->g ds=ς t->KO K F H t Q->r vs H Q
def ag(g:η Dt->ζ T)(f:De->ζ (η Dt)):De->ζ T:=fun δ=>(f δ).bind g
theorem wo{r:η V->Hp->VK->Prop}{g:η Dt->ζ T}(L:CRD K r g)(h:tO K (ag g fs) σ H Q):tCB r (tAB K fs) σ H Q:=by obtain⟨Φ,δ,F,t,U,W,q,k⟩:=h;unfold ag at q;obtain⟨ds,O,q⟩:=bS q;exact⟨Φ,δ,F,ds,U,W,O,fun vs H1 F1 st r=>L F1 H1 ds vs Q t st.fh r q (k.step st)⟩
variable{x:Str}{p:Pos}{id Ty:String}{sc:Jd}{r:η V->Hp->VK->Prop}{gg:η Dt->ζ T}
def k6 (h:aM sc x=θ) (W:du X (.builtin id) r) (hr:CRD X.K r gg) (Y:X.mg x=ψ) (Z:qd7 x=ς (.builtin id)) (O:DAB X (e::es) fs) (e1:cu X sc:=by rfl)
  (U:qa7 (e::es) X.env=(ξ,eval e X.env)::qa7 es X.env:=by rfl) (L:(qj6 pos (qa7 es X.env)).any (·.1)=ξ:=by rfl):DO X (.Call (.Name x p) (e::es) [] pos) (ag gg fs):=
 PE.mono (ic h W Y Z O.pa e1 U L) fun σ H Q q=>wo hr q
def fM (h:aM sc x=θ) (W:du X (.type Ty) r) (hr:CRD X.K r gg) (Y:X.mg x=ψ) (Z:qd7 x=ς (.type Ty)) (O:DAB X (e::es) fs) (e1:cu X sc:=by rfl)
  (U:qa7 (e::es) X.env=(ξ,eval e X.env)::qa7 es X.env:=by rfl) (L:(qj6 pos (qa7 es X.env)).any (·.1)=ξ:=by rfl):DO X (.Call (.Name x p) (e::es) [] pos) (ag gg fs):=
 PE.mono (iD h W Y Z O.pa e1 U L) fun σ H Q q=>wo hr q
def spD(K:xA9)(n:Nat)(f:η Dt->ζ T):Sp:=fun vs H Q _=>∃F ds t,Same F H/\ds.length=n/\Reps K F ds vs/\f ds=ς t/\KO K F H t Q
def dZ{k:Nat}{L:η Dt->ζ T}(h:aM sc x=θ)(F:OkF X.prog X.w X.K X.mg X.base x k ps (spD X.K n L))(hr:Room k X.A)(U:DA X (e::es) fs)(Z:(e::es).length=n:=by rfl)(e1:cu X sc:=by rfl)
 (Y:qa7 (e::es) X.env=(ξ,eval e X.env)::qa7 es X.env:=by rfl) (O:(qj6 pos (qa7 es X.env)).any (·.1)=ξ:=by rfl):DO X (.Call (.Name x p) (e::es) [] pos) (ag L fs):=
 PE.mono (uA h F hr U.pa e1 Y O) fun σ H Q ⟨Φ,δ,Fz,t,hK,en,q,k⟩=>by unfold ag at q;obtain⟨ds,W,q⟩:=bS q;refine⟨Φ,δ,Fz,ds,hK,en,W,fun vs H1 F1 st r=>?_⟩;show spD X.K n L (vs++[]) H1 Q E0;rw[qg5];exact⟨F1,ds,t,st.fh,(U.len δ ds W).trans Z,r,q,k.step st⟩
end
inductive Out where
 |nx (δ:De)|rt (t:T)|bk (δ:De)|ct (δ:De)
structure Rt(Φ:Fm)(t:T)(v:V)(F H:Hp):Prop where
 fh:Same F H
 prot:∀b o,Φ.H0 b=ς o->¬ Φ.S0 b->H b=ς o
 old:Same Φ.F0 F
 nw:∀b o,F b=ς o->Φ.F0 b=ς o∨Φ.B b∨∃vs,Φ.H0 b=ς (.t vs)
 own:∃S,Own Φ.K F H t v S/\∀b,S b->F b=ψ/\(∃o,H b=ς o/\NT o)/\Φ.B b
def Post(Φ:Fm)(D:Ends):Out->Prop
 |.nx δ=>∀ σ F H,En Φ δ σ F H->D.nx σ H
 |.rt t=>∀v F H,Rt Φ t v F H->D.rt v H
 |.bk δ=>∀ σ F H,En Φ δ σ F H->D.bk σ H
 |.ct δ=>∀ σ F H,En Φ δ σ F H->D.ct σ H
def tS(K:xA9)(g:De->ζ Out):TS:=fun D σ H=>∃ Φ δ F o,Fm.K Φ=K/\En Φ δ σ F H/\g δ=ς o/\Post Φ D o
def DS1(X:Cx)(st:Jb)(g:De->ζ Out):Prop:=PS X st (tS X.K g)
def DS(X:Cx)(ss:η Jb)(g:De->ζ Out):Prop:=PSs X ss (tS X.K g)
variable{Φ:Fm}{δ:De}{F' H':Hp}{N:η Str}{D:Ends}{es:η Jc}{ts:η Nat}{bb:Dt->De->ζ De}{J:It}{xs:η V}
section
variable{X:Cx}{st:Jb}{rest a b body:η Jb}{g g1 g2:De->ζ Out}{e c tg iter:Jc}{pos:Pos}{f:De->ζ T}{fd:De->ζ Dt}{tc:De->ζ Bool}{i:Nat}
def bo:De->ζ Out:=fun δ=>ς (.nx δ)
def ai(g1 g2:De->ζ Out):De->ζ Out:=fun δ=>(g1 δ).bind fun o=>match o with
 |.nx q=>g2 q
 |o=>ς o
def aE:DS X [] bo:=PSs.mono zi fun D σ H ⟨Φ,δ,F,o,O,L,q,k⟩=>by cases q;exact k σ F H L
def al(h:DS1 X st g):DS X [st] g:=zj h
def ae(h1:DS1 X st g1)(h2:DS X rest g2):DS X (st::rest) (ai g1 g2):=PSs.mono (iN h1 h2) fun D σ H ⟨Φ,δ,F,o,U,Z,q,k⟩=>by
 unfold ai at q;obtain⟨W,h1,q⟩:=bS q;refine⟨Φ,δ,F,W,U,Z,h1,?_⟩;cases W with
 |nx L=>exact fun Y F' H' O=>⟨Φ,L,F',o,U,O,q,k⟩
 |rt t=>cases q;exact k
 |bk L=>cases q;exact k
 |ct L=>cases q;exact k
def aV(f:De->ζ T):De->ζ Out:=fun δ=>(f δ).map .rt
theorem En.rt{F:Hp}{t:T}{S:J9->Prop}(O:En Φ δ σ F H)(st:Step F H F' H')(o:Own Φ.K F' H' t v S)(L:∀b,S b->F' b=ψ/\H b=ψ/\∃o,H' b=ς o/\NT o):Rt Φ t v F' H':=by have q:=O.step st;exact⟨q.fh,q.prot,q.old,q.nw,S,o,fun b z=>⟨(L b z).1,(L b z).2.2,O.fresh (L b z).2.1⟩⟩
def aB(h:DO X e f):DS1 X (.Return (ς e) pos) (aV f):=PS.mono (vA h) fun D σ H ⟨Φ,δ,F,o,L,O,q,k⟩=>by unfold aV at q;obtain⟨t,W,q⟩:=mS q;cases q;exact⟨Φ,δ,F,t,L,O,W,fun v H' F' S st o U=>k v F' H' (O.rt st (L▸o) U)⟩
def fg(i:Nat):De->ζ Out:=fun δ=>match δ[i]? with
 |some (ς t)=>ς (.rt t)
 |_=>ψ
def cU(h:PE X e (iM i)):DS1 X (.Return (ς e) pos) (fg i):=PS.mono (vA h) fun D σ H ⟨Φ,δ,F,o,W,L,O,k⟩=>by
 unfold fg at O;split at O
 .rename_i t q;cases O;obtain⟨v,U⟩:=L.has i t q;obtain⟨S,s⟩:=L.sep;exact⟨v,U,k v F H ⟨L.fh,L.prot,L.old,L.nw,S i,s.own i t v (cq q U),fun b z=>s.out i b z⟩⟩
 .cases O
def sIf(c:De->ζ Bool)(g1 g2:De->ζ Out):De->ζ Out:=fun δ=>(c δ).bind fun b=>if b then g1 δ else g2 δ
def aT(W:DT X c tc)(h1:DS X a g1)(h2:DS X b g2):DS1 X (.If c a b pos) (sIf tc g1 g2):=PS.mono (EF W h1 h2) fun D σ H ⟨Φ,δ,F,o,O,U,L,k⟩=>by
 unfold sIf at L;obtain⟨x,Y,L⟩:=bS L;refine⟨Φ,δ,F,x,O,U,Y,fun H' F' st=>?_⟩;split at L
 .rename_i q;rw[if_pos q];exact⟨Φ,δ,F',o,O,U.step st,L,k⟩
 .rename_i q;rw[if_neg q];exact⟨Φ,δ,F',o,O,U.step st,L,k⟩
def ap(i:Nat)(f:De->ζ T):De->ζ Out:=fun δ=>(f δ).map fun t=>.nx (δ.set i (ς t))
def wq{sc:Jd}{pos':Pos}(h:eC sc N i x=θ)(Y:jC sc x=θ)(nd:N.Nodup)(W:DO X e f)(e1:cu X sc:=by rfl)(e2:X.N=N:=by rfl)(hf:X.fn x=θ∨X.env.scope.names.lookup x=ς .local:=by exact .inl rfl)
 (L:qo5 e (ς (.Name x pos')) pos.line X.env=pure ξ:=by rfl):DS1 X (.Assign [.Name x pos'] e pos) (ap i f):=PS.mono (sA h Y nd W e1 e2 hf L) fun D σ H ⟨Φ,δ,F,o,O,U,q,k⟩=>by
 unfold ap at q;obtain⟨t,Z,q⟩:=mS q;cases q;exact⟨Φ,δ,F,t,O,U,Z,fun v H' F' S st o L=>k _ F' H' (U.put st (O▸o) L i)⟩
def wt(i:Nat)(g:De->ζ Out):De->ζ Out:=fun δ=>match δ[i]? with
 |some (ς t)=>t.d.bind fun d=>g (δ.set i (ς (.f d)))
 |_=>ψ
def CQ(h:tS K (wt i g) D σ H):tS K g D σ H:=by
 obtain⟨Φ,δ,F,o,U,W,L,k⟩:=h;unfold wt at L;split at L
 .rename_i t q;obtain⟨d,Y,L⟩:=bS L;obtain⟨F',O⟩:=W.freeze q Y;exact⟨Φ,_,F',o,U,O,L,k⟩
 .cases L
def zM(h:DS1 X st g):DS1 X st (wt i g):=PS.mono h fun D σ H q=>CQ q
def gD(K:xA9)(ts:η Nat)(st:Dt->De->ζ De):TG:=fun v σ H Q=>∃ Φ δ F d L,Fm.K Φ=K/\En Φ δ σ F H/\Rep K F d v/\st d δ=ς L/\∀q,q.length=σ.length->(∀j,j∉ts->q[j]?=σ[j]?)->En Φ L q F H->Q q H
def gsD(K:xA9)(ts:η Nat)(st:η Dt->De->ζ De):TGs:=fun vs σ H Q=>∃ Φ δ F ds L,Fm.K Φ=K/\En Φ δ σ F H/\Reps K F ds vs/\st ds δ=ς L/\∀q,q.length=σ.length->(∀j,j∉ts->q[j]?=σ[j]?)->En Φ L q F H->Q q H
def DG(X:Cx)(tg:Jc)(ts:η Nat)(bb:Dt->De->ζ De):Prop:=PG X tg (gD X.K ts bb)
def DGs(X:Cx)(tg:η Jc)(ts:η Nat)(bb:η Dt->De->ζ De):Prop:=PGs X tg (gsD X.K ts bb)
def am(i:Nat):Dt->De->ζ De:=fun d δ=>ς (δ.set i (ς (.f d)))
def En.name{F:Hp}(q:En Φ δ σ F H){d:Dt}(r:Rep Φ.K F d v)(i:Nat):En Φ (δ.set i (ς (.f d))) (σ.set i (ς v)) F H:=q.put (Step.refl q.fh) (S':=fun _=>False) (t:=.f d) r (fun _ z=>z.elim) i
def aC(h:PG X tg (kL i)):DG X tg [i] (am i):=PG.mono h fun v σ H Q ⟨Φ,δ,F,d,W,O,U,r,L,k⟩=>by cases L;refine k _ Ξ (fun j q=>?_) (U.name (O▸r) i);rw[List.getElem?_set_ne fun z=>q (by simp[z])]
def eF:η Dt->De->ζ De:=fun ds δ=>if ds.isEmpty then ς δ else ψ
def aW(b:Dt->De->ζ De)(bs:η Dt->De->ζ De):η Dt->De->ζ De:=fun ds δ=>match ds with
 |d::r=>(b d δ).bind fun δ1=>bs r δ1
 |[]=>ψ
def eG(n:Nat)(bs:η Dt->De->ζ De):Dt->De->ζ De:=fun d δ=>match d with
 |.t ds=>if ds.length=n then bs ds δ else ψ
 |_=>ψ
def eO:DGs X [] [] eF:=fun J1 s σ H vs us Q I r q=>zm J1 s σ H vs us Q I r (by
 obtain⟨Φ,δ,F,ds,U,W,O,rs,L,k⟩:=q;unfold eF at L;cases ds with
 |nil=>cases L;simp only[Reps]at rs;exact⟨rs,k σ rfl (fun _ _=>rfl) O⟩
 |cons d l=>cases L)
def bx{O:η Nat}{bs:η Dt->De->ζ De}(h1:DG X e ts bb)(h2:DGs X es O bs)
 (hs:(qn0 (e::es) X.env).map (·.2)=ze1 e X.env::(qn0 es X.env).map (·.2):=by rfl):DGs X (e::es) (ts++O) (aW bb bs):=fun J1 s σ H vs us Q I r q=>vC h1 h2 hs J1 s σ H vs us Q I r (by
 obtain⟨Φ,δ,F,ds,Z,hK,en,rs,L,k⟩:=q;unfold aW at L;cases ds with
 |nil=>cases L
 |cons d l=>simp only[Reps]at rs;obtain⟨v,ws,e,r1,r2⟩:=rs;dsimp only at L;obtain⟨δ1,hb,L⟩:=bS L;refine⟨v,ws,e,Φ,δ,F,d,δ1,hK,en,r1,hb,fun σ1 l1 k1 Y=>⟨Φ,δ1,F,l,Z,hK,Y,r2,L,fun U l2 k2 W=>k U (l2.trans l1) (fun j hj=>?_) W⟩⟩;rw[k2 j fun z=>hj (qc7 _ z),k1 j fun z=>hj (qf0 _ z)])
def f8{k:Nat}{bs:η Dt->De->ζ De}(hc:X.calm=θ)(h:DGs X es ts bs)
 (Z:(qn0 es X.env).length=n:=by rfl) (O:(qn0 es X.env).findIdx? (·.1)=ψ:=by rfl):DG X (.Tuple es k pos) ts (eG n bs):=PG.mono (Cf hc h Z O) fun v σ H Q ⟨Φ,δ,F,d,U,hK,W,r,L,q⟩=>by
 unfold eG at L;split at L
 .rename_i ds;split at L
  .rename_i Y;simp only[Rep]at r;obtain⟨a,vs,e,h1,h2⟩:=r;exact⟨a,vs,e,W.fh.tup h1,by rw[h2.length];exact Y,Φ,δ,F,ds,U,hK,W,h2,L,q⟩
  .cases L
 .cases L
noncomputable def wu(fd:De->ζ Dt)(bb:Dt->De->ζ De):De->ζ Out:=fun δ=>(fd δ).bind fun d=>(bb d δ).map .nx
def CS(Z:DL X e fd)(q:DG X tg ts bb)(hs:zh9 [tg] e pos.line X.env=pure ξ:=by rfl)(hw:zi0 [tg] e X.env=pure ψ:=by rfl)
 (h1:(qn0 [tg] X.env).map (·.2)=[ze1 tg X.env]:=by rfl):DS1 X (.Assign [tg] e pos) (wu fd bb):=PS.mono (vD Z q hs hw h1) fun D σ H ⟨Φ,δ,F,o,W,Y,q,k⟩=>by
 unfold wu at q;obtain⟨d,hd,q⟩:=bS q;obtain⟨U,hb,q⟩:=mS q;cases q;exact⟨Φ,δ,F,d,W,Y,hd,fun v H' F' st r=>⟨Φ,δ,F',d,U,W,Y.step st,r,hb,fun O _ _ L=>k O F' H' L⟩⟩
def sD(K:xA9)(F':Hp)(J:It)(ds:η Dt)(ok:Hp->Prop):Prop:=∀(i:Nat)(H F:Hp),ok H->Same F H->Same F' F->(i<ds.length->J.go i H)/\(i=ds.length->J.stop i H)/\∀x H',i<ds.length->J.yld i H x H'->∃d q,ds[i]?=ς d/\Step F H q H'/\Rep K q d x
def Plain.walk{ok:Hp->Prop}(O:Plain J xs ok)(r:Reps K F' ds xs):sD K F' J ds ok:=fun i H F q fh U=>by
 obtain⟨p1,p2,W⟩:=O i H q;have hl:=r.length;refine⟨fun h=>p1 Θ,fun h=>p2 Θ,fun x H' hi Y=>?_⟩;obtain⟨rfl,hx⟩:=W x H' Θ Y;have L:ds[i]?=ς ds[i]:=by simp[hi]
 obtain⟨v,e,Z⟩:=r.get L;rw[hx]at e;cases e;exact⟨_,F,L,Step.refl fh,Z.same U⟩
def tIF(K:xA9)(f:De->ζ (η Dt)):TI:=fun σ H R=>∃ Φ δ F ds,Fm.K Φ=K/\En Φ δ σ F H/\f δ=ς ds/\∀J ok H' F',Step F H F' H'->sD K F' J ds ok->(∀H2,Same F' H2->ok H2)->R J H'
def tIB(K:xA9)(f:De->ζ (η Dt)):TI:=fun σ H R=>∃ Φ δ F ds,Fm.K Φ=K/\En Φ δ σ F H/\f δ=ς ds/\∀J ok H' F',Step F H F' H'->sD K F' J ds ok->(∀H2,Same H' H2->ok H2)->R J H'
def DIF(X:Cx)(tg iter:Jc)(f:De->ζ (η Dt)):Prop:=PI X tg iter (tIF X.K f)
def DIB(X:Cx)(tg iter:Jc)(f:De->ζ (η Dt)):Prop:=PI X tg iter (tIB X.K f)
def DIF.toB{fi:De->ζ (η Dt)}(h:DIF X tg iter fi):DIB X tg iter fi:=PI.mono h fun σ H R ⟨Φ,δ,F,ds,L,U,O,k⟩=>⟨Φ,δ,F,ds,L,U,O,fun J ok H' F' st W q=>k J ok H' F' st W fun H2 s=>q H2 (st.fh.trans s)⟩
end
variable{F1 H1:Hp}
section
variable{X:Cx}{st:Jb}{rest a b body:η Jb}{g g1 g2:De->ζ Out}{e c tg iter l:Jc}{pos:Pos}{f:De->ζ T}{fd:De->ζ Dt}{tc:De->ζ Bool}{i:Nat}{fi:De->ζ (η Dt)}
noncomputable def cA(bb:Dt->De->ζ De)(g:De->ζ Out):η Dt->De->ζ Out
 |[],δ=>ς (.nx δ)
 |d::r,δ=>(bb d δ).bind fun δ1=>(g δ1).bind fun o=>match o with
  |.nx δ2=>cA bb g r δ2
  |.ct δ2=>cA bb g r δ2
  |.bk δ2=>ς (.nx δ2)
  |.rt t=>ς (.rt t)
def cV(fi:De->ζ (η Dt))(bb:Dt->De->ζ De)(g:De->ζ Out):De->ζ Out:=fun δ=>(fi δ).bind fun ds=>cA bb g ds δ
def Reps.same_get{F:Hp}(r:Reps K F ds xs){x:V}(h:xs[i]?=ς x):∃d,ds[i]?=ς d/\Rep K F d x:=by
 have O:=r.length;have hi:i<xs.length:=(gX h).1;have q:ds[i]?=ς ds[i]:=by simp[show i<ds.length by lia]
 obtain⟨v,e,L⟩:=r.get q;rw[h]at e;cases e;exact⟨_,q,L⟩
def sE{α:Type}{l:η α}{d:α}(h:l[i]?=ς d):l.drop i=d::l.drop (i+1):=by have hi:i<l.length:=(gX h).1;rw[List.drop_eq_getElem_cons hi];congr 1;have:=(gX h).2;exact this
def Fm.at(Φ:Fm)(F1:Hp):Fm:={Φ with F0:=F1}
def En.back{δ':De}{q:St}{F:Hp}(L:En Φ δ σ F1 H1)(e:En (Φ.at F1) δ' q F H):En Φ δ' q F H:=⟨e.fh,e.prot,L.old.trans e.old,fun b o h=>(e.nw b o h).elim (fun z=>L.nw b o z) .inr,e.len,e.has,e.sep⟩
def Rt.back{F:Hp}{t:T}(q:En Φ δ σ F1 H1)(e:Rt (Φ.at F1) t v F H):Rt Φ t v F H:=⟨e.fh,e.prot,q.old.trans e.old,fun b o h=>(e.nw b o h).elim (fun z=>q.nw b o z) .inr,e.own⟩
def En.at(q:En Φ δ σ F1 H1):En (Φ.at F1) δ σ F1 H1:=⟨q.fh,q.prot,Same.refl _,fun b o h=>.inl h,q.len,q.has,q.sep⟩
def Post.at{o:Out}(O:En Φ δ σ F1 H1)(k:Post Φ D o):Post (Φ.at F1) D o:=by
 cases o with
 |nx L=>exact fun q F H e=>k q F H (O.back e)
 |bk L=>exact fun q F H e=>k q F H (O.back e)
 |ct L=>exact fun q F H e=>k q F H (O.back e)
 |rt t=>exact fun v F H e=>k v F H (Rt.back O e)
def wv{g:TG}{tb:TS}(Pv:Nat->St->Hp->Prop)(U:Pv 0 σ H1)(O:∀i σ H,Pv i σ H->(i<n->J.go i H)/\(i=n->J.stop i H))
 (Z:∀i x σ H H',i<n->Pv i σ H->J.yld i H x H'->g x σ H' fun L H2=>tb {D with nx:=Pv (i+1),ct:=Pv (i+1),bk:=D.nx} L H2) (Y:∀ σ H,Pv n σ H->D.nx σ H):ForW g tb D J σ H1:=by
 refine⟨fun i m σ H=>m=n-i/\i<=n/\Pv i σ H,⟨n,Ξ,qi7 _,U⟩,?_⟩;rintro i m σ H ⟨rfl,hi,p⟩;obtain⟨p1,p2⟩:=O i σ H p;by_cases q:i<n
 .exact .inr ⟨p1 q,Pv (i+1),fun σ' H' W=>⟨n-(i+1),Θ,rfl,q,W⟩,fun x H' y=>Z i x σ H H' q p y⟩
 .have e:i=n:=by lia
  subst e;exact .inl ⟨p2 rfl,Y σ H p⟩
def ce(hp:zk3 (model X.prog X.w) X.A X.env X.xe)(hc:X.calm=θ)(hi:DIF X tg iter fi)(hg:DG X tg ts bb)(hb:DS X body g)
 (hs:∀x,qj3 iter X.env x=pure x:=by intro _;rfl):DS1 X (.For tg iter body [] pos) (cV fi bb g):=PS.mono (Cl hp hc hi hg hb hs) fun D σ H ⟨Φ,δ,F,o,hK,en,hg,k⟩=>by
 unfold cV at hg;obtain⟨ds,hd,hg⟩:=bS hg;rw[zH];refine⟨Φ,δ,F,ds,hK,en,hd,fun J ok H1 F1 st1 wd ho=>?_⟩;have en1:=en.step st1;have k1:=Post.at en1 k;refine wv (n:=ds.length) (fun i W H'=>∃U F',En (Φ.at F1) U W F' H'/\cA bb g (ds.drop i) U=ς o) ⟨δ,F1,en1.at,by simpa using hg⟩ (fun i W H' ⟨U,F',O,_⟩=>?_) ?_ ?_
 .obtain⟨p1,p2,_⟩:=wd i H' F' (ho H' (O.old.trans O.fh)) O.fh O.old;exact⟨p1,p2⟩
 .rintro i x W H' H'' hi ⟨U,F',O,L⟩ hy;obtain⟨_,_,p3⟩:=wd i H' F' (ho H' (O.old.trans O.fh)) O.fh O.old;obtain⟨d,Z,hd',st2,rd⟩:=p3 x H'' hi hy;rw[sE hd']at L;unfold cA at L;obtain⟨δ1,h1,L⟩:=bS L;obtain⟨o1,h2,L⟩:=bS L;refine⟨Φ.at F1,U,Z,d,δ1,hK,O.step st2,rd,h1,fun σ1 _ _ en1=>⟨Φ.at F1,δ1,Z,o1,hK,en1,h2,?_⟩⟩;cases o1 with
  |nx δ2=>exact fun σ2 Z H2 Y=>⟨δ2,Z,Y,L⟩
  |ct δ2=>exact fun σ2 Z H2 Y=>⟨δ2,Z,Y,L⟩
  |bk δ2=>cases L;exact fun σ2 Z H2 Y=>k1 σ2 Z H2 Y
  |rt t=>cases L;exact fun v Z H2 q=>k1 v Z H2 q
 .rintro W H' ⟨U,F',O,L⟩;rw[List.drop_length]at L;cases L;exact k1 W F' H' O
def bp(c:De->ζ Bool)(g:De->ζ Out):Nat->De->ζ Out
 |0,_=>ψ
 |n+1,δ=>(c δ).bind fun b=>if b then(g δ).bind fun o=>match o with
  |.nx δ2=>bp c g n δ2
  |.ct δ2=>bp c g n δ2
  |.bk δ2=>ς (.nx δ2)
  |.rt t=>ς (.rt t)
 else ς (.nx δ)
def fN(n:Nat)(hp:zk3 (model X.prog X.w) X.A X.env X.xe)(hc:DT X c tc)(hb:DS X body g):DS1 X (.While c body [] pos) (bp tc g n):=PS.mono (vE hp hc hb) fun D σ H ⟨Φ,δ,F,o,hK,en,hg,k⟩=>by
 refine⟨fun m σ' H'=>∃W F',En Φ W σ' F' H'/\bp tc g m W=ς o,⟨n,δ,F,en,hg⟩,?_⟩;rintro m σ' H' ⟨W,F',Z,L⟩;cases m with
 |zero=>cases L
 |succ m=>
  unfold bp at L;obtain⟨x,hx,L⟩:=bS L;refine⟨Φ,W,F',x,hK,Z,hx,fun H1 F1 st=>?_⟩;split at L
  .rename_i q;rw[if_pos q];obtain⟨o1,h2,L⟩:=bS L;refine⟨fun O H2=>∃ δ2 Y,En Φ δ2 O Y H2/\bp tc g m δ2=ς o,fun O H2 z=>⟨m,ql7 m,z⟩,Φ,W,F1,o1,hK,Z.step st,h2,?_⟩;cases o1 with
   |nx δ2=>exact fun O Y H2 U=>⟨δ2,Y,U,L⟩
   |ct δ2=>exact fun O Y H2 U=>⟨δ2,Y,U,L⟩
   |bk δ2=>cases L;exact fun O Y H2 U=>k O Y H2 U
   |rt t=>cases L;exact fun v Y H2 q=>k v Y H2 q
  .rename_i q;rw[if_neg q];cases L;exact k σ' F1 H1 (Z.step st)
noncomputable def E4(x:Str):η Dt:=x.cps.toList.map fun c=>.str ⟨#[c]⟩
noncomputable def iE(lo:Int)(n:Nat):η Dt:=(qd0 n).map fun(i:Nat)=>.int (lo+i)
theorem Reps.map{F:Hp}{α:Type}{f:α->Dt}{g:α->V}(h:∀x,Rep K F (f x) (g x)):∀l:η α,Reps K F (l.map f) (l.map g)
 |[]=>by simp[Reps]
 |x::l=>by simp only[qa6,Reps];exact⟨_,_,rfl,h x,Reps.map h l⟩
def itD:Dt->ζ (η Dt)
 |.e l=>ς l
 |.t l=>ς l
 |.str x=>ς (E4 x)
 |_=>ψ
def fIt(f:De->ζ Dt):De->ζ (η Dt):=fun δ=>(f δ).bind itD
def dJ(h:DL X l fd):DIF X tg l (fIt fd):=PI.mono (PI.or (rX h) (PI.or (vF h) (vY h))) fun σ H R ⟨Φ,δ,F,ds,O,U,q,k⟩=>by
 unfold fIt at q;obtain⟨d,L,q⟩:=bS q;cases d with
 |e l=>cases q;refine .inl ⟨Φ,δ,F,_,O,U,L,fun v H' F' st r=>?_⟩;simp only[Rep]at r;obtain⟨a,vs,rfl,h1,h2⟩:=r;exact⟨a,rfl,⟨vs,st.fh.seq h1⟩,k _ _ H' F' st (plain_list.walk h2) fun H2 s=>s.seq h1⟩
 |t l=>cases q;refine .inr (.inl ⟨Φ,δ,F,_,O,U,L,fun v H' F' st r=>?_⟩);simp only[Rep]at r;obtain⟨a,vs,rfl,h1,h2⟩:=r;exact⟨a,rfl,⟨vs,st.fh.tup h1⟩,k _ _ H' F' st (plain_tup.walk h2) fun H2 s=>s.tup h1⟩
 |str x=>cases q;refine .inr (.inr ⟨Φ,δ,F,_,O,U,L,fun v H' F' st r=>?_⟩);simp only[Rep]at r;exact⟨x,r,k _ _ H' F' st (plain_str.walk (Reps.map (fun c=>iY) _)) fun _ _=>trivial⟩
 |_=>cases q
def bv(h:DB X l fd):DIB X tg l (fIt fd):=PI.mono (PI.or (rX h) (PI.or (vF h) (vY h))) fun σ H R ⟨Φ,δ,F,ds,O,U,q,k⟩=>by
 unfold fIt at q;obtain⟨d,L,q⟩:=bS q;cases d with
 |e l=>cases q;refine .inl ⟨Φ,δ,F,_,O,U,L,fun v H' F' st r=>?_⟩;obtain⟨a,vs,rfl,h1,h2⟩:=r;exact⟨a,rfl,⟨vs,h1⟩,k _ _ H' F' st (plain_list.walk h2) fun H2 s=>s.seq h1⟩
 |t l=>cases q;refine .inr (.inl ⟨Φ,δ,F,_,O,U,L,fun v H' F' st r=>?_⟩);obtain⟨a,vs,rfl,h1,h2⟩:=r;exact⟨a,rfl,⟨vs,st.fh.tup h1⟩,k _ _ H' F' st (plain_tup.walk h2) fun H2 s=>s.tup (st.fh.tup h1)⟩
 |str x=>cases q;refine .inr (.inr ⟨Φ,δ,F,_,O,U,L,fun v H' F' st r=>?_⟩);exact⟨x,r,k _ _ H' F' st (plain_str.walk (Reps.map (fun c=>iY) _)) fun _ _=>trivial⟩
 |_=>cases q
def gv(j:Int):Bool:=decide (-(2^62)<=j)&&decide (j<2^62)
def gG:η Dt->ζ (η Dt)
 |[.int j]=>if gv j then ς (iE 0 j.toNat)else ψ
 |_=>ψ
def qF:η Dt->ζ (η Dt)
 |[.int i,.int j]=>if gv i&&gv j then ς (iE i (j-i).toNat)else ψ
 |_=>ψ
def da(r:η Dt->ζ (η Dt))(f:De->ζ (η Dt)):De->ζ (η Dt):=fun δ=>(f δ).bind r
variable{p:Pos}{sc:Jd}{x y:Jc}{fs:De->ζ (η Dt)}
def eX{j:Int}(h:gv j=θ):-(2^62)<=j/\j<2^62:=by unfold gv at h;simpa using h
def k7{F:Hp}(lo:Int)(n:Nat):Reps K F (iE lo n) (kS lo n):=Reps.map (fun _=>f7) _
def dn(h:aM sc "range"=θ)(hm:X.mg "range"=ψ)(O:DA X [x] fs)(e1:cu X sc:=by rfl)(Y:qa7 [x] X.env=[(ξ,eval x X.env)]:=by rfl):DIF X tg (.Call (.Name "range" p) [x] [] pos) (da gG fs):=
 PI.mono (qz h hm O.pa e1 Y) fun σ H R ⟨Φ,δ,F,ds,Z,en,q,k⟩=>by
  unfold da at q;obtain⟨U,W,q⟩:=bS q;refine⟨Φ,δ,F,U,Z,en,W,fun vs H' F' st r=>?_⟩;unfold gG at q;split at q
  .rename_i j;split at q
   .rename_i L;cases q;simp only[Reps,Rep]at r;obtain⟨v,ws,rfl,rfl,rfl⟩:=r;exact⟨j,rfl,(eX L).1,(eX L).2,k _ _ H' F' st (plain_range.walk (k7 _ _)) fun _ _=>trivial⟩
   .cases q
  .cases q
def uC (h:aM sc "range"=θ) (hm:X.mg "range"=ψ) (ha:DA X [x,y] fs) (e1:cu X sc:=by rfl) (Y:qa7 [x,y] X.env=[(ξ,eval x X.env),(ξ,eval y X.env)]:=by rfl) (O:qa7 [y] X.env=[(ξ,eval y X.env)]:=by rfl) :
  DIF X tg (.Call (.Name "range" p) [x,y] [] pos) (da qF fs):=
 PI.mono (qA h hm ha.pa e1 Y O) fun σ H R ⟨Φ,δ,F,ds,Z,en,q,k⟩=>by
  unfold da at q;obtain⟨U,W,q⟩:=bS q;refine⟨Φ,δ,F,U,Z,en,W,fun vs H' F' st r=>?_⟩;unfold qF at q;split at q
  .rename_i i j;split at q
   .rename_i L;rw[qb3]at L;cases q;simp only[Reps,Rep]at r;obtain⟨v,ws,rfl,rfl,w,us,rfl,rfl,rfl⟩:=r;exact⟨i,j,rfl,⟨(eX L.1).1,(eX L.1).2,(eX L.2).1,(eX L.2).2⟩,k _ _ H' F' st (plain_range.walk (k7 _ _)) fun _ _=>trivial⟩
   .cases q
  .cases q
end
noncomputable def dC(src:η (ζ Nat))(δ:De):De:=src.map fun o=>o.bind fun j=>(δ[j]?).join
def bE(bb:Dt->De->ζ De)(ft:De->ζ Bool)(fe:De->ζ Dt)(δ:De):η Dt->ζ (η Dt)
 |[]=>ς []
 |d::r=>(bb d δ).bind fun δ1=>(ft δ1).bind fun b=>if b then(fe δ1).bind fun y=>(bE bb ft fe δ r).bind fun ys=>ς (y::ys)else bE bb ft fe δ r
def aQ(src:η (ζ Nat))(fi:De->ζ (η Dt))(bb:Dt->De->ζ De)(ft:De->ζ Bool)(fe:De->ζ Dt):De->ζ T:=fun δ =>(fi δ).bind fun ds=>(bE bb ft fe (dC src δ) ds).bind fun ys=>if ys.length<=qb2 then ς (.e ys)else ψ
def bh:De->ζ Bool:=fun _=>ς θ
def DTs(X:Cx)(ifs:η Jc)(f:De->ζ Bool):Prop:=PTs X ifs (tTr X.K f)
def bG:DTs X [] bh:=fun J1 s σ H Q I h=>zE J1 s σ H Q I (by obtain⟨Φ,δ,F,b,O,q,L,k⟩:=h;cases L;exact k H F (Step.refl q.fh))
def eQ{c:Jc}{f:De->ζ Bool}(h:DT X c f):DTs X [c] f:=zF h
section
variable{X:Cx}{elt tg iter:Jc}{ifs:η Jc}{scope:Jd}{pos:Pos}{M:η Str}{src:η (ζ Nat)}{fi:De->ζ (η Dt)}{ft:De->ζ Bool}{fe:De->ζ Dt}
def zN(S:CmpScope X.N X.env.scope scope M src){k l:Nat}(hk:src[k]?=ς (ς j))(U:src[l]?=ς (ς j)):k=l:=by
 have nm:∀k,src[k]?=ς (ς j)->∃x,M[k]?=ς x/\X.N[j]?=ς x:=fun k h=>by
  have q:k<M.length:=by rw[S.len];exact(gX h).1
  have O:M[k]?=ς M[k]:=by simp[q]
  have W:(M.zip src)[k]?=ς (M[k],ς j):=by rw[qr0];exact⟨O,h⟩
  exact⟨_,O,(S.src _ (qc8 W) j rfl).1⟩
 obtain⟨x,h1,h2⟩:=nm k hk;obtain⟨y,h3,L⟩:=nm l U;rw[h2]at L;cases L;exact(List.getElem?_inj (gX h1).1 S.nd).mp (h1.trans h3.symm)
def ww{k:Nat}{t:T}(h:(dC src δ)[k]?=ς (ς t)):∃j,src[k]?=ς (ς j)/\δ[j]?=ς (ς t):=by
 unfold dC at h;rw[qb1]at h;cases e:src[k]? with
 |none=>rw[e]at h;cases h
 |some o=>
  rw[e]at h;cases o with
  |none=>cases h
  |some j=>
   simp only[qm8,qa3,qt3]at h;refine⟨j,rfl,?_⟩;cases q:δ[j]? with
   |none=>rw[q]at h;cases h
   |some u=>rw[q]at h;simp only[qr2]at h;rw[h]
def zO{k:Nat}(h1:src[k]?=ς (ς j))(h2:σ[j]?=ς (ς v)):(stC src σ)[k]?=ς (ς v):=by unfold stC;rw[qb1,h1];simp[h2]
def wx{k:Nat}(h:(stC src σ)[k]?=ς (ς v)):∃j,src[k]?=ς (ς j)/\σ[j]?=ς (ς v):=by
 unfold stC at h;rw[qb1]at h;cases e:src[k]? with
 |none=>rw[e]at h;cases h
 |some o=>
  rw[e]at h;cases o with
  |none=>cases h
  |some j=>
   simp only[qm8,qa3,qt3]at h;refine⟨j,rfl,?_⟩;cases q:σ[j]? with
   |none=>rw[q]at h;cases h
   |some u=>rw[q]at h;simp only[qr2]at h;rw[h]
def En.comp{F:Hp}(S:CmpScope X.N X.env.scope scope M src)(q:En Φ δ σ F H):En Φ (dC src δ) (stC src σ) F H:=by
 refine⟨q.fh,q.prot,q.old,q.nw,by simp[dC,stC],fun k t h=>?_,?_⟩
 .obtain⟨j,h1,h2⟩:=ww h;obtain⟨v,W⟩:=q.has j t h2;exact⟨v,zO h1 W⟩
 .obtain⟨Z,s⟩:=q.sep;refine⟨fun k b=>∃j,src[k]?=ς (ς j)/\Z j b,fun k t v h=>?_,fun k b ⟨j,_,z⟩=>s.out j b z,fun k l b ⟨j,h1,z⟩⟨Y,h2,z'⟩=>?_⟩
  .obtain⟨h1,h2⟩:=dY h;obtain⟨j,O,e2⟩:=ww h1;obtain⟨Y,L,U⟩:=wx h2;rw[O]at L;cases L;exact(s.own j t v (cq e2 U)).grow fun b z=>⟨j,O,z⟩
  .have:=s.dis _ _ b z z';subst this;exact zN S h1 h2
def uD{g:TG}{tt:TT}{te:TE}{D:J9}(Pv:Nat->Hp->Prop)(Y:Pv 0 (upd H1 D (.e [])))(O:∀i H,Pv i H->(i<n->J.go i H)/\(i=n->J.stop i H))
 (hs:∀i x H H',i<n->Pv i H->J.yld i H x H'->g x (stC src σ) H' fun q H2=>Wk (stC src σ) q/\tt q H2 fun b W=>if b=θ then te q W fun v U=>∃ys,U D=ς (.e ys)/\ys.length<qb2/\Pv (i+1) (upd U D (.e (ys++[v])))else Pv (i+1) W)
 (hd:∀H,Pv n H->Q (.ref D) H):Bc src g tt te σ J H1 Q D:=by
 refine⟨fun i m H=>m=n-i/\i<=n/\Pv i H,⟨n,Ξ,qi7 _,Y⟩,?_⟩;rintro i m H ⟨rfl,hi,p⟩;obtain⟨p1,p2⟩:=O i H p;by_cases L:i<n
 .exact .inr ⟨p1 L,Pv (i+1),fun H' Z=>⟨n-(i+1),Θ,rfl,L,Z⟩,fun x H' y=>hs i x H H' L p y⟩
 .have e:i=n:=by lia
  subst e;exact .inl ⟨p2 rfl,hd H p⟩
theorem sF(S:CmpScope X.N X.env.scope scope M src)(hts:(ts.all fun k=>decide (src[k]?=ς ψ))=θ):∀(σ:St)(H:Hp)(Q:VK),tO X.K (aQ src fi bb ft fe) σ H Q->o7 src (tIB X.K fi) (gD X.K ts bb) (tTr X.K ft) (tL X.K fe) σ H Q:=fun σ H Q ⟨Φ,δ,F,t,hK,en,hf,k⟩=>by
 unfold aQ at hf;obtain⟨ds,hd,hf⟩:=bS hf;obtain⟨all,ha,hf⟩:=bS hf;split at hf
 case isFalse=>cases hf
 rename_i hz;cases hf;rw[v9];refine⟨Φ,δ,F,ds,hK,en,hd,fun J ok H1 F1 st1 wd ho D hD=>?_⟩;have en1:=en.step st1;have k1:=k.step st1
 have wk:∀{σ2:St},σ2.length=(stC src σ).length->(∀j,j∉ts->σ2[j]?=(stC src σ)[j]?)->Wk (stC src σ) σ2:=fun {σ2} h1 h2=>by
  refine⟨h1.symm,fun j v hj=>?_⟩;by_cases hm:j∈ts
  .have:=qk1.mp hts j hm;have hn:src[j]?=ς ψ:=of_decide_eq_true this;obtain⟨i,e,_⟩:=wx hj;rw[hn]at e;cases e
  .rw[h2 j hm];exact hj
 have ok':∀{F H:Hp},Step F1 H1 F H->ok H:=fun st=>ho _ st.hh
 refine uD (n:=ds.length) (fun i H=>∃F ys done O,Step F1 H1 F H/\H D=ς (.e ys)/\F D=ψ/\Reps X.K F done ys/\bE bb ft fe (dC src δ) (ds.drop i)=ς O/\done++O=all) ?_ ?_ ?_ ?_
 .exact⟨F1,[],[],all,Step.made st1.fh hD,aU,st1.fh.free hD,by simp[Reps],by simpa using ha,rfl⟩
 .rintro i H' ⟨F',ys,done,O,st,_⟩;obtain⟨p1,p2,_⟩:=wd i H' F' (ok' st) st.fh st.ff;exact⟨p1,p2⟩
 .rintro i x H0' H' hi ⟨F0',ys,done,O,st0,hD0,hFD0,rys0,L,U⟩ hy0;obtain⟨_,_,p3⟩:=wd i H0' F0' (ok' st0) st0.fh st0.ff;obtain⟨d,F',hd',stw,rd⟩:=p3 x H' hi hy0;have st:=st0.trans stw;have Y:H' D=ς (.e ys):=stw.hh _ _ hD0;have hFD:F' D=ψ:=stw.keepN hFD0 hD0;have Z:=rys0.same stw.ff;rw[sE hd']at L;unfold bE at L;obtain⟨δ1,h1,L⟩:=bS L;obtain⟨b,h2,L⟩:=bS L;refine⟨Φ,dC src δ,F',d,δ1,hK,(en1.step st).comp S,rd,h1,fun σ2 l2 k2 en2=>⟨wk l2 k2,Φ,δ1,F',b,hK,en2,h2,fun H3 F3 W=>?_⟩⟩;have hD3:H3 D=ς (.e ys):=W.hh _ _ Y;have hF3:F3 D=ψ:=W.keepN hFD Y;dsimp only;split at L
  .rename_i q;rw[if_pos q];obtain⟨y,hy,L⟩:=bS L;obtain⟨zs,hzs,L⟩:=bS L;cases L;refine⟨Φ,δ1,F3,y,hK,en2.step W,hy,fun v H4 F4 st4 rv=>?_⟩;have hD4:H4 D=ς (.e ys):=st4.hh _ _ hD3;have hF4:F4 D=ψ:=st4.keepN hF3 hD3;have s14:=(st.trans W).trans st4;refine⟨ys,hD4,?_,F4,ys++[v],done++[y],zs,?_,aU,hF4,(Z.same (W.ff.trans st4.ff)).append (Reps.one rv),hzs,by rw[<- U];simp⟩
   .have e1:=Z.length;have e2:all.length=done.length+(zs.length+1):=by rw[<- U];simp
    lia
   .refine⟨fun c o e=>?_,s14.ff,fun c o e=>?_,s14.nw⟩
    .rw[aF (bX e hD)];exact s14.hh _ _ e
    .rw[aF (bX e hF4)];exact s14.fh _ _ e
  .rename_i q;rw[if_neg q];exact⟨F3,ys,done,O,st.trans W,hD3,hF3,Z.same W.ff,L,U⟩
 .rintro H' ⟨F',ys,done,O,st,Y,hFD,Z,L,U⟩;rw[List.drop_length]at L;cases L;rw[qg5]at U;subst U
  exact k1 (.ref D) H' F' (fun b=>b=D) st ⟨D,ys,rfl,rfl,Y,Z⟩ fun b z=>by subst z;exact⟨hFD,hD,_,Y,nofun⟩
def kt(S:CmpScope X.N X.env.scope scope M src)(Z:X.calm=θ)(hi:DIB X tg iter fi)(Y:M.Nodup->∀C s H ex,DG (cxC X M scope C s H ex) tg ts bb)
 (U:∀C s H ex,DTs (cxC X M scope C s H ex) ifs ft) (L:∀C s H ex,DL (cxC X M scope C s H ex) elt fe) (q:(ts.all fun k=>decide (src[k]?=ς ψ))=θ) (W:∀x,qj3 iter X.env x=pure x:=by intro _;rfl) :
  DO X (.ListComp elt [⟨tg,iter,ifs,0⟩] scope pos) (aQ src fi bb ft fe):=PE.mono (vX (g:=gD X.K ts bb) (tt:=tTr X.K ft) (te:=tL X.K fe) S Z hi (fun O C s H ex=>Y O C s H ex) (fun C s H ex=>U C s H ex) (fun C s H ex=>L C s H ex) W) (sF S q)
end
noncomputable def bH(m:Nat)(g:De->ζ Out):η Dt->ζ T:=fun ds=>match g (ds.map (fun d=>ς (T.f d))++qc1 (m-ds.length) ψ)with
 |some (.rt t)=>ς t
 |some (.nx _)=>ς (.f .non)
 |_=>ψ
def fO {F:Hp} (Y:Same F H) (r:Reps K F ds vs) :
  En ⟨K,F,H,fun _=>False⟩ (ds.map (fun d=>ς (T.f d))++qc1 (N.length-ds.length) ψ) (start N vs) F H:=by
 have W:=r.length
 have q:∀(i:Nat)(t:T),(ds.map (fun d=>ς (T.f d))++qc1 (N.length-ds.length) ψ)[i]?=ς (ς t)->∃d v,t=T.f d/\vs[i]?=ς v/\Rep K F d v/\(start N vs)[i]?=ς (ς v):=fun i t h=>by
  by_cases hi:i<ds.length
  .rw[qb4 (by simpa using hi),qb1]at h;have U:ds[i]?=ς ds[i]:=by simp[hi]
   rw[U]at h;cases h;obtain⟨v,O,L⟩:=r.get U;refine⟨_,v,rfl,O,L,?_⟩;unfold start;rw[qb4 (by simp;lia),qb1,O];rfl
  .rw[qc9 (by simpa using hi)]at h;rw[qk4]at h;split at h<;>cases h
 refine⟨Y,fun b o h _=>h,Same.refl _,fun b o h=>.inl h,by simp[start,W],fun i t h=>?_,fun _ _=>False,fun i t v h=>?_,fun _ _ z=>z.elim,fun _ _ _ z=>z.elim⟩
 .obtain⟨d,v,_,_,_,e⟩:=q i t h;exact⟨v,e⟩
 .obtain⟨h1,h2⟩:=dY h;obtain⟨d,w,rfl,_,L,e⟩:=q i t h1;rw[h2]at e;cases e;exact L
variable{st:Jb}
section
variable{P:qd1}{w:Ja}{K:xA9}{mg:Str->ζ Vz}{base:Heap}
def Rt.step{F:Hp}{t:T}(h:Rt ⟨K,F,H,fun _=>False⟩ t v F' H')(k:KO K F H t Q):Q v H':=by
 obtain⟨U,q,L,nw,S,o,O⟩:=h;refine k v H' F' S ⟨fun b u e=>q b u e id,L,U,fun b u e=>(nw b u e).elim .inl fun z=>.inr (z.imp (fun y=>y.elim id qg9) id)⟩ o fun b z=>?_
 obtain⟨h1,h2,h3⟩:=O b z;exact⟨h1,h3.elim id qg9,h2⟩
def bA{k:Nat}{g:De->ζ Out}(D:DefF K mg x st ps)(S:FnScope N ps (ac st))(Y:ps.length=n)
 (L:∀(f:J9)(cdv:Vz)(A:qe0)(outer:η Env)(s:qa5)(H:Hp)(E:XK),Room k (A.deeper (qz4 x (ac st) s.heap.objs.size f cdv))->DS (kO CX0 P w K mg base N x (ac st) f cdv A outer s H E).nox (bc st) g) :
  OkF P w K mg base x (k+1) ps (spD K n (bH N.length g)):=by
 refine D.ok S (fun vs H Q E h=>?_) (fun f cdv A outer s H vs Q E Z h=>?_)
 .obtain⟨F,ds,t,_,U,r,_⟩:=h;rw[r.length,U,Y]
 .obtain⟨F,ds,t,W,U,r,O,kq⟩:=h;refine⟨_,L f cdv A outer s H E Z,?_⟩;unfold bH at O;split at O
  .rename_i t' q;cases O;exact⟨⟨K,F,H,fun _=>False⟩,_,F,_,rfl,fO W r,q,fun v F' H' z=>z.step kq⟩
  .rename_i δ' q;cases O;exact⟨⟨K,F,H,fun _=>False⟩,_,F,_,rfl,fO W r,q,fun σ' F' H' z=>(z.rt (Step.refl z.fh) (t:=.f .non) (S:=fun _=>False) (iZ (K:=K) (F:=F')) fun _ y=>y.elim).step kq⟩
  .cases O
def E5{k:Nat}{g:De->ζ Out}{f:J9}{fd:qp9}(D:Fun K x x st f fd)(S:FnScope N ps (ac st))(Y:ps.length=n)
 (L:∀(cdv:Vz)(A:qe0)(outer:η Env)(s:qa5)(H:Hp)(E:XK),Room k (A.deeper (qz4 x (ac st) s.heap.objs.size f cdv))->DS (kO CX0 P w K mg base N x (ac st) f cdv A outer s H E).nox (bc st) g) :
  FnOk P w K mg base CX0 (k+1) f fd ps (spD K n (bH N.length g)):=by
 refine D.ok S (fun vs H Q E h=>?_) (fun cdv A outer s H vs Q E Z h=>?_)
 .obtain⟨F,ds,t,_,U,r,_⟩:=h;rw[r.length,U,Y]
 .obtain⟨F,ds,t,W,U,r,O,kq⟩:=h;refine⟨_,L cdv A outer s H E Z,?_⟩;unfold bH at O;split at O
  .rename_i t' q;cases O;exact⟨⟨K,F,H,fun _=>False⟩,_,F,_,rfl,fO W r,q,fun v F' H' z=>z.step kq⟩
  .rename_i δ' q;cases O;exact⟨⟨K,F,H,fun _=>False⟩,_,F,_,rfl,fO W r,q,fun σ' F' H' z=>(z.rt (Step.refl z.fh) (t:=.f .non) (S:=fun _=>False) (iZ (K:=K) (F:=F')) fun _ y=>y.elim).step kq⟩
  .cases O
end
def SameX(F F':Hp):Prop:=∀b o,F b=ς o->(∀ob φ,o≠.frz ob (.ext φ))->F' b=ς o
section
variable{K:xA9}{F F':Hp}
def SameX.rd(e:SameX F F')(h:Rd F a u)(h1:∀ob φ,u≠.frz ob (.ext φ))(h2:∀ φ,u≠.ext φ):Rd F' a u:=by
 rcases h with h|⟨o,h⟩
 .exact .inl (e _ _ h h1)
 .exact .inr ⟨o,e _ _ h fun ob φ z=>h2 φ (by cases z;rfl)⟩
mutual
theorem Rep.sameX(e:SameX F F'):∀{d:Dt}{v:V},Rep K F d v->Rep K F' d v
 |.non,v,h=>h
 |.bl _,v,h=>h
 |.int _,v,h=>h
 |.str _,v,h=>h
 |.t l,v,h=>by unfold Rep at h ⊢;obtain⟨a,vs,h1,h2,h3⟩:=h;exact⟨a,vs,h1,h2.imp (fun z=>e _ _ z fun _ _ z=>nomatch z) id,Reps.sameX e h3⟩
 |.e l,v,h=>by unfold Rep at h ⊢;obtain⟨a,vs,h1,h2,h3⟩:=h;exact⟨a,vs,h1,h2.imp (fun z=>e.rd z (fun _ _ z=>nomatch z) fun _ z=>nomatch z) id,Reps.sameX e h3⟩
 |.dct ks l,v,h=>by unfold Rep at h ⊢;obtain⟨a,vs,h1,h2,h3,h4⟩:=h;exact⟨a,vs,h1,(e.rd h2 (fun _ _ z=>nomatch z) (fun _ z=>nomatch z)),h3,Reps.sameX e h4⟩
 |.dcT ks l,v,h=>by unfold Rep at h ⊢;obtain⟨a,vs,h1,h2,h3,h4⟩:=h;exact⟨a,vs,h1,(e.rd h2 (fun _ _ z=>nomatch z) (fun _ z=>nomatch z)),h3,Reps.sameX e h4⟩
theorem Reps.sameX(e:SameX F F'):∀{l:η Dt}{vs:η V},Reps K F l vs->Reps K F' l vs
 |[],vs,h=>h
 |d::l,vs,h=>by unfold Reps at h ⊢;obtain⟨v,ws,h1,h2,h3⟩:=h;exact⟨v,ws,h1,Rep.sameX e h2,Reps.sameX e h3⟩
end
end
def deC(m:Nat)(ds caps:η Dt):De:=ds.map (fun d=>ς (T.f d))++(qc1 (m-ds.length-caps.length) ψ++caps.map (fun d=>ς (T.f d)))
def kh(m:Nat)(g:De->ζ Out)(caps:η Dt):η Dt->ζ T:=fun ds=>match g (deC m ds caps)with
 |some (.rt t)=>ς t
 |some (.nx _)=>ς (.f .non)
 |_=>ψ
def uE{F:Hp}{caps:η Dt}{fs:η V}(fh:Same F H)(r:Reps K F ds vs)(rc:Reps K F caps fs):En ⟨K,F,H,fun _=>False⟩ (deC N.length ds caps) (e7 N vs fs) F H:=by
 have U:=r.length;have Z:=rc.length
 have q:∀(i:Nat)(t:T),(deC N.length ds caps)[i]?=ς (ς t)->∃d v,t=T.f d/\Rep K F d v/\(e7 N vs fs)[i]?=ς (ς v):=fun i t h=>by
  unfold deC at h;unfold e7;rw[U,Z];by_cases hi:i<ds.length
  .rw[qb4 (by simpa using hi),qb1]at h;have O:ds[i]?=ς ds[i]:=by simp[hi]
   rw[O]at h;cases h;obtain⟨v,W,L⟩:=r.get O;refine⟨_,v,rfl,L,?_⟩;rw[qb4 (by simp;lia),qb1,W];rfl
  .rw[qc9 (by simpa using hi),qa1]at h;rw[qc9 (by simp;lia),qa1,U];by_cases Y:i-ds.length<N.length-ds.length-caps.length
   .rw[qb4 (by simpa using Y),qk4]at h;split at h<;>cases h
   .rw[qc9 (by simpa using Y),qm0,qb1]at h;obtain⟨d,O,e⟩:=mS h;cases e;obtain⟨v,W,L⟩:=rc.get O;refine⟨d,v,rfl,L,?_⟩;rw[qc9 (by simpa using Y),qm0,qb1,W];rfl
 refine⟨fh,fun b o h _=>h,Same.refl _,fun b o h=>.inl h,?_,fun i t h=>?_,fun _ _=>False,fun i t v h=>?_,fun i b z=>z.elim,fun i j b z _=>z.elim⟩
 .unfold deC e7;simp[U,Z]
 .obtain⟨d,v,_,_,e⟩:=q i t h;exact⟨v,e⟩
 .obtain⟨h1,h2⟩:=dY h;obtain⟨d,v',rfl,L,e⟩:=q i t h1;rw[h2]at e;cases e;exact L
section
variable{P:qd1}{w:Ja}{K:xA9}{mg:Str->ζ Vz}{base:Heap}{N ps fr:η Str}{name qual:Str}{params:qj2}{body:η Jb}{scope:Jd}{f c':J9}{cl:η (Str×J9)}{H:Hp}{fs:η V}{doc pm ctv:Vz}{fo:Obj}{uf:HO}{k:Nat}{g:De->ζ Out}{caps ds:η Dt}{F0:Hp}{t:T}
theorem ClAt.up(C:ClAt H f name qual params body scope cl fr fs c' doc pm ctv fo uf)(h:∀b o u,H b=ς (.frz o u)->H' b=ς (.frz o u)):ClAt H' f name qual params body scope cl fr fs c' doc pm ctv fo uf:=⟨h _ _ _ C.fn,C.dat,let ⟨oc,z⟩:=C.cod;⟨oc,h _ _ _ z⟩,fun x c q=>let ⟨o,u,g,d⟩:=C.cel x c q;⟨o,u,h _ _ _ g,d⟩,C.inj,C.len,fun i x v h1 h2=>let ⟨c,o,u,e1,e2,e3⟩:=C.val i x v h1 h2;⟨c,o,u,e1,h _ _ _ e2,e3⟩,C.nms⟩
def sH (S:ClScope N ps fr scope) (ndn:∀ x,∀ y∈scope.names,y.1=x->scope.names.lookup x=ς y.2) (C:ClAt H f name qual params body scope cl fr fs c' doc pm ctv fo uf) (rc:Reps K F0 caps fs)
  (hbd:∀(s:qa5)(us:η Vz),us.length=ps.length->za9 s (xG9 name qual params body scope cl .none .none doc pm ψ (.ref c') ctv) ⟨us,[]⟩ (ps.zip us))
  (Z:∀(A:qe0)(outer:η Env)(s:qa5)(H:Hp),Room k (A.deeper (iS qual scope s.heap.objs.size f (.ref c') cl))->DS (pd CX0 P w K mg base N qual scope f (.ref c') cl A outer s H E0 fun _ _=>False) body g)
  (hl:ds.length=ps.length) (ht:kh N.length g caps ds=ς t) (A:qe0) (outer:η Env) (s:qa5) (H' F:Hp) (us:η Vz) (vs:η V) (Q:VK) (hr:Room (k+1) A) (hp:∀b o u,H b=ς (.frz o u)->H' b=ς (.frz o u)) (e0:Env0 P w K mg base A outer s H') (h0:Same F0 F) (fh:Same F H') (r:Vals vs us) (rd:Reps K F ds vs) (kq:KO K F H' t Q) :
  qq6 (model P w) A (.call (.ref f) ⟨us,[]⟩) (CR CX0 outer P w H' s Q E0) s:=by
 have C':=C.up hp;have hvl:vs.length=ps.length:=by rw[rd.length,hl]
 have cn:∀b,b∈cl.map (·.2)->∃o u,H' b=ς (gq b o)/\o.data=.cell (ς u):=fun b L=>by obtain⟨x,hx⟩:=iU L;exact C'.cel x b hx
 have hsx:SameX F (cX F cl):=fun b o e hn=>by
  rw[bB fun z=>?_]
  .exact e
  .obtain⟨ob,u,g,_⟩:=cn b z;have:=fh b o e;rw[g]at this;exact hn _ _ (qd9 this).symm
 have fh':Same (cX F cl) (cX H' cl):=fun b o e=>by obtain⟨L,e⟩:=mE e;rw[bB L];exact fh b o e
 have fin:∀v Y H2,Rt ⟨K,cX F cl,cX H' cl,fun _=>False⟩ t v Y H2->(∀b∈cl.map (·.2),H2 b=ψ)->Q v (fK H' cl H2):=fun v Y H2 R hn=>by
  obtain⟨fh2,prot,old,nw,So,o,hs⟩:=R;have sin:∀{b:J9},b∈cl.map (·.2)->fK H' cl H2 b=H' b:=fun L=>if_pos L
  have U:∀{b:J9},b∉cl.map (·.2)->fK H' cl H2 b=H2 b:=fun L=>if_neg L
  let F3:Hp:=fK F cl Y;have tin:∀{b:J9},b∈cl.map (·.2)->F3 b=F b:=fun L=>if_pos L
  have O:∀{b:J9},b∉cl.map (·.2)->F3 b=Y b:=fun L=>if_neg L
  have nF2:∀b,b∈cl.map (·.2)->Y b=ψ:=fun b L=>by
   cases z:Y b with
   |none=>rfl
   |some u=>have:=fh2 b u z;rw[hn b L]at this;cases this
  have h23:Same Y F3:=fun b u e=>by
   by_cases L:b∈cl.map (·.2)
   .rw[nF2 b L]at e;cases e
   .rw[O L];exact e
  have hh23:Same H2 (fK H' cl H2):=fun b u e=>by
   by_cases L:b∈cl.map (·.2)
   .rw[hn b L]at e;cases e
   .rw[U L];exact e
  refine kq v (fK H' cl H2) F3 So ⟨fun b u e=>?_,fun b u e=>?_,fun b u e=>?_,fun b u e=>?_⟩ (Own.step h23 (fun b u _ e=>hh23 b u e) o) fun b z=>?_
  .by_cases L:b∈cl.map (·.2)
   .rw[sin L];exact e
   .rw[U L];exact prot b u ((bB L).trans e) id
  .by_cases L:b∈cl.map (·.2)
   .rw[tin L];exact e
   .rw[O L];exact old b u ((bB L).trans e)
  .by_cases L:b∈cl.map (·.2)
   .rw[tin L]at e;rw[sin L];exact fh b u e
   .rw[O L]at e;rw[U L];exact fh2 b u e
  .by_cases L:b∈cl.map (·.2)
   .rw[tin L]at e;exact .inl e
   .rw[O L]at e;rcases nw b u e with y|y|⟨ws,y⟩
    .exact .inl ((bB L).symm.trans y)
    .exact .inr (.inl ((bB L).symm.trans (y.elim id qg9)))
    .exact .inr (.inr ⟨ws,(bB L).symm.trans y⟩)
  .obtain⟨h1,⟨u,h2,nt⟩,h3⟩:=hs b z;have L:b∉cl.map (·.2):=fun y=>by rw[hn b y]at h2;cases h2
   exact⟨by rw[O L];exact h1,(bB L).symm.trans (h3.elim id qg9),u,by rw[U L];exact h2,nt⟩
 have hul:us.length=ps.length:=by rw[<- r.length];exact hvl
 refine wb (CX:=CX0) (E:=E0) S C' ndn hr e0 (hbd s us hul) hvl r fun hr2=>⟨_,Z A outer s (cX H' cl) hr2,?_⟩
 have en:=uE (N:=N) fh' (rd.sameX hsx) ((rc.same h0).sameX hsx);unfold kh at ht;split at ht
 .rename_i t' q;cases ht;exact⟨_,_,_,_,rfl,en,q,fun v Y H2 R=>fin v Y H2 R⟩
 .rename_i δ' q;cases ht;exact⟨_,_,_,_,rfl,en,q,fun σ' Y H2 z=>fin .non Y H2 (z.rt (Step.refl z.fh) (t:=.f .non) (S:=fun _=>False) (iZ (K:=K) (F:=Y)) fun _ y=>y.elim)⟩
 .cases ht
end
end L2
namespace L2
open PySem PySem.Spec PyProof.Rows
structure MadeH(H H':Hp)(f c':J9)(qual:Str)(fo:Obj):Prop where
 fn:H' f=ς (.frz fo (.ext fun h=>h.get? f=ς fo))
 cod:∃oc,H' c'=ς (.frz oc (.code qual))
 old:Same H H'
 free:H f=ψ
def tDef(P:J9)(qs:η ((Nat×Nat)×Str))(i:Nat)(name qual:Str)(params:qj2)(body:η Jb)(scope:Jd)(clos:η (Str×J9)):TS:=fun D σ H=>H P=ς (.ctab qs)/\∀(f c':J9)(doc pm ctv:Vz)(H':Hp),MadeH H H' f c' qual {cls:=.type "function",data:=.func (xG9 name qual params body scope clos .none .none doc pm ψ (.ref c') ctv)}->D.nx (σ.set i (ς (.ref f))) H'
section
variable{X:Cx}{c P:J9}{qs:η ((Nat×Nat)×Str)}{name qual:Str}{params:qj2}{body:η Jb}{scope:Jd}{clos:η (Str×J9)}{pos:Pos}{i:Nat}
theorem CT (hN:X.N.Nodup) (hi:X.N[i]?=ς name) (hx:Loc X.env.scope name) (hfn:X.fn name=θ∨X.env.scope.names.lookup name=ς .local) (B:TabB X.mg X.base c P) (L:X.env.code=.ref c) (hqn:qualnameIn X.env name name=qual) (hq:((pos.line,pos.col),qual)∈qs) (O:∀ q,((pos.line,pos.col),q)∈qs->q=qual) (U:zg0 scope X.env=pure clos)
  (Z:params.defaults=[]) (Y:params.kw_defaults=[]) (ha:annTrees params ψ X.env=[]):PS X (.FunctionDef name params body [] ψ [] scope ψ name pos) (tDef P qs i name qual params body scope clos):=by
 intro J1 s σ H D I h;obtain⟨hP,q⟩:=h;refine PySem.W.nestDef_K Z Y ha ?_;rw[hqn];refine zI I B L hP hq O U fun f c' doc pm ctv H' s' M I'=>?_
 exact iL I' hN hi hx (v:=.ref f) rfl (fun s2 I2=>⟨_,H',I2,q f c' doc pm ctv H' ⟨M.fn,M.cod,fun b o e=>M.old b o e,I.hok.fresh M.lof⟩⟩) hfn
end
def bN(X:Cx)(b:J9):Prop:=∃x,X.env.cells.lookup x=ς b
open Classical in
def jW(X:Cx)(H:Hp):Hp:=fun b=>if bN X b then ψ else H b
structure PlusC(X:Cx)(σ:St)(H H':Hp):Prop where
 out:∀b,¬ bN X b->H' b=H b
 fre:∀b,bN X b->H b=ψ
 cel:∀x c,X.env.cells.lookup x=ς c->∃o v,H' c=ς (gq c o)/\o.data=.cell v/\∀(i:Nat)(val:V),X.N[i]?=ς x->σ[i]?=ς (ς val)->(X.env.kindOf x=ς .cell∨X.env.kindOf x=ς .free)->∃u,v=ς u/\RelV val u
variable{H':Hp}{u:Vz}
section
variable{X:Cx}{J1:η (J9×Obj)}{σ:St}{H:Hp}{s:qa5}
def pi{b:J9}(h:bN X b):jW X H b=ψ:=if_pos h
def cx{b:J9}(h:¬ bN X b):jW X H b=H b:=if_neg h
open Classical in
def zP(I:Inv X J1 σ H s)(L:∀b,bN X b->b∉frs X.stack/\∀o,X.base.get? b≠ς o):∃H',PlusC X σ H H'/\Env0 X.prog X.w X.K X.mg X.base X.A X.stack s H':=by
 let H':Hp:=fun b=>if bN X b then(s.heap.get? b).map (gq b)else H b
 have Y:∀{b:J9},bN X b->H' b=(s.heap.get? b).map (gq b):=fun h=>if_pos h
 have q:∀{b:J9},¬ bN X b->H' b=H b:=fun h=>if_neg h
 have e0:=I.env0;refine⟨H',⟨fun b h=>q h,fun b ⟨x,W⟩=>I.freeC x b W,fun x c e=>?_⟩,⟨e0.frames,e0.mod,fun b o e=>⟨(e0.bs b o e).1,?_⟩,e0.bsz,e0.funs,fun b U=>?_,fun b u e=>?_,e0.bare,fun p hp=>by rw[q fun⟨x,W⟩=>by have:=I.freeC x _ W;rw[e0.tb p hp]at this;cases this];exact e0.tb p hp⟩⟩
 .obtain⟨v,o,O,hd⟩:=I.cell x c e;refine⟨o,v,by rw[Y ⟨x,e⟩,O];rfl,hd,fun i val h1 h2 h3=>?_⟩;obtain⟨m,_,hl⟩:=I.loc;have hv:Vis X.env.scope x:=h3.elim (fun z=>.inr (.inl z)) fun z=>.inr (.inr z)
  obtain⟨u,ru,lk⟩:=hl i x val h1 h2 hv;rcases lk with ⟨k1,_⟩|⟨_,c2,k2,o2,k3,Z⟩
  .rcases h3 with z|z<;>(rw[k1]at z;cases z)
  .rw[e]at k2;cases k2;rw[O]at k3;cases k3;rw[hd]at Z;cases Z;exact⟨u,rfl,ru⟩
 .have:¬ bN X b:=fun z=>(L b z).2 o e
  rw[q this];exact(e0.bs b o e).2
 .have:¬ bN X b:=fun z=>(L b z).1 U
  rw[q this];exact e0.frf b U
 .have up:∀c u,H c=ς u->H' c=ς u:=fun c u z=>by
   rw[q]
   .exact z
   .rintro⟨x,W⟩;rw[I.freeC x c W]at z;cases z
  by_cases U:bN X b
  .rw[Y U]at e;obtain⟨o,O,rfl⟩:=mS e;exact⟨O,O,⟨o,O⟩,fun h1 h2 z1 z2=>z2 o z1⟩
  .rw[q U]at e;exact(I.hok b u e).stay (fun _ _ _ z=>z) (fun c z=>up c _ z) (fun c xs z=>up c _ z) fun c ob xs z=>up c _ z
def Inv.afterP{Q:VK}{s':qa5}(I:Inv X J1 σ H s)(Y:PlusC X σ H H')(ok':HOk X.prog X.w H' s.heap)(h:CE X.stack X.prog X.w H' s (fun v H2=>(∀c,bN X c->H2 c=H' c)->Q v (jW X H2)) u s'):EP X J1 σ Q u s':=by
 obtain⟨v,H2,os,bare,un,Z,r,q⟩:=h;obtain⟨hh,g,d,t,os'⟩:=s';obtain rfl:os'=s.os:=os
 have O:∀{b:J9},bN X b->∃o,H' b=ς (gq b o)/\s.heap.get? b=ς o/\H2 b=ς (gq b o)/\hh.get? b=ς o:=fun {b} hb=>by obtain⟨x,U⟩:=hb;obtain⟨o,v,e,_⟩:=Y.cel x b U;have e2:=un.frzs b o _ e;exact⟨o,e,(ok' b _ e).1,e2,(Z b _ e2).1⟩
 have W:∀{b:J9}{w:HO},H b=ς w->¬ bN X b:=fun {b w} z ⟨x,U⟩=>by rw[I.freeC x b U]at z;cases z
 refine⟨v,jW X H2,I.call (h':=hh) (g':=g) (d':=d) (t':=t) (ch:=[]) ⟨fun b o e n hb U=>?_,fun b o e n hb U=>?_,fun b o e n U=>?_,un.there,fun b xs e=>?_,fun b o w e=>?_,fun b ps e=>?_,fun b qs e=>?_⟩ (fun b w e=>?_) bare (fun b z=>absurd z Ξ),r,q fun c L=>?_⟩
 .by_cases L:bN X b
  .obtain⟨o',_,h1,_,h2⟩:=O L;rw[e]at h1;cases h1;exact h2
  .exact un.keep b o e (by rw[Y.out b L];exact n) hb U
 .by_cases L:bN X b
  .obtain⟨o',_,h1,_,h2⟩:=O L;rw[e]at h1;cases h1;exact⟨o.slots,h2⟩
  .exact un.slot b o e (by rw[Y.out b L];exact n) hb U
 .by_cases L:bN X b
  .exact pi L
  .rw[cx L];exact un.free b o e (by rw[Y.out b L];exact n) U
 .rw[cx (W e)];exact un.tups b xs (by rw[Y.out b (W e)];exact e)
 .rw[cx (W e)];exact un.frzs b o w (by rw[Y.out b (W e)];exact e)
 .rw[cx (W e)];exact un.tbls b ps (by rw[Y.out b (W e)];exact e)
 .rw[cx (W e)];exact un.cts b qs (by rw[Y.out b (W e)];exact e)
 .by_cases L:bN X b
  .rw[pi L]at e;cases e
  .rw[cx L]at e
   have up:∀c u,H2 c=ς u->(∀ob φ,u≠.frz ob (.ext φ))->jW X H2 c=ς u:=fun c u z hn=>by
    rw[cx]
    .exact z
    .intro hcc;obtain⟨o',_,_,h1,_⟩:=O hcc;rw[z]at h1;exact hn _ _ (qd9 h1)
   exact(Z b w e).stay (fun _ _ _ z=>z) (fun c z=>up c _ z fun _ _ y=>nomatch y) (fun c xs z=>up c _ z fun _ _ y=>nomatch y) fun c ob xs z=>up c _ z fun _ _ y=>nomatch y
 .obtain⟨o',h1,_,h2,_⟩:=O L;rw[h1,h2]
end
variable{l:η Dt}{vs:η V}
section
variable{K:xA9}{F H:Hp}{Q:VK}
def KO.int{i:Int}(k:KO K F H (.f (.int i)) Q)(q:Same F H):Q (.int i) H:=k.leaf.here q f7
def KO.bl{i:Bool}(k:KO K F H (.f (.bl i)) Q)(q:Same F H):Q (.bl i) H:=k.leaf.here q nU
def KO.str{i:Str}(k:KO K F H (.f (.str i)) Q)(q:Same F H):Q (.str i) H:=k.leaf.here q iY
def KO.tup{p:J9}(k:KO K F H (.f (.t l)) Q)(q:Same F H)(r:Reps K F l vs)(hp:H p=ψ):Q (.ref p) (upd H p (.t vs)):=by refine k.leaf _ _ _ (Step.new q hp) ?_;simp only[Rep];exact⟨p,vs,rfl,SqT.of aU,r.same (Same.upd (q.free hp))⟩
end
def jX(i j:Int):Bool:=(decide (-(2^64)<i)&&decide (i<2^64))||(decide (-(2^64)<j)&&decide (j<2^64))
def zQ{i j:Int}(h:jX i j=θ):CMul i j:=by unfold jX at h;simp only[qi8,qb3,decide_eq_true_eq]at h;exact h
def zR{i j:Int}(h1:-1000000000000000000<i)(h2:i<1000000000000000000):jX i j=θ:=by unfold jX;simp only[qi8,qb3,decide_eq_true_eq];left;lia
def zS{i j:Int}(h1:-1000000000000000000<j)(h2:j<1000000000000000000):jX i j=θ:=by unfold jX;simp only[qi8,qb3,decide_eq_true_eq];right;lia
def pj(i j:Int):Bool:=decide (0<=j)&&decide (j<=1000000)&&decide (i.natAbs<2^64)
def zT{i j:Int}(h:pj i j=θ):Cp i j:=by unfold pj at h;simp only[qb3,decide_eq_true_eq]at h;exact⟨h.1.1,h.1.2,h.2⟩
noncomputable def az:Dt->Dt->ζ T
 |.int i,.int j=>ς (.f (.int (i+j)))
 |.str a,.str b=>if a.length+b.length<=qb2 then ς (.f (.str (a++b)))else ψ
 |.e l,.e m=>if l.length+m.length<=qb2 then ς (.e (l++m))else ψ
 |.t l,.t m=>if l.length+m.length<=qb2/\l≠[]/\m≠[]then ς (.f (.t (l++m)))else ψ
 |_,_=>ψ
noncomputable def fj:Dt->Dt->ζ T
 |.int i,.int j=>ς (.f (.int (i-j)))
 |_,_=>ψ
def fw:Dt->Dt->ζ T
 |.int i,.int j=>if jX i j then ς (.f (.int (i*j)))else ψ
 |_,_=>ψ
def cg:Dt->Dt->ζ T
 |.int i,.int j=>if 0<j then ς (.f (.int (i%j)))else ψ
 |_,_=>ψ
def jD:Dt->Dt->ζ T
 |.int i,.int j=>if pj i j then ς (.f (.int (i^j.toNat)))else ψ
 |_,_=>ψ
def f9(f:Int->Int->Bool):Dt->Dt->ζ T
 |.int i,.int j=>ς (.f (.bl (f i j)))
 |_,_=>ψ
variable{K:xA9}{H F':Hp}{b:Bool}{v:V}{r r':R2}{g g':Dt->Dt->ζ T}{σ:St}{e:Jc}{p2:Pos}
section
variable{X:Cx}
def zU:OpR X (ql4 .Add) (fun x y H Q=>∃l b xs zs,x=.ref l/\y=.ref b/\SqL X.K H l xs/\SqL X.K H b zs/\xs.length+zs.length<=qb2/\∀p,H p=ψ->Q (.ref p) (upd H p (.e (xs++zs)))):=by
 intro J1 s σ H x y v u Q I rx ry h;obtain⟨l,b,xs,zs,rfl,rfl,hH,hB,hz,q⟩:=h;cases rx;cases ry;obtain⟨J8,r,pl,_⟩:=I.list hH;obtain⟨L,r2,Z,_⟩:=I.list hB;obtain⟨⟨cls,dd,data,sl⟩,n,ho,hc,hd0,hd⟩:=pl;obtain⟨⟨cls2,Y,data2,sl2⟩,n2,W,O,hd02,U⟩:=Z;simp only at hc hd O U;subst hc hd O U;have e:J8.toArray++L.toArray=(J8++L).toArray:=by simp
 refine qy3 ⟨_,ho,rfl⟩ ⟨_,W,rfl⟩ noFill_list_add seq_list_add PySem.F.slot_list_add PySem.F.entry_list_add (PySem.F.args_list_add_2 _ _) (list_addW l b J8.toArray L.toArray n n2 dd Y sl sl2 (by rw[qb7,qb7,<- r.length,<- r2.length];exact hz)) ⟨ho,W,?_⟩;rw[e];exact⟨.ref _,_,I.lnew (t':=s.toks) (r.append r2) (by rw[qc0];exact hz),rfl,q _ I.fresh⟩
abbrev mI(K:xA9):R2:=fun x y H Q=>(rI0 (fun i j=>.int (i+j)) x y H Q)∨(∃i j,x=.str i/\y=.str j/\i.length+j.length<=qb2/\Q (.str (i++j)) H)∨(∃l b xs zs,x=.ref l/\y=.ref b/\SqL K H l xs/\SqL K H b zs/\xs.length+zs.length<=qb2/\∀p,H p=ψ->Q (.ref p) (upd H p (.e (xs++zs))))∨A9 K x y H Q
def cO:OpR X (ql4 .Add) (mI X.K):=OpR.or Cq (OpR.or qr (OpR.or zU zw))
def fB:R2D K (mI K) az:=by
 intro F H x y vx Z Q t O Y W q k;unfold az at q;split at q<;>first|(cases q;done)|skip
 .cases q;cases Y;cases W;exact .inl ⟨_,_,rfl,rfl,k.int O⟩
 .split at q
  .cases q;cases Y;cases W;exact .inr (.inl ⟨_,_,rfl,rfl,by assumption,k.str O⟩)
  .cases q
 .split at q
  .rename_i U;cases q;obtain⟨a,vs,rfl,h1,h2⟩:=Y;obtain⟨b,ws,rfl,h3,L⟩:=W;exact .inr (.inr (.inl ⟨a,b,vs,ws,rfl,rfl,h1,h3,by rw[h2.length,L.length];exact U,fun p hp=>fA k O (h2.append L) hp⟩))
  .cases q
 .split at q
  .rename_i U;cases q;obtain⟨a,vs,rfl,h1,h2⟩:=Y;obtain⟨b,ws,rfl,h3,L⟩:=W;obtain⟨U,n1,n2⟩:=U;refine .inr (.inr (.inr ⟨a,b,vs,ws,rfl,rfl,O.tup h1,O.tup h3,fun z=>?_,by rw[h2.length,L.length];exact U,fun z=>?_,fun _ p hp=>k.tup O (h2.append L) hp⟩))
   .subst z;have:=h2.length;exact n1 (qv3 this.symm)
   .subst z;have:=L.length;exact absurd (qv3 this.symm) n2
  .cases q
def E6:R2D K (rI0 fun i j=>.int (i-j)) fj:=by
 intro F H x y Y W Q t U L O q k;unfold fj at q;split at q<;>first|(cases q;done)|skip
 cases q;cases L;cases O;exact⟨_,_,rfl,rfl,k.int U⟩
def Bf:R2D K (rI CMul fun i j=>.int (i*j)) fw:=by
 intro F H x y Y W Q t U L O q k;unfold fw at q;split at q<;>first|(cases q;done)|skip
 split at q
 .cases q;cases L;cases O;exact⟨_,_,rfl,rfl,zQ (by assumption),k.int U⟩
 .cases q
def sI:R2D K (rI (fun _ j=>0<j) fun i j=>.int (i%j)) cg:=by
 intro F H x y Y W Q t U O L q k;unfold cg at q;split at q<;>first|(cases q;done)|skip
 split at q
 .cases q;cases O;cases L;exact⟨_,_,rfl,rfl,by assumption,k.int U⟩
 .cases q
def pk:R2D K (rI Cp fun i j=>.int (i^j.toNat)) jD:=by
 intro F H x y Y W Q t U L O q k;unfold jD at q;split at q<;>first|(cases q;done)|skip
 split at q
 .cases q;cases L;cases O;exact⟨_,_,rfl,rfl,zT (by assumption),k.int U⟩
 .cases q
def gZ{f:Int->Int->Bool}:R2D K (rI0 fun i j=>.bl (f i j)) (f9 f):=by
 intro F H x y Y W Q t U O L q k;unfold f9 at q;split at q<;>first|(cases q;done)|skip
 cases q;cases O;cases L;exact⟨_,_,rfl,rfl,k.bl U⟩
def eqD:Dt->Dt->ζ Bool
 |.non,.non=>ς θ
 |.non,.int _=>ς ξ
 |.non,.bl _=>ς ξ
 |.non,.str _=>ς ξ
 |.int _,.non=>ς ξ
 |.bl _,.non=>ς ξ
 |.str _,.non=>ς ξ
 |.int i,.int j=>ς (decide (i=j))
 |.bl i,.bl j=>ς (decide (i=j))
 |.str i,.str j=>ς (decide (i=j))
 |.int _,.str _=>ς ξ
 |.str _,.int _=>ς ξ
 |.bl _,.str _=>ς ξ
 |.str _,.bl _=>ς ξ
 |.t l,.t m=>if cmpbs l m&&decide (deeps l<=59)then ς (peqs l m)else ψ
 |.e l,.e m=>if cmpbs l m&&decide (deeps l<=59)then ς (peqs l m)else ψ
 |_,_=>ψ
def gEq(neg:Bool)(x y:Dt):ζ T:=(eqD x y).map fun b=>.f (.bl (if neg then !b else b))
abbrev rEqA(K:xA9):R2:=fun x y H Q=>rEq x y H Q∨zJ K ξ x y H Q
abbrev rNeA(K:xA9):R2:=fun x y H Q=>rNe x y H Q∨zJ K θ x y H Q
def qG{k:Nat}(q:Room k X.A):OpR X (qf7 .Eq) (rEqA X.K):=OpR.or EK (CO q rfl)
def nV{k:Nat}(q:Room k X.A):OpR X (qf7 .NotEq) (rNeA X.K):=OpR.or EL (CP q rfl)
def wz {F:Hp} {x y:Dt} {O L:V} (Y:Same F H) (U:RepB K F H x O) (W:RepB K F H y L) (h:eqD x y=ς b) :
  (Ct O L=θ/\b=decide (O=L))∨(((∃l m,x=.t l/\y=.t m)∨∃l m,x=.e l/\y=.e m)/\dX x y=θ/\f6 x<=60/\b=peq x y):=by
 unfold eqD at h
 split at h<;>first
  |(cases h;done)
  |(cases h;cases U;cases W;left;refine⟨rfl,?_⟩;simp;done)
  |skip
 .right;split at h
  .rename_i q;simp only[qb3,decide_eq_true_eq]at q;cases h;exact⟨.inl ⟨_,_,rfl,rfl⟩,by simp only[dX];exact q.1,by simp only[f6];lia,by simp only[peq]⟩
  .cases h
 .right;split at h
  .rename_i q;simp only[qb3,decide_eq_true_eq]at q;cases h;exact⟨.inr ⟨_,_,rfl,rfl⟩,by simp only[dX];exact q.1,by simp only[f6];lia,by simp only[peq]⟩
  .cases h
def CU:R2D K (rEqA K) (gEq ξ):=by
 intro F H x y Z Y Q t q U O L k;unfold gEq at L;obtain⟨b,W,L⟩:=mS L;cases L;have kk:Q (.bl b) H:=k.bl q;rcases wz q U O W with ⟨h1,rfl⟩|⟨h1,h2,h3,rfl⟩
 .exact .inl ⟨h1,kk⟩
 .exact .inr ⟨x,y,h1,U.rep q,O.rep q,h2,h3,kk⟩
def zV:R2D K (rNeA K) (gEq θ):=by
 intro F H x y Z Y Q t q U O L k;unfold gEq at L;obtain⟨b,W,L⟩:=mS L;cases L;have kk:Q (.bl (!b)) H:=k.bl q;rcases wz q U O W with ⟨h1,rfl⟩|⟨h1,h2,h3,rfl⟩
 .exact .inl ⟨h1,kk⟩
 .exact .inr ⟨x,y,h1,U.rep q,O.rep q,h2,h3,kk⟩
noncomputable def gx:Dt->Bool
 |.non=>θ
 |_=>ξ
def gIs(neg:Bool)(x y:Dt):ζ T:=match y with
 |.non=>ς (.f (.bl (if neg then !gx x else gx x)))
 |_=>ψ
def pp{F:Hp}{x:Dt}(r:RepB K F H x v):gx x=decide (v=.non):=by
 cases x<;>first
  |(cases r;rfl)
  |(obtain⟨a,vs,rfl,_⟩:=r;rfl)
  |(simp only[RepB,Rep]at r;obtain⟨a,C,dx,fs,rfl,_⟩:=r;rfl)
def uF:R2D K (fun x y H Q=>y=.non/\Q (.bl (decide (x=.non))) H) (gIs ξ):=by
 intro F H x y Y W Q t U O L q k;cases y<;>first|cases q;done|skip
 cases q;cases L;refine⟨rfl,?_⟩;rw[<- pp O];exact k.bl U
def ku:R2D K (fun x y H Q=>y=.non/\Q (.bl (!decide (x=.non))) H) (gIs θ):=by
 intro F H x y Y W Q t U O L q k;cases y<;>first|cases q;done|skip
 cases q;cases L;refine⟨rfl,?_⟩;rw[<- pp O];exact k.bl U
def cG:Dt->Bool
 |.non=>θ
 |.bl _=>θ
 |.int _=>θ
 |.str _=>θ
 |_=>ξ
noncomputable def eqF:Dt->Dt->Bool
 |.non,.non=>θ
 |.bl a,.bl b=>a==b
 |.bl a,.int b=>(if a then 1 else 0)==b
 |.int a,.bl b=>a==(if b then 1 else 0)
 |.int a,.int b=>a==b
 |.str a,.str b=>a==b
 |_,_=>ξ
def inS(j i:Str):Bool:=!(qs3 j i 0 j.length 1).isEmpty
def inD:Dt->Dt->ζ Bool
 |.str i,.str j=>ς (inS j i)
 |x,.e l=>if cG x&&l.all cG then ς (l.any fun y=>eqF y x)else ψ
 |x,.t l=>if cG x&&l.all cG then ς (l.any fun y=>eqF y x)else ψ
 |_,_=>ψ
def gIn(neg:Bool)(x y:Dt):ζ T:=(inD x y).map fun b=>.f (.bl (if neg then !b else b))
def nW{F:Hp}{d:Dt}(r:Rep K F d v)(h:cG d=θ):iu v=θ:=by
 cases d<;>simp only[Rep]at r<;>first
  |(subst r;rfl)
  |cases h
def CV{F:Hp}{d e:Dt}{w:V}(r:Rep K F d v)(r':Rep K F' e w)(h:cG d=θ)(h':cG e=θ):eqF d e=eqV v w:=by
 cases d<;>first|cases h;done|skip
 all_goals cases e<;>first|cases h';done|skip
 all_goals simp only[Rep]at r r';subst r r';rfl
theorem k8{F:Hp}:∀{l:η Dt}{vs:η V},Reps K F l vs->l.all cG=θ->vs.all iu=θ
 |[],vs,r,_=>by simp only[Reps]at r;subst r;rfl
 |d::l,vs,r,h=>by simp only[Reps]at r;obtain⟨v,ws,rfl,h1,h2⟩:=r;rw[qk5,qb3]at h ⊢;exact⟨nW h1 h.1,k8 h2 h.2⟩
theorem qH{F:Hp}{x:Dt}{w:V}(r':Rep K F' x w)(q:cG x=θ):∀{l:η Dt}{vs:η V},Reps K F l vs->l.all cG=θ->(l.any fun y=>eqF y x)=inV w vs
 |[],vs,r,_=>by simp only[Reps]at r;subst r;rfl
 |d::l,vs,r,h=>by simp only[Reps]at r;obtain⟨v,ws,rfl,h1,h2⟩:=r;rw[qk5,qb3]at h;unfold inV;rw[qk6,qk6,CV h1 r' h.1 q,qH r' q h2 h.2];rfl
abbrev wA(K:xA9)(neg:Bool):R2:=fun x y H Q=>(∃i j,x=.str i/\y=.str j/\Q (.bl (if neg then !inS j i else inS j i)) H)∨rIn K neg x y H Q
def wC:OpR X (qf7 .In) (wA X.K ξ):=OpR.or uk uq
def uG:OpR X (qf7 .NotIn) (wA X.K θ):=OpR.or nI nH
def r_in(neg:Bool):R2D K (wA K neg) (gIn neg):=by
 intro F H x y vx vy Q t U Z Y W k;unfold gIn at W;obtain⟨b,O,W⟩:=mS W;cases W;have kk:=k.bl U;unfold inD at O;split at O<;>first|(cases O;done)|skip
 .cases O;cases Z;cases Y;exact .inl ⟨_,_,rfl,rfl,kk⟩
 .split at O
  .rename_i q;rw[qb3]at q;cases O;obtain⟨a,vs,rfl,h1,h2⟩:=Y;have L:=Z.rep U;rw[qH L q.1 h2 q.2]at kk;exact .inr ⟨a,vs,rfl,.inl h1,nW L q.1,k8 h2 q.2,kk⟩
  .cases O
 .split at O
  .rename_i q;rw[qb3]at q;cases O;obtain⟨a,vs,rfl,h1,h2⟩:=Y;have L:=Z.rep U;rw[qH L q.1 h2 q.2]at kk;exact .inr ⟨a,vs,rfl,.inr (U.tup h1),nW L q.1,k8 h2 q.2,kk⟩
  .cases O
def pr{F:Hp}{i:Int}{d:Dt}(r:Reps K F l vs)(h:atI l i=ς d):∃v,atI vs i=ς v/\Rep K F d v:=by unfold atI at h ⊢;rw[r.length];obtain⟨j,L,h⟩:=bS h;obtain⟨v,e,q⟩:=r.get h;exact⟨v,by rw[L];exact e,q⟩
def gIx:Dt->Dt->ζ T
 |.e l,.int i=>(atI l i).map .f
 |.t l,.int i=>(atI l i).map .f
 |.str x,.int i=>if x.length<=qb2 then(atI x.cps.toList i).map fun c=>.f (.str ⟨#[c]⟩)else ψ
 |_,_=>ψ
def r_ix:R2D K (rIx K) gIx:=by
 intro F H x y vx vy Q t L Y O q k;unfold gIx at q;split at q<;>first|(cases q;done)|skip
 .obtain⟨d,U,q⟩:=mS q;cases q;cases O;obtain⟨a,vs,rfl,h1,h2⟩:=Y;obtain⟨v,e,W⟩:=pr h2 U;exact .inl ⟨a,vs,_,v,rfl,rfl,h1,e,k.leaf.here L W⟩
 .obtain⟨d,U,q⟩:=mS q;cases q;cases O;obtain⟨a,vs,rfl,h1,h2⟩:=Y;obtain⟨v,e,W⟩:=pr h2 U;exact .inr (.inl ⟨a,vs,_,v,rfl,rfl,L.tup h1,e,k.leaf.here L W⟩)
 .split at q
  .rename_i Z;obtain⟨c,hc,q⟩:=mS q;cases q;cases Y;cases O;exact .inr (.inr ⟨_,_,c,rfl,rfl,Z,hc,k.str L⟩)
  .cases q
variable{a b c:Jc}{fa fb fc:De->ζ Dt}{pos:Pos}
def nX(g g':Dt->Dt->ζ T)(fa fb fc:De->ζ Dt):De->ζ T:=fun δ=>(fa δ).bind fun x=>(fb δ).bind fun y=>(g x y).bind fun z=>(asB z).bind fun k=>if k then(fc δ).bind fun w=>g' y w else ς (.f (.bl ξ))
def wD(hr:R2D K r g)(hr':R2D K r' g'){Q:VK}(h:tO K (nX g g' fa fb fc) σ H Q):vJ r r' (tBd K fa) (tBd K fb) (tBd K fc) σ H Q:=by
 obtain⟨Φ,δ,F,t,hK,en,L,k⟩:=h;unfold nX at L;obtain⟨x,hx,L⟩:=bS L;obtain⟨y,hy,L⟩:=bS L;obtain⟨z,hz,L⟩:=bS L;obtain⟨b,hb,L⟩:=bS L;refine⟨Φ,δ,F,x,hK,en,hx,fun v H1 F1 st rv=>⟨Φ,δ,F1,y,hK,en.step st,hy,fun v2 H2 F2 U Y=>hr F2 H2 x y v v2 _ z U.fh (rv.step U.ff U.hh) Y hz fun v3 H3 F3 S W o hs=>⟨b,nS hb o,?_⟩⟩⟩;have Z:=(st.trans U).trans W;split at L
 .rename_i q;rw[if_pos q];obtain⟨w,hw,L⟩:=bS L;exact⟨Φ,δ,F3,w,hK,en.step Z,hw,fun v4 H4 F4 O rv4=>hr' F4 H4 y w v2 v4 Q t O.fh (Y.step (W.ff.trans O.ff) (W.hh.trans O.hh)) rv4 L (k.step (Z.trans O))⟩
 .rename_i q;rw[if_neg q];cases L;exact(k.step Z).bl W.fh
theorem wE{O q:CmpOp}(ho:OpR X (qf7 O) r)(hr:R2D X.K r g)(L:OpR X (qf7 q) r')(U:R2D X.K r' g')(W:DB X a fa)(Y:DB X b fb)(Z:DB X c fc)(hm:lastMarks [O,q] [b,c]=ξ:=by with_unfolding_all rfl):DO X (.Compare a [O,q] [b,c] pos) (nX g g' fa fb fc):=PE.mono (vK ho L W Y Z hm) fun σ H Q h=>wD hr U h
noncomputable def i0(l:η Dt)(lo hi:ζ Int):η Dt:=(l.drop (HT.sIx l.length 0 lo)).take (HT.sIx l.length l.length hi-HT.sIx l.length 0 lo)
def gSl:Dt->ζ Int->ζ Int->ζ T
 |.str x,lo,hi=>if x.length<=qb2 then ς (.f (.str (Txt.slice x lo hi)))else ψ
 |.e l,lo,hi=>ς (.e (i0 l lo hi))
 |.t l,lo,hi=>if HT.sIx l.length 0 lo=0/\HT.sIx l.length l.length hi=l.length then ψ else ς (.f (.t (i0 l lo hi)))
 |_,_,_=>ψ
abbrev CW(K:xA9):V->ζ Int->ζ Int->Hp->VK->Prop:=fun x lo hi H Q=>rSlS x lo hi H Q∨rSlL K x lo hi H Q∨rSlT K x lo hi H Q
def wF:SlR X (CW X.K):=SlR.or CJ (SlR.or zz CB)
def pv{F:Hp}(r:Reps K F l vs)(lo hi:ζ Int):Reps K F (i0 l lo hi) (oX vs lo hi):=by unfold i0 oX;rw[r.length];exact(r.drop _).take _
def CY{F:Hp}{x:Dt}{lo hi:ζ Int}{Q:VK}{t:T}(L:Same F H)(O:RepB K F H x v)(q:gSl x lo hi=ς t)(k:KO K F H t Q):CW K v lo hi H Q:=by
 unfold gSl at q;split at q<;>first|(cases q;done)|skip
 .split at q
  .cases q;cases O;exact .inl ⟨_,rfl,by assumption,k.str L⟩
  .cases q
 .obtain⟨a,vs,rfl,h1,h2⟩:=O;cases q;exact .inr (.inl ⟨a,vs,rfl,h1,fun p hp=>fA k L (pv h2 _ _) hp⟩)
 .obtain⟨a,vs,rfl,h1,h2⟩:=O;split at q
  .cases q
  .rename_i U;cases q;rw[<- h2.length]at U;exact .inr (.inr ⟨a,vs,rfl,L.tup h1,U,fun p hp=>k.tup L (pv h2 _ _) hp⟩)
def tOD(K:xA9)(f:De->ζ (ζ Int)):TO:=fun σ H Q=>∃ Φ δ F d,Fm.K Φ=K/\En Φ δ σ F H/\f δ=ς d/\∀H' F',Step F H F' H'->Q d H'
def gy:De->ζ (ζ Int):=fun _=>ς ψ
noncomputable def asI:Dt->ζ Int
 |.int i=>ς i
 |_=>ψ
def db(f:De->ζ Dt):De->ζ (ζ Int):=fun δ=>(f δ).bind fun d=>(asI d).map ς
def i4{F:Hp}{x:Dt}{b:Int}(h:asI x=ς b)(r:RepB K F H x v):v=.int b:=by
 cases x<;>first|cases h;done|skip
 cases h;exact r
def DP(X:Cx)(e:ζ Jc)(f:De->ζ (ζ Int)):Prop:=PO X e (tOD X.K f)
def sJ:DP X ψ gy:=fun J1 s σ H Q I h=>zt J1 s σ H Q I (by obtain⟨Φ,δ,F,d,O,L,q,k⟩:=h;cases q;exact k H F (Step.refl L.fh))
theorem sK{f:De->ζ Dt}(h:DB X e f):DP X (ς e) (db f):=fun J1 s σ H Q I q=>zu h J1 s σ H Q I (by obtain⟨Φ,δ,F,d,O,U,L,k⟩:=q;unfold db at L;obtain⟨x,W,L⟩:=bS L;obtain⟨i,hi,L⟩:=mS L;cases L;exact⟨Φ,δ,F,x,O,U,W,fun v H' F' st r=>⟨i,i4 hi r,k H' F' st⟩⟩)
def vSl(fa:De->ζ Dt)(q L:De->ζ (ζ Int)):De->ζ T:=fun δ=>(fa δ).bind fun x=>(q δ).bind fun l=>(L δ).bind fun h=>gSl x l h
theorem pw{lo hi:ζ Jc}{f:De->ζ Dt}{fl fh:De->ζ (ζ Int)}(he:DB X e f)(W:DP X lo fl)(Y:DP X hi fh):DO X (.Subscript e (.Slice lo hi ψ p2) pos) (vSl f fl fh):=PE.mono (oW wF he W Y) fun σ H Q ⟨Φ,δ,F,t,U,Z,q,k⟩=>by unfold vSl at q;obtain⟨x,hx,q⟩:=bS q;obtain⟨l,W,q⟩:=bS q;obtain⟨h,Y,q⟩:=bS q;exact⟨Φ,δ,F,x,U,Z,hx,fun v H1 F1 s1 r1=>⟨Φ,δ,F1,l,U,Z.step s1,W,fun H2 F2 O=>⟨Φ,δ,F2,h,U,Z.step (s1.trans O),Y,fun H3 F3 L=>CY L.fh (r1.step (O.ff.trans L.ff) (O.hh.trans L.hh)) q (k.step ((s1.trans O).trans L))⟩⟩⟩
def gH(f:De->ζ Dt):De->ζ T:=fun δ=>(f δ).bind fun d=>(asI d).map fun i=>.f (.int (-i))
theorem CZ(h:DB X a fa):DO X (.UnaryOp .USub a pos) (gH fa):=PE.mono (EJ Cs h) fun σ H Q ⟨Φ,δ,F,t,L,O,q,k⟩=>by unfold gH at q;obtain⟨x,U,q⟩:=bS q;obtain⟨i,hi,q⟩:=mS q;cases q;exact⟨Φ,δ,F,x,L,O,U,fun v H' F' st r=>⟨i,i4 hi r,(k.step st).int st.fh⟩⟩
noncomputable def bz:η Dt->ζ T
 |[.str x]=>if x.length<=qb2 then ς (.f (.int x.length))else ψ
 |[.t l]=>ς (.f (.int l.length))
 |[.e l]=>ς (.f (.int l.length))
 |_=>ψ
def fm{F:Hp}{d:Dt}(r:ph K F H [d] vs):∃v,vs=[v]/\RepB K F H d v:=by obtain⟨v,ws,rfl,h1,h2⟩:=r;cases h2;exact⟨v,rfl,h1⟩
def E7:CRD K (fun xs H Q=>∃x n,xs=[x]/\LenV K x H n/\Q (.int n) H) bz:=by
 intro F H ds vs Q t O r q k;unfold bz at q;split at q<;>first|(cases q;done)|skip
 .split at q
  .rename_i U;cases q;obtain⟨v,rfl,L⟩:=fm r;cases L;exact⟨_,_,rfl,⟨U,rfl⟩,k.int O⟩
  .cases q
 .cases q;obtain⟨v,rfl,L⟩:=fm r;obtain⟨a,vs,rfl,h1,h2⟩:=L;rw[<- h2.length]at k;exact⟨_,_,rfl,.inr ⟨vs,O.tup h1,rfl⟩,k.int O⟩
 .cases q;obtain⟨v,rfl,L⟩:=fm r;obtain⟨a,vs,rfl,h1,h2⟩:=L;rw[<- h2.length]at k;exact⟨_,_,rfl,.inl ⟨vs,h1,rfl⟩,k.int O⟩
noncomputable def jY:η Dt->ζ (η Bool)
 |[]=>ς []
 |.bl b::r=>(jY r).map (b::·)
 |_=>ψ
theorem px{F:Hp}:∀{l:η Dt}{vs:η V}{bs:η Bool},Reps K F l vs->jY l=ς bs->vs=bs.map V.bl
 |[],vs,bs,r,h=>by cases h;simp only[Reps]at r;exact r
 |d::l,vs,bs,r,h=>by
  cases d<;>first|cases h;done|skip
  simp only[jY]at h;obtain⟨cs,L,h⟩:=mS h;cases h;simp only[Reps,Rep]at r;obtain⟨v,ws,rfl,rfl,q⟩:=r;rw[px q L];rfl
def qI(f:η Bool->Bool):η Dt->ζ T
 |[.e l]=>(jY l).map fun bs=>.f (.bl (f bs))
 |_=>ψ
def sL{f:η Bool->Bool}:CRD K (fun xs H Q=>∃(a:J9)(bs:η Bool),xs=[.ref a]/\SqL K H a (bs.map V.bl)/\Q (.bl (f bs)) H) (qI f):=by
 intro F H ds vs Q t U r q k;unfold qI at q;split at q<;>first|(cases q;done)|skip
 obtain⟨bs,L,q⟩:=mS q;cases q;obtain⟨v,rfl,O⟩:=fm r;obtain⟨a,vs,rfl,h1,h2⟩:=O;have:=px h2 L;subst this;exact⟨a,bs,rfl,h1,k.bl U⟩
def bO:η Dt->ζ T
 |[.e l]=>ς (.f (.t l))
 |[.t l]=>ς (.f (.t l))
 |_=>ψ
def i5:CRD K (fun xs H Q=>∃p ys,xs=[.ref p]/\((SqL K H p ys/\∀l,H l=ψ->Q (.ref l) (upd H l (.t ys)))∨(SqT K H p ys/\Q (.ref p) H))) bO:=by
 intro F H ds vs Q t U r q k;unfold bO at q;split at q<;>first|(cases q;done)|skip
 .cases q;obtain⟨v,rfl,L⟩:=fm r;obtain⟨a,vs,rfl,h1,h2⟩:=L;exact⟨a,vs,rfl,.inl ⟨h1,fun p hp=>k.tup U h2 hp⟩⟩
 .cases q;obtain⟨v,rfl,L⟩:=fm r;rename_i l;have O:Rep K F (.t l) v:=by simp only[Rep];exact L
  obtain⟨a,vs,rfl,h1,h2⟩:=L;exact⟨a,vs,rfl,.inr ⟨U.tup h1,k.leaf.here U O⟩⟩
end
variable{mg:Str->ζ Vz}{J1:η (J9×Obj)}{s:qa5}{A:qe0}{E Q:Vz->qa5->Prop}{p1 pos':Pos}{Φ:Fm}{δ:De}{N:η Str}
section
variable{X:Cx}{o a b e c:Jc}{es:η Jc}{fa fb fo fe:De->ζ Dt}{fs:De->ζ (η Dt)}{pos apos cpos p:Pos}{x:Str}{sc:Jd}{i:Nat}
def i6(K:xA9)(mg:Str->ζ Vz)(x:Str)(d:Dt):Prop:=∃v,(∃u,mg x=ς u/\RelV v u)/\∀F,Rep K F d v
def kw{d:Dt}(h:aM sc x=θ)(q:i6 X.K X.mg x d)(e1:cu X sc:=by rfl):DL X (.Name x pos) (kD d):=by obtain⟨v,h1,h2⟩:=q;exact wf (kY h h1 e1) h2
def i7{i:Str}(h:∃u,mg x=ς u/\RelV (.str i) u):i6 K mg x (.str i):=⟨_,h,fun _=>iY⟩
def pz:Dt->Bool
 |_=>ξ
def tyD:Dt->String
 |.non=>"NoneType"
 |.bl _=>"bool"
 |.int _=>"int"
 |.str _=>"str"
 |.t _=>"tuple"
 |.e _=>"list"
 |.dct _ _=>"dict"
 |.dcT _ _=>"dict"
def Bg(c:String):Dt->Bool
 |.non=>c=="NoneType"
 |.bl _=>c=="bool"||c=="int"
 |.int _=>c=="int"
 |.str _=>c=="str"
 |.t _=>c=="tuple"
 |.e _=>c=="list"
 |.dct _ _=>c=="dict"
 |.dcT _ _=>c=="dict"
def qJ {c:Vz} {b:Bool} {d:Dt} (I:Inv X J1 σ H s) (q:RelV v u) (r:Rep X.K H d v) (hi:pz d=ξ) (e:xL9 X.K (.type (tyD d)) c=ς b) (h:∀ tk,Q (.bool b) {s with toks:=tk}) :
  wpAny (model X.prog X.w) A (call (.builtin "isinstance") [u,c]) Q E s:=by
 cases d with
 |non=>simp only[Rep]at r;subst r;exact ib I q .non e h
 |bl y=>simp only[Rep]at r;subst r;exact ib I q (.bl y) e h
 |int y=>simp only[Rep]at r;subst r;exact ib I q (.int y) e h
 |str y=>simp only[Rep]at r;subst r;exact ib I q (.str y) e h
 |t l=>simp only[Rep]at r;obtain⟨a,vs,rfl,h1,h2⟩:=r;cases q;obtain⟨J8,_,U,_⟩:=I.tuple h1;obtain⟨o,O,L,_⟩:=U;exact xD9 PySem.W.kitx_tuple I.kIn ⟨o,O,L⟩ e (fun z=>nomatch z) h
 |e l=>simp only[Rep]at r;obtain⟨a,vs,rfl,h1,h2⟩:=r;cases q;obtain⟨J8,_,U,_⟩:=I.list h1;obtain⟨o,n,O,L,_⟩:=U;exact xD9 xQ9 I.kIn ⟨o,O,L⟩ e (fun z=>nomatch z) h
 |dct ks l=>simp only[Rep]at r;obtain⟨a,J6,rfl,h1,_⟩:=r;cases q;obtain⟨_,_,vs,_,p⟩:=mx I.hok h1;obtain⟨o,es,ep,O,L,_⟩:=p;exact xD9 xM9 I.kIn ⟨o,O,L.1⟩ e (fun z=>nomatch z) h
 |dcT ks l=>simp only[Rep]at r;obtain⟨a,J6,rfl,h1,_⟩:=r;cases q;obtain⟨_,_,xs,_,o,es,ep,O,L,_⟩:=(show ObjOk X.prog X.w H s.heap a (.dT J6)from h1.ok I.hok);exact xD9 xM9 I.kIn ⟨o,O,L.1⟩ e (fun z=>nomatch z) h
def fq(K:xA9)(c:String):Prop:=∀d:Dt,pz d=ξ->xL9 K (.type (tyD d)) (.type c)=ς (Bg c d)
theorem qK:du X (.builtin "isinstance") (fun xs H Q=>∃v c d b,xs=[v,.ty c]/\Rep X.K H d v/\pz d=ξ/\xL9 X.K (.type (tyD d)) (.type c)=ς b/\Q (.bl b) H):=by intro J1 s σ H xs us Q I r h;obtain⟨v,c,d,b,rfl,rd,hi,e,q⟩:=h;obtain⟨u,U,rfl,O,L⟩:=EN r;cases L;exact qJ I O rd hi e fun tk=>⟨.bl b,H,I.tok _,rfl,q⟩
def g5(c:String)(f:De->ζ Dt):De->ζ T:=fun δ=>(f δ).bind fun d=>if pz d then ψ else ς (.f (.bl (Bg c d)))
def eY{q:Str}{cs:String}(h:aM sc "isinstance"=θ)(O:aM sc q=θ)(hm:X.mg "isinstance"=ψ)(U:X.mg q=ψ)(hv:qd7 q=ς (.type cs))(hk:fq X.K cs)(ha:DB X a fa)(e1:cu X sc:=by rfl)
 (Z:qa7 [a,.Name q p2] X.env=(ξ,eval a X.env)::qa7 [.Name q p2] X.env:=by rfl) (W:qa7 [.Name q p2] X.env=(ξ,eval (.Name q p2) X.env)::qa7 [] X.env:=by rfl) (Y:(qj6 pos (qa7 [.Name q p2] X.env)).any (·.1)=ξ:=by rfl) :
  DO X (.Call (.Name "isinstance" p1) [a,.Name q p2] [] pos) (g5 cs fa):=
 PE.mono (ic h qK hm l8 (di ha (di (wc (v:=.ty cs) O U hv rfl e1) fX W) Z) e1 Z Y) fun σ H Q ⟨Φ,δ,F,t,hK,en,L,k⟩=>by
  unfold g5 at L;obtain⟨d,hd,L⟩:=bS L;cases hi:pz d with
  |true=>rw[hi]at L;cases L
  |false=>rw[hi]at L;cases L;exact⟨Φ,δ,F,d,hK,en,hd,fun v H' F' st r=>⟨v,cs,d,_,rfl,r.rep st.fh,hi,hk d hi,(k.step st).bl st.fh⟩⟩
def MRD(K:xA9)(r:V->η V->Hp->VK->Prop)(g:Dt->η Dt->ζ T):Prop:=∀F H d v ds vs (Q:VK) t,Same F H->RepB K F H d v->ph K F H ds vs->g d ds=ς t->KO K F H t Q->r v vs H Q
def jZ(g:Dt->η Dt->ζ T)(fo:De->ζ Dt)(fs:De->ζ (η Dt)):De->ζ T:=fun δ=>(fo δ).bind fun d=>(fs δ).bind fun ds=>g d ds
noncomputable def jE:η Dt->ζ (η Str)
 |[]=>ς []
 |.str b::r=>(jE r).map (b::·)
 |_=>ψ
theorem mJ{F:Hp}:∀{l:η Dt}{vs:η V}{bs:η Str},Reps K F l vs->jE l=ς bs->vs=bs.map V.str
 |[],vs,bs,r,h=>by cases h;simp only[Reps]at r;exact r
 |d::l,vs,bs,r,h=>by
  cases d<;>first|cases h;done|skip
  simp only[jE]at h;obtain⟨cs,L,h⟩:=mS h;cases h;simp only[Reps,Rep]at r;obtain⟨v,ws,rfl,rfl,q⟩:=r;rw[mJ q L];rfl
noncomputable def y13(i:Nat)(f:De->ζ Dt):De->ζ Out:=fun δ=>match δ[i]? with
 |some (ς (.e l))=>(f δ).bind fun d=>if l.length<qb2 then ς (.nx (δ.set i (ς (.e (l++[d])))))else ψ
 |_=>ψ
def En.ownL{F:Hp}(q:En Φ δ σ F H)(h:δ[i]?=ς (ς (.e l))):∃a vs,σ[i]?=ς (ς (.ref a))/\H a=ς (.e vs)/\Reps Φ.K F l vs:=by obtain⟨v,L⟩:=q.has i _ h;obtain⟨S,s⟩:=q.sep;obtain⟨a,vs,rfl,_,h1,h2⟩:=s.own i _ v (cq h L);exact⟨a,vs,L,h1,h2⟩
def bU (hx:PE X o (iM i)) (he:DL X e fe)
  (U:zb2 o "append" X.env (eval o X.env)=eval o X.env:=by rfl)
  (W:((qj6 cpos (qa7 [e] X.env)).all (fun x=>!x.1)&&(backToKw cpos (zh2 [] X.env)).all (fun x=>x.1.isSome)
   && decide ([e].length+([]:η ze3).length+(if([]:η ze3).isEmpty then 0 else 1)<30))=θ:=by rfl)
  (O:(apos.endLine==cpos.line)=θ:=by rfl) (hs:qa7 [e] X.env=(ξ,eval e X.env)::qa7 [] X.env:=by rfl) (q:(qj6 cpos (qa7 [] X.env)).any (·.1)=ξ:=by rfl)
  (Z:qo5 (.Call (.Attribute o "append" apos) [e] [] cpos) ψ pos.line X.env=pure ξ:=by rfl) :
  DS1 X (.Expr (.Call (.Attribute o "append" apos) [e] [] cpos) pos) (y13 i fe):=
 PS.mono (rV (vT PySem.F.plainAttrs_list PySem.F.slot_list_append PySem.F.type_list_append jA hx (di he fX hs) U W O hs q) Z) fun D σ H ⟨Φ,δ,F,ot,hK,en,L,k⟩=>by
  unfold y13 at L;split at L<;>first|cases L;done|skip
  rename_i l hl;obtain⟨d,hd,L⟩:=bS L;split at L<;>first|cases L;done|skip
  rename_i hz;cases L;obtain⟨a,vs,hv,h1,h2⟩:=en.ownL hl;refine⟨.ref a,hv,.inl ⟨rfl,vs,.inl (.inl h1)⟩,Φ,δ,F,d,hK,en,hd,fun v H1 F1 st rv=>?_⟩;have en1:=en.step st;have Y:=st.hh _ _ h1;refine⟨a,vs,v,rfl,rfl,Y,by rw[h2.length];exact hz,?_⟩;refine k σ F1 _ (en1.poke hl hv rfl fun S sa=>⟨a,vs++[v],rfl,sa,aU,(h2.same st.ff).append (Reps.one (hK▸rv))⟩)
def sPutL(i:Nat)(fk fe:De->ζ Dt):De->ζ Out:=fun δ=>(fe δ).bind fun d=>(fk δ).bind fun k=>match δ[i]?,k with
 |some (ς (.e l)),.int n=>(ixN l.length n).map fun j=>.nx (δ.set i (ς (.e (l.set j d))))
 |_,_=>ψ
theorem Reps.set{F:Hp}{d:Dt}(h:Rep K F d v):∀{l:η Dt}{vs:η V}(j:Nat),Reps K F l vs->Reps K F (l.set j d) (vs.set j v)
 |[],vs,j,r=>by simp only[Reps]at r;subst r;simp[Reps]
 |e::l,vs,0,r=>by simp only[Reps]at r;obtain⟨w,ws,rfl,_,q⟩:=r;simp only[qs5,Reps];exact⟨v,ws,rfl,h,q⟩
 |e::l,vs,j+1,r=>by simp only[Reps]at r;obtain⟨w,ws,rfl,L,q⟩:=r;simp only[qs6,Reps];exact⟨w,_,rfl,L,Reps.set h j q⟩
def uH(f:Int->Int->Int)(i:Nat)(fe:De->ζ Dt):De->ζ Out:=fun δ=>match δ[i]? with
 |some (ς (.f (.int n)))=>(fe δ).bind fun d=>(asI d).map fun m=>.nx (δ.set i (ς (.f (.int (f n m)))))
 |_=>ψ
def C0{f:Int->Int->Int}{D:Ends}(h:tS K (uH f i fe) D σ H):tAug i (tBd K fe) (ipI f) D σ H:=by
 obtain⟨Φ,δ,F,ot,Z,L,q,k⟩:=h;unfold uH at q;split at q<;>first|cases q;done|skip
 rename_i n U;obtain⟨d,Y,q⟩:=bS q;obtain⟨m,hm,q⟩:=mS q;cases q;obtain⟨v,W,O⟩:=L.leaf U;simp only[Rep]at O;subst O;exact⟨_,W,Φ,δ,F,d,Z,L,Y,fun w H1 F1 st r=>⟨n,m,rfl,i4 hm r,k _ F1 H1 ((L.step st).name f7 i)⟩⟩
def qL (h:eC sc N i x=θ) (U:jC sc x=θ) (Y:N.Nodup) (L:DB X e fe) (e1:cu X sc:=by rfl) (O:X.N=N:=by rfl) (W:X.fn x=θ∨X.env.scope.names.lookup x=ς .local:=by exact .inl rfl) :
  DS1 X (.AugAssign (.Name x pos') .Add e pos) (uH (fun i j=>i+j) i fe):=by
 have e1:X.env.scope=sc:=e1;subst e1 O;exact PS.mono (Ci Y (iC h) (kW U) L Cj W) fun D σ H q=>C0 q
end
noncomputable def dw{κ:Type}[DecidableEq κ]:η κ->η Dt->κ->ζ Dt
 |k'::ks,d::l,k=>if k'=k then ς d else dw ks l k
 |_,_,_=>ψ
theorem fP{κ:Type}[DecidableEq κ]{F:Hp}{k:κ}:∀{J6:η (κ×V)}{l:η Dt}{d:Dt},Reps K F l (J6.map (·.2))->dw (J6.map (·.1)) l k=ς d->∃v,fJ J6 k=ς v/\Rep K F d v
 |[],l,d,r,h=>by cases l<;>cases h
 |p::J6,[],d,r,h=>by cases h
 |p::J6,e::l,d,r,h=>by
  simp only[qa6,Reps]at r;obtain⟨v,ws,q,O,L⟩:=r;cases q;simp only[qa6,dw]at h;by_cases hk:p.1=k
  .rw[if_pos hk]at h;cases h;exact⟨p.2,iQ hk,O⟩
  .rw[if_neg hk]at h;rw[gM hk];exact fP L h
theorem mK{κ:Type}[DecidableEq κ]{F:Hp}{k:κ}:∀{J6:η (κ×V)}{l:η Dt},Reps K F l (J6.map (·.2))->dw (J6.map (·.1)) l k=ψ->fJ J6 k=ψ
 |[],l,r,h=>rfl
 |p::J6,[],r,h=>by simp only[qa6,Reps]at r;cases r
 |p::J6,e::l,r,h=>by
  simp only[qa6,Reps]at r;obtain⟨v,ws,q,O,L⟩:=r;cases q;simp only[qa6,dw]at h;by_cases hk:p.1=k
  .rw[if_pos hk]at h;cases h
  .rw[if_neg hk]at h;rw[gM hk];exact mK L h
noncomputable def qM:Dt->ζ Key
 |.int i=>ς (.inl i)
 |.str x=>ς (.inr x)
 |_=>ψ
def ie{F:Hp}{d:Dt}{k:Key}(r:RepB K F H d v)(h:qM d=ς k):v=kV k:=by
 unfold qM at h;split at h<;>first|(cases h;done)|skip
 .cases h;exact r
 .cases h;exact r
def ah:Dt->Dt->ζ T
 |.dct ks l,k=>(qM k).bind fun k=>(dw ks l k).map .f
 |x,y=>gIx x y
variable{st:Jb}
section
variable{X:Cx}{o a b e c:Jc}{es:η Jc}{fa fb fo fe fk:De->ζ Dt}{fs:De->ζ (η Dt)}{pos apos cpos p:Pos}{x:Str}{sc:Jd}{i:Nat}
def aI{k:Nat}(hr:Room k X.A)(ha:DB X a fa)(Z:DB X b fb)(hs:si b:=by exact fun _ _=>rfl)(hn:uv b:=by exact fun _ _=>rfl):DO X (.Subscript a b pos) (d2 ah fa fb):=
 PE.mono (PE.or (ES CD ha Z hs) (su (jT hr) ha Z hn)) fun σ H Q ⟨Φ,δ,F,t,O,Y,q,k⟩=>by
  unfold d2 at q;obtain⟨x,hx,q⟩:=bS q;obtain⟨y,hy,q⟩:=bS q;unfold ah at q;split at q
  .rename_i ks l _;obtain⟨kk,hk,q⟩:=bS q;obtain⟨d,hd,q⟩:=mS q;cases q;refine .inr ⟨Φ,δ,F,_,O,Y,hx,fun v H1 F1 st rv=>⟨Φ,δ,F1,y,O,Y.step st,hy,fun v2 H2 F2 L W=>?_⟩⟩;obtain⟨ad,J6,rfl,h1,h2,h3⟩:=rv;subst h2;obtain⟨w,hw,U⟩:=fP h3 hd;have:=ie W hk;subst this;exact⟨ad,w,rfl,.inl ⟨J6,kk,L.hh.rd h1,rfl,hw.symm⟩,(k.step (st.trans L)).leaf.here L.fh (U.same L.ff)⟩
  .exact .inl (mG r_ix ⟨Φ,δ,F,t,O,Y,by unfold d2;rw[hx,hy];exact q,k⟩)
def bJ(neg:Bool):Dt->Dt->ζ T
 |k,.dct ks l=>(qM k).map fun k=>.f (.bl (if neg then !(dw ks l k).isSome else(dw ks l k).isSome))
 |x,y=>gIn neg x y
def kx{κ:Type}[DecidableEq κ]{F:Hp}{k:κ}{J6:η (κ×V)}(r:Reps K F l (J6.map (·.2))):(dw (J6.map (·.1)) l k).isSome=(fJ J6 k).isSome:=by
 cases h:dw (J6.map (·.1)) l k with
 |none=>rw[mK r h];rfl
 |some d=>obtain⟨v,e,_⟩:=fP r h;rw[e];rfl
def Bh{Q:VK}(h:tO K (d2 (bJ ξ) fa fb) σ H Q):tOp (wA K ξ) (tBd K fa) (tBd K fb) σ H Q∨tDIn (tBd K fa) (tBd K fb) σ H Q:=by
 obtain⟨Φ,δ,F,t,O,W,q,k⟩:=h;unfold d2 at q;obtain⟨x,Y,q⟩:=bS q;obtain⟨y,Z,q⟩:=bS q;unfold bJ at q;split at q
 .rename_i ks l;obtain⟨kk,hk,q⟩:=mS q;cases q;refine .inr ⟨Φ,δ,F,x,O,W,Y,fun v H1 F1 st rv=>⟨Φ,δ,F1,_,O,W.step st,Z,fun v2 H2 F2 L U=>?_⟩⟩;obtain⟨ad,J6,rfl,h1,h2,h3⟩:=U;subst h2;have:=ie rv hk;subst this;refine⟨ad,_,rfl,.inl ⟨J6,kk,h1,rfl,rfl⟩,?_⟩;rw[<- kx h3];exact(k.step (st.trans L)).bl L.fh
 .exact .inl (mG (r_in ξ) ⟨Φ,δ,F,t,O,W,by unfold d2;rw[Y,Z];exact q,k⟩)
def wG{Q:VK}(h:tO K (d2 (bJ θ) fa fb) σ H Q):tOp (wA K θ) (tBd K fa) (tBd K fb) σ H Q∨sr (tBd K fa) (tBd K fb) σ H Q:=by
 obtain⟨Φ,δ,F,t,O,W,q,k⟩:=h;unfold d2 at q;obtain⟨x,Y,q⟩:=bS q;obtain⟨y,Z,q⟩:=bS q;unfold bJ at q;split at q
 .rename_i ks l;obtain⟨kk,hk,q⟩:=mS q;cases q;refine .inr ⟨Φ,δ,F,x,O,W,Y,fun v H1 F1 st rv=>⟨Φ,δ,F1,_,O,W.step st,Z,fun v2 H2 F2 L U=>?_⟩⟩;obtain⟨ad,J6,rfl,h1,h2,h3⟩:=U;subst h2;have:=ie rv hk;subst this;refine⟨ad,_,rfl,.inl ⟨J6,kk,h1,rfl,rfl⟩,?_⟩;rw[<- kx h3];exact(k.step (st.trans L)).bl L.fh
 .exact .inl (mG (r_in θ) ⟨Φ,δ,F,t,O,W,by unfold d2;rw[Y,Z];exact q,k⟩)
def Bi{k:Nat}(U:Room k X.A)(q:DB X a fa)(L:DB X b fb)(O:qh8 .In b=ξ:=by with_unfolding_all rfl):DO X (.Compare a [.In] [b] pos) (d2 (bJ ξ) fa fb):=PE.mono (PE.or (r9 wC q L O) (B7 (vU (jT U) q L) O)) fun σ H Q h=>Bh h
def PT.or{t t':TT}(h:PT X e t)(h':PT X e t'):PT X e (fun σ H Q=>t σ H Q∨t' σ H Q):=fun J1 s σ H Q I q=>q.elim (h J1 s σ H Q I) (h' J1 s σ H Q I)
def Bj{Q:Bool->Hp->Prop}(h:tTr K (tB2 g fa fb) σ H Q):tO K (d2 g fa fb) σ H (fun v H'=>∃c,v=.bl c/\Q c H'):=by obtain⟨Φ,δ,F,t,L,O,q,k⟩:=h;unfold tB2 at q;obtain⟨z,U,q⟩:=bS q;exact⟨Φ,δ,F,z,L,O,U,fun v H' F' S st o W=>⟨t,nS q o,k H' F' st⟩⟩
def Bk{k:Nat}(U:Room k X.A)(q:DB X a fa)(L:DB X b fb)(O:qh8 .In b=ξ:=by with_unfolding_all rfl):DT X (.Compare a [.In] [b] pos) (tB2 (bJ ξ) fa fb):=PT.mono (PT.or (nC wC q L O) (nA (vU (jT U) q L) O)) fun σ H Q h=>Bh (Bj h)
def fQ{k:Nat}(U:Room k X.A)(q:DB X a fa)(L:DB X b fb)(O:qh8 .NotIn b=ξ:=by with_unfolding_all rfl):DT X (.Compare a [.NotIn] [b] pos) (tB2 (bJ θ) fa fb):=PT.mono (PT.or (nC uG q L O) (nA (my (jT U) q L) O)) fun σ H Q h=>wG (Bj h)
noncomputable def ki{κ:Type}[DecidableEq κ]:η (κ×Dt)->κ->Dt->η (κ×Dt)
 |[],k,d=>[(k,d)]
 |p::l,k,d=>if p.1=k then(p.1,d)::l else p::ki l k d
def l9(i:Nat)(fk fe:De->ζ Dt):De->ζ Out:=fun δ=>(fe δ).bind fun d=>(fk δ).bind fun k=>match δ[i]? with
 |some (ς (.e l))=>(asI k).bind fun n=>(ixN l.length n).map fun j=>.nx (δ.set i (ς (.e (l.set j d))))
 |some (ς (.dct l))=>(qM k).bind fun k=>if l.length<qb2/\(l.map (·.1)).Nodup then ς (.nx (δ.set i (ς (.dct (ki l k d)))))else ψ
 |_=>ψ
def sM {κ:Type} [DecidableEq κ] (k:κ) (v:V):∀ (J6:η (κ×V)) (l:η (κ×Dt)) (d:Dt),(J6.map (·.1)).Nodup->J6.map (·.1)=l.map (·.1)->(fY J6 k v).map (·.1)=(ki l k d).map (·.1)∧
  ∀(K:xA9)(F:Hp),Rep K F d v->Reps K F (l.map (·.2)) (J6.map (·.2))->Reps K F ((ki l k d).map (·.2)) ((fY J6 k v).map (·.2)):=by
 have Z:∀(J6:η (κ×V)),(J6.map (·.1)).Nodup->fY J6 k v=match J6 with|[]=>[(k,v)]|p::r=>if p.1=k then(p.1,v)::r else p::fY r k v:=fun J6 O=>by
  cases J6 with
  |nil=>rfl
  |cons p r=>
   dsimp only;by_cases hp:p.1=k
   .rw[if_pos hp];unfold fY;rw[if_pos (by simp[hp])];simp only[qa6,if_pos hp];congr 1
    have hk:∀q∈r,¬ q.1=k:=fun q hq z=>by have:=(qi6.mp O).1;exact this (show p.1∈r.map (·.1)by rw[hp,<- z];exact List.mem_map_of_mem hq)
    exact(qx2 fun q hq=>if_neg (hk q hq)).trans (List.map_id' r)
   .rw[if_neg hp];unfold fY;have e:(p::r).any (fun kv=>decide (kv.1=k))=r.any fun kv=>decide (kv.1=k):=by simp[hp]
    rw[e];split
    .simp only[qa6,if_neg hp]
    .rfl
 intro J6;induction J6 with
 |nil=>
  intro l d O L;cases l with
  |nil=>exact⟨rfl,fun K F r _=>by simpa[ki,fY] using Reps.one r⟩
  |cons q l=>cases L
 |cons p r ih=>
  intro l d O L;cases l with
  |nil=>cases L
  |cons q l=>
   simp only[qa6,List.cons.injEq]at L;have hn':=(qi6.mp O).2;rw[Z _ O];simp only[ki];rw[<- L.1];by_cases hp:p.1=k
   .rw[if_pos hp,if_pos hp];refine⟨by simp[L.2],fun K F rd rs=>?_⟩;simp only[qa6,Reps]at rs ⊢;obtain⟨w,ws,Y,r1,U⟩:=rs;cases Y;exact⟨_,_,rfl,rd,U⟩
   .rw[if_neg hp,if_neg hp];obtain⟨i1,i2⟩:=ih l d hn' L.2;refine⟨by simp[L.1,i1],fun K F rd rs=>?_⟩;simp only[qa6,Reps]at rs ⊢;obtain⟨w,ws,Y,r1,U⟩:=rs;cases Y;exact⟨_,_,rfl,r1,i2 K F rd U⟩
def PS.or{e:Jb}{t t':TS}(h:PS X e t)(h':PS X e t'):PS X e (fun σ H Q=>t σ H Q∨t' σ H Q):=fun J1 s σ H Q I q=>q.elim (h J1 s σ H Q I) (h' J1 s σ H Q I)
theorem En.ownD{F:Hp}(L:En Φ δ σ F H){l:η (Key×Dt)}(h:δ[i]?=ς (ς (.dct l))):∃a J6,σ[i]?=ς (ς (.ref a))/\H a=ς (.dK J6)/\J6.map (·.1)=l.map (·.1)/\Reps Φ.K F (l.map (·.2)) (J6.map (·.2)):=by obtain⟨v,q⟩:=L.has i _ h;obtain⟨S,s⟩:=L.sep;obtain⟨a,vs,rfl,_,h1,h2,h3⟩:=s.own i _ v (cq h q);exact⟨a,vs,q,h1,h2,h3⟩
def qN {k:Nat} {ox ik:Jc} (hr:Room k X.A) (hx:PE X ox (iM i)) (hk:DB X ik fk) (he:DL X e fe)
  (hs:qo5 e (ς (.Subscript ox ik apos)) pos.line X.env=pure ξ:=by rfl)
  (hs1:zh9 [.Subscript ox ik apos] e pos.line X.env=pure ξ:=by rfl) (hw:zi0 [.Subscript ox ik apos] e X.env=pure ψ:=by rfl)
  (h1:(qn0 [.Subscript ox ik apos] X.env).map (·.2)=[ze1 (.Subscript ox ik apos) X.env]:=by rfl)
  (ha:∀v,ze1 (.Subscript ox ik apos) X.env v=(do
   let ov <- ze2 [v] (eval ox X.env);let iv <- ze2 [v,ov] (eval ik X.env)
   standAt apos
   ze2 [v,ov,iv] (setItem ov iv v)
   release [v,ov,iv] []):=by intro _;rfl):DS1 X (.Assign [.Subscript ox ik apos] e pos) (l9 i fk fe):=
 PS.mono (PS.or (vD he (Cg hx hk vR ha) hs1 hw h1) (sv (jT hr) hx hk he hs)) fun D σ H ⟨Φ,δ,F,ot,Y,en,L,k⟩=>by
  unfold l9 at L;obtain⟨d,hd,L⟩:=bS L;obtain⟨kd,hkd,L⟩:=bS L;split at L<;>first|(cases L;done)|skip
  .rename_i l hl;obtain⟨n,hn,L⟩:=bS L;obtain⟨j,hj,L⟩:=mS L;cases L;refine .inl ⟨Φ,δ,F,d,Y,en,hd,fun v H1 F1 st rv=>?_⟩;have O:=en.step st;obtain⟨a,vs,hv,h1,h2⟩:=O.ownL hl;refine⟨.ref a,hv,Φ,δ,F1,kd,Y,O,hkd,fun w H2 F2 q W=>?_⟩;have U:=O.step q;refine⟨a,vs,n,j,rfl,i4 hn W,q.hh _ _ h1,by rw[h2.length];exact hj,?_⟩;exact k σ F2 _ (U.poke hl hv rfl fun S sa=>⟨a,_,rfl,sa,aU,Reps.set (Y▸rv.same q.ff) j (h2.same q.ff)⟩)
  .rename_i l hl;obtain⟨kk,hkk,L⟩:=bS L;split at L<;>first|(cases L;done)|skip
   rename_i hc;cases L;refine .inr ⟨Φ,δ,F,d,Y,en,hd,fun v H1 F1 st rv=>?_⟩;have O:=en.step st;obtain⟨a,J6,hv,h1,h2,h3⟩:=O.ownD hl;refine⟨.ref a,hv,Φ,δ,F1,kd,Y,O,hkd,fun w H2 F2 q W=>?_⟩;have U:=O.step q;have:=ie W hkk;subst this;have Z:J6.length=l.length:=by simpa using congrArg qp2 h2
   refine⟨a,_,rfl,.inl ⟨J6,kk,q.hh _ _ h1,rfl,by rw[Z];exact hc.1,rfl⟩,?_⟩;obtain⟨p1,p2⟩:=sM kk v J6 l d (by rw[h2];exact hc.2) h2;exact k σ F2 _ (U.poke hl hv rfl fun S sa=>⟨a,_,rfl,sa,aU,p1,p2 _ _ (Y▸rv.same q.ff) (h3.same q.ff)⟩)
def dl:De->ζ Out:=fun _=>ψ
def cH:DS1 X st dl:=fun J1 s σ H D I h=>by obtain⟨Φ,δ,F,o,L,O,q,k⟩:=h;cases q
end
section
variable{prog:qd1}{w:Ja}{A:qe0}{E:Vz->qa5->Prop}{s:qa5}{I t:J9}{j:Nat}{vs:Array Vz}
def qO{y:Vz}(Y:s.heap.IsTupleIter I t j)(hv:s.heap.IsTuple t vs)(hy:vs[j]?=ς y)
 (q:∀h',h'.IsTupleIter I t (j+1)->qo1 I s.heap h'->Q y {s with heap:=h'}):wpAny (model prog w) A (qm4 (.ref I)) Q E s:=by
 obtain⟨oi,O,Z,L⟩:=id Y;obtain⟨ot,U,_,nt,W⟩:=hv;unfold qm4;refine wB (qe5 (name:=qa0 "__next__") Y.typeIs ql6 (qf1 ql6 Y.typeIs qx3 ?_ (qv8 _)));show wpAny _ _ (field (.ref I) 0 >>= _) _ _ s;refine wB (qt5 O L (x:=.ref t) rfl ?_);show wpAny _ _ (if(qf3 t==qh5)=θ then _ else _) _ _ s;rw[if_neg (show ¬ (qf3 t==qh5)=θ by exact qb6)];show wpAny _ _ (field (.ref I) 1 >>= _) _ _ s;refine wB (qt5 O L (x:=.int j 0) rfl ?_);show wpAny _ _ (seqItems? (.ref t) >>= _) _ _ s;refine wB (qu3 U W ?_);simp only[qe2,hy];refine qh3 (qj7 O L Ξ (qa2 ⟨y,rfl,qa2 (q _ ?_ (qe8 ..))⟩));exact⟨_,qe6 _ O (qi2 (qe4 L _)),(qq2 ..).trans Z,by rw[qe4 L];simp[qf8]⟩
def uI(Z:A.handled=ψ)(Y:s.heap.IsTupleIter I t j)(hv:s.heap.IsTuple t vs)(hy:vs[j]?=ψ)
 (q:∀h' e,zh4 I s.heap h'->(∃o,h'.get? e=ς o/\o.cls=.type "StopIteration")->E (.ref e) {s with heap:=h'}):wpAny (model prog w) A (qm4 (.ref I)) Q E s:=by
 obtain⟨oi,L,hci,O⟩:=id Y;obtain⟨ot,U,_,nt,W⟩:=hv;unfold qm4;refine wB (qe5 (name:=qa0 "__next__") Y.typeIs ql6 (qf1 ql6 Y.typeIs qx3 ?_ (qv8 _)));show wpAny _ _ (field (.ref I) 0 >>= _) _ _ s;refine wB (qt5 L O (x:=.ref t) rfl ?_);show wpAny _ _ (if(qf3 t==qh5)=θ then _ else _) _ _ s;rw[if_neg (show ¬ (qf3 t==qh5)=θ by exact qb6)];show wpAny _ _ (field (.ref I) 1 >>= _) _ _ s;refine wB (qt5 L O (x:=.int j 0) rfl ?_);show wpAny _ _ (seqItems? (.ref t) >>= _) _ _ s;refine wB (qu3 U W ?_);simp only[qe2,hy];refine qh3 (qw3 (qh3 (qj7 L O Ξ ?_)));show wpAny _ _ (zi4 (.type "StopIteration") [] >>= _) _ _ _;refine wB ?_;simp only[zi4,zj8];refine wB (qd4 ?_ (by first|size_fits|decide));refine qh3 (m:=qm5 _ _) (zb3 (a:=qh5) (by first|rfl|(simp only[qm5]<;>rfl)) ?_);refine qd4 ?_ (by first|size_fits|decide);simp only[zi5];refine wB (zb4 ?_)
 first|rw[Z]|rw[show A.in1.handled=ψ by exact Z]
 refine wB (qa2 (zh5 ?_));exact q _ _ (((qe8 ..).extBut.push _).push _) ⟨_,qa9 _ rfl,rfl⟩
end
variable{prog:qd1}{w:Ja}
def pA(O:A.handled=ψ)(I t:J9)(q:t≠I)(vs:Array Vz):Draws prog w A I [I,t] vs.size (fun i v=>vs[i]?=ς v) (fun i h=>h.IsTupleIter I t i/\h.IsTuple t vs) where
 live:=fun _ _ st=>let ⟨o,ho,_⟩:=st.1;⟨o,ho⟩
 frame:=fun _ _ _ st hk=>⟨let ⟨o,ho,r⟩:=st.1;⟨o,hk I Ξ o ho,r⟩,let ⟨o,ho,r⟩:=st.2;⟨o,hk t Ξ o ho,r⟩⟩
 item:=fun i s Q E hi st U=>qO st.1 st.2 (y:=vs[i]) (by simp[hi]) fun h' a b=>U _ h' s.toks (by simp[hi]) ⟨a,let ⟨o,ho,r⟩:=st.2;⟨o,b.extBut _ _ q ho,r⟩⟩ b
 done:=fun s Q E st L=>uI O st.1 st.2 Ξ L
def SqB(b:Bool)(K:xA9)(H:Hp)(a:J9)(xs:η V):Prop:=match b with
 |true=>SqL K H a xs
 |false=>SqT K H a xs
def ItB(b:Bool)(h:Heap)(I a:J9)(i:Nat):Prop:=match b with
 |true=>h.IsListIter I a i
 |false=>h.IsTupleIter I a i
def CoB(b:Bool)(h:Heap)(a:J9)(vs:Array Vz):Prop:=match b with
 |true=>h.IsList a vs
 |false=>h.IsTuple a vs
variable{h:Heap}{I a:J9}{i:Nat}
def ItB.obj(x:ItB b h I a i):∃o,h.get? I=ς o/\(o.cls=.type "list_iterator"∨o.cls=.type "tuple_iterator")/\∀v,o.data≠.cell v:=by
 cases b with
 |true=>obtain⟨o,e,c,d⟩:=x;exact⟨o,e,.inl c,fun v z=>by rw[d]at z;cases z⟩
 |false=>obtain⟨o,e,c,d⟩:=x;exact⟨o,e,.inr c,fun v z=>by rw[d]at z;cases z⟩
variable{h':Heap}
def ItB.at(x:ItB b h I a i)(k:∀o,h.get? I=ς o->h'.get? I=ς o):ItB b h' I a i:=by
 cases b with
 |true=>obtain⟨o,e,r⟩:=x;exact⟨o,k o e,r⟩
 |false=>obtain⟨o,e,r⟩:=x;exact⟨o,k o e,r⟩
def CoB.obj{vs:Array Vz}(x:CoB b h a vs):∃o,h.get? a=ς o/\(o.cls=.type "list"∨o.cls=.type "tuple"):=by
 cases b with
 |true=>obtain⟨o,e,c,_⟩:=x;exact⟨o,e,.inl c⟩
 |false=>obtain⟨o,e,c,_⟩:=x;exact⟨o,e,.inr c⟩
def Bl{x y:String}(h:x≠y):qk0 x≠qk0 y:=fun z=>h (by cases z;rfl)
def wH{c:Bool}{l:J9}{vs:Array Vz}(x:ItB b h I a i)(y:CoB c h l vs):l≠I:=by obtain⟨o,U,L,_⟩:=x.obj;obtain⟨o',O,q⟩:=y.obj;rintro rfl;rw[U]at O;cases O;rcases L with L|L<;>rcases q with q|q<;>rw[L]at q<;>exact absurd q (Bl Ω)
variable{t':Nat}{fp:η J9}
section
variable{X:Cx}{J1:η (J9×Obj)}{σ:St}{H:Hp}{s:qa5}{a I:J9}{xs:η V}{b:Bool}
def Inv.seqB(J:Inv X J1 σ H s)(h:SqB b X.K H a xs):∃J8:η Vz,Vals xs J8/\CoB b s.heap a J8.toArray:=by
 cases b with
 |true=>obtain⟨J8,r,p,_⟩:=J.list h;exact⟨J8,r,p.isList⟩
 |false=>obtain⟨J8,r,p,_⟩:=J.tuple h;exact⟨J8,r,p⟩
def Inv.seqB_inj{ys:η V}(J:Inv X J1 σ H s)(h:SqB b X.K H a xs)(h':SqB b X.K H a ys):xs=ys:=by
 cases b with
 |true=>exact J.list_inj h h'
 |false=>exact J.tuple_inj h h'
def wI(L:A.handled=ψ)(q:a≠I)(vs:Array Vz):Draws prog w A I [I,a] vs.size (fun i v=>vs[i]?=ς v) (fun i h=>ItB b h I a i/\CoB b h a vs):=by
 cases b with
 |true=>exact Draws.list L I a q vs
 |false=>exact pA L I a q vs
def Inv.turnedL(J:Inv X J1 σ H s)(k:∀b o,b∉fp->s.heap.get? b=ς o->h'.get? b=ς o)(O:∀b∈fp,iq X J1 H b):Inv X J1 σ H {s with heap:=h',toks:=t'}:=by
 have U:∀b u,H b=ς u->b∉fp:=fun b u e z=>by rw[(O b z).1]at e;cases e
 refine J.step (g':=s.gens) (d':=s.drawn) (ch:=fp) (fun b W=>?_) (fun b o _ _ L e _=>k b o L e) (fun b o _ _ L e _=>⟨o.slots,k b o L e⟩) (fun _ _ _ _ n=>n)
  (fun b o L e=>⟨o,k b o L e⟩) (fun _ _ e=>e) (fun _ _ _ e=>e) (fun b ps e=>⟨#[],by rw[e];simp⟩) (fun _ _ e=>e) (fun m Z=>?_) (fun b u e=>?_) J.bare
 .exact⟨(O b W).2.2.2.1,(O b W).2.1,(O b W).2.2.2.2.1,(O b W).2.2.2.2.2⟩
 .obtain⟨o,es,ep,Y,r⟩:=Z;exact⟨o,es,ep,k _ o (fun z=>(O _ z).2.1 rfl) Y,r⟩
 .refine(J.hok b u e).stay (fun c v L q=>k c v ?_ q) (fun _ q=>q) (fun _ _ q=>q) fun _ _ _ q=>q
  rcases L with z|z
  .rw[z];exact U b u e
  .exact U c _ z
end
section
variable{X:Cx}{J1:η (J9×Obj)}{σ:St}{H:Hp}{s:qa5}
def Inv.turnedT {t:J9} {u:HO} (J:Inv X J1 σ H s) (k:∀ b o,b∉fp->s.heap.get? b=ς o->h'.get? b=ς o) (W:∀ b∈fp,iq X J1 H b) (ht:s.heap.objs.size<=t) (new:ObjOk X.prog X.w (upd H t u) h' t u) :
  Inv X J1 σ (upd H t u) {s with heap:=h',toks:=t'}:=by
 have Y:∀b u,H b=ς u->b∉fp:=fun b u e z=>by rw[(W b z).1]at e;cases e
 have hn:H t=ψ:=J.hok.fresh ht;have L:∀b v,H b=ς v->b≠t:=fun b v e=>bX e hn
 have Z:∀b o,s.heap.get? b=ς o->b≠t:=fun b o e z=>by subst z;exact absurd (qb0 e) (qw2.mpr ht)
 refine J.step (g':=s.gens) (d':=s.drawn) (ch:=fp) (fun b O=>?_) (fun b o _ _ U e _=>k b o U e) (fun b o _ _ U e _=>⟨o.slots,k b o U e⟩) (fun b o _ e n=>by rw[aF (Z b o e)];exact n)
  (fun b o U e=>⟨o,k b o U e⟩) (fun b xs e=>by rw[aF (L b _ e)];exact e) (fun b o v e=>by rw[aF (L b _ e)];exact e) (fun b ps e=>⟨#[],by rw[aF (L b _ e),e];simp⟩) (fun b xs e=>by rw[aF (L b _ e)];exact e) (fun m hm=>?_) (fun b v e=>?_) J.bare
 .exact⟨(W b O).2.2.2.1,(W b O).2.1,(W b O).2.2.2.2.1,(W b O).2.2.2.2.2⟩
 .obtain⟨o,es,ep,ho,r⟩:=hm;exact⟨o,es,ep,k _ o (fun z=>(W _ z).2.1 rfl) ho,r⟩
 .by_cases O:b=t
  .subst O;rw[aU]at e;cases e;exact new
  .rw[aF O]at e;refine(J.hok b v e).stay (fun c ob U q=>k c ob ?_ q) (fun c q=>by rw[aF (L c _ q)];exact q) (fun c ys q=>by rw[aF (L c _ q)];exact q) fun c ob ys q=>by rw[aF (L c _ q)];exact q
   rcases U with z|z
   .rw[z];exact Y b v e
   .exact Y c _ z
end
def Ite(b:Bool)(K:xA9)(a:J9):It:=⟨fun i H=>∃xs x,SqB b K H a xs/\xs[i]?=ς x,fun i H x H'=>∃t v,H t=ψ/\x=.ref t/\H'=upd H t (.t [.int i,v])/\∀xs,SqB b K H a xs->xs[i]?=ς v,fun i H=>∃xs,SqB b K H a xs/\xs.length=i⟩
variable{P:qd1}{n:Nat}{pos:Pos}
def uJ {elts:η Jc} (b:Bool) (a e I:J9) (Y:e≠I) :
  Turn P w K (.Tuple elts n pos) (Ite b K a) [e,I] e (fun i h=>(∃W,IsEnum h e I i W)/\ItB b h I a i) where
 mem:=by simp
 obj:=fun i h st c hc=>by
  obtain⟨⟨W,O⟩,U⟩:=st;simp only[qa8,qg7,or_false]at hc;rcases hc with rfl|rfl
  .exact⟨_,O,fun v z=>nomatch z⟩
  .obtain⟨o,q,_,d⟩:=U.obj;exact⟨o,q,d⟩
 keep:=fun i h h' st k=>by obtain⟨⟨W,O⟩,U⟩:=st;exact⟨⟨W,k e Ξ _ O⟩,U.at fun o q=>k I Ξ o q⟩
 item:=by
  intro X hP hw hK hc i J1 s σ H E J hf st hg;subst hP hw hK;obtain⟨⟨W,O⟩,U⟩:=st;obtain⟨xs,x,hq,hx⟩:=hg;obtain⟨J8,rv,co⟩:=J.seqB hq;obtain⟨u,hu,ru⟩:=rv.get hx;have hi:i<J8.toArray.size:=by simpa using (gX hu).1
  have hae:e∉[I,a]:=by simp only[qa8,qg7,or_false,not_or];refine⟨Y,fun z=>?_⟩;obtain⟨o,q,c⟩:=co.obj;rw[<- z,O]at q;cases q;rcases c with c|c<;>exact absurd c (Bl Ω)
  refine wpAny_pyNext_enum_itemD (wI (A:=X.A.in1) (b:=b) (I:=I) (a:=a) (show X.A.in1.handled=ψ from J.ok.hd hc) (wH U co) J8.toArray) O ⟨U,co⟩ hi Y hae fun y h1 tk hy ho hs1 hT hsz hk=>⟨_,rfl,?_⟩
  have ey:y=u:=by rw[show J8.toArray[i]?=J8[i]? by simp,hu]at hy;exact(qd9 hy).symm
  subst ey;refine wpAny_letOwnedTupleGo_enum ho fun h2 he2 Z=>?_
  have kk:∀c o,c∉[e,I]->s.heap.get? c=ς o->h2.get? c=ς o:=fun c o L q=>by simp only[qa8,qg7,or_false,not_or]at L;exact(Z.2 c L.1).trans (hk c o L.1 L.2 q)
  have lt:∀c∈[e,I],c<s.heap.objs.size:=fun c L=>by
   simp only[qa8,qg7,or_false]at L;rcases L with rfl|rfl
   .exact qb0 O
   .obtain⟨o,q,_⟩:=U.obj;exact qb0 q
  -- first the records,then the pair
  have hT2:h2.get? s.heap.objs.size=ς {cls:=.type "tuple",data:=.seq #[.int i tk,y]}:=(Z.2 _ (fun z=>ql8 _ (z▸lt e Ξ))).trans hT
  have J2:Inv X J1 σ (upd H s.heap.objs.size (.t [.int i,x])) {s with heap:=h2,toks:=tk+1}:=by refine J.turnedT kk hf (nL _) ⟨by show 2<=qb2;decide,[.int i tk,y],.cons ⟨_,rfl⟩ (.cons ru .nil),?_⟩;exact⟨_,hT2,rfl,_,rfl⟩
  refine⟨.ref s.heap.objs.size,_,J2,rfl,⟨_,x,J.hok.fresh (qp1 _),rfl,rfl,fun ys hy=>by rw[J.seqB_inj hy hq];exact hx⟩,⟨⟨_,by simpa using he2⟩,hs1.1.at fun o q=>(Z.2 I (qq5 Y)).trans q⟩,fun c L=>?_⟩;rw[aF (qc4 (lt c L))];exact(hf c L).1
 done:=by
  intro X hP hw hK hc i J1 s σ H E J hf st hg;subst hP hw hK;obtain⟨⟨W,O⟩,U⟩:=st;obtain⟨xs,hq,hx⟩:=hg;obtain⟨J8,rv,co⟩:=J.seqB hq;have hi:i=J8.toArray.size:=by rw[<- hx];simpa using rv.length
  refine wpAny_pyNext_enum_endD (wI (A:=X.A.in1) (b:=b) (I:=I) (a:=a) (show X.A.in1.handled=ψ from J.ok.hd hc) (wH U co) J8.toArray) O (show ItB b s.heap I a J8.toArray.size/\CoB b s.heap a J8.toArray from⟨hi▸U,co⟩) fun h' eb=>⟨rfl,?_⟩
  exact J.turnedL (t':=s.toks) (fun c o L q=>eb c o (fun z=>L (by simp[z])) q) hf
 self:=fun A i s Q E st h=>by obtain⟨⟨W,O⟩,U⟩:=st;exact wpAny_pyIter_enum O h
def pB (t:J9) (vs:Array Vz) (n:Nat) (U:ζ J9) (sl:Array (ζ Vz)) :
  Meets (qj4.«enumerate.__new__» ⟨[.type "enumerate",.ref t],[]⟩) (fun _ R s=>s.heap.get? t=ς {cls:=.type "tuple",dict:=U,data:=.seq vs n,slots:=sl}∧
   R (.ok (.ret (.ref (s.heap.push {cls:=.type "tuple_iterator",data:=.fields #[.ref t,.int 0 0]}).objs.size)))
    {s with heap:=(s.heap.push {cls:=.type "tuple_iterator",data:=.fields #[.ref t,.int 0 0]}).push {cls:=.type "enumerate",data:=.fields #[.none,.bool ξ,.ref s.heap.objs.size,qf8 0,.none,.none]}}):=
 .of_wp fun prog w A R s h=>by
  obtain⟨hp,g,d,tk,W⟩:=s;obtain⟨q,h⟩:=h;have L:=sub_enumerate;have O:Heap.IsTuple (qa5.heap ⟨hp,g,d,tk,W⟩) t vs:=⟨_,q,rfl,n,rfl⟩;wp_walk using qs1 q;refine wpAny_stack_any fun st=>qa2 ?_
  split
  .rename_i c _ _ _ _ _;cases (c==qk0 "enumerate")<;>(wp_walk using qs1 q,qy1 O)<;>exact⟨_,rfl,h⟩
  . (wp_walk using qs1 q,qy1 O)<;>exact⟨_,rfl,h⟩
section
variable{prog:qd1}{w:Ja}{A:qe0}{E:Vz->qa5->Prop}{s:qa5}
def qP{t:J9}{vs:Array Vz}(hT:s.heap.IsTuple t vs)
 (h:∀h',IsEnum h' (s.heap.objs.size+1) s.heap.objs.size 0 .none->h'.IsTupleIter s.heap.objs.size t 0->h'.objs.size=s.heap.objs.size+2→
 (∀c u,s.heap.get? c=ς u->h'.get? c=ς u)->Q (.ref (s.heap.objs.size+1)) {s with heap:=h'}) :
  wpAny (model prog w) A (call (.type "enumerate") [.ref t]) Q E s:=by
 obtain⟨⟨c,dct,Z,sl⟩,Y,O,n,L⟩:=hT;have O:c=.type "tuple":=O;have L:Z=.seq vs n:=L;subst O L;refine callType_new F.called_enumerate Ω (F.typeCall_enumerate_1 _) (F.newCall_enumerate_1 _) (fun obj=>F.args_object_init_2 obj _) F.entry_enumerate_new (pB t vs n dct sl) ⟨Y,?_⟩;have U:(s.heap.push {cls:=.type "tuple_iterator",data:=.fields #[.ref t,.int 0 0]}).objs.size=s.heap.objs.size+1:=qg1 ..;have W:((s.heap.push {cls:=.type "tuple_iterator",data:=.fields #[.ref t,.int 0 0]}).push {cls:=.type "enumerate",data:=.fields #[.none,.bool ξ,.ref s.heap.objs.size,qf8 0,.none,.none]}).objs.size=s.heap.objs.size+2:=by rw[qg1,U]
 rw[U];have q:=qa9 (s.heap.push {cls:=.type "tuple_iterator",data:=.fields #[.ref t,.int 0 0]}) (o:={cls:=.type "enumerate",data:=.fields #[.none,.bool ξ,.ref s.heap.objs.size,qf8 0,.none,.none]}) rfl;rw[U]at q;exact⟨⟨_,q,rfl⟩,h _ q ⟨_,gP _ (qa9 _ rfl),rfl,rfl⟩ W fun c u z=>gP _ (gP _ z)⟩
def qQ{t:J9}{vs:Array Vz}(q:CoB b s.heap t vs)
 (h:∀h',IsEnum h' (s.heap.objs.size+1) s.heap.objs.size 0 .none->ItB b h' s.heap.objs.size t 0->h'.objs.size=s.heap.objs.size+2→
 (∀c u,s.heap.get? c=ς u->h'.get? c=ς u)->Q (.ref (s.heap.objs.size+1)) {s with heap:=h'}) :
  wpAny (model prog w) A (call (.type "enumerate") [.ref t]) Q E s:=by
 cases b with
 |true=>exact call_enumerate_list q h
 |false=>exact qP q h
end
variable{ta:TA}
section
variable{X:Cx}{x:Jc}{p pos tpos:Pos}{sc:Jd}{fs:De->ζ (η Dt)}{elts:η Jc}{n:Nat}
def E8(K:xA9)(ta:TA):TI:=fun σ H R=>ta σ H fun vs H1=>∃b a xs,vs=[.ref a]/\SqB b K H1 a xs/\R (Ite b K a) H1
def zW (h:aM sc "enumerate"=θ) (hm:X.mg "enumerate"=ψ) (ha:PA X [x] ta) (e1:cu X sc:=by rfl) (Z:qa7 [x] X.env=[(ξ,eval x X.env)]:=by rfl) :
  PI X (.Tuple elts n tpos) (.Call (.Name "enumerate" p) [x] [] pos) (E8 X.K ta):=by
 intro J1 s σ H R I h';refine Call_ (fW I (glD h e1) hm nO (qf9 (thn (ha pos J1 s σ H _ I h') fun us s1 ⟨vs,H1,O,r1,q1⟩=>?_) Z rfl));obtain⟨b,a,xs,rfl,hq,q⟩:=q1;obtain⟨u,rfl,ru⟩:=gJ r1;cases ru;obtain⟨J8,rv,Y⟩:=O.seqB hq;refine qQ Y fun h2 W hi hz hk=>wpAny_pyIter_enum W ?_
 have I2:Inv X J1 σ H1 {s1 with heap:=h2}:=O.kept (t':=s1.toks) hk;refine⟨s1.heap.objs.size+1,[s1.heap.objs.size+1,s1.heap.objs.size],_,_,H1,rfl,I2,uJ b a _ _ (ql9 (ql7 _)),⟨⟨_,W⟩,hi⟩,fun c U=>?_,q⟩
 have L:s1.heap.objs.size<=c:=by
  simp only[qa8,qg7,or_false]at U;rcases U with rfl|rfl
  .exact zb5 _
  .exact nL _
 exact O.fpOk L (O.hok.fresh L)
def de(i:Nat):η Dt->η Dt
 |[]=>[]
 |d::r=>.t [.int i,d]::de (i+1) r
theorem mL:∀(l:η Dt)(i:Nat),(de i l).length=l.length
 |[],_=>rfl
 |_::r,i=>by simp[de,mL r]
theorem mM:∀(l:η Dt)(i k:Nat),(de i l)[k]?=l[k]?.map fun d=>.t [.int ((i+k:Nat):Int),d]
 |[],i,k=>by simp[de]
 |d::r,i,0=>by simp[de]
 |d::r,i,k+1=>by simp[de,mM r,Nat.add_assoc,Nat.add_comm 1]
def iw:η Dt->ζ (η Dt)
 |[.e l]=>ς (de 0 l)
 |[.t l]=>ς (de 0 l)
 |_=>ψ
def wJ{F:Hp}{d e:Dt}{w:V}{t:J9}(h:F t=ς (.t [v,w]))(r:Rep K F d v)(r':Rep K F e w):Rep K F (.t [d,e]) (.ref t):=by simp only[Rep,Reps];exact⟨t,_,rfl,SqT.of h,v,[w],rfl,r,w,[],rfl,r',rfl⟩
theorem mN{F:Hp}{xs:η V}(r:Reps K F l xs):sD K F (Ite b K a) (de 0 l) (fun H=>SqB b K H a xs):=fun i H F2 q O U=>by have hl:=r.length;rw[mL];refine⟨fun h=>⟨xs,xs[i],q,by simp[show i<xs.length by lia]⟩,fun h=>⟨xs,q,Θ⟩,fun x H' hi Y=>?_⟩;obtain⟨t,v,L,rfl,rfl,W⟩:=Y;have hx:=W xs q;obtain⟨d,Z,rd⟩:=r.same_get hx;refine⟨_,upd F2 t (.t [.int i,v]),?_,Step.new O L,wJ aU f7 ((rd.same U).same (Same.upd (O.free L)))⟩;rw[mM,Z];simp
def eR (h:aM sc "enumerate"=θ) (Y:X.mg "enumerate"=ψ) (Z:DA X [x] fs) (e1:cu X sc:=by rfl) (U:qa7 [x] X.env=[(ξ,eval x X.env)]:=by rfl) :
  DIF X (.Tuple elts n tpos) (.Call (.Name "enumerate" p) [x] [] pos) (da iw fs):=PI.mono (zW h Y Z.pa e1 U) fun σ H R ⟨Φ,δ,F,ds,W,en,q,k⟩=>by
 unfold da at q;obtain⟨L,O,q⟩:=bS q;refine⟨Φ,δ,F,L,W,en,O,fun vs H' F' st r=>?_⟩;unfold iw at q;split at q<;>first|(cases q;done)|skip
 .cases q;simp only[Reps,Rep]at r;obtain⟨v,ws,rfl,⟨a,xs,rfl,h1,h2⟩,rfl⟩:=r;exact⟨θ,a,xs,rfl,st.fh.seq h1,k _ _ H' F' st (mN (b:=true) h2) fun H2 s=>s.seq h1⟩
 .cases q;simp only[Reps,Rep]at r;obtain⟨v,ws,rfl,⟨a,xs,rfl,h1,h2⟩,rfl⟩:=r;exact⟨ξ,a,xs,rfl,st.fh.tup h1,k _ _ H' F' st (mN (b:=false) h2) fun H2 s=>s.tup h1⟩
end
section
variable{prog:qd1}{w:Ja}{A:qe0}{E:Vz->qa5->Prop}{s:qa5}{z ti tO i1 i2:J9}{fp1 fp2:η J9}{n1 n2 k:Nat}{P1 P2:Nat->Vz->Prop}{S1 S2:Nat->Heap->Prop}{va vb:Vz}
end
section
variable{prog:qd1}{w:Ja}{A:qe0}{E:Vz->qa5->Prop}{s:qa5}
end
section
variable{X:Cx}{J1:η (J9×Obj)}{σ:St}{H:Hp}{s:qa5}{a:J9}{xs ys:η V}{b c:Bool}
end
section
variable{X:Cx}{x y:Jc}{p pos tpos:Pos}{sc:Jd}{fs:De->ζ (η Dt)}{elts:η Jc}{n:Nat}
end
section
variable{X:Cx}{o a b e c:Jc}{es:η Jc}{fa fb fo fe:De->ζ Dt}{fs:De->ζ (η Dt)}{pos apos cpos p:Pos}{i:Nat}
end
section
variable{X:Cx}{e:Jc}{es:η Jc}{fs:De->ζ (η Dt)}{pos p:Pos}{x:Str}{sc:Jd}
end
def zX(P:qd1)(w:Ja)(K:xA9)(mg:Str->ζ Vz)(x:Str)(ks:η Key)(l:η Dt):Prop:=∃(a:J9)(J6:η (Key×V))(vs:η (Key×Vz)),mg x=ς (.ref a)/\(a==qj0)=ξ/\J6.map (·.1)=ks/\(∀F,Reps K F l (J6.map (·.2)))/\KV J6 vs/\∀h:Heap,K.In h->h.DictOf (bM P w) a vs
def gSg(ks:η Key)(l:η Dt):Dt->ζ T:=fun k=>(qM k).bind fun k=>(dw ks l k).map .f
def vSg(ks:η Key)(l:η Dt)(f:De->ζ Dt):De->ζ T:=fun δ=>(f δ).bind (gSg ks l)
def gSi(neg:Bool)(ks:η Key)(l:η Dt):Dt->ζ Bool:=fun k=>(qM k).map fun k=>if neg then !(dw ks l k).isSome else(dw ks l k).isSome
def fSi(neg:Bool)(ks:η Key)(l:η Dt)(f:De->ζ Dt):De->ζ Bool:=fun δ=>(f δ).bind (gSi neg ks l)
variable{J6:η (Key×V)}
section
variable{X:Cx}{b:Jc}{fb:De->ζ Dt}{pos p:Pos}{x:Str}{sc:Jd}{ks:η Key}{l:η Dt}
def tSg(J6:η (Key×V))(ty:TE):TE:=fun σ H Q=>ty σ H fun y H1=>∃k v,y=kV k/\fJ J6 k=ς v/\Q v H1
def tSi(neg:Bool)(J6:η (Key×V))(ty:TE):TE:=fun σ H Q=>ty σ H fun y H1=>∃k,y=kV k/\Q (.bl (if neg then !(fJ J6 k).isSome else(fJ J6 k).isSome)) H1
def E9 {vs:η (Key×Vz)} {ty:TE} (h:aM sc x=θ) (hg:X.mg x=ς (.ref a)) (O:KV J6 vs) (hD:∀ h:Heap,X.K.In h->h.DictOf (bM X.prog X.w) a vs) (Y:PE X b ty) (Z:uv b) (e1:cu X sc:=by rfl) :
  PE X (.Subscript (.Name x p) b pos) (tSg J6 ty):=by
 intro J1 s σ H Q I q;have hx:PE X (.Name x p) (tC (.ref a)):=kY h ⟨_,hg,rfl⟩ e1;refine sq PySem.F.slot_dict_getitem.lookup Z (thn (hx J1 s σ H (fun y H1=>y=.ref a/\tSg J6 ty σ H1 Q) I ⟨rfl,q⟩) fun u s1 ⟨y0,H1,I1,rx,e0,q1⟩=>thn (Y J1 s1 σ H1 _ I1 q1) fun iv s2 ⟨y,H2,U,ry,k,v,ey,hv,q2⟩=>?_);subst e0 ey;obtain rfl:u=qf3 a:=rx;have W:=hD _ U.kIn;obtain⟨w',hw,L⟩:=RelO.some_of (v:=v) (o:=zh3 vs k) (by rw[<- hv];exact O.val k);exact⟨W.typeIs,wpAny_getItem_of (kQ ry) W.mapOf hw ⟨v,H2,U.tok _,L,q2⟩⟩
def C3 {vs:η (Key×Vz)} {ty:TE} (h:aM sc x=θ) (hg:X.mg x=ς (.ref a)) (Z:(a==qj0)=ξ) (L:KV J6 vs) (hD:∀ h:Heap,X.K.In h->h.DictOf (bM X.prog X.w) a vs) (U:PE X b ty) (e1:cu X sc:=by rfl) :
  PC X .NotIn b (.Name x p) (tSi θ J6 ty):=by
 intro J1 s σ H Q I q;have hx:PE X (.Name x p) (tC (.ref a)):=kY h ⟨_,hg,rfl⟩ e1;refine thn (U J1 s σ H _ I q) fun iv s1 ⟨y,H1,Y,ry,k,W,q1⟩=>thn (hx J1 s1 σ H1 (fun y H2=>y=.ref a/\Q (.bl (!(fJ J6 k).isSome)) H2) Y ⟨rfl,q1⟩) fun u s2 ⟨y0,H2,O,rx,e0,q2⟩=>?_
 subst e0 W;obtain rfl:u=qf3 a:=rx;have dd:=hD _ O.kIn;refine wpAny_notIn_of (kQ ry) Z dd.mapOf ?_;rw[<- (L.val k).isSome_eq];exact⟨.bl (!(fJ J6 k).isSome),H2,O.tok _,rfl,q2⟩
def Fa(h:aM sc x=θ)(hm:zX X.prog X.w X.K X.mg x ks l)(U:DB X b fb)(e1:cu X sc:=by rfl)(W:uv b:=by exact fun _ _=>rfl):DO X (.Subscript (.Name x p) b pos) (vSg ks l fb):=by
 obtain⟨a,J6,vs,hg,hs,rfl,hR,O,hD⟩:=hm;refine PE.mono (E9 h hg O hD U W e1) fun σ H Q ⟨Φ,δ,F,t,Z,en,q,k⟩=>?_
 unfold vSg at q;obtain⟨y,hy,q⟩:=bS q;obtain⟨kk,hk,q⟩:=bS q;obtain⟨d,Y,q⟩:=mS q;cases q;refine⟨Φ,δ,F,y,Z,en,hy,fun v H1 F1 st rv=>?_⟩;obtain⟨w,hw,L⟩:=fP (hR F1) Y;exact⟨kk,w,ie rv hk,hw,(k.step st).leaf.here st.fh L⟩
theorem Fb{neg:Bool}(W:∀F,Reps K F l (J6.map (·.2))){Q:Bool->Hp->Prop}(h:tTr K (fSi neg (J6.map (·.1)) l fb) σ H Q):tSi neg J6 (tBd K fb) σ H (fun v H'=>∃c,v=.bl c/\Q c H'):=by obtain⟨Φ,δ,F,t,O,U,q,k⟩:=h;unfold fSi at q;obtain⟨y,Y,q⟩:=bS q;obtain⟨kk,hk,q⟩:=mS q;subst q;refine⟨Φ,δ,F,y,O,U,Y,fun v H1 F1 st L=>⟨kk,ie L hk,_,rfl,?_⟩⟩;rw[<- kx (W F1)];exact k H1 F1 st
theorem C4(h:aM sc x=θ)(Z:zX X.prog X.w X.K X.mg x ks l)(O:DB X b fb)(e1:cu X sc:=by rfl)(hk:qh8 .NotIn (.Name x p)=ξ:=by with_unfolding_all rfl):DT X (.Compare b [.NotIn] [.Name x p] pos) (fSi θ ks l fb):=by obtain⟨a,J6,vs,hg,W,rfl,Y,L,U⟩:=Z;exact PT.mono (nA (C3 h hg W L U O e1) hk) fun σ H Q q=>Fb Y q
end
def sEnt(p:Params)(q:Str×Tok×V×Vz):zk4:=⟨qk8 p q.1,.str q.1 q.2.1,q.2.2.2⟩
variable{x:Str}{o:Obj}{ep:Nat}
def zY(rs:η (Str×Tok×V×Vz))(hm:mg x=ς (.ref a))(hl:K.lookup a=ς o)(hc:o.ExactDict)(W:o.data=.dict (rs.map (sEnt w.params)).toArray ep)
 (hs:(a==qj0)=ξ) (O:(rs.map (·.1)).Nodup) (U:∀r∈rs,RelV r.2.2.1 r.2.2.2) (Y:∀F,Reps K F l (rs.map (·.2.2.1))):zX P w K mg x (rs.map fun r=>.inr r.1) l:=by
 refine⟨a,rs.map fun r=>(.inr r.1,r.2.2.1),rs.map fun r=>(.inr r.1,r.2.2.2),hm,hs,by rw[qc6];rfl,fun F=>by rw[qc6];exact Y F,?_,fun h X=>⟨o,_,ep,X a o hl,hc,W,?_,?_,?_⟩⟩
 .clear W O Y;induction rs with
  |nil=>exact .nil
  |cons r rs L=>exact .cons ⟨rfl,U r qe7⟩ (L fun r hr=>U r (qd5 _ hr))
 .intro e Z;obtain⟨r,_,rfl⟩:=qb8.mp (List.mem_toArray.mp Z);exact⟨.inr r.1,gI P w r.1 r.2.1,rfl⟩
 .show Pairs (bM P w) (rs.map (sEnt w.params)) _;clear W O Y U;induction rs with
  |nil=>exact .nil
  |cons r rs L=>exact .cons (gI P w r.1 r.2.1) rfl L
 .rw[qc6];have:(rs.map ((fun x:Key×Vz=>x.1) ∘ fun r=>((qu8 r.1:Key),r.2.2.2)))=(rs.map (·.1)).map qu8:=by rw[qc6];rfl
  rw[this];exact List.Pairwise.map _ (fun a b h q=>h (qu8.inj q)) O
variable{J8:Array Vz}{ds:η Dt}
theorem dy{xs:η V}(L:K.lookup a=ς o)(O:o.cls=.type "tuple")(Y:o.data=.seq J8 n)(q:Vals xs J8.toList)(U:xs.length<=qb2){F:Hp}(W:Reps K F ds xs):Rep K F (.t ds) (.ref a):=by simp only[Rep];exact⟨a,xs,rfl,.inr ⟨o,J8,n,L,O,Y,by rw[<- qd8,<- q.length];exact U,q⟩,W⟩
def wK{xs:η V}(W:mg x=ς (.ref a))(q:K.lookup a=ς o)(L:o.cls=.type "tuple")(Z:o.data=.seq J8 n)(Y:Vals xs J8.toList)(O:xs.length<=qb2)(U:∀F,Reps K F ds xs):i6 K mg x (.t ds):=⟨.ref a,⟨_,W,rfl⟩,fun F=>dy q L Z Y O (U F)⟩
inductive RepsI(K:xA9)(F:Hp):List Dt->List V->Prop
 |nil:RepsI K F [] []
 |cons {d:Dt} {v:V} {l:List Dt} {vs:List V}:Rep K F d v->RepsI K F l vs->RepsI K F (d::l) (v::vs)
def zZ{F:Hp}(h:RepsI K F l vs):Reps K F l vs:=by
 induction h with
 |nil=>simp[Reps]
 |cons h _ q=>simp only[Reps];exact⟨_,_,rfl,h,q⟩
variable{y:Str}{py spos:Pos}
section
variable{X:Cx}{elt tg iter:Jc}{ifs:η Jc}{scope:Jd}{pos:Pos}{M:η Str}{src:η (ζ Nat)}{wi:TI}{g:TG}{tt:TT}{te:TE}
theorem uK{Q:VK}{cpos:Pos}{use:ζ (Vz->Sem Unit)}{QQ:Vz->qa5->Prop}(S:CmpScope X.N X.env.scope scope M src)(hc:X.calm=θ)(hi:PI X tg iter wi)(hg:M.Nodup->∀C s H ex,PG (cxC X M scope C s H ex) tg g)(ht:∀C s H ex,PTs (cxC X M scope C s H ex) ifs tt)
 (he:∀C s H ex,PE (cxC X M scope C s H ex) elt te) (hs:∀x,qj3 iter X.env x=pure x) (I:Inv X J1 σ H s) (h:o7 src wi g tt te σ H Q)
 (hfin:∀(D C:J9)(H':Hp)(s':qa5)(m:Str->ζ Vz),Inv X J1 σ H' s'->iq X J1 H' C->s'.heap.Ns C m->Q (.ref D) H'->zg1 (model X.prog X.w) X.A X.xe use QQ (.ref D) C (.ok .next) s') :
  wpAny (model X.prog X.w) X.A (comprehension (.ListComp elt [⟨tg,iter,ifs,0⟩] scope pos) scope X.env cpos (newList []) ξ (eval iter X.env) use) QQ X.xe s:=by
 have Z:∀x∈scope.names,x.2=.free->∃c,X.env.cells.lookup x.1=ς c:=fun x hx hfr=>I.ok.has x.1 (S.free x hx hfr)
 refine qz7 (use:=use) rfl hs (iA Z) S.kind S.names (thn (hi J1 s σ H _ I h) fun v s1 h1=>thn h1 fun itv s2 h2=>?_);obtain⟨it,fp,tn,J,H2,rfl,I2,T,st2,f2,hq⟩:=h2;refine qd4 ?_;have I3:Inv X J1 σ (upd H2 s2.heap.objs.size (.e [])) {s2 with heap:=s2.heap.push {cls:=.type "list",dict:=ψ,data:=.seq ([]:η Vz).toArray},toks:=s2.toks}:=I2.lnew (J8:=[]) (ys:=[]) (t':=s2.toks) .nil Ξ;have hD:H2 s2.heap.objs.size=ψ:=I2.fresh;obtain⟨W,⟨m0,w0⟩,turn⟩:=hq _ hD;generalize hDn:s2.heap.objs.size=D at*
 generalize hs3:({s2 with heap:=s2.heap.push {cls:=.type "list",dict:=ψ,data:=.seq ([]:η Vz).toArray},toks:=s2.toks}:qa5)=Y at*
 have f3:∀b∈fp,iq X J1 (upd H2 D (.e [])) b:=fun b O=>⟨by obtain⟨o,e,_⟩:=T.obj _ _ st2 b O;rw[aF (by rw[<- hDn];exact qc4 (qb0 e))];exact(f2 b O).1,(f2 b O).2⟩
 have k23:∀b o,s2.heap.get? b=ς o->Y.heap.get? b=ς o:=fun b o e=>by rw[<- hs3];exact gP _ e
 have st3:tn 0 Y.heap:=T.keep _ _ _ st2 fun b _ o e=>k23 b o e
 have fl3:∀b∈fp,b<Y.heap.objs.size:=fun b O=>by obtain⟨o,e,_⟩:=T.obj _ _ st3 b O;exact qb0 e
 refine wpAny_newFunctionEnv S.nocell (by intro y hy;simp at hy) (fun h₁ hns₁ hsb₁=>?_) S.kind;have k34:∀b o,Y.heap.get? b=ς o->h₁.get? b=ς o:=fun b o e=>hsb₁.extBut b o (qc4 (qb0 e)) (gP _ e)
 generalize hs4:({Y with heap:=h₁,toks:=Y.toks+([]:η (Str×Vz)).length}:qa5)=s4
 have I4:Inv (cxC X M scope Y.heap.objs.size Y (upd H2 D (.e [])) fp) [] (stC src σ) (upd H2 D (.e [])) s4:=by rw[<- hs4];exact o8 S I3 f3 fl3 hns₁ k34 rfl rfl
 have st4:tn 0 s4.heap:=T.keep _ _ _ st3 fun b _ o e=>by rw[<- hs4];exact k34 b o e
 generalize L:cxC X M scope Y.heap.objs.size Y (upd H2 D (.e [])) fp=U at*
 have hg':PG U tg g:=by rw[<- L];exact hg S.nd _ _ _ _
 have ht':PTs U ifs tt:=by rw[<- L];exact ht _ _ _ _
 have he':PE U elt te:=by rw[<- L];exact he _ _ _ _
 have eP:U.prog=X.prog:=by rw[<- L];rfl
 have eW:U.w=X.w:=by rw[<- L];rfl
 have eK:U.K=X.K:=by rw[<- L];rfl
 have eA:U.A=X.A:=by rw[<- L];rfl
 have ex':U.xe=fun _ _=>False:=by rw[<- L];rfl
 have ec:U.calm=θ:=by rw[<- L];exact hc
 have eE:U.env=compEnvC scope (fZ scope.names X.env.cells) Y.heap.objs.size X.env:=by rw[<- L];rfl
 have stat:∀{H':Hp},(∀b∈fp,H' b=ψ)->∀b∈fp,iq U [] H' b:=fun hn b O=>by
  rw[<- L];refine⟨hn b O,qc4 (fl3 b O),fun z=>?_,.inl O,fun x c h=>(f3 b O).2.2.2.2.1 x c (gT Z h),fun p hp=>absurd hp (by simp[cxC])⟩;rcases qa8.mp (I3.stkSub b z)with q|q
  .exact(f3 b O).2.1 q
  .exact(f3 b O).2.2.1 q
 -- behind the block
 have fin:∀(H':Hp)(s':qa5),Inv U [] (stC src σ) H' s'->Q (.ref D) H'->zg1 (model X.prog X.w) X.A X.xe use QQ (.ref D) Y.heap.objs.size (.ok .next) s':=by
  intro H' s' J' q;rw[<- L]at J';obtain⟨m,hn,_⟩:=id J'.loc;have hC:H' Y.heap.objs.size=ψ:=J'.free;have un:Un (frs X.stack) fp (upd H2 D (.e [])) H' Y.heap s'.heap:=J'.base;have IA:Inv X J1 σ H' s':=I3.call' (s':=s') (show s'.os=Y.os from J'.os) un J'.hok J'.bare fun b O=>⟨(f3 b O).2.2.2.1,(f3 b O).2.1,(f3 b O).2.2.2.2.1,(f3 b O).2.2.2.2.2⟩
  exact hfin D _ H' s' m IA (I3.fpOk (nL _) hC) hn q
 have loop:∀s4':qa5,s4'=s4->qq6 (model X.prog X.w) X.A (.compLoop (.ListComp elt [⟨tg,iter,ifs,0⟩] scope pos) 0 (.ref it) (.ref D) U.env) (zg1 (model X.prog X.w) X.A X.xe use QQ (.ref D) Y.heap.objs.size) s4':=by
  rintro _ rfl;refine iR (fun n s'=>∃i H',Inv U [] (stC src σ) H' s'/\tn i s'.heap/\(∀b∈fp,H' b=ψ)/\W i n H') ?_ m0 ⟨0,_,I4,st4,fun b O=>(f3 b O).1,w0⟩;rintro n s5 ⟨i,H5,I5,st5,fr5,w5⟩;rcases turn i n H5 w5 with ⟨stop,qn⟩|⟨go,N,hN,step⟩
  .have:=T.done U eP eW eK ec i [] s5 (stC src σ) H5 (fun _ _=>False) I5 (stat fr5) st5 stop;rw[eA]at this;refine thn this fun r s6 ⟨hr,I6⟩=>?_
   subst hr;exact fin H5 s6 I6 qn
  .have:=T.item U eP eW eK ec i [] s5 (stC src σ) H5 (fun _ _=>False) I5 (stat fr5) st5 go;rw[eA]at this;refine thn this fun r s6 ⟨u,hr,h6⟩=>?_
   subst hr;refine thn h6 fun _ s7 ⟨x,H7,I7,r7,y7,st7,fr7⟩=>?_
   have I7':=I7.pinned (stat fr7) (T.obj _ _ st7);have a1:=hg' _ s7 (stC src σ) H7 x u _ I7' r7 (step x H7 y7);rw[ex',eP,eW,eA]at a1;refine thn a1 fun _ s8 ⟨σ8,H8,I8,wk8,q8⟩=>?_
   have a2:=ht' _ s8 σ8 H8 _ I8 q8;rw[ex',eP,eW,eA]at a2;refine thn a2 fun ok s9 ⟨H9,I9,q9⟩=>?_
   have again:∀{H7':Hp}{s':qa5},Inv U ([]++ju fp s7.heap) σ8 H7' s'->N H7'->∃m,m<n/\∃i H',Inv U [] (stC src σ) H' s'/\tn i s'.heap/\(∀b∈fp,H' b=ψ)/\W i m H':=fun {H7' s'} J7 n7=>by obtain⟨m',hm,w7⟩:=hN H7' n7;refine⟨m',hm,i+1,H7',J7.unpinned.weak wk8.1 wk8.2,T.keep _ _ _ st7 fun b O o e=>(J7.pin (b,o) (qc7 _ (qc7 _ (dE O e)))).1,fun b O=>?_,w7⟩;obtain⟨o,e,d⟩:=T.obj _ _ st7 b O;exact(J7.pin (b,o) (qc7 _ (qc7 _ (dE O e)))).2.1
   cases ok with
   |false=>exact again I9 q9
   |true=>
    have a3:=he' _ s9 σ8 H9 _ I9 q9;rw[ex',eP,eW,eA]at a3;refine thn a3 fun v s10 ⟨y,H10,I10,r10,ys,hl,hz,q10⟩=>?_
    have a4:=jA (X:=U) _ s10 σ8 H10 (.ref D) [y] (.ref D) [v] (fun _ H'=>N H') I10 rfl (.cons r10 .nil) ⟨D,ys,y,rfl,rfl,hl,hz,q10⟩;rw[ex',eP,eW,eA]at a4;refine thn a4 fun _ s11 ⟨_,H11,I11,_,q11⟩=>?_
    exact again I11 q11
 have e4:∀c:Env,c=U.env->qq6 (model X.prog X.w) X.A (.compStart (.ListComp elt [⟨tg,iter,ifs,0⟩] scope pos) 0 (.ref it) (.ref D) c) (zg1 (model X.prog X.w) X.A X.xe use QQ (.ref D) Y.heap.objs.size) s4:=by rintro _ rfl;exact zd0 (loop _ rfl) (T.self _ _ _ _ _ st4 (loop _ rfl))
 exact e4 _ (by rw[eE];rfl)
def z0(hN:X.N.Nodup)(hi':X.N[i]?=ς y)(O:Loc X.env.scope y)(hf:X.fn y=θ∨X.env.scope.names.lookup y=ς .local)
 (S:CmpScope X.N X.env.scope scope M src) (hc:X.calm=θ) (hi:PI X tg iter wi) (hg:M.Nodup->∀C s H ex,PG (cxC X M scope C s H ex) tg g) (ht:∀C s H ex,PTs (cxC X M scope C s H ex) ifs tt)
 (he:∀C s H ex,PE (cxC X M scope C s H ex) elt te) (hs:∀x,qj3 iter X.env x=pure x)
 (hsw:qo5 (.ListComp elt [⟨tg,iter,ifs,0⟩] scope pos) (ς (.Name y py)) spos.line X.env=pure θ) :
  PS X (.Assign [.Name y py] (.ListComp elt [⟨tg,iter,ifs,0⟩] scope pos) spos) (zn (o7 src wi g tt te) (kL i)):=by
 intro J1 s σ H D I h;rw[exec_Assign_Name_used _ _ _ _ hsw];refine wB (zh8 (wB ?_));show wpAny _ X.A (do let _ <- comprehension (.ListComp elt [⟨tg,iter,ifs,0⟩] scope pos) scope X.env _ (newList []) ξ (eval iter X.env) (ς (ze1 (.Name y py) X.env))) _ _ s;refine wB (qk9 (uK (use:=ς (ze1 (.Name y py) X.env)) (QQ:=fun _ s'=>∃W H',Inv X J1 W H' s'/\D.nx W H') S hc hi hg ht he hs I h ?_) (fun _ s' hq=>qa2 (qa2 hq)) fun _ _ e=>e);intro Dd C H' s' m IA L hn q;show wpAny _ X.A (ze1 (.Name y py) X.env (.ref Dd)) _ _ s';refine wpAny_assign_Name (mm IA hN hi' O (v:=.ref Dd) rfl (fun s2 I2 Z=>?_) hf);obtain⟨a,sb,ha⟩:=Z
 have ne:C≠a:=by
  rcases ha with rfl|ha
  .exact L.2.1
  .exact qq5 (L.2.2.2.2.1 y a ha)
 refine⟨m,hn.sameBut sb ne,fun h3 sb3=>⟨_,H',?_,q⟩⟩;have Y:∀b o,b≠C->s2.heap.get? b=ς o->h3.get? b=ς o:=fun b o U e=>sb3.extBut b o U e
 have nm:∀{b:J9},b∉[C]->b≠C:=fun U z=>U (by rw[z];exact qe7)
 refine I2.call' (s':={s2 with heap:=h3}) (ch:=[C]) rfl ⟨fun b o e n U O=>Y b o (nm O) e,fun b o e n U O=>⟨o.slots,Y b o (nm O) e⟩,fun b o e n O=>n,fun b o e O=>⟨o,Y b o (nm O) e⟩,fun b xs e=>e,fun b o u e=>e,fun b ps e=>⟨#[],by rw[Array.append_empty];exact e⟩,fun b qs e=>e⟩ ?_ I2.bare fun b U=>?_
 .intro b u e;have nb:b≠C:=fun z=>by rw[z,L.1]at e;cases e
  refine(I2.hok b u e).stay (fun c v hc' q=>Y c v ?_ q) (fun _ q=>q) (fun _ _ q=>q) fun _ _ _ q=>q
  rcases hc' with z|z
  .rw[z];exact nb
  .intro w;rw[w,L.1]at z;cases z
 .cases qa4.mp U;exact⟨L.2.2.2.1,L.2.1,L.2.2.2.2.1,L.2.2.2.2.2⟩
end
variable{sc:Jd}
section
variable{X:Cx}{elt tg iter:Jc}{ifs:η Jc}{scope:Jd}{pos:Pos}{M:η Str}{src:η (ζ Nat)}{fi:De->ζ (η Dt)}{ft:De->ζ Bool}{fe:De->ζ Dt}{i:Nat}
def C5{f:De->ζ T}{Q:VK}(h:tO K (toT (toD f)) σ H Q):tO K f σ H Q:=by obtain⟨Φ,δ,F,t,O,W,U,k⟩:=h;obtain⟨d,q,rfl⟩:=mS U;obtain⟨u,L,q⟩:=bS q;exact⟨Φ,δ,F,u,O,W,L,KL.to q k.leaf⟩
def g6{ts:η Nat}{bb:Dt->De->ζ De}(h:eC sc N i y=θ)(hl:jC sc y=θ)(Y:N.Nodup)(S:CmpScope X.N X.env.scope scope M src)(hc:X.calm=θ)(hi:DIB X tg iter fi)(hg:M.Nodup->∀C s H ex,DG (cxC X M scope C s H ex) tg ts bb)
 (ht:∀C s H ex,DTs (cxC X M scope C s H ex) ifs ft) (he:∀C s H ex,DL (cxC X M scope C s H ex) elt fe) (L:(ts.all fun k=>decide (src[k]?=ς ψ))=θ) (O:∀x,qj3 iter X.env x=pure x:=by intro _;rfl)
 (e1:cu X sc:=by rfl) (e2:X.N=N:=by rfl) (hf:X.fn y=θ∨X.env.scope.names.lookup y=ς .local:=by exact .inl rfl) (U:qo5 (.ListComp elt [⟨tg,iter,ifs,0⟩] scope pos) (ς (.Name y py)) spos.line X.env=pure θ:=by rfl) :
  DS1 X (.Assign [.Name y py] (.ListComp elt [⟨tg,iter,ifs,0⟩] scope pos) spos) (ap i (toT (toD (aQ src fi bb ft fe)))):=by
 have e1:X.env.scope=sc:=e1;subst e1 e2;refine PS.mono (z0 (g:=gD X.K ts bb) (tt:=tTr X.K ft) (te:=tL X.K fe) Y (iC h) (kW hl) hf S hc hi (fun Y C s H ex=>hg Y C s H ex) (fun C s H ex=>ht C s H ex) (fun C s H ex=>he C s H ex) O U) fun D σ H ⟨Φ,δ,F,o,Z,en,q,k⟩=>?_
 unfold ap at q;obtain⟨t,W,q⟩:=mS q;cases q;exact sF S L σ H _ (C5 ⟨Φ,δ,F,t,Z,en,W,fun v H' F' S st o O=>k _ F' H' (en.put st (Z▸o) O i)⟩)
end
noncomputable def iF(x:Str)(n:Int):Str:=if n<1 then Str.empty else if(n==1||x.length==0)=θ then x else⟨(qc1 n.toNat x.cps).foldl (· ++ ·) #[]⟩
section
variable{X:Cx}
def pC(K:xA9):R2:=fun x y H Q=>∃a b ys,x=.ref a/\y=.ref b/\SqT K H a []/\SqT K H b ys/\Q (.ref b) H
def Aa:OpR X (ql4 .Add) (pC X.K):=by
 intro J1 s σ H x y v u Q I rx ry h;obtain⟨a,b,ys,rfl,rfl,ha,hb,q⟩:=h;cases rx;cases ry;obtain⟨J8,r1,p1,_⟩:=I.tuple ha;obtain⟨U,r2,p2,_⟩:=I.tuple hb;cases r1;obtain⟨⟨cls,dd,data,sl⟩,ho,hc,n,hd⟩:=id p1;obtain⟨⟨cls2,Y,data2,Z⟩,W,L,n2,O⟩:=id p2;simp only at hc hd L O;subst hc hd L O
 exact qy3 ⟨_,ho,rfl⟩ ⟨_,W,rfl⟩ qv0 zb0 PySem.F.slot_tuple_add PySem.F.entry_tuple_add (PySem.F.args_tuple_add_2 _ _)
  (tuple_addW0 a b #[] U.toArray n n2 dd Y sl Z rfl) ⟨ho,W,⟨.ref b,H,I,rfl,q⟩⟩
def mO:Dt->Dt->ζ T
 |.t [],.t m=>ς (.f (.t m))
 |.t (d::l),.t (e::m)=>az (.t (d::l)) (.t (e::m))
 |_,_=>ψ
def sN:OpR X (ql4 .Add) (fun x y H Q=>pC X.K x y H Q∨mI X.K x y H Q):=OpR.or Aa cO
def wL:R2D K (fun x y H Q=>pC K x y H Q∨mI K x y H Q) mO:=by
 intro F H x y Z W Q t L U O q k;unfold mO at q;split at q<;>first|(cases q;done)|skip
 .rename_i m;cases q;obtain⟨a,vs,rfl,h1,h2⟩:=U;obtain⟨b,ws,rfl,h3,Y⟩:=O;simp only[Reps]at h2;subst h2;refine .inl ⟨a,b,ws,rfl,rfl,L.tup h1,L.tup h3,k.leaf.here L ?_⟩;simp only[Rep];exact⟨b,ws,rfl,h3,Y⟩
 .exact .inr (fB F H _ _ Z W Q t L U O q k)
end
section
variable{X:Cx}{pos:Pos}{k v:Jc}{ks:η (ζ Jc)}{vs:η Jc}{fk fv:De->ζ Dt}{g:De->ζ (η (Key×Dt))}
end
def Ab{k:Key}(h:(bM P w).is k u=θ):RelV (kV k) u:=by
 rcases bT (show kK k u=θ from h)with ⟨i,t,rfl,rfl⟩|⟨x,t,rfl,rfl⟩
 .exact⟨t,rfl⟩
 .exact⟨t,rfl⟩
section
variable{X:Cx}
end
def cr(sc:Jd)(N:η Str):Bool:=(qd0 N.length).all fun i=>match N[i]? with
 |some x=>eC sc N i x&&jC sc x
 |none=>ξ
def nsB(h:cr sc N=θ)(e:N[i]?=ς x):eC sc N i x=θ/\jC sc x=θ:=by have h1:=qk1.mp h i (qe9.mpr (gX e).1);rw[e]at h1;exact qq7.mp h1
def nsN(h:cr sc N=θ)(i:Nat)(e:N[i]?=ς x:=by rfl):eC sc N i x=θ:=(nsB h e).1
def nsL(h:cr sc N=θ)(i:Nat)(e:N[i]?=ς x:=by rfl):jC sc x=θ:=(nsB h e).2
variable{X:Cx}
def pvN(i:Nat)(h:cr sc N=θ)(e:N[i]?=ς x:=by rfl)(e1:cu X sc:=by rfl)(q:X.N=N:=by rfl):PE X (.Name x pos) (iM i):=pvD i (nsN h i e) e1 q
def gMin:η Dt->ζ T
 |[.int i,.int j]=>ς (.f (.int (if j<i then j else i)))
 |_=>ψ
def sO:Key->Dt
 |.inl i=>.int i
 |.inr x=>.str x
def Ac{F:Hp}(k:Key):Rep K F (sO k) (kV k):=by
 cases k with
 |inl i=>exact f7
 |inr x=>exact iY
def Bm(i j:Int):Prop:=0<j/\j<18446744073709551616
def wM:OpR X (ql4 .FloorDiv) (rI Bm fun i j=>.int (i/j)):=opI fun i j _ _ _ _ _ L q=>by
 have h1:(0:Int)<j:=L.1;have h2:j<18446744073709551616:=L.2;refine floordiv_int Θ (by rw[Int.fdiv_eq_ediv_of_nonneg i Θ];exact q) (.inl (PyProof.noPylong_of_log2 ?_));have h3:j.natAbs≠0:=by lia
 exact qy4 ((Nat.log2_lt h3).mpr (show j.natAbs<2^64 by lia)) Ω
def gz:Dt->Dt->ζ T
 |.int i,.int j=>if 0<j/\j<18446744073709551616 then ς (.f (.int (i/j)))else ψ
 |_,_=>ψ
def C6:R2D K (rI Bm fun i j=>.int (i/j)) gz:=by
 intro F H x y Z Y Q t W U L q k;unfold gz at q;split at q<;>first|(cases q;done)|skip
 split at q
 .rename_i O;cases q;cases U;cases L;exact⟨_,_,rfl,rfl,O,k.int W⟩
 .cases q
abbrev Orc:=J9->Hp->η Dt->ζ T
def wN(P:qd1)(w:Ja)(K:xA9)(mg:Str->ζ Vz)(base:Heap)(kk:Nat)(H:Hp)(G:Orc):Prop:=∀(f:J9)(F0:Hp)(ds:η Dt)(t:T),G f F0 ds=ς t→
 (∃fo uf fd,H f=ς (.frz fo uf)/\fo.data=.func fd)/\∀(A:qe0)(outer:η Env)(s:qa5)(H' F:Hp)(us:η Vz)(vs:η V)(Q:VK),Room kk A->(∀b o u,H b=ς (.frz o u)->H' b=ς (.frz o u))->Env0 P w K mg base A outer s H'->Same F0 F->Same F H'->Vals vs us->Reps K F ds vs->KO K F H' t Q→
  qq6 (model P w) A (.call (.ref f) ⟨us,[]⟩) (CR CX0 outer P w H' s Q E0) s
noncomputable def vCl(G:Orc)(i:Nat)(fs:De->ζ (η Dt)):De->ζ T:=fun δ=>match δ[i]? with
 |some (ς (.fn a F0))=>(fs δ).bind (G a F0)
 |_=>ψ
section
variable{X:Cx}{e:Jc}{es:η Jc}{fs:De->ζ (η Dt)}{p pos:Pos}{x:Str}{i kk:Nat}{G:Orc}
def sP (hx:PE X (.Name x p) (iM i)) (hG:wN X.prog X.w X.K X.mg X.base kk X.H₀ G) (hr:Room kk X.A) (ha:DA X (e::es) fs)
  (he:qa7 (e::es) X.env=(ξ,eval e X.env)::qa7 es X.env:=by rfl) (hpl:(qj6 pos (qa7 es X.env)).any (·.1)=ξ:=by rfl):DO X (.Call (.Name x p) (e::es) [] pos) (vCl G i fs):=by
 intro J1 s σ H Q I h;obtain⟨Φ,δ,F,t,hK,Y,U,k⟩:=h;unfold vCl at U;split at U<;>first|(cases U;done)|skip
 rename_i a F0 hi;obtain⟨ds,hd,ht⟩:=bS U;obtain⟨v,hv⟩:=Y.has i _ hi;obtain⟨S,sp⟩:=Y.sep;obtain⟨rfl,Z⟩:=sp.own i _ _ (cq hi hv);obtain⟨⟨fo,uf,fd,g1,g2⟩,run⟩:=hG a F0 ds t ht
 have q:∀{J1:η (J9×Obj)}{σ:St}{H:Hp}{s:qa5},Inv X J1 σ H s->PySem.W.FnAt a s.heap:=fun {J1 σ H s} J=>by have e1:=(J.hok a _ (J.base.frzs a fo uf g1)).1;obtain⟨oc,od,dt,sl⟩:=fo;cases (show dt=.func fd from g2);exact⟨oc,od,fd,sl,e1⟩
 refine qo9 (thn (hx J1 s σ H (fun v H'=>v=.ref a/\H'=H) I ⟨.ref a,hv,rfl,rfl⟩) fun u s1 h1=>?_);obtain⟨v1,H1,I1,r1,rfl,rfl⟩:=h1;cases r1;refine PySem.W.callWith_F (q I1) (thn (ha.pa pos J1 s1 σ _ (fun vs H'=>∃F',Step F _ F' H'/\Reps X.K F' ds vs) I1 ⟨Φ,δ,F,ds,hK,Y,hd,fun vs H' F' st r=>⟨F',st,r⟩⟩) fun us s2 h2=>?_) he hpl;obtain⟨vs,H2,O,r2,F2,st,rc⟩:=h2;refine⟨q O,zi8 (qr9 (run X.A X.stack s2 H2 F2 us vs Q hr (fun b o u z=>O.base.frzs b o u z) O.env0 (Z.trans st.ff) st.fh r2 rc (k.step st)) fun r s' L=>?_)⟩;cases r with
 |error e=>exact L.elim
 |ok fl=>
  cases fl with
  |ret u=>exact O.after L
  |next=>exact qg9 L
  |brk=>exact qg9 L
  |cont=>exact qg9 L
end
def deR(m:Nat)(d:Dt)(f1 f2:J9)(F0:Hp):De:=ς (.f d)::ς (.fn f1 F0)::ς (.fn f2 F0)::qc1 (m-3) ψ
def uL(m:Nat)(g:De->ζ Out)(d:Dt)(f1 f2:J9)(F0:Hp):ζ T:=match g (deR m d f1 f2 F0)with
 |some (.rt t)=>ς t
 |some (.nx _)=>ς (.f .non)
 |_=>ψ
def spR(P:qd1)(w:Ja)(K:xA9)(mg:Str->ζ Vz)(base:Heap)(kk:Nat)(FR:Orc->Dt->J9->J9->Hp->ζ T):Sp:=fun vs H Q _=>∃G F d f1 f2 t v,wN P w K mg base kk H G/\Same F H/\vs=[v,.ref f1,.ref f2]/\Rep K F d v/\FR G d f1 f2 F=ς t/\KO K F H t Q
variable{f1 f2:J9}
def mP{F:Hp}{d:Dt}(O:Same F H)(r:Rep K F d v):En ⟨K,F,H,fun _=>False⟩ (deR N.length d f1 f2 F) (start N [v,.ref f1,.ref f2]) F H:=by
 have q:∀(i:Nat)(t:T),(deR N.length d f1 f2 F)[i]?=ς (ς t)->∃L,(start N [v,.ref f1,.ref f2])[i]?=ς (ς L)/\Own K F H t L fun _=>False:=fun i t h=>by
  unfold deR at h
  match i with
  |0=>cases h;exact⟨v,rfl,r⟩
  |1=>cases h;exact⟨_,rfl,rfl,Same.refl _⟩
  |2=>cases h;exact⟨_,rfl,rfl,Same.refl _⟩
  |i+3=>rw[qk7,qk7,qk7,qk4]at h;split at h<;>cases h
 refine⟨O,fun b o h _=>h,Same.refl _,fun b o h=>.inl h,by simp[start,deR],fun i t h=>?_,fun _ _=>False,fun i t L h=>?_,fun _ _ z=>z.elim,fun _ _ _ z=>z.elim⟩
 .obtain⟨L,e,_⟩:=q i t h;exact⟨L,e⟩
 .obtain⟨h1,h2⟩:=dY h;obtain⟨w,e,o⟩:=q i t h1;rw[h2]at e;cases e;exact o
variable{ps:η Str}{kk:Nat}
section
variable{P:qd1}{w:Ja}{K:xA9}{mg:Str->ζ Vz}{base:Heap}
def C7{k:Nat}{g:Orc->De->ζ Out}(D:DefF K mg x st ps)(S:FnScope N ps (ac st))(W:ps.length=3)
 (L:∀(f:J9)(cdv:Vz)(A:qe0)(outer:η Env)(s:qa5)(H:Hp)(E:XK),Room k (A.deeper (qz4 x (ac st) s.heap.objs.size f cdv))->∀G:Orc,wN P w K mg base kk H G->DS (kO CX0 P w K mg base N x (ac st) f cdv A outer s H E).nox (bc st) (g G)) :
  OkF P w K mg base x (k+1) ps (spR P w K mg base kk fun G=>uL N.length (g G)):=by
 refine D.ok S (fun vs H Q E h=>?_) (fun f cdv A outer s H vs Q E Z h=>?_)
 .obtain⟨G,F,d,f1,f2,t,v,_,_,rfl,_⟩:=h;exact W.symm
 .obtain⟨G,F,d,f1,f2,t,v,Y,U,rfl,r,O,kq⟩:=h;refine⟨_,L f cdv A outer s H E Z G Y,?_⟩;unfold uL at O;dsimp only at O;split at O
  .rename_i t' q;cases O;exact⟨⟨K,F,H,fun _=>False⟩,_,F,_,rfl,mP U r,q,fun v F' H' z=>z.step kq⟩
  .rename_i δ' q;cases O;exact⟨⟨K,F,H,fun _=>False⟩,_,F,_,rfl,mP U r,q,fun σ' F' H' z=>(z.rt (Step.refl z.fh) (t:=.f .non) (S:=fun _=>False) (iZ (K:=K) (F:=F')) fun _ y=>y.elim).step kq⟩
  .cases O
end
section
variable{X:Cx}{x:Str}{p pos:Pos}{e:Jc}{es:η Jc}{t:TA}{f:J9}{fd:qp9}{ps:η Str}{sp:Sp}{k:Nat}
def C8(X:Cx)(sp:Sp)(t:TA):TE:=fun σ H Q=>t σ H fun vs H1=>∀H',PlusC X σ H1 H'->sp vs H' (fun v H2=>(∀c,bN X c->H2 c=H' c)->Q v (jW X H2)) E0
def wO(I:Inv X J1 σ H s)(L:∀x,X.fn x=θ):∀b,bN X b->b∉frs X.stack/\∀o,X.base.get? b≠ς o:=fun b ⟨x,O⟩=>by
 have q:=I.ok.cab x b (L x) O;refine⟨fun z=>?_,fun o e=>?_⟩
 .rcases qa8.mp (I.stkSub b z)with y|y
  .exact I.cne x b O y
  .obtain⟨_,o,U,_⟩:=I.ok.funs.mem y;exact absurd (qb0 U) (qw2.mpr q)
 .exact absurd (qc2 (qb0 e) I.ok.bsz) (qw2.mpr q)
def wP (F:FnOk X.prog X.w X.K X.mg X.base CX0 k f fd ps sp) (hr:Room k X.A) (hg:Gl X x) (hm:X.mg x=ς (.ref f)) (hk:xF9 X.K (.ref f)=θ) (hb:Binds X.K fd ps []) (Y:∀ x,X.fn x=θ)
  (ha:PA X (e::es) t) (U:(x==("__debug__":Str))=ξ:=by decide) (he:qa7 (e::es) X.env=(ξ,eval e X.env)::qa7 es X.env:=by rfl) (Z:(qj6 pos (qa7 es X.env)).any (·.1)=ξ:=by rfl) :
  PE X (.Call (.Name x p) (e::es) [] pos) (C8 X sp t):=by
 intro J1 s σ H Q I h;refine qo9 (nz I hg hm ?_ U);refine PySem.W.callWith_K (h₀:=X.base) I.ok.mod.kin hk (thn (ha pos J1 s σ H _ I h) fun us s1 ⟨vs,H1,L,r,q⟩=>⟨L.kIn,?_⟩) he Z;obtain⟨H',pc,e0⟩:=zP L (wO L Y);have hs:=q H' pc;have hl:(us++[]).length=ps.length:=by rw[qg5,<- r.length];exact F.len _ _ _ _ hs
 refine zi8 (qr9 (F.run X.A X.stack s1 H' ⟨us,[]⟩ (us++[]) vs _ E0 hr e0 (hb s1 us L.kIn hl) (by rw[qg5];exact r) hs) fun r s' O=>?_);cases r with
 |error e=>exact O.elim
 |ok fl=>
  cases fl with
  |ret u=>exact L.afterP pc e0.hok O
  |next=>exact qg9 O
  |brk=>exact qg9 O
  |cont=>exact qg9 O
end
open Classical in
def uM(f1 f2:J9)(F1:Hp)(g1 g2:η Dt->ζ T):Orc:=fun a F0 ds=>if a=f1/\F0=F1/\ds.length=1 then g1 ds else if a=f2/\F0=F1/\ds.length=1 then g2 ds else ψ
variable{F1:Hp}{g1 g2:η Dt->ζ T}
def C9{d:Dt}:uM f1 f2 F1 g1 g2 f1 F1 [d]=g1 [d]:=if_pos ⟨rfl,rfl,rfl⟩
def Db{d:Dt}(h:f1≠f2):uM f1 f2 F1 g1 g2 f2 F1 [d]=g2 [d]:=(if_neg fun z=>h z.1.symm).trans (if_pos ⟨rfl,rfl,rfl⟩)
def FnIn(H:Hp)(f:J9)(name qual:Str)(params:qj2)(body:η Jb)(scope:Jd)(cl:η (Str×J9)):Prop:=∃fo uf c' doc pm ctv,H f=ς (.frz fo uf)/\fo.data=.func (xG9 name qual params body scope cl .none .none doc pm ψ (.ref c') ctv)/\∃oc,H c'=ς (.frz oc (.code qual))
variable{f:J9}{qual:Str}{params:qj2}{body:η Jb}{scope:Jd}
theorem FnIn.up{name:Str}{cl:η (Str×J9)}(h:FnIn H f name qual params body scope cl)(s:∀b o u,H b=ς (.frz o u)->H' b=ς (.frz o u)):FnIn H' f name qual params body scope cl:=by obtain⟨fo,uf,c',doc,pm,ctv,h1,h2,oc,h3⟩:=h;exact⟨fo,uf,c',doc,pm,ctv,s _ _ _ h1,h2,oc,s _ _ _ h3⟩
def gd(δ:De):η Nat->ζ (η Dt)
 |[]=>ς []
 |j::js=>match δ[j]? with
  |some (ς (.f d))=>(gd δ js).map (d::·)
  |_=>ψ
structure NestD(X:Cx)(name qual:Str)(params:qj2)(body:List Jb)(scope:Jd)(N ps fr:List Str)(js:List Nat)(g:De->Option Out)(kk:Nat):Prop where
 S:ClScope N ps fr scope
 ndn:∀x,∀y∈scope.names,y.1=x->scope.names.lookup x=ς y.2
 one:ps.length=1
 fre:∀x∈scope.names,x.2=.free->X.env.kindOf x.1=ς .cell
 jl:js.length=fr.length
 nm:∀(i j:Nat)(x:Str),fr[i]?=ς x->js[i]?=ς j->X.N[j]?=ς x/\X.env.kindOf x=ς .cell
 bd:∀(s:qa5)(cl:List (Str×J9))(doc pm ctv cd:Vz)(us:List Vz),us.length=ps.length->za9 s (xG9 name qual params body scope cl .none .none doc pm ψ cd ctv) ⟨us,[]⟩ (ps.zip us)
 body:∀(f c':J9)(cl:List (Str×J9))(A:qe0)(outer:List Env)(s:qa5)(H:Hp),Room kk (A.deeper (iS qual scope s.heap.objs.size f (.ref c') cl))->DS (pd CX0 X.prog X.w X.K X.mg X.base N qual scope f (.ref c') cl A outer s H E0 fun _ _=>False) body g
variable{names:η (Str×qp0)}{cells:η (Str×J9)}{js:η Nat}
section
variable{X:Cx}
def k9{c:J9}(h:(x,c)∈fZ names cells):(x,qe3)∈names/\c=(cells.lookup x).getD 0:=by
 have q:∀(names:η (Str×qp0))(J5:η (Str×J9)),(x,c)∈names.foldl (fun cs L=>if L.2==qe3 then(L.1,(cells.lookup L.1).getD 0)::cs else cs) J5->(x,c)∈J5∨((x,qe3)∈names/\c=(cells.lookup x).getD 0):=fun names=>by
  induction names with
  |nil=>intro J5 h;exact .inl h
  |cons y r O=>
   intro J5 h;rw[qh6]at h;rcases O _ h with z|z
   .split at z
    .rename_i hk;rcases qa8.mp z with e|z
     .obtain⟨a,k⟩:=y;cases e;have hk:k=qe3:=by simpa using hk
      subst hk;exact .inr ⟨.head _,rfl⟩
     .exact .inl z
    .exact .inl z
   .exact .inr ⟨.tail _ z.1,z.2⟩
 rcases q names [] h with z|z
 .cases z
 .exact z
def uN(h:(x,qe3)∈names):∃c,(fZ names cells).lookup x=ς c:=by
 have L:∀(names:η (Str×qp0))(J5:η (Str×J9)),((x,qe3)∈names∨∃c,J5.lookup x=ς c)->∃c,(names.foldl (fun cs q=>if q.2==qe3 then(q.1,(cells.lookup q.1).getD 0)::cs else cs) J5).lookup x=ς c:=fun names=>by
  induction names with
  |nil=>
   intro J5 h;rcases h with h|h
   .cases h
   .exact h
  |cons y r O=>
   intro J5 h;rw[qh6];refine O _ ?_;rcases h with h|⟨c,h⟩
   .rcases qa8.mp h with e|h
    .subst e;right;simp
    .exact .inl h
   .right;split
    .rw[qg6];cases x==y.1 with
     |true=>exact⟨_,rfl⟩
     |false=>exact⟨c,h⟩
    .exact⟨c,h⟩
 exact L names [] (.inl h)
theorem lb{F:Hp}(L:En Φ δ σ F H):∀{js:η Nat}{caps:η Dt},gd δ js=ς caps->∃fs:η V,Reps Φ.K F caps fs/\fs.length=js.length/\∀(i j:Nat)(v:V),js[i]?=ς j->fs[i]?=ς v->σ[j]?=ς (ς v)
 |[],caps,h=>by cases h;exact⟨[],by simp only[Reps],rfl,fun i j v h=>by simp at h⟩
 |j::js,caps,h=>by
  simp only[gd]at h;split at h<;>first|(cases h;done)|skip
  rename_i d U;obtain⟨cs,q,rfl⟩:=mS h;obtain⟨v,O,W⟩:=L.leaf U;obtain⟨fs,h1,h2,h3⟩:=lb L q;refine⟨v::fs,by simp only[Reps];exact⟨v,fs,rfl,W,h1⟩,by simp[h2],fun i Y Z q1 q2=>?_⟩;cases i with
  |zero=>simp at q1 q2;subst q1 q2;exact O
  |succ i=>exact h3 i Y Z (by simpa using q1) (by simpa using q2)
def NestD.at{name:Str}{fr:η Str}{g:De->ζ Out}(D:NestD X name qual params body scope N ps fr js g kk)(Z:∀x y c,X.env.cells.lookup x=ς c->X.env.cells.lookup y=ς c->x=y)(Y:∀x,X.env.kindOf x=ς .cell->∃c,X.env.cells.lookup x=ς c)
 (pc:PlusC X σ H H') (fi:FnIn H' f name qual params body scope (fZ scope.names X.env.cells)) {fs:η V} (hl:fs.length=js.length) (hv:∀(i j:Nat)(v:V),js[i]?=ς j->fs[i]?=ς v->σ[j]?=ς (ς v)) (L:∀x∈scope.names,x.2=.free->x.1∈fr) :
  ∃c' doc pm ctv fo uf,ClAt H' f name qual params body scope (fZ scope.names X.env.cells) fr fs c' doc pm ctv fo uf:=by
 obtain⟨fo,uf,c',doc,pm,ctv,h1,h2,h3⟩:=fi;have cells:∀x,(x,qe3)∈scope.names->∃c,X.env.cells.lookup x=ς c:=fun x hx=>Y x (D.fre (x,.free) hx rfl)
 have look:∀x c,(x,c)∈fZ scope.names X.env.cells->X.env.cells.lookup x=ς c:=fun x c h=>by obtain⟨a,b⟩:=k9 h;obtain⟨c2,e⟩:=cells x a;rw[e]at b;rw[e,b];rfl
 have O:∀x c,(x,c)∈fZ scope.names X.env.cells->∃(i:Nat)(o:Obj)(v:V)(u:Vz),fr[i]?=ς x/\fs[i]?=ς v/\H' c=ς (gq c o)/\o.data=.cell (ς u)/\RelV v u:=fun x c h=>by obtain⟨a,_⟩:=k9 h;obtain⟨i,hi⟩:=qk3 (L _ a rfl);have hif:i<fr.length:=(gX hi).1;have hjl:=D.jl;have q:js[i]?=ς js[i]:=gQ Θ;have U:fs[i]?=ς fs[i]:=gQ Θ;obtain⟨n1,n2⟩:=D.nm i _ x hi q;obtain⟨o,v,g1,g2,g3⟩:=pc.cel x c (look x c h);obtain⟨u,rfl,ru⟩:=g3 _ _ n1 (hv i _ _ q U) (.inl n2);exact⟨i,o,_,u,hi,U,g1,g2,ru⟩
 refine⟨c',doc,pm,ctv,fo,uf,⟨h1,h2,h3,fun x c h=>?_,fun x y c W e2=>?_,?_,fun i x v W e2=>?_,fun x c e=>?_⟩⟩
 .obtain⟨_,o,_,u,_,_,g1,g2,_⟩:=O x c h;exact⟨o,u,g1,g2⟩
 .exact Z x y c (look x c (PySem.mem_of_lookup W)) (look y c (PySem.mem_of_lookup e2))
 .rw[hl,D.jl]
 .have hx:=D.S.frk x (qc8 W);obtain⟨c,e⟩:=uN (cells:=X.env.cells) (PySem.mem_of_lookup hx);have hif:i<fr.length:=(gX W).1;have hjl:=D.jl;have q:js[i]?=ς js[i]:=gQ Θ;obtain⟨n1,n2⟩:=D.nm i _ x W q;obtain⟨o,w,g1,g2,g3⟩:=pc.cel x c (look x c (PySem.mem_of_lookup e));obtain⟨u,rfl,ru⟩:=g3 _ _ n1 (hv i _ _ q e2) (.inl n2);exact⟨c,o,u,e,g1,g2,ru⟩
 .obtain⟨a,_⟩:=k9 (PySem.mem_of_lookup e);exact D.ndn x _ a rfl
end
variable{Hp':Hp}
section
variable{X:Cx}{K:xA9}
def Step.hide{F H1:Hp}(Z:Same F H)(q:PlusC X σ H Hp')(a:Step F Hp' F1 H1):Step F H F1 (jW X H1):=by
 have L:∀{b:J9},bN X b->∃o,Hp' b=ς (gq b o):=fun {b}⟨x,Y⟩=>by obtain⟨o,v,e,_⟩:=q.cel x b Y;exact⟨o,e⟩
 have W:∀{b:J9}{o:HO},F1 b=ς o->¬ bN X b:=fun {b o} e O=>by
  obtain⟨ob,g1⟩:=L O;rcases a.nw b o e with z|z|⟨xs,z⟩
  .have:=Z b o z;rw[q.fre b O]at this;cases this
  .rw[g1]at z;cases z
  .rw[g1]at z;cases z
 refine⟨fun b o e=>?_,a.ff,fun b o e=>?_,fun b o e=>?_⟩
 .have U:¬ bN X b:=fun z=>by rw[q.fre b z]at e;cases e
  rw[cx U];exact a.hh b o (by rw[q.out b U];exact e)
 .rw[cx (W e)];exact a.fh b o e
 .rw[<- q.out b (W e)];exact a.nw b o e
def KO.hide{F:Hp}{t:T}{Q:VK}(Z:Same F H)(L:PlusC X σ H Hp')(k:KO K F H t Q):KO K F Hp' t fun v H2=>Q v (jW X H2):=fun v H2 Y S st o O=>by
 have q:∀b,S b->¬ bN X b:=fun b z ⟨x,W⟩=>by obtain⟨ob,_,e,_⟩:=L.cel x b W;rw[(O b z).2.1]at e;cases e
 refine k v _ Y S (Step.hide Z L st) (o.step (Same.refl _) fun b u z e=>by rw[cx (q b z)];exact e) fun b z=>?_
 obtain⟨h1,h2,u,h3,U⟩:=O b z;exact⟨h1,by rw[<- L.out b (q b z)];exact h2,u,by rw[cx (q b z)];exact h3,U⟩
end
section
variable{X:Cx}{e0:Jc}{p p1 p2 pos:Pos}{x n1 n2 q1 q2:Str}{par1 par2:qj2}{bod1 bod2:η Jb}{sc1 sc2:Jd}{N1 ps1 fr1 N2 ps2 fr2:η Str}{js1 js2:η Nat}{g1 g2:De->ζ Out}{k kk i1 i2:Nat}{ps:η Str}{FR:Orc->Dt->J9->J9->Hp->ζ T}{f0:De->ζ Dt}
def wQ(X:Cx)(i1 i2:Nat)(n1 n2 q1 q2:Str)(par1 par2:qj2)(bod1 bod2:η Jb)(sc1 sc2:Jd)(σ:St)(H:Hp)(f1 f2:J9):Prop:=σ[i1]?=ς (ς (.ref f1))/\σ[i2]?=ς (ς (.ref f2))/\f1≠f2/\FnIn H f1 n1 q1 par1 bod1 sc1 (fZ sc1.names X.env.cells)/\FnIn H f2 n2 q2 par2 bod2 sc2 (fZ sc2.names X.env.cells)
def tRt(X:Cx)(i1 i2:Nat)(n1 n2 q1 q2:Str)(par1 par2:qj2)(bod1 bod2:η Jb)(sc1 sc2:Jd)(N1 N2:η Str)(js1 js2:η Nat)(g1 g2:De->ζ Out)(f0:De->ζ Dt)(FR:Orc->Dt->J9->J9->Hp->ζ T):TE:=fun σ H Q=>∃ Φ δ F f1 f2 d0 q L t,Fm.K Φ=X.K/\En Φ δ σ F H/\wQ X i1 i2 n1 n2 q1 q2 par1 par2 bod1 bod2 sc1 sc2 σ H f1 f2/\f0 δ=ς d0/\gd δ js1=ς q/\gd δ js2=ς L/\(∀F0,FR (uM f1 f2 F0 (kh N1.length g1 q) (kh N2.length g2 L)) d0 f1 f2 F0=ς t)/\KO X.K F H t Q
def Fc (F:OkF X.prog X.w X.K X.mg X.base x k ps (spR X.prog X.w X.K X.mg X.base (kk+1) FR)) (hr:Room k X.A) (hg:Gl X x) (hfn:∀ x,X.fn x=θ) (h0:DL X e0 f0) (hv1:PE X (.Name n1 p1) (iM i1)) (hv2:PE X (.Name n2 p2) (iM i2))
  (D1:NestD X n1 q1 par1 bod1 sc1 N1 ps1 fr1 js1 g1 kk) (Y:NestD X n2 q2 par2 bod2 sc2 N2 ps2 fr2 js2 g2 kk) (ha1:∀x∈sc1.names,x.2=.free->x.1∈fr1) (ha2:∀x∈sc2.names,x.2=.free->x.1∈fr2) (hdb:(x==("__debug__":Str))=ξ:=by decide)
  (s0:qa7 [e0,.Name n1 p1,.Name n2 p2] X.env=(ξ,eval e0 X.env)::qa7 [.Name n1 p1,.Name n2 p2] X.env:=by rfl) (s1:qa7 [.Name n1 p1,.Name n2 p2] X.env=(ξ,eval (.Name n1 p1) X.env)::qa7 [.Name n2 p2] X.env:=by rfl) (s2:qa7 [.Name n2 p2] X.env=(ξ,eval (.Name n2 p2) X.env)::qa7 [] X.env:=by rfl)
  (hpl:(qj6 pos (qa7 [.Name n1 p1,.Name n2 p2] X.env)).any (·.1)=ξ:=by rfl) :
  PE X (.Call (.Name x p) [e0,.Name n1 p1,.Name n2 p2] [] pos) (tRt X i1 i2 n1 n2 q1 q2 par1 par2 bod1 bod2 sc1 sc2 N1 N2 js1 js2 g1 g2 f0 FR):=by
 obtain⟨f,fd,hm,hk,hb,FF⟩:=F.ex;intro J1 s σ H Q I h;refine(wP FF hr hg hm hk hb hfn (di h0 (di hv1 (di hv2 fX s2) s1) s0) hdb s0 hpl) J1 s σ H Q I ?_;obtain⟨Φ,δ,F,f1,f2,d0,U,O,t,hK,en,⟨v1,v2,hne,fi1,fi2⟩,hf0,hc1,hc2,hrun,kq⟩:=h;refine⟨Φ,δ,F,d0,hK,en,hf0,fun v H1 F1 st r1=>⟨.ref f1,v1,.ref f2,v2,fun H' pc=>?_⟩⟩
 have up1:∀b o,H1 b=ς o->H' b=ς o:=fun b o z=>by rw[pc.out b fun y=>by rw[pc.fre b y]at z;cases z];exact z
 have up:∀b o u,H b=ς (.frz o u)->H' b=ς (.frz o u):=fun b o u z=>up1 _ _ (st.hh _ _ z)
 obtain⟨fs1,rc1,hl1,hs1⟩:=lb en hc1;obtain⟨fs2,rc2,hl2,hs2⟩:=lb en hc2;rw[hK]at rc1 rc2;have q:∀x,X.env.kindOf x=ς .cell->∃c,X.env.cells.lookup x=ς c:=fun x hx=>I.ok.has x (.inl hx)
 obtain⟨c1',doc1,pm1,ctv1,fo1,uf1,C1⟩:=D1.at I.ok.inj q pc (fi1.up up) hl1 hs1 ha1
 obtain⟨c2',doc2,pm2,ctv2,fo2,uf2,C2⟩:=Y.at I.ok.inj q pc (fi2.up up) hl2 hs2 ha2
 refine⟨uM f1 f2 F1 (kh N1.length g1 U) (kh N2.length g2 O),F1,d0,f1,f2,t,v,fun f F0 ds t Z=>?_,fun b o z=>up1 b o (st.fh b o z),rfl,r1,hrun F1,fun v' H2 F2 S st2 o hs _=>KO.hide st.fh pc (kq.step st) v' H2 F2 S st2 o hs⟩;unfold uM at Z;split at Z
 .rename_i hh;obtain⟨rfl,rfl,hd⟩:=hh;refine⟨⟨fo1,uf1,_,C1.fn,C1.dat⟩,fun A outer s H2 F2 us vs Q2 W hp e0 h0 fh r rd L=>?_⟩;exact sH D1.S D1.ndn C1 (rc1.same st.ff) (fun s us hu=>D1.bd s _ _ _ _ _ us hu) (fun A outer s H hr=>D1.body _ _ _ A outer s H hr) (by rw[hd,D1.one]) Z A outer s H2 F2 us vs Q2 W hp e0 h0 fh r rd L
 .split at Z
  .rename_i hh;obtain⟨rfl,rfl,hd⟩:=hh;refine⟨⟨fo2,uf2,_,C2.fn,C2.dat⟩,fun A outer s H2 F2 us vs Q2 W hp e0 h0 fh r rd L=>?_⟩;exact sH Y.S Y.ndn C2 (rc2.same st.ff) (fun s us hu=>Y.bd s _ _ _ _ _ us hu) (fun A outer s H hr=>Y.body _ _ _ A outer s H hr) (by rw[hd,Y.one]) Z A outer s H2 F2 us vs Q2 W hp e0 h0 fh r rd L
  .cases Z
end
def sQ(i:Nat)(name qual:Str)(params:qj2)(body:η Jb)(scope:Jd)(clos:η (Str×J9)):TS:=fun D σ H=>∀(f c':J9)(doc pm ctv:Vz)(H':Hp),MadeH H H' f c' qual {cls:=.type "function",data:=.func (xG9 name qual params body scope clos .none .none doc pm ψ (.ref c') ctv)}->D.nx (σ.set i (ς (.ref f))) H'
section
variable{X:Cx}{c P:J9}{qs:η ((Nat×Nat)×Str)}{name qual:Str}{params:qj2}{body:η Jb}{scope:Jd}{clos:η (Str×J9)}{pos:Pos}{i:Nat}
theorem Ad (hN:X.N.Nodup) (hi:X.N[i]?=ς name) (hx:Loc X.env.scope name) (U:X.fn name=θ∨X.env.scope.names.lookup name=ς .local) (B:TabB X.mg X.base c P) (L:X.env.code=.ref c) (hT:(P,qs)∈dD X.K) (O:qualnameIn X.env name name=qual) (hq:((pos.line,pos.col),qual)∈qs) (W:∀ q,((pos.line,pos.col),q)∈qs->q=qual) (Y:zg0 scope X.env=pure clos)
  (hd0:params.defaults=[]) (Z:params.kw_defaults=[]) (ha:annTrees params ψ X.env=[]):PS X (.FunctionDef name params body [] ψ [] scope ψ name pos) (sQ i name qual params body scope clos):=fun J1 s σ H D I h=>
 CT hN hi hx U B L O hq W Y hd0 Z ha J1 s σ H D I ⟨I.base.cts _ _ (I.ok.tb _ hT),h⟩
end
section
variable{X:Cx}{e0:Jc}{pos:Pos}{n1 n2 q1 q2:Str}{par1 par2:qj2}{bod1 bod2:η Jb}{sc1 sc2:Jd}{N1 N2:η Str}{js1 js2:η Nat}{g1 g2:De->ζ Out}{i1 i2:Nat}{FR:Orc->Dt->J9->J9->Hp->ζ T}{f0:De->ζ Dt}{K:xA9}
def tG2(X:Cx)(i1 i2:Nat)(n1 n2 q1 q2:Str)(par1 par2:qj2)(bod1 bod2:η Jb)(sc1 sc2:Jd)(g:De->ζ Out):TS:=fun D σ H=>∃ Φ δ F f1 f2 o,Fm.K Φ=X.K/\En Φ δ σ F H/\wQ X i1 i2 n1 n2 q1 q2 par1 par2 bod1 bod2 sc1 sc2 σ H f1 f2/\g δ=ς o/\Post Φ D o
def En.clear{F:Hp}(e:En Φ δ σ F H)(i:Nat)(v:V):En Φ (δ.set i ψ) (σ.set i (ς v)) F H:=by
 obtain⟨S,s⟩:=e.sep;refine⟨e.fh,e.prot,e.old,e.nw,by simp[e.len],fun j t h=>?_,S,fun j t u h=>?_,s.out,s.dis⟩
 .rcases dQ h with ⟨_,z⟩|⟨q,z⟩
  .cases z
  .obtain⟨w,L⟩:=e.has j t z;exact⟨w,by rw[gN q];exact L⟩
 .obtain⟨h1,h2⟩:=dY h;rcases dQ h1 with ⟨_,z⟩|⟨q,z⟩
  .cases z
  .rw[gN q]at h2;exact s.own j t u (cq z h2)
def qR(i1 i2:Nat)(δ:De):De:=(δ.set i1 ψ).set i2 ψ
def wR{ss:η Jb}{g:De->ζ Out}(hne:i1≠i2)(Z:∀ σ:St,σ.length=X.N.length->i1<σ.length/\i2<σ.length)
 (h1:PS X (.FunctionDef n1 par1 bod1 [] ψ [] sc1 ψ n1 p1) (sQ i1 n1 q1 par1 bod1 sc1 (fZ sc1.names X.env.cells))) (h2:PS X (.FunctionDef n2 par2 bod2 [] ψ [] sc2 ψ n2 p2) (sQ i2 n2 q2 par2 bod2 sc2 (fZ sc2.names X.env.cells)))
 (hs:PSs X ss (tG2 X i1 i2 n1 n2 q1 q2 par1 par2 bod1 bod2 sc1 sc2 g)) :
  DS X (.FunctionDef n1 par1 bod1 [] ψ [] sc1 ψ n1 p1::.FunctionDef n2 par2 bod2 [] ψ [] sc2 ψ n2 p2::ss) fun δ=>g (qR i1 i2 δ):=by
 intro J1 s σ H D I h;refine iN h1 (iN h2 hs) J1 s σ H D I ?_;obtain⟨Φ,δ,F,o,hK,en,hg,k⟩:=h;obtain⟨l1,l2⟩:=Z σ I.len;intro f1 c1 W pm1 U H1 Y f2 c2 O pm2 L H2 q
 have hf:f1≠f2:=fun z=>by have:=q.free;rw[<- z,Y.fn]at this;cases this
 have sm:Same H H2:=fun b o e=>q.old b o (Y.old b o e)
 refine⟨Φ,qR i1 i2 δ,F,f1,f2,o,hK,((en.step ⟨sm,Same.refl _,en.fh.trans sm,fun _ _ e=>.inl e⟩).clear i1 (.ref f1)).clear i2 (.ref f2),⟨?_,?_,hf,?_,?_⟩,hg,k⟩
 .rw[gN (qq5 hne)];exact qf6 l1
 .exact qf6 (by simpa using l2)
 .obtain⟨oc,hc⟩:=Y.cod;exact⟨_,_,c1,W,pm1,U,q.old _ _ Y.fn,rfl,oc,q.old _ _ hc⟩
 .obtain⟨oc,hc⟩:=q.cod;exact⟨_,_,c2,O,pm2,L,q.fn,rfl,oc,hc⟩
def Dc(N1 N2:η Str)(g1 g2:De->ζ Out)(FR:Orc->Dt->J9->J9->Hp->ζ T)(d0:Dt)(q L:η Dt)(r:T):Prop:=∀f1 f2 F0,f1≠f2->FR (uM f1 f2 F0 (kh N1.length g1 q) (kh N2.length g2 L)) d0 f1 f2 F0=ς r
open Classical in
def fRt(js1 js2:η Nat)(N1 N2:η Str)(g1 g2:De->ζ Out)(f0:De->ζ Dt)(FR:Orc->Dt->J9->J9->Hp->ζ T):De->ζ T:=fun δ=>(f0 δ).bind fun d=>(gd δ js1).bind fun a=>(gd δ js2).bind fun b=>if h:∃r,Dc N1 N2 g1 g2 FR d a b r then ς h.choose else ψ
def Df{d0:Dt}{a b:η Dt}{r:T}(L:f0 δ=ς d0)(O:gd δ js1=ς a)(U:gd δ js2=ς b)(h:Dc N1 N2 g1 g2 FR d0 a b r):fRt js1 js2 N1 N2 g1 g2 f0 FR δ=ς r:=by
 have q:∃r,Dc N1 N2 g1 g2 FR d0 a b r:=⟨r,h⟩
 have e:q.choose=r:=by have h1:=q.choose_spec 0 1 (fun _=>ψ) Ω;have h2:=h 0 1 (fun _=>ψ) Ω;exact qd9 (h1.symm.trans h2)
 unfold fRt;rw[L,O,U];simp only[qa3];rw[dif_pos q,e]
def Dg {F:Hp} {t:T} {Q:VK} (q:Φ.K=X.K) (W:En Φ δ σ F H) (fs:wQ X i1 i2 n1 n2 q1 q2 par1 par2 bod1 bod2 sc1 sc2 σ H f1 f2) (h:fRt js1 js2 N1 N2 g1 g2 f0 FR δ=ς t) (k:KO X.K F H t Q) :
  tRt X i1 i2 n1 n2 q1 q2 par1 par2 bod1 bod2 sc1 sc2 N1 N2 js1 js2 g1 g2 f0 FR σ H Q:=by
 unfold fRt at h;obtain⟨d0,L,h⟩:=bS h;obtain⟨a,O,h⟩:=bS h;obtain⟨b,U,h⟩:=bS h;split at h
 .rename_i Y;cases h;exact⟨Φ,δ,F,f1,f2,d0,a,b,_,q,W,fs,L,O,U,fun F0=>Y.choose_spec f1 f2 F0 fs.2.2.1,k⟩
 .cases h
theorem Ae(h:eC sc N i x=θ)(W:jC sc x=θ)(nd:N.Nodup)(U:PE X e (tRt X i1 i2 n1 n2 q1 q2 par1 par2 bod1 bod2 sc1 sc2 N1 N2 js1 js2 g1 g2 f0 FR))(e1:cu X sc:=by rfl)(e2:X.N=N:=by rfl)(hf:X.fn x=θ∨X.env.scope.names.lookup x=ς .local:=by exact .inl rfl)
 (q:qo5 e (ς (.Name x pos')) pos.line X.env=pure ξ:=by rfl):PS X (.Assign [.Name x pos'] e pos) (tG2 X i1 i2 n1 n2 q1 q2 par1 par2 bod1 bod2 sc1 sc2 (ap i (fRt js1 js2 N1 N2 g1 g2 f0 FR))):=PS.mono (sA h W nd U e1 e2 hf q) fun D σ H ⟨Φ,δ,F,f1,f2,o,L,O,fs,Z,k⟩=>by
 obtain⟨t,Y,rfl⟩:=mS Z;exact Dg L O fs Y fun v H' F' S st o q=>k _ F' H' (O.put st (L▸o) q i)
theorem wS{rest:η Jb}{W Y:De->ζ Out}(h1:PS X st (tG2 X i1 i2 n1 n2 q1 q2 par1 par2 bod1 bod2 sc1 sc2 W))(h2:DS X rest Y):PSs X (st::rest) (tG2 X i1 i2 n1 n2 q1 q2 par1 par2 bod1 bod2 sc1 sc2 (ai W Y)):=PSs.mono (iN h1 h2) fun D σ H ⟨Φ,δ,F,f1,f2,o,U,en,fs,q,k⟩=>by
 unfold ai at q;obtain⟨Z,h1,q⟩:=bS q;refine⟨Φ,δ,F,f1,f2,Z,U,en,fs,h1,?_⟩;cases Z with
 |nx L=>exact fun σ' F' H' O=>⟨Φ,L,F',o,U,O,q,k⟩
 |rt t=>cases q;exact k
 |bk L=>cases q;exact k
 |ct L=>cases q;exact k
end
def qS(mg:Str->ζ Vz)(base:Heap):Prop:=∃q ob,mg "__builtins__"=ς (.ref q)/\q≠qw1/\base.get? q=ς ob/\ob.cls=.type "module"/\ob.dict=ς qw1/\ob.data=.plain
def TabB.mk'{base:Heap}{c P:J9}(q:K.In base)(h:xK9 K c P=θ)(b:qS mg base):TabB mg base c P:=⟨xS9 q h,b⟩
def sU(H:Hp):Prop:=∀b,H b=ψ∨(∃o xs,H b=ς (.frz o (.e xs)))∨∃qs,H b=ς (.ctab qs)
def ix(K:xA9):Hp:=fun b=>((dD K).find? fun p=>p.1==b).map fun p=>.ctab p.2
def gh{b:J9}{u:HO}(h:ix K b=ς u):∃p∈dD K,p.1=b/\u=.ctab p.2:=by obtain⟨p,hp,rfl⟩:=mS h;exact⟨p,qz1 hp,by simpa using List.find?_some hp,rfl⟩
def wT(L:∀p∈dD K,∀q∈dD K,p.1=q.1->p=q){p:J9×η ((Nat×Nat)×Str)}(hp:p∈dD K):ix K p.1=ς (.ctab p.2):=by
 unfold ix;cases q:(dD K).find? fun x=>x.1==p.1 with
 |none=>have:=List.find?_eq_none.mp q p hp;simp at this
 |some r=>
  have h1:r.1=p.1:=by simpa using List.find?_some q
  rw[L r (qz1 q) p hp h1];rfl
def TabsIn(K:xA9)(h:Heap):Prop:=(∀p∈dD K,K.lookup p.1=ψ/\(∃c,xN9 h c p.1)/\h.get? p.1=ς (xJ9 #[]))/\∀p∈dD K,∀q∈dD K,p.1=q.1->p=q
def uO{mb:Str->ζ Vz}{CX:CXT}{k:Nat}{fa:J9}{fd:qp9}{sp:Sp}{s₁:qa5}{vs:η Vz}{ns:η Int}
 (KX:K.In s₁.heap) (hns:s₁.heap.Ns qc3 mg) (U:s₁.heap.Ns qw1 mb) (hbb:∀x:Str,x≠"__name__"->mb x=qd7 x) (hlim:s₁.heap.NoLimit) (hg:s₁.gens=#[]) (hbm:qS mg s₁.heap) (hT:TabsIn K s₁.heap)
 (ha:s₁.heap.get? a=ς {cls:=.type "list",data:=.seq vs.toArray}) (hi:zh0 vs ns) (hl:ns.length<=qb2) (hr:Room k zi9)
 (F:∀base:Heap,K.In base->base.Ns qc3 mg->qS mg base->FnOk P w K mg base CX k fa fd [x] sp) (hbind:∀(s:qa5)(u:Vz),za9 s fd ⟨[u],[]⟩ [(x,u)])
 (hsp:∀H:Hp,sU H->SqL K H a (ns.map V.int)->sp [.ref a] H (fun v _=>v=.bl θ) fun _ _ _=>False)
 (hCX:∀H e s',CX [] H s₁ (fun _ _ _=>False) e s'->False) :
  qq6 (model P w) zi9 (.call (.ref fa) ⟨[.ref a],[]⟩) (fun r s'=>r=.ok (.ret (.bool θ))/\OldK s₁.heap s'.heap/\s'.os=s₁.os/\zd7 s'.gens) s₁:=by
 have rv:=mz hi;have lenV:=hi.length;obtain⟨hT,hnd⟩:=hT
 have tb:∀{b:J9}{u:HO},ix K b=ς u->s₁.heap.get? b=ς (xJ9 #[])/\K.lookup b=ψ/\∃c,xN9 s₁.heap c b:=fun {b u} e=>by obtain⟨p,hp,rfl,_⟩:=gh e;obtain⟨h1,h2,h3⟩:=hT p hp;exact⟨h3,h1,h2⟩
 have taN:ix K a=ψ:=by
  cases q:ix K a with
  |none=>rfl
  |some u=>have:=(tb q).1;rw[ha]at this;cases this
 -- H: the script,if it is ψ of the module's own,and the tables
 have Z:∀ H:Hp,SqL K H a (ns.map V.int)->(∀ b,b≠a->H b=ix K b)->(H a=ψ∨(K.lookup a=ψ/\H a=ς (.frz {cls:=.type "list",data:=.seq vs.toArray} (.e (ns.map V.int)))))→
     qq6 (model P w) zi9 (.call (.ref fa) ⟨[.ref a],[]⟩) (fun r s'=>r=.ok (.ret (.bool θ))/\OldK s₁.heap s'.heap/\s'.os=s₁.os/\zd7 s'.gens) s₁:=by
  intro H hS hH hA
  have O:∀{b:J9}{u:HO},H b=ς u->(b=a/\K.lookup a=ψ/\u=.frz {cls:=.type "list",data:=.seq vs.toArray} (.e (ns.map V.int)))∨(b≠a/\ix K b=ς u):=fun {b u} e=>by
   by_cases U:b=a
   .subst U;rcases hA with z|⟨z1,z2⟩
    .rw[z]at e;cases e
    .rw[z2]at e;cases e;exact .inl ⟨rfl,z1,rfl⟩
   .rw[hH b U]at e;exact .inr ⟨U,e⟩
  have hO:sU H:=fun b=>by
   cases q:H b with
   |none=>exact .inl rfl
   |some u=>
    rcases O q with ⟨_,_,rfl⟩|⟨_,z⟩
    .exact .inr (.inl ⟨_,_,rfl⟩)
    .obtain⟨p,_,_,rfl⟩:=gh z;exact .inr (.inr ⟨_,rfl⟩)
  have hok:HOk P w H s₁.heap:=fun b u e=>by
   rcases O e with ⟨rfl,_,rfl⟩|⟨_,z⟩
   .exact⟨ha,by rw[qa1];exact hl,vs,_,rv,ha⟩
   .obtain⟨p,_,_,rfl⟩:=gh z;refine⟨#[],(tb z).1,trivial,fun pos q v _ h=>?_⟩;cases h
  have L:∀{b:J9}{o:Obj},s₁.heap.get? b=ς o->H b=ψ->(l6 s₁.heap H).get? b=ς o:=fun e n=>vw e n
  have noH:∀{b:J9}{o:Obj},s₁.heap.get? b=ς o->o.data≠.seq vs.toArray->o≠xJ9 #[]->H b=ψ:=fun {b o} e d1 d2=>by
   cases q:H b with
   |none=>rfl
   |some u=>
    rcases O q with ⟨rfl,_,rfl⟩|⟨_,z⟩
    .rw[ha]at e;cases e;exact absurd rfl d1
    .have:=(tb z).1;rw[e]at this;cases this;exact absurd rfl d2
  have Y:∀{b:J9}{m:Str->ζ Vz},s₁.heap.Ns b m->(l6 s₁.heap H).Ns b m:=fun {b m}⟨o,es,ep,e,d,r⟩=>⟨o,es,ep,L e (noH e (by rw[d];intro z;cases z) (fun z=>by rw[z]at d;cases d)),d,r⟩
  have hKb:K.In (l6 s₁.heap H):=fun b o e=>L (KX b o e) (by
   cases q:H b with
   |none=>rfl
   |some u=>
    rcases O q with ⟨rfl,z,_⟩|⟨_,z⟩
    .rw[z]at e;cases e
    .rw[(tb z).2.1]at e;cases e)
  have hbmB:qS mg (l6 s₁.heap H):=by obtain⟨bm,ob,b1,b2,b3,b4,b5,b6⟩:=hbm;exact⟨bm,ob,b1,b2,L b3 (noH b3 (by rw[b6];intro z;cases z) fun z=>by rw[z]at b4;cases b4),b4,b5,b6⟩
  have hM:Mod K mg (l6 s₁.heap H):=⟨hKb,Y hns,⟨mb,Y U,hbb⟩,let ⟨mc,h1,h2⟩:=hlim;⟨mc,Y h1,h2⟩⟩
  have e0:Env0 P w K mg (l6 s₁.heap H) zi9 [] s₁ H:=⟨rfl,hM,fun b o e=>zd e,Nat.le_of_eq (ue _ _),trivial,fun b U=>absurd (show b∈([]:η J9)from U) Ξ,hok,.of_eq hg,fun p hp=>by have h:=wT hnd hp;rw[hH p.1 fun z=>by rw[z,taN]at h;cases h];exact h⟩
  refine qr9 ((F _ hKb (Y hns) hbmB).run zi9 [] s₁ H ⟨[.ref a],[]⟩ [.ref a] [.ref a] _ _ hr e0 (hbind s₁ (.ref a)) (.cons rfl .nil) (hsp H hO hS)) fun r s' h=>?_
  cases r with
  |error e=>exact(hCX H e s' h).elim
  |ok fl=>
   cases fl with
   |next=>exact qg9 h
   |brk=>exact qg9 h
   |cont=>exact qg9 h
   |ret u=>
    obtain⟨v,H',os,bare,un,hok',r',q⟩:=h;have q':v=.bl θ:=q;subst q';obtain rfl:u=qr7 θ:=r';refine⟨rfl,⟨fun b o e=>?_,fun b o e=>un.there b o e Ξ⟩,os,bare⟩;cases q:H b with
    |none=>exact .inl (un.keep b o e q (by intro z;exact absurd (show b∈([]:η J9)from z) Ξ) Ξ)
    |some u=>
     rcases O q with ⟨rfl,_,rfl⟩|⟨_,z⟩
     .have z2:=un.frzs b _ _ q;obtain⟨e1,_⟩:=hok b _ q;obtain⟨e2,_⟩:=hok' b _ z2;rw[e]at e1;cases e1
      exact .inl e2
     .obtain⟨g1,_,c,g2⟩:=tb z;obtain⟨p,_,_,rfl⟩:=gh z;obtain⟨ps,g3,_⟩:=hok' b _ (un.cts b _ q);rw[e]at g1;cases g1;refine .inr (.inl ⟨(g2.tab e).isCodeTable,rfl,#[],ps,rfl,?_⟩);rw[g3];simp[xJ9]
 cases hk:K.lookup a with
 |some o=>have e:=KX a o hk;rw[ha]at e;cases e;exact Z (ix K) (.inr ⟨_,vs.toArray,_,hk,rfl,rfl,rfl,by rw[qb7,lenV];exact hl,by simpa using rv⟩) (fun _ _=>rfl) (.inl taN)
 |none=>exact Z (fun b=>if b=a then ς (.frz {cls:=.type "list",data:=.seq vs.toArray} (.e (ns.map V.int)))else ix K b) (.inl (.inr ⟨{cls:=.type "list",data:=.seq vs.toArray},if_pos rfl⟩)) (fun b U=>if_neg U) (.inr ⟨hk,if_pos rfl⟩)
def Fd{l:xT9}{k:Nat}{q:qd1}{loose:η Str}{XP:(Str->ζ Vz)->Heap->Prop}{YP:Ja->Heap->Prop}{d:DefRec}{K:Params->xA9}{CX:Ja->CXT}{sp:Ja->Sp} 
 (hn:l.most=ς n) (hn2:n<=qb2) (hdf:d.params.defaults=[]) (hr:Room k zi9)
 (hY:∀(w:Ja)(h:Heap),YP w h->(K w.params).In h) (hT:∀(w:Ja)(h:Heap),YP w h->TabsIn (K w.params) h)
 (F:∀(w:Ja)(mg:Str->ζ Vz)(fa:J9)(h:Heap),(K w.params).In h->h.Ns qc3 mg->mg d.name=ς (.ref fa)→
 ∃fd:qp9,(∀(s:qa5)(u:Vz),za9 s fd ⟨[u],[]⟩ [(x,u)])∧
 ∀base:Heap,(K w.params).In base->base.Ns qc3 mg->qS mg base->FnOk l.prog w (K w.params) mg base (CX w) k fa fd [x] (sp w))
 (hsp:∀(w:Ja)(H:Hp)(a:J9)(ns:η Int),ns.length<=n->sU H->SqL (K w.params) H a (ns.map V.int)->sp w [.ref a] H (fun v _=>v=.bl θ) fun _ _ _=>False)
 (hCX:∀(w:Ja)(H:Hp)(s:qa5)(e:Vz)(s':qa5),CX w [] H s (fun _ _ _=>False) e s'->False) :
  PySem.W.WalkO q loose XP YP l.row.toRowW d [] (fun f vs=>PySem.call f vs):=by
 refine Att.Bb hn hdf fun w s₀ Z mg mb fa o pm cd doc a vs ns G Y ho hd hcd hmg U O L hg=>?_
 have KX:=hY w _ Y;obtain⟨fd,hb,hF⟩:=F w mg fa _ KX G.T.g hmg;exact uO KX G.T.g G.T.b G.T.builtins G.T.nolimit hg G.T.bmain (hT w _ Y) U O (qb9 L hn2) hr hF hb (fun H hO hS=>hsp w H a ns L hO hS) fun H e s'=>hCX w H Z e s'
def Af(lo st:Int)(n:Nat):It:=⟨fun i _=>i<n,fun i H x H'=>H'=H/\x=.int (lo+i*st),fun i _=>n<=i⟩
def pD{w:Ja}{tg:Jc}(it:J9)(lo st:Int)(n:Nat):Turn P w K tg (Af lo st n) [it] it (fun i h=>zg9 h it (lo+(i:Nat)*st) ((n:Int)-(i:Nat)) st) where
 mem:=by simp
 obj:=fun i h q b L=>by
  have e:b=it:=by simpa using L
  subst e
  exact⟨_,q,fun v z=>by have z':Data.fields _=Data.cell v:=z;cases z'⟩
 keep:=fun i h h' q k=>k it Ξ _ q
 item:=by
  intro X hP Z U Y i J1 s σ H E I O q hg;subst hP Z U;obtain⟨f0,f1,f2,f3,f4,f5⟩:=O it Ξ;have W:=Walks.range (prog:=X.prog) (w:=X.w) (I.ok.hd Y) it lo st n;refine W.item i s _ _ hg q fun v h' tk hv q' kk=>?_
  obtain⟨t,rfl⟩:=hv;have I1:Inv X J1 σ H {s with heap:=h',toks:=tk}:=I.turned (fun b o L e=>kk b o (by simpa using L) e) f0 f1 f3 f4 f5;exact⟨_,rfl,mn (s:={s with heap:=h',toks:=tk}) (n:="range_iterator") q' rfl rfl Ω ⟨.int (lo+i*st),H,I1,⟨t,rfl⟩,⟨rfl,rfl⟩,q',fun b L=>(O b L).1⟩⟩
 done:=by intro X hP Z U Y i J1 s σ H E I O q hg;subst hP Z U;obtain⟨f0,f1,f2,f3,f4,f5⟩:=O it Ξ;exact zc7 (I.ok.hd Y) q (by have:n<=i:=hg;lia) fun h' eb=>⟨rfl,I.turned (t':=s.toks) (fun b o L e=>eb b o L e) f0 f1 f3 f4 f5⟩
 self:=fun _ _ _ _ _ q h=>zc8 q h
noncomputable def wU(a b c:Int):Bool:=decide (-1000000<=a)&&decide (a<=1000000)&&decide (-1000000<=b)&&decide (b<=1000000)&&decide (-1000000<=c)&&decide (c<=1000000)&&decide (c≠0)
structure R3(a b c:Int):Prop where
 a0:-1000000<=a
 a1:a<=1000000
 b0:-1000000<=b
 b1:b<=1000000
 c0:-1000000<=c
 c1:c<=1000000
 c:c≠0
variable{c:Int}
def Fe{a b:Int}(h:wU a b c=θ):R3 a b c:=by unfold wU at h;simp only[qb3,decide_eq_true_eq]at h;obtain⟨⟨⟨⟨⟨⟨h1,h2⟩,h3⟩,O⟩,q⟩,U⟩,L⟩:=h;exact⟨h1,h2,h3,O,q,U,L⟩
def R3.size{a b:Int}(h:R3 a b c):0<=qd3 a b c/\qd3 a b c<=2000001:=by
 obtain⟨h1,h2,h3,Y,O,Z,U⟩:=h;unfold qd3;split
 .rename_i W;split
  .have L:0<=(b-a-1)/c:=Int.ediv_nonneg Θ Θ;have q:(b-a-1)/c<=b-a-1:=Int.ediv_le_self _ Θ;lia
  .lia
 .split
  .have L:0<=(a-b-1) / -c:=Int.ediv_nonneg Θ Θ;have q:(a-b-1) / -c<=a-b-1:=Int.ediv_le_self _ Θ;lia
  .lia
def fits{a:Int}(q:-9000000<=a)(h1:a<=9000000):qx4 a=θ:=by unfold qx4;simp;lia
def R3.small{a b:Int}(h:R3 a b c):qj4.Range.small a b c=θ:=by
 have q:=h.size;obtain⟨h1,h2,h3,U,L,W,O⟩:=h;unfold qj4.Range.small;rw[fits (a:=a) Θ Θ,fits (a:=b) Θ Θ,fits (a:=c) Θ Θ,fits (a:=qd3 a b c) Θ Θ];simp only[qv7,qi9,qi8];right;split
 .exact fits Θ Θ
 .exact fits Θ Θ
section
variable{X:Cx}{tg:Jc}
def uP{R:It->Hp->Prop}{a b:Int}{t u v:Tok}{tk:Nat}(I:Inv X J1 σ H s)(h:R3 a b c)
 (q:R (Af a c (qd3 a b c).toNat) H):wpAny (model X.prog X.w) X.A (zj2 (.ref s.heap.objs.size)) (PIE X J1 σ tg R) E {s with heap:=s.heap.push {cls:=.type "range",data:=.fields #[.int a t,.int b u,.int c v]},toks:=tk}:=by
 refine wpAny_pyIter_range (IsRange.new ..) h.small ?_;have L:Inv X J1 σ H {s with heap:=s.heap.push {cls:=.type "range",data:=.fields #[.int a t,.int b u,.int c v]},toks:=tk}:=I.kept fun b o e=>gP _ e
 refine⟨(s.heap.push {cls:=.type "range",data:=.fields #[.int a t,.int b u,.int c v]}).objs.size,[(s.heap.push {cls:=.type "range",data:=.fields #[.int a t,.int b u,.int c v]}).objs.size],_,_,H,rfl,L.kept (t':=tk) fun b o e=>gP _ e,pD _ a c (qd3 a b c).toNat,?_,fun bb O=>?_,q⟩
 .have W:a+((0:Nat):Int)*c=a:=by simp
  have U:(((qd3 a b c).toNat:Nat):Int)-((0:Nat):Int)=qd3 a b c:=by have:=h.size;lia
  show zg9 _ _ (a+((0:Nat):Int)*c) ((((qd3 a b c).toNat:Nat):Int)-((0:Nat):Int)) c;rw[W,U];exact qa9 _ rfl
 .have e:bb=(s.heap.push {cls:=.type "range",data:=.fields #[.int a t,.int b u,.int c v]}).objs.size:=by simpa using O
  subst e;exact L.fpOk (nL _) (L.hok.fresh (nL _))
def Ff(ta:TA):TI:=fun σ H R=>ta σ H fun vs H1=>∃a b c:Int,vs=[.int a,.int b,.int c]/\R3 a b c/\R (Af a c (qd3 a b c).toNat) H1
def uQ {a b c:Jc} {p:Pos} (hg:Gl X "range") (hm:X.mg "range"=ψ) (ha:PA X [a,b,c] ta) (Z:qa7 [a,b,c] X.env=[(ξ,eval a X.env),(ξ,eval b X.env),(ξ,eval c X.env)]:=by rfl) (O:qa7 [b,c] X.env=[(ξ,eval b X.env),(ξ,eval c X.env)]:=by rfl) :
  PI X tg (.Call (.Name "range" p) [a,b,c] [] pos) (Ff ta):=by
 intro J1 s σ H R I h;refine Call_ (fW I hg hm boot_range (qf9 (thn (ha pos J1 s σ H _ I h) fun us s1 ⟨vs,H1,Y,r1,q1⟩=>?_) (by rw[Z,O]) (by rw[O];rfl)));obtain⟨i,j,k,e,U,q⟩:=q1;subst e;cases r1 with
 |cons r L=>
  cases L with
  |cons r' L=>
   cases L with
   |cons W L=>cases L;obtain⟨t,rfl⟩:=r;obtain⟨t',rfl⟩:=r';obtain⟨t'',rfl⟩:=W;refine call_range_3 U.c (uP Y U q) (.inl (PyProof.noPylong_small ?_));have:=U.c0;have:=U.c1;lia
noncomputable def i8(lo st:Int)(n:Nat):η V:=(qd0 n).map fun(i:Nat)=>V.int (lo+i*st)
def plain_rangeS{lo st:Int}:Plain (Af lo st n) (i8 lo st n) (fun _=>True):=fun i H h=>by
 refine⟨fun hi=>?_,fun e=>?_,fun x H' hi y=>?_⟩
 .show i<n;simpa[i8] using hi
 .show n<=i;simp[i8]at e;lia
 .obtain⟨e,rfl⟩:=y;refine⟨e,?_⟩;unfold i8 at hi ⊢;rw[qa1,qn5]at hi;rw[qb1,List.getElem?_range hi];rfl
noncomputable def qT(lo st:Int)(n:Nat):η Dt:=(qd0 n).map fun(i:Nat)=>.int (lo+i*st)
def pE{F:Hp}(lo st:Int)(n:Nat):Reps K F (qT lo st n) (i8 lo st n):=Reps.map (fun _=>f7) _
def uR:η Dt->ζ (η Dt)
 |[.int a,.int b,.int c]=>if wU a b c then ς (qT a c (qd3 a b c).toNat)else ψ
 |_=>ψ
variable{p pos:Pos}{sc:Jd}{x y z:Jc}{fs:De->ζ (η Dt)}
def uS (h:aM sc "range"=θ) (hm:X.mg "range"=ψ) (ha:DA X [x,y,z] fs) (e1:cu X sc:=by rfl) (Y:qa7 [x,y,z] X.env=[(ξ,eval x X.env),(ξ,eval y X.env),(ξ,eval z X.env)]:=by rfl) (L:qa7 [y,z] X.env=[(ξ,eval y X.env),(ξ,eval z X.env)]:=by rfl) :
  DIF X tg (.Call (.Name "range" p) [x,y,z] [] pos) (da uR fs):=
 PI.mono (uQ (glD h e1) hm ha.pa Y L) fun σ H R ⟨Φ,δ,F,ds,Z,en,q,k⟩=>by
  unfold da at q;obtain⟨O,W,q⟩:=bS q;refine⟨Φ,δ,F,O,Z,en,W,fun vs H' F' st r=>?_⟩;unfold uR at q;split at q
  .rename_i i j l;split at q
   .rename_i U;cases q;simp only[Reps,Rep]at r;obtain⟨v,ws,rfl,rfl,w,us,rfl,rfl,w',us',rfl,rfl,rfl⟩:=r;exact⟨i,j,l,rfl,Fe U,k _ _ H' F' st (plain_rangeS.walk (pE _ _ _)) fun _ _=>trivial⟩
   .cases q
  .cases q
end
theorem sV:∀a b:η Nat,ltCps a b=ξ->ltCps b a=ξ->a=b
 |[],[],_,_=>rfl
 |[],_::_,h,_=>by simp[ltCps]at h
 |_::_,[],_,h=>by simp[ltCps]at h
 |x::r,y::t,h,h'=>by
  simp only[ltCps,qv5,decide_eq_false_iff_not,qu5,beq_iff_eq]at h h';have e:x=y:=by lia
  subst e;rw[sV r t (h.2 rfl) (h'.2 rfl)]
theorem sW:∀a b:η Nat,ltCps a b=θ->ltCps b a=ξ
 |[],[],h=>by simp[ltCps]at h
 |[],_::_,_=>rfl
 |_::_,[],h=>by simp[ltCps]at h
 |x::r,y::t,h=>by
  simp only[ltCps,qi8,decide_eq_true_eq,qb3,beq_iff_eq]at h;simp only[ltCps,qv5,decide_eq_false_iff_not,qu5,beq_iff_eq];rcases h with h|⟨rfl,h⟩
  .exact⟨Θ,fun e=>Θ⟩
  .exact⟨Θ,fun _=>sW r t h⟩
theorem mQ:∀a b c:η Nat,ltCps b a=ξ->ltCps c b=ξ->ltCps c a=ξ
 |[],b,c,h1,h2=>by
  cases b with
  |nil=>exact h2
  |cons y t=>
   cases c with
   |nil=>simp[ltCps]at h2
   |cons z u=>rfl
 |x::r,[],c,h1,h2=>by simp[ltCps]at h1
 |x::r,y::t,[],h1,h2=>by simp[ltCps]at h2
 |x::r,y::t,z::u,h1,h2=>by
  simp only[ltCps,qv5,decide_eq_false_iff_not,qu5,beq_iff_eq]at h1 h2 ⊢;refine⟨Θ,fun e=>?_⟩;subst e;have e:y=z:=by lia
  subst e;exact mQ r t u (h1.2 rfl) (h2.2 rfl)
def leS(a b:Str):Bool:=!ltCps b.cps.toList a.cps.toList
def leS_iff{a b:Str}:leS a b=θ↔ltCps b.cps.toList a.cps.toList=ξ:=by simp[leS]
def mR(a b c:Str)(h:leS a b=θ)(h':leS b c=θ):leS a c=θ:=leS_iff.mpr (mQ _ _ _ (leS_iff.mp h) (leS_iff.mp h'))
def uT(a b:Str):(leS a b||leS b a)=θ:=by
 cases h:leS a b with
 |true=>rfl
 |false=>
  have h1:ltCps b.cps.toList a.cps.toList=θ:=by simpa[leS] using h
  simp[leS_iff.mpr (sW _ _ h1)]
def pF{a b:Str}(h:leS a b=θ)(h':leS b a=θ):a=b:=by
 have e:=sV _ _ (leS_iff.mp h') (leS_iff.mp h);cases a with
 |mk a=>cases b with
  |mk b=>simp only at e;rw[Array.toList_inj.mp e]
def gA(ss:η Str):η Str:=ss.mergeSort leS
def dL(ss:η Str):(gA ss).Perm ss:=List.mergeSort_perm ss leS
def i9(ss:η Str):(gA ss).Pairwise fun a b=>leS a b=θ:=zb6 mR uT ss
theorem mT:∀(p:Str)(l:η Str),risingS p l=θ->(p::l).Pairwise fun a b=>leS a b=θ
 |p,[],_=>by simp
 |p,x::r,h=>by
  simp only[risingS,qb3]at h;have L:=mT x r h.2;have h1:leS p x=θ:=h.1;refine qh4.mpr ⟨fun y q=>?_,L⟩;rcases qa8.mp q with rfl|q
  .exact h1
  .exact mR _ _ _ h1 ((qh4.mp L).1 y q)
def uU:∀l:η Str,sortedS l=θ->l.Pairwise fun a b=>leS a b=θ
 |[],_=>qq1
 |x::r,h=>mT x r h
theorem jF:∀{a b:η Str},a.Perm b->(a.Pairwise fun a b=>leS a b=θ)->(b.Pairwise fun a b=>leS a b=θ)->a=b
 |[],_,p,_,_=>p.nil_eq
 |x::r,b,p,q,L=>by
  cases b with
  |nil=>exact absurd p.length_eq Ξ
  |cons y t=>
   have O:x∈y::t:=p.mem_iff.mp (.head _);have U:y∈x::r:=p.mem_iff.mpr (.head _)
   have e:x=y:=by
    rcases qa8.mp O with h|h
    .exact h
    .rcases qa8.mp U with h'|h'
     .exact h'.symm
     .exact pF ((qh4.mp q).1 y h') ((qh4.mp L).1 x h)
   subst e;rw[jF (zk5.cons_inv p) (qh4.mp q).2 (qh4.mp L).2]
section
variable{X:Cx}
theorem mU{F:Hp}:∀ss:η Str,Reps K F (ss.map .str) (ss.map V.str)
 |[]=>by simp only[qj9,Reps]
 |x::ss=>by simp only[qa6,Reps];exact⟨_,_,rfl,by simp only[Rep],mU ss⟩
end
def EntA(h:Heap)(d:J9)(ks:η Vz)(ep:Nat):Prop:=∃o es,h.get? d=ς o/\o.ExactDict/\o.data=.dict es ep/\es.toList.map (·.key)=ks
def EntA.upTo{d:J9}{ks:η Vz}(q:EntA h d ks ep)(k:∀o,h.get? d=ς o->h'.get? d=ς o):EntA h' d ks ep:=let ⟨o,es,h1,r⟩:=q;⟨o,es,k o h1,r⟩
def EntA.ty{d:J9}{ks:η Vz}(q:EntA s.heap d ks ep):s.TypeIs (.ref d) "dict":=let ⟨o,_,h1,h2,_⟩:=q;⟨o,h1,h2.1⟩
def EntA.lt{d:J9}{ks:η Vz}(q:EntA h d ks ep):d<h.objs.size:=let ⟨_,_,h1,_⟩:=q;qb0 h1
section
variable{prog:qd1}{w:Ja}{A:qe0}{E:Vz->qa5->Prop}{s:qa5}{d it:J9}{ks:η Vz}{i ep:Nat}
def wV(lo:(d==qj0)=ξ)(q:EntA s.heap d ks ep)
 (k:Q (.ref s.heap.objs.size) {s with heap:=s.heap.push {cls:=.type "dict_keyiterator",data:=.fields #[.ref d,.int 0 0,.int ks.length 0,.int ep 0]}}):wpAny (model prog w) A (zj2 (.ref d)) Q E s:=by
 obtain⟨o,es,O,Y,L,W⟩:=id q;refine za0 q.ty F.slot_dict_iter (qf1 F.slot_dict_iter q.ty F.entry_dict_iter ?_ (F.args_dict_iter_1 _));unfold qj4.«dict.__iter__»;refine wB ?_;unfold qj4.Dict.dictSlotNone;refine wB (wpAny_notOrdered_dict q.ty ?_);show wpAny _ _ (pure (qf3 d)) _ _ s;refine qa2 ?_;show wpAny _ _ (ze9 d >>= _) _ _ s;unfold ze9;rw[if_neg (by rw[lo];exact qb6)];refine wB (qa2 ?_);refine wB (za1 O L (wB (zf0 O L ?_)));have U:es.size=ks.length:=by rw[<- W];simp
 refine wB (qd4 (qa2 ⟨_,rfl,"dict_keyiterator",_,⟨_,qa9 _ rfl,rfl⟩,qi4.lookup,?_⟩));simpa[qf8,U] using k
def wW {key:Vz} {Q:ζ Vz->qa5->Prop} (st:s.heap.IsKeyIter it d i ks.length ep) (q:EntA s.heap d ks ep) (hk:ks[i]?=ς key)
  (k:∀h',h'.IsKeyIter it d (i+1) ks.length ep->qo1 it s.heap h'->Q (ς key) {s with heap:=h'}):wpAny (model prog w) A (qy0 (.ref it)) Q E s:=by
 obtain⟨oi,i1,i2,U⟩:=id st;obtain⟨o,es,e1,e2,Y,Z⟩:=id q;unfold qy0;refine wB (qs7 (qe5 (name:=qa0 "__next__") st.typeIs qi4 (qf1 qi4 st.typeIs qv4 ?_ (qu6 _))));refine wB (qa2 (wB (wB ?_)))
 first|refine wB (qk2 st.typeIs (qa2 ?_))|refine wB (qn6 st.typeIs (qa2 ?_))
 refine wB (qr1 i1 U ?_);have ow:qv9 "dict_keyiterator"=ξ:=by decide
 simp only[ow,qf4,if_false];show wpAny _ _ (if(qf3 d==qh5)=θ then _ else _) _ _ s;rw[if_neg (show ¬ ((qf3 d==qh5)=θ)from qb6)];refine wB (qa2 (wB (za1 e1 Y ?_)));have W:es.size=ks.length:=by rw[<- Z];simp
 rw[if_neg (by rw[W];simp)];refine wB (qa2 (wB (zf0 e1 Y ?_)));rw[if_neg Ξ];refine qa2 ?_;have li:i<es.size:=by rw[W];exact(gX hk).1
 have O:es[i].key=key:=by rw[<- Z,qb1,qp5,qh0 li]at hk;exact qd9 hk
 simp only[show ¬ ((i:Int)<0)from by lia,if_false,qe2,qh0 li];refine wB ?_
 first|refine wB (qk2 st.typeIs (qa2 ?_))|refine wB (qn6 st.typeIs (qa2 ?_))
 refine wB (zf1 st.typeIs ?_);show wpAny _ _ (zb7 (.ref it) 1 (qf8 ((i:Int)+1)) >>= _) _ _ s;refine qh3 (qj7 i1 U Ξ ?_)
 have L:(s.heap.update it (qq3 (·.setIfInBounds 1 (qf8 ((i:Int)+1))))).IsKeyIter it d (i+1) ks.length ep:=⟨_,qe6 _ i1 (qi2 (qe4 U _)),(qq2 ..).trans i2,by rw[qe4 U];simp[qf8]⟩
 refine wB (qi5 (wB (zf1 (s:={s with heap:=s.heap.update it (qq3 (·.setIfInBounds 1 (qf8 ((i:Int)+1))))}) L.typeIs ?_)));show wpAny _ _ (pure es[i].key) _ _ _;rw[O];exact qa2 (qa2 ⟨_,rfl,qa2 (k _ L (qe8 ..))⟩)
def Ag {Q:ζ Vz->qa5->Prop} (Z:A.handled=ψ) (st:s.heap.IsKeyIter it d i ks.length ep) (q:EntA s.heap d ks ep) (hi:i=ks.length)
  (k:∀h',zh4 it s.heap h'->Q ψ {s with heap:=h'}):wpAny (model prog w) A (qy0 (.ref it)) Q E s:=by
 obtain⟨oi,i1,i2,W⟩:=id st;obtain⟨o,es,U,e2,O,Y⟩:=id q;unfold qy0;refine wB (qs7 (qe5 (name:=qa0 "__next__") st.typeIs qi4 (qf1 qi4 st.typeIs qv4 ?_ (qu6 _))));refine wB (qa2 (wB (wB ?_)))
 first|refine wB (qk2 st.typeIs (qa2 ?_))|refine wB (qn6 st.typeIs (qa2 ?_))
 refine wB (qr1 i1 W ?_);have ow:qv9 "dict_keyiterator"=ξ:=by decide
 simp only[ow,qf4,if_false];show wpAny _ _ (if(qf3 d==qh5)=θ then _ else _) _ _ s;rw[if_neg (show ¬ ((qf3 d==qh5)=θ)from qb6)];refine wB (qa2 (wB (za1 U O ?_)));have L:es.size=ks.length:=by rw[<- Y];simp
 rw[if_neg (by rw[L];simp)];refine wB (qa2 (wB (zf0 U O ?_)));rw[if_neg Ξ];refine qa2 ?_;have ge:es.size<=i:=by rw[L];lia
 simp only[show ¬ ((i:Int)<0)from by lia,if_false,qe2,qo8 ge];refine wB ?_
 first|refine wB (qk2 st.typeIs (qa2 ?_))|refine wB (qn6 st.typeIs (qa2 ?_))
 show wpAny _ _ (zb7 (.ref it) 0 .none >>= _) _ _ s;refine qh3 (qj7 i1 W Ξ ?_);show wpAny _ _ (zi4 (.type "StopIteration") [] >>= _) _ _ _;refine wB ?_;simp only[zi4,zj8];refine wB (qd4 ?_ (by size_fits));refine qh3 (m:=qm5 _ _) (zb3 (a:=qh5) (by first|rfl|(simp only[qm5];rfl)) (qd4 ?_ (by size_fits)));simp only[zi5];refine wB (zb4 ?_);rw[show A.in1.handled=ψ from Z];refine wB (qa2 (zh5 ?_));refine wB (qr3 (b:=true) (T:="StopIteration") ⟨_,qa9 _ rfl,rfl⟩ zg6 ?_);exact qa2 (k _ (((qe8 ..).extBut.push _).push _))
def uV(Y:A.handled=ψ)(O:d≠it):Walks prog w A it [it,d] [it] ks.length (fun i v=>ks[i]?=ς v) (fun i h=>h.IsKeyIter it d i ks.length ep/\EntA h d ks ep) where
 sub:=fun b q=>by simp at q;simp[q]
 frame:=fun _ _ _ st hk=>⟨let ⟨o,h1,r⟩:=st.1;⟨o,hk it Ξ o h1,r⟩,st.2.upTo fun o e=>hk d Ξ o e⟩
 item:=fun i s Q E hi st L=>wW st.1 st.2 (key:=ks[i]) (by simp[hi]) fun h' U W=>L _ h' s.toks (by simp[hi]) ⟨U,st.2.upTo fun o e=>W.extBut d o O e⟩ fun b o q e=>W.extBut b o (fun z=>q (by simp[z])) e
 done:=fun s Q E st L=>Ag Y st.1 st.2 rfl fun h' Z=>L h' s.toks fun b o q e=>Z b o (fun z=>q (by simp[z])) e
 self:=fun _ _ _ _ st L=>wpAny_pyIter_keyiter st.1 L
def sX(lo:(d==qj0)=ξ):PySem.W.KdlSrc prog w "dict" d d ks.length (fun i v=>ks[i]?=ς v) (fun h=>EntA h d ks ep) where
 type:=fun _ q=>q.ty
 there:=fun _ q=>⟨q.lt,q.lt⟩
 keep:=fun _ _ q hk=>q.upTo fun o e=>hk d (.inl rfl) o e
 notList:=by decide
 notTuple:=by decide
 hint:=fun _ _ _ _ q L=>PySem.W.kdl_hint_dict q.ty L
 iter:=fun _ _ O q=>⟨_,_,(fun _ _ L=>wV lo q L),uV O (qc4 q.lt),⟨⟨_,qa9 _ rfl,rfl,rfl⟩,q.upTo fun o e=>gP _ e⟩⟩
end
set_option maxRecDepth 20000
def Rs(xs:Array Nat):Prop:=xs.toList.Pairwise (· < ·)
variable{xs:Array Nat}
def Rs.lt(h:Rs xs){k:Nat}(hi:i<k)(hk:k<xs.size):xs[i]<xs[k]:=by have:=List.pairwise_iff_getElem.mp h i k (by simp;lia) (by simpa using hk) hi;simpa using this
def Cut(xs:Array Nat)(j p:Nat):Prop:=p<=xs.size/\(∀i (q:i<xs.size),i<p->xs[i]<j)/\∀i (q:i<xs.size),p<=i->j<=xs[i]
variable{j:Nat}
theorem qU(h:Rs xs):∀n lo hi,hi<=xs.size->lo<=hi->hi-lo<=n->(∀i (q:i<xs.size),i<lo->xs[i]<j)->(∀i (q:i<xs.size),hi<=i->j<=xs[i])->Cut xs j (qg2.go xs j n lo hi)
 |0,lo,hi,h1,h2,h3,L,O=>by
  have e:lo=hi:=by lia
  subst e;exact⟨h1,L,O⟩
 |n+1,lo,hi,h1,h2,h3,L,O=>by
  rw[qg2.go];by_cases c:lo<hi
  .rw[if_pos c];have W:(lo+hi)/2<xs.size:=by lia
   dsimp only;rw[Array.getD_eq_getD_getElem?,qh0 W,Option.getD_some];by_cases d:xs[(lo+hi)/2]<j
   .rw[if_pos d];refine qU h n _ hi h1 Θ Θ (fun i q U=>?_) O;by_cases e:i=(lo+hi)/2
    .subst e;exact d
    .exact qy4 (h.lt (by lia:i<(lo+hi)/2) W) d
   .rw[if_neg d];refine qU h n lo _ Θ Θ Θ L fun i q U=>?_
    by_cases e:i=(lo+hi)/2
    .subst e;lia
    .have:=h.lt (by lia:(lo+hi)/2<i) q;lia
  .rw[if_neg c];have e:lo=hi:=by lia
   subst e;exact⟨h1,L,O⟩
def jG(h:Rs xs)(j:Nat):Cut xs j (qg2 xs j):=qU h _ _ _ (nL _) (qi7 _) (nL _) (fun i _ z=>absurd z (qn7 _)) fun i q z=>absurd q (qw2.mpr z)
variable{p:Nat}
def Cut.uniq{q:Nat}(a:Cut xs j p)(b:Cut xs j q):p=q:=by
 obtain⟨Y,U,L⟩:=a;obtain⟨b1,W,O⟩:=b;rcases Nat.lt_trichotomy p q with h|h|h
 .have x:=W p Θ h;have y:=L p Θ (nL _);lia
 .exact h
 .have x:=U q Θ h;have y:=O q Θ (nL _);lia
def pG(h:Rs xs):qg2 xs 0=0:=(jG h 0).uniq ⟨qi7 _,fun i _ z=>absurd z (qn7 _),fun _ _ _=>qi7 _⟩
def qV(h:Rs xs)(hi:i<xs.size):qg2 xs (xs[i]+1)=i+1:=(jG h _).uniq ⟨hi,fun k q hk=>by
 by_cases e:k=i
 .subst e;lia
 .exact qi3 (h.lt (by lia:k<i) hi),fun k q hk=>h.lt hk q⟩
def wX{α:Type}(xs:Array α)(p:Nat)(x:α):(za2 xs p x).toList=xs.toList.take p++x::xs.toList.drop p:=by simp only[za2,qx1,za3,Array.toList_extract,qj5,List.singleton_append];simp;rw[zd1 Ξ]
def Dh(h:Rs xs)(hj:xs[qg2 xs j]?≠ς j):Rs (za2 xs (qg2 xs j) j):=by
 obtain⟨c1,c2,W⟩:=jG h j;generalize qg2 xs j=p at*
 have U:∀a∈xs.toList.take p,a<j:=fun a L=>by
  obtain⟨i,hi,rfl⟩:=List.mem_iff_getElem.mp L;have q:i<p/\i<xs.size:=by simp at hi;lia
  simpa using c2 i q.2 q.1
 have Y:∀a∈xs.toList.drop p,j<a:=fun a L=>by
  obtain⟨i,hi,rfl⟩:=List.mem_iff_getElem.mp L;have q:p+i<xs.size:=by simp at hi;lia
  have:=W (p+i) q Θ
  have Z:xs[p+i]≠j:=fun e=>by
   by_cases z:i=0
   .subst z;exact hj (by rw[qh0 (by simpa using q)];simpa using e)
   .have y:=W p Θ (nL _);have w:=h.lt (by lia:p<p+i) q;lia
  simp;lia
 unfold Rs;rw[wX,List.pairwise_append];refine⟨h.sublist (qz6 _ _),qh4.mpr ⟨Y,h.sublist (List.drop_sublist _ _)⟩,fun a L b O=>?_⟩;rcases qa8.mp O with rfl|O
 .exact U a L
 .exact qy4 (U a L) (Y b O)
def Fre(t:qg3)(j:Nat):Prop:=t.place[qg2 t.place j]?≠ς j
def pH{t:qg3}(h:∀i,t.slot j≠.live i):Fre t j:=fun z=>by refine h (qg2 t.place j) ?_;unfold qg3.slot;dsimp only;rw[if_pos (by rw[z];simp)]
def mV(t:qg3)(p:qg3.Probe):(t.advance p).dummy=p.dummy:=by unfold qg3.advance;split<;>rfl
theorem jH{t:qg3}{g:Nat->Int}{h:Int}:∀n p,(∀d,p.dummy=ς d->Fre t d)->∀j d,qg3.probe.go t g h n p=ς (.empty j d)->Fre t j/\∀k,d=ς k->Fre t k
 |0,p,hp,j,d,e=>by cases e
 |n+1,p,hp,j,d,e=>by
  rw[qg3.probe.go]at e;split at e
  .rename_i q;cases e;exact⟨pH fun i z=>(by rw[q]at z;cases z),hp⟩
  .rename_i q;refine jH n _ (fun k hk=>?_) j d e;rw[mV]at hk;cases hk;exact pH fun i z=>by rw[q]at z;cases z
  .split at e
   .cases e
   .exact jH n _ (fun k hk=>hp k (by rw[mV]at hk;exact hk)) j d e
def wY{t:qg3}{h:Int}(e:t.freeSlot h=ς (j,b)):Fre t j:=by
 unfold qg3.freeSlot at e;split at e
 .rename_i k d hk;obtain⟨h1,h2⟩:=jH _ _ (fun d z=>by cases z) k d hk;cases e;cases d with
  |none=>exact h1
  |some x=>exact h2 x rfl
 .cases e
def ja(n:Nat):Rs (Array.range n):=by unfold Rs;rw[Array.toList_range];exact zd2
def qW{t:qg3}(n:Nat)(h:Rs t.place):Rs (t.orStandIn n).place:=by
 unfold qg3.orStandIn;split
 .exact h
 .exact ja n
def uW{t:qg3}(h:Rs t.place)(es:Array (Int×Vz))(k:Int)(x:Vz):Rs (layNew t es k x).2.1.place:=by
 unfold layNew;split
 .rename_i j b e;exact qW _ (Dh h (wY e))
 .exact ja _
def wZ(t:qg3)(es:Array (Int×Vz))(n:Nat):Rs (zb8 t es n).2.1.place:=by
 unfold zb8;split
 .rename_i t' q e;dsimp only;split
  .unfold qg3.relaid qg3.laid at e;simp only[Option.bind_eq_bind,qs2,qt2]at e;obtain⟨_,_,e⟩:=e;cases e;unfold Rs;dsimp only;rw[za4,List.pairwise_filterMap];refine qt7 (fun {a b} L x O y U=>?_) zd2;obtain⟨_,_,rfl⟩:=mS O;obtain⟨_,_,rfl⟩:=mS U;exact L
  .exact ja _
 .exact ja _
def qX(t:qg3)(es:Array (Int×Vz))(h:Int)(x:Vz):(layNew t es h x).2.1.led=t.led:=by
 unfold layNew;split
 .dsimp only;unfold qg3.orStandIn;split<;>rfl
 .rfl
def uX(t:qg3)(es:Array (Int×Vz))(n:Nat):(zb8 t es n).2.1.led=t.led:=by
 unfold zb8;split
 .rename_i t' q e;dsimp only;split
  .unfold qg3.relaid qg3.laid at e;simp only[Option.bind_eq_bind,qs2,qt2]at e;obtain⟨_,_,e⟩:=e;cases e;rfl
  .rfl
 .rfl
structure SK(P:qd1)(u:Ja)(K:Type)[DecidableEq K] where
 knd:PySem.KeyKind P u K
 put:K->Tok->Vz
 of:Vz->K
 is:∀k t,knd.is k (put k t)=θ
 ofmk:∀k t,of (put k t)=k
 shape:∀{k v},knd.is k v=θ->∃t,v=put k t
 scan:∀k t,(put k t).scannable=θ
def uY(P:qd1)(u:Ja):SK P u Str where
 knd:=PySem.strKind P u
 put:=.str
 of v:=match v with|.str k _=>k|_=>""
 is:=strKind_is P u
 ofmk _ _:=rfl
 shape {k v} h:=by
  cases v<;>simp[PySem.strKind,zh6]at h
  subst h;exact⟨_,rfl⟩
 scan _ _:=rfl
def pI(P:qd1)(u:Ja):SK P u Int where
 knd:=PySem.intKind P u
 put:=.int
 of v:=match v with|.int k _=>k|_=>0
 is k t:=by simp[PySem.intKind,Value.isInt]
 ofmk _ _:=rfl
 shape {k v} h:=Value.isInt_shape h
 scan _ _:=rfl
section
variable{P:qd1}{u:Ja}{K:Type}[DecidableEq K]{κ:SK P u K}
structure Tx(κ:SK P u K)(l:List (Int×Vz))(ss:List K):Prop where
 all:∀e∈l,∃k t,e.2=κ.put k t/\e.1=κ.knd.hash k
 per:(l.map fun e=>κ.of e.2).Perm ss
 nd:ss.Nodup
def Tx.elems{l:η (Int×Vz)}{ss:η K}(x:Tx κ l ss):ElemsOf κ.knd l:=fun e q=>by obtain⟨k,t,h1,h2⟩:=x.all e q;rw[h1];exact⟨⟨k,κ.is k t,h2⟩,κ.scan k t⟩
def Tx.perm{l m:η (Int×Vz)}{ss:η K}(x:Tx κ l ss)(p:m.Perm l):Tx κ m ss:=⟨fun e q=>x.all e (p.mem_iff.mp q),(p.map _).trans x.per,x.nd⟩
def Tx.mem{l:η (Int×Vz)}{ss:η K}(x:Tx κ l ss)(k:K):k∈ss↔∃e∈l,κ.knd.is k e.2=θ:=by
 rw[<- x.per.mem_iff];constructor
 .intro h;obtain⟨e,q,L⟩:=qb8.mp h;obtain⟨k',t,h1,_⟩:=x.all e q;rw[h1,κ.ofmk]at L;refine⟨e,q,?_⟩;rw[h1,<- L];exact κ.is k' t
 .rintro⟨e,q,h⟩;obtain⟨t,h1⟩:=κ.shape h;exact qb8.mpr ⟨e,q,by rw[h1,κ.ofmk]⟩
def Tx.push{l:η (Int×Vz)}{ss:η K}(x:Tx κ l ss){k:K}{t:Tok}(hk:k∉ss):Tx κ (l++[(κ.knd.hash k,κ.put k t)]) (ss++[k]):=⟨fun e q=>by
 rcases qe1.mp q with q|q
 .exact x.all e q
 .rw[qa4.mp q];exact⟨k,t,rfl,rfl⟩,by
 rw[qf5];have:zj9 (fun e=>κ.of e.2) [(κ.knd.hash k,κ.put k t)]=[k]:=by simp[κ.ofmk]
 rw[this];exact x.per.append_right _,by
 refine ql0.mpr ⟨x.nd,Ξ,fun a L b O e=>?_⟩;rw[qa4.mp O]at e;exact hk (e▸L)⟩
structure TxS(κ:SK P u K)(h:Heap)(a:J9)(ss:List K)(led:Bool):Prop where
 ex:∃o es ep t,h.get? a=ς o/\o.ExactSet/\o.data=.set es ep t/\Tx κ es.toList ss/\es.size<qn8/\t.fits es.size=θ/\t.led=led/\Rs t.place
end
variable{hp:Heap}
section
variable{P:qd1}{u:Ja}{K:Type}[DecidableEq K]{κ:SK P u K}{A:qe0}{E:Vz->qa5->Prop}{s:qa5}{a:J9}{ss:η K}{led:Bool}
def mW {es fs:Array (Int×Vz)} {tb tc:qg3} (g1:hp.get? a=ς o) (g2:o.ExactSet) (U:o.data=.set es ep tb) (x:Tx κ fs.toList ss) (q:fs.size<qn8) (L:tc.fits fs.size=θ) (O:tc.led=led) (W:Rs tc.place) :
  (hp.update a (Obj.putSet fs tc)).get? a=ς {o with data:=.set fs (ep+1) tc}/\TxS κ (hp.update a (Obj.putSet fs tc)) a ss led:=by
 have e:=(SetOf_store (knd:=κ.knd) (S':=fun k=>decide (k∈ss)) g1 g2 U x.elems (fun k=>by rw[decide_eq_true_eq];exact x.mem k) q L).1;exact⟨e,⟨_,fs,ep+1,tc,e,g2,rfl,x,q,L,O,W⟩⟩
def Ah {k:K} {t:Tok} {Q:Bool->qa5->Prop} (hS:TxS κ s.heap a ss led) (room:ss.length+1<qn8)
  (q:∀hp,qo1 a s.heap hp->TxS κ hp a (if k∈ss then ss else ss++[k]) led->∀b,Q b {s with heap:=hp}):wpAny (model P u) A (setAddHashed a (κ.put k t) (κ.knd.hash k)) Q E s:=by
 obtain⟨o,es,ep,tb,g1,g2,g3,x,hb,hf,hl,hpl⟩:=hS.ex;have hn:es.size=ss.length:=by rw[<- x.per.length_eq,qa1,qd8]
 have big:es.size+1<qn8:=by rw[hn];exact room
 unfold setAddHashed setAddHashedIn;refine qi5 (wB (qf2 g1 g3 hf ?_));dsimp only;rw[byScan_of (knd:=κ.knd) (κ.scan k t) hb x.elems];simp only[↓reduceIte];unfold setAddByScan;refine wB (wB (qw3 (wB (wpAny_setScan_of (κ.is k t) g1 g3 hf x.elems ?_))));cases hr:List.findIdx? (fun e=>κ.knd.is k e.2) es.toList with
 |some j=>dsimp only;obtain⟨hj,hpj,_⟩:=List.findIdx?_eq_some_iff_getElem.mp hr;have hm:k∈ss:=(x.mem k).mpr ⟨es.toList[j],qr4 hj,hpj⟩;refine qa2 (qa2 ?_);have:=q s.heap (qo1.refl a s.heap) (by rw[if_pos hm];exact hS) ξ;rw[show s={s with heap:=s.heap} by cases s;rfl];exact this
 |none=>
  dsimp only
  have hm:k∉ss:=fun z=>by obtain⟨e,he,hp⟩:=(x.mem k).mp z;have:=List.findIdx?_eq_none_iff.mp hr e he;rw[hp]at this;exact Bool.noConfusion this
  rw[if_neg hm]at q;have perm:=layNew_perm tb es (κ.knd.hash k) (κ.put k t);have fits:=layNew_fits tb es (κ.knd.hash k) (κ.put k t);have ledd:=And.intro (qX tb es (κ.knd.hash k) (κ.put k t)) (uW hpl es (κ.knd.hash k) (κ.put k t));generalize layNew tb es (κ.knd.hash k) (κ.put k t)=L at perm fits ledd ⊢;obtain⟨fs,tc,wasD,gave⟩:=L;dsimp only at perm fits ledd ⊢;rw[za3]at perm;have y:Tx κ fs.toList (ss++[k]):=(x.push hm).perm perm;have hb2:fs.size<qn8:=by rw[<- qd8,perm.length_eq,qc0,qd8];simpa using big
  have gw:∀(b:Bool){s1:qa5}{Q1:Unit->qa5->Prop},Q1 () s1->wpAny (model P u) A (match b with|true=>rule "set.scan.the-table-gave-way"|false=>pure ()) Q1 E s1:=fun b s1 Q1 z=>by
   cases b
   .exact qa2 z
   .exact qw3 z
  refine wB (gw _ ?_)
  have tail:∀ tc2:qg3,tc2.fits fs.size=θ->tc2.led=led->Rs tc2.place->wpAny (model P u) A (do
      storeSet a fs tc2
      if (!wasD&&tc2.tooFull)=θ then do
          (match (zb8 tc2 fs (qm6 fs.size)).2.2 with|true=>rule "set.scan.the-table-gave-way"|false=>pure ())
          storeSet a (zb8 tc2 fs (qm6 fs.size)).1 (zb8 tc2 fs (qm6 fs.size)).2.1
          pure (ς θ)
       else pure (ς θ)) (fun r s1=>wpAny (model P u) A (match r with|some added=>pure added|none=>setAddHashedIn a (κ.put k t) (κ.knd.hash k) 99999) Q E s1) E s:=fun tc2 h1 h2 h3=>by
   refine wB (wpAny_storeSet_of g1 g3 ?_ (qt8 hb2));obtain⟨e1,T1⟩:=mW g1 g2 g3 y hb2 h1 h2 h3;have sb:=qe8 s.heap a (Obj.putSet fs tc2);split
   .have p2:=relayAll_perm tc2 fs (qm6 fs.size);have f2:=relayAll_fits tc2 fs (qm6 fs.size);have l2:=And.intro (uX tc2 fs (qm6 fs.size)) (wZ tc2 fs (qm6 fs.size));generalize zb8 tc2 fs (qm6 fs.size)=M at p2 f2 l2 ⊢;obtain⟨gs,td,gave2⟩:=M;dsimp only at p2 f2 l2 ⊢;have sz:gs.size=fs.size:=by rw[<- qd8,p2.length_eq,qd8]
    have hb3:gs.size<qn8:=by rw[sz];exact hb2
    refine wB (gw _ (wB (wpAny_storeSet_of e1 rfl ?_ (qt8 hb3))));obtain⟨_,T2⟩:=mW e1 g2 rfl (y.perm p2) hb3 f2 (l2.1.trans h2) l2.2;exact qa2 (qa2 (q _ (sb.trans (qe8 _ a _)) T2 θ))
   .exact qa2 (qa2 (q _ sb T1 θ))
  split
  .refine wB ?_;rw[hashByValue_scannable 8 (κ.scan k t)];refine qa2 ?_;split
   .exact tail tc fits (ledd.1.trans hl) ledd.2
   .exact tail {tc with plain:=false} (qg3.fits_plain_off fits) (ledd.1.trans hl) ledd.2
  .refine wB (qa2 ?_);exact tail tc fits (ledd.1.trans hl) ledd.2
end
noncomputable def fz{K:Type}[DecidableEq K](J5:η K)(k:K):η K:=if k∈J5 then J5 else J5++[k]
def met{K:Type}[DecidableEq K](val:Nat->K)(i:Nat):η K:=((qd0 i).map val).foldl fz []
def pJ{K:Type}[DecidableEq K](val:Nat->K)(i:Nat):met val (i+1)=fz (met val i) (val i):=by unfold met;rw[List.range_succ,qf5,List.foldl_append];rfl
theorem nY{K:Type}[DecidableEq K](val:Nat->K):∀i,(met val i).length<=i
 |0=>nL _
 |i+1=>by
  rw[pJ];have:=nY val i;unfold fz;split
  .lia
  .rw[qc0,qm1];lia
section
variable{P:qd1}{u:Ja}{K:Type}[DecidableEq K]{κ:SK P u K}{A:qe0}{R:Result->qa5->Prop}{I:J9}{fp wr:η J9}{G:Array GenState->Array GenState->Prop}{n:Nat}{Pv:Nat->Vz->Prop}{St:Nat->qa5->Prop}{led:Bool}
def TxS.moved{ss:η K}(x:TxS κ h a ss led)(e:∀o,h.get? a=ς o->h'.get? a=ς o):TxS κ h' a ss led:=by obtain⟨o,es,ep,t,g,r⟩:=x.ex;exact⟨o,es,ep,t,e o g,r⟩
def w4 (W:WalksS P u A.in1 I fp wr G n Pv St) (S:J9) (U:S∉fp) (val:Nat->K) (Z:∀ i v,Pv i v->∃ t,v=κ.put (val i) t) (L:n+1<qn8) :
  ∀(m i:Nat)(s:qa5),n-i=m->i<=n->St i s->TxS κ s.heap S (met val i) led->(∀s',Moved (S::wr) G s s'->TxS κ s'.heap S (met val n) led->R (.ok (.ret .none)) s')→
   qq6 (model P u) A (.builtin "set.update.loop" ⟨[.ref S,.ref I],[]⟩) R s:=by
 have nw:S∉wr:=fun h=>U (W.sub _ h)
 have sub:∀b∈wr,b∈S::wr:=fun b L=>qd5 _ L
 intro m;induction m with
 |zero=>
  intro i s hm hi q hS hR;obtain rfl:i=n:=by lia
  refine qp6 zb9 ?_;rw[qm7 qs8 _];refine wB (W.done s _ _ q fun s1 O=>?_);exact qa2 (hR s1 (O.mono sub) (hS.moved fun o e=>O.heap S _ nw e))
 |succ m ih=>
  intro i s hm hi q hS hR;have lt:i<n:=by lia
  refine qp6 zb9 ?_;rw[qm7 qs8 _];refine wB (W.item i s _ _ lt q fun v s1 hP Y O=>?_);obtain⟨t,rfl⟩:=Z i v hP;have hS1:TxS κ s1.heap S (met val i) led:=hS.moved fun o e=>O.heap S _ nw e
  show wpAny _ A.in1 (ze2 [κ.put (val i) t] (setAdd S (κ.put (val i) t)) >>= _) _ _ s1;refine wB (qi5 ?_);unfold setAdd;refine qi5 (wB (κ.knd.pyHash (k:=val i) (κ.is _ _) ?_));have room:(met val i).length+1<qn8:=by have:=nY val i;lia
  refine Ah (s:={s1 with toks:=s1.toks+1}) hS1 room fun h2 sb hS2 b=>?_
  have hS3:TxS κ h2 S (met val (i+1)) led:=by rw[pJ];exact hS2
  refine qa2 ⟨qw0 qs8 _,ih (i+1) _ Θ lt (W.frame _ s1 _ _ Y (zb5 _) fun b L o e=>?_) hS3 fun s2 mv2 hS4=>?_⟩
  .rw[sb.2 b (fun h:b=S=>U (by rw[<- h];exact L))];exact e
  .refine hR s2 (Moved.trans W.gtrans ((O.mono sub).then_heap (zb5 _) fun b o L e=>?_) mv2) hS4;rw[sb.2 b (fun h:b=S=>L (by rw[h];exact qe7))];exact e
end
def dq(u:Ja):Bool:=!(u.params.followText "set-order")
section
variable{P:qd1}{u:Ja}{K:Type}[DecidableEq K]{κ:SK P u K}{A:qe0}{E:Vz->qa5->Prop}{s:qa5}
def Ai (v:Vz) {Q1:Vz->qa5->Prop} (q:Q1 (.ref s.heap.objs.size) {s with heap:=s.heap.push {cls:=.type "set",dict:=ψ,data:=.set #[] 0 (.fresh 0 0 (dq u))}}) :
  qq6 (model P u) A (.call (.builtin "set.__new__") ⟨[.type "set",v],[]⟩) (wants Q1 E) s:=by
 refine codeAny_of_tree ?_;show wpAny _ A.in1 (do checkBuiltinCall "set.__new__" ⟨[.type "set",v],[]⟩;again (.builtin "set.__new__" ⟨[.type "set",v],[]⟩)) _ _ s;refine wB (zb3 (F.newCall_set_1 v) (qa2 ⟨qw0 F.plain_set_new _,qp6 F.entry_set_new ?_⟩));rw[qm7 F.plain_set_new _];unfold qj4.«set.__new__» qj4.Frozenset.newClass;have z:=sub_set_self;obtain⟨hp,g,d,tk,L⟩:=s;dsimp only;wp_walk;refine qo6 (qa2 ?_);dsimp only;simp only[newObj];refine wB (wpAny_alloc (qa2 ?_));exact qa2 q
end
variable{led:Bool}
section
variable{P:qd1}{u:Ja}{K:Type}[DecidableEq K]{κ:SK P u K}{A:qe0}{E:Vz->qa5->Prop}{s:qa5}
def uZ(e:hp.get? a=ς {cls:=.type "set",dict:=ψ,data:=.set #[] 0 (.fresh 0 0 led)}):TxS κ hp a [] led:=⟨_,#[],0,.fresh 0 0 led,e,⟨rfl,rfl,rfl⟩,rfl,⟨(fun e q=>by cases q),qz2 _,qu2⟩,(by unfold qn8;decide),(by cases led<;>rfl),rfl,.nil⟩
def w6{l:J9}{vs:Array Vz}{val:Nat->K}(Y:A.handled=ψ)(hl:s.heap.IsList l vs)(hi:∀(i:Nat)(v:Vz),vs[i]?=ς v->∃t,v=κ.put (val i) t)(hb:vs.size+1<qn8)
 (q:∀(hp:Heap)(tk:Nat),TxS κ hp s.heap.objs.size (met val vs.size) (dq u)->(∀b o,b<s.heap.objs.size->s.heap.get? b=ς o->hp.get? b=ς o)->Q (.ref s.heap.objs.size) {s with heap:=hp,toks:=tk}) :
  wpAny (model P u) A (call (.type "set") [.ref l]) Q E s:=by
 obtain⟨c0,tl0,m0⟩:=qp7.mro;have m1:=qp7.made;have m2:=qp7.sub;refine zi8 (codeAny_of_tree ?_);show wpAny _ _ (callAny (.type "set") _) _ _ _;refine qa2 ⟨Code.quiet_builtin _ χ,qp6 F.entry_type_call ?_⟩;rw[qe0.under_plain (weight_type_call_type "set" [.ref l] []) rfl];have m3:=qp7.notType;have m4:=qp7.canCreate;have m5:=F.typeCall_set_1 (.ref l)
 repeat (any_goals (first|assumption|wp_step))
 refine qr9 (Ai (.ref l) (E:=E) (Q1:=fun x s1=>x=.ref s.heap.objs.size/\s1={s with heap:=s.heap.push {cls:=.type "set",dict:=ψ,data:=.set #[] 0 (.fresh 0 0 (dq u))}}) ⟨rfl,rfl⟩) fun r s1 hr=>?_
 cases r with
 |error e=>exact hr
 |ok fl=>
  cases fl with
  |ret x=>
   obtain⟨rfl,rfl⟩:=hr;have gS:(s.heap.push {cls:=.type "set",dict:=ψ,data:=.set #[] 0 (.fresh 0 0 (dq u))}).get? s.heap.objs.size=ς {cls:=.type "set",dict:=ψ,data:=.set #[] 0 (.fresh 0 0 (dq u))}:=qa9 _ rfl;have tS:zi6 {s with heap:=s.heap.push {cls:=.type "set",dict:=ψ,data:=.set #[] 0 (.fresh 0 0 (dq u))}} (.ref s.heap.objs.size) "set":=⟨_,gS,rfl⟩;have n1:=qp7.init.lookup;have n2:=qp7.init.bind (.ref s.heap.objs.size)
   repeat (any_goals (first|assumption|wp_step))
   refine qr9 (codeAny_call_builtin (R:=wants (fun r s2=>r=.none/\∃hp tk,s2={s with heap:=hp,toks:=tk}/\TxS κ hp s.heap.objs.size (met val vs.size) (dq u)/\(∀b o,b<s.heap.objs.size->s.heap.get? b=ς o->hp.get? b=ς o)) E) qp7.init.plain F.entry_set_init (check_set_init_1 tS ?_)) fun r2 s2 O=>?_
   .obtain⟨ol,hol,U,nl,hdl⟩:=hl;obtain⟨oc,od,oda,osl⟩:=ol;simp only at U hdl;subst U hdl;have Z:(s.heap.push {cls:=.type "set",dict:=ψ,data:=.set #[] 0 (.fresh 0 0 (dq u))}).get? l=ς {cls:=.type "list",dict:=od,data:=.seq vs nl,slots:=osl}:=gP _ hol;have k1:=F.sub_list_set;have k2:=F.sub_list_frozenset;have k3:(qk0 "list"==qk0 "dict")=ξ:=by decide
    have W:(s.heap.push {cls:=.type "set",dict:=ψ,data:=.set #[] 0 (.fresh 0 0 (dq u))}).IsList l vs:=⟨_,Z,rfl,nl,rfl⟩;unfold qj4.«set.__init__» noKeywords qj4.Frozenset.updateFrom;generalize hPI:zj2=PI;wp_walk;subst hPI;refine qt4 W (wB (wpAny_runValue ?_));have ls:l<s.heap.objs.size:=qb0 hol;have c3:A.in1.in1.in1.handled=ψ:=by simp[Y]
    have ne1:l≠(s.heap.push {cls:=.type "set",dict:=ψ,data:=.set #[] 0 (.fresh 0 0 (dq u))}).objs.size:=by rw[qg1];exact qc4 (qi3 ls)
    have ne2:s.heap.objs.size∉[(s.heap.push {cls:=.type "set",dict:=ψ,data:=.set #[] 0 (.fresh 0 0 (dq u))}).objs.size,l]:=by rw[qg1];simp only[qa8,qa4,qg7,or_false,not_or];exact⟨qc4 (ql7 _),ql9 ls⟩
    refine w4 ((Walks.list c3 _ l ne1 vs).toS) s.heap.objs.size ne2 val hi hb (vs.size-0) 0 _ Θ (qi7 _) ⟨⟨_,qa9 _ rfl,rfl,rfl⟩,(W.push _)⟩ (uZ (gP _ gS)) fun s3 mv L=>?_
    obtain⟨hp,g3,d3,tk3,o3⟩:=s3;have eg:g3=s.gens:=mv.gens;have ed:d3=s.drawn:=mv.drawn;have eo:o3=s.os:=mv.os;subst eg ed eo;show wpAny _ _ _ _ _ _;refine qa2 ?_;show wpAny _ _ (ret qh5) _ _ _;refine qa2 ⟨rfl,hp,tk3,rfl,L,fun b o hb e=>?_⟩;have b1:b≠s.heap.objs.size:=qc4 hb
    have b2:b≠(s.heap.push {cls:=.type "set",dict:=ψ,data:=.set #[] 0 (.fresh 0 0 (dq u))}).objs.size:=by rw[qg1];exact qc4 (qi3 hb)
    exact mv.heap b o (by simp only[qa8,qa4,qg7,or_false,not_or];exact⟨b1,b2⟩) (ql3 _ (ql3 _ e))
   .cases r2 with
    |error e=>exact O
    |ok f2=>
     cases f2 with
     |ret r=>
      obtain⟨rfl,hp,tk,rfl,L,kept⟩:=O
      repeat (any_goals (first|assumption|wp_step))
      exact q _ _ L kept
     |_=>exact O.elim
  |_=>exact hr.elim
end
theorem jI{α:Type}:∀{l:η α}{i:Nat}(h:i<l.length),(l[i]::l.eraseIdx i).Perm l
 |x::l,0,h=>qz2 _
 |x::l,i+1,h=>by have:=jI (l:=l) (i:=i) (by simpa using h);exact(zk5.swap _ _ _).trans (this.cons x)
section
variable{M:Model}{A:qe0}{E:Vz->qa5->Prop}
theorem qY{src:Source}{Q:Nat->qa5->Prop}(L:n≠0)(q:∀i d,i<n->Q i {s with drawn:=d}):wpAny M A (choose src n) Q E s:=fun G p O=>by show Sem.wp M G (.choose src n .pure) _ _ p s;rw[Sem.wp_choose];refine⟨L,?_⟩;rw[Sem.wp_pure];exact q _ _ (za5 _ (Nat.pos_of_ne_zero L))
theorem iy{α:Type}:∀(n:Nat)(xs:η α){Q:η α->qa5->Prop}{s:qa5},xs.length=n->(∀ys d,ys.Perm xs->Q ys {s with drawn:=d})->wpAny M A (drawOrder n xs) Q E s
 |0,xs,Q,s,L,q=>by have e:xs=[]:=zc0.mp L;subst e;show wpAny M A (pure []) Q E s;refine qa2 ?_;have:=q [] s.drawn (qz2 _);cases s;exact this
 |n+1,[],Q,s,L,q=>by cases L
 |n+1,x::xs,Q,s,L,q=>by show wpAny M A (choose .order (x::xs).length >>= fun i=>match (x::xs)[i]? with|some y=>(drawOrder n ((x::xs).eraseIdx i)) >>= fun ys=>pure (y::ys)|none=>unsupported "internal:drawOrder") Q E s;refine qh3 (qY Ξ fun i d hi=>?_);rw[gQ hi];dsimp only;refine wB (iy n ((x::xs).eraseIdx i) (by rw[qx9 hi];lia) fun ys d2 p=>qa2 (q _ d2 ?_));exact(p.cons _).trans (jI hi)
end
def nZ:entryFor table "set.__iter__"=ς qj4.«frozenset.__iter__»:=entryFor_alias (id':="frozenset.__iter__") (by kernel_rfl) rfl χ (by kernel_rfl)
def j4:zf6 (.type "set_iterator") "__next__"=pure (ς (.builtin "set_iterator.__next__")):=by rw[qs9,qm2];kernel_rfl
section
variable{P:qd1}{u:Ja}{A:qe0}{E:Vz->qa5->Prop}{s:qa5}{a:J9}{o:Obj}{es:Array (Int×Vz)}{ep:Nat}{t:qg3}
def ld(first:Vz)(i:Int)(a:J9)(n ep:Nat):Obj:={cls:=.type "set_iterator",data:=.fields #[first,qf8 i,.ref a,qf8 n,qf8 ep]}
def pK(g1:s.heap.get? a=ς o)(g2:o.ExactSet)(O:o.data=.set es ep t)(U:t.fits es.size=θ)(Y:es.size<qn8)
 (q1:∀(ys:η Nat) d,dq u=θ->(t.plain=ξ/\1<es.size)->ys.Perm (qd0 es.size)->Q (.ref (s.heap.objs.size+1)) {s with drawn:=d,heap:=(s.heap.push {cls:=.type "tuple",data:=.seq (ys.map fun(i:Nat)=>qf8 i).toArray}).push (ld (.ref s.heap.objs.size) 0 a es.size ep)})
 (q2:(dq u=ξ∨¬ (t.plain=ξ/\1<es.size))->Q (.ref s.heap.objs.size) {s with heap:=s.heap.push (ld (qf8 0) 0 a es.size ep)}):wpAny (model P u) A (zj2 (.ref a)) Q E s:=by
 have W:s.TypeIs (.ref a) "set":=⟨o,g1,g2.1⟩;refine za0 W F.slot_set_iter (qf1 F.slot_set_iter W nZ ?_ (F.args_set_iter_1 _));unfold qj4.«frozenset.__iter__»;refine wB (wB (qa2 (qa2 ?_)));unfold qj4.Frozenset.sizeOf zg2;refine wB (wB (wB (qf2 g1 O U (qa2 (qa2 ?_)))));unfold setDrawn zj0;refine wB (wB (qf2 g1 O U (wB (wB (qo6 (qa2 (qa2 ?_)))))));have Z:(!(u.params.followText "set-order"))=dq u:=rfl;show wpAny (model P u) A.in1 (if(!(u.params.followText "set-order")&&(!t.plain&&decide (es.size > 1)))=θ then(drawOrder es.size (qd0 es.size) >>= fun ys=>zj8 (ys.map fun(i:Nat)=>qf8 i) >>= fun first=>setEpoch a >>= fun e=>newFields "set_iterator" [first,qf8 0,.ref a,qf8 es.size,qf8 e] >>= fun v=>ret v)else(pure (qf8 0) >>= fun first=>setEpoch a >>= fun e=>newFields "set_iterator" [first,qf8 0,.ref a,qf8 es.size,qf8 e] >>= fun v=>ret v)) _ _ s;rw[Z];by_cases q:(dq u&&(!t.plain&&decide (es.size > 1)))=θ
 .rw[if_pos q];simp only[qb3,qi1,decide_eq_true_eq]at q;refine qh3 (iy _ _ Ξ fun ys d p=>?_);have L:ys.length=es.size:=by rw[p.length_eq,qn5]
  refine wB ?_;refine wpAny_newTuple ?_ (by rw[qa1,L];exact qt8 Y);unfold setEpoch;refine wB (wB (qf2 (s:={s with drawn:=d,heap:=s.heap.push {cls:=.type "tuple",data:=.seq (ys.map fun(i:Nat)=>qf8 i).toArray}}) (gP _ g1) O U (qa2 ?_)));refine wB (qd4 (qa2 ⟨_,rfl,"set_iterator",_,⟨_,qa9 _ rfl,rfl⟩,j4,?_⟩));have:=q1 ys d q.1 q.2 p;rw[qg1];exact this
 .rw[if_neg q];refine wB (qa2 ?_);unfold setEpoch;refine wB (wB (qf2 g1 O U (qa2 ?_)));refine wB (qd4 (qa2 ⟨_,rfl,"set_iterator",_,⟨_,qa9 _ rfl,rfl⟩,j4,?_⟩));refine q2 ?_;by_cases h1:dq u=θ
  .right;intro z;exact q (by rw[h1,z.1];simp;exact z.2)
  .left;simpa using h1
end
def mX:Manifest.owners.lookup (String.ofList ['r','o','t','a','r','e','t','i','_','t','e','s'].reverse)=ς Manifest.sig_set_iterator:=by kernel_rfl
def slot_setit:Slot "set_iterator" "__next__" "set_iterator.__next__":=.of (owner:="set_iterator") (n:="__next__") (by rw[qs9,qm2];kernel_rfl) χ χ χ (by first|exact .inl χ|exact .inr χ) (by rw[zg7];kernel_rfl)
def ig:entryFor table "set_iterator.__next__"=ς qj4.«set_iterator.__next__»:=entryFor_of_tree (by kernel_rfl)
theorem gi(v:Vz):argsOk "set_iterator.__next__" ⟨[v],[]⟩:=by unfold argsOk;rw[signature?_of (id:="set_iterator.__next__") (n:=['_','_','t','x','e','n','_','_']) (o:=['r','o','t','a','r','e','t','i','_','t','e','s']) (by kernel_rfl) mX];kernel_rfl
variable{first:Vz}{ot:Obj}{m:Nat}
section
variable{P:qd1}{u:Ja}{A:qe0}{E:Vz->qa5->Prop}{s:qa5}{a I:J9}{o:Obj}{es:Array (Int×Vz)}{ep n:Nat}{t:qg3}
def ItAt(h:Heap)(I:J9)(first:Vz)(i:Nat)(a:J9)(n ep:Nat):Prop:=∃q,h.get? I=ς q/\q.cls=.type "set_iterator"/\q.data=.fields #[first,qf8 i,.ref a,qf8 n,qf8 ep]
def ItAt.ty(x:ItAt s.heap I first i a n ep):s.TypeIs (.ref I) "set_iterator":=let ⟨q,h,c,_⟩:=x;⟨q,h,c⟩
theorem lg{T:J9}{ps:Array Vz}{W:Int}{x:Vz}{Q:ζ Vz->qa5->Prop}(L:ItAt s.heap I (.ref T) i a es.size ep)(g1:s.heap.get? a=ς o)(Y:o.data=.set es ep t)(Z:t.fits es.size=θ)(k1:s.heap.get? T=ς ot)(k2:ot.data=.seq ps m)(hp:ps[i]?=ς (qf8 p))(W:es[p]?=ς (W,x))
 (q:∀h',ItAt h' I (.ref T) (i+1) a es.size ep->qo1 I s.heap h'->Q (ς x) {s with heap:=h'}):wpAny (model P u) A (qy0 (.ref I)) Q E s:=by
 obtain⟨oi,hi,hc,U⟩:=id L;unfold qy0;refine wB (qs7 (qe5 (name:=qa0 "__next__") L.ty slot_setit (qf1 slot_setit L.ty ig ?_ (gi _))));unfold qj4.«set_iterator.__next__»;refine wB (qa2 (wB (qr1 hi U ?_)));unfold zg2;refine wB (wB (qf2 g1 Y Z (qa2 ?_)));rw[if_neg Ξ];refine wB (qu3 k1 k2 ?_);dsimp only;rw[qe2,hp];show wpAny _ _ (setNextDrawn a ((p:Int)).toNat ((ep:Int)).toNat >>= fun x=>zb7 (.ref I) 1 (qf8 ((i:Int)+1)) >>= fun _=>ret x) _ _ s;rw[qe2,qe2];unfold setNextDrawn;refine wB (wB (qf2 g1 Y Z ?_));dsimp only;rw[if_neg Ξ,W];refine qa2 ?_;refine qh3 (qj7 hi U Ξ ?_)
 have O:ItAt (s.heap.update I (qq3 (·.setIfInBounds 1 (qf8 ((i:Int)+1))))) I (.ref T) (i+1) a es.size ep:=⟨_,qe6 _ hi (qi2 (qe4 U _)),(qq2 ..).trans hc,by rw[qe4 U];simp[qf8]⟩
 exact qa2 ⟨_,rfl,qa2 (q _ O (qe8 ..))⟩
end
set_option maxHeartbeats 400000
section
variable{P:qd1}{u:Ja}{A:qe0}{E:Vz->qa5->Prop}{s:qa5}{a I:J9}{o:Obj}{es:Array (Int×Vz)}{ep n:Nat}{t:qg3}
theorem ma{T:J9}{ps:Array Vz}{m:Nat}{Q:ζ Vz->qa5->Prop}(O:A.handled=ψ)(L:ItAt s.heap I (.ref T) es.size a es.size ep)(g1:s.heap.get? a=ς o)(W:o.data=.set es ep t)(Z:t.fits es.size=θ)(Y:s.heap.get? T=ς ot)(k2:ot.data=.seq ps m)(hp:ps.size=es.size)
 (q:∀h',zh4 I s.heap h'->Q ψ {s with heap:=h'}):wpAny (model P u) A (qy0 (.ref I)) Q E s:=by
 obtain⟨oi,hi,hc,U⟩:=id L;unfold qy0;refine wB (qs7 (qe5 (name:=qa0 "__next__") L.ty slot_setit (qf1 slot_setit L.ty ig ?_ (gi _))));unfold qj4.«set_iterator.__next__»;refine wB (qa2 (wB (qr1 hi U ?_)));unfold zg2;refine wB (wB (qf2 g1 W Z (qa2 ?_)));rw[if_neg Ξ];refine wB (qu3 Y k2 ?_);dsimp only;rw[qe2,qo8 Θ];show wpAny _ _ (zb7 (.ref I) 0 (qf8 0) >>= fun _=>zb7 (.ref I) 2 .none >>= fun _=>zi4 (.type "StopIteration") [] >>= fun e=>zi5 e) _ _ s;refine qh3 (qj7 hi U Ξ ?_);refine qh3 (qj7 (qe6 _ hi (qi2 (qe4 U _))) (qe4 U _) Ξ ?_);show wpAny _ _ (zi4 (.type "StopIteration") [] >>= _) _ _ _;refine wB ?_;simp only[zi4,zj8];refine wB (qd4 ?_ (by size_fits));refine qh3 (m:=qm5 _ _) (zb3 (a:=qh5) (by first|rfl|(simp only[qm5];rfl)) ?_);refine qd4 ?_ (by size_fits);simp only[zi5];refine wB (zb4 ?_);rw[show A.in1.handled=ψ from O];refine wB (qa2 (zh5 ?_));refine wB (qr3 (T:="StopIteration") (b:=true) ⟨_,qa9 _ rfl,rfl⟩ zg6 ?_);exact qa2 (q _ (((qe8 ..).trans (qe8 ..)).extBut.push _ |>.push _))
end
theorem sY{α:Type}(f:Nat->Nat):∀(n k:Nat)(l:η α)(q:Array α),l.length=n->(zj6 f n k l q).toList.Perm (q.toList++l)
 |0,k,l,q,O=>by have e:l=[]:=zc0.mp O;subst e;rw[zj6,qg5]
 |n+1,k,l,q,O=>by have L:f k%l.length<l.length:=za5 _ Θ;rw[zj6,gQ L];dsimp only;refine(sY f n (k+1) (l.eraseIdx (f k%l.length)) (q.push l[f k%l.length]) (by rw[qx9 L];lia)).trans ?_;rw[za3,qj5];exact zk5.append_left _ (jI L)
def sZ{α:Type}(f:Nat->Nat)(xs:Array α):(zf2 f xs).toList.Perm xs.toList:=by have:=sY f xs.size 0 xs.toList #[] Ξ;simpa[zf2] using this
section
variable{P:qd1}{u:Ja}{A:qe0}{E:Vz->qa5->Prop}{s:qa5}{a I:J9}{o:Obj}{es:Array (Int×Vz)}{ep n:Nat}{t:qg3}
def fR{Q:ζ (Vz×Nat)->qa5->Prop}(L:dq u=ξ)(g1:s.heap.get? a=ς o)(U:o.data=.set es ep t)(W:t.fits es.size=θ)
 (q:Q (((zf2 (u.params.setOrder a ep) es)[i]?).map fun e=>(e.2,j)) s):wpAny (model P u) A (zc1 a j i ep) Q E s:=by
 have O:u.params.followText "set-order"=θ:=by unfold dq at L;simpa using L
 unfold zc1 zj0;refine wB (qf2 g1 U W (wB (wB (qo6 (qa2 ?_)))));show wpAny (model P u) A (if u.params.followText "set-order"=θ then _ else _) Q E s;rw[if_pos O,if_neg Ξ];unfold setWalk zj0;refine wB (wB (qf2 g1 U W (wB (wB (qo6 (qa2 ?_))))));show wpAny (model P u) A (if u.params.followText "set-order"=θ then _ else _) _ E s;rw[if_pos O];refine wB (qo6 (qa2 ?_));exact qa2 q
end
section
variable{P:qd1}{u:Ja}{A:qe0}{E:Vz->qa5->Prop}{s:qa5}{a I:J9}{o:Obj}{es:Array (Int×Vz)}{ep n:Nat}{t:qg3}
def gB{Q:ζ (Vz×Nat)->qa5->Prop}(L:dq u=θ)(O:t.led=θ)(one:¬ (t.plain=ξ/\1<es.size))(g1:s.heap.get? a=ς o)(W:o.data=.set es ep t)(Y:t.fits es.size=θ)
 (q:Q (match es[qg2 t.place j]?,t.place[qg2 t.place j]? with|some (_,x),ς k=>ς (x,k+1)|_,_=>ψ) s):wpAny (model P u) A (zc1 a j i ep) Q E s:=by
 have U:u.params.followText "set-order"=ξ:=by unfold dq at L;simpa using L
 unfold zc1 zj0;refine wB (qf2 g1 W Y (wB (wB (qo6 (qa2 ?_)))));show wpAny (model P u) A (if u.params.followText "set-order"=θ then _ else if(!t.plain&&decide (es.size > 1))=θ then _ else(if(!t.led&&!es.isEmpty)=θ then unsupported "set:maker-not-led" else pure ()) >>= fun _=>pure (match es[qg2 t.place j]?,t.place[qg2 t.place j]? with|some (_,x),ς k=>ς (x,k+1)|_,_=>ψ)) Q E s;rw[U,if_neg Ω,if_neg (by simpa using one),if_neg (by simp[O])];exact wB (qa2 (qa2 q))
theorem lh{next:Nat}{x:Vz}{Q:ζ Vz->qa5->Prop}(L:ItAt s.heap I (qf8 j) i a es.size ep)(g1:s.heap.get? a=ς o)(Z:o.data=.set es ep t)(hf:t.fits es.size=θ)(hn:∀{A':qe0}{W:ζ (Vz×Nat)->qa5->Prop}{E':Vz->qa5->Prop},W (ς (x,next)) s->wpAny (model P u) A' (zc1 a j i ep) W E' s)
 (q:∀h',ItAt h' I (qf8 next) (i+1) a es.size ep->qo1 I s.heap h'->Q (ς x) {s with heap:=h'}):wpAny (model P u) A (qy0 (.ref I)) Q E s:=by
 obtain⟨oi,hi,hc,O⟩:=id L;unfold qy0;refine wB (qs7 (qe5 (name:=qa0 "__next__") L.ty slot_setit (qf1 slot_setit L.ty ig ?_ (gi _))));unfold qj4.«set_iterator.__next__»;refine wB (qa2 (wB (qr1 hi O ?_)));unfold zg2;refine wB (wB (qf2 g1 Z hf (qa2 ?_)));rw[if_neg Ξ];show wpAny _ _ (zc1 a ((j:Int)).toNat ((i:Int)).toNat ((ep:Int)).toNat >>= _) _ _ s;rw[qe2,qe2,qe2];refine wB (hn ?_);show wpAny _ _ (zb7 (.ref I) 0 (qf8 next) >>= fun _=>zb7 (.ref I) 1 (qf8 ((i:Int)+1)) >>= fun _=>ret x) _ _ s;refine qh3 (qj7 hi O Ξ ?_);refine qh3 (qj7 (qe6 _ hi (qi2 (qe4 O _))) (qe4 O _) Ξ ?_);have e1:(s.heap.update I (qq3 (·.setIfInBounds 0 (qf8 next)))).get? I=ς (qq3 (·.setIfInBounds 0 (qf8 next)) oi):=qe6 _ hi (qi2 (qe4 O _));have Y:=qe4 O (·.setIfInBounds 0 (qf8 next))
 have U:ItAt ((s.heap.update I (qq3 (·.setIfInBounds 0 (qf8 next)))).update I (qq3 (·.setIfInBounds 1 (qf8 ((i:Int)+1))))) I (qf8 next) (i+1) a es.size ep:=⟨_,qe6 _ e1 (qi2 (qe4 Y _)),(qq2 ..).trans ((qq2 ..).trans hc),by rw[qe4 Y];simp[qf8]⟩
 exact qa2 ⟨_,rfl,qa2 (q _ U ((qe8 ..).trans (qe8 ..)))⟩
theorem md{Q:ζ Vz->qa5->Prop}(O:A.handled=ψ)(L:ItAt s.heap I (qf8 j) i a es.size ep)(g1:s.heap.get? a=ς o)(Y:o.data=.set es ep t)(hf:t.fits es.size=θ)(Z:∀{A':qe0}{W:ζ (Vz×Nat)->qa5->Prop}{E':Vz->qa5->Prop},W ψ s->wpAny (model P u) A' (zc1 a j i ep) W E' s)
 (q:∀h',zh4 I s.heap h'->Q ψ {s with heap:=h'}):wpAny (model P u) A (qy0 (.ref I)) Q E s:=by
 obtain⟨oi,hi,hc,U⟩:=id L;unfold qy0;refine wB (qs7 (qe5 (name:=qa0 "__next__") L.ty slot_setit (qf1 slot_setit L.ty ig ?_ (gi _))));unfold qj4.«set_iterator.__next__»;refine wB (qa2 (wB (qr1 hi U ?_)));unfold zg2;refine wB (wB (qf2 g1 Y hf (qa2 ?_)));rw[if_neg Ξ];show wpAny _ _ (zc1 a ((j:Int)).toNat ((i:Int)).toNat ((ep:Int)).toNat >>= _) _ _ s;rw[qe2,qe2,qe2];refine wB (Z ?_);show wpAny _ _ (zb7 (.ref I) 2 .none >>= fun _=>zi4 (.type "StopIteration") [] >>= fun e=>zi5 e) _ _ s;refine qh3 (qj7 hi U Ξ ?_);show wpAny _ _ (zi4 (.type "StopIteration") [] >>= _) _ _ _;refine wB ?_;simp only[zi4,zj8];refine wB (qd4 ?_ (by size_fits));refine qh3 (m:=qm5 _ _) (zb3 (a:=qh5) (by first|rfl|(simp only[qm5];rfl)) ?_);refine qd4 ?_ (by size_fits);simp only[zi5];refine wB (zb4 ?_);rw[show A.in1.handled=ψ from O];refine wB (qa2 (zh5 ?_));refine wB (qr3 (T:="StopIteration") (b:=true) ⟨_,qa9 _ rfl,rfl⟩ zg6 ?_);exact qa2 (q _ ((qe8 ..).extBut.push _ |>.push _))
end
def gC:Slot "set_iterator" "__iter__" "set_iterator.__iter__":=.of (owner:="set_iterator") (n:="__iter__") (by rw[qs9,qm2];kernel_rfl) χ χ χ (by first|exact .inl χ|exact .inr χ) (by rw[zg7];kernel_rfl)
def lj:entryFor table "set_iterator.__iter__"=ς qj4.«dict_keyiterator.__iter__»:=entryFor_alias (id':="dict_keyiterator.__iter__") (by kernel_rfl) rfl χ (by kernel_rfl)
theorem kj(v:Vz):argsOk "set_iterator.__iter__" ⟨[v],[]⟩:=by unfold argsOk;rw[signature?_of (id:="set_iterator.__iter__") (n:=['_','_','r','e','t','i','_','_']) (o:=['r','o','t','a','r','e','t','i','_','t','e','s']) (by kernel_rfl) mX];kernel_rfl
variable{ord:Nat->Vz}
section
variable{P:qd1}{u:Ja}{A:qe0}{E:Vz->qa5->Prop}{s:qa5}{a I:J9}{o:Obj}{es:Array (Int×Vz)}{ep n:Nat}{t:qg3}
theorem g7(L:ItAt s.heap I first i a n ep)(q:Q (.ref I) s):wpAny (model P u) A (zj2 (.ref I)) Q E s:=by refine za0 L.ty gC (qf1 gC L.ty lj ?_ (kj _));show wpAny _ _ (ret (.ref I)) _ _ s;exact qa2 ⟨_,rfl,"set_iterator",_,L.ty,slot_setit.lookup,q⟩
def n4{Q:Bool->qa5->Prop}(U:s.TypeIs (.ref a) "set")(q:Q ξ s):wpAny (model P u) A (ql1 (.ref a)) Q E s:=by
 unfold ql1;refine wB (qx0 U PySem.F.slot_set_len.lookup ?_);generalize L:("set.__len__":String)=O
 wp_delta
 rw[show splitId O=ς ("set","__len__")from by subst L;decide +kernel];subst L;refine wB (qr3 (T:="set") (b:=true) U sub_set_self ?_);refine ql2 (fun z=>absurd z Ω) (fun _=>?_);refine ql2 (fun _=>wB (qu4 U (qa2 q))) (fun z=>absurd χ z)
def ItAt.keep(x:ItAt h I first i a n ep)(e:∀q,h.get? I=ς q->h'.get? I=ς q):ItAt h' I first i a n ep:=let ⟨q,g,r⟩:=x;⟨q,e q g,r⟩
def qZ {T:J9} {ps:Array Vz} (O:A.handled=ψ) (g3:o.data=.set es ep t) (hf:t.fits es.size=θ) (k2:ot.data=.seq ps m) (W:ps.size=es.size) (hI:I≠a) (Z:I≠T) (U:∀ i,i<es.size->∃ p hx,ps[i]?=ς (qf8 (p:Nat))/\es[p]?=ς (hx,ord i)) :
  WalksS P u A I [I,a,T] [I] (fun x y=>y=x) es.size (fun i v=>v=ord i) (fun i s=>ItAt s.heap I (.ref T) i a es.size ep/\s.heap.get? a=ς o/\s.heap.get? T=ς ot) where
 sub:=fun b L=>by rw[qa4.mp L];exact .head _
 grefl:=fun _=>rfl
 gtrans:=fun _ _ _ h1 h2=>h2.trans h1
 frame:=fun i s h' tk ⟨x,y,z⟩ _ e=>⟨x.keep fun q g=>e I (.head _) q g,e a (.tail _ (.head _)) _ y,e T (.tail _ (.tail _ (.head _))) _ z⟩
 item:=fun i s Q E hi ⟨x,y,z⟩ q=>by
  obtain⟨p,hx,h1,h2⟩:=U i hi;refine lg x y g3 hf z k2 h1 h2 fun h' it Y=>q _ _ rfl ⟨it,(Y.2 a (qq5 hI)).trans y,(Y.2 T (qq5 Z)).trans z⟩ ⟨fun b ob L e=>?_,rfl,rfl,rfl,nL _⟩
  exact(Y.2 b (fun w=>L (by rw[w];exact .head _))).trans e
 done:=fun s Q E ⟨x,y,z⟩ q=>ma O x y g3 hf z k2 W fun h' eb=>q _ ⟨fun b ob L e=>eb b ob (fun w=>L (by rw[w];exact .head _)) e,rfl,rfl,rfl,nL _⟩
 self:=fun i s Q E ⟨x,_⟩ q=>g7 x q
end
section
variable{P:qd1}{u:Ja}{K:Type}[DecidableEq K]{κ:SK P u K}{A:qe0}{E:Vz->qa5->Prop}{s:qa5}{a I:J9}{o:Obj}{es:Array (Int×Vz)}{ep n:Nat}{t:qg3}
def lm{sl:Nat->Nat}(O:A.handled=ψ)(g3:o.data=.set es ep t)(hf:t.fits es.size=θ)(hI:I≠a)
 (hn:∀i,i<es.size->∀(s:qa5),s.heap.get? a=ς o->∀{W:qe0}{U:ζ (Vz×Nat)->qa5->Prop}{Y:Vz->qa5->Prop},U (ς (ord i,sl (i+1))) s->wpAny (model P u) W (zc1 a (sl i) i ep) U Y s)
 (he:∀(s:qa5),s.heap.get? a=ς o->∀{W:qe0}{U:ζ (Vz×Nat)->qa5->Prop}{Y:Vz->qa5->Prop},U ψ s->wpAny (model P u) W (zc1 a (sl es.size) es.size ep) U Y s) :
  WalksS P u A I [I,a] [I] (fun x y=>y=x) es.size (fun i v=>v=ord i) (fun i s=>ItAt s.heap I (qf8 (sl i)) i a es.size ep/\s.heap.get? a=ς o) where
 sub:=fun b L=>by rw[qa4.mp L];exact .head _
 grefl:=fun _=>rfl
 gtrans:=fun _ _ _ h1 h2=>h2.trans h1
 frame:=fun i s h' tk ⟨x,y⟩ _ e=>⟨x.keep fun q g=>e I (.head _) q g,e a (.tail _ (.head _)) _ y⟩
 item:=fun i s Q E hi ⟨x,y⟩ q=>lh x y g3 hf (hn i hi s y) fun h' it Z=>q _ _ rfl ⟨it,(Z.2 a (qq5 hI)).trans y⟩ ⟨fun b ob L e=>(Z.2 b (fun w=>L (by rw[w];exact .head _))).trans e,rfl,rfl,rfl,nL _⟩
 done:=fun s Q E ⟨x,y⟩ q=>md O x y g3 hf (he s y) fun h' eb=>q _ ⟨fun b ob L e=>eb b ob (fun w=>L (by rw[w];exact .head _)) e,rfl,rfl,rfl,nL _⟩
 self:=fun i s Q E ⟨x,_⟩ q=>g7 x q
inductive AreK(κ:SK P u K):List Vz->List K->Prop
 |nil:AreK κ [] []
 |cons (k:K) (t:Tok) {vs:List Vz} {ks:List K}:AreK κ vs ks->AreK κ (κ.put k t::vs) (k::ks)
def AreK.len{vs:η Vz}{ks:η K}(h:AreK κ vs ks):vs.length=ks.length:=by
 induction h with
 |nil=>rfl
 |cons y tk _ q=>simp[q]
def pL{ss:η K}{l m:η (Int×Vz)}(x:Tx κ l ss)(p:m.Perm l):∃ks,AreK κ (m.map (·.2)) ks/\ks.Perm ss:=by
 have y:=x.perm p;refine⟨m.map fun e=>κ.of e.2,?_,y.per⟩
 have q:∀m:η (Int×Vz),(∀e∈m,∃k t,e.2=κ.put k t/\e.1=κ.knd.hash k)->AreK κ (m.map (·.2)) (m.map fun e=>κ.of e.2):=fun m=>by
  induction m with
  |nil=>intro _;exact .nil
  |cons e m L=>intro h;obtain⟨k,tk,h1,_⟩:=h e Ξ;rw[qa6,qa6,h1,κ.ofmk];exact .cons k tk (L fun z O=>h z (by simp[O]))
 exact q m y.all
def n5{ss:η K}(hS:TxS κ s.heap a ss (dq u))
 (q:∀(I:J9)(fp:η J9)(vs:η Vz)(ks:η K)(St:Nat->qa5->Prop)(d:Drawn)(h':Heap),(∀U:qe0,U.handled=ψ->WalksS P u U I fp [I] (fun x y=>y=x) vs.length (fun i v=>v=vs.getD i .none) St)->St 0 {s with drawn:=d,heap:=h'}->(∀b∈fp,b<h'.objs.size/\(b=a∨s.heap.objs.size<=b))->(∀b ob,s.heap.get? b=ς ob->h'.get? b=ς ob)->s.heap.objs.size<=I->AreK κ vs ks->ks.Perm ss->Q (.ref I) {s with drawn:=d,heap:=h'}) :
  wpAny (model P u) A (zj2 (.ref a)) Q E s:=by
 obtain⟨o,es,ep,t,g1,g2,g3,x,Y,hf,hl,hp⟩:=hS.ex;have la:a<s.heap.objs.size:=qb0 g1;refine pK g1 g2 g3 hf Y (fun ys d byP hd p=>?_) (fun hm=>?_)
 . -- drawn
   have hyl:ys.length=es.size:=by rw[p.length_eq,qn5]
   have perm:(ys.map fun i=>es.toList.getD i (0,.none)).Perm es.toList:=by
    refine(p.map _).trans ?_
    have e:(qd0 es.size).map (fun i=>es.toList.getD i (0,.none))=es.toList:=by
     apply qv2
     .simp
     .intro i h1 h2;simp at h1 h2;simp[h2]
    rw[e]
   obtain⟨ks,k1,k2⟩:=pL x perm;have Z:((ys.map fun i=>es.toList.getD i (0,.none)).map (·.2)).length=es.size:=by rw[qa1,qa1,hyl]
   refine q (s.heap.objs.size+1) [s.heap.objs.size+1,a,s.heap.objs.size] ((ys.map fun i=>es.toList.getD i (0,.none)).map (·.2)) ks (fun i s'=>ItAt s'.heap (s.heap.objs.size+1) (.ref s.heap.objs.size) i a es.size ep/\s'.heap.get? a=ς o/\s'.heap.get? s.heap.objs.size=ς {cls:=.type "tuple",data:=.seq (ys.map fun(i:Nat)=>qf8 i).toArray}) d _ (fun U L=>?_) ⟨⟨ld (.ref s.heap.objs.size) 0 a es.size ep,?_,rfl,rfl⟩,?_,?_⟩ ?_ ?_ (zb5 _) k1 k2
   .rw[Z];refine qZ L g3 hf rfl (by simp[hyl]) (ql9 (qi3 la)) (Nat.succ_ne_self _) fun i hi=>?_
    have O:i<ys.length:=by lia
    have hy:ys[i]<es.size:=qe9.mp (p.mem_iff.mp (qr4 O));refine⟨ys[i],es[ys[i]].1,by simp[O],?_⟩;simp[O,hy]
   .have:=qa9 (s.heap.push {cls:=.type "tuple",data:=.seq (ys.map fun(i:Nat)=>qf8 i).toArray}) (o:=ld (.ref s.heap.objs.size) 0 a es.size ep) rfl;rw[qg1]at this;exact this
   .exact gP _ (gP _ g1)
   .exact gP _ (qa9 _ rfl)
   .intro b Y;rw[qg1,qg1];rcases qa8.mp Y with rfl|Y
    .exact⟨ql7 _,.inr (zb5 _)⟩
    .rcases qa8.mp Y with rfl|Y
     .exact⟨qi3 (qi3 la),.inl rfl⟩
     .rw[qa4.mp Y];exact⟨qi3 (ql7 _),.inr (nL _)⟩
   .exact fun b ob e=>gP _ (gP _ e)
 . -- by the world's text,or one at most
   have fin:∀(m:η (Int×Vz))(sl:Nat->Nat),m.Perm es.toList->sl 0=0->(∀U:qe0,U.handled=ψ->WalksS P u U s.heap.objs.size [s.heap.objs.size,a] [s.heap.objs.size] (fun x y=>y=x) es.size (fun i v=>v=(m.map (·.2)).getD i .none) (fun i s'=>ItAt s'.heap s.heap.objs.size (qf8 (sl i)) i a es.size ep/\s'.heap.get? a=ς o))->Q (.ref s.heap.objs.size) {s with heap:=s.heap.push (ld (qf8 0) 0 a es.size ep)}:=fun m sl p h0 W=>by
    obtain⟨ks,k1,k2⟩:=pL x p;have Z:(m.map (·.2)).length=es.size:=by rw[qa1,p.length_eq,qd8]
    have:=q s.heap.objs.size [s.heap.objs.size,a] (m.map (·.2)) ks (fun i s'=>ItAt s'.heap s.heap.objs.size (qf8 (sl i)) i a es.size ep/\s'.heap.get? a=ς o) s.drawn (s.heap.push (ld (qf8 0) 0 a es.size ep)) (by rw[Z];exact W) ⟨⟨ld (qf8 0) 0 a es.size ep,qa9 _ rfl,rfl,by rw[h0];rfl⟩,gP _ g1⟩ (fun b Y=>by
     rw[qg1];rcases qa8.mp Y with rfl|Y
     .exact⟨ql7 _,.inr (nL _)⟩
     .rw[qa4.mp Y];exact⟨qi3 la,.inl rfl⟩) (fun b ob e=>gP _ e) (nL _) k1 k2
    exact this
   have ne:s.heap.objs.size≠a:=ql9 la;by_cases byT:dq u=ξ
   .refine fin (zf2 (u.params.setOrder a ep) es).toList (fun _=>0) (sZ _ _) rfl fun U L=>?_
    have hsz:(zf2 (u.params.setOrder a ep) es).size=es.size:=by have:=(sZ (u.params.setOrder a ep) es).length_eq;simpa using this
    refine lm L g3 hf ne (fun i hi s' gs U Q' E' q'=>fR byT gs g3 hf ?_) (fun s' gs U Q' E' q'=>fR byT gs g3 hf ?_)
    .have O:i<(zf2 (u.params.setOrder a ep) es).size:=by lia
     rw[qh0 O];simpa[O] using q'
    .rw[qo8 Θ];exact q'
   .have byP:dq u=θ:=by simpa using byT
    have one:¬ (t.plain=ξ/\1<es.size):=by
     rcases hm with h1|h1
     .exact absurd h1 byT
     .exact h1
    have hpl:t.place.size=es.size:=by unfold qg3.fits at hf;simp at hf;exact hf.1
    refine fin es.toList (fun i=>if h:0<i/\i<=t.place.size then t.place[i-1]+1 else 0) (qz2 _) Ξ fun U L=>?_
    have low:∀i,i<=es.size->qg2 t.place (if h:0<i/\i<=t.place.size then t.place[i-1]+1 else 0)=i:=fun i hi=>by
     by_cases h0:i=0
     .subst h0;simp[pG hp]
     .rw[dif_pos ⟨Θ,Θ⟩,qV hp Θ];lia
    refine lm L g3 hf ne (fun i hi s' gs U Q' E' q'=>gB byP (hl.trans byP) one gs g3 hf ?_) (fun s' gs U Q' E' q'=>gB byP (hl.trans byP) one gs g3 hf ?_)
    .rw[low i (qj1 hi),qh0 hi,qh0 Θ];rw[dif_pos ⟨Θ,Θ⟩]at q';simpa[hi] using q'
    .rw[low _ (nL _),qo8 Θ];exact q'
end
section
variable{P:qd1}{u:Ja}{K:Type}[DecidableEq K]{κ:SK P u K}{A:qe0}{E:Vz->qa5->Prop}{s:qa5}{a:J9}
def TxS.small{ss:η K}(x:TxS κ h a ss led):ss.length<qn8/\∃o,h.get? a=ς o/\o.cls=.type "set":=by obtain⟨o,es,ep,t,g1,g2,L,y,q,_⟩:=x.ex;refine⟨?_,o,g1,g2.1⟩;rw[<- y.per.length_eq,qa1,qd8];exact q
def km {ss:η K} {Q:η Vz->qa5->Prop} (calm:A.handled=ψ) (hS:TxS κ s.heap a ss (dq u))
  (q:∀(vs:η Vz)(ks:η K)(d:Drawn)(h':Heap)(tk:Nat),AreK κ vs ks->ks.Perm ss->s.heap.objs.size<=h'.objs.size->(∀b ob,s.heap.get? b=ς ob->h'.get? b=ς ob)->Q vs {s with drawn:=d,heap:=h',toks:=tk}):wpAny (model P u) A (collect (.ref a)) Q E s:=by
 obtain⟨hsz,o,g1,gc⟩:=hS.small;have la:a<s.heap.objs.size:=qb0 g1;unfold collect;refine wB (wpAny_runValue (qp6 PySem.F.entry_proto_collect ?_));rw[qm7 PySem.F.plain_proto_collect _];show wpAny _ A.in1 (newList [] >>= fun l=>again (.builtin "list.__iadd__" ⟨[l,.ref a],[]⟩)) _ _ s;refine wB (qd4 ?_);refine qa2 ⟨qw0 PySem.F.plain_list_iadd _,qp6 PySem.F.entry_list_iadd ?_⟩;rw[qm7 PySem.F.plain_list_iadd _];show wpAny _ A.in1 (qh2 (.ref s.heap.objs.size) (.ref a) (.ref s.heap.objs.size)) _ _ _;have hS1:TxS κ (s.heap.push {cls:=.type "list",data:=.seq ([]:η Vz).toArray}) a ss (dq u):=hS.moved fun ob e=>gP _ e
 have hT1:zi6 {s with heap:=s.heap.push {cls:=.type "list",data:=.seq ([]:η Vz).toArray}} (.ref a) "set":=⟨o,gP _ g1,gc⟩;have gL:(s.heap.push {cls:=.type "list",data:=.seq ([]:η Vz).toArray}).get? s.heap.objs.size=ς {cls:=.type "list",data:=.seq ([]:η Vz).toArray}:=qa9 _ rfl;unfold qh2;refine wB (qu4 hT1 ?_);have h1:qn9 (.ref s.heap.objs.size) (.ref a)=ξ:=by simp[qn9,ql9 la]
 have h2:(qk0 "set"==qk0 "list")=ξ:=by decide
 have h3:(qk0 "set"==qk0 "tuple")=ξ:=by decide
 simp only[h1,h2,h3,qv6,qf4,if_false];refine wB (n5 (s:={s with heap:=s.heap.push {cls:=.type "list",data:=.seq ([]:η Vz).toArray}}) hS1 fun I fp vs ks St d h' W st hfp keep hI k1 k2=>?_);have hTI:zi6 {s with drawn:=d,heap:=h'} (.ref a) "set":=⟨o,keep a o (gP _ g1),gc⟩;refine wB (qi5 (n4 hTI ?_));show wpAny _ A.in1 (rule "list.extend.makes-room" >>= fun _=>qj4.List.listTouch (.ref s.heap.objs.size) >>= fun _=>again (.builtin "list.extend.loop" ⟨[.ref s.heap.objs.size,.ref I,.ref s.heap.objs.size],[]⟩)) _ _ _;refine wB (qw3 (wB ?_));have Z:=keep _ _ gL;show wpAny _ A.in1 (updateSeq s.heap.objs.size (·.push .none) >>= fun _=>updateSeq s.heap.objs.size (·.pop)) _ _ _;refine wB (zf3 Z rfl ?_);have O:=qe6 (qo7 (·.push qh5)) Z rfl;refine zf3 O rfl ?_;have gL3:=qe6 (qo7 (·.pop)) O rfl;have oth:∀b ob,b≠s.heap.objs.size->h'.get? b=ς ob->((h'.update s.heap.objs.size (qo7 (·.push qh5))).update s.heap.objs.size (qo7 (·.pop))).get? b=ς ob:=fun b ob hb e=>(ql5 _ _ (qq5 hb)).trans ((ql5 _ _ (qq5 hb)).trans e)
 have Y:s.heap.objs.size∉fp:=fun hm=>by
  rcases(hfp _ hm).2 with z|z
  .exact ql9 la z
  .have z:(s.heap.push {cls:=.type "list",data:=.seq ([]:η Vz).toArray}).objs.size<=s.heap.objs.size:=z;rw[qg1]at z;exact Nat.not_succ_le_self _ z
 have W1:=W A.in1 (by simp[calm])
 have hvl:vs.length<=qb2:=by
  have e:vs.length=ss.length:=by rw[<- k2.length_eq];exact k1.len
  rw[e];exact qt8 hsz
 refine qa2 ⟨qw0 PySem.F.plain_extend_loop _,codeAny_extend_loopS W1 hvl _ Y _ vs.length 0 _ _ _ rfl (qi7 _) (W1.frame 0 ({s with drawn:=d,heap:=h'}:qa5) _ s.toks st (nL _) fun b hb ob e=>oth b ob (fun h=>Y (h▸hb)) e) gL3 (ItemsOf.nil _) fun s2 J5 c2 mv gS2 L=>?_⟩;show wpAny _ A (load s.heap.objs.size >>= _) _ _ s2;refine wB (wpAny_load gS2 ?_)
 have hav:J5.toList=vs:=by
  apply qv2
  .simpa using L.1
  .intro i h1 h2;have:=L.2 i J5.toList[i] Ξ;rw[this];simp[h2]
 rw[<- hav]at k1;obtain⟨h2',g2',d2',U,o2'⟩:=s2;have eg:g2'=s.gens:=mv.gens;have ed:d2'=d:=mv.drawn;have eo:o2'=s.os:=mv.os;subst eg ed eo;refine qa2 (q J5.toList ks d2' h2' U k1 k2 (qj1 (qb0 gS2)) fun b ob e=>?_);have nb:b≠s.heap.objs.size:=qc4 (qb0 e);refine mv.heap b ob (fun hm=>?_) (oth b ob nb (keep b ob (gP _ e)));rcases qa8.mp hm with z|z
 .exact nb z
 .rw[qa4.mp z]at e;have z2:(s.heap.push {cls:=.type "list",data:=.seq ([]:η Vz).toArray}).objs.size<=I:=hI;rw[qg1]at z2;exact absurd (qb0 e) (qw2.mpr (Nat.le_of_succ_le z2))
end
section
variable{P:qd1}{u:Ja}{K:Type}[DecidableEq K]{κ:SK P u K}{A:qe0}{E:Vz->qa5->Prop}{s:qa5}{a:J9}
def jb(κ:SK P u K)(L:η K->η K):Prop:=∀{A:qe0}{E:Vz->qa5->Prop}{s:qa5}{a:J9}{vs:η Vz}{ks:η K}{n:Nat}{Q:Fin->qa5->Prop},s.heap.get? a=ς (seqObj "list" vs.toArray n)->AreK κ vs ks->vs.length<64→ (∀q:Array Vz,AreK κ q.toList (L ks)->Q (.done (.ret .none)) {s with heap:=sortedHeap s.heap a vs q})->wpAny (model P u) A (qj4.«list.sort» ⟨[.ref a],[]⟩) Q E s
def ln{ss:η K}{L:η K->η K}(hs:jb κ L)(pm:∀{ks},ks.Perm ss->L ks=L ss)(W:A.handled=ψ)(hS:TxS κ s.heap a ss (dq u))(Y:ss.length<64)
 (q:∀(l:J9)(U:Array Vz)(d:Drawn)(h':Heap)(tk:Nat),AreK κ U.toList (L ss)->(∃e,h'.get? l=ς (seqObj "list" U e))->s.heap.objs.size<=l->(∀b ob,s.heap.get? b=ς ob->h'.get? b=ς ob)->Q (.ref l) {s with drawn:=d,heap:=h',toks:=tk}):wpAny (model P u) A (call (.builtin "sorted") [.ref a]) Q E s:=by
 refine Calls.call_function_entry kind_sorted plain_sorted entry_sorted (args_sorted1 _) ?_;unfold qj4.«sorted»;refine wB (m:=checkCount "sorted" 1 1 _) (qa2 ?_);refine qh3 (km (by simp[W]) hS fun vs ks d h' tk k1 k2 le keep=>?_);have O:vs.length<64:=by rw[k1.len,k2.length_eq];exact Y
 refine wB (wpAny_newList ?_ (qb9 (qj1 O) Ω));have Z:(h'.push (seqObj "list" vs.toArray 0)).get? h'.objs.size=ς (seqObj "list" vs.toArray 0):=qa9 _ rfl;show wpAny _ _ _ _ _ {s with drawn:=d,toks:=tk,heap:=h'.push (seqObj "list" vs.toArray 0)};refine wB (qi5 (qf1 slot_list_sort ⟨_,Z,rfl⟩ entry_list_sort (hs Z k1 O fun U a1=>⟨_,rfl,?_⟩) (args_list_sort _)));refine qa2 ⟨_,rfl,?_⟩;refine q _ _ d _ tk (pm k2▸a1) (sortedHeap_at Z) le fun b ob e=>?_
 have lt:b<h'.objs.size:=qb0 (keep b ob e);rw[sortedHeap_old (qc4 lt) (by rw[size_push'];exact qi3 lt)];exact gP _ (keep b ob e)
end
section
variable{P:qd1}{u:Ja}
def w8{vs:η Vz}{ks:η Str}(h:AreK (uY P u) vs ks):StrsAre vs ks:=by
 induction h with
 |nil=>exact .nil
 |cons k t _ q=>exact .cons k t q
def w9{vs:η Vz}{ks:η Str}(h:StrsAre vs ks):AreK (uY P u) vs ks:=by
 induction h with
 |nil=>exact .nil
 |cons k t _ q=>exact AreK.cons (κ:=uY P u) k t q
def xa{vs:η Vz}{ks:η Int}(h:AreK (pI P u) vs ks):zh0 vs ks:=by
 induction h with
 |nil=>exact .nil
 |cons k t _ q=>exact .cons k t q
def xb{vs:η Vz}{ks:η Int}(h:zh0 vs ks):AreK (pI P u) vs ks:=by
 induction h with
 |nil=>exact .nil
 |cons k t _ q=>exact AreK.cons (κ:=pI P u) k t q
def xc:jb (uY P u) gA:=fun {A E s a vs ks n Q} g k L q=>by
 have U:=w8 k;refine list_sort_treeK strKind_oneLt g U.keysOf (fun v1 v2 r e=>keyKind_strs (by rw[<- e];exact U)) L fun st a1 a2=>?_
 obtain⟨O,Z,Y,W⟩:=sorted_out_str U a1 a2;have e:O=gA ks:=jF (Y.trans (dL ks).symm) (uU O W) (i9 ks);exact q _ (w9 (e▸Z))
def xf{ss ks:η Str}(p:ks.Perm ss):gA ks=gA ss:=jF ((dL ks).trans (p.trans (dL ss).symm)) (i9 ks) (i9 ss)
def g8(ns:η Int):η Int:=ns.mergeSort fun a b=>decide (a<=b)
def dM(ns:η Int):(g8 ns).Perm ns:=List.mergeSort_perm ns _
def lp(ns:η Int):(g8 ns).Pairwise (· <= ·):=by have:=zb6 (le:=fun a b:Int=>decide (a<=b)) (fun a b c h1 h2=>by simp at *;lia) (fun a b=>by simp;lia) ns;exact this.imp fun {a b} h=>by simpa using h
def lq{a b:η Int}(p:a.Perm b)(h1:a.Pairwise (· <= ·))(h2:b.Pairwise (· <= ·)):a=b:=zk5.eq_of_pairwise (fun a b _ _ x y=>Int.le_antisymm x y) h1 h2 p
def xg:jb (pI P u) g8:=fun {A E s a vs ks n Q} g k L q=>by
 refine list_sort_tree g (xa k) L fun Y ns O W U=>?_
 have e:ns=g8 ks:=lq (W.trans (dM ks).symm) U (lp ks);exact q _ (xb (e▸O))
def xh{ss ks:η Int}(p:ks.Perm ss):g8 ks=g8 ss:=lq ((dM ks).trans (p.trans (dM ss).symm)) (lp ks) (lp ss)
end
section
variable{K:Type}[DecidableEq K]
def cb(ss:η K):η K:=ss.foldl fz []
def mY[Inhabited K](ss:η K):met (fun i=>ss.getD i default) ss.length=cb ss:=by
 unfold met cb;congr 1;apply qv2
 .simp
 .intro i h1 h2;simp at h1;simp[h1]
def jJ[Inhabited K](ss:η K):(cb ss).length<=ss.length:=by rw[<- mY];exact nY _ _
end
def Inv.dr(I:Inv X J1 σ H s)(d:Drawn):Inv X J1 σ H {s with drawn:=d}:=⟨I.ok,I.os,I.bare,I.base,I.loc,I.cell,I.free,I.freeC,I.pin,I.hok,I.len⟩
section
variable{X:Cx}{K:Type}[DecidableEq K][Inhabited K]{κ:SK X.prog X.w K}{kv:K->V}
theorem xi:∀{vs:η Vz}{ss:η K},AreK κ vs ss->∀(i:Nat)(v:Vz),vs[i]?=ς v->∃t,v=κ.put (ss.getD i default) t
 |_,_,.nil,i,v,h=>by simp at h
 |_,_,.cons y t r,0,v,h=>by simp at h;exact⟨t,by rw[<- h];rfl⟩
 |_,_,.cons y t r,i+1,v,h=>xi r i v (by simpa using h)
abbrev pM(κ:SK X.prog X.w K)(l:J9)(ss:η K):HO:=.ext fun h=>TxS κ h l ss (dq X.w)
def ra(κ:SK X.prog X.w K)(kv:K->V):Prop:=∀k v,RelV (kv k) v↔∃t,v=κ.put k t
theorem pO(hk:ra κ kv):∀{ss:η K}{J8:η Vz},Vals (ss.map kv) J8->AreK κ J8 ss
 |[],_,h=>by cases h;exact .nil
 |x::ss,_,h=>by
  cases h with
  |cons h1 h2=>obtain⟨t,rfl⟩:=(hk x _).mp h1;exact .cons x t (pO hk h2)
theorem pP(hk:ra κ kv):∀{J8:η Vz}{ss:η K},AreK κ J8 ss->Vals (ss.map kv) J8
 |_,_,.nil=>.nil
 |_,_,.cons x t h=>.cons ((hk x _).mpr ⟨t,rfl⟩) (pP hk h)
def mZ(hk:ra κ kv)(O:X.calm=θ):du X (.type "set") (fun xs H Q=>∃p ss,xs=[.ref p]/\SqL X.K H p (ss.map kv)/\ss.length<4000/\∀l,H l=ψ->Q (.ref l) (upd H l (pM κ l (cb ss)))):=by
 intro J1 s σ H xs us Q I r h;obtain⟨p,ss,rfl,hq,hz,q⟩:=h;obtain⟨u,rfl,rx⟩:=gJ r;cases rx;obtain⟨J8,r',W,hz'⟩:=I.list hq;have Z:=pO hk r';have L:J8.length=ss.length:=by have:=r'.length;simpa using this.symm
 have hi:∀(i:Nat)(v:Vz),J8.toArray[i]?=ς v->∃t,v=κ.put (ss.getD i default) t:=fun i v hv=>xi Z i v (by simpa using hv)
 have Y:J8.toArray.size+1<qn8:=by
  have:J8.toArray.size=ss.length:=by simpa using L
  rw[this];unfold qn8;lia
 refine w6 (I.ok.hd O) W.isList hi Y fun hp tk U kept=>?_
 have e:met (fun i=>ss.getD i default) J8.toArray.size=cb ss:=by rw[show J8.toArray.size=ss.length by simpa using L];exact mY ss
 rw[e]at U;refine⟨.ref s.heap.objs.size,_,I.laid (t':=tk) (fun b o g=>kept b o (qb0 g) g) (nL _) (show ObjOk X.prog X.w _ _ _ (pM κ s.heap.objs.size (cb ss))from⟨U,?_,fun h1 h2 x g=>x.moved g⟩),rfl,q _ (I.hok.fresh (nL _))⟩;obtain⟨_,o,g,_⟩:=U.small;exact⟨o,g⟩
theorem n6{L:η K->η K}(hk:ra κ kv)(hs:jb κ L)(pm:∀{ss ks},ks.Perm ss->L ks=L ss)(pl:∀ss,(L ss).length=ss.length)(O:X.calm=θ):du X (.builtin "sorted") (fun xs H Q=>∃p ss,xs=[.ref p]/\H p=ς (pM κ p ss)/\ss.length<64/\∀l,H l=ψ->Q (.ref l) (upd H l (.e ((L ss).map kv)))):=by
 intro J1 s σ H xs us Q I r h;obtain⟨p,ss,rfl,hq,Y,q⟩:=h;obtain⟨u,rfl,rx⟩:=gJ r;cases rx;have hT:TxS κ s.heap p ss (dq X.w):=(show ObjOk X.prog X.w H s.heap p (pM κ p ss)from I.hok p _ hq).1;refine ln hs pm (I.ok.hd O) hT Y fun l W d h' tk a1 U Z kept=>?_
 obtain⟨c,U⟩:=U;refine⟨.ref l,_,(I.laid (t':=tk) kept Z (show ObjOk X.prog X.w _ _ _ (.e ((L ss).map kv))from⟨?_,W.toList,c,pP hk a1,U⟩)).dr d,rfl,q _ (I.hok.fresh Z)⟩;rw[qa1,pl];exact qb9 (qj1 Y) Ω
end
def kvS{X:Cx}:ra (X:=X) (uY X.prog X.w) V.str:=fun _ _=>Iff.rfl
def kvI{X:Cx}:ra (X:=X) (pI X.prog X.w) V.int:=fun _ _=>Iff.rfl
def u0{K:Type}[DecidableEq K](rd:η Dt->ζ (η K))(q:η K->η K)(wr:K->Dt):η Dt->ζ T
 |[.e ds]=>(rd ds).bind fun ss=>if ss.length<4000/\(cb ss).length<64 then ς (.e ((q (cb ss)).map wr))else ψ
 |_=>ψ
noncomputable def lu:η Dt->ζ (η Int)
 |[]=>ς []
 |.int k::r=>(lu r).map (k::·)
 |_=>ψ
theorem kz{F:Hp}:∀{l:η Dt}{vs:η V}{bs:η Int},Reps K F l vs->lu l=ς bs->vs=bs.map V.int
 |[],vs,bs,r,h=>by cases h;simp only[Reps]at r;exact r
 |d::l,vs,bs,r,h=>by
  cases d<;>first|cases h;done|skip
  simp only[lu]at h;obtain⟨cs,L,h⟩:=mS h;cases h;simp only[Reps,Rep]at r;obtain⟨v,ws,rfl,rfl,q⟩:=r;rw[kz q L];rfl
def jc:η Dt->ζ T:=u0 jE gA .str
def fS:η Dt->ζ T:=u0 lu g8 .int
theorem m6{F:Hp}:∀ns:η Int,Reps K F (ns.map .int) (ns.map V.int)
 |[]=>by simp only[qj9,Reps]
 |x::ss=>by simp only[qa6,Reps];exact⟨_,_,rfl,by simp only[Rep],m6 ss⟩
section
variable{X:Cx}{e:Jc}{pos pos2 p p2:Pos}{sc:Jd}{fs:De->ζ (η Dt)}
def xj {K:Type} [DecidableEq K] [Inhabited K] {rd:η Dt->ζ (η K)} {q:η K->η K} {wr:K->Dt} (κ:SK X.prog X.w K) {kv:K->V} (hk:ra κ kv) (U:jb κ q) (pm:∀ {ss ks},ks.Perm ss->q ks=q ss) (pl:∀ ss,(q ss).length=ss.length)
  (hr:∀{F:Hp}{l:η Dt}{vs:η V}{bs:η K},Reps X.K F l vs->rd l=ς bs->vs=bs.map kv) (hw:∀{F:Hp}(ns:η K),Reps X.K F (ns.map wr) (ns.map kv))
  (h1:aM sc "sorted"=θ) (h2:aM sc "set"=θ) (Y:X.calm=θ) (m1:X.mg "sorted"=ψ) (m2:X.mg "set"=ψ) (ha:DAB X [e] fs) (e1:cu X sc)
  (s1:qa7 [.Call (.Name "set" p2) [e] [] pos2] X.env=(ξ,eval (.Call (.Name "set" p2) [e] [] pos2) X.env)::qa7 [] X.env) (n1:(qj6 pos (qa7 [] X.env)).any (·.1)=ξ)
  (s2:qa7 [e] X.env=(ξ,eval e X.env)::qa7 [] X.env) (n2:(qj6 pos2 (qa7 [] X.env)).any (·.1)=ξ):DO X (.Call (.Name "sorted" p) [.Call (.Name "set" p2) [e] [] pos2] [] pos) (ag (u0 rd q wr) fs):=
 PE.mono (ic h1 (n6 hk U pm pl Y) m1 (by rfl) (di (iD h2 (mZ hk Y) m2 (by rfl) ha.pa e1 s2 n2) fX s1) e1 s1 n1) fun σ H Q ⟨Φ,δ,F,t,hK,en,Z,k⟩=>by
  unfold ag at Z;obtain⟨ds,hd,L⟩:=bS Z;refine⟨Φ,δ,F,ds,hK,en,hd,fun vs H1 F1 st r=>?_⟩;unfold u0 at L;split at L<;>first|(cases L;done)|skip
  obtain⟨ss,U,L⟩:=bS L;split at L<;>cases L
  rename_i hz;obtain⟨v,rfl,rv⟩:=fm r;obtain⟨b,ws,rfl,g1,g2⟩:=rv;have:=hr g2 U;subst this;refine⟨b,ss,rfl,g1,hz.1,fun l hl=>?_⟩;have O:Step F1 H1 F1 (upd H1 l (pM κ l (cb ss))):=Step.made st.fh hl;refine⟨l,cb ss,rfl,aU,hz.2,fun l2 W=>?_⟩;exact fA (k.step (st.trans O)) O.fh (hw _) W
def re (h1:aM sc "sorted"=θ) (h2:aM sc "set"=θ) (L:X.calm=θ) (W:X.mg "sorted"=ψ) (U:X.mg "set"=ψ) (q:DAB X [e] fs) (e1:cu X sc:=by rfl)
  (s1:qa7 [.Call (.Name "set" p2) [e] [] pos2] X.env=(ξ,eval (.Call (.Name "set" p2) [e] [] pos2) X.env)::qa7 [] X.env:=by rfl) (n1:(qj6 pos (qa7 [] X.env)).any (·.1)=ξ:=by rfl)
  (O:qa7 [e] X.env=(ξ,eval e X.env)::qa7 [] X.env:=by rfl) (n2:(qj6 pos2 (qa7 [] X.env)).any (·.1)=ξ:=by rfl):DO X (.Call (.Name "sorted" p) [.Call (.Name "set" p2) [e] [] pos2] [] pos) (ag jc fs):=
 xj (uY X.prog X.w) kvS xc xf (fun ss=>(dL ss).length_eq) (fun g h=>mJ g h) (fun ss=>mU ss) h1 h2 L W U q e1 s1 n1 O n2
def pQ (h1:aM sc "sorted"=θ) (h2:aM sc "set"=θ) (L:X.calm=θ) (W:X.mg "sorted"=ψ) (U:X.mg "set"=ψ) (q:DAB X [e] fs) (e1:cu X sc:=by rfl)
  (s1:qa7 [.Call (.Name "set" p2) [e] [] pos2] X.env=(ξ,eval (.Call (.Name "set" p2) [e] [] pos2) X.env)::qa7 [] X.env:=by rfl) (n1:(qj6 pos (qa7 [] X.env)).any (·.1)=ξ:=by rfl)
  (O:qa7 [e] X.env=(ξ,eval e X.env)::qa7 [] X.env:=by rfl) (n2:(qj6 pos2 (qa7 [] X.env)).any (·.1)=ξ:=by rfl):DO X (.Call (.Name "sorted" p) [.Call (.Name "set" p2) [e] [] pos2] [] pos) (ag fS fs):=
 xj (pI X.prog X.w) kvI xg xh (fun ss=>(dM ss).length_eq) (fun g h=>kz g h) (fun ss=>m6 ss) h1 h2 L W U q e1 s1 n1 O n2
end
section
variable{P:qd1}{u:Ja}{A:qe0}{E:Vz->qa5->Prop}{s:qa5}{Ty:String}{r d:J9}{n:Nat}{Pr:Nat->Vz->Prop}{OK:Heap->Prop}
end
section
variable{X:Cx}
variable{e o:Jc}{es:η Jc}{fo:De->ζ Dt}{fs:De->ζ (η Dt)}{apos cpos pos:Pos}
def q57(i:Nat)(f:De->ζ T):De->ζ Out:=fun δ=>match δ[i]? with
 |some (ς (.e l))=>(f δ).bind fun t=>match t with
  |.e m=>if l.length+m.length<=qb2 then ς (.nx (δ.set i (ς (.e (l++m)))))else ψ
  |_=>ψ
 |_=>ψ
def m7{fe:De->ζ T}(hx:PE X o (iM i))(he:DO X e fe)
 (U:zb2 o "extend" X.env (eval o X.env)=eval o X.env:=by rfl)
 (W:((qj6 cpos (qa7 [e] X.env)).all (fun x=>!x.1)&&(backToKw cpos (zh2 [] X.env)).all (fun x=>x.1.isSome)
 && decide ([e].length+([]:η ze3).length+(if([]:η ze3).isEmpty then 0 else 1)<30))=θ:=by rfl)
 (O:(apos.endLine==cpos.line)=θ:=by rfl) (hs:qa7 [e] X.env=(ξ,eval e X.env)::qa7 [] X.env:=by rfl) (L:(qj6 cpos (qa7 [] X.env)).any (·.1)=ξ:=by rfl)
 (Z:qo5 (.Call (.Attribute o "extend" apos) [e] [] cpos) ψ pos.line X.env=pure ξ:=by rfl) :
  DS1 X (.Expr (.Call (.Attribute o "extend" apos) [e] [] cpos) pos) (q57 i fe):=
 PS.mono (rV (vT PySem.F.plainAttrs_list PySem.F.slot_list_extend PySem.F.type_list_extend ur hx (di he fX hs) U W O hs L) Z) fun D σ H ⟨Φ,δ,F,ot,hK,en,q,k⟩=>by
  unfold q57 at q;split at q<;>first|cases q;done|skip
  rename_i l hl;obtain⟨t,hd,q⟩:=bS q;split at q<;>first|cases q;done|skip
  rename_i m;split at q<;>first|cases q;done|skip
  rename_i hz;cases q;obtain⟨a,vs,hv,h1,h2⟩:=en.ownL hl;refine⟨.ref a,hv,.inl ⟨rfl,vs,.inl (.inl h1)⟩,Φ,δ,F,.e m,hK,en,hd,fun v H1 F1 S st ov hS=>?_⟩;have en1:=en.step st;have Y:=st.hh _ _ h1;obtain⟨b,ws,rfl,sb,g1,g2⟩:=ov;refine⟨a,b,vs,ws,rfl,rfl,Y,g1,by rw[h2.length,g2.length];exact hz,?_⟩;refine k σ F1 _ (en1.poke hl hv rfl fun S sa=>⟨a,vs++ws,rfl,sa,aU,(h2.same st.ff).append (hK▸g2)⟩)
end
def Bn(outer:Jd)(NX N ps fr:η Str)(js:η Nat)(sc:Jd):Bool:=
 (match sc.kind with|.function=>θ|_=>ξ)&&!sc.isCoroutine&&!sc.isGenerator&&decide N.Nodup&&decide (N.take ps.length=ps)&&decide (N.drop (N.length-fr.length)=fr)&&decide (ps.length+fr.length<=N.length)&&
 ps.all (fun x=>decide (sc.names.lookup x=ς .local)||decide (sc.names.lookup x=ς .cell))&&
 fr.all (fun x=>decide (sc.names.lookup x=ς .free))&&
 sc.names.all (fun y=>!decide (y.2=.free)||decide (y.1∈fr))&&
 sc.names.all (fun y=>decide (sc.names.lookup y.1=ς y.2))&&
 decide (ps.length=1)&&
 sc.names.all (fun y=>!decide (y.2=.free)||decide (outer.names.lookup y.1=ς .cell))&&
 decide (js.length=fr.length)&&
 (fr.zip js).all (fun p=>decide (NX[p.2]?=ς p.1)&&decide (outer.names.lookup p.1=ς .cell))
structure NsC(outer:Jd)(NX N ps fr:List Str)(js:List Nat)(sc:Jd):Prop where
 S:ClScope N ps fr sc
 nd:N.Nodup
 ndn:∀x,∀y∈sc.names,y.1=x->sc.names.lookup x=ς y.2
 one:ps.length=1
 fre:∀x∈sc.names,x.2=.free->outer.names.lookup x.1=ς .cell
 jl:js.length=fr.length
 nm:∀(i j:Nat)(x:Str),fr[i]?=ς x->js[i]?=ς j->NX[j]?=ς x/\outer.names.lookup x=ς .cell
 all:∀x∈sc.names,x.2=.free->x.1∈fr
def NsC.of{outer:Jd}{NX fr:η Str}(h:Bn outer NX N ps fr js sc=θ):NsC outer NX N ps fr js sc:=by
 unfold Bn at h;simp only[qb3,qk1,qi8,qi1,decide_eq_true_eq,decide_eq_false_iff_not]at h;obtain⟨⟨⟨⟨⟨⟨⟨⟨⟨⟨⟨⟨⟨⟨h1,h2⟩,h3⟩,h4⟩,h5⟩,h6⟩,h7⟩,h8⟩,h9⟩,U⟩,L⟩,O⟩,Z⟩,h14⟩,Y⟩:=h;have q:∀x∈sc.names,x.2=.free->x.1∈fr:=fun x W e=>(U x W).resolve_left fun z=>z e
 have hk:sc.kind=.function:=by revert h1;cases sc.kind<;>simp
 refine⟨⟨hk,h2,h3,h4,h5,h6,h7,h8,h9,fun x e=>q _ (PySem.mem_of_lookup e) rfl⟩,h4,fun x y hy e=>by rw[<- e];exact L y hy,O,fun x W e=>(Z x W).resolve_left fun z=>z e,h14,fun i j x e1 e2=>?_,q⟩;have hm:(x,j)∈fr.zip js:=qc8 (i:=i) (by rw[qr0];exact⟨e1,e2⟩);exact Y (x,j) hm
variable{qs:η ((Nat×Nat)×Str)}
section
variable{X:Cx}{name qual:Str}{params:qj2}{body:η Jb}{scope outer:Jd}{NX N ps fr:η Str}{js:η Nat}{g:De->ζ Out}{kk i:Nat}{pos:Pos}
def NestD.of (C:NsC outer NX N ps fr js scope) (O:∀ (s:qa5) (cl:η (Str×J9)) (doc pm ctv L:Vz) (us:η Vz),us.length=ps.length->za9 s (xG9 name qual params body scope cl .none .none doc pm ψ L ctv) ⟨us,[]⟩ (ps.zip us))
  (q:∀(f c':J9)(cl:η (Str×J9))(A:qe0)(outer:η Env)(s:qa5)(H:Hp),Room kk (A.deeper (iS qual scope s.heap.objs.size f (.ref c') cl))->DS (pd CX0 X.prog X.w X.K X.mg X.base N qual scope f (.ref c') cl A outer s H E0 fun _ _=>False) body g)
  (e1:cu X outer:=by rfl) (U:X.N=NX:=by rfl):NestD X name qual params body scope N ps fr js g kk:=by
 have e1:X.env.scope=outer:=e1;subst e1 U;exact⟨C.S,C.ndn,C.one,C.fre,C.jl,C.nm,O,q⟩
noncomputable def hasQ(qs:η ((Nat×Nat)×Str))(pos:Pos)(qual:Str):Bool:=decide (((pos.line,pos.col),qual)∈qs)&&qs.all fun p=>!decide (p.1=(pos.line,pos.col))||decide (p.2=qual)
def tj{c P:J9}(h:eC outer NX i name=θ)(hl:jC outer name=θ)(nd:NX.Nodup)(C:NsC outer NX N ps fr js scope)(B:TabB X.mg X.base c P)(hT:(P,qs)∈dD X.K)(O:hasQ qs pos qual=θ)
 (L:X.env.code=.ref c:=by rfl) (U:qualnameIn X.env name name=qual:=by rfl) (Z:params.defaults=[]:=by rfl) (Y:params.kw_defaults=[]:=by rfl) (ha:annTrees params ψ X.env=[]:=by rfl)
 (e1:cu X outer:=by rfl) (e2:X.N=NX:=by rfl) (W:X.fn name=θ:=by rfl):PS X (.FunctionDef name params body [] ψ [] scope ψ name pos) (sQ i name qual params body scope (fZ scope.names X.env.cells)):=fun J1 s σ H D I hh=>by
 have e1:X.env.scope=outer:=e1;subst e1 e2;unfold hasQ at O;simp only[qb3,qk1,qi8,qi1,decide_eq_true_eq,decide_eq_false_iff_not]at O;exact Ad nd (iC h) (kW hl) (.inl W) B L hT U O.1 (fun q hm=>(O.2 _ hm).resolve_left fun z=>z rfl) (iA fun x hx e=>I.ok.has x.1 (.inl (C.fre x hx e))) Z Y ha J1 s σ H D I hh
def Di{i1 i2:Nat}(h:decide (i1<NX.length/\i2<NX.length)=θ)(q:X.N=NX:=by rfl):∀ σ:St,σ.length=X.N.length->i1<σ.length/\i2<σ.length:=fun σ e=>by rw[e,q];exact of_decide_eq_true h
end
structure DefC(K:xA9)(mg:Str->Option Vz)(x:Str)(st:Jb)(ps:List Str)(c:J9):Prop where
 ex:∃(f:J9)(oc:Vz)(od:Option J9)(kV doc pm:Vz)(an:Option J9)(ct:Vz)(osl:Array (Option Vz)),mg x=ς (.ref f)/\xF9 K (.ref f)=θ/\Binds K (xC9 x x (ck st) (bc st) (ac st) .none kV doc pm an (.ref c) ct) ps []∧K.lookup f=ς ⟨oc,od,.func (xC9 x x (ck st) (bc st) (ac st) .none kV doc pm an (.ref c) ct),osl⟩/\xH9 K (.ref c) x=θ
section
variable{P:qd1}{w:Ja}{K:xA9}{mg:Str->ζ Vz}{base:Heap}{x:Str}{st:Jb}{N ps:η Str}{c:J9}
def DefC.mk'{oc:Vz}{od an:ζ J9}{osl:Array (ζ Vz)}{kV doc pm ct:Vz}(X:K.In h)(G:h.Ns qc3 mg)
 (a:xB9 K qc3 x=ς (ς (.ref f)))
 (l:K.lookup f=ς ⟨oc,od,.func (xC9 x x (ck st) (bc st) (ac st) .none kV doc pm an (.ref c) ct),osl⟩) (q:xH9 K (.ref c) x=θ) (k:xF9 K (.ref f)=θ)
 (L:∀(kV doc pm:Vz)(an:ζ J9)(cdv ct:Vz)(us:η Vz),us.length=ps.length->zi1 (xC9 x x (ck st) (bc st) (ac st) .none kV doc pm an cdv ct) ⟨us,[]⟩=pure (ps.zip us)):DefC K mg x st ps c:=
 ⟨f,oc,od,kV,doc,pm,an,ct,osl,xI9 X G a,k,(nJ l q k).binds L,l,q⟩
def Dj{k:Nat}{g:De->ζ Out}(D:DefC K mg x st ps c)(S:FnScope N ps (ac st))(Z:ps.length=n)
 (L:∀(f:J9)(A:qe0)(outer:η Env)(s:qa5)(H:Hp)(E:XK),Room k (A.deeper (qz4 x (ac st) s.heap.objs.size f (.ref c)))->DS (kO CX0 P w K mg base N x (ac st) f (.ref c) A outer s H E).nox (bc st) g) :
  OkF P w K mg base x (k+1) ps (spD K n (bH N.length g)):=by
 obtain⟨f,oc,od,kV,doc,pm,an,ct,osl,h1,h2,h3,lk,U⟩:=D.ex;refine⟨f,_,h1,h2,h3,A8 lk U S (fun vs H Q E h=>?_) fun A outer s H vs Q E hr h=>?_⟩
 .obtain⟨F,ds,t,_,W,r,_⟩:=h;rw[r.length,W,Z]
 .obtain⟨F,ds,t,Y,W,r,O,kq⟩:=h;refine⟨_,PSs.nox (L f A outer s H E hr),?_⟩;unfold bH at O;split at O
  .rename_i t' q;cases O;exact⟨⟨K,F,H,fun _=>False⟩,_,F,_,rfl,fO Y r,q,fun v F' H' z=>z.step kq⟩
  .rename_i δ' q;cases O;exact⟨⟨K,F,H,fun _=>False⟩,_,F,_,rfl,fO Y r,q,fun σ' F' H' z=>(z.rt (Step.refl z.fh) (t:=.f .non) (S:=fun _=>False) (iZ (K:=K) (F:=F')) fun _ y=>y.elim).step kq⟩
  .cases O
def Aj{P:J9}(q:decide (x∈nestNames)=θ)(h:qm K x=ς (P,qs)):(P,qs)∈dD K:=qy2.mpr ⟨x,of_decide_eq_true q,h⟩
end
variable{R:Result->qa5->Prop}
section
variable{P:qd1}{u:Ja}{B:qe0}{Ex:Vz->qa5->Prop}{s:qa5}{it l:J9}{xs:Array Vz}
def n8:zf6 (.type "list_reverseiterator") "__len__"=pure ψ:=by rw[qs9,qm2];kernel_rfl
def me:zf6 (.type "list_reverseiterator") "__length_hint__"=pure (ς (.builtin "list_reverseiterator.__length_hint__")):=by rw[qs9,qm2];kernel_rfl
def xk{W:Bool->qa5->Prop}(L:s.TypeIs (.ref it) "list_reverseiterator")(q:W ξ s):wpAny (model P u) B (ql1 (.ref it)) W Ex s:=by
 unfold ql1;refine wB (qx0 L n8 ?_)
 wp_delta
 refine ql2 (fun z=>absurd z Ω) fun _=>?_
 refine ql2 (fun z=>absurd z Ω) fun _=>?_
 refine wB (qx0 L me ?_);generalize hi:("list_reverseiterator.__length_hint__":String)=j
 wp_delta
 rw[show splitId j=ς ("list_reverseiterator","__length_hint__")from by subst hi;decide +kernel];subst hi;refine wB (qr3 (T:="list_reverseiterator") (b:=true) L (by rw[zg7];kernel_rfl) ?_);refine ql2 (fun z=>absurd z Ω) fun _=>?_
 refine ql2 (fun _=>?_) fun z=>absurd χ z
 refine ql2 (fun z=>absurd z χ) fun _=>?_
 exact qa2 q
abbrev tm(xs:Array Vz):Nat->Vz->Prop:=fun i v=>xs[xs.size-1-i]?=ς v
def rf(L:B.handled=ψ)(hi:s.heap.IsRevIter it l ((xs.size:Int)-1))(hl:s.heap.IsList l xs)(O:l≠it)(t:J9)(n1:t≠it)(n2:t≠l)(rs:Vz)(Y:Nat)(ht:s.heap.get? t=ς {cls:=.type "list",data:=.seq #[] Y})(fits:xs.size<=qb2)
 (q:∀(h':Heap)(tk:Nat)(ys:Array Vz)(c:Nat),(∀b o,b≠t->b≠it->s.heap.get? b=ς o->h'.get? b=ς o)->h'.get? t=ς {cls:=.type "list",dict:=ψ,data:=.seq ys c,slots:=#[]}->ItemsOf (tm xs) ys xs.size->R (.ok (.ret rs)) {s with heap:=h',toks:=tk}) :
  wpAny (model P u) B.in1 (qh2 (.ref t) (.ref it) rs) (fun fin s'=>match fin with|.done f=>R (.ok f) s'|.again c'=>c'.quiet=θ/\qq6 (model P u) B c' R s') (fun e s'=>R (.error e) s') s:=by
 have tn:t∉[it,l]:=by
  intro z;rcases qa8.mp z with z|z
  .exact n1 z
  .exact n2 (qa4.mp z)
 have Wk:=Walks.listRev (prog:=P) (w:=u) (A:=B.in1) (by simpa using L) it l O xs
 have go:qq6 (model P u) B (.builtin "list.extend.loop" ⟨[.ref t,.ref it,rs],[]⟩) R s:=by
  refine codeAny_extend_loopS Wk.toS fits t tn rs xs.size 0 _ #[] Y rfl (qi7 _) ⟨qi7 _,by simpa using hi,hl⟩ ht (ItemsOf.nil _) fun s' ys c W U J8=>?_
  rw[Moved.eq_with W];refine q s'.heap s'.toks ys c (fun b o b1 b2 e=>W.heap b o (fun z=>?_) e) U J8;rcases qa8.mp z with z|z
  .exact b1 z
  .exact b2 (qa4.mp z)
 unfold qh2;refine wB (qu4 (T:="list_reverseiterator") hi.typeIs ?_);have e1:qn9 (.ref t) (.ref it)=ξ:=by simp[qn9,n1]
 have e2:(qk0 "list_reverseiterator"==qk0 "list")=ξ:=by decide +kernel
 have Z:(qk0 "list_reverseiterator"==qk0 "tuple")=ξ:=by decide +kernel
 simp only[e1,e2,Z,qv6,qf4,if_false];refine wB (wpAny_pyIter_revIter hi ?_);refine wB (qi5 (xk hi.typeIs ?_));refine ql2 (fun z=>absurd z χ) fun _=>?_
 exact qa2 ⟨qw0 PySem.F.plain_extend_loop _,go⟩
def xl(O:B.handled=ψ)(hi:s.heap.IsRevIter it l ((xs.size:Int)-1))(hl:s.heap.IsList l xs)(U:l≠it)(t:J9)(n1:t≠it)(n2:t≠l)(Y:s.heap.get? t=ς {cls:=.type "list",data:=.seq #[]})(fits:xs.size<=qb2)
 (q:∀(h':Heap)(tk:Nat)(ys:Array Vz)(c:Nat),(∀b o,b≠t->b≠it->s.heap.get? b=ς o->h'.get? b=ς o)->h'.get? t=ς {cls:=.type "list",dict:=ψ,data:=.seq ys c,slots:=#[]}->ItemsOf (tm xs) ys xs.size->R (.ok (.ret .none)) {s with heap:=h',toks:=tk}) :
  wpAny (model P u) B.in1 (qj4.«list.__init__» ⟨[.ref t,.ref it],[]⟩) (fun fin s'=>match fin with|.done f=>R (.ok f) s'|.again c'=>c'.quiet=θ/\qq6 (model P u) B c' R s') (fun e s'=>R (.error e) s') s:=by
 show wpAny _ _ (do let Z <- zd3 (.ref t);qj4.List.listUpdate (.ref t) (fun _=>#[]);letGo Z.toList.reverse;qh2 (.ref t) (.ref it) .none) _ _ s;refine wB ?_;unfold zd3;refine wB (qu3 Y rfl (qa2 ?_));show wpAny _ _ (updateSeq t (fun _=>#[]) >>= fun _=>letGo (#[]:Array Vz).toList.reverse >>= fun _=>qh2 (.ref t) (.ref it) .none) _ _ s;refine wB (zf3 Y rfl ?_);have W:=qe6 (qo7 (fun _=>(#[]:Array Vz))) Y rfl;have L:∀b o,b≠t->s.heap.get? b=ς o->(s.heap.update t (qo7 (fun _=>(#[]:Array Vz)))).get? b=ς o:=fun b o hb e=>(ql5 _ _ (qq5 hb)).trans e
 refine wB (wpAny_letGo ?_);exact rf O (hi.at fun o e=>L _ o n1.symm e) (hl.at fun o e=>L _ o n2.symm e) U t n1 n2 .none _ W fits fun h' tk ys c k k2 k3=>q h' tk ys c (fun b o b1 b2 e=>k b o b1 b2 (L b o b1 e)) k2 k3
def xm {W:Vz->qa5->Prop} (U:B.handled=ψ) (hi:s.heap.IsRevIter it l ((xs.size:Int)-1)) (Z:s.heap.IsList l xs) (Y:l≠it) (fits:xs.size<=qb2)
  (q:∀(h':Heap)(tk:Nat)(ys:Array Vz)(c:Nat),(∀b o,b≠it->s.heap.get? b=ς o->h'.get? b=ς o)->h'.get? s.heap.objs.size=ς {cls:=.type "list",dict:=ψ,data:=.seq ys c,slots:=#[]}->ItemsOf (tm xs) ys xs.size->W (.ref s.heap.objs.size) {s with heap:=h',toks:=tk}) :
  wpAny (model P u) B (call (.type "list") [.ref it]) W Ex s:=by
 refine callType_codes (Q₁:=fun z L=>z=.ref s.heap.objs.size/\L={s with heap:=s.heap.push {cls:=.type "list",data:=.seq #[]}}) PySem.F.called_list (PySem.F.typeCall_list_1 _) PySem.F.entry_list_init (code_list_new _ ⟨rfl,rfl⟩) fun z L O=>?_
 obtain⟨rfl,rfl⟩:=O;have ht:(s.heap.push {cls:=.type "list",data:=.seq #[]}).get? s.heap.objs.size=ς {cls:=.type "list",data:=.seq #[]}:=qa9 _ rfl;have l1:it<s.heap.objs.size:=let ⟨_,e,_⟩:=hi;qb0 e;have l2:l<s.heap.objs.size:=let ⟨_,e,_⟩:=Z;qb0 e;refine⟨⟨_,ht,rfl⟩,PySem.F.args_list_init_2 _ _,xl (B:=B.in1) (by simpa using U) (hi.at fun o e=>ql3 _ e) (Z.at fun o e=>ql3 _ e) Y _ (ql9 l1) (ql9 l2) ht fits fun h' tk ys c k k2 k3=>?_⟩;exact⟨rfl,q h' tk ys c (fun b o b1 e=>k b o (qc4 (qb0 e)) b1 (gP _ e)) k2 k3⟩
def xp{J8 ys:η Vz}(r:Vals vs J8)(q:ys.length=J8.length)(h:∀(i:Nat)(v:Vz),ys[i]?=ς v->J8[J8.length-1-i]?=ς v):ys=J8.reverse:=by
 apply za6;intro i;by_cases hi:i<ys.length
 .have e:=h i ys[i] (gQ hi);rw[List.getElem?_reverse Θ,e,gQ hi]
 .rw[zf4 Θ,zf4 (by simp;lia)]
end
def tLR(X:Cx)(ta:TA):TE:=fun σ H Q=>ta σ H fun xs H1=>∃p vs,xs=[.ref p]/\SqL X.K H1 p vs/\∀l,H1 l=ψ->Q (.ref l) (upd H1 l (.e vs.reverse))
section
variable{X:Cx}{e:Jc}{ta:TA}{p1 p2 pos1 pos2:Pos}{sc:Jd}
def pR:qd7 "reversed"=ς (.type "reversed"):=χ
theorem jd:∀{vs:η V}{us:η Vz},Vals vs us->Vals vs.reverse us.reverse
 |_,_,.nil=>.nil
 |_,_,.cons h r=>by rw[qo0,qo0];exact(jd r).append (.cons h .nil)
def rg (h1:aM sc "list"=θ) (h2:aM sc "reversed"=θ) (hm1:X.mg "list"=ψ) (hm2:X.mg "reversed"=ψ) (hc:X.calm=θ) (ha:PA X [e] ta) (e1:cu X sc:=by rfl) (hs:qa7 [e] X.env=[(ξ,eval e X.env)]:=by rfl)
  (Y:qa7 [.Call (.Name "reversed" p2) [e] [] pos2] X.env=[(ξ,eval (.Call (.Name "reversed" p2) [e] [] pos2) X.env)]:=by rfl) :
  PE X (.Call (.Name "list" p1) [.Call (.Name "reversed" p2) [e] [] pos2] [] pos1) (tLR X ta):=by
 intro J1 s σ H Q I h'
 have U:wpAny (model X.prog X.w) X.A (eval (.Call (.Name "reversed" p2) [e] [] pos2) X.env) (fun u s2=>∃it p vs H1,u=.ref it/\Inv X J1 σ H1 s2/\iq X J1 H1 it/\p≠it/\SqL X.K H1 p vs/\s2.heap.IsRevIter it p ((vs.length:Int)-1)/\(∀l,H1 l=ψ->Q (.ref l) (upd H1 l (.e vs.reverse)))) X.xe s:=by
  refine Call_ (fW I (glD h2 e1) hm2 pR (qf9 (thn (ha pos2 J1 s σ H _ I h') fun us s1 ⟨vs,H1,I1,r1,q1⟩=>?_) hs rfl));obtain⟨p,vs,rfl,hq,q⟩:=q1;obtain⟨u,rfl,ru⟩:=gJ r1;cases ru;obtain⟨J8,r',pl,O⟩:=I1.list hq;have L:J8.toArray.size=vs.length:=by have:=r'.length;simpa using this.symm
  refine call_reversed_list pl.isList ?_;have W:=I1.kept (t':=s1.toks) (h':=s1.heap.push (revObj p ((J8.toArray.size:Int)-1))) fun b o g=>gP _ g
  have fp:=I1.fpOk (b:=s1.heap.objs.size) (nL _) (I1.hok.fresh (nL _));refine⟨s1.heap.objs.size,p,vs,H1,rfl,W,fp,?_,hq,⟨_,qa9 _ rfl,rfl,by rw[<- L];rfl⟩,q⟩;obtain⟨_,g,_⟩:=pl.isList;exact qc4 (qb0 g)
 have key:wpAny (model X.prog X.w) X.A (spliced (qj6 pos1 (qa7 [.Call (.Name "reversed" p2) [e] [] pos2] X.env))) (fun vs Z=>wpAny (model X.prog X.w) X.A (call (.type "list") vs) (EP X J1 σ Q) X.xe Z) X.xe s:=?key
 .exact Call_ (fW I (glD h1 e1) hm1 nN (qf9 key Y rfl))
 rw[Y];show wpAny _ _ (spliced ((ξ,eval (.Call (.Name "reversed" p2) [e] [] pos2) X.env)::[])) _ _ s;refine Calls.spliced_cons (thn U fun u s2 w=>Calls.spliced_nil ?_);obtain⟨it,p,vs,H1,rfl,W,fp,hne,hq,hR,q⟩:=w;obtain⟨J8,r',pl,O⟩:=W.list hq;have L:J8.toArray.size=vs.length:=by have:=r'.length;simpa using this.symm
 have fits:J8.toArray.size<=qb2:=by first|exact O|(rw[L];exact O)|simpa using O
 refine xm (W.ok.hd hc) (by rw[L];exact hR) pl.isList hne fits fun h3 tk ys c k k2 k3=>?_
 have ey:ys.toList=J8.reverse:=xp r' (by have:=k3.1;simpa using this) fun i v hv=>by have:=k3.2 i v (by simpa using hv);simpa[tm] using this
 refine⟨.ref s2.heap.objs.size,_,W.turnedT (fp:=[it]) (t:=s2.heap.objs.size) (u:=.e vs.reverse) (t':=tk) (fun b o hb g=>k b o (fun z=>hb (by simp[z])) g) (fun b hb=>?_) (qp1 _) ⟨?_,J8.reverse,c,jd r',?_⟩,rfl,q _ (W.hok.fresh (qp1 _))⟩
 .cases qa4.mp hb;exact fp
 .rw[qr6,<- L];exact fits
 .rw[k2,<- ey]
end
def lv(ks:η Key):Dt:=.t (ks.map sO)
theorem jK{F:Hp}:∀ks:η Key,Reps K F (ks.map sO) (ks.map kV)
 |[]=>by simp only[qj9,Reps]
 |k::ks=>by simp only[qa6,Reps];exact⟨_,_,rfl,Ac k,jK ks⟩
def xq{F:Hp}{b:J9}{ks:η Key}(h:F b=ς (.t (ks.map kV))):Rep K F (lv ks) (.ref b):=by unfold lv;simp only[Rep];exact⟨b,_,rfl,SqT.of h,jK ks⟩
theorem m8{α β:Type}{R:α->β->Prop}:∀{l:η α}{m:η β},Paired R l m->∀{i:Nat}{a:α},l[i]?=ς a->∃b,m[i]?=ς b/\R a b
 |_,_,.nil,i,a,h=>by simp at h
 |_,_,.cons r t,0,a,h=>by simp at h;subst h;exact⟨_,rfl,r⟩
 |_,_,.cons r t,i+1,a,h=>by simpa using m8 t (by simpa using h)
theorem lw{α β:Type}{R:α->β->Prop}:∀{l:η α}{m:η β},Paired R l m->l.length=m.length
 |_,_,.nil=>rfl
 |_,_,.cons r t=>by simp[lw t]
def Dk {J6:η (η Key×V)} (x:ObjOk P w H h a (.dT J6)):J6.length<=qb2/\(a==qj0)=ξ/\∃ (bs:η J9) (ob:Obj) (es:Array zk4) (ep:Nat),h.get? a=ς ob/\ob.data=.dict es ep/\EntA h a (bs.map .ref) ep/\bs.length=J6.length∧
  ∀(j:Nat)(p:η Key×V),J6[j]?=ς p->∃b,bs[j]?=ς b/\H b=ς (.t (p.1.map kV)):=by
 obtain⟨z,y,xs,r,o,es,ep,h1,h2,h3,O,W⟩:=x;refine⟨z,y,xs.map (·.2.1),o,es,ep,h1,h3,⟨o,es,h1,h2,h3,?_⟩,by rw[qa1,<- lw r],fun j p hp=>?_⟩
 .rw[O,qc6,qc6];rfl
 .obtain⟨q,U,_,L,_⟩:=m8 r hp;exact⟨q.2.1,by rw[qb1,U];rfl,L⟩
section
variable{X:Cx}{tg:Jc}
def Bo{u:HO}(I:Inv X J1 σ H s)(h:Rd H a u):ObjOk X.prog X.w H s.heap a u:=by
 rcases h with h|⟨o,h⟩
 .exact I.hok a _ h
 .exact(I.hok a _ h).2
theorem rh(hc:X.calm=θ):du X (.type "list") (fun xs H Q=>∃a J6,xs=[.ref a]/\Rd H a (.dT J6)/\∀bs:η J9,bs.length=J6.length->(∀(j:Nat)(b:J9)(p:η Key×V),bs[j]?=ς b->J6[j]?=ς p->H b=ς (.t (p.1.map kV)))->∀l,H l=ψ->Q (.ref l) (upd H l (.e (bs.map V.ref)))):=by
 intro J1 s σ H xs us Q I r h;obtain⟨a,J6,rfl,hq,q⟩:=h;obtain⟨u,rfl,rx⟩:=gJ r;cases rx;obtain⟨z,y,bs,ob,es,ep,e1,e2,en,Y,hk⟩:=Dk (Bo I hq);have hz:(bs.map qf3).length<=qb2:=by rw[qa1,Y];exact z
 refine PySem.W.kdl_call (sX y) (I.ok.hd hc) en hz fun h' tk J5 c kp hD L=>?_
 have O:J5.toList=bs.map qf3:=by
  apply za6;intro j;cases Z:J5.toList[j]? with
  |none=>have h1:=qh7.mp Z;rw[qd8,L.1]at h1;rw[qh7.mpr h1]
  |some v=>exact(L.2 j v (by rw[<- qp5];exact Z)).symm
 have rv:Vals (bs.map V.ref) J5.toList:=by
  rw[O];clear O hk Y en hz q L;induction bs with
  |nil=>exact .nil
  |cons b bs ih=>exact .cons rfl ih
 refine⟨.ref s.heap.objs.size,_,I.laid (t':=tk) kp (nL _) (show ObjOk X.prog X.w _ h' _ (.e (bs.map V.ref))from⟨by rw[qa1,Y];exact z,J5.toList,c,rv,by rw[Array.toArray_toList];exact hD⟩),rfl,q bs Y (fun j b p h1 h2=>?_) _ (I.hok.fresh (nL _))⟩;obtain⟨b',U,hH⟩:=hk j p h2;rw[h1]at U;cases U;exact hH
end
end L2
namespace HT
open PySem PySem.Spec PyProof.Rows
end HT
namespace L2
open PySem PySem.Spec PyProof.Rows
section
variable{X:Cx}{a:Jc}{fa:Fg}{p pos:Pos}{sc:Jd}
theorem m9{P:qd1}{w:Ja}:∀{J6:η (Key×V)}{vs:η (Key×Vz)}{es:η zk4},KV J6 vs->Pairs (bM P w) es vs->Vals (J6.map fun p=>kV p.1) (es.map (·.key))
 |[],_,_,.nil,.nil=>.nil
 |_::_,_,_,.cons r t,.cons h _ m=>.cons (by dsimp only;rw[r.1];exact Ab h) (m9 t m)
def rj(hc:X.calm=θ):du X (.type "list") (fun xs H Q=>∃a J6,xs=[.ref a]/\Rd H a (.dK J6)/\∀l,H l=ψ->Q (.ref l) (upd H l (.e (J6.map fun p=>kV p.1)))):=by
 intro J1 s σ H xs us Q I r h;obtain⟨a,J6,rfl,hq,q⟩:=h;obtain⟨u,rfl,rx⟩:=gJ r;cases rx;obtain⟨z,y,vs,U,ob,es,ep,e1,e2,Z,e4,e5,e6⟩:=Bo I hq;have en:EntA s.heap a (es.toList.map (·.key)) ep:=⟨ob,es,e1,e2,Z,rfl⟩;have kv:=m9 U e5;have hz:(es.toList.map (·.key)).length<=qb2:=by rw[<- kv.length,qa1];exact z
 refine PySem.W.kdl_call (sX y) (I.ok.hd hc) en hz fun h' tk J5 c kp hD L=>?_
 have O:J5.toList=es.toList.map (·.key):=by
  apply za6;intro j;cases Y:J5.toList[j]? with
  |none=>have h1:=qh7.mp Y;rw[qd8,L.1]at h1;rw[qh7.mpr h1]
  |some v=>exact(L.2 j v (by rw[<- qp5];exact Y)).symm
 exact⟨.ref s.heap.objs.size,_,I.laid (t':=tk) kp (nL _) (show ObjOk X.prog X.w _ h' _ (.e (J6.map fun p=>kV p.1))from⟨by rw[qa1];exact z,J5.toList,c,by rw[O];exact kv,by rw[Array.toArray_toList];exact hD⟩),rfl,q _ (I.hok.fresh (nL _))⟩
end
noncomputable def rk(K:xA9):Bool:=K.all fun p=>match p.2.data with
 |.seq J8 _=>(match J8.toList with
  |[.int _ _,.str _ _]=>ξ
  |_=>θ)
 |_=>θ
variable{a:J9}
theorem pS{o:Obj}:∀{K:η (J9×Obj)},K.lookup a=ς o->(a,o)∈K
 |[],h=>by cases h
 |(b,u)::K,h=>by
  rw[qg6]at h;cases q:a==b with
  |true=>rw[q]at h;cases h;rw[beq_iff_eq.mp q];exact .head _
  |false=>rw[q]at h;exact .tail _ (pS h)
variable{K:xA9}{H:Hp}
def xr{n:Int}{s:Str}(W:rk K=θ)(h:SqT K H a [.int n,.str s]):H a=ς (.t ([za8 n,qu8 s].map kV)):=by
 rcases h with h|⟨o,J8,m,hk,Z,U,hz,r⟩
 .exact h
 .have q:=qk1.mp W (a,o) (pS hk);dsimp only at q;rw[U]at q;dsimp only at q;generalize J8.toList=w at q r;cases r with
  |cons Y t=>
   cases t with
   |cons O L=>cases L;obtain⟨t1,rfl⟩:=Y;obtain⟨L,rfl⟩:=O;cases q
section
variable{X:Cx}{a b:Jc}{ta:TA}{p1 p2 pos1 pos2:Pos}{sc:Jd}{fs:De->ζ (η Dt)}
end
section
variable{X:Cx}{J1:η (J9×Obj)}{s:qa5}{σ:St}{H:Hp}
end
theorem TabsIn.two{h:Heap}{c P c' P':J9}{qs qs':η ((Nat×Nat)×Str)}(kb:K.In h)(e:dD K=[(P,qs),(P',qs')])(hne:P≠P')(n:K.lookup P=ψ)(n':K.lookup P'=ψ)(hc:xK9 K c P=θ)(hc':xK9 K c' P'=θ)(t:h.get? P=ς (xJ9 #[]))(t':h.get? P'=ς (xJ9 #[])):TabsIn K h:=by
 unfold TabsIn;rw[e];refine⟨fun p hp=>?_,fun p hp q hq z=>?_⟩
 .rcases qa8.mp hp with rfl|hp
  .exact⟨n,⟨c,xS9 kb hc⟩,t⟩
  .cases qa4.mp hp;exact⟨n',⟨c',xS9 kb hc'⟩,t'⟩
 .rcases qa8.mp hp with rfl|hp<;>rcases qa8.mp hq with rfl|hq
  .rfl
  .cases qa4.mp hq;exact absurd z hne
  .cases qa4.mp hp;exact absurd z.symm hne
  .cases qa4.mp hp;cases qa4.mp hq;rfl
noncomputable def isK:Dt->ζ (η Key)
 |.t [.int n,.str s]=>ς [.inl n,.inr s]
 |_=>ψ
def rl{F:Hp}{d:Dt}{v:V}{ks:η Key}(q:rk K=θ)(h:isK d=ς ks)(r:RepB K F H d v):∃b,v=.ref b/\F b=ς (.t (ks.map kV)):=by
 unfold isK at h;split at h<;>cases h
 obtain⟨a,vs,rfl,h1,h2⟩:=r;unfold Reps at h2;obtain⟨L,O,rfl,q1,h2⟩:=h2;unfold Reps at h2;obtain⟨U,W,rfl,q2,h2⟩:=h2;unfold Reps at h2;subst h2;simp only[Rep]at q1 q2;subst q1 q2;exact⟨a,rfl,xr q h1⟩
section
variable{X:Cx}{o a b e ox ik:Jc}{fa fb fk fe:De->ζ Dt}{pos apos cpos p1 p2 pos1 pos2:Pos}{sc:Jd}{i j m:Nat}{K:xA9}
def rm:De->ζ T:=fun _=>ς (.dcT [])
def xt:DO X (.Dict [] [] pos) rm:=PE.mono vW fun σ H Q ⟨Φ,δ,F,t,O,q,L,k⟩=>by
 cases L;intro p hp;refine k _ _ F (fun b=>b=p) (Step.made q.fh hp) ⟨p,[],rfl,rfl,aU,rfl,by simp[Reps]⟩ fun b z=>?_
 subst z;exact⟨q.fh.free hp,hp,_,aU,nofun⟩
def u1:Dt->Dt->ζ T
 |.dcT ks l,k=>(isK k).bind fun k=>(dw ks l k).map .f
 |_,_=>ψ
def Dl(hI:rk X.K=θ)(hr:Room m X.A)(ha:DB X a fa)(O:DB X b fb)(hn:uv b:=by exact fun _ _=>rfl):DO X (.Subscript a b pos) (d2 u1 fa fb):=
 PE.mono (su (jT hr) ha O hn) fun σ H Q ⟨Φ,δ,F,t,Y,Z,L,k⟩=>by
  obtain⟨x,hx,L⟩:=bS L;obtain⟨y,hy,L⟩:=bS L;unfold u1 at L;split at L<;>first|(cases L;done)|skip
  obtain⟨kk,hk,L⟩:=bS L;obtain⟨d,hd,rfl⟩:=mS L;refine⟨Φ,δ,F,_,Y,Z,hx,fun v H1 F1 st rv=>⟨Φ,δ,F1,_,Y,Z.step st,hy,fun v2 H2 F2 q W=>?_⟩⟩;obtain⟨ad,J6,rfl,h1,rfl,h3⟩:=rv;obtain⟨w,hw,U⟩:=fP h3 hd;obtain⟨b,rfl,O⟩:=rl hI hk W;exact⟨ad,w,rfl,.inr ⟨J6,kk,b,q.hh.rd h1,rfl,q.fh _ _ O,hw.symm⟩,(k.step (st.trans q)).leaf.here q.fh (U.same q.ff)⟩
def xu(fa fb:De->ζ Dt):De->ζ Bool:=fun δ=>(fa δ).bind fun x=>(fb δ).bind fun y=>match y with
 |.dcT ks l=>(isK x).map fun k=>!(dw ks l k).isSome
 |_=>ψ
def Dm(hI:rk X.K=θ)(Z:Room m X.A)(ha:DB X a fa)(O:DB X b fb)(hm:qh8 .NotIn b=ξ:=by with_unfolding_all rfl):DT X (.Compare a [.NotIn] [b] pos) (xu fa fb):=
 PT.mono (nA (my (jT Z) ha O) hm) fun σ H Q ⟨Φ,δ,F,t,W,Y,q,k⟩=>by
  obtain⟨x,hx,q⟩:=bS q;obtain⟨y,hy,q⟩:=bS q;split at q<;>first|(cases q;done)|skip
  obtain⟨kk,hk,rfl⟩:=mS q;refine⟨Φ,δ,F,x,W,Y,hx,fun v H1 F1 st rv=>⟨Φ,δ,F1,_,W,Y.step st,hy,fun v2 H2 F2 L U=>?_⟩⟩;obtain⟨ad,J6,rfl,h1,rfl,h3⟩:=U;obtain⟨b,rfl,O⟩:=rl hI hk rv;refine⟨ad,_,rfl,.inr ⟨J6,kk,b,h1,rfl,L.fh _ _ (L.ff _ _ O),rfl⟩,_,rfl,?_⟩;rw[<- kx h3];exact k H2 F2 (st.trans L)
def lx(i:Nat)(fk fe:De->ζ Dt):De->ζ Out:=fun δ=>(fe δ).bind fun d=>(fk δ).bind fun k=>match δ[i]? with
 |some (ς (.dcT l))=>(isK k).bind fun k=>if l.length<qb2/\(l.map (·.1)).Nodup then ς (.nx (δ.set i (ς (.dcT (ki l k d)))))else ψ
 |_=>ψ
def tq (hI:rk X.K=θ) (hr:Room m X.A) (hx:PE X ox (iM i)) (hk:DB X ik fk) (he:DL X e fe)
  (hs:qo5 e (ς (.Subscript ox ik apos)) pos.line X.env=pure ξ:=by rfl):DS1 X (.Assign [.Subscript ox ik apos] e pos) (lx i fk fe):=
 PS.mono (sv (jT hr) hx hk he hs) fun D σ H ⟨Φ,δ,F,ot,Y,en,q,k⟩=>by
  obtain⟨d,hd,q⟩:=bS q;obtain⟨kd,hkd,q⟩:=bS q;split at q<;>first|(cases q;done)|skip
  rename_i l hl;obtain⟨kk,W,q⟩:=bS q;split at q<;>first|(cases q;done)|skip
  rename_i hc;cases q;refine⟨Φ,δ,F,d,Y,en,hd,fun v H1 F1 st rv=>?_⟩;have O:=en.step st;obtain⟨w0,hv⟩:=O.has i _ hl;obtain⟨S,s⟩:=O.sep;obtain⟨a,J6,rfl,_,h1,h2,h3⟩:=s.own i _ w0 (cq hl hv);refine⟨.ref a,hv,Φ,δ,F1,kd,Y,O,hkd,fun w H2 F2 L rw'=>?_⟩;have Z:=O.step L;obtain⟨b,rfl,hb⟩:=rl hI W rw';have U:J6.length=l.length:=by simpa using congrArg qp2 h2
  refine⟨a,_,rfl,.inr ⟨J6,kk,b,L.hh _ _ h1,rfl,L.fh _ _ hb,by rw[U];exact hc.1,rfl⟩,?_⟩;obtain⟨p1,p2⟩:=sM kk v J6 l d (by rw[h2];exact hc.2) h2;exact k σ F2 _ (Z.poke hl hv rfl fun S sa=>⟨a,_,rfl,sa,aU,p1,p2 _ _ (Y▸rv.same L.ff) (h3.same L.ff)⟩)
def ly:η Dt->ζ T
 |[.dcT ks _]=>ς (.e (ks.map lv))
 |[.dct ks _]=>ς (.e (ks.map sO))
 |_=>ψ
abbrev xw:η V->Hp->VK->Prop:=fun xs H Q=>(∃a J6,xs=[.ref a]/\Rd H a (.dT J6)/\∀bs:η J9,bs.length=J6.length->(∀(j:Nat)(b:J9)(p:η Key×V),bs[j]?=ς b->J6[j]?=ς p->H b=ς (.t (p.1.map kV)))->∀l,H l=ψ->Q (.ref l) (upd H l (.e (bs.map V.ref))))∨∃a J6,xs=[.ref a]/\Rd H a (.dK J6)/\∀l,H l=ψ->Q (.ref l) (upd H l (.e (J6.map fun p=>kV p.1)))
def rp(q:X.calm=θ):du X (.type "list") xw:=fun J1 s σ H xs us Q I r h=>h.elim (rh q J1 s σ H xs us Q I r) (rj q J1 s σ H xs us Q I r)
theorem tu{F:Hp}:∀{L:η (η Key)}{bs:η J9},bs.length=L.length->(∀(j:Nat)(b:J9)(k:η Key),bs[j]?=ς b->L[j]?=ς k->F b=ς (.t (k.map kV)))->Reps K F (L.map lv) (bs.map V.ref)
 |[],[],_,_=>by simp[Reps]
 |[],_::_,h,_=>by cases h
 |_::_,[],h,_=>by cases h
 |k::L,b::bs,h,q=>by simp only[qa6,Reps];exact⟨_,_,rfl,xq (q 0 b k rfl rfl),tu (by simpa using h) fun j b k h1 h2=>q (j+1) b k (by simpa using h1) (by simpa using h2)⟩
def Ak:CRD K xw ly:=fun F H ds vs Q t fh r Y k=>by
 unfold ly at Y;split at Y<;>cases Y
 .obtain⟨v,rfl,a,J6,rfl,h1,rfl,h3⟩:=fm r;refine .inl ⟨a,J6,rfl,h1,fun bs hl hb l O=>?_⟩
  have U:∀(j:Nat)(b:J9)(k:η Key),bs[j]?=ς b->(J6.map (·.1))[j]?=ς k->H b=ς (.t (k.map kV)):=fun j b k h1 h2=>by rw[qb1]at h2;obtain⟨p,hp,rfl⟩:=mS h2;exact hb j b p h1 hp
  have Z:∀b∈bs,∃vs,H b=ς (.t vs):=fun b hm=>by
   obtain⟨j,hj⟩:=qk3 hm;have W:j<J6.length:=by rw[<- hl];exact(gX hj).1
   exact⟨_,hb j b _ hj (gQ W)⟩
  let F':Hp:=fun b=>if b∈bs then H b else F b
  have fin:∀{b:J9},b∈bs->F' b=H b:=fun h=>if_pos h
  have q:∀{b:J9},b∉bs->F' b=F b:=fun h=>if_neg h
  have ff:Same F F':=fun b o e=>by
   by_cases h:b∈bs
   .rw[fin h];exact fh _ _ e
   .rw[q h];exact e
  have L:Same F' H:=fun b o e=>by
   by_cases h:b∈bs
   .rw[fin h]at e;exact e
   .rw[q h]at e;exact fh _ _ e
  have st:Step F H F' H:=⟨Same.refl _,ff,L,fun b o e=>by
   by_cases h:b∈bs
   .exact .inr (.inr (Z b h))
   .rw[q h]at e;exact .inl e⟩
  exact fA (k.step st) L (tu (by simpa using hl) fun j b k h1 h2=>by rw[fin (qc8 h1)];exact U j b k h1 h2) O
 .obtain⟨v,rfl,a,J6,rfl,h1,rfl,h3⟩:=fm r;refine .inr ⟨a,J6,rfl,h1,fun l O=>fA k fh ?_ O⟩;rw[show(J6.map fun p=>kV p.1)=(J6.map (·.1)).map kV by rw[qc6];rfl];exact jK _
noncomputable def vLR(fa:De->ζ Dt):De->ζ T:=fun δ=>(fa δ).bind fun d=>match d with
 |.e l=>ς (.e l.reverse)
 |_=>ψ
theorem Reps.rev{F:Hp}:∀{l:η Dt}{vs:η V},Reps K F l vs->Reps K F l.reverse vs.reverse
 |[],_,h=>by simp only[Reps]at h;subst h;simp[Reps]
 |d::l,_,h=>by simp only[Reps]at h;obtain⟨v,ws,rfl,h1,h2⟩:=h;rw[qo0,qo0];exact(Reps.rev h2).append (Reps.one h1)
theorem rq (h1:aM sc "list"=θ) (h2:aM sc "reversed"=θ) (W:X.mg "list"=ψ) (U:X.mg "reversed"=ψ) (hc:X.calm=θ) (ha:DB X a fa) (e1:cu X sc:=by rfl) (he:qa7 [a] X.env=(ξ,eval a X.env)::qa7 [] X.env:=by rfl) (Z:qa7 [a] X.env=[(ξ,eval a X.env)]:=by rfl)
  (O:qa7 [.Call (.Name "reversed" p2) [a] [] pos2] X.env=[(ξ,eval (.Call (.Name "reversed" p2) [a] [] pos2) X.env)]:=by rfl) :
  DO X (.Call (.Name "list" p1) [.Call (.Name "reversed" p2) [a] [] pos2] [] pos1) (vLR fa):=
 PE.mono (rg h1 h2 W U hc (di ha fX he) e1 Z O) fun σ H Q ⟨Φ,δ,F,t,hK,en,L,k⟩=>by
  obtain⟨d,Y,L⟩:=bS L;split at L<;>cases L
  refine⟨Φ,δ,F,_,hK,en,Y,fun v H1 F1 st rv=>?_⟩;obtain⟨a,vs,rfl,g1,g2⟩:=rv;exact⟨a,vs,rfl,g1,fun q hq=>fA (k.step st) st.fh (g2.rev) hq⟩
end
def AtF(K:xA9)(x:Str)(st:Jb):Prop:=∃(f:J9)(oc:Vz)(od an:ζ J9)(sl:Array (ζ Vz))(kV dc pm q ct:Vz),xB9 K qc3 x=ς (ς (.ref f))/\K.lookup f=ς ⟨oc,od,.func (xC9 x x (ck st) (bc st) (ac st) .none kV dc pm an q ct),sl⟩/\xH9 K q x=θ/\xF9 K (.ref f)=θ
def AtC(K:xA9)(x:Str)(st:Jb)(c P:J9):Prop:=∃(f:J9)(oc:Vz)(od an:ζ J9)(sl:Array (ζ Vz))(kV dc pm ct L:Vz)(xd:ζ J9)(q:Array Vz)(xs:Array (ζ Vz)),
 xB9 K qc3 x=ς (ς (.ref f))/\K.lookup f=ς ⟨oc,od,.func (xC9 x x (ck st) (bc st) (ac st) .none kV dc pm an (.ref c) ct),sl⟩/\xH9 K (.ref c) x=θ/\xF9 K (.ref f)=θ∧
 K.lookup c=ς ⟨L,xd,.fields q,xs⟩/\q[11]?=ς (.ref P)
variable{f:J9}{oc dc pm:Vz}{od an:ζ J9}
section
variable{K:xA9}{mg:Str->ζ Vz}{h:Heap}{x:Str}{st:Jb}{ps:η Str}{c P:J9}
theorem AtF.mk{sl:Array (ζ Vz)}{kV q ct:Vz}(a:xB9 K qc3 x=ς (ς (.ref f)))(l:K.lookup f=ς ⟨oc,od,.func (xC9 x x (ck st) (bc st) (ac st) .none kV dc pm an q ct),sl⟩)(c:xH9 K q x=θ)(k:xF9 K (.ref f)=θ):AtF K x st:=⟨f,oc,od,an,sl,kV,dc,pm,q,ct,a,l,c,k⟩
theorem AtC.mk{sl:Array (ζ Vz)}{kV ct L:Vz}{xd:ζ J9}{q:Array Vz}{xs:Array (ζ Vz)}(a:xB9 K qc3 x=ς (ς (.ref f)))(l:K.lookup f=ς ⟨oc,od,.func (xC9 x x (ck st) (bc st) (ac st) .none kV dc pm an (.ref c) ct),sl⟩)(U:xH9 K (.ref c) x=θ)(k:xF9 K (.ref f)=θ)(cl:K.lookup c=ς ⟨L,xd,.fields q,xs⟩)(O:q[11]?=ς (.ref P)):AtC K x st c P:=⟨f,oc,od,an,sl,kV,dc,pm,ct,L,xd,q,xs,a,l,U,k,cl,O⟩
theorem AtF.df(A:AtF K x st)(X:K.In h)(G:h.Ns qc3 mg)(q:∀(kV doc pm:Vz)(an:ζ J9)(cdv ct:Vz)(us:η Vz),us.length=ps.length->zi1 (xC9 x x (ck st) (bc st) (ac st) .none kV doc pm an cdv ct) ⟨us,[]⟩=pure (ps.zip us)):DefF K mg x st ps:=by obtain⟨f,oc,od,an,sl,kV,dc,pm,L,ct,a,l,c,k⟩:=A;exact DefF.mk' X G a l c k q
theorem AtC.df(A:AtC K x st c P)(X:K.In h)(G:h.Ns qc3 mg)(q:∀(kV doc pm:Vz)(an:ζ J9)(cdv ct:Vz)(us:η Vz),us.length=ps.length->zi1 (xC9 x x (ck st) (bc st) (ac st) .none kV doc pm an cdv ct) ⟨us,[]⟩=pure (ps.zip us)):DefC K mg x st ps c:=by obtain⟨f,oc,od,an,sl,kV,dc,pm,ct,L,xd,O,xs,a,l,c,k,_⟩:=A;exact DefC.mk' X G a l c k q
end
variable{r:η V->Hp->VK->Prop}{gg:η Dt->ζ T}
section
variable{X:Cx}{e:Jc}{es:η Jc}{x:Str}{p pos:Pos}{fs:De->ζ (η Dt)}{i:Nat}
def pvX(h:eC X.env.scope X.N i x=θ):PE X (.Name x pos) (iM i):=pvD i h rfl rfl
def dbX(h:eC X.env.scope X.N i x=θ):DB X (.Name x pos) (vB i):=ao (pvX h)
def dlX(h:eC X.env.scope X.N i x=θ):DL X (.Name x pos) (vL i):=aO (pvX h)
theorem doF{k m n:Nat}{ps:η Str}{L:η Dt->ζ T}(h:aM X.env.scope x=θ)(F:OkF X.prog X.w X.K X.mg X.base x k ps (spD X.K n L))(Y:Room m X.A)(hk:k<=m)(O:DA X (e::es) fs)(W:(e::es).length=n:=by rfl)(U:qa7 (e::es) X.env=(ξ,eval e X.env)::qa7 es X.env:=by rfl)(q:(qj6 pos (qa7 es X.env)).any (·.1)=ξ:=by rfl):DO X (.Call (.Name x p) (e::es) [] pos) (ag L fs):=dZ h F (Y.mono hk) O W rfl U q
theorem doB{id:String}(h:aM X.env.scope x=θ)(U:du X (.builtin id) r)(Z:CRD X.K r gg)(W:X.mg x=ψ)(Y:qd7 x=ς (.builtin id))(L:DAB X (e::es) fs)(O:qa7 (e::es) X.env=(ξ,eval e X.env)::qa7 es X.env:=by rfl)(q:(qj6 pos (qa7 es X.env)).any (·.1)=ξ:=by rfl):DO X (.Call (.Name x p) (e::es) [] pos) (ag gg fs):=k6 h U Z W Y L rfl O q
theorem doT{Ty:String}(h:aM X.env.scope x=θ)(U:du X (.type Ty) r)(Y:CRD X.K r gg)(W:X.mg x=ψ)(Z:qd7 x=ς (.type Ty))(L:DAB X (e::es) fs)(O:qa7 (e::es) X.env=(ξ,eval e X.env)::qa7 es X.env:=by rfl)(q:(qj6 pos (qa7 es X.env)).any (·.1)=ξ:=by rfl):DO X (.Call (.Name x p) (e::es) [] pos) (ag gg fs):=fM h U Y W Z L rfl O q
def dlG{d:Dt}(h:aM X.env.scope x=θ)(q:i6 X.K X.mg x d):DL X (.Name x pos) (kD d):=kw h q rfl
end
end L2
namespace HT
open PySem PySem.Spec PyProof.Rows
def tw {prog:qd1} {w:Ja} {A:qe0} {E:Vz->qa5->Prop} {s:qa5} {t sl:J9} {q:Array Vz} {vl vu:Vz} {lo hi:ζ Int} {Q:Vz->qa5->Prop} (L:IsTup s.heap t q) (Y:s.heap.IsSliceOf sl vl vu .none) (pl:zg5 vl lo) (pu:zg5 vu hi)
  (Z:sIx q.size 0 lo=0/\sIx q.size q.size hi=q.size) (h:Q (.ref t) s):wpAny (model prog w) A (zb1 (.ref t) (.ref sl)) Q E s:=by
 obtain⟨os,U,O,hds⟩:=id Y;have W:s.TypeIs (.ref sl) "slice":=⟨os,U,O⟩;unfold zb1
 try with_reducible refine qi5 ?_
 first|refine wB (qa2 ?_)|skip
 refine wB (wpAny_sequenceKey L.typeIs Ω ?_)
 refine wB (qe5 (name:=qa0 "__getitem__") L.typeIs qg0
  (qf1 qg0 L.typeIs entry_tuple_getitem ?_ (args_tuple_getitem _ _)))
 show wpAny _ _ (qx8 (.ref t) >>= _) _ _ s;refine wB (tupleItemsOf_ L ?_);refine wB (qu4 W ?_);rw[if_pos Ω];refine wB (fI Y pl pu ?_);show wpAny _ _ (if(((sIx q.size 0 lo:Nat):Int)==0&&(1:Int)==1&&(sIx q.size q.size hi-sIx q.size 0 lo)==q.size)=θ then _ else _) _ _ s;rw[if_pos (by rw[Z.1,Z.2];simp)];refine wB (m:=qj4.Tuple.tupleIsExact _) (wB (qu4 L.typeIs (qa2 ?_)));rw[if_pos Ω]
 first
  |exact wB (m:=rule _) (qw3 (qa2 ⟨_,rfl,qa2 h⟩))
  |exact wB (qw3 (qa2 ⟨_,rfl,qa2 h⟩))
  |exact qw3 (qa2 ⟨_,rfl,qa2 h⟩)
  |(wp_walk;exact⟨_,rfl,qa2 h⟩)
end HT
namespace L2
open PySem PySem.Spec PyProof.Rows
variable{K:xA9}
section
variable{X:Cx}
def rSlW(K:xA9):V->ζ Int->ζ Int->Hp->VK->Prop:=fun x lo hi H Q=>∃a xs,x=.ref a/\SqT K H a xs/\(HT.sIx xs.length 0 lo=0/\HT.sIx xs.length xs.length hi=xs.length)/\Q (.ref a) H
def Al:SlR X (rSlW X.K):=by
 intro J1 s σ H x v vl vu lo hi sl Q I Z Y U W h;obtain⟨a,xs,rfl,hx,hw,q⟩:=h;cases Z;obtain⟨J8,r,O,hz⟩:=I.tuple hx;have L:J8.toArray.size=xs.length:=by rw[qb7];exact r.length.symm
 refine⟨"tuple",_,qg0.lookup,O.typeIs,?_⟩;exact HT.tw O Y U W (by rw[L];exact hw) ⟨.ref a,H,I,rfl,q⟩
def xx:Dt->ζ Int->ζ Int->ζ T
 |.t l,lo,hi=>if HT.sIx l.length 0 lo=0/\HT.sIx l.length l.length hi=l.length then ς (.f (.t l))else ς (.f (.t (i0 l lo hi)))
 |x,lo,hi=>gSl x lo hi
def pT(fa:De->ζ Dt)(q L:De->ζ (ζ Int)):De->ζ T:=fun δ=>(fa δ).bind fun x=>(q δ).bind fun l=>(L δ).bind fun h=>xx x l h
def Fh{F H:Hp}{x:Dt}{v:V}{lo hi:ζ Int}{Q:VK}{t:T}(L:Same F H)(U:RepB K F H x v)(q:xx x lo hi=ς t)(k:KO K F H t Q):CW K v lo hi H Q∨rSlW K v lo hi H Q:=by
 unfold xx at q;split at q
 .rename_i l;split at q
  .rename_i O;cases q;obtain⟨a,vs,rfl,h1,h2⟩:=U;refine .inr ⟨a,vs,rfl,L.tup h1,by rw[h2.length];exact O,k.leaf.here L ?_⟩;simp only[Rep];exact⟨a,vs,rfl,h1,h2⟩
  .rename_i O;exact .inl (CY L U (by show(if _ then ψ else ς _)=_;rw[if_neg O];exact q) k)
 .exact .inl (CY L U q k)
theorem u2{e:Jc}{lo hi:ζ Jc}{p2 pos:Pos}{f:De->ζ Dt}{fl fh:De->ζ (ζ Int)}(he:DB X e f)(W:DP X lo fl)(Y:DP X hi fh):DO X (.Subscript e (.Slice lo hi ψ p2) pos) (pT f fl fh):=PE.mono (oW (SlR.or wF Al) he W Y) fun σ H Q ⟨Φ,δ,F,t,U,Z,q,k⟩=>by unfold pT at q;obtain⟨x,hx,q⟩:=bS q;obtain⟨l,W,q⟩:=bS q;obtain⟨h,Y,q⟩:=bS q;exact⟨Φ,δ,F,x,U,Z,hx,fun v H1 F1 s1 r1=>⟨Φ,δ,F1,l,U,Z.step s1,W,fun H2 F2 O=>⟨Φ,δ,F2,h,U,Z.step (s1.trans O),Y,fun H3 F3 L=>Fh L.fh (r1.step (O.ff.trans L.ff) (O.hh.trans L.hh)) q (k.step ((s1.trans O).trans L))⟩⟩⟩
def xy(K:xA9):R2:=fun x y H Q=>∃a b z xs,x=.ref a/\y=.ref b/\SqT K H a (z::xs)/\SqT K H b []/\Q (.ref a) H
def Am:OpR X (ql4 .Add) (xy X.K):=by
 intro J1 s σ H x y v u Q I rx ry h;obtain⟨a,b,z,xs,rfl,rfl,ha,hb,q⟩:=h;cases rx;cases ry;obtain⟨J8,r1,p1,_⟩:=I.tuple ha;obtain⟨its2,r2,p2,_⟩:=I.tuple hb;cases r2;obtain⟨⟨cls,dd,data,sl⟩,ho,hc,n,hd⟩:=id p1;obtain⟨⟨cls2,W,Z,Y⟩,U,L,n2,O⟩:=id p2;simp only at hc hd L O;subst hc hd L O
 exact qy3 ⟨_,ho,rfl⟩ ⟨_,U,rfl⟩ qv0 zb0 PySem.F.slot_tuple_add PySem.F.entry_tuple_add (PySem.F.args_tuple_add_2 _ _)
  (tuple_addW1 a b J8.toArray #[] n n2 dd W sl Y (by cases r1;simp) rfl) ⟨ho,U,⟨.ref a,H,I,rfl,q⟩⟩
def je:Dt->Dt->ζ T
 |.t (d::l),.t []=>ς (.f (.t (d::l)))
 |x,y=>mO x y
def An:OpR X (ql4 .Add) (fun x y H Q=>(pC X.K x y H Q∨mI X.K x y H Q)∨xy X.K x y H Q):=OpR.or sN Am
def Dn:R2D K (fun x y H Q=>(pC K x y H Q∨mI K x y H Q)∨xy K x y H Q) je:=by
 intro F H x y vx Z Q t O Y W L k;unfold je at L;split at L
 .rename_i d l;cases L;obtain⟨a,vs,rfl,h1,h2⟩:=Y;obtain⟨b,ws,rfl,h3,U⟩:=W;simp only[Reps]at U;subst U;have q:=h2;simp only[Reps]at q;obtain⟨v,us,rfl,_,_⟩:=q;refine .inr ⟨a,b,v,us,rfl,rfl,O.tup h1,O.tup h3,k.leaf.here O ?_⟩;simp only[Rep];exact⟨a,_,rfl,h1,h2⟩
 .exact .inl (wL F H _ _ vx Z Q t O Y W L k)
end
abbrev Hk3:=Str×Int×Bool
noncomputable def h3(k:Hk3):Dt:=.t [.str k.1,.int k.2.1,.bl k.2.2]
section
variable{X:Cx}{J1:η (J9×Obj)}{s:qa5}{σ:St}{H:Hp}
end
section
variable{X:Cx}
end
section
variable{P:qd1}{u:Ja}{A:qe0}{R:Result->qa5->Prop}{I:J9}{fp wr:η J9}{n:Nat}{Pv:Nat->Vz->Prop}{St:Nat->Heap->Prop}
end
section
variable{P:qd1}{u:Ja}{A:qe0}{E:Vz->qa5->Prop}{s:qa5}{l:J9}{xs:Array (Int×Tok)}{d:Vz}
end
section
variable{X:Cx}{e:Jc}{pos p kp kq:Pos}{sc:Jd}{fs:De->ζ (η Dt)}{d:Int}{t:TA}{i:Nat}
end
def jf:Dt->Dt->ζ T
 |.str x,.int n=>if 0<=n/\n<=1000/\x.length<=1000 then ς (.f (.str (iF x n)))else ψ
 |_,_=>ψ
def Bp:R2:=fun x y H Q=>∃z n,x=.str z/\y=.int n/\(0<=n/\n<=1000/\z.length<=1000)/\Q (.str (iF z n)) H
def Do{z:Str}{n:Int}(h:0<=n/\n<=1000/\z.length<=1000):MulOk z n:=by
 obtain⟨U,h1,h2⟩:=h;refine⟨?_,fun h _=>?_,fun h _=>?_⟩
 .have L:decide (n < -(2^63:Int))=ξ:=decide_eq_false Θ;have q:decide (n ≥ 2^63)=ξ:=decide_eq_false Θ;rw[L,q];rfl
 .have e:(1000:Int)<=(2^63-1)/n:=(Int.le_ediv_iff_mul_le Θ).mpr Θ;lia
 .have e:z.length*n.toNat<=1000*1000:=zg8 h2 Θ;have O:qb2=16777216:=qw7;exact decide_eq_false Θ
variable{X:Cx}
def Ao:OpR X (ql4 .Mult) Bp:=by intro J1 s σ H x y v u Q I U O h;obtain⟨z,n,rfl,rfl,L,q⟩:=h;obtain⟨t,rfl⟩:=U;obtain⟨t',rfl⟩:=O;exact SB.mul (Do L) fun W k=>⟨.str (iF z n),H,I.tok _,⟨_,rfl⟩,q⟩
def Dp:R2D K Bp jf:=by
 intro F H x y Y W Q t U L O q k;unfold jf at q;split at q<;>first|(cases q;done)|skip
 split at q<;>cases q
 rename_i h;cases L;cases O;exact⟨_,_,rfl,rfl,h,k.str U⟩
open PySem
section
variable{K:Type}[DecidableEq K]
def u3{J5:η K}{k x:K}:x∈fz J5 k↔x∈J5∨x=k:=by
 unfold fz;split
 .exact⟨.inl,fun h=>h.elim id fun e=>e▸by assumption⟩
 .simp
theorem na{x:K}:∀{ss J5:η K},x∈ss.foldl fz J5↔x∈J5∨x∈ss
 |[],J5=>by simp
 |k::ss,J5=>by rw[qh6,na,u3,qa8,or_assoc]
def oncesK_mem{ss:η K}{x:K}:x∈cb ss↔x∈ss:=by unfold cb;rw[na];simp
def pU{J5:η K}{k:K}(h:J5.Nodup):(fz J5 k).Nodup:=by
 unfold fz;split
 .exact h
 .rename_i hk;rw[ql0];exact⟨h,Ξ,fun a q b L e=>hk (by rw[qa4.mp L]at e;exact e▸q)⟩
theorem j5:∀{ss J5:η K},J5.Nodup->(ss.foldl fz J5).Nodup
 |[],_,h=>h
 |k::ss,J5,h=>j5 (ss:=ss) (pU h)
def n9(ss:η K):(cb ss).Nodup:=j5 qu2
end
theorem lz:∀ns:η Int,lu (ns.map .int)=ς ns
 |[]=>rfl
 |k::ns=>by rw[qa6];unfold lu;rw[lz ns];rfl
variable{ns:η Int}
def jL{x:Int}:x∈g8 ns↔x∈ns:=(dM ns).mem_iff
def pV(h1:ns.length<4000)(h2:(cb ns).length<64):fS [.e (ns.map .int)]=ς (.e ((g8 (cb ns)).map .int)):=by unfold fS u0;dsimp only;rw[lz,qa3,if_pos ⟨h1,h2⟩]
section
variable{X:Cx}{K:Type}[DecidableEq K][Inhabited K]{κ:SK X.prog X.w K}
def pW:du X (.builtin "len") (fun xs H Q=>∃p ss,xs=[.ref p]/\H p=ς (pM κ p ss)/\Q (.int (ss.length:Nat)) H):=by
 intro J1 s σ H xs us Q I r h;obtain⟨p,ss,rfl,hq,q⟩:=h;obtain⟨u,rfl,Z⟩:=gJ r;cases Z;have Y:TxS κ s.heap p ss (dq X.w):=(show ObjOk X.prog X.w H s.heap p (pM κ p ss)from I.hok p _ hq).1;obtain⟨o,es,ep,t,g1,g2,O,x,L,U,_⟩:=Y.ex;have e:es.size=ss.length:=by rw[<- x.per.length_eq,qa1,qd8]
 have W:es.size<4096:=L;refine call_len_set g1 g2 O U Θ ⟨.int (ss.length:Nat),H,I.tok _,⟨_,by rw[e]⟩,q⟩
end
def lA:η Dt->ζ T
 |[.e ds]=>(lu ds).bind fun ss=>if ss.length<4000 then ς (.f (.int ((cb ss).length:Nat)))else ψ
 |_=>ψ
section
variable{X:Cx}{e:Jc}{pos pos2 p p2:Pos}{sc:Jd}{fs:De->ζ (η Dt)}
def rz (h1:aM sc "len"=θ) (h2:aM sc "set"=θ) (Z:X.calm=θ) (m1:X.mg "len"=ψ) (m2:X.mg "set"=ψ) (ha:DAB X [e] fs) (e1:cu X sc:=by rfl)
  (s1:qa7 [.Call (.Name "set" p2) [e] [] pos2] X.env=(ξ,eval (.Call (.Name "set" p2) [e] [] pos2) X.env)::qa7 [] X.env:=by rfl) (n1:(qj6 pos (qa7 [] X.env)).any (·.1)=ξ:=by rfl)
  (s2:qa7 [e] X.env=(ξ,eval e X.env)::qa7 [] X.env:=by rfl) (n2:(qj6 pos2 (qa7 [] X.env)).any (·.1)=ξ:=by rfl):DO X (.Call (.Name "len" p) [.Call (.Name "set" p2) [e] [] pos2] [] pos) (ag lA fs):=
 PE.mono (ic h1 (pW (κ:=pI X.prog X.w)) m1 (by rfl) (di (iD h2 (mZ (kvI (X:=X)) Z) m2 (by rfl) ha.pa e1 s2 n2) fX s1) e1 s1 n1) fun σ H Q ⟨Φ,δ,F,t,Y,en,O,k⟩=>by
  unfold ag at O;obtain⟨ds,U,q⟩:=bS O;refine⟨Φ,δ,F,ds,Y,en,U,fun vs H1 F1 st r=>?_⟩;unfold lA at q;split at q<;>first|(cases q;done)|skip
  obtain⟨ss,W,q⟩:=bS q;split at q<;>cases q
  rename_i hz;obtain⟨v,rfl,rv⟩:=fm r;obtain⟨b,ws,rfl,g1,g2⟩:=rv;have:=kz g2 W;subst this;refine⟨b,ss,rfl,g1,hz,fun l hl=>?_⟩;have L:Step F1 H1 F1 (upd H1 l (pM (pI X.prog X.w) l (cb ss))):=Step.made st.fh hl;exact⟨l,cb ss,rfl,aU,(k.step (st.trans L)).int L.fh⟩
end
def u4:MtR X "list.index" (fun x vs H Q=>∃(p:J9)(ns:η Int)(k:Int),x=.ref p/\vs=[.int k]/\SqL X.K H p (ns.map V.int)/\k∈ns/\ns.length<=100000/\Q (.int (ns.idxOf k:Nat)) H):=by
 intro J1 s σ H x vs v us Q I r rv h;obtain⟨p,ns,k,rfl,rfl,hq,hk,hz,q⟩:=h;cases r;obtain⟨u,rfl,ru⟩:=rv.one;obtain⟨t,rfl⟩:=ru;obtain⟨J8,r',pl,hz'⟩:=I.list hq;have hi:=qw r';have L:=hi.length;obtain⟨⟨cls,dd,Y,sl⟩,Z,hc,n,hd⟩:=pl.isList;simp only at hc hd;subst hc hd;have O:ns.idxOf k<ns.length:=za7.mpr hk;refine zf9 PySem.F.slot_list_index ⟨_,Z,rfl⟩ PySem.F.entry_list_index (PySem.F.args_list_index_2 _ _) (PySem.SeqAt.list_indexAt p J8.toArray n dd sl (.int k t) (isInt k) (ns.idxOf k) (by simpa[L] using O) Θ ?_ ?_) ⟨Z,fun y hy=>(eq_isInt k t hi y (by simpa using hy)).at _ _,⟨.int (ns.idxOf k:Nat),H,I.tok _,⟨_,rfl⟩,q⟩⟩
 .show isInt k J8[ns.idxOf k]=θ;rw[isInt_at k hi _ Θ O];simpa using List.getElem_idxOf O
 .intro j U W;show isInt k J8[j]=ξ;rw[isInt_at k hi j (by simpa using U) Θ];exact ne_of_lt_idxOf W _
def dg:Dt->η Dt->ζ T
 |.e ds,[.int k]=>(lu ds).bind fun ns=>if k∈ns/\ns.length<=100000 then ς (.f (.int (ns.idxOf k:Nat)))else ψ
 |_,_=>ψ
def xz:MRD K (fun x vs H Q=>∃(p:J9)(ns:η Int)(k:Int),x=.ref p/\vs=[.int k]/\SqL K H p (ns.map V.int)/\k∈ns/\ns.length<=100000/\Q (.int (ns.idxOf k:Nat)) H) dg:=by
 intro F H d v ds vs Q t W rd rs q k;unfold dg at q;split at q<;>first|cases q;done|skip
 obtain⟨ns,O,q⟩:=bS q;split at q<;>cases q
 rename_i L;obtain⟨a,ws,rfl,h1,h2⟩:=rd;have:=kz h2 O;subst this;obtain⟨v,rfl,U⟩:=fm rs;cases U;exact⟨a,ns,_,rfl,rfl,h1,L.1,L.2,k.int W⟩
section
variable{X:Cx}{e o:Jc}{es:η Jc}{fo:De->ζ Dt}{fs:De->ζ (η Dt)}{apos cpos pos:Pos}
def u5 (ho:DB X o fo) (ha:DAB X (e::es) fs)
  (W:zb2 o "index" X.env (eval o X.env)=eval o X.env:=by rfl)
  (Y:((qj6 cpos (qa7 (e::es) X.env)).all (fun x=>!x.1)&&(backToKw cpos (zh2 [] X.env)).all (fun x=>x.1.isSome)
   && decide ((e::es).length+([]:η ze3).length+(if([]:η ze3).isEmpty then 0 else 1)<30))=θ:=by rfl)
  (U:(apos.endLine==cpos.line)=θ:=by rfl) (hs:qa7 (e::es) X.env=(ξ,eval e X.env)::qa7 es X.env:=by rfl) (L:(qj6 cpos (qa7 es X.env)).any (·.1)=ξ:=by rfl) :
  DO X (.Call (.Attribute o "index" apos) (e::es) [] cpos) (jZ dg fo fs):=PE.mono (vT PySem.F.plainAttrs_list PySem.F.slot_list_index PySem.F.type_list_index u4 ho ha.pa W Y U hs L) fun σ H Q ⟨Φ,δ,F,t,hK,en,q,k⟩=>by
 unfold jZ at q;obtain⟨d,hd,q⟩:=bS q;obtain⟨ds,hds,q⟩:=bS q;refine⟨Φ,δ,F,d,hK,en,hd,fun v H1 F1 st rv=>⟨?_,Φ,δ,F1,ds,hK,en.step st,hds,fun vs H2 F2 O Z=>xz F2 H2 d v ds vs Q t O.fh (rv.step O.ff O.hh) Z q (k.step (st.trans O))⟩⟩;unfold dg at q;split at q<;>first|cases q;done|skip
 obtain⟨a,ws,rfl,h1,h2⟩:=rv;exact .inl ⟨rfl,ws,h1⟩
end
section
variable{X:Cx}
end
noncomputable def pX:Dt->Dt->ζ T
 |.e l,.int n=>if 0<=n/\n<=1000/\l.length<=1000 then ς (.e (qc1 n.toNat l).flatten)else ψ
 |_,_=>ψ
def Fj (a:Int) (t:Tok) (l:J9) (J8:Array Vz) (n:Nat) (sl:Array (ζ Vz)) :
  Meets (qj4.«int.__rmul__» ⟨[.int a t,.ref l],[]⟩) (fun _ R s=>s.heap.get? l=ς {cls:=.type "list",dict:=ψ,data:=.seq J8 n,slots:=sl}/\R (.ok (.ret Value.notImplemented)) s):=
 .of_wp fun prog w A R s h=>by obtain⟨hp,g,d,tk,L⟩:=s;obtain⟨q,h⟩:=h;wp_walk;exact⟨_,rfl,h⟩
theorem mulL (l:J9) (J8:Array Vz) (n:Nat) (sl:Array (ζ Vz)) (x:Int) (u:Tok) (O:¬(!Builtin.List.listFitsIndex x)=θ) (h1:¬J8.size*x.toNat > (2^63-1)/8) (h2:¬qn4 (J8.size*x.toNat)=θ) (hsz:(zf8 (fun L q=>L++q) #[] (qc1 (if J8.isEmpty=θ then 0 else x.toNat) J8)).size<=qb2) :
  Meets (qj4.«list.__mul__» ⟨[.ref l,.int x u],[]⟩) (fun _ R s=>s.heap.get? l=ς {cls:=.type "list",dict:=ψ,data:=.seq J8 n,slots:=sl}/\R (.ok (.ret (qf3 s.heap.objs.size))) {s with heap:=s.heap.push {cls:=qk0 "list",data:=Data.seq (zf8 (fun L q=>L++q) #[] (qc1 (if J8.isEmpty=θ then 0 else x.toNat) J8))},toks:=s.toks}):=
 .of_wp fun prog w A R s h=>by obtain⟨hp,g,d,tk,W⟩:=s;obtain⟨U,h⟩:=h;wp_walk;refine wpAny_ite_false (decide_eq_false (qw2.mpr hsz)) ?_;wp_walk;exact⟨_,rfl,h⟩
def Bq(K:xA9):R2:=fun x y H Q=>∃l k xs,x=.ref l/\y=.int k/\SqL K H l xs/\(0<=k/\k<=1000/\xs.length<=1000)∧∀p,H p=ψ->Q (.ref p) (upd H p (.e (qc1 k.toNat xs).flatten))
def kA:OpR X (ql4 .Mult) (Bq X.K):=by
 intro J1 s σ H x y v u Q I rx ry h;obtain⟨l,k,xs,rfl,rfl,hH,⟨h0,h1,hx⟩,q⟩:=h;cases rx;obtain⟨t,rfl⟩:=ry;obtain⟨J8,r,pl,_⟩:=I.list hH;obtain⟨⟨cls,dd,data,sl⟩,n,O,hc,Y,hd⟩:=pl;simp only at hc hd Y;subst hc hd Y;have hl:=r.length;have hk:k.toNat<=1000:=by lia
 have hm:J8.length*k.toNat<=1000*1000:=zg8 Θ hk;have hs:qb2=16777216:=qw7;have W:J8.toArray.size*k.toNat<=qb2:=by rw[qb7];lia
 have L:zf8 (fun Z x2=>Z++x2) #[] (qc1 (if J8.toArray.isEmpty=θ then 0 else k.toNat) J8.toArray)=(qc1 k.toNat J8).flatten.toArray:=by
  have f0:∀m:Nat,zf8 (fun Z x2=>Z++x2) #[] (qc1 m J8.toArray)=(qc1 m J8).flatten.toArray:=fun m=>by have:=mt J8 m [];rw[qt0]at this;exact this
  rw[f0];cases J8 with
  |nil=>simp
  |cons a r'=>rw[if_neg Ξ]
 refine wpAny_binaryOp_repeat_ref (T:="list") (U:="int") Ω ⟨_,O,rfl⟩ (fun s'=>typeIs_int s' k t) noFill_list_mul F.fills_int_mul F.slot_int_rmul repeat_list F.slot_int_index.lookup
  (zf9 F.slot_int_rmul (typeIs_int s k t) F.entry_int_rmul (F.args_int_rmul_2 _ _) (Fj k t l J8.toArray n sl)
   ⟨O,rfl,⟨_,O,rfl⟩,zf9 F.slot_list_mul ⟨_,O,rfl⟩ F.entry_list_mul (F.args_list_mul_2 _ _) (mulL l J8.toArray n sl k t (by
    rw[fitsIndex_both Θ Θ];exact qb6) (by
    have:(qb2:Nat)<=(2^63-1)/8:=by decide
    lia) (by
    rw[oY W];exact qb6) (by
    rw[L,qb7,sj,Nat.mul_comm];lia)) ⟨O,?_⟩⟩)
 rw[L];exact⟨.ref _,_,I.lnew (t':=s.toks) (r.rep k.toNat) (by rw[sj,Nat.mul_comm,hl];lia),rfl,q _ I.fresh⟩
theorem Reps.rep{F:Hp}{l:η Dt}{vs:η V}(h:Reps K F l vs):∀n:Nat,Reps K F (qc1 n l).flatten (qc1 n vs).flatten
 |0=>by simp[Reps]
 |n+1=>by rw[qh9,qh9,qn3,qn3];exact h.append (Reps.rep h n)
def oe:R2D K (Bq K) pX:=by
 intro F H x y Z Y Q t W U O q k;unfold pX at q;split at q<;>first|(cases q;done)|skip
 split at q<;>cases q
 rename_i L;obtain⟨a,vs,rfl,h1,h2⟩:=U;cases O;exact⟨a,_,vs,rfl,rfl,h1,⟨L.1,L.2.1,by rw[h2.length];exact L.2.2⟩,fun p hp=>fA k W (Reps.rep h2 _) hp⟩
seal L2.PE L2.PS L2.PSs L2.PT L2.PW L2.PA L2.PI L2.PG L2.PTs L2.PO L2.PGs L2.du L2.OpR L2.IxR L2.SlR L2.MtR L2.UnR L2.DO L2.DL L2.DB L2.DT L2.DW L2.DS L2.DS1 L2.R2D L2.CRD L2.MRD L2.DG L2.DGs L2.DIF L2.DIB L2.DTs L2.DP
def el1{α:Type}{p:η α->Prop}(h:∀a,p [a]):∀us:η α,us.length=1->p us
 |[a],_=>h a
def el2{α:Type}{p:η α->Prop}(h:∀a b,p [a,b]):∀us:η α,us.length=2->p us
 |[a,b],_=>h a b
def el3{α:Type}{p:η α->Prop}(h:∀a b c,p [a,b,c]):∀us:η α,us.length=3->p us
 |[a,b,c],_=>h a b c
def el4{α:Type}{p:η α->Prop}(h:∀a b c d,p [a,b,c,d]):∀us:η α,us.length=4->p us
 |[a,b,c,d],_=>h a b c d
def el5{α:Type}{p:η α->Prop}(h:∀a b c d e,p [a,b,c,d,e]):∀us:η α,us.length=5->p us
 |[a,b,c,d,e],_=>h a b c d e
end L2
namespace P52
open PySem L2
def top(i:Nat):Jb:=PySem.Challenge.pw_dimhouse_k52_whole_made.main.body.getD i (.Pass ⟨0,0,0,0⟩)
noncomputable section
noncomputable def k_A:η Key:=[.inr "copy",.inr "op",.inr "store",.inr "take",.inr "lay",.inr "say",.inr "if",.inr "end"]
noncomputable def fF:η Dt:=[(.t [(.int 2),(.int 3)]),(.t [(.int 3),(.int 5)]),(.t [(.int 2),(.int 3)]),(.t [(.int 3),(.int 4)]),(.t [(.int 2),(.int 4)]),(.t [(.int 1),(.int 2)]),(.t [(.int 1),(.int 2)]),(.t [(.int 1),(.int 2)])]
def eT:Dt:=(.str "fresh")
def og:Dt:=(.str "safe")
def lB:Dt:=(.str "seen")
def ng:Dt:=(.t [(.str "copy"),(.str "op"),(.str "load"),(.str "take"),(.str "hear")])
def jg:Dt:=(.str "spoilt")
def y1:η Dt->ζ T:=bH 2 ((ai (sIf (tB2 (f9 fun i j=>decide (i<j)) (vB 1) (toD (ag bz (aa (vB 0) af)))) (aV (d2 ah (vB 0) (vB 1))) bo) (aV (toT (kD (.int 0))))))
def z51:De->ζ Out:=(ai (y13 2 (toD (d2 cg (vB 0) (vB 3)))) (ap 0 (toT (toD (d2 gz (vB 0) (vB 3))))))
def q12:η Dt->ζ T:=bH 4 ((ai (ap 2 (aR af))
  (ai (cV (fIt (vL 1)) (am 3) z51)
  (fg 2))))
def y30:η Dt->ζ T:=bH 13 ((ai (ap 5 (toT (toD (d2 az (toD (ag bz (aa (vB 4) af))) (kD (.int 1))))))
  (ai (ap 6 (toT (toD (ag q12 (aa (vL 0) (aa (toD (aR (aa (kD (.int 12)) (aa (toD (ag bz (aa (vB 4) af))) (aa (vL 5) (aa (toD (d2 jD (kD (.int 2)) (kD (.int 40)))) (aa (vL 5) (aa (toD (d2 jD (kD (.int 2)) (kD (.int 40)))) (aa (kD (.int 8)) (aa (kD (.int 24)) (aa (vL 1) af))))))))))) af))))))
  (ai (ap 7 (toT (toD (d2 ah (toD (d2 az (vB 4) (toD (aR (aa (toD (d2 ah (vB 6) (kD (.int 3)))) af))))) (toD (d2 ah (vB 6) (kD (.int 2))))))))
  (ai (ap 8 (toT (toD (d2 ah (toD (d2 az (vB 4) (toD (aR (aa (toD (d2 ah (vB 6) (kD (.int 5)))) af))))) (toD (d2 ah (vB 6) (kD (.int 4))))))))
  (ai (ap 9 (toT (toD (d2 ah (vB 4) (toD (d2 ah (vB 6) (kD (.int 1))))))))
  (ai (ap 10 (toT (toD (d2 ah (vB 2) (toD (d2 cg (toD (d2 ah (vB 6) (kD (.int 7)))) (toD (ag bz (aa (vB 2) af)))))))))
  (ai (ap 11 (aR (aa (toD (av (aa (kD (.str "copy")) (aa (vL 9) (aa (vL 7) af))))) (aa (toD (av (aa (kD (.str "op")) (aa (vL 9) (aa (toD (d2 ah (kD (.str "+-*<=&|^")) (toD (d2 ah (vB 6) (kD (.int 6)))))) (aa (vL 7) (aa (vL 8) af))))))) (aa (toD (av (aa (kD (.str "load")) (aa (vL 9) (aa (vL 10) af))))) (aa (toD (av (aa (kD (.str "store")) (aa (vL 10) (aa (vL 7) af))))) af))))))
  (ai (ap 11 (d2 az (vB 11) (toD (aR (aa (toD (av (aa (kD (.str "load")) (aa (vL 9) (aa (vL 10) af))))) (aa (toD (av (aa (kD (.str "store")) (aa (vL 10) (aa (vL 8) af))))) (aa (toD (av (aa (kD (.str "hear")) (aa (vL 9) af)))) (aa (toD (av (aa (kD (.str "say")) (aa (vL 7) af)))) af))))))))
  (ai (ap 11 (d2 az (vB 11) (toD (aR (aa (toD (av (aa (kD (.str "if")) (aa (vL 7) (aa (toD (d2 ah (vB 6) (kD (.int 8)))) af))))) (aa (toD (av (aa (kD (.str "go")) (aa (toD (d2 ah (vB 6) (kD (.int 8)))) af)))) (aa (toD (av (aa (kD (.str "end")) (aa (vL 7) af)))) (aa (toD (d2 ah (vB 11) (kD (.int 1)))) af))))))))
  (ai (sIf (tB2 (f9 fun i j=>decide (j<i)) (toD (ag bz (aa (vB 3) af))) (kD (.int 0))) (ai (ap 12 (toT (toD (d2 ah (vB 3) (toD (d2 cg (toD (d2 ah (vB 6) (kD (.int 7)))) (toD (ag bz (aa (vB 3) af)))))))))
  (ai (l9 11 (kD (.int 4)) (toD (av (aa (kD (.str "take")) (aa (vL 9) (aa (vL 12) (aa (vL 7) af)))))))
  (l9 11 (kD (.int 5)) (toD (av (aa (kD (.str "lay")) (aa (vL 12) (aa (vL 7) (aa (vL 8) af))))))))) bo)
  (aV (d2 ah (vB 11) (toD (d2 ah (vB 6) (kD (.int 0)))))))))))))))))
def y45:De->ζ Out:=(ai (ap 9 (toT (toD (d2 ah (kD (.str "abcdefghijklmnopqrstuvwxyz")) (toD (d2 cg (toD (d2 az (toD (d2 ah (vB 3) (kD (.int 2)))) (vB 8))) (kD (.int 26)))))))) (y13 7 (toD (d2 az (toD (d2 az (toD (d2 jf (vB 6) (vB 5))) (vB 9))) (toD (d2 jf (vB 6) (toD (d2 fj (toD (d2 fj (vB 4) (kD (.int 1)))) (vB 5)))))))))
def y12:η Dt->ζ T:=bH 10 ((ai (ap 2 (toT (toD (d2 cg (toD (d2 fw (vB 0) (kD (.int 48271)))) (kD (.int 1000000007))))))
  (ai (ap 3 (toT (toD (ag q12 (aa (vL 2) (aa (toD (aR (aa (kD (.int 6)) (aa (kD (.int 6)) (aa (kD (.int 26)) (aa (kD (.int 5)) af)))))) af))))))
  (ai (ap 4 (toT (toD (d2 az (kD (.int 1)) (toD (d2 ah (vB 3) (kD (.int 0))))))))
  (ai (ap 5 (toT (toD (d2 cg (toD (d2 ah (vB 3) (kD (.int 1)))) (vB 4)))))
  (ai (ap 6 (toT (toD (d2 ah (kD (.str "qxzjw")) (toD (d2 ah (vB 3) (kD (.int 3))))))))
  (ai (ap 7 (aR af))
  (ai (cV (da gG (aa (vL 1) af)) (am 8) y45)
  (fg 7)))))))))
def y34:De->ζ Dt:=(toD (av (aa (toD (d2 ah (vB 2) (vB 0))) (aa (toD (d2 ah (vB 3) (vB 0))) (aa (toD (d2 (gEq ξ) (toD (d2 ah (vB 1) (toD (d2 az (kD (.int 3)) (vB 0))))) (kD (.int 1)))) af)))))
def z34:De->ζ Dt:=(toD (av (aa (toD (d2 ah (vB 2) (toD (d2 az (kD (.int 8)) (vB 0))))) (aa (toD (d2 az (kD (.int 1)) (toD (d2 ah (vB 1) (toD (d2 az (kD (.int 15)) (vB 0))))))) (aa (toD (d2 (gEq ξ) (toD (d2 ah (vB 1) (toD (d2 az (kD (.int 11)) (vB 0))))) (kD (.int 1)))) af)))))
def z46:De->ζ Dt:=(toD (d2 ah (vB 0) (kD (.int 0))))
def y46:De->ζ Dt:=(toD (d2 ah (vB 0) (kD (.int 0))))
def y22:De->ζ Out:=(ai (ap 11 (toT (toD (aR (aa (toD (aQ [ψ] (fIt (vB 6)) (am 0) bh y46)) (aa (toD (aQ [ψ] (fIt (vB 7)) (am 0) bh z46)) af)))))) (y13 9 (toD (ag y30 (aa (vL 10) (aa (toD (d2 az (toD (ag bz (aa (vB 8) af))) (kD (.int 1)))) (aa (toD (d2 ah (vB 11) (kD (.int 0)))) (aa (toD (d2 ah (vB 11) (kD (.int 1)))) (aa (vL 4) af)))))))))
def z15:η Dt->ζ T:=bH 13 ((ai (ap 2 (toT (toD (ag q12 (aa (toD (d2 gz (toD (ag y1 (aa (vL 0) (aa (kD (.int 0)) af)))) (kD (.int 2)))) (aa (toD (d2 az (toD (d2 az (toD (aR (aa (kD (.int 8)) (aa (kD (.int 5)) (aa (kD (.int 12)) af))))) (toD (d2 pX (toD (aR (aa (kD (.int 2)) af))) (kD (.int 12)))))) (toD (d2 pX (toD (aR (aa (kD (.int 8)) af))) (kD (.int 4)))))) af))))))
  (ai (ap 3 (toT (toD (ag y12 (aa (toD (ag y1 (aa (vL 0) (aa (kD (.int 1)) af)))) (aa (kD (.int 13)) af))))))
  (ai (ap 4 (toT (toD (ag y12 (aa (toD (ag y1 (aa (vL 0) (aa (kD (.int 2)) af)))) (aa (toD (d2 az (kD (.int 1)) (toD (d2 ah (vB 2) (kD (.int 2)))))) af))))))
  (ai (ap 5 (toT (toD (ag q12 (aa (toD (ag y1 (aa (vL 0) (aa (kD (.int 3)) af)))) (aa (toD (d2 az (toD (d2 pX (toD (aR (aa (toD (d2 jD (kD (.int 2)) (kD (.int 40)))) af))) (kD (.int 9)))) (toD (aR (aa (kD (.int 2)) (aa (kD (.int 60)) (aa (toD (d2 az (toD (ag bz (aa (vB 4) af))) (kD (.int 1)))) af))))))) af))))))
  (ai (ap 6 (toT (toD (ag bO (aa (toD (aQ [ψ,ς 2,ς 3,ς 5] (da gG (aa (toD (d2 az (kD (.int 1)) (toD (d2 ah (vB 2) (kD (.int 0)))))) af)) (am 0) bh y34)) af)))))
  (ai (ap 7 (toT (toD (ag bO (aa (toD (aQ [ψ,ς 2,ς 3] (da gG (aa (toD (d2 ah (vB 2) (kD (.int 1)))) af)) (am 0) bh z34)) af)))))
  (ai (ap 8 (toT (toD (vSl (vB 0) (db (kD (.int 4))) (db (toD (d2 az (kD (.int 4)) (vB 1))))))))
  (ai (ap 9 (aR af))
  (ai (cV (fIt (vL 8)) (am 10) y22)
  (ai (ap 12 (toT (toD (av (aa (kD (.str "end")) (aa (toD (d2 ah (toD (d2 az (vB 4) (toD (aR (aa (toD (d2 ah (vB 5) (kD (.int 8)))) af))))) (toD (d2 ah (vB 5) (kD (.int 11)))))) af))))))
  (ai (sIf (tB2 (gEq ξ) (toD (d2 ah (vB 5) (kD (.int 9)))) (kD (.int 1))) (ap 12 (toT (toD (av (aa (kD (.str "go")) (aa (toD (d2 cg (toD (d2 ah (vB 5) (kD (.int 10)))) (toD (d2 az (toD (ag bz (aa (vB 8) af))) (kD (.int 1)))))) af)))))) bo)
  (aV (av (aa (vL 6) (aa (vL 7) (aa (toD (ag bO (aa (toD (d2 az (vB 9) (toD (aR (aa (vL 12) af))))) af))) af)))))))))))))))))
def q23:η Dt->ζ T:=bH 3 ((ai (sIf (tB2 (f9 fun i j=>decide (i<j)) (vB 0) (toD (ag bz (aa (vB 2) af)))) (aV (d2 ah (vB 2) (vB 0))) bo)
  (ai (sIf (tB2 (gEq ξ) (toD (d2 cg (vB 1) (kD (.int 3)))) (kD (.int 0))) (aV (d2 cg (toD (d2 gz (vB 1) (kD (.int 3)))) (kD (.int 4)))) bo)
  (aV (d2 cg (toD (d2 fw (vB 1) (kD (.int 69621)))) (toD (d2 jD (kD (.int 2)) (kD (.int 40)))))))))
def y38:η Dt->ζ T:=bH 14 ((ai (ap 5 (toT (toD (d2 cg (toD (d2 fw (vB 0) (kD (.int 48271)))) (kD (.int 1000000007))))))
  (ai (ap 6 (toT (toD (ag q12 (aa (vL 5) (aa (toD (aR (aa (kD (.int 16)) (aa (toD (ag bz (aa (vB 4) af))) (aa (toD (d2 az (toD (ag bz (aa (vB 4) af))) (kD (.int 2)))) (aa (toD (d2 az (toD (ag bz (aa (vB 4) af))) (kD (.int 2)))) (aa (kD (.int 9)) (aa (kD (.int 12)) (aa (vL 1) af))))))))) af))))))
  (ai (ap 7 (toT (toD (ag q23 (aa (toD (d2 ah (vB 6) (kD (.int 2)))) (aa (vL 0) (aa (vL 4) af)))))))
  (ai (ap 8 (toT (toD (ag q23 (aa (toD (d2 ah (vB 6) (kD (.int 3)))) (aa (toD (d2 gz (vB 0) (kD (.int 5)))) (aa (vL 4) af)))))))
  (ai (ap 9 (toT (toD (d2 ah (vB 4) (toD (d2 ah (vB 6) (kD (.int 1))))))))
  (ai (ap 10 (toT (toD (d2 ah (vB 2) (toD (d2 cg (toD (d2 ah (vB 6) (kD (.int 5)))) (toD (ag bz (aa (vB 2) af)))))))))
  (ai (ap 11 (toT (toD (d2 ah (vB 6) (kD (.int 0))))))
  (ai (sIf (cY (tB2 (bJ ξ) (vB 11) (toD (av (aa (kD (.int 7)) (aa (kD (.int 8)) af))))) (tB2 (f9 fun i j=>decide (j<i)) (toD (ag bz (aa (vB 3) af))) (kD (.int 0)))) (ai (ap 12 (toT (toD (d2 ah (vB 3) (toD (d2 cg (toD (d2 ah (vB 6) (kD (.int 5)))) (toD (ag bz (aa (vB 3) af)))))))))
  (aV (d2 ah (toD (aR (aa (toD (av (aa (kD (.str "take")) (aa (vL 9) (aa (vL 12) (aa (vL 7) af)))))) (aa (toD (av (aa (kD (.str "lay")) (aa (vL 12) (aa (vL 7) (aa (vL 8) af)))))) af)))) (toD (d2 fj (vB 11) (kD (.int 7))))))) bo)
  (ai (sIf (tB2 (bJ ξ) (vB 11) (toD (av (aa (kD (.int 3)) (aa (kD (.int 4)) (aa (kD (.int 7)) af)))))) (aV (av (aa (kD (.str "load")) (aa (vL 9) (aa (vL 10) af))))) bo)
  (ai (sIf (tB2 (bJ ξ) (vB 11) (toD (av (aa (kD (.int 5)) (aa (kD (.int 6)) (aa (kD (.int 8)) af)))))) (aV (av (aa (kD (.str "store")) (aa (vL 10) (aa (vL 7) af))))) bo)
  (ai (sIf (cY (tB2 (f9 fun i j=>decide (j<i)) (vB 11) (kD (.int 8))) (tB2 (f9 fun i j=>decide (i<j)) (vB 11) (kD (.int 15)))) (ai (ap 13 (toT (toD (aR (aa (toD (av (aa (kD (.str "hear")) (aa (vL 9) af)))) (aa (toD (av (aa (kD (.str "say")) (aa (vL 7) af)))) (aa (toD (av (aa (kD (.str "if")) (aa (vL 7) (aa (toD (d2 ah (vB 6) (kD (.int 6)))) af))))) (aa (toD (av (aa (kD (.str "if")) (aa (vL 7) (aa (toD (d2 ah (vB 6) (kD (.int 6)))) af))))) (aa (toD (av (aa (kD (.str "go")) (aa (toD (d2 ah (vB 6) (kD (.int 6)))) af)))) af)))))))))
  (aV (d2 ah (toD (d2 az (vB 13) (toD (aR (aa (toD (av (aa (kD (.str "end")) (aa (vL 7) af)))) af))))) (toD (d2 fj (vB 11) (kD (.int 9))))))) bo)
  (ai (sIf (tB2 (gEq ξ) (vB 11) (kD (.int 0))) (aV (av (aa (kD (.str "copy")) (aa (vL 9) (aa (vL 7) af))))) bo)
  (aV (av (aa (kD (.str "op")) (aa (vL 9) (aa (toD (d2 ah (kD (.str "+-*<=&|^+")) (toD (d2 ah (vB 6) (kD (.int 4)))))) (aa (vL 7) (aa (vL 8) af))))))))))))))))))))
def q31:De->ζ Out:=(y13 9 (toD (av (aa (toD (d2 ah (vB 5) (vB 10))) (aa (toD (d2 cg (toD (d2 fw (toD (d2 az (vB 8) (vB 10))) (kD (.int 982451653)))) (toD (d2 jD (kD (.int 2)) (kD (.int 40)))))) (aa (toD (d2 (gEq ξ) (toD (d2 ah (vB 4) (toD (d2 az (kD (.int 3)) (toD (d2 cg (vB 10) (kD (.int 6)))))))) (kD (.int 1)))) af))))))
def q29:De->ζ Out:=(y13 11 (toD (av (aa (toD (d2 ah (vB 5) (toD (d2 az (kD (.int 8)) (vB 10))))) (aa (toD (d2 az (kD (.int 1)) (toD (d2 ah (vB 4) (toD (d2 az (kD (.int 9)) (toD (d2 cg (vB 10) (kD (.int 2)))))))))) (aa (toD (d2 (gEq ξ) (toD (d2 ah (vB 4) (toD (d2 fj (kD (.int 7)) (vB 10))))) (kD (.int 1)))) af))))))
def z49:De->ζ Dt:=(toD (d2 ah (vB 0) (kD (.int 0))))
def y49:De->ζ Dt:=(toD (d2 ah (vB 0) (kD (.int 0))))
def z29:De->ζ Out:=(y13 12 (toD (ag y38 (aa (vL 14) (aa (toD (d2 az (toD (ag bz (aa (vB 13) af))) (kD (.int 1)))) (aa (toD (aQ [ψ] (fIt (vB 9)) (am 0) bh y49)) (aa (toD (aQ [ψ] (fIt (vB 11)) (am 0) bh z49)) (aa (vL 7) af))))))))
def q37:η Dt->ζ T:=bH 15 ((ai (ap 3 (toT (toD (d2 cg (toD (d2 fw (toD (ag y1 (aa (vL 0) (aa (kD (.int 0)) af)))) (kD (.int 69621)))) (kD (.int 1000000007))))))
  (ai (ap 4 (toT (toD (ag q12 (aa (vL 3) (aa (toD (aR (aa (kD (.int 4)) (aa (kD (.int 3)) (aa (kD (.int 4)) (aa (kD (.int 2)) (aa (kD (.int 2)) (aa (kD (.int 2)) (aa (kD (.int 2)) (aa (kD (.int 2)) (aa (kD (.int 2)) (aa (kD (.int 8)) (aa (kD (.int 8)) (aa (kD (.int 4)) af)))))))))))))) af))))))
  (ai (ap 5 (toT (toD (ag y12 (aa (toD (ag y1 (aa (vL 0) (aa (kD (.int 1)) af)))) (aa (kD (.int 13)) af))))))
  (ai (ap 6 (toT (toD (aR (aa (toD (d2 az (kD (.int 1)) (toD (d2 ah (vB 4) (kD (.int 0)))))) (aa (toD (d2 ah (vB 4) (kD (.int 1)))) (aa (toD (d2 az (kD (.int 2)) (toD (d2 ah (vB 4) (kD (.int 2)))))) af)))))))
  (ai (sIf (cY (cF (vB 2)) (tB2 (gEq ξ) (toD (d2 ah (vB 4) (kD (.int 11)))) (kD (.int 1)))) (ap 6 (toT (toD (aR (aa (kD (.int 8)) (aa (kD (.int 4)) (aa (kD (.int 12)) af))))))) bo)
  (ai (ap 7 (toT (toD (ag y12 (aa (toD (ag y1 (aa (vL 0) (aa (kD (.int 2)) af)))) (aa (toD (d2 ah (vB 6) (kD (.int 2)))) af))))))
  (ai (ap 8 (toT (toD (ag y1 (aa (vL 0) (aa (kD (.int 3)) af))))))
  (ai (ap 9 (aR af))
  (ai (cV (da gG (aa (toD (d2 ah (vB 6) (kD (.int 0)))) af)) (am 10) q31)
  (ai (ap 11 (aR af))
  (ai (cV (da gG (aa (toD (d2 ah (vB 6) (kD (.int 1)))) af)) (am 10) q29)
  (ai (ap 12 (aR af))
  (ai (ap 13 (toT (toD (vSl (vB 0) (db (kD (.int 4))) (db (toD (d2 az (kD (.int 4)) (vB 1))))))))
  (ai (cV (fIt (vL 13)) (am 14) z29)
  (ai (y13 12 (toD (av (aa (kD (.str "end")) (aa (toD (ag q23 (aa (toD (d2 cg (vB 3) (toD (d2 az (toD (ag bz (aa (vB 7) af))) (kD (.int 1)))))) (aa (vL 8) (aa (vL 7) af))))) af)))))
  (aV (av (aa (toD (ag bO (aa (vB 9) af))) (aa (toD (ag bO (aa (vB 11) af))) (aa (toD (ag bO (aa (vB 12) af))) af)))))))))))))))))))))
def q42:De->ζ Out:=(ai (ap 5 (toT (toD (d2 cg (toD (d2 fw (toD (d2 az (vB 0) (toD (d2 fw (vB 4) (kD (.int 7919)))))) (kD (.int 48271)))) (kD (.int 1000000007)))))) (y13 3 (toD (d2 ah (toD (aR (aa (toD (av (aa (kD (.str "copy")) (aa (toD (d2 ah (vB 2) (toD (gH (kD (.int 1)))))) (aa (vL 5) af))))) (aa (toD (av (aa (kD (.str "say")) (aa (toD (d2 gz (vB 5) (kD (.int 2)))) af)))) (aa (toD (av (aa (kD (.str "hear")) (aa (toD (d2 ah (vB 2) (toD (gH (kD (.int 1)))))) af)))) af))))) (toD (d2 cg (vB 5) (kD (.int 3))))))))
def y40:η Dt->ζ T:=bH 6 ((ai (ap 3 (aR af))
  (ai (cV (da gG (aa (vL 1) af)) (am 4) q42)
  (fg 3))))
def q14:De->ζ Dt:=(toD (ag y40 (aa (toD (d2 az (vB 2) (toD (d2 fw (kD (.int 31)) (vB 0))))) (aa (toD (d2 ah (vB 3) (vB 0))) (aa (vL 1) af)))))
def y16:η Dt->ζ T:=bH 16 ((ai (ap 4 (toT (toD (d2 cg (toD (d2 fw (vB 0) (kD (.int 69621)))) (kD (.int 1000000007))))))
  (ai (ap 5 (toT (toD (ag q12 (aa (vL 4) (aa (toD (aR (aa (kD (.int 2)) (aa (kD (.int 2)) (aa (kD (.int 2)) (aa (kD (.int 2)) (aa (kD (.int 2)) (aa (kD (.int 5)) (aa (kD (.int 5)) (aa (kD (.int 5)) (aa (kD (.int 2)) af))))))))))) af))))))
  (ai (ap 6 (toT (toD (aQ [ψ,ς 2,ς 4,ς 5] (da gG (aa (kD (.int 4)) af)) (am 0) bh q14))))
  (ai (wu (toD (d2 ah (toD (d2 ah (vB 1) (kD (.int 0)))) (kD (.int 0)))) (eG 3 (aW (am 7) (aW (am 8) (aW (am 9) eF)))))
  (ai (ap 10 (toT (toD (av (aa (toD (av (aa (vL 7) (aa (vL 8) (aa (toD (d2 (gEq ξ) (toD (d2 cg (vB 4) (kD (.int 8)))) (kD (.int 1)))) af))))) af)))))
  (ai (ap 11 (toT (toD (d2 az (toD (d2 az (toD (aR (aa (toD (av (aa (kD (.str "store")) (aa (vL 7) (aa (toD (d2 ah (vB 5) (kD (.int 6)))) af))))) af))) (toD (d2 ah (vB 6) (kD (.int 0)))))) (toD (aR (aa (toD (av (aa (kD (.str "end")) (aa (toD (d2 ah (vB 5) (kD (.int 7)))) af)))) af)))))))
  (ai (ap 12 (toT (toD (aR af))))
  (ai (sIf (tB2 (gEq ξ) (toD (d2 ah (vB 5) (kD (.int 8)))) (kD (.int 1))) (ai (ap 10 (toT (toD (d2 mO (vB 10) (toD (av (aa (toD (av (aa (vL 3) (aa (vL 8) (aa (kD (.bl ξ)) af))))) af)))))))
  (ai (ap 11 (toT (toD (d2 az (toD (aR (aa (toD (av (aa (kD (.str "store")) (aa (vL 3) (aa (toD (d2 ah (vB 5) (kD (.int 6)))) af))))) (aa (toD (av (aa (kD (.str "end")) (aa (toD (d2 ah (vB 5) (kD (.int 7)))) af)))) (aa (toD (av (aa (kD (.str "store")) (aa (vL 7) (aa (toD (d2 ah (vB 5) (kD (.int 5)))) af))))) af))))) (toD (d2 ah (vB 6) (kD (.int 0))))))))
  (ai (ap 11 (toT (toD (d2 az (vB 11) (toD (aR (aa (toD (av (aa (kD (.str "load")) (aa (toD (d2 ah (vB 2) (toD (gH (kD (.int 1)))))) (aa (vL 3) af))))) (aa (toD (av (aa (kD (.str "go")) (aa (kD (.int 1)) af)))) af))))))))
  (ap 12 (toT (toD (aR (aa (toD (av (aa (kD (.str "store")) (aa (vL 3) (aa (toD (d2 ah (vB 5) (kD (.int 7)))) af))))) af)))))))) bo)
  (ai (ap 13 (toT (toD (d2 az (kD (.int 1)) (toD (ag bz (aa (vB 11) af)))))))
  (ai (ap 14 (toT (toD (d2 az (toD (d2 az (toD (d2 az (vB 13) (toD (ag bz (aa (vB 12) af))))) (kD (.int 2)))) (toD (ag bz (aa (toD (d2 ah (vB 6) (kD (.int 1)))) af)))))))
  (ai (ap 15 (toT (toD (av (aa (kD (.str "if")) (aa (toD (d2 ah (toD (aR (aa (toD (d2 ah (vB 2) (kD (.int 0)))) (aa (toD (d2 ah (vB 5) (kD (.int 5)))) af)))) (toD (d2 ah (vB 5) (kD (.int 4)))))) (aa (toD (d2 az (toD (d2 az (vB 14) (kD (.int 2)))) (toD (ag bz (aa (toD (d2 ah (vB 6) (kD (.int 2)))) af))))) af)))))))
  (ai (ap 11 (toT (toD (d2 az (toD (d2 az (toD (d2 az (toD (d2 az (toD (aR (aa (toD (av (aa (kD (.str "go")) (aa (vL 13) af)))) af))) (vB 11))) (vB 12))) (toD (aR (aa (vL 15) (aa (toD (av (aa (kD (.str "store")) (aa (vL 7) (aa (toD (d2 ah (vB 2) (kD (.int 0)))) af))))) af)))))) (toD (d2 ah (vB 6) (kD (.int 1))))))))
  (ai (ap 11 (toT (toD (d2 az (toD (d2 az (toD (d2 az (vB 11) (toD (aR (aa (toD (av (aa (kD (.str "load")) (aa (toD (d2 ah (vB 2) (toD (gH (kD (.int 1)))))) (aa (vL 7) af))))) af))))) (toD (d2 ah (vB 6) (kD (.int 2)))))) (toD (aR (aa (toD (av (aa (kD (.str "go")) (aa (toD (d2 az (kD (.int 1)) (toD (d2 fw (kD (.int 2)) (toD (d2 ah (vB 5) (kD (.int 8)))))))) af)))) af)))))))
  (ai (ap 11 (toT (toD (d2 az (toD (d2 az (toD (d2 az (vB 11) (toD (aR (aa (toD (av (aa (kD (.str "store")) (aa (vL 7) (aa (toD (d2 ah (vB 5) (kD (.int 5)))) af))))) af))))) (toD (d2 ah (vB 6) (kD (.int 3)))))) (toD (aR (aa (toD (av (aa (kD (.str "go")) (aa (vL 14) af)))) af)))))))
  (aV (av (aa (toD (pT (toD (d2 je (vB 10) (toD (pT (toD (d2 ah (vB 1) (kD (.int 0)))) (db (kD (.int 1))) gy)))) gy (db (kD (.int 8))))) (aa (toD (d2 ah (vB 1) (kD (.int 1)))) (aa (toD (ag bO (aa (vB 11) af))) af))))))))))))))))))))
def q30:η Dt->ζ T:=bH 2 ((ai (sIf (tB2 (gEq ξ) (toD (d2 ah (vB 0) (kD (.int 0)))) (kD (.str "end"))) (aV (av af)) bo)
  (ai (sIf (tB2 (gEq ξ) (toD (d2 ah (vB 0) (kD (.int 0)))) (kD (.str "go"))) (aV (av (aa (toD (d2 ah (vB 0) (kD (.int 1)))) af))) bo)
  (ai (sIf (tB2 (gEq ξ) (toD (d2 ah (vB 0) (kD (.int 0)))) (kD (.str "if"))) (aV (av (aa (toD (d2 ah (vB 0) (kD (.int 2)))) (aa (toD (d2 az (vB 1) (kD (.int 1)))) af)))) bo)
  (aV (av (aa (toD (d2 az (vB 1) (kD (.int 1)))) af)))))))
def y54:De->ζ Dt:=(toD (kg (toD (g5 "int" (vB 0))) (kg (toD (zL (toD (g5 "bool" (vB 0))))) (nX (f9 fun i j=>decide (i<=j)) (f9 fun i j=>decide (i<j)) (kD (.int 0)) (vB 0) (toD (ag bz (aa (vB 1) af)))))))
def y41:De->ζ Out:=(sIf (fOr (tB2 (bJ ξ) (toD (d2 ah (vB 1) (vB 4))) (vB 2)) (tB2 (bJ θ) (toD (d2 ah (vB 1) (vB 4))) (toD (ag q30 (aa (toD (d2 ah (vB 3) (toD (d2 ah (vB 1) (toD (d2 fj (vB 4) (kD (.int 1)))))))) (aa (toD (d2 ah (vB 1) (toD (d2 fj (vB 4) (kD (.int 1)))))) af)))))) dl bo)
def y31:η Dt->ζ T:=bH 5 ((ai (ap 3 (toT (toD (d2 ah (vB 0) (kD (.int 2))))))
  (ai (sIf (fOr (dH (cF (toD (g5 "list" (vB 1))))) (tB2 (gEq ξ) (toD (ag bz (aa (vB 1) af))) (kD (.int 0)))) dl bo)
  (ai (sIf (dH (cF (toD (ag (qI fun bs=>bs.all id) (aa (toD (aQ [ψ,ς 3] (fIt (vB 1)) (am 0) bh y54)) af))))) dl bo)
  (ai (cV (da qF (aa (kD (.int 1)) (aa (toD (ag bz (aa (vB 1) af))) af))) (am 4) y41)
  (aV (toT (kD (.bl θ)))))))))
def q52:De->ζ Out:=(ai (ap 5 (toT (toD (d2 ah (toD (d2 ah (vB 0) (kD (.int 2)))) (vB 4)))))
  (ai (sIf (cY (tB2 (gEq ξ) (toD (d2 ah (vB 5) (kD (.int 0)))) (kD (.str "store"))) (cY (tB2 (gEq ξ) (toD (d2 ah (vB 5) (kD (.int 1)))) (vB 1)) (dH (cF (vB 3))))) dl bo)
  (sIf (cY (tB2 (bJ ξ) (toD (d2 ah (vB 5) (kD (.int 0)))) (toD (av (aa (kD (.str "load")) (aa (kD (.str "take")) af))))) (tB2 (gEq ξ) (toD (d2 ah (vB 5) (kD (.int 2)))) (vB 1))) (ap 3 (toT (kD (.bl θ)))) bo)))
def q41:η Dt->ζ T:=bH 7 ((ai (ap 3 (toT (kD (.bl ξ))))
  (ai (cV (fIt (toD (vSl (vB 2) gy (db (toD (gH (kD (.int 1)))))))) (am 4) q52)
  (ai (ap 6 (toT (toD (d2 ah (toD (d2 ah (vB 0) (kD (.int 2)))) (toD (d2 ah (vB 2) (toD (gH (kD (.int 1))))))))))
  (aV (kg (vB 3) (kg (toD (d2 (bJ ξ) (toD (d2 ah (vB 6) (kD (.int 0)))) (toD (av (aa (kD (.str "store")) (aa (kD (.str "lay")) af)))))) (d2 (gEq ξ) (toD (d2 ah (vB 6) (kD (.int 1)))) (vB 1)))))))))
def z54:De->ζ Bool:=(dH (cF (toD (d2 ah (vB 0) (kD (.int 2))))))
def y70:De->ζ Dt:=(toD (d2 ah (vB 0) (kD (.int 0))))
def y20:η Dt->ζ T:=bH 6 ((ai (ap 3 (toT (toD (aQ [ψ,ψ] (fIt (toD (d2 ah (vB 1) (kD (.int 1))))) (eG 2 (aW (am 0) (aW (am 1) eF))) bh (vL 0)))))
  (ai (sIf (fOr (dH (cF (toD (g5 "tuple" (vB 2))))) (tB2 (f9 fun i j=>decide (i<j)) (toD (ag bz (aa (vB 2) af))) (kD (.int 2)))) dl bo)
  (ai (sIf (tB2 (gEq ξ) (toD (d2 ah (vB 2) (kD (.int 0)))) (kD (.str "ring"))) (ai (ap 4 (toT (toD (d2 ah (vB 2) (kD (.int 1))))))
  (ai (sIf (fOr (dH (cF (toD (ag y31 (aa (vL 0) (aa (vL 4) (aa (vL 3) af))))))) (fOr (tB2 (bJ ξ) (toD (d2 ah (vB 4) (kD (.int 0)))) (vB 3)) (tB2 (gEq θ) (toD (ag lA (aa (vB 4) af))) (toD (ag bz (aa (vB 4) af)))))) dl bo)
  (aV (d2 (bJ ξ) (toD (d2 ah (vB 4) (kD (.int 0)))) (toD (ag q30 (aa (toD (d2 ah (toD (d2 ah (vB 0) (kD (.int 2)))) (toD (d2 ah (vB 4) (toD (gH (kD (.int 1)))))))) (aa (toD (d2 ah (vB 4) (toD (gH (kD (.int 1)))))) af)))))))) bo)
  (ai (sIf (fOr (tB2 (gEq θ) (toD (d2 ah (vB 2) (kD (.int 0)))) (kD (.str "spoil"))) (tB2 (gEq θ) (toD (ag bz (aa (vB 2) af))) (kD (.int 3)))) dl bo)
  (ai (ap 5 (toT (toD (aQ [ψ] (fIt (toD (d2 je (toD (d2 ah (vB 0) (kD (.int 0)))) (toD (d2 ah (vB 0) (kD (.int 1))))))) (am 0) z54 y70))))
  (ai (ap 4 (toT (toD (d2 ah (vB 2) (kD (.int 2))))))
  (ai (sIf (fOr (tB2 (bJ θ) (toD (d2 ah (vB 2) (kD (.int 1)))) (vB 5)) (dH (cF (toD (ag y31 (aa (vL 0) (aa (vL 4) (aa (vL 3) af)))))))) dl bo)
  (aV (kg (toD (vOr (toD (d2 (gEq ξ) (toD (d2 ah (vB 4) (kD (.int 0)))) (kD (.int 0)))) (d2 (bJ ξ) (toD (d2 ah (vB 4) (kD (.int 0)))) (vB 3)))) (ag q41 (aa (vL 0) (aa (toD (d2 ah (vB 2) (kD (.int 1)))) (aa (vL 4) af))))))))))))))
def q88:η Dt->ζ T:=bH 1 ((aV (vIf (tB2 (bJ ξ) (toD (d2 ah (vB 0) (kD (.int 0)))) (kD ng)) (d2 ah (vB 0) (kD (.int 1))) (toT (kD .non)))))
def y88:η Dt->ζ T:=bH 2 ((ai (sIf (fSi θ k_A fF (toD (d2 ah (vB 0) (kD (.int 0))))) (aV (av af)) bo)
  (ai (ap 1 (toT (toD (vSg k_A fF (toD (d2 ah (vB 0) (kD (.int 0))))))))
  (aV (vSl (vB 0) (db (toD (d2 ah (vB 1) (kD (.int 0))))) (db (toD (d2 ah (vB 1) (kD (.int 1))))))))))
def q69:De->ζ Out:=(sIf (cY (cF (toD (g5 "str" (vB 2)))) (tB2 (bJ θ) (vB 2) (vB 1))) (y13 1 (vL 2)) bo)
def q76:η Dt->ζ T:=bH 3 ((ai (ap 1 (aR af))
  (ai (cV (fIt (toD (ag y88 (aa (vL 0) af)))) (am 2) q69)
  (fg 1))))
def y48:De->ζ Bool:=(tB2 (gEq θ) (vB 0) (toD (ag q88 (aa (vL 1) af))))
def z48:De->ζ Out:=(q57 2 (aQ [ψ,ς 0] (fIt (vB 3)) (am 0) y48 (vL 0)))
def q22:η Dt->ζ T:=bH 4 ((ai (ap 2 (ag q76 (aa (vL 0) af)))
  (ai (cV (fIt (vL 1)) (am 3) z48)
  (aV (ag jc (aa (vB 2) af))))))
def q71:η Dt->ζ T:=bH 2 ((ai (sIf (tB2 (gEq ξ) (toD (d2 ah (vB 1) (kD (.int 0)))) (kD (.str "go"))) (aV (av (aa (toD (d2 ah (vB 1) (kD (.int 1)))) af))) bo)
  (ai (sIf (tB2 (gEq ξ) (toD (d2 ah (vB 1) (kD (.int 0)))) (kD (.str "if"))) (aV (av (aa (toD (d2 ah (vB 1) (kD (.int 2)))) (aa (toD (d2 az (vB 0) (kD (.int 1)))) af)))) bo)
  (ai (sIf (tB2 (gEq ξ) (toD (d2 ah (vB 1) (kD (.int 0)))) (kD (.str "end"))) (aV (av af)) bo)
  (aV (av (aa (toD (d2 az (vB 0) (kD (.int 1)))) af)))))))
def y107:De->ζ Dt:=(toD (ag q71 (aa (vL 0) (aa (vL 1) af))))
def dz:η Dt->ζ T:=bH 1 ((aV (aQ [ψ,ψ] (da iw (aa (toD (d2 ah (vB 0) (kD (.int 2)))) af)) (eG 2 (aW (am 0) (aW (am 1) eF))) bh y107)))
def z33:De->ζ Dt:=(toD (aR af))
def q66:De->ζ Dt:=(toD (d2 ah (vB 1) (vB 0)))
def y64:De->ζ Out:=(ai (ap 6 (toT (toD (ag q22 (aa (toD (d2 ah (vB 1) (vB 5))) (aa (toD (aQ [ψ,ς 3] (fIt (toD (d2 ah (vB 2) (vB 5)))) (am 0) bh q66)) af))))))
  (sIf (tB2 (gEq θ) (vB 6) (toD (d2 ah (vB 3) (vB 5)))) (ai (l9 3 (vB 5) (vL 6))
  (ap 4 (toT (kD (.bl θ))))) bo))
def q65:De->ζ Out:=(ai (ap 4 (toT (kD (.bl ξ)))) (cV (da uR (aa (toD (d2 fj (toD (ag bz (aa (vB 1) af))) (kD (.int 1)))) (aa (toD (gH (kD (.int 1)))) (aa (toD (gH (kD (.int 1)))) af)))) (am 5) y64))
def z96:De->ζ Bool:=(cF (vB 4))
def z18:η Dt->ζ T:=bH 7 ((ai (ap 1 (toT (toD (d2 ah (vB 0) (kD (.int 2))))))
  (ai (ap 2 (toT (toD (ag dz (aa (vL 0) af)))))
  (ai (ap 3 (aQ [ψ] (fIt (vB 1)) (am 0) bh z33))
  (ai (ap 4 (toT (kD (.bl θ))))
  (ai (bp z96 q65 100000)
  (fg 3)))))))
def y69:De->ζ Bool:=(dH (cF (toD (d2 ah (vB 0) (kD (.int 2))))))
def z70:De->ζ Dt:=(toD (d2 ah (vB 0) (kD (.int 0))))
def q15:η Dt->ζ T:=bH 1 ((aV (aQ [ψ] (fIt (toD (d2 je (toD (d2 ah (vB 0) (kD (.int 0)))) (toD (d2 ah (vB 0) (kD (.int 1))))))) (am 0) y69 z70)))
def z21:De->ζ Out:=(sIf (fOr (tB2 (gEq ξ) (toD (d2 ah (vB 4) (kD (.int 0)))) (kD (.str "end"))) (cY (tB2 (bJ ξ) (toD (d2 ah (vB 4) (kD (.int 0)))) (toD (av (aa (kD (.str "store")) (aa (kD (.str "lay")) af))))) (tB2 (bJ ξ) (toD (d2 ah (vB 4) (kD (.int 1)))) (vB 1)))) (y13 2 (vL 3)) bo)
def y27:η Dt->ζ T:=bH 5 ((ai (ap 1 (toT (toD (ag q15 (aa (vL 0) af)))))
  (ai (ap 2 (aR af))
  (ai (cV (da iw (aa (toD (d2 ah (vB 0) (kD (.int 2)))) af)) (eG 2 (aW (am 3) (aW (am 4) eF))) z21)
  (fg 2)))))
def z26:De->ζ Bool:=(tB2 (f9 fun i j=>decide (i<=j)) (vB 0) (vB 1))
def z17:De->ζ Out:=(q57 1 (aQ [ψ,ς 2] (fIt (vB 3)) (am 0) z26 (vL 0)))
def z19:η Dt->ζ T:=bH 4 ((ai (ap 1 (aR af))
  (ai (cV (da iw (aa (toD (ag dz (aa (vL 0) af))) af)) (eG 2 (aW (am 2) (aW (am 3) eF))) z17)
  (fg 1))))
def q44:De->ζ Dt:=(toD (av (aa (vL 0) (aa (toD (ag bO (aa (toD (d2 ah (vB 1) (vB 0))) af))) af))))
def y17:η Dt->ζ T:=bH 3 ((ai (ap 1 (toT (toD (ag z18 (aa (vL 0) af)))))
  (ai (ap 2 (toT (toD (ag fS (aa (toD (d2 az (toD (ag y27 (aa (vL 0) af))) (toD (ag z19 (aa (vL 0) af))))) af)))))
  (aV (av (aa (toD (ag bO (aa (toD (d2 ah (vB 1) (kD (.int 0)))) af))) (aa (toD (ag bO (aa (toD (aQ [ψ,ς 1] (fIt (vB 2)) (am 0) bh q44)) af))) af)))))))
def z79:De->ζ Dt:=(toD (d2 ah (vB 0) (kD (.int 0))))
def z14:η Dt->ζ T:=bH 1 ((aV (aQ [ψ] (fIt (toD (d2 ah (vB 0) (kD (.int 1))))) (am 0) bh z79)))
def z32:De->ζ Out:=(sIf (cY (tB2 (gEq ξ) (toD (d2 ah (vB 4) (kD (.int 0)))) (kD (.str "end"))) (tB2 (bJ θ) (vB 3) (vB 2))) (aV (av (aa (kD (.str "end")) (aa (vL 3) af)))) bo)
def z41:η Dt->ζ T:=bH 5 ((ai (ap 2 (toT (toD (ag z14 (aa (vL 1) af)))))
  (ai (cV (da iw (aa (toD (d2 ah (vB 0) (kD (.int 2)))) af)) (eG 2 (aW (am 3) (aW (am 4) eF))) z32)
  (aV (toT (kD .non))))))
def y75:De->ζ Dt:=(toD (av (aa (toD (d2 ah (vB 0) (kD (.int 0)))) (aa (toD (d2 ah (vB 0) (kD (.int 1)))) (aa (kD (.bl ξ)) af)))))
def q59:De->ζ Out:=(sIf (tB2 (bJ θ) (vB 7) (vB 5)) dl bo)
def y58:De->ζ Out:=(cV (fIt (toD (d2 ah (vB 2) (vB 4)))) (am 7) q59)
def q35:η Dt->ζ T:=bH 8 ((ai (ap 2 (toT (toD (ag z18 (aa (vL 0) af)))))
  (ai (ap 3 (toT (toD (d2 az (toD (aR (aa (toD (av (aa (kD (.int 0)) (aa (toD (d2 ah (vB 1) (kD (.int 0)))) (aa (kD (.bl θ)) af))))) af))) (toD (aQ [ψ] (fIt (toD (d2 ah (vB 1) (kD (.int 1))))) (am 0) bh y75))))))
  (ai (cV (fIt (vL 3)) (eG 3 (aW (am 4) (aW (am 5) (aW (am 6) eF)))) y58)
  (aV (toT (kD .non)))))))
def z39:De->ζ Dt:=(toD (d2 (bJ ξ) (vB 0) (vB 1)))
def y18:De->ζ Bool:=(cF (toD (ag (qI fun bs=>bs.any id) (aa (toD (aQ [ψ,ς 2] (fIt (toD (d2 ah (vB 1) (vB 0)))) (am 0) bh z39)) af))))
def q40:De->ζ Out:=(ai (ap 4 (toT (toD (aQ [ψ,ς 0,ς 2] (fIt (vB 2)) (am 0) y18 (vL 0)))))
  (ai (ap 3 (toT (toD (d2 (f9 fun i j=>decide (i<j)) (toD (ag bz (aa (vB 4) af))) (toD (ag bz (aa (vB 2) af)))))))
  (ap 2 (toT (vL 4)))))
def q49:De->ζ Bool:=(cF (vB 3))
def y35:η Dt->ζ T:=bH 5 ((ai (ap 2 (toT (vL 1)))
  (ai (ap 3 (toT (kD (.bl θ))))
  (ai (bp q49 q40 100000)
  (fg 2)))))
def q45:De->ζ Bool:=(tB2 (bJ θ) (vB 0) (vB 1))
def q21:De->ζ Bool:=(tB2 (bJ ξ) (vB 0) (vB 1))
def z37:De->ζ Out:=(ai (y13 5 (vL 6)) (ap 6 (toT (toD (d2 ah (toD (aQ [ψ,ς 4] (fIt (toD (d2 ah (vB 3) (vB 6)))) (am 0) q21 (vL 0))) (kD (.int 0)))))))
def z45:De->ζ Bool:=(tB2 (bJ θ) (vB 6) (vB 5))
def y23:η Dt->ζ T:=bH 7 ((ai (ap 2 (toT (toD (ag z14 (aa (vL 1) af)))))
  (ai (ap 3 (toT (toD (ag dz (aa (vL 0) af)))))
  (ai (ap 4 (toT (toD (ag y35 (aa (vL 3) (aa (toD (aQ [ψ,ς 2] (da gG (aa (toD (ag bz (aa (vB 3) af))) af)) (am 0) q45 (vL 0))) af))))))
  (ai (sIf (tB2 (gEq ξ) (toD (ag bz (aa (vB 4) af))) (kD (.int 0))) (aV (toT (kD .non))) bo)
  (ai (ap 5 (aR af))
  (ai (ap 6 (toT (toD (d2 ah (vB 4) (kD (.int 0))))))
  (ai (bp z45 z37 100000)
  (aV (av (aa (kD (.str "ring")) (aa (toD (vSl (vB 5) (db (toD (jZ dg (vB 5) (aa (vB 6) af)))) gy)) af))))))))))))
def z74:De->ζ Bool:=(tB2 (bJ θ) (vB 0) (vB 1))
def z59:De->ζ Dt:=(toD (aQ [ψ,ς 1] (fIt (vB 0)) (am 0) z74 (vL 0)))
def q24:η Dt->ζ T:=bH 3 ((ai (ap 2 (toT (toD (ag z14 (aa (vL 1) af))))) (aV (aQ [ψ,ς 2] (fIt (toD (ag dz (aa (vL 0) af)))) (am 0) bh z59))))
def y32:η Dt->ζ T:=bH 3 ((ai (sIf (cY (tB2 (gEq ξ) (vB 0) (kD eT)) (cY (tB2 (bJ ξ) (toD (d2 ah (vB 1) (kD (.int 0)))) (toD (av (aa (kD (.str "load")) (aa (kD (.str "take")) af))))) (tB2 (gEq ξ) (toD (d2 ah (vB 1) (kD (.int 2)))) (vB 2)))) (aV (toT (kD lB))) bo)
  (ai (sIf (cY (tB2 (gEq ξ) (vB 0) (kD eT)) (cY (tB2 (gEq ξ) (toD (d2 ah (vB 1) (kD (.int 0)))) (kD (.str "store"))) (tB2 (gEq ξ) (toD (d2 ah (vB 1) (kD (.int 1)))) (vB 2)))) (aV (toT (kD og))) bo)
  (ai (sIf (cY (tB2 (gEq ξ) (vB 0) (kD lB)) (cY (tB2 (bJ ξ) (toD (d2 ah (vB 1) (kD (.int 0)))) (toD (av (aa (kD (.str "store")) (aa (kD (.str "lay")) af))))) (tB2 (gEq ξ) (toD (d2 ah (vB 1) (kD (.int 1)))) (vB 2)))) (aV (toT (kD jg))) bo)
  (fg 0)))))
def z110:De->ζ Out:=(ai (y13 2 (vL 3)) (ap 3 (toT (toD (d2 u1 (vB 0) (vB 3))))))
def q112:De->ζ Bool:=(tB2 (gIs θ) (vB 3) (kD .non))
def q92:η Dt->ζ T:=bH 4 ((ai (ap 2 (aR af))
  (ai (ap 3 (toT (vL 1)))
  (ai (bp q112 z110 100000)
  (aV (vLR (vB 2)))))))
def z114(G:Orc):De->ζ Out:=(lx 3 (vB 4) (kD .non))
def y114(G:Orc):De->ζ Out:=(sIf (xu (vB 8) (vB 3)) (ai (lx 3 (vB 8) (vL 7)) (y13 5 (vL 8))) bo)
def y112 (G:Orc):De->ζ Out:=(ai (ap 7 (toT (toD (d2 ah (vB 5) (vB 6)))))
  (ai (uH (fun i j=>i+j) 6 (kD (.int 1)))
  (ai (sIf (cF (toD (vCl G 2 (aa (vL 7) af)))) (wt 3 (aV (ag q92 (aa (vL 3) (aa (vL 7) af))))) bo)
  (cV (fIt (toD (vCl G 1 (aa (vL 7) af)))) (am 8) (y114 G)))))
def y113(G:Orc):De->ζ Bool:=(tB2 (f9 fun i j=>decide (i<j)) (vB 6) (toD (ag bz (aa (vB 5) af))))
def y87 (G:Orc):Dt->J9->J9->Hp->ζ T:=uL 9 ((ai (ap 3 rm)
  (ai (cV (fIt (vL 0)) (am 4) (z114 G))
  (ai (ap 5 (ag ly (aa (vB 3) af)))
  (ai (ap 6 (toT (kD (.int 0))))
  (ai (bp (y113 G) (y112 G) 100000)
  (aV (toT (kD .non)))))))))
def q63:De->ζ Dt:=(toD (av (aa (vL 0) (aa (vL 1) af))))
def ci:De->ζ Out:=(ai (ap 1 (toT (toD (ag y32 (aa (toD (d2 ah (vB 0) (kD (.int 1)))) (aa (toD (d2 ah (vB 3) (toD (d2 ah (vB 0) (kD (.int 0)))))) (aa (vL 2) af))))))) (aV (vIf (tB2 (gEq ξ) (vB 1) (kD og)) (aR af) (aQ [ψ,ς 1] (fIt (toD (d2 ah (vB 4) (toD (d2 ah (vB 0) (kD (.int 0))))))) (am 0) bh q63))))
def cj:De->ζ Out:=(aV (d2 (gEq ξ) (toD (ag y32 (aa (toD (d2 ah (vB 0) (kD (.int 1)))) (aa (toD (d2 ah (vB 2) (toD (d2 ah (vB 0) (kD (.int 0)))))) (aa (vL 1) af))))) (kD jg)))
def q97:De->ζ Dt:=(toD (av (aa (vL 0) (aa (kD eT) af))))
def z66:De->ζ Dt:=(toD (aQ [ψ] (fIt (toD (d2 az (toD (aR (aa (kD (.int 0)) af))) (toD (ag z14 (aa (vL 1) af)))))) (am 0) bh q97))
def y94:De->ζ Dt:=(toD (d2 ah (vB 0) (kD (.int 0))))
def q56:η Dt->ζ T:=bH 8 ((ai (sIf (tB2 (bJ θ) (vB 2) (toD (ag q15 (aa (vL 0) af)))) (aV (toT (kD .non))) bo)
  (ai (ap 3 (toT (toD (d2 ah (vB 0) (kD (.int 2))))))
  (ai (ap 4 (toT (toD (ag q24 (aa (vL 0) (aa (vL 1) af))))))
  (fun δ=>(ai (ap 7 (fRt [2,3,4] [2,3] ["place","mark","name","rows","inner"] ["place","name","rows"] ci cj z66 y87))
  (aV (vIf (tB2 (gIs ξ) (vB 7) (kD .non)) (toT (kD .non)) (aQ [ψ] (fIt (vB 7)) (am 0) bh y94)))) (qR 5 6 δ))))))
def z16:De->ζ Out:=(ai (ap 3 (toT (toD (ag q56 (aa (vL 0) (aa (vL 1) (aa (vL 2) af))))))) (sIf (tB2 (gIs θ) (vB 3) (kD .non)) (aV (av (aa (kD (.str "spoil")) (aa (vL 2) (aa (vL 3) af))))) bo))
def z20:η Dt->ζ T:=bH 4 ((ai (cV (fIt (toD (ag q15 (aa (vL 0) af)))) (am 2) z16) (aV (toT (kD .non)))))
def z24:η Dt->ζ T:=bH 3 ((ai (ap 2 (toT (toD (ag z41 (aa (vL 0) (aa (vL 1) af))))))
  (ai (sIf (tB2 (gIs ξ) (vB 2) (kD .non)) (ap 2 (toT (toD (ag y23 (aa (vL 0) (aa (vL 1) af)))))) bo)
  (ai (sIf (tB2 (gIs ξ) (vB 2) (kD .non)) (ap 2 (toT (toD (ag z20 (aa (vL 0) (aa (vL 1) af)))))) bo)
  (ai (sIf (tB2 (gIs ξ) (vB 2) (kD .non)) (ap 2 (toT (toD (ag q35 (aa (vL 0) (aa (vL 1) af)))))) bo)
  (fg 2))))))
def q25:η Dt->ζ T:=bH 2 ((aV (d2 (gIs ξ) (toD (ag z24 (aa (vL 0) (aa (vL 1) af)))) (kD .non))))
def q91:De->ζ Bool:=(tB2 (gEq θ) (toD (d2 ah (vB 0) (kD (.int 0)))) (vB 1))
def z38:η Dt->ζ T:=bH 2 ((aV (av (aa (toD (d2 ah (vB 0) (kD (.int 0)))) (aa (toD (ag bO (aa (toD (aQ [ψ,ς 1] (fIt (toD (d2 ah (vB 0) (kD (.int 1))))) (am 0) q91 (vL 0))) af))) af)))))
def y39:De->ζ Out:=(ai (ap 4 (toT (toD (ag z38 (aa (vL 2) (aa (vL 3) af)))))) (sIf (cF (toD (ag q25 (aa (vL 0) (aa (vL 4) af))))) (ap 2 (toT (vL 4))) bo))
def q27:η Dt->ζ T:=bH 5 ((ai (ap 2 (toT (vL 1)))
  (ai (cV (fIt (toD (ag z14 (aa (vL 1) af)))) (am 3) y39)
  (fg 2))))
def z73:De->ζ Out:=(ai (ap 1 (toT (vL 2))) (ap 2 (toT (toD (ag q27 (aa (vL 0) (aa (vL 1) af)))))))
def z72:De->ζ Bool:=(tB2 (gEq θ) (vB 2) (vB 1))
def q61:η Dt->ζ T:=bH 3 ((ai (sIf (dH (cF (toD (ag q25 (aa (vL 0) (aa (vL 1) af)))))) (fg 1) bo)
  (ai (ap 2 (toT (toD (ag q27 (aa (vL 0) (aa (vL 1) af))))))
  (ai (bp z72 z73 100000)
  (fg 2)))))
def gj:η Dt->ζ T:=bH 1 ((aV (ag q61 (aa (vL 0) (aa (toD (ag y17 (aa (vL 0) af))) af)))))
def z76:De->ζ Out:=(ai (sIf (fOr (tB2 (bJ θ) (vB 8) (vB 7)) (tB2 (gEq θ) (vB 4) (toD (ag bO (aa (toD (d2 ah (vB 6) (vB 8))) af))))) dl bo)
  (ai (ap 9 (toT (toD (ag z38 (aa (vL 5) (aa (vL 8) af))))))
  (sIf (cY (tB2 (gEq θ) (toD (d2 ah (toD (d2 ah (toD (d2 ah (vB 1) (kD (.int 2)))) (vB 8))) (kD (.int 0)))) (kD (.str "end"))) (dH (cF (toD (ag y20 (aa (vL 1) (aa (vL 9) (aa (toD (ag z24 (aa (vL 1) (aa (vL 9) af)))) af)))))))) dl bo)))
def tz:η Dt->ζ T:=bH 11 ((ai (ap 1 (toT (toD (ag q37 (aa (vL 0) (aa (kD (.int 9)) (aa (kD (.bl ξ)) af)))))))
  (ai (sIf (tB2 (gEq ξ) (toD (d2 cg (toD (ag y1 (aa (vL 0) (aa (kD (.int 0)) af)))) (kD (.int 2)))) (kD (.int 1))) (ap 1 (toT (toD (ag z15 (aa (vL 0) (aa (kD (.int 16)) af)))))) bo)
  (ai (ap 2 (toT (toD (d2 cg (toD (d2 fw (toD (ag y1 (aa (vL 0) (aa (kD (.int 3)) af)))) (kD (.int 48271)))) (kD (.int 1000000007))))))
  (ai (ap 3 (toT (toD (ag y12 (aa (toD (ag y1 (aa (vL 0) (aa (kD (.int 1)) af)))) (aa (kD (.int 13)) af))))))
  (ai (ap 4 (toT (toD (ag y12 (aa (toD (ag y1 (aa (vL 0) (aa (kD (.int 2)) af)))) (aa (kD (.int 2)) af))))))
  (ai (sIf (tB2 (gEq ξ) (toD (d2 cg (vB 2) (kD (.int 3)))) (kD (.int 1))) (ap 1 (toT (toD (ag y16 (aa (toD (d2 gz (vB 2) (kD (.int 3)))) (aa (vL 1) (aa (vL 4) (aa (toD (d2 ah (vB 3) (kD (.int 12)))) af)))))))) bo)
  (ai (ap 5 (toT (toD (ag gj (aa (vL 1) af)))))
  (ai (ap 6 (toT (toD (ag z18 (aa (vL 1) af)))))
  (ai (ap 7 (toT (toD (aQ [ψ,ψ] (fIt (toD (d2 ah (toD (ag y17 (aa (vL 1) af))) (kD (.int 1))))) (eG 2 (aW (am 0) (aW (am 1) eF))) bh (vL 0)))))
  (ai (sIf (fOr (dH (cF (toD (g5 "tuple" (vB 5))))) (fOr (tB2 (gEq θ) (toD (ag bz (aa (vB 5) af))) (kD (.int 2))) (fOr (tB2 (gEq θ) (toD (d2 ah (vB 5) (kD (.int 0)))) (toD (ag bO (aa (toD (d2 ah (vB 6) (kD (.int 0)))) af)))) (dH (cF (toD (ag q25 (aa (vL 1) (aa (vL 5) af))))))))) dl bo)
  (ai (cV (fIt (toD (d2 ah (vB 5) (kD (.int 1))))) (eG 2 (aW (am 8) (aW (am 4) eF))) z76)
  (ai (ap 10 (toT (toD (av (aa (toD (d2 ah (vB 1) (kD (.int 0)))) (aa (toD (d2 ah (vB 1) (kD (.int 1)))) (aa (toD (av (aa (toD (av (aa (kD (.str "end")) (aa (kD (.int 0)) af)))) af))) af)))))))
  (aV (d2 (gEq ξ) (toD (ag gj (aa (vL 10) af))) (toD (av (aa (toD (av af)) (aa (toD (av (aa (toD (av (aa (kD (.int 0)) (aa (toD (av af)) af)))) af))) af)))))))))))))))))))
end
structure Txt(P:qd1)(w:Ja)(K:xA9)(mg:Str->Option Vz):Prop where
 n_all:mg "all"=ψ
 n_any:mg "any"=ψ
 n_bool:mg "bool"=ψ
 n_enumerate:mg "enumerate"=ψ
 n_int:mg "int"=ψ
 n_isinstance:mg "isinstance"=ψ
 n_len:mg "len"=ψ
 n_list:mg "list"=ψ
 n_range:mg "range"=ψ
 n_reversed:mg "reversed"=ψ
 n_set:mg "set"=ψ
 n_sorted:mg "sorted"=ψ
 n_str:mg "str"=ψ
 n_tuple:mg "tuple"=ψ
 g_A:zX P w K mg "ATOM_PLACES" k_A fF
 g_D:i6 K mg "FRESH" eT
 g_E:i6 K mg "SAFE" og
 g_F:i6 K mg "SEEN" lB
 g_B:i6 K mg "SETTING" ng
 g_C:i6 K mg "SPOILT" jg
 is:rk K=θ
 k_list:fq K "list"
 k_bool:fq K "bool"
 k_int:fq K "int"
 k_tuple:fq K "tuple"
 k_str:fq K "str"
local macro_rules | `(tactic| walk_at "x") => `(tactic| (repeat' (first | ((with_reducible show DB _ _ _); first | refine Zq ?_ | exact dbX (by kernel_rfl) | refine Zb ?_) | ((with_reducible show DL _ _ _); first | refine Zl ?_ | exact dlX (by kernel_rfl) | exact aw | exact qC | exact jV | exact dk | exact dlG (by kernel_rfl) ‹Txt _ _ _ _›.g_D | exact dlG (by kernel_rfl) ‹Txt _ _ _ _›.g_E | exact dlG (by kernel_rfl) ‹Txt _ _ _ _›.g_F | exact dlG (by kernel_rfl) ‹Txt _ _ _ _›.g_B | exact dlG (by kernel_rfl) ‹Txt _ _ _ _›.g_C) | ((with_reducible show DO _ _ _); first | refine aI ‹Room _ _› ?_ ?_ | refine Zo ?_ | refine e9 ?_ | refine bR ?_ | refine doF (by kernel_rfl) ‹_› ‹Room _ _› Ω ?_ | refine bu cO fB ?_ ?_ | refine bu Cr E6 ?_ ?_ | refine bu vG Bf ?_ ?_ | refine bu wM C6 ?_ ?_ | refine bu nB sI ?_ ?_ | refine doB (by kernel_rfl) (o9 rfl) (sL (f := fun bs => bs.all id)) ‹Txt _ _ _ _›.n_all vZ ?_ | refine doB (by kernel_rfl) (pb rfl) (sL (f := fun bs => bs.any id)) ‹Txt _ _ _ _›.n_any v0 ?_ | refine doT (by kernel_rfl) call_intA c_int ‹Txt _ _ _ _›.n_int v6 ?_ | refine doB (by kernel_rfl) vN E7 ‹Txt _ _ _ _›.n_len CK ?_ | refine doB (by kernel_rfl) call_sortedS c_sorted ‹Txt _ _ _ _›.n_sorted bt_sorted ?_ | refine doT (by kernel_rfl) cZ i5 ‹Txt _ _ _ _›.n_tuple eZ ?_ | refine gY (qG ‹Room _ _›) CU ?_ ?_ (bI _) | refine gY (nV ‹Room _ _›) zV ?_ ?_ (bI _) | refine gY vI gZ ?_ ?_ (bI _) | refine gY r8 gZ ?_ ?_ (bI _) | refine gY A7 gZ ?_ ?_ (bI _) | refine gY op_ge gZ ?_ ?_ (bI _) | refine gY jv uF ?_ ?_ (bI _) | refine gY kn ku ?_ ?_ (bI _) | refine Bi ‹Room _ _› ?_ ?_ | refine do_notin ‹Room _ _› ?_ ?_ | refine pw ?_ ?_ ?_ | refine wn ?_ ?_ ?_ | refine wj ?_ | refine CZ ?_ | refine qE ?_ ?_ | refine E3 ?_ ?_ | refine wm ?_ | refine bu An Dn ?_ ?_ | refine bu Ao Dp ?_ ?_ | refine bu kA oe ?_ ?_ | refine u2 ?_ ?_ ?_) | ((with_reducible show DT _ _ _); first | refine cK (qG ‹Room _ _›) CU ?_ ?_ (bI _) | refine cK (nV ‹Room _ _›) zV ?_ ?_ (bI _) | refine cK vI gZ ?_ ?_ (bI _) | refine cK r8 gZ ?_ ?_ (bI _) | refine cK A7 gZ ?_ ?_ (bI _) | refine cK op_ge gZ ?_ ?_ (bI _) | refine cK jv uF ?_ ?_ (bI _) | refine cK kn ku ?_ ?_ (bI _) | refine Bk ‹Room _ _› ?_ ?_ | refine fQ ‹Room _ _› ?_ ?_ | refine DW.t (qD ?_ ?_) | refine DW.t (iX ?_ ?_) | refine kZ ?_ | refine c8 ?_ (fun _ => rfl)) | ((with_reducible show DA _ _ _); first | refine au ?_ ?_ | exact aD) | ((with_reducible show DAB _ _ _); first | refine cP ?_ ?_ | exact dv) | refine qD ?_ ?_ | refine iX ?_ ?_ | refine sC ?_ | refine k5 ?_ | exact sJ | refine sK ?_)))
seal qf7 toD toT vB vL kD d2 av aR ag aa af tB2 cY fOr dH cF vSl db gy vIf zL gH kg vOr
variable{X:Cx}{pos:Pos}{sc:Jd}{N:η Str}{x:Str}
theorem dsN{e:Jc}{f:De->ζ T}{i:Nat}{pos':Pos}(h:cr sc N=θ)(W:N.Nodup)(L:DO X e f)(e0:N[i]?=ς x:=by rfl)(e1:cu X sc:=by rfl)(O:X.N=N:=by rfl)(U:X.fn x=θ∨X.env.scope.names.lookup x=ς .local:=by exact .inl rfl)(q:qo5 e (ς (.Name x pos')) pos.line X.env=pure ξ:=by rfl):DS1 X (.Assign [.Name x pos'] e pos) (ap i f):=wq (nsN h i e0) (nsL h i e0) W L e1 O U q
theorem doC{p:Pos}{iter elt:Jc}{ifs:η Jc}{scope:Jd}{src:η (ζ Nat)}{fi:De->ζ (η Dt)}{ft:De->ζ Bool}{fe:De->ζ Dt}(M:η Str)(h:(v8 X.N X.env.scope scope M src&&eC (kU scope X.env.scope) M 0 x&&loOk (kU scope X.env.scope) x&&decide (src[0]?=ς ψ))=θ)(hi:DIB X (.Name x p) iter fi)(O:∀C s H ex,DTs (cxC X M scope C s H ex) ifs ft)(q:∀C s H ex,DL (cxC X M scope C s H ex) elt fe)(W:X.calm=θ:=by rfl)(U:∀x,qj3 iter X.env x=pure x:=by intro _;rfl):DO X (.ListComp elt [⟨.Name x p,iter,ifs,0⟩] scope pos) (aQ src fi (am 0) ft fe):=by simp only[qb3]at h;exact kt (ts:=[0]) (CmpScope.of h.1.1.1) W hi (fun L C s H ex=>aC (cE h.1.1.2 h.1.2 L (scC rfl))) O q (by simp only[qk5,zj7,qo2];exact h.2) U
theorem fnS{P:η Str}(h:N.Nodup/\N.take P.length=P/\(∀x∈P,sc.names.lookup x=ς .local∨sc.names.lookup x=ς .cell)/\∀y∈sc.names,y.2≠.free)(a:sc.kind=.function:=by rfl)(b:sc.isCoroutine=ξ:=by rfl)(c:sc.isGenerator=ξ:=by rfl):FnScope N P sc:=⟨a,b,c,h.1,h.2.1,h.2.2.1,h.2.2.2⟩
section
variable{P:qd1}{w:Ja}{K:xA9}{mg:Str->ζ Vz}{base:Heap}
abbrev z43:Jb:=top 41
def y95:FnScope ["_law_script","_law_k"] ["_law_script","_law_k"] (ac z43):=fnS χ
def gE:cr (ac z43) ["_law_script","_law_k"]=θ:=χ
def z93(T:Txt P w K mg)(D:DefF K mg "_law_cell_at" z43 ["_law_script","_law_k"]):OkF P w K mg base "_law_cell_at" 1 ["_law_script","_law_k"] (spD K 2 y1):=
 bA D y95 rfl fun f cdv A outer s H E q=>(ae (aT Ψ (al (aB (aI q (ao (pvN 0 gE)) (ao (pvN 1 gE))))) aE)
     (al (aB (Zo aw))))
abbrev y47:Jb:=top 42
def z44:FnScope ["_law_number","_law_sizes","_law_digits_here","_law_size"] ["_law_number","_law_sizes"] (ac y47):=fnS χ
def bC:cr (ac y47) ["_law_number","_law_sizes","_law_digits_here","_law_size"]=θ:=χ
def q102(T:Txt P w K mg)(D:DefF K mg "_law_digits" y47 ["_law_number","_law_sizes"]):OkF P w K mg base "_law_digits" 1 ["_law_number","_law_sizes"] (spD K 2 q12):=
 bA D z44 rfl fun f cdv A outer s H E q=>(ae (dsN bC z44.nd (bR aD))
     (ae (ce qc5 rfl (dJ (aO (pvN 1 bC))) (aC (aH (nsN bC 3) (nsL bC 3) z44.nd)) (ae (bU (pvN 2 bC) (Zl (bu nB sI (ao (pvN 0 bC)) (ao (pvN 3 bC)))))
     (al (dsN bC z44.nd (Zo Ψ)))))
     (al (cU (pvN 2 bC)))))
abbrev y29:Jb:=top 46
theorem z13:FnScope ["_law_cell","_law_many","_law_cells","_law_shelves","_law_boxes","_law_more","_law_digits_here","_law_one","_law_other","_law_x","_law_c","_law_some","_law_f"] ["_law_cell","_law_many","_law_cells","_law_shelves","_law_boxes"] (ac y29):=fnS χ
def ay:cr (ac y29) ["_law_cell","_law_many","_law_cells","_law_shelves","_law_boxes","_law_more","_law_digits_here","_law_one","_law_other","_law_x","_law_c","_law_some","_law_f"]=θ:=χ
def z55:aM (ac y29) "_law_digits"=θ:=χ
theorem q90(T:Txt P w K mg)(D:DefF K mg "_law_digit_row" y29 ["_law_cell","_law_many","_law_cells","_law_shelves","_law_boxes"])(q:OkF P w K mg base "_law_digits" 1 ["_law_number","_law_sizes"] (spD K 2 (q12))):OkF P w K mg base "_law_digit_row" 2 ["_law_cell","_law_many","_law_cells","_law_shelves","_law_boxes"] (spD K 5 y30):=
 bA D z13 rfl fun f cdv A outer s H E L=>(ae (dsN ay z13.nd (Zo Ψ))
     (ae (dsN ay z13.nd (Zo (Zl (dZ z55 q (L.mono Ω) (au (aO (pvN 0 ay)) (au (Zl (bR (au aw (au Ψ (au (aO (pvN 5 ay)) (au (Zl (bu kM pk (Zb aw) (Zb aw))) (au (aO (pvN 5 ay)) (au (Zl (bu kM pk (Zb aw) (Zb aw))) (au aw (au aw (au (aO (pvN 1 ay)) aD))))))))))) aD))))))
     (ae (dsN ay z13.nd (Zo Ψ))
     (ae (dsN ay z13.nd (Zo Ψ))
     (ae (dsN ay z13.nd (Zo Ψ))
     (ae (dsN ay z13.nd (Zo Ψ))
     (ae (dsN ay z13.nd Ψ)
     (ae (dsN ay z13.nd Ψ)
     (ae (dsN ay z13.nd Ψ)
     (ae (aT Ψ (ae (dsN ay z13.nd (Zo Ψ))
     (ae (qN L (pvN 11 ay) (Zb aw) Ψ)
     (al (qN L (pvN 11 ay) (Zb aw) Ψ)))) aE)
     (al (aB Ψ))))))))))))
abbrev z42:Jb:=top 43
def q18:FnScope ["_law_cell","_law_many","_law_number","_law_digits_here","_law_size","_law_at","_law_fill","_law_found","_law_k","_law_letter"] ["_law_cell","_law_many"] (ac z42):=fnS χ
def bj:cr (ac z42) ["_law_cell","_law_many","_law_number","_law_digits_here","_law_size","_law_at","_law_fill","_law_found","_law_k","_law_letter"]=θ:=χ
def z84:aM (ac z42) "range"=θ:=χ
def z103(T:Txt P w K mg)(D:DefF K mg "_law_names" z42 ["_law_cell","_law_many"])(q:OkF P w K mg base "_law_digits" 1 ["_law_number","_law_sizes"] (spD K 2 (q12))):OkF P w K mg base "_law_names" 2 ["_law_cell","_law_many"] (spD K 2 y12):=
 bA D q18 rfl fun f cdv A outer s H E L=>(ae (dsN bj q18.nd (Zo Ψ))
     (ae (dsN bj q18.nd (Zo Ψ))
     (ae (dsN bj q18.nd (Zo Ψ))
     (ae (dsN bj q18.nd (Zo Ψ))
     (ae (dsN bj q18.nd (Zo Ψ))
     (ae (dsN bj q18.nd (bR aD))
     (ae (ce qc5 rfl (dn z84 T.n_range (au (aO (pvN 1 bj)) aD)) (aC (aH (nsN bj 8) (nsL bj 8) q18.nd)) (ae (dsN bj q18.nd (Zo Ψ))
     (al (bU (pvN 7 bj) Ψ))))
     (al (cU (pvN 7 bj))))))))))
abbrev y15:Jb:=top 47
theorem z7:FnScope ["_law_script","_law_most","_law_digits_here","_law_names_here","_law_boxes","_law_starts","_law_cells","_law_shelves","_law_some","_law_rows","_law_cell","_law_called","_law_last"] ["_law_script","_law_most"] (ac y15):=fnS χ
def ar:cr (ac y15) ["_law_script","_law_most","_law_digits_here","_law_names_here","_law_boxes","_law_starts","_law_cells","_law_shelves","_law_some","_law_rows","_law_cell","_law_called","_law_last"]=θ:=χ
def y26:aM (ac y15) "_law_digits"=θ:=χ
def q38:aM (ac y15) "range"=θ:=χ
def y37:aM (ac y15) "tuple"=θ:=χ
theorem y73(T:Txt P w K mg)(D:DefF K mg "_law_digit_program" y15 ["_law_script","_law_most"])(U:OkF P w K mg base "_law_cell_at" 1 ["_law_script","_law_k"] (spD K 2 (y1)))(O:OkF P w K mg base "_law_digit_row" 2 ["_law_cell","_law_many","_law_cells","_law_shelves","_law_boxes"] (spD K 5 (y30)))(q:OkF P w K mg base "_law_digits" 1 ["_law_number","_law_sizes"] (spD K 2 (q12)))(W:OkF P w K mg base "_law_names" 2 ["_law_cell","_law_many"] (spD K 2 (y12))):OkF P w K mg base "_law_digit_program" 3 ["_law_script","_law_most"] (spD K 2 z15):=
 bA D z7 rfl fun f cdv A outer s H E L=>(ae (dsN ar z7.nd (Zo (Zl (dZ y26 q (L.mono Ω) (au Ψ (au (Zl (bu cO fB (Zq (bu cO fB (Zq (bR (au aw (au aw (au aw aD))))) (Zq (bu kA oe (Zq (bR (au aw aD))) (Zb aw))))) (Zq (bu kA oe (Zq (bR (au aw aD))) (Zb aw))))) aD))))))
     (ae (dsN ar z7.nd (Zo Ψ))
     (ae (dsN ar z7.nd (Zo Ψ))
     (ae (dsN ar z7.nd (Zo (Zl (dZ y26 q (L.mono Ω) (au Ψ (au (Zl (bu cO fB (Zq (bu kA oe (Zq (bR (au (Zl (bu kM pk (Zb aw) (Zb aw))) aD))) (Zb aw))) Ψ)) aD))))))
     (ae (dsN ar z7.nd (Zo (Zl (fM y37 cZ i5 T.n_tuple eZ (cP (Zq (doC ["_law_k","_law_digits_here","_law_names_here","_law_starts"] (by kernel_rfl) (DIF.toB (dn q38 T.n_range Ψ)) (fun _ _ _ _=>bG) (fun _ _ _ _=>Ψ))) dv)))))
     (ae (dsN ar z7.nd (Zo (Zl (fM y37 cZ i5 T.n_tuple eZ (cP (Zq (doC ["_law_k","_law_digits_here","_law_names_here"] (by kernel_rfl) (DIF.toB (dn q38 T.n_range (au (Zl (aI L (ao (pvN 2 ar)) (Zb aw))) aD))) (fun _ _ _ _=>bG) (fun _ _ _ _=>Ψ))) dv)))))
     (ae (dsN ar z7.nd (Zo Ψ))
     (ae (dsN ar z7.nd (bR aD))
     (ae (ce qc5 rfl (dJ (aO (pvN 8 ar))) (aC (aH (nsN ar 10) (nsL ar 10) z7.nd)) (ae (dsN ar z7.nd (Zo (Zl (bR (au (Zl (doC ["_law_one"] (by kernel_rfl) (bv (ao (pvN 6 ar))) (fun _ _ _ _=>bG) (fun _ _ _ _=>(Zl (aI L (ao (pvX (by kernel_rfl))) (Zb aw)))))) (au (Zl (doC ["_law_one"] (by kernel_rfl) (bv (ao (pvN 7 ar))) (fun _ _ _ _=>bG) (fun _ _ _ _=>(Zl (aI L (ao (pvX (by kernel_rfl))) (Zb aw)))))) aD))))))
     (al (bU (pvN 9 ar) Ψ))))
     (ae (dsN ar z7.nd (Zo Ψ))
     (ae (aT Ψ (al (dsN ar z7.nd (Zo Ψ))) aE)
     (al (aB Ψ)))))))))))))
abbrev z60:Jb:=top 44
def y106:FnScope ["_law_digit","_law_cell","_law_boxes"] ["_law_digit","_law_cell","_law_boxes"] (ac z60):=fnS χ
def gk:cr (ac z60) ["_law_digit","_law_cell","_law_boxes"]=θ:=χ
def q107(T:Txt P w K mg)(D:DefF K mg "_law_atom" z60 ["_law_digit","_law_cell","_law_boxes"]):OkF P w K mg base "_law_atom" 1 ["_law_digit","_law_cell","_law_boxes"] (spD K 3 q23):=
 bA D y106 rfl fun f cdv A outer s H E q=>(ae (aT Ψ (al (aB (aI q (ao (pvN 2 gk)) (ao (pvN 0 gk))))) aE)
     (ae (aT Ψ (al (aB Ψ)) aE)
     (al (aB (bu nB sI (Zq (bu vG Bf (ao (pvN 1 gk)) (Zb aw))) (Zq (bu kM pk (Zb aw) (Zb aw))))))))
abbrev z64:Jb:=top 45
theorem y19:FnScope ["_law_cell","_law_many","_law_cells","_law_shelves","_law_boxes","_law_number","_law_digits_here","_law_one","_law_other","_law_x","_law_c","_law_kind","_law_f","_law_some"] ["_law_cell","_law_many","_law_cells","_law_shelves","_law_boxes"] (ac z64):=fnS χ
def bK:cr (ac z64) ["_law_cell","_law_many","_law_cells","_law_shelves","_law_boxes","_law_number","_law_digits_here","_law_one","_law_other","_law_x","_law_c","_law_kind","_law_f","_law_some"]=θ:=χ
theorem q109(T:Txt P w K mg)(D:DefF K mg "_law_row" z64 ["_law_cell","_law_many","_law_cells","_law_shelves","_law_boxes"])(O:OkF P w K mg base "_law_atom" 1 ["_law_digit","_law_cell","_law_boxes"] (spD K 3 (q23)))(L:OkF P w K mg base "_law_digits" 1 ["_law_number","_law_sizes"] (spD K 2 (q12))):OkF P w K mg base "_law_row" 2 ["_law_cell","_law_many","_law_cells","_law_shelves","_law_boxes"] (spD K 5 y38):=
 bA D y19 rfl fun f cdv A outer s H E q=>(ae (dsN bK y19.nd (Zo Ψ))
     (ae (dsN bK y19.nd (Zo Ψ))
     (ae (dsN bK y19.nd (Zo Ψ))
     (ae (dsN bK y19.nd (Zo Ψ))
     (ae (dsN bK y19.nd (Zo Ψ))
     (ae (dsN bK y19.nd (Zo Ψ))
     (ae (dsN bK y19.nd (Zo (Zl (aI q (ao (pvN 6 bK)) (Zb aw)))))
     (ae (aT Ψ (ae (dsN bK y19.nd (Zo Ψ))
     (al (aB Ψ))) aE)
     (ae (aT Ψ (al (aB Ψ)) aE)
     (ae (aT Ψ (al (aB Ψ)) aE)
     (ae (aT Ψ (ae (dsN bK y19.nd (Zo Ψ))
     (al (aB Ψ))) aE)
     (ae (aT (cK (qG q) CU (ao (pvN 11 bK)) (Zb aw) (bI _)) (al (aB Ψ)) aE)
     (al (aB Ψ))))))))))))))
abbrev z28:Jb:=top 48
theorem z12:FnScope ["_law_script","_law_most","_law_wide","_law_head","_law_digits_here","_law_names_here","_law_sizes","_law_boxes","_law_start","_law_cells","_law_k","_law_shelves","_law_rows","_law_some","_law_cell"] ["_law_script","_law_most","_law_wide"] (ac z28):=fnS χ
def aq:cr (ac z28) ["_law_script","_law_most","_law_wide","_law_head","_law_digits_here","_law_names_here","_law_sizes","_law_boxes","_law_start","_law_cells","_law_k","_law_shelves","_law_rows","_law_some","_law_cell"]=θ:=χ
def z50:aM (ac z28) "range"=θ:=χ
def y67:aM (ac z28) "_law_row"=θ:=χ
theorem q96(T:Txt P w K mg)(D:DefF K mg "_law_program" z28 ["_law_script","_law_most","_law_wide"])(Y:OkF P w K mg base "_law_atom" 1 ["_law_digit","_law_cell","_law_boxes"] (spD K 3 (q23)))(W:OkF P w K mg base "_law_cell_at" 1 ["_law_script","_law_k"] (spD K 2 (y1)))(O:OkF P w K mg base "_law_digits" 1 ["_law_number","_law_sizes"] (spD K 2 (q12)))(U:OkF P w K mg base "_law_names" 2 ["_law_cell","_law_many"] (spD K 2 (y12)))(L:OkF P w K mg base "_law_row" 2 ["_law_cell","_law_many","_law_cells","_law_shelves","_law_boxes"] (spD K 5 (y38))):OkF P w K mg base "_law_program" 3 ["_law_script","_law_most","_law_wide"] (spD K 3 q37):=
 bA D z12 rfl fun f cdv A outer s H E q=>(ae (dsN aq z12.nd (Zo Ψ))
     (ae (dsN aq z12.nd (Zo Ψ))
     (ae (dsN aq z12.nd (Zo Ψ))
     (ae (dsN aq z12.nd (Zo Ψ))
     (ae (aT Ψ (al (dsN aq z12.nd (Zo (Zl (bR (au aw (au aw (au aw aD)))))))) aE)
     (ae (dsN aq z12.nd (Zo Ψ))
     (ae (dsN aq z12.nd (Zo Ψ))
     (ae (dsN aq z12.nd (bR aD))
     (ae (ce qc5 rfl (dn z50 T.n_range (au (Zl (aI q (ao (pvN 6 aq)) (Zb aw))) aD)) (aC (aH (nsN aq 10) (nsL aq 10) z12.nd)) (al (bU (pvN 9 aq) (Zl (e9 (au (Zl (aI q (ao (pvN 5 aq)) (ao (pvN 10 aq)))) (au (Zl (bu nB sI Ψ (Zq (bu kM pk (Zb aw) (Zb aw))))) (au Ψ aD))))))))
     (ae (dsN aq z12.nd (bR aD))
     (ae (ce qc5 rfl (dn z50 T.n_range (au (Zl (aI q (ao (pvN 6 aq)) (Zb aw))) aD)) (aC (aH (nsN aq 10) (nsL aq 10) z12.nd)) (al (bU (pvN 11 aq) Ψ)))
     (ae (dsN aq z12.nd (bR aD))
     (ae (dsN aq z12.nd (Zo Ψ))
     (ae (ce qc5 rfl (dJ (aO (pvN 13 aq))) (aC (aH (nsN aq 14) (nsL aq 14) z12.nd)) (al (bU (pvN 12 aq) (Zl (dZ y67 L (q.mono Ω) (au (aO (pvN 14 aq)) (au Ψ (au (Zl (doC ["_law_one"] (by kernel_rfl) (bv (ao (pvN 9 aq))) (fun _ _ _ _=>bG) (fun _ _ _ _=>(Zl (aI q (ao (pvX (by kernel_rfl))) (Zb aw)))))) (au (Zl (doC ["_law_one"] (by kernel_rfl) (bv (ao (pvN 11 aq))) (fun _ _ _ _=>bG) (fun _ _ _ _=>(Zl (aI q (ao (pvX (by kernel_rfl))) (Zb aw)))))) (au (aO (pvN 7 aq)) aD))))))))))
     (ae (bU (pvN 12 aq) Ψ)
     (al (aB Ψ)))))))))))))))))
abbrev z40:Jb:=top 49
def y44:FnScope ["_law_cell","_law_many","_law_boxes","_law_rows","_law_k","_law_number"] ["_law_cell","_law_many","_law_boxes"] (ac z40):=fnS χ
def bY:cr (ac z40) ["_law_cell","_law_many","_law_boxes","_law_rows","_law_k","_law_number"]=θ:=χ
def y77:aM (ac z40) "range"=θ:=χ
def q101(T:Txt P w K mg)(D:DefF K mg "_law_filled" z40 ["_law_cell","_law_many","_law_boxes"]):OkF P w K mg base "_law_filled" 1 ["_law_cell","_law_many","_law_boxes"] (spD K 3 y40):=
 bA D y44 rfl fun f cdv A outer s H E q=>(ae (dsN bY y44.nd (bR aD))
     (ae (ce qc5 rfl (dn y77 T.n_range (au (aO (pvN 1 bY)) aD)) (aC (aH (nsN bY 4) (nsL bY 4) y44.nd)) (ae (dsN bY y44.nd (Zo Ψ))
     (al (bU (pvN 3 bY) Ψ))))
     (al (cU (pvN 3 bY)))))
abbrev q19:Jb:=top 50
theorem q5:FnScope ["_law_cell","_law_program_here","_law_boxes","_law_more","_law_number","_law_digits_here","_law_fills","_law_name","_law_start","_law_twin","_law_things","_law_rows","_law_first","_law_third","_law_fifth","_law_test"] ["_law_cell","_law_program_here","_law_boxes","_law_more"] (ac q19):=fnS χ
theorem ak:cr (ac q19) ["_law_cell","_law_program_here","_law_boxes","_law_more","_law_number","_law_digits_here","_law_fills","_law_name","_law_start","_law_twin","_law_things","_law_rows","_law_first","_law_third","_law_fifth","_law_test"]=θ:=χ
def z65:aM (ac q19) "range"=θ:=χ
theorem z83(T:Txt P w K mg)(D:DefF K mg "_law_round_about" q19 ["_law_cell","_law_program_here","_law_boxes","_law_more"])(L:OkF P w K mg base "_law_digits" 1 ["_law_number","_law_sizes"] (spD K 2 (q12)))(O:OkF P w K mg base "_law_filled" 1 ["_law_cell","_law_many","_law_boxes"] (spD K 3 (y40))):OkF P w K mg base "_law_round_about" 2 ["_law_cell","_law_program_here","_law_boxes","_law_more"] (spD K 4 y16):=
 bA D q5 rfl fun f cdv A outer s H E q=>(ae (dsN ak q5.nd (Zo Ψ))
     (ae (dsN ak q5.nd (Zo Ψ))
     (ae (g6 (nsN ak 6) (nsL ak 6) q5.nd (M:=["_law_k","_law_boxes","_law_number","_law_digits_here"]) (src:=[ψ,ς 2,ς 4,ς 5]) (ts:=[0]) (CmpScope.of (by kernel_rfl)) rfl (DIF.toB (dn z65 T.n_range (au aw aD))) (fun U _ _ _ _=>(aC (cE (N:=["_law_k","_law_boxes","_law_number","_law_digits_here"]) (i:=0) χ χ U (scC (outer:=ac q19) (by exact rfl))))) (fun _ _ _ _=>bG) (fun _ _ _ _=>Ψ) χ)
     (ae (CS Ψ (f8 rfl (bx (aC (aH (nsN ak 7) (nsL ak 7) q5.nd)) (bx (aC (aH (nsN ak 8) (nsL ak 8) q5.nd)) (bx (aC (aH (nsN ak 9) (nsL ak 9) q5.nd)) eO)))))
     (ae (dsN ak q5.nd (Zo Ψ))
     (ae (dsN ak q5.nd (Zo (Zl (bu cO fB (Zq (bu cO fB Ψ (Zq (aI q (ao (pvN 6 ak)) (Zb aw))))) Ψ))))
     (ae (dsN ak q5.nd (Zo (Zl (bR aD))))
     (ae (aT Ψ (ae (dsN ak q5.nd (Zo (Zl (bu sN wL (ao (pvN 10 ak)) Ψ))))
     (ae (dsN ak q5.nd (Zo (Zl (bu cO fB Ψ (Zq (aI q (ao (pvN 6 ak)) (Zb aw)))))))
     (ae (dsN ak q5.nd (Zo Ψ))
     (al (dsN ak q5.nd (Zo Ψ)))))) aE)
     (ae (dsN ak q5.nd (Zo Ψ))
     (ae (dsN ak q5.nd (Zo Ψ))
     (ae (dsN ak q5.nd (Zo Ψ))
     (ae (dsN ak q5.nd (Zo (Zl (bu cO fB (Zq (bu cO fB (Zq (bu cO fB (Zq (bu cO fB Ψ (ao (pvN 11 ak)))) (ao (pvN 12 ak)))) Ψ)) (Zq (aI q (ao (pvN 6 ak)) (Zb aw)))))))
     (ae (dsN ak q5.nd (Zo Ψ))
     (ae (dsN ak q5.nd (Zo Ψ))
     (al (aB Ψ))))))))))))))))
abbrev y50:Jb:=top 51
def q105:FnScope ["_law_row_here","_law_at"] ["_law_row_here","_law_at"] (ac y50):=fnS χ
def mf:cr (ac y50) ["_law_row_here","_law_at"]=θ:=χ
def q103(T:Txt P w K mg)(D:DefF K mg "_law_leads" y50 ["_law_row_here","_law_at"]):OkF P w K mg base "_law_leads" 1 ["_law_row_here","_law_at"] (spD K 2 q30):=
 bA D q105 rfl fun f cdv A outer s H E q=>(ae (aT Ψ (al (aB (e9 aD))) aE)
     (ae (aT Ψ (al (aB (e9 (au (Zl (aI q (ao (pvN 0 mf)) (Zb aw))) aD)))) aE)
     (ae (aT Ψ (al (aB Ψ)) aE)
     (al (aB Ψ)))))
abbrev q17:Jb:=top 52
def z58:FnScope ["_law_program_here","_law_way","_law_stops","_law_rows","_law_k"] ["_law_program_here","_law_way","_law_stops"] (ac q17):=fnS χ
def cy:cr (ac q17) ["_law_program_here","_law_way","_law_stops","_law_rows","_law_k"]=θ:=χ
def z63:aM (ac q17) "isinstance"=θ:=χ
def y82:aM (ac q17) "list"=θ:=χ
def q87:aM (ac q17) "all"=θ:=χ
def z78:aM (ac q17) "range"=θ:=χ
theorem y98(T:Txt P w K mg)(D:DefF K mg "_law_is_way" q17 ["_law_program_here","_law_way","_law_stops"])(q:OkF P w K mg base "_law_leads" 1 ["_law_row_here","_law_at"] (spD K 2 (q30))):OkF P w K mg base "_law_is_way" 2 ["_law_program_here","_law_way","_law_stops"] (spD K 3 y31):=
 bA D z58 rfl fun f cdv A outer s H E L=>(ae (dsN cy z58.nd (Zo (Zl (aI L (ao (pvN 0 cy)) (Zb aw)))))
     (ae (aT (DW.t (iX (kZ (c8 (Zq (eY z63 y82 T.n_isinstance T.n_list nN T.k_list (ao (pvN 1 cy)))) (fun _=>rfl))) (k5 Ψ))) (al cH) aE)
     (ae (aT (kZ (c8 (Zq (k6 q87 (o9 rfl) (sL (f:=fun bs=>bs.all id)) T.n_all vZ (cP (Zq (doC ["_law_at","_law_rows"] (by kernel_rfl) (bv (ao (pvN 1 cy))) (fun _ _ _ _=>bG) (fun _ _ _ _=>(Zl (qE (Zq (eY χ χ T.n_isinstance T.n_int v6 T.k_int (ao (pvX (by kernel_rfl))) (e1:=(scC (outer:=ac q17) rfl)))) (qE (Zq (wj (Zq (eY χ χ T.n_isinstance T.n_bool zG T.k_bool (ao (pvX (by kernel_rfl))) (e1:=(scC (outer:=ac q17) rfl)))))) (wm (wE r8 gZ vI gZ (Zb aw) (ao (pvX (by kernel_rfl))) Ψ)))))))) dv))) (fun _=>rfl))) (al cH) aE)
     (ae (ce qc5 rfl (uC z78 T.n_range Ψ) (aC (aH (nsN cy 4) (nsL cy 4) z58.nd)) (al (aT Ψ (al cH) aE)))
     (al (aB (Zo jV)))))))
abbrev z47:Jb:=top 53
def z27:FnScope ["_law_program_here","_law_name","_law_way","_law_opened","_law_at","_law_row_here","_law_last"] ["_law_program_here","_law_name","_law_way"] (ac z47):=fnS χ
def cz:cr (ac z47) ["_law_program_here","_law_name","_law_way","_law_opened","_law_at","_law_row_here","_law_last"]=θ:=χ
def y100(T:Txt P w K mg)(D:DefF K mg "_law_spoils" z47 ["_law_program_here","_law_name","_law_way"]):OkF P w K mg base "_law_spoils" 1 ["_law_program_here","_law_name","_law_way"] (spD K 3 q41):=
 bA D z27 rfl fun f cdv A outer s H E q=>(ae (dsN cz z27.nd (Zo jV))
     (ae (ce qc5 rfl (dJ Ψ) (aC (aH (nsN cz 4) (nsL cz 4) z27.nd)) (ae (dsN cz z27.nd (Zo Ψ))
     (ae (aT Ψ (al cH) aE)
     (al (aT Ψ (al (dsN cz z27.nd (Zo jV))) aE)))))
     (ae (dsN cz z27.nd (Zo Ψ))
     (al (aB Ψ)))))
abbrev q16:Jb:=top 54
def q36:FnScope ["_law_program_here","_law_code","_law_told","_law_stops","_law_way","_law_names_here"] ["_law_program_here","_law_code","_law_told"] (ac q16):=fnS χ
def bi:cr (ac q16) ["_law_program_here","_law_code","_law_told","_law_stops","_law_way","_law_names_here"]=θ:=χ
def y84:aM (ac q16) "len"=θ:=χ
def y63:aM (ac q16) "isinstance"=θ:=χ
def z77:aM (ac q16) "tuple"=θ:=χ
def z86:aM (ac q16) "set"=θ:=χ
theorem y99(T:Txt P w K mg)(D:DefF K mg "_law_walked" q16 ["_law_program_here","_law_code","_law_told"])(W:OkF P w K mg base "_law_is_way" 2 ["_law_program_here","_law_way","_law_stops"] (spD K 3 (y31)))(U:OkF P w K mg base "_law_leads" 1 ["_law_row_here","_law_at"] (spD K 2 (q30)))(O:OkF P w K mg base "_law_spoils" 1 ["_law_program_here","_law_name","_law_way"] (spD K 3 (q41))):OkF P w K mg base "_law_walked" 3 ["_law_program_here","_law_code","_law_told"] (spD K 3 y20):=
 bA D q36 rfl fun f cdv A outer s H E q=>(ae (g6 (nsN bi 3) (nsL bi 3) q36.nd (M:=["_law_row_here","_law_boxes"]) (src:=[ψ,ψ]) (ts:=[0,1]) (CmpScope.of (by kernel_rfl)) rfl (bv (Zq (aI q (ao (pvN 1 bi)) (Zb aw)))) (fun L _ _ _ _=>(f8 rfl (bx (aC (cE (N:=["_law_row_here","_law_boxes"]) (i:=0) χ χ L (scC (outer:=ac q16) (by exact rfl)))) (bx (aC (cE (N:=["_law_row_here","_law_boxes"]) (i:=1) χ χ L (scC (outer:=ac q16) (by exact rfl)))) eO)))) (fun _ _ _ _=>bG) (fun _ _ _ _=>(aO (pvX (by kernel_rfl)))) χ)
     (ae (aT (DW.t (iX (kZ (c8 (Zq (eY y63 z77 T.n_isinstance T.n_tuple eZ T.k_tuple (ao (pvN 2 bi)))) (fun _=>rfl))) (k5 Ψ))) (al cH) aE)
     (ae (aT Ψ (ae (dsN bi q36.nd (Zo (Zl (aI q (ao (pvN 2 bi)) (Zb aw)))))
     (ae (aT (DW.t (iX Ψ (iX Ψ (k5 (cK (nV q) zV (Zq (rz y84 z86 rfl T.n_len T.n_set (cP (ao (pvN 4 bi)) dv))) Ψ (bI _)))))) (al cH) aE)
     (al (aB Ψ)))) aE)
     (ae (aT Ψ (al cH) aE)
     (ae (g6 (nsN bi 5) (nsL bi 5) q36.nd (M:=["_law_one"]) (src:=[ψ]) (ts:=[0]) (CmpScope.of (by kernel_rfl)) rfl (bv Ψ) (fun L _ _ _ _=>(aC (cE (N:=["_law_one"]) (i:=0) χ χ L (scC (outer:=ac q16) (by exact rfl))))) (fun _ _ _ _=>eQ Ψ) (fun _ _ _ _=>(Zl (aI q (ao (pvX (by kernel_rfl))) (Zb aw)))) χ)
     (ae (dsN bi q36.nd (Zo (Zl (aI q (ao (pvN 2 bi)) (Zb aw)))))
     (ae (aT Ψ (al cH) aE)
     (al (aB Ψ)))))))))
abbrev z98:Jb:=top 10
def z115:FnScope ["row"] ["row"] (ac z98):=fnS χ
def q116(T:Txt P w K mg)(D:DefF K mg "gives" z98 ["row"]):OkF P w K mg base "gives" 1 ["row"] (spD K 1 q88):=bA D z115 rfl fun f cdv A outer s H E q=>(al (aB Ψ))
abbrev y74:Jb:=top 8
def z107:FnScope ["row","bounds"] ["row"] (ac y74):=fnS χ
def lC:cr (ac y74) ["row","bounds"]=θ:=χ
def y51:aM (ac y74) "ATOM_PLACES"=θ:=χ
def y116(T:Txt P w K mg)(D:DefF K mg "atoms" y74 ["row"]):OkF P w K mg base "atoms" 1 ["row"] (spD K 1 y88):=
 bA D z107 rfl fun f cdv A outer s H E q=>(ae (aT (C4 y51 T.g_A (Zq (aI q (ao (pvN 0 lC)) (Zb aw)))) (al (aB (e9 aD))) aE)
     (ae (dsN lC z107.nd (Zo (Zl (Fa y51 T.g_A (Zq (aI q (ao (pvN 0 lC)) (Zb aw)))))))
     (al (aB Ψ))))
abbrev y66:Jb:=top 9
def z91:FnScope ["row","boxes","atom"] ["row"] (ac y66):=fnS χ
def dA:cr (ac y66) ["row","boxes","atom"]=θ:=χ
def q83:aM (ac y66) "isinstance"=θ:=χ
def y105:aM (ac y66) "str"=θ:=χ
def q115(T:Txt P w K mg)(D:DefF K mg "reads" y66 ["row"])(q:OkF P w K mg base "atoms" 1 ["row"] (spD K 1 (y88))):OkF P w K mg base "reads" 2 ["row"] (spD K 1 q76):=
 bA D z91 rfl fun f cdv A outer s H E L=>(ae (dsN dA z91.nd (bR aD))
     (ae (ce qc5 rfl (dJ Ψ) (aC (aH (nsN dA 2) (nsL dA 2) z91.nd)) (al (aT (DW.t (qD (c8 (Zq (eY q83 y105 T.n_isinstance T.n_str CL T.k_str (ao (pvN 2 dA)))) (fun _=>rfl)) (sC (fQ L (ao (pvN 2 dA)) (ao (pvN 1 dA)))))) (al (bU (pvN 1 dA) (aO (pvN 2 dA)))) aE)))
     (al (cU (pvN 1 dA)))))
abbrev q28:Jb:=top 11
def y52:FnScope ["row","behind","boxes","later"] ["row","behind"] (ac q28):=fnS χ
def bP:cr (ac q28) ["row","behind","boxes","later"]=θ:=χ
def q72:aM (ac q28) "sorted"=θ:=χ
def q82:aM (ac q28) "set"=θ:=χ
theorem q94(T:Txt P w K mg)(D:DefF K mg "needed_ahead" q28 ["row","behind"])(q:OkF P w K mg base "gives" 1 ["row"] (spD K 1 (q88)))(L:OkF P w K mg base "reads" 2 ["row"] (spD K 1 (q76))):OkF P w K mg base "needed_ahead" 3 ["row","behind"] (spD K 2 q22):=
 bA D y52 rfl fun f cdv A outer s H E O=>(ae (dsN bP y52.nd Ψ)
     (ae (ce qc5 rfl (dJ (aO (pvN 1 bP))) (aC (aH (nsN bP 3) (nsL bP 3) y52.nd)) (al (m7 (pvN 2 bP) (doC ["box","row"] (by kernel_rfl) (bv (ao (pvN 3 bP))) (fun _ _ _ _=>eQ Ψ) (fun _ _ _ _=>(aO (pvX (by kernel_rfl))))))))
     (al (aB (re q72 q82 rfl T.n_sorted T.n_set (cP (ao (pvN 2 bP)) dv))))))
abbrev q70:Jb:=top 1
def y111:FnScope ["number","row"] ["number","row"] (ac q70):=fnS χ
def rA:cr (ac q70) ["number","row"]=θ:=χ
def z112(T:Txt P w K mg)(D:DefF K mg "ways_of" q70 ["number","row"]):OkF P w K mg base "ways_of" 1 ["number","row"] (spD K 2 q71):=
 bA D y111 rfl fun f cdv A outer s H E q=>(ae (aT Ψ (al (aB (e9 (au (Zl (aI q (ao (pvN 1 rA)) (Zb aw))) aD)))) aE)
     (ae (aT Ψ (al (aB Ψ)) aE)
     (ae (aT Ψ (al (aB (e9 aD))) aE)
     (al (aB Ψ)))))
abbrev iG:Jb:=top 2
def y117:FnScope ["program"] ["program"] (ac iG):=fnS χ
def Ap:cr (ac iG) ["program"]=θ:=χ
def z90:aM (ac iG) "enumerate"=θ:=χ
theorem z119(T:Txt P w K mg)(D:DefF K mg "ways" iG ["program"])(q:OkF P w K mg base "ways_of" 1 ["number","row"] (spD K 2 (q71))):OkF P w K mg base "ways" 2 ["program"] (spD K 1 dz):=bA D y117 rfl fun f cdv A outer s H E O=>(al (aB (kt (M:=["number","row"]) (src:=[ψ,ψ]) (ts:=[0,1]) (CmpScope.of (by kernel_rfl)) rfl (DIF.toB (eR z90 T.n_enumerate (au (Zl (aI O (ao (pvN 0 Ap)) (Zb aw))) aD))) (fun L _ _ _ _=>(f8 rfl (bx (aC (cE (N:=["number","row"]) (i:=0) χ χ L (scC (outer:=ac iG) (by exact rfl)))) (bx (aC (cE (N:=["number","row"]) (i:=1) χ χ L (scC (outer:=ac iG) (by exact rfl)))) eO)))) (fun _ _ _ _=>bG) (fun _ _ _ _=>Ψ) χ)))
abbrev z57:Jb:=top 12
def q33:FnScope ["program","rows","onward","found","changed","number","boxes"] ["program"] (ac z57):=fnS χ
def bf:cr (ac z57) ["program","rows","onward","found","changed","number","boxes"]=θ:=χ
def z94:aM (ac z57) "range"=θ:=χ
def q73:aM (ac z57) "needed_ahead"=θ:=χ
theorem q114(T:Txt P w K mg)(D:DefF K mg "needed" z57 ["program"])(O:OkF P w K mg base "needed_ahead" 3 ["row","behind"] (spD K 2 (q22)))(L:OkF P w K mg base "ways" 2 ["program"] (spD K 1 (dz))):OkF P w K mg base "needed" 4 ["program"] (spD K 1 z18):=
 bA D q33 rfl fun f cdv A outer s H E q=>(ae (dsN bf q33.nd (Zo (Zl (aI q (ao (pvN 0 bf)) (Zb aw)))))
     (ae (dsN bf q33.nd (Zo Ψ))
     (ae (dsN bf q33.nd (doC ["row"] (by kernel_rfl) (bv (ao (pvN 1 bf))) (fun _ _ _ _=>bG) (fun _ _ _ _=>(Zl (bR aD)))))
     (ae (dsN bf q33.nd (Zo jV))
     (ae (fN 100000 qc5 (c8 (ao (pvN 4 bf)) (fun _=>rfl)) (ae (dsN bf q33.nd (Zo jV))
     (al (ce qc5 rfl (uS z94 T.n_range Ψ) (aC (aH (nsN bf 5) (nsL bf 5) q33.nd)) (ae (dsN bf q33.nd (Zo (Zl (dZ q73 O (q.mono Ω) (au (Zl (aI q (ao (pvN 1 bf)) (ao (pvN 5 bf)))) (au (Zl (doC ["way","found"] (by kernel_rfl) (bv (Zq (aI q (ao (pvN 2 bf)) (ao (pvN 5 bf))))) (fun _ _ _ _=>bG) (fun _ _ _ _=>(Zl (aI q (ao (pvX (by kernel_rfl))) (ao (pvX (by kernel_rfl)))))))) aD))))))
     (al (aT Ψ (ae (qN q (pvN 3 bf) (ao (pvN 5 bf)) (aO (pvN 6 bf)))
     (al (dsN bf q33.nd (Zo jV)))) aE)))))))
     (al (cU (pvN 3 bf))))))))
abbrev y62:Jb:=top 18
def z97:FnScope ["program"] ["program"] (ac y62):=fnS χ
theorem z100(T:Txt P w K mg)(D:DefF K mg "plain_names" y62 ["program"]):OkF P w K mg base "plain_names" 1 ["program"] (spD K 1 q15):=bA D z97 rfl fun f cdv A outer s H E q=>(al (aB (doC ["head"] (by kernel_rfl) (bv Ψ) (fun _ _ _ _=>eQ Ψ) (fun _ _ _ _=>(Zl (aI q (ao (pvX (by kernel_rfl))) (Zb aw)))))))
abbrev z36:Jb:=top 34
def y33:FnScope ["program","names","found","number","row"] ["program"] (ac z36):=fnS χ
def bn:cr (ac z36) ["program","names","found","number","row"]=θ:=χ
def y65:aM (ac z36) "enumerate"=θ:=χ
def q95(T:Txt P w K mg)(D:DefF K mg "rows_by_kind" z36 ["program"])(q:OkF P w K mg base "plain_names" 1 ["program"] (spD K 1 (q15))):OkF P w K mg base "rows_by_kind" 2 ["program"] (spD K 1 y27):=
 bA D y33 rfl fun f cdv A outer s H E L=>(ae (dsN bn y33.nd (Zo Ψ))
     (ae (dsN bn y33.nd (bR aD))
     (ae (ce qc5 rfl (eR y65 T.n_enumerate (au (Zl (aI L (ao (pvN 0 bn)) (Zb aw))) aD)) (f8 rfl (bx (aC (aH (nsN bn 3) (nsL bn 3) y33.nd)) (bx (aC (aH (nsN bn 4) (nsL bn 4) y33.nd)) eO))) (al (aT Ψ (al (bU (pvN 2 bn) (aO (pvN 3 bn)))) aE)))
     (al (cU (pvN 2 bn))))))
abbrev z23:Jb:=top 33
def z31:FnScope ["program","found","number","onward"] ["program"] (ac z23):=fnS χ
def aY:cr (ac z23) ["program","found","number","onward"]=θ:=χ
def q55:aM (ac z23) "enumerate"=θ:=χ
def q84(T:Txt P w K mg)(D:DefF K mg "rows_led_back_to" z23 ["program"])(q:OkF P w K mg base "ways" 2 ["program"] (spD K 1 (dz))):OkF P w K mg base "rows_led_back_to" 3 ["program"] (spD K 1 z19):=
 bA D z31 rfl fun f cdv A outer s H E L=>(ae (dsN aY z31.nd (bR aD))
     (ae (ce qc5 rfl (eR q55 T.n_enumerate Ψ) (f8 rfl (bx (aC (aH (nsN aY 2) (nsL aY 2) z31.nd)) (bx (aC (aH (nsN aY 3) (nsL aY 3) z31.nd)) eO))) (al (m7 (pvN 1 aY) (doC ["way","number"] (by kernel_rfl) (bv (ao (pvN 3 aY))) (fun _ _ _ _=>eQ (cK r8 gZ (ao (pvX (by kernel_rfl))) (ao (pvX (by kernel_rfl))) (bI _))) (fun _ _ _ _=>(aO (pvX (by kernel_rfl))))))))
     (al (cU (pvN 1 aY)))))
abbrev z30:Jb:=top 35
def q62:FnScope ["program","wanted","places"] ["program"] (ac z30):=fnS χ
def fG:cr (ac z30) ["program","wanted","places"]=θ:=χ
def q78:aM (ac z30) "sorted"=θ:=χ
def z89:aM (ac z30) "set"=θ:=χ
def y81:aM (ac z30) "tuple"=θ:=χ
theorem z104(T:Txt P w K mg)(D:DefF K mg "all_places" z30 ["program"])(L:OkF P w K mg base "needed" 4 ["program"] (spD K 1 (z18)))(q:OkF P w K mg base "rows_by_kind" 2 ["program"] (spD K 1 (y27)))(O:OkF P w K mg base "rows_led_back_to" 3 ["program"] (spD K 1 (z19))):OkF P w K mg base "all_places" 5 ["program"] (spD K 1 y17):=
 bA D q62 rfl fun f cdv A outer s H E U=>(ae (dsN fG q62.nd (Zo Ψ))
     (ae (dsN fG q62.nd (Zo (Zl (pQ q78 z89 rfl T.n_sorted T.n_set Ψ))))
     (al (aB (e9 (au Ψ (au (Zl (fM y81 cZ i5 T.n_tuple eZ (cP (Zq (doC ["row","wanted"] (by kernel_rfl) (bv (ao (pvN 2 fG))) (fun _ _ _ _=>bG) (fun _ _ _ _=>Ψ))) dv))) aD)))))))
abbrev y59:Jb:=top 19
def q108:FnScope ["code"] ["code"] (ac y59):=fnS χ
def oh:cr (ac y59) ["code"]=θ:=χ
theorem y108(T:Txt P w K mg)(D:DefF K mg "kept_rows" y59 ["code"]):OkF P w K mg base "kept_rows" 1 ["code"] (spD K 1 z14):=bA D q108 rfl fun f cdv A outer s H E q=>(al (aB (doC ["keep"] (by kernel_rfl) (bv (Zq (aI q (ao (pvN 0 oh)) (Zb aw)))) (fun _ _ _ _=>bG) (fun _ _ _ _=>(Zl (aI q (ao (pvX (by kernel_rfl))) (Zb aw)))))))
abbrev q46:Jb:=top 24
def q51:FnScope ["program","code","kept","number","row"] ["program","code"] (ac q46):=fnS χ
def cB:cr (ac q46) ["program","code","kept","number","row"]=θ:=χ
def y72:aM (ac q46) "enumerate"=θ:=χ
def z108(T:Txt P w K mg)(D:DefF K mg "end_fault" q46 ["program","code"])(q:OkF P w K mg base "kept_rows" 1 ["code"] (spD K 1 (z14))):OkF P w K mg base "end_fault" 2 ["program","code"] (spD K 2 z41):=
 bA D q51 rfl fun f cdv A outer s H E L=>(ae (dsN cB q51.nd (Zo Ψ))
     (ae (ce qc5 rfl (eR y72 T.n_enumerate (au (Zl (aI L (ao (pvN 0 cB)) (Zb aw))) aD)) (f8 rfl (bx (aC (aH (nsN cB 3) (nsL cB 3) q51.nd)) (bx (aC (aH (nsN cB 4) (nsL cB 4) q51.nd)) eO))) (al (aT Ψ (al (aB (e9 (au qC (au (aO (pvN 3 cB)) aD))))) aE)))
     (al (aB (Zo dk)))))
abbrev z52:Jb:=top 29
def z25:FnScope ["program","code","wanted","places","start","boxes","begin","box"] ["program","code"] (ac z52):=fnS χ
def aJ:cr (ac z52) ["program","code","wanted","places","start","boxes","begin","box"]=θ:=χ
def y103(T:Txt P w K mg)(D:DefF K mg "lost_fault" z52 ["program","code"])(L:OkF P w K mg base "needed" 4 ["program"] (spD K 1 (z18))):OkF P w K mg base "lost_fault" 5 ["program","code"] (spD K 2 q35):=
 bA D z25 rfl fun f cdv A outer s H E q=>(ae (dsN aJ z25.nd (Zo Ψ))
     (ae (dsN aJ z25.nd (Zo (Zl (bu cO fB Ψ (Zq (doC ["keep"] (by kernel_rfl) (bv (Zq (aI q (ao (pvN 1 aJ)) (Zb aw)))) (fun _ _ _ _=>bG) (fun _ _ _ _=>Ψ)))))))
     (ae (ce qc5 rfl (dJ (aO (pvN 3 aJ))) (f8 rfl (bx (aC (aH (nsN aJ 4) (nsL aJ 4) z25.nd)) (bx (aC (aH (nsN aJ 5) (nsL aJ 5) z25.nd)) (bx (aC (aH (nsN aJ 6) (nsL aJ 6) z25.nd)) eO)))) (al (ce qc5 rfl (dJ (Zl (aI q (ao (pvN 2 aJ)) (ao (pvN 4 aJ))))) (aC (aH (nsN aJ 7) (nsL aJ 7) z25.nd)) (al (aT (fQ q (ao (pvN 7 aJ)) (ao (pvN 5 aJ))) (al cH) aE)))))
     (al (aB (Zo dk))))))
abbrev y21:Jb:=top 25
def y24:FnScope ["onward","rows","left","fewer","staying"] ["onward","rows"] (ac y21):=fnS χ
def aX:cr (ac y21) ["onward","rows","left","fewer","staying"]=θ:=χ
def y92(T:Txt P w K mg)(D:DefF K mg "endless_rows" y21 ["onward","rows"]):OkF P w K mg base "endless_rows" 1 ["onward","rows"] (spD K 2 y35):=
 bA D y24 rfl fun f cdv A outer s H E L=>(ae (dsN aX y24.nd (Zo (aO (pvN 1 aX))))
     (ae (dsN aX y24.nd (Zo jV))
     (ae (fN 100000 qc5 (c8 (ao (pvN 3 aX)) (fun _=>rfl)) (ae (g6 (nsN aX 4) (nsL aX 4) y24.nd (M:=["row","onward","left"]) (src:=[ψ,ς 0,ς 2]) (ts:=[0]) (CmpScope.of (by kernel_rfl)) rfl (bv (ao (pvN 2 aX))) (fun q _ _ _ _=>(aC (cE (N:=["row","onward","left"]) (i:=0) χ χ q (scC (outer:=ac y21) (by exact rfl))))) (fun _ _ _ _=>eQ (c8 (Zq (k6 χ (pb rfl) (sL (f:=fun bs=>bs.any id)) T.n_any v0 (cP (Zq (kt (M:=["way","left"]) (src:=[ψ,ς 2]) (ts:=[0]) (CmpScope.of (by kernel_rfl)) rfl (bv (Zq (aI L (ao (pvX (by kernel_rfl))) (ao (pvX (by kernel_rfl)))))) (fun q _ _ _ _=>(aC (cE (N:=["way","left"]) (i:=0) χ χ q (scC (scC (outer:=ac y21) (by exact rfl)))))) (fun _ _ _ _=>bG) (fun _ _ _ _=>(Zl (Bi L (ao (pvX (by kernel_rfl))) (ao (pvX (by kernel_rfl)))))) χ)) dv) (e1:=(scC (outer:=ac y21) rfl)))) (fun _=>rfl))) (fun _ _ _ _=>(aO (pvX (by kernel_rfl)))) χ)
     (ae (dsN aX y24.nd (Zo Ψ))
     (al (dsN aX y24.nd (Zo (aO (pvN 4 aX))))))))
     (al (cU (pvN 2 aX))))))
abbrev z35:Jb:=top 26
def q26:FnScope ["program","code","kept","onward","endless","walked","here"] ["program","code"] (ac z35):=fnS χ
def aG:cr (ac z35) ["program","code","kept","onward","endless","walked","here"]=θ:=χ
def z82:aM (ac z35) "range"=θ:=χ
def z62:aM (ac z35) "endless_rows"=θ:=χ
theorem y104(T:Txt P w K mg)(D:DefF K mg "ring_fault" z35 ["program","code"])(O:OkF P w K mg base "endless_rows" 1 ["onward","rows"] (spD K 2 (y35)))(U:OkF P w K mg base "kept_rows" 1 ["code"] (spD K 1 (z14)))(L:OkF P w K mg base "ways" 2 ["program"] (spD K 1 (dz))):OkF P w K mg base "ring_fault" 3 ["program","code"] (spD K 2 y23):=
 bA D q26 rfl fun f cdv A outer s H E q=>(ae (dsN aG q26.nd (Zo Ψ))
     (ae (dsN aG q26.nd (Zo Ψ))
     (ae (dsN aG q26.nd (Zo (Zl (dZ z62 O (q.mono Ω) (au (aO (pvN 3 aG)) (au (Zl (doC ["row","kept"] (by kernel_rfl) (DIF.toB (dn z82 T.n_range Ψ)) (fun _ _ _ _=>eQ (fQ q (ao (pvX (by kernel_rfl))) (ao (pvX (by kernel_rfl))))) (fun _ _ _ _=>(aO (pvX (by kernel_rfl)))))) aD))))))
     (ae (aT Ψ (al (aB (Zo dk))) aE)
     (ae (dsN aG q26.nd (bR aD))
     (ae (dsN aG q26.nd (Zo (Zl (aI q (ao (pvN 4 aG)) (Zb aw)))))
     (ae (fN 100000 qc5 (fQ q (ao (pvN 6 aG)) (ao (pvN 5 aG))) (ae (bU (pvN 5 aG) (aO (pvN 6 aG)))
     (al (dsN aG q26.nd (Zo (Zl (aI q (Zq (doC ["way","endless"] (by kernel_rfl) (bv (Zq (aI q (ao (pvN 3 aG)) (ao (pvN 6 aG))))) (fun _ _ _ _=>eQ (Bk q (ao (pvX (by kernel_rfl))) (ao (pvX (by kernel_rfl))))) (fun _ _ _ _=>(aO (pvX (by kernel_rfl)))))) (Zb aw))))))))
     (al (aB (e9 (au qC (au (Zl (pw (ao (pvN 5 aG)) (sK (Zq (u5 (ao (pvN 5 aG)) (cP (ao (pvN 6 aG)) dv)))) sJ)) aD))))))))))))
abbrev q43:Jb:=top 20
def q81:FnScope ["program","code","kept"] ["program","code"] (ac q43):=fnS χ
def mh:cr (ac q43) ["program","code","kept"]=θ:=χ
theorem q104(T:Txt P w K mg)(D:DefF K mg "inner_ways" q43 ["program","code"])(L:OkF P w K mg base "kept_rows" 1 ["code"] (spD K 1 (z14)))(q:OkF P w K mg base "ways" 2 ["program"] (spD K 1 (dz))):OkF P w K mg base "inner_ways" 3 ["program","code"] (spD K 2 q24):=
 bA D q81 rfl fun f cdv A outer s H E O=>(ae (dsN mh q81.nd (Zo Ψ))
     (al (aB (doC ["onward","kept"] (by kernel_rfl) (bv Ψ) (fun _ _ _ _=>bG) (fun _ _ _ _=>(Zl (kt (M:=["way","kept"]) (src:=[ψ,ς 1]) (ts:=[0]) (CmpScope.of (by kernel_rfl)) rfl (bv (ao (pvX (by kernel_rfl)))) (fun U _ _ _ _=>(aC (cE (N:=["way","kept"]) (i:=0) χ χ U (scC (scC (outer:=ac q43) (by exact rfl)))))) (fun _ _ _ _=>eQ (fQ O (ao (pvX (by kernel_rfl))) (ao (pvX (by kernel_rfl))))) (fun _ _ _ _=>(aO (pvX (by kernel_rfl)))) χ)))))))
abbrev y25:Jb:=top 21
def q99:FnScope ["mark","row","name"] ["mark","row","name"] (ac y25):=fnS χ
def lD:cr (ac y25) ["mark","row","name"]=θ:=χ
def y83:aM (ac y25) "SEEN"=θ:=χ
def z81:aM (ac y25) "SAFE"=θ:=χ
def q74:aM (ac y25) "SPOILT"=θ:=χ
def z101(T:Txt P w K mg)(D:DefF K mg "mark_behind" y25 ["mark","row","name"]):OkF P w K mg base "mark_behind" 1 ["mark","row","name"] (spD K 3 y32):=
 bA D q99 rfl fun f cdv A outer s H E q=>(ae (aT Ψ (al (aB (Zo (kw y83 T.g_F)))) aE)
     (ae (aT Ψ (al (aB (Zo (kw z81 T.g_E)))) aE)
     (ae (aT Ψ (al (aB (Zo (kw q74 T.g_C)))) aE)
     (al (cU (pvN 0 lD))))))
abbrev q58:Jb:=top 3
def y71:FnScope ["came_from","last","places","here"] ["came_from","last"] (ac q58):=fnS χ
def cJ:cr (ac q58) ["came_from","last","places","here"]=θ:=χ
def z99:aM (ac q58) "list"=θ:=χ
def y85:aM (ac q58) "reversed"=θ:=χ
def q113(T:Txt P w K mg)(D:DefF K mg "traced" q58 ["came_from","last"]):OkF P w K mg base "traced" 1 ["came_from","last"] (spD K 2 q92):=
 bA D y71 rfl fun f cdv A outer s H E q=>(ae (dsN cJ y71.nd (bR aD))
     (ae (dsN cJ y71.nd (Zo (aO (pvN 1 cJ))))
     (ae (fN 100000 qc5 (cK kn ku (ao (pvN 3 cJ)) (Zb dk) (bI _)) (ae (bU (pvN 2 cJ) (aO (pvN 3 cJ)))
     (al (dsN cJ y71.nd (Zo (Zl (Dl T.is q (ao (pvN 0 cJ)) (ao (pvN 3 cJ)))))))))
     (al (aB (rq z99 y85 T.n_list T.n_reversed rfl (ao (pvN 2 cJ))))))))
abbrev z67:Jb:=top 4
def y42:FnScope ["starts","behind","fits","came_from","start","queue","looked","here","there"] ["starts","behind","fits"] (ac z67):=fnS χ
def aN:cr (ac z67) ["starts","behind","fits","came_from","start","queue","looked","here","there"]=θ:=χ
def z105:aM (ac z67) "list"=θ:=χ
def z95:aM (ac z67) "traced"=θ:=χ
def z117(T:Txt P w K mg)(D:DefF K mg "route" z67 ["starts","behind","fits"])(L:OkF P w K mg base "traced" 1 ["came_from","last"] (spD K 2 (q92))):OkF P w K mg base "route" 4 ["starts","behind","fits"] (spR P w K mg base 3 y87):=
 C7 D y42 rfl fun f cdv A outer s H E q G O=>(ae (dsN aN y42.nd xt)
     (ae (ce qc5 rfl (dJ (aO (pvN 0 aN))) (aC (aH (nsN aN 4) (nsL aN 4) y42.nd)) (al (tq T.is q (pvN 3 aN) (ao (pvN 4 aN)) dk)))
     (ae (dsN aN y42.nd (fM z105 (rp rfl) Ak T.n_list nN (cP (ao (pvN 3 aN)) dv)))
     (ae (dsN aN y42.nd (Zo aw))
     (ae (fN 100000 qc5 Ψ (ae (dsN aN y42.nd (Zo (Zl (aI q (ao (pvN 5 aN)) (ao (pvN 6 aN))))))
     (ae (qL (nsN aN 6) (nsL aN 6) y42.nd (Zb aw))
     (ae (aT (c8 (Zq (sP (pvN 2 aN) O (q.mono Ω) (au (aO (pvN 7 aN)) aD))) (fun _=>rfl)) (al (zM (i:=3) (aB (dZ z95 L (q.mono Ω) (au (aO (pvN 3 aN)) (au (aO (pvN 7 aN)) aD)))))) aE)
     (al (ce qc5 rfl (dJ (Zl (sP (pvN 1 aN) O (q.mono Ω) (au (aO (pvN 7 aN)) aD)))) (aC (aH (nsN aN 8) (nsL aN 8) y42.nd)) (al (aT (Dm T.is q (ao (pvN 8 aN)) (ao (pvN 3 aN))) (ae (tq T.is q (pvN 3 aN) (ao (pvN 8 aN)) (aO (pvN 7 aN)))
     (al (bU (pvN 5 aN) (aO (pvN 8 aN))))) aE))))))))
     (al (aB (Zo dk))))))))
abbrev z22:Jb:=top 22
def q50:FnScope ["program","code","name","rows","inner","behind","spoils","found"] ["program","code","name"] (ac z22):=fnS χ
def bV:cr (ac z22) ["program","code","name","rows","inner","behind","spoils","found"]=θ:=χ
def q93:aM (ac z22) "route"=θ:=χ
abbrev y53:Jb:=(bc z22).getD 3 (.Pass ⟨0,0,0,0⟩)
def q39:NsC (ac z22) ["program","code","name","rows","inner","behind","spoils","found"] ["place","mark","name","rows","inner"] ["place"] ["name","rows","inner"] [2,3,4] (ac y53):=NsC.of χ
def y86:eC (ac y53) ["place","mark","name","rows","inner"] 1 "mark"=θ:=χ
def q86:jC (ac y53) "mark"=θ:=χ
abbrev y96:Jb:=(bc z22).getD 4 (.Pass ⟨0,0,0,0⟩)
def q48:NsC (ac z22) ["program","code","name","rows","inner","behind","spoils","found"] ["place","name","rows"] ["place"] ["name","rows"] [2,3] (ac y96):=NsC.of χ
theorem z113{c U:J9}(T:Txt P w K mg)(D:DefC K mg "spoilt" z22 ["program","code","name"] c)(B:TabB mg base c U)(W:(U,oT "spoilt" (bc z22))∈dD K)(z85:OkF P w K mg base "inner_ways" 3 ["program","code"] (spD K 2 (q24)))(Y:OkF P w K mg base "kept_rows" 1 ["code"] (spD K 1 (z14)))(y79:OkF P w K mg base "mark_behind" 1 ["mark","row","name"] (spD K 3 (y32)))(Z:OkF P w K mg base "plain_names" 1 ["program"] (spD K 1 (q15)))(L:OkF P w K mg base "route" 4 ["starts","behind","fits"] (spR P w K mg base 3 y87)):OkF P w K mg base "spoilt" 5 ["program","code","name"] (spD K 3 (q56)):=
 Dj D q50 rfl fun f A outer s H E q=>(ae (aT Ψ (al (aB (Zo dk))) aE)
     (ae (dsN bV q50.nd (Zo (Zl (aI q (ao (pvN 0 bV)) (Zb aw)))))
     (ae (dsN bV q50.nd (Zo Ψ))
     (wR (i1:=5) (i2:=6) Ω (Di (NX:=["program","code","name","rows","inner","behind","spoils","found"]) rfl) (tj (qual:="spoilt.<locals>.behind") (nsN bV 5) (nsL bV 5) q50.nd q39 B W χ) (tj (qual:="spoilt.<locals>.spoils") (nsN bV 6) (nsL bV 6) q50.nd q48 B W χ)
     (wS (Ae (nsN bV 7) (nsL bV 7) q50.nd (Fc (i1:=5) (i2:=6) L (q.mono Ω) (glD q93) (fun _=>rfl) (Zl (doC ["row"] (by kernel_rfl) (bv (Zq (bu cO fB (Zq (bR (au aw aD))) Ψ))) (fun _ _ _ _=>bG) (fun _ _ _ _=>Ψ))) (pvN 5 bV) (pvN 6 bV) (NestD.of q39 (fun s cl doc pm ctv cd us O=>match us,O with|[_],_=>.of_eq rfl) fun f c' cl A outer s H q=>(ae (wq y86 q86 q39.nd (Zo Ψ))
     (al (aB (wn Ψ (bR aD) (doC ["way","mark"] (by kernel_rfl) (bv Ψ) (fun _ _ _ _=>bG) (fun _ _ _ _=>Ψ))))))) (NestD.of q48 (fun s cl doc pm ctv cd us O=>match us,O with|[_],_=>.of_eq rfl) fun f c' cl A outer s H q=>(al (aB Ψ))) q39.all q48.all))
     (al (aB (wn (cK jv uF (ao (pvN 7 bV)) (Zb dk) (bI _)) (Zo dk) (doC ["place"] (by kernel_rfl) (bv (ao (pvN 7 bV))) (fun _ _ _ _=>bG) (fun _ _ _ _=>(Zl (aI q (ao (pvX (by kernel_rfl))) (Zb aw)))))))))))))
abbrev q47:Jb:=top 27
def y55:FnScope ["program","code","name","rows"] ["program","code"] (ac q47):=fnS χ
def dB:cr (ac q47) ["program","code","name","rows"]=θ:=χ
theorem q100(T:Txt P w K mg)(D:DefF K mg "spoil_fault" q47 ["program","code"])(L:OkF P w K mg base "plain_names" 1 ["program"] (spD K 1 (q15)))(q:OkF P w K mg base "spoilt" 5 ["program","code","name"] (spD K 3 (q56))):OkF P w K mg base "spoil_fault" 6 ["program","code"] (spD K 2 z20):=
 bA D y55 rfl fun f cdv A outer s H E O=>(ae (ce qc5 rfl (dJ Ψ) (aC (aH (nsN dB 2) (nsL dB 2) y55.nd)) (ae (dsN dB y55.nd (Zo Ψ))
     (al (aT (cK kn ku (ao (pvN 3 dB)) (Zb dk) (bI _)) (al (aB Ψ)) aE))))
     (al (aB (Zo dk))))
abbrev q89:Jb:=top 30
def q68:FnScope ["program","code","found"] ["program","code"] (ac q89):=fnS χ
def d9:cr (ac q89) ["program","code","found"]=θ:=χ
theorem z116(T:Txt P w K mg)(D:DefF K mg "fault" q89 ["program","code"])(U:OkF P w K mg base "end_fault" 2 ["program","code"] (spD K 2 (z41)))(L:OkF P w K mg base "lost_fault" 5 ["program","code"] (spD K 2 (q35)))(O:OkF P w K mg base "ring_fault" 3 ["program","code"] (spD K 2 (y23)))(q:OkF P w K mg base "spoil_fault" 6 ["program","code"] (spD K 2 (z20))):OkF P w K mg base "fault" 7 ["program","code"] (spD K 2 z24):=
 bA D q68 rfl fun f cdv A outer s H E W=>(ae (dsN d9 q68.nd (Zo Ψ))
     (ae (aT (cK jv uF (ao (pvN 2 d9)) (Zb dk) (bI _)) (al (dsN d9 q68.nd (Zo Ψ))) aE)
     (ae (aT (cK jv uF (ao (pvN 2 d9)) (Zb dk) (bI _)) (al (dsN d9 q68.nd (Zo Ψ))) aE)
     (ae (aT (cK jv uF (ao (pvN 2 d9)) (Zb dk) (bI _)) (al (dsN d9 q68.nd (Zo Ψ))) aE)
     (al (cU (pvN 2 d9)))))))
abbrev y97:Jb:=top 31
def q117:FnScope ["program","code"] ["program","code"] (ac y97):=fnS χ
theorem y115(T:Txt P w K mg)(D:DefF K mg "holds" y97 ["program","code"])(q:OkF P w K mg base "fault" 7 ["program","code"] (spD K 2 (z24))):OkF P w K mg base "holds" 8 ["program","code"] (spD K 2 q25):=bA D q117 rfl fun f cdv A outer s H E L=>(al (aB Ψ))
abbrev z61:Jb:=top 36
def y110:FnScope ["code","row"] ["code","row"] (ac z61):=fnS χ
def lG:cr (ac z61) ["code","row"]=θ:=χ
def y91:aM (ac z61) "tuple"=θ:=χ
theorem z111(T:Txt P w K mg)(D:DefF K mg "without" z61 ["code","row"]):OkF P w K mg base "without" 1 ["code","row"] (spD K 2 z38):=bA D y110 rfl fun f cdv A outer s H E q=>(al (aB (e9 (au (Zl (aI q (ao (pvN 0 lG)) (Zb aw))) (au (Zl (fM y91 cZ i5 T.n_tuple eZ (cP (Zq (doC ["keep","row"] (by kernel_rfl) (bv (Zq (aI q (ao (pvN 0 lG)) (Zb aw)))) (fun _ _ _ _=>eQ Ψ) (fun _ _ _ _=>(aO (pvX (by kernel_rfl)))))) dv))) aD)))))
abbrev y43:Jb:=top 37
def q34:FnScope ["program","code","left","row","thinner"] ["program","code"] (ac y43):=fnS χ
def bD:cr (ac y43) ["program","code","left","row","thinner"]=θ:=χ
theorem y93(T:Txt P w K mg)(D:DefF K mg "gone_through" y43 ["program","code"])(O:OkF P w K mg base "holds" 8 ["program","code"] (spD K 2 (q25)))(q:OkF P w K mg base "kept_rows" 1 ["code"] (spD K 1 (z14)))(L:OkF P w K mg base "without" 1 ["code","row"] (spD K 2 (z38))):OkF P w K mg base "gone_through" 9 ["program","code"] (spD K 2 q27):=
 bA D q34 rfl fun f cdv A outer s H E U=>(ae (dsN bD q34.nd (Zo (aO (pvN 1 bD))))
     (ae (ce qc5 rfl (dJ Ψ) (aC (aH (nsN bD 3) (nsL bD 3) q34.nd)) (ae (dsN bD q34.nd (Zo Ψ))
     (al (aT Ψ (al (dsN bD q34.nd (Zo (aO (pvN 4 bD))))) aE))))
     (al (cU (pvN 2 bD)))))
abbrev z69:Jb:=top 38
def q64:FnScope ["program","code","left"] ["program","code"] (ac z69):=fnS χ
def cQ:cr (ac z69) ["program","code","left"]=θ:=χ
theorem q111(T:Txt P w K mg)(D:DefF K mg "thinned" z69 ["program","code"])(q:OkF P w K mg base "gone_through" 9 ["program","code"] (spD K 2 (q27)))(O:OkF P w K mg base "holds" 8 ["program","code"] (spD K 2 (q25))):OkF P w K mg base "thinned" 10 ["program","code"] (spD K 2 q61):=
 bA D q64 rfl fun f cdv A outer s H E L=>(ae (aT Ψ (al (cU (pvN 1 cQ))) aE)
     (ae (dsN cQ q64.nd (Zo Ψ))
     (ae (fN 100000 qc5 (cK (nV L) zV (ao (pvN 2 cQ)) (ao (pvN 1 cQ)) (bI _)) (ae (dsN cQ q64.nd (Zo (aO (pvN 2 cQ))))
     (al (dsN cQ q64.nd (Zo Ψ)))))
     (al (cU (pvN 2 cQ))))))
abbrev rB:Jb:=top 39
def z118:FnScope ["program"] ["program"] (ac rB):=fnS χ
theorem y118(T:Txt P w K mg)(D:DefF K mg "make" rB ["program"])(L:OkF P w K mg base "all_places" 5 ["program"] (spD K 1 (y17)))(q:OkF P w K mg base "thinned" 10 ["program","code"] (spD K 2 (q61))):OkF P w K mg base "make" 11 ["program"] (spD K 1 gj):=bA D z118 rfl fun f cdv A outer s H E O=>(al (aB Ψ))
abbrev gF:Jb:=top 55
def sc_law:FnScope ["_law_script","_law_program_here","_law_number","_law_names_here","_law_boxes","_law_code","_law_need","_law_whole","_law_row_here","_law_less","_law_other"] ["_law_script"] (ac gF):=fnS χ
def cL:cr (ac gF) ["_law_script","_law_program_here","_law_number","_law_names_here","_law_boxes","_law_code","_law_need","_law_whole","_law_row_here","_law_less","_law_other"]=θ:=χ
def q106:aM (ac gF) "tuple"=θ:=χ
def y89:aM (ac gF) "isinstance"=θ:=χ
theorem Dq{f:J9}{fd:qp9}(T:Txt P w K mg)(D:Fun K "law" "law" gF f fd)(y28:OkF P w K mg base "_law_cell_at" 1 ["_law_script","_law_k"] (spD K 2 (y1)))(q54:OkF P w K mg base "_law_digit_program" 3 ["_law_script","_law_most"] (spD K 2 (z15)))(O:OkF P w K mg base "_law_names" 2 ["_law_cell","_law_many"] (spD K 2 (y12)))(Y:OkF P w K mg base "_law_program" 3 ["_law_script","_law_most","_law_wide"] (spD K 3 (q37)))(U:OkF P w K mg base "_law_round_about" 2 ["_law_cell","_law_program_here","_law_boxes","_law_more"] (spD K 4 (y16)))(W:OkF P w K mg base "_law_walked" 3 ["_law_program_here","_law_code","_law_told"] (spD K 3 (y20)))(z53:OkF P w K mg base "all_places" 5 ["program"] (spD K 1 (y17)))(z88:OkF P w K mg base "fault" 7 ["program","code"] (spD K 2 (z24)))(q67:OkF P w K mg base "holds" 8 ["program","code"] (spD K 2 (q25)))(q:OkF P w K mg base "make" 11 ["program"] (spD K 1 (gj)))(y57:OkF P w K mg base "needed" 4 ["program"] (spD K 1 (z18)))(z71:OkF P w K mg base "without" 1 ["code","row"] (spD K 2 (z38))):FnOk P w K mg base CX0 12 f fd ["_law_script"] (spD K 1 tz):=
 E5 D sc_law rfl fun cdv A outer s H E Z=>(ae (dsN cL sc_law.nd (Zo Ψ))
     (ae (aT Ψ (al (dsN cL sc_law.nd (Zo Ψ))) aE)
     (ae (dsN cL sc_law.nd (Zo Ψ))
     (ae (dsN cL sc_law.nd (Zo Ψ))
     (ae (dsN cL sc_law.nd (Zo Ψ))
     (ae (aT Ψ (al (dsN cL sc_law.nd (Zo Ψ))) aE)
     (ae (dsN cL sc_law.nd (Zo Ψ))
     (ae (dsN cL sc_law.nd (Zo Ψ))
     (ae (g6 (nsN cL 7) (nsL cL 7) sc_law.nd (M:=["_law_row_here","_law_boxes"]) (src:=[ψ,ψ]) (ts:=[0,1]) (CmpScope.of (by kernel_rfl)) rfl (bv Ψ) (fun L _ _ _ _=>(f8 rfl (bx (aC (cE (N:=["_law_row_here","_law_boxes"]) (i:=0) χ χ L (scC (outer:=ac gF) (by exact rfl)))) (bx (aC (cE (N:=["_law_row_here","_law_boxes"]) (i:=1) χ χ L (scC (outer:=ac gF) (by exact rfl)))) eO)))) (fun _ _ _ _=>bG) (fun _ _ _ _=>(aO (pvX (by kernel_rfl)))) χ)
     (ae (aT (DW.t (iX (kZ (c8 (Zq (eY y89 q106 T.n_isinstance T.n_tuple eZ T.k_tuple (ao (pvN 5 cL)))) (fun _=>rfl))) (iX Ψ (iX Ψ (k5 Ψ))))) (al cH) aE)
     (ae (ce qc5 rfl (dJ (Zl (aI Z (ao (pvN 5 cL)) (Zb aw)))) (f8 rfl (bx (aC (aH (nsN cL 8) (nsL cL 8) sc_law.nd)) (bx (aC (aH (nsN cL 4) (nsL cL 4) sc_law.nd)) eO))) (ae (aT Ψ (al cH) aE)
     (ae (dsN cL sc_law.nd (Zo Ψ))
     (al (aT Ψ (al cH) aE)))))
     (ae (dsN cL sc_law.nd (Zo Ψ))
     (al (aB Ψ))))))))))))))
end
end P52
namespace L2
open PySem PySem.Spec PyProof.Rows
variable{i j:Int}
def gAdd_i:az (.int i) (.int j)=ς (.f (.int (i+j))):=rfl
variable{x y:Str}
def xA(h:x.length+y.length<=qb2):az (.str x) (.str y)=ς (.f (.str (x++y))):=if_pos h
variable{l m:η Dt}
def xB(h:l.length+m.length<=qb2):az (.e l) (.e m)=ς (.e (l++m)):=if_pos h
def Dr(h:l.length+m.length<=qb2/\l≠[]/\m≠[]):az (.t l) (.t m)=ς (.f (.t (l++m))):=if_pos h
def gSub_i:fj (.int i) (.int j)=ς (.f (.int (i-j))):=rfl
def xC(h:jX i j=θ):fw (.int i) (.int j)=ς (.f (.int (i*j))):=if_pos h
def fu(h:0<j):cg (.int i) (.int j)=ς (.f (.int (i%j))):=if_pos h
def xD(h:pj i j=θ):jD (.int i) (.int j)=ς (.f (.int (i^j.toNat))):=if_pos h
def xE:pj 2 40=θ:=Ω
@[irreducible] def wide:Int:=1099511627776
def tD:wide=1099511627776:=by unfold wide;rfl
def FQ:jD (.int 2) (.int 40)=ς (.f (.int wide)):=by rw[xD xE,tD];rfl
def xF:(0:Int)<wide:=by rw[tD];decide
def gMod_w:cg (.int i) (.int wide)=ς (.f (.int (i%wide))):=fu xF
def gCmp_i{f:Int->Int->Bool}:f9 f (.int i) (.int j)=ς (.f (.bl (f i j))):=rfl
def Br(h:(cmpbs l m&&decide (deeps l<=59))=θ):eqD (.t l) (.t m)=ς (peqs l m):=if_pos h
def Fk(h:(cmpbs l m&&decide (deeps l<=59))=θ):eqD (.e l) (.e m)=ς (peqs l m):=if_pos h
variable{neg b:Bool}
def lH{x y:Dt}(h:eqD x y=ς b):gEq neg x y=ς (.f (.bl (if neg then !b else b))):=by unfold gEq;rw[h];rfl
def gEq_ii:gEq ξ (.int i) (.int j)=ς (.f (.bl (decide (i=j)))):=rfl
def gEq_ss{i j:Str}:gEq ξ (.str i) (.str j)=ς (.f (.bl (decide (i=j)))):=rfl
def gNe_ss{i j:Str}:gEq θ (.str i) (.str j)=ς (.f (.bl (!decide (i=j)))):=rfl
def gIs_n{x:Dt}:gIs neg x .non=ς (.f (.bl (if neg then !gx x else gx x))):=rfl
def eJ:ah (.e l) (.int i)=(atI l i).map .f:=rfl
def xG:ah (.t l) (.int i)=(atI l i).map .f:=rfl
def Fl(h:x.length<=qb2):ah (.str x) (.int i)=(atI x.cps.toList i).map fun c=>.f (.str ⟨#[c]⟩):=if_pos h
def Fn{x:Dt}(h:(cG x&&l.all cG)=θ):bJ neg x (.e l)=ς (.f (.bl (if neg then !(l.any fun y=>eqF y x)else l.any fun y=>eqF y x))):=by cases x<;>simp only[bJ,gIn,inD]<;>first|rw[if_pos h];rfl|cases h
def Bs{x:Dt}(h:(cG x&&l.all cG)=θ):bJ neg x (.t l)=ς (.f (.bl (if neg then !(l.any fun y=>eqF y x)else l.any fun y=>eqF y x))):=by cases x<;>simp only[bJ,gIn,inD]<;>first|rw[if_pos h];rfl|cases h
def gLen_l:bz [.e l]=ς (.f (.int l.length)):=rfl
def gLen_t:bz [.t l]=ς (.f (.int l.length)):=rfl
def Fo:bO [.e l]=ς (.f (.t l)):=rfl
def Ds(h:gv j=θ):gG [.int j]=ς (iE 0 j.toNat):=if_pos h
def xH(q:-1000000000<=j)(h1:j<=1000000000):gv j=θ:=by unfold gv;simp only[qb3,decide_eq_true_eq];lia
variable{n:Nat}
def Du(h:n<=1000000000):gG [.int n]=ς (iE 0 n):=by rw[Ds (xH Θ Θ)];rfl
def itD_l:itD (.e l)=ς l:=rfl
def itD_t:itD (.t l)=ς l:=rfl
def truD_b:wg (.bl b)=ς b:=rfl
def asB_b:asB (.f (.bl b))=ς b:=rfl
def asBl_b:pf (.bl b)=ς b:=rfl
def Fp{b:Int}:asI (.int b)=ς b:=rfl
def small(h:n<=1000000):n<=qb2:=qb9 h Ω
def lI(h:n<1000000):n<qb2:=qc2 h Ω
variable{g1 g2:De->ζ Out}{δ:De}
def ax{δ':De}(h:g1 δ=ς (.nx δ')):ai g1 g2 δ=g2 δ':=by unfold ai;rw[h];rfl
def xI{t:T}(h:g1 δ=ς (.rt t)):ai g1 g2 δ=ς (.rt t):=by unfold ai;rw[h];rfl
variable{src:η (ζ Nat)}{fi:De->ζ (η Dt)}{bb:Dt->De->ζ De}{ft:De->ζ Bool}{fe:De->ζ Dt}{ds:η Dt}
def xJ{ys:η Dt}(h1:fi δ=ς ds)(h2:bE bb ft fe (dC src δ) ds=ς ys)(h3:ys.length<=1000000):aQ src fi bb ft fe δ=ς (.e ys):=by unfold aQ;rw[h1,qa3,h2,qa3];exact if_pos (small h3)
variable{g:De->ζ Out}{δ1:De}
theorem aS{d:Dt}{r:η Dt}{δ2:De}(h1:bb d δ=ς δ1)(h2:g δ1=ς (.nx δ2)):cA bb g (d::r) δ=cA bb g r δ2:=by show((bb d δ).bind fun δ1=>(g δ1).bind fun o=>match o with|.nx δ2=>cA bb g r δ2|.ct δ2=>cA bb g r δ2|.bk δ2=>ς (.nx δ2)|.rt t=>ς (.rt t))=_;rw[h1,qa3,h2];rfl
def be{α:Type}{l:η α}{k:Nat}:atI l (k:Int)=l[k]?:=by
 unfold atI ixN;rw[if_pos Θ];by_cases h:k<l.length
 .rw[if_pos Θ];simp
 .rw[if_neg Θ];simp;lia
def gMul_l(h1:-1000000000000000000<i)(h2:i<1000000000000000000):fw (.int i) (.int j)=ς (.f (.int (i*j))):=xC (zR h1 h2)
def gMul_r(h1:-1000000000000000000<j)(h2:j<1000000000000000000):fw (.int i) (.int j)=ς (.f (.int (i*j))):=xC (zS h1 h2)
def xK(o:ζ Out)(g:De->ζ Out):ζ Out:=o.bind fun o=>match o with
 |.nx q=>g q
 |o=>ς o
def bL:ai g1 g2 δ=xK (g1 δ) g2:=rfl
def bF:xK (ς (.nx δ)) g=g δ:=rfl
def Fq{t:T}:xK (ς (.rt t)) g=ς (.rt t):=rfl
def oj:ζ Out->ζ T
 |some (.rt t)=>ς t
 |some (.nx _)=>ς (.f .non)
 |_=>ψ
def jM{m:Nat}:bH m g ds=oj (g (ds.map (fun d=>ς (.f d))++qc1 (m-ds.length) ψ)):=rfl
def FS{t:T}:oj (ς (.rt t))=ς t:=rfl
def iz{α:Type}(b:ζ Bool)(f g:De->ζ α)(δ:De):ζ α:=b.bind fun b=>if b then f δ else g δ
def jh{α:Type}{f g:De->ζ α}:iz (ς θ) f g δ=f δ:=rfl
def ji{α:Type}{f g:De->ζ α}:iz (ς ξ) f g δ=g δ:=rfl
def gl{α:Type}{f g:De->ζ α}(h:b=θ):iz (ς b) f g δ=f δ:=by subst h;rfl
def fC{α:Type}{f g:De->ζ α}(h:b=ξ):iz (ς b) f g δ=g δ:=by subst h;rfl
variable{c:De->ζ Bool}
def ni:sIf c g1 g2 δ=iz (c δ) g1 g2 δ:=rfl
def vIf_d{g1 g2:De->ζ T}:vIf c g1 g2 δ=iz (c δ) g1 g2 δ:=rfl
def kB(b:Bool):De->ζ Bool:=fun _=>ς b
def kT(b:Bool):De->ζ T:=fun _=>ς (.f (.bl b))
def kB_d:kB b δ=ς b:=rfl
def jN{f g:De->ζ Bool}:cY f g δ=iz (f δ) g (kB ξ) δ:=rfl
def Fs{f g:De->ζ Bool}:fOr f g δ=iz (f δ) (kB θ) g δ:=rfl
variable{f:De->ζ Dt}
def vAnd_d{g:De->ζ T}:kg f g δ=iz ((f δ).bind pf) g (kT ξ) δ:=by
 unfold kg iz kT;cases f δ with
 |none=>rfl
 |some d=>rfl
def mkL(ds:η Dt):ζ T:=if ds.length<=qb2 then ς (.e ds)else ψ
def mkTp(ds:η Dt):ζ T:=if ds.length<=qb2 then ς (.f (.t ds))else ψ
def cC(h:ds.length<=1000000):mkL ds=ς (.e ds):=if_pos (small h)
def FT(h:ds.length<=1000000):mkTp ds=ς (.f (.t ds)):=if_pos (small h)
def rC{f:De->ζ (η Dt)}:aR f δ=(f δ).bind mkL:=rfl
def vTup_d{f:De->ζ (η Dt)}:av f δ=(f δ).bind mkTp:=rfl
def FU:aQ src fi bb ft fe δ=(fi δ).bind fun ds=>(bE bb ft fe (dC src δ) ds).bind mkL:=rfl
def appL(l:η Dt)(i:Nat)(δ:De)(d:Dt):ζ Out:=if l.length<qb2 then ς (.nx (δ.set i (ς (.e (l++[d])))))else ψ
def fD{i:Nat}{d:Dt}(h:l.length<1000000):appL l i δ d=ς (.nx (δ.set i (ς (.e (l++[d]))))):=if_pos (lI h)
def j6{i:Nat}(h:δ[i]?=ς (ς (.e l))):y13 i f δ=(f δ).bind (appL l i δ):=by unfold y13;rw[h];rfl
theorem lJ:∀ts:η Str,jE (ts.map .str)=ς ts
 |[]=>rfl
 |t::r=>by show(jE (r.map .str)).map (t::·)=_;rw[lJ r];rfl
def Dv{α:Type}{xs:η α}(L:0<=i)(h1:i<xs.length):∃v,atI xs i=ς v/\v∈xs:=by
 obtain⟨n,rfl⟩:=Int.eq_ofNat_of_zero_le L;have q:n<xs.length:=by lia
 exact⟨xs[n],zy (by simp[q]),qr4 q⟩
def Aq(x:Str):x.length=x.cps.toList.length:=by show x.cps.size=_;simp
def kE(L:x.length<=1000000)(q:0<=i)(h1:i<x.length):∃c,ah (.str x) (.int i)=ς (.f (.str ⟨#[c]⟩))/\c∈x.cps.toList:=by obtain⟨c,e,O⟩:=Dv (xs:=x.cps.toList) q (by rw[<- Aq];exact h1);refine⟨c,?_,O⟩;rw[Fl (small L),e];rfl
def jj(h:l.length+m.length<=1000000):az (.e l) (.e m)=ς (.e (l++m)):=xB (small h)
def FV:cG (.int i)=θ:=rfl
def FW:cG (.str x)=θ:=rfl
def eqF_s:eqF (.str x) (.str y)=decide (x=y):=by show(x==y)=_;rw[qj8];simp
def eqF_i{x y:Int}:eqF (.int x) (.int y)=decide (x=y):=by show(x==y)=_;rw[qj8];simp
theorem lK:∀{l m:η Dt},l.all cG=θ->m.all cG=θ->cmpbs l m=θ
 |[],m,_,_=>by cases m<;>simp[cmpbs]
 |_::_,[],_,_=>by simp[cmpbs]
 |d::l,e::m,h,h'=>by
  simp only[qk5,qb3]at h h';simp only[cmpbs,lK h.2 h'.2,qo2];cases d<;>first|(cases h.1;done)|skip
  all_goals cases e<;>first|(cases h'.1;done)|rfl
theorem lL:∀{l:η Dt},l.all cG=θ->deeps l=0
 |[],_=>by simp[deeps]
 |d::l,h=>by simp only[qk5,qb3]at h;simp only[deeps,lL h.2];cases d<;>first|(cases h.1;done)|rfl
def xL(q:l.all cG=θ)(L:m.all cG=θ):gEq neg (.e l) (.e m)=ς (.f (.bl (if neg then !peqs l m else peqs l m))):=lH (Fk (by rw[lK q L,lL q];rfl))
def g9:cV fi bb g δ=(fi δ).bind fun ds=>cA bb g ds δ:=rfl
def atI_0{α:Type}{l:η α}:atI l 0=l[0]?:=be (k:=0)
def atI_1{α:Type}{l:η α}:atI l 1=l[1]?:=be (k:=1)
def atI_2{α:Type}{l:η α}:atI l 2=l[2]?:=be (k:=2)
def atI_3{α:Type}{l:η α}:atI l 3=l[3]?:=be (k:=3)
def atI_4{α:Type}{l:η α}:atI l 4=l[4]?:=be (k:=4)
def atI_5{α:Type}{l:η α}:atI l 5=l[5]?:=be (k:=5)
def atI_6{α:Type}{l:η α}:atI l 6=l[6]?:=be (k:=6)
open PySem
def Dw:(qa0 "copy"=qa0 "op")=False:=ω
def Ar:(qa0 "copy"=qa0 "load")=False:=ω
def yT:(qa0 "copy"=qa0 "store")=False:=ω
def As:(qa0 "copy"=qa0 "take")=False:=ω
def Bt:(qa0 "copy"=qa0 "lay")=False:=ω
def At:(qa0 "copy"=qa0 "hear")=False:=ω
def Bu:(qa0 "copy"=qa0 "say")=False:=ω
def Dx:(qa0 "copy"=qa0 "if")=False:=ω
def Dy:(qa0 "copy"=qa0 "go")=False:=ω
def Bv:(qa0 "copy"=qa0 "end")=False:=ω
def Dz:(qa0 "op"=qa0 "copy")=False:=ω
def DC:(qa0 "op"=qa0 "load")=False:=ω
def Bw:(qa0 "op"=qa0 "store")=False:=ω
def DD:(qa0 "op"=qa0 "take")=False:=ω
def Ei:(qa0 "op"=qa0 "lay")=False:=ω
def DE:(qa0 "op"=qa0 "hear")=False:=ω
def Ej:(qa0 "op"=qa0 "say")=False:=ω
def Ft:(qa0 "op"=qa0 "if")=False:=ω
def Fu:(qa0 "op"=qa0 "go")=False:=ω
def Ek:(qa0 "op"=qa0 "end")=False:=ω
def Au:(qa0 "load"=qa0 "copy")=False:=ω
def DF:(qa0 "load"=qa0 "op")=False:=ω
def yU:(qa0 "load"=qa0 "store")=False:=ω
def Av:(qa0 "load"=qa0 "take")=False:=ω
def Bx:(qa0 "load"=qa0 "lay")=False:=ω
def Aw:(qa0 "load"=qa0 "hear")=False:=ω
def By:(qa0 "load"=qa0 "say")=False:=ω
def DH:(qa0 "load"=qa0 "if")=False:=ω
def DI:(qa0 "load"=qa0 "go")=False:=ω
def Bz:(qa0 "load"=qa0 "end")=False:=ω
def yV:(qa0 "store"=qa0 "copy")=False:=ω
def BA:(qa0 "store"=qa0 "op")=False:=ω
def yW:(qa0 "store"=qa0 "load")=False:=ω
def yX:(qa0 "store"=qa0 "take")=False:=ω
def Ax:(qa0 "store"=qa0 "lay")=False:=ω
def yY:(qa0 "store"=qa0 "hear")=False:=ω
def Ay:(qa0 "store"=qa0 "say")=False:=ω
def BB:(qa0 "store"=qa0 "if")=False:=ω
def BC:(qa0 "store"=qa0 "go")=False:=ω
def Az:(qa0 "store"=qa0 "end")=False:=ω
def AA:(qa0 "take"=qa0 "copy")=False:=ω
def DJ:(qa0 "take"=qa0 "op")=False:=ω
def AB:(qa0 "take"=qa0 "load")=False:=ω
def yZ:(qa0 "take"=qa0 "store")=False:=ω
def BD:(qa0 "take"=qa0 "lay")=False:=ω
def AC:(qa0 "take"=qa0 "hear")=False:=ω
def BE:(qa0 "take"=qa0 "say")=False:=ω
def DK:(qa0 "take"=qa0 "if")=False:=ω
def DM:(qa0 "take"=qa0 "go")=False:=ω
def BF:(qa0 "take"=qa0 "end")=False:=ω
def BG:(qa0 "lay"=qa0 "copy")=False:=ω
def El:(qa0 "lay"=qa0 "op")=False:=ω
def BH:(qa0 "lay"=qa0 "load")=False:=ω
def AD:(qa0 "lay"=qa0 "store")=False:=ω
def BJ:(qa0 "lay"=qa0 "take")=False:=ω
def BK:(qa0 "lay"=qa0 "hear")=False:=ω
def DN:(qa0 "lay"=qa0 "say")=False:=ω
def Em:(qa0 "lay"=qa0 "if")=False:=ω
def Eo:(qa0 "lay"=qa0 "go")=False:=ω
def DQ:(qa0 "lay"=qa0 "end")=False:=ω
def AE:(qa0 "hear"=qa0 "copy")=False:=ω
def DR:(qa0 "hear"=qa0 "op")=False:=ω
def AF:(qa0 "hear"=qa0 "load")=False:=ω
def zb:(qa0 "hear"=qa0 "store")=False:=ω
def AG:(qa0 "hear"=qa0 "take")=False:=ω
def BL:(qa0 "hear"=qa0 "lay")=False:=ω
def BM:(qa0 "hear"=qa0 "say")=False:=ω
def DU:(qa0 "hear"=qa0 "if")=False:=ω
def DV:(qa0 "hear"=qa0 "go")=False:=ω
def BN:(qa0 "hear"=qa0 "end")=False:=ω
def AH:(qa0 "say"=qa0 "store")=False:=ω
def Ep:(qa0 "say"=qa0 "if")=False:=ω
def Er:(qa0 "say"=qa0 "go")=False:=ω
def DX:(qa0 "say"=qa0 "end")=False:=ω
def BO:(qa0 "if"=qa0 "store")=False:=ω
def Fv:(qa0 "if"=qa0 "go")=False:=ω
def Es:(qa0 "if"=qa0 "end")=False:=ω
def BP:(qa0 "go"=qa0 "store")=False:=ω
def Et:(qa0 "go"=qa0 "end")=False:=ω
def AI:(qa0 "end"=qa0 "store")=False:=ω
def Eu:(qa0 "end"=qa0 "if")=False:=ω
def Ev:(qa0 "end"=qa0 "go")=False:=ω
variable{J5:η Str}
def xM{k:Str}:x∈fz J5 k↔x∈J5∨x=k:=by
 unfold fz;split
 .rename_i h;exact⟨.inl,fun z=>z.elim id fun e=>e▸h⟩
 .simp
theorem hJ:∀{ss J5:η Str},x∈ss.foldl fz J5↔x∈J5∨x∈ss
 |[],J5=>by simp
 |s::ss,J5=>by rw[qh6,hJ,xM,qa8,or_assoc]
variable{ss:η Str}
def onces_mem:x∈cb ss↔x∈ss:=by unfold cb;rw[hJ];simp
def rD{k:Str}(h:J5.Nodup):(fz J5 k).Nodup:=by
 unfold fz;split
 .exact h
 .rename_i hk;rw[ql0];exact⟨h,Ξ,fun a q b L e=>hk (by rw[qa4.mp L]at e;exact e▸q)⟩
theorem fT:∀{ss J5:η Str},J5.Nodup->(ss.foldl fz J5).Nodup
 |[],J5,h=>h
 |s::ss,J5,h=>by rw[qh6];exact fT (rD h)
def pY(ss:η Str):(cb ss).Nodup:=fT qu2
def Sd(l:η Str):Prop:=l.Pairwise fun a b=>leS a b=θ/\a≠b
def AJ(q:ss.Nodup):Sd (gA ss):=by
 have h1:=i9 ss;have h2:(gA ss).Pairwise fun a b=>a≠b:=(dL ss).nodup_iff.mpr q
 exact h1.and h2
def Sd.nodup{l:η Str}(h:Sd l):l.Nodup:=qt7 (fun z=>z.2) h
theorem xN:∀{l m:η Str},Sd l->Sd m->(∀x,x∈l↔x∈m)->l=m
 |[],[],_,_,_=>rfl
 |[],b::m,_,_,h=>by simpa using (h b).mpr (.head _)
 |a::l,[],_,_,h=>by simpa using (h a).mp (.head _)
 |a::l,b::m,U,W,h=>by
  have L:=qh4.mp U;have q:=qh4.mp W
  have e:a=b:=by
   rcases qa8.mp ((h a).mp (.head _))with z|z
   .exact z
   .rcases qa8.mp ((h b).mpr (.head _))with y|y
    .exact y.symm
    .exact pF (L.1 b y).1 (q.1 a z).1
  subst e;congr 1;refine xN L.2 q.2 fun x=>⟨fun O=>?_,fun O=>?_⟩
  .rcases qa8.mp ((h x).mp (.tail _ O))with z|z
   .exact absurd z.symm (L.1 x O).2
   .exact z
  .rcases qa8.mp ((h x).mpr (.tail _ O))with z|z
   .exact absurd z.symm (q.1 x O).2
   .exact z
theorem bW{α:Type}[DecidableEq α]:∀{l m:η α},l.Nodup->(∀x∈l,x∈m)->l.length<=m.length
 |[],m,_,_=>qi7 _
 |a::l,m,h,L=>by
  obtain⟨h1,h2⟩:=qi6.mp h;have q:a∈m:=L a (.head _);have:=bW (m:=m.erase a) h2 fun x O=>(List.mem_erase_of_ne (show x≠a from fun e=>h1 (by rw[<- e];exact O))).mpr (L x (.tail _ O))
  rw[List.length_erase_of_mem q]at this;have hp:=List.length_pos_of_mem q;rw[qd2];lia
def Fw{l m:η Str}(O:Sd l)(W:Sd m)(h:∀x∈l,x∈m)(Y:l≠m):l.length<m.length:=by
 by_cases z:∃x,x∈m/\x∉l
 .obtain⟨x,h1,h2⟩:=z
  have:=bW (l:=x::l) (m:=m) (qi6.mpr ⟨h2,O.nodup⟩) fun y L=>by
   rcases qa8.mp L with rfl|L
   .exact h1
   .exact h y L
  rw[qd2]at this;lia
 .exact absurd (xN O W fun x=>⟨h x,fun U=>qz0 fun q=>z ⟨x,U,q⟩⟩) Y
inductive Atm where
 |nm (x:Str)|vl (i:Int)
inductive Rw where
 |copy (x:Str) (a:Atm)|op (x s:Str) (a b:Atm)|load (x c:Str)|store (c:Str) (a:Atm)|take (x f:Str) (a:Atm)|lay (f:Str) (a b:Atm)|hear (x:Str)|say (a:Atm)|iff (a:Atm) (g:Nat)|go (g:Nat)|fin (a:Atm)
noncomputable def Rw.atoms:Rw->η Atm
 |.copy _ a=>[a]|.op _ _ a b=>[a,b]|.load _ _=>[]|.store _ a=>[a]|.take _ _ a=>[a]|.lay _ a b=>[a,b]|.hear _=>[]|.say a=>[a]|.iff a _=>[a]|.go _=>[]|.fin a=>[a]
def nms:η Atm->η Str
 |[]=>[]
 |.nm x::r=>x::nms r
 |.vl _::r=>nms r
def Rw.reads(r:Rw):η Str:=cb (nms r.atoms)
noncomputable def Rw.sets:Rw->ζ Str
 |.copy x _=>ς x|.op x _ _ _=>ς x|.load x _=>ς x|.take x _ _=>ς x|.hear x=>ς x
 |_=>ψ
noncomputable def Rw.outs(n:Nat):Rw->η Nat
 |.go g=>[g]|.iff _ g=>[g,n+1]|.fin _=>[]
 |_=>[n+1]
theorem om:∀l:η Atm,(nms l).length<=l.length
 |[]=>nL _
 |.nm x::r=>Nat.succ_le_succ (om r)
 |.vl _::r=>Nat.le_succ_of_le (om r)
def Rw.reads_len(r:Rw):r.reads.length<=2:=by
 have h1:=jJ (nms r.atoms);have h2:=om r.atoms;have h3:r.atoms.length<=2:=by cases r<;>simp[Rw.atoms]
 unfold Rw.reads;lia
def Rw.outs_len(r:Rw)(n:Nat):(r.outs n).length<=2:=by cases r<;>simp[Rw.outs]
def j7(r:Rw)(ls:η (η Str)):η Str:=ls.flatMap fun l=>l.filter fun b=>decide (r.sets≠ς b)
def NA(r:Rw)(ls:η (η Str)):η Str:=gA (cb (r.reads++j7 r ls))
def u6:x∈gA ss↔x∈ss:=(dL ss).mem_iff
variable{r:Rw}
def DY{ls:η (η Str)}{b:Str}:b∈NA r ls↔b∈r.reads∨(r.sets≠ς b/\∃l∈ls,b∈l):=by
 unfold NA j7;rw[u6,onces_mem,qe1,List.mem_flatMap];constructor
 .rintro(h|⟨l,L,q⟩)
  .exact .inl h
  .rw[qg4,decide_eq_true_eq]at q;exact .inr ⟨q.2,l,L,q.1⟩
 .rintro(h|⟨h,l,L,q⟩)
  .exact .inl h
  .exact .inr ⟨l,L,qg4.mpr ⟨q,decide_eq_true_eq.mpr h⟩⟩
def Fx(r:Rw)(ls:η (η Str)):Sd (NA r ls):=AJ (pY _)
inductive Needs(J0:List Rw):Nat->Str->Prop
 |here {i:Nat} {r:Rw} {b:Str}:J0[i]?=ς r->b∈r.reads->Needs J0 i b
 |on {i j:Nat} {r:Rw} {b:Str}:J0[i]?=ς r->r.sets≠ς b->j∈r.outs i->Needs J0 j b->Needs J0 i b
def nw(J0:η Rw)(J3:η (η Str))(i:Nat):η Str:=match J0[i]? with
 |some r=>NA r ((r.outs i).map fun j=>J3.getD j [])
 |none=>[]
variable{J0:η Rw}
def rE{J3:η (η Str)}{i:Nat}{b:Str}(h:J0[i]?=ς r):b∈nw J0 J3 i↔b∈r.reads∨(r.sets≠ς b/\∃j∈r.outs i,b∈J3.getD j []):=by
 unfold nw;rw[h];show b∈NA r _↔_;rw[DY];simp only[qb8];constructor
 .rintro(h|⟨h,l,⟨j,L,rfl⟩,q⟩)
  .exact .inl h
  .exact .inr ⟨h,j,L,q⟩
 .rintro(h|⟨h,j,L,q⟩)
  .exact .inl h
  .exact .inr ⟨h,_,⟨j,L,rfl⟩,q⟩
def BQ(J0:η Rw)(J3:η (η Str))(i:Nat):Sd (nw J0 J3 i):=by
 unfold nw;split
 .exact Fx _ _
 .exact qq1
def oo{α:Type}{l:η (η α)}{j:Nat}{b:α}(h:b∈l.getD j []):∃m,l[j]?=ς m/\b∈m:=by
 rw[qb5]at h;cases q:l[j]? with
 |none=>rw[q]at h;simp at h
 |some m=>rw[q]at h;exact⟨m,rfl,h⟩
def oq{α:Type}{l:η (η α)}{j:Nat}{m:η α}(h:l[j]?=ς m):l.getD j []=m:=by rw[qb5,h];rfl
structure Fnd(J0:List Rw)(B:List Str)(J3:List (List Str)):Prop where
 len:J3.length=J0.length
 sd:∀(i:Nat)(l:List Str),J3[i]?=ς l->Sd l
 sub:∀(i:Nat)(l:List Str)(b:Str),J3[i]?=ς l->b∈l->b∈B
 nd:∀(i:Nat)(l:List Str)(b:Str),J3[i]?=ς l->b∈l->Needs J0 i b
 inc:∀(i:Nat)(l:List Str)(b:Str),J3[i]?=ς l->b∈l->b∈nw J0 J3 i
def tot(J3:η (η Str)):Nat:=(J3.map qp2).sum
def Fnd.start{B:η Str}:Fnd J0 B (J0.map fun _=>[]):=by
 have L:∀(i:Nat)(l:η Str),(J0.map fun _=>([]:η Str))[i]?=ς l->l=[]:=fun i l h=>by rw[qb1]at h;obtain⟨r,_,e⟩:=mS h;exact e.symm
 refine⟨Ξ,fun i l h=>?_,fun i l b h q=>?_,fun i l b h q=>?_,fun i l b h q=>?_⟩
 .rw[L i l h];exact qq1
 all_goals (rw[L i l h]at q;cases q)
section
variable{J0:η Rw}{B:η Str}{J3:η (η Str)}
def tE{f g:η (η Str)}(h:∀j b,b∈f.getD j []->b∈g.getD j []){i:Nat}{b:Str}(L:b∈nw J0 f i):b∈nw J0 g i:=by
 cases q:J0[i]? with
 |none=>unfold nw at L;rw[q]at L;cases L
 |some r=>rw[rE q]at L ⊢;exact L.imp id fun⟨h1,j,O,L⟩=>⟨h1,j,O,h j b L⟩
def Fnd.step(F:Fnd J0 B J3)(Z:∀(i:Nat)(r:Rw)(b:Str),J0[i]?=ς r->b∈r.reads->b∈B){i:Nat}(hi:i<J0.length):Fnd J0 B (J3.set i (nw J0 J3 i)):=by
 have O:i<J3.length:=by rw[F.len];exact hi
 obtain⟨r,U⟩:∃r,J0[i]?=ς r:=⟨J0[i],by simp[hi]⟩
 have mono:∀j b,b∈J3.getD j []->b∈(J3.set i (nw J0 J3 i)).getD j []:=fun j b q=>by
  obtain⟨m,L,W⟩:=oo q;by_cases e:i=j
  .subst e;rw[oq (qf6 O)];exact F.inc i m b L W
  .rw[oq (l:=J3.set i (nw J0 J3 i)) (m:=m) (by rw[gN e];exact L)];exact W
 refine⟨by simp[F.len],fun j l h=>?_,fun j l b h q=>?_,fun j l b h q=>?_,fun j l b h q=>?_⟩
 .by_cases e:i=j
  .subst e;rw[qf6 O]at h;cases h;exact BQ _ _ _
  .rw[gN e]at h;exact F.sd j l h
 .by_cases e:i=j
  .subst e;rw[qf6 O]at h;cases h;rcases(rE U).mp q with z|⟨_,j,_,z⟩
   .exact Z i r b U z
   .obtain⟨m,L,q⟩:=oo z;exact F.sub j m b L q
  .rw[gN e]at h;exact F.sub j l b h q
 .by_cases e:i=j
  .subst e;rw[qf6 O]at h;cases h;rcases(rE U).mp q with z|⟨h1,j,Y,z⟩
   .exact .here U z
   .obtain⟨m,L,q⟩:=oo z;exact .on U h1 Y (F.nd j m b L q)
  .rw[gN e]at h;exact F.nd j l b h q
 .by_cases e:i=j
  .subst e;rw[qf6 O]at h;cases h;exact tE mono q
  .rw[gN e]at h;exact tE mono (F.inc j l b h q)
theorem tF:∀{J3:η (η Str)}{i:Nat}{l m:η Str},J3[i]?=ς l->tot (J3.set i m)+l.length=tot J3+m.length
 |[],i,l,m,h=>by simp at h
 |x::f,0,l,m,h=>by simp at h;subst h;simp only[tot,qs5,qa6,qt1];lia
 |x::f,i+1,l,m,h=>by have:=tF (J3:=f) (i:=i) (l:=l) (m:=m) (by simpa using h);simp only[tot,qs6,qa6,qt1]at this ⊢;lia
theorem tot_le:∀{J3:η (η Str)},(∀l∈J3,l.length<=n)->tot J3<=J3.length*n
 |[],_=>by simp[tot]
 |x::f,h=>by
  have:=tot_le (J3:=f) fun l q=>h l (.tail _ q)
  have h1:=h x (.head _);simp only[tot,qa6,qt1,qd2,zj4]at this ⊢;lia
def Fnd.short(F:Fnd J0 B J3){i:Nat}{l:η Str}(h:J3[i]?=ς l):l.length<=B.length:=bW (F.sd i l h).nodup fun b q=>F.sub i l b h q
def Fnd.tot_le(F:Fnd J0 B J3):tot J3<=J0.length*B.length:=by
 rw[<- F.len];refine L2.tot_le fun l q=>?_
 obtain⟨i,h⟩:=qk3 q;exact F.short h
def Fnd.more(F:Fnd J0 B J3){i:Nat}{l:η Str}(h:J3[i]?=ς l)(L:nw J0 J3 i≠l):tot J3<tot (J3.set i (nw J0 J3 i)):=by have h1:=tF (m:=nw J0 J3 i) h;have h2:=Fw (F.sd i l h) (BQ J0 J3 i) (fun x q=>F.inc i l x h q) (qq5 L);lia
def Fix(J0:η Rw)(J3:η (η Str)):Prop:=∀(i:Nat)(l:η Str),J3[i]?=ς l->nw J0 J3 i=l
end
noncomputable def Atm.d:Atm->Dt
 |.nm x=>.str x
 |.vl i=>.int i
def Rw.d:Rw->Dt
 |.copy x a=>.t [.str "copy",.str x,a.d]
 |.op x s a b=>.t [.str "op",.str x,.str s,a.d,b.d]
 |.load x c=>.t [.str "load",.str x,.str c]
 |.store c a=>.t [.str "store",.str c,a.d]
 |.take x f a=>.t [.str "take",.str x,.str f,a.d]
 |.lay f a b=>.t [.str "lay",.str f,a.d,b.d]
 |.hear x=>.t [.str "hear",.str x]
 |.say a=>.t [.str "say",a.d]
 |.iff a g=>.t [.str "if",a.d,.int g]
 |.go g=>.t [.str "go",.int g]
 |.fin a=>.t [.str "end",a.d]
def dI(j:Nat):Dt:=.int (j:Int)
noncomputable def dS(l:η Str):Dt:=.e (l.map .str)
def dF(f:η (η Str)):Dt:=.e (f.map dS)
def dR(J0:η Rw):Dt:=.t (J0.map Rw.d)
theorem bw{α:Type}{f h:α->Dt}:∀{l:η α},(∀a∈l,∃ δ1,bb (f a) δ=ς δ1/\ft δ1=ς θ/\fe δ1=ς (h a))->bE bb ft fe δ (l.map f)=ς (l.map h)
 |[],_=>rfl
 |a::l,q=>by obtain⟨δ1,h1,h2,h3⟩:=q a qe7;rw[qa6];unfold bE;rw[h1,qa3,h2,qa3,if_pos rfl,h3,qa3,bw fun e L=>q e (qd5 _ L)];rfl
theorem bZ{α:Type}{f h:α->Dt}{p:α->Bool}:∀{l:η α},(∀a∈l,∃ δ1,bb (f a) δ=ς δ1/\ft δ1=ς (p a)/\(p a=θ->fe δ1=ς (h a)))->bE bb ft fe δ (l.map f)=ς ((l.filter p).map h)
 |[],_=>rfl
 |a::l,q=>by
  obtain⟨δ1,h1,h2,h3⟩:=q a qe7;have L:=bZ (l:=l) fun e O=>q e (qd5 _ O)
  rw[qa6];unfold bE;rw[h1,qa3,h2,qa3];cases hp:p a with
  |true=>rw[if_pos rfl,h3 hp,qa3,L,List.filter_cons_of_pos hp];rfl
  |false=>rw[if_neg Ξ,L,List.filter_cons_of_neg (by simp[hp])]
theorem u7{α:Type}{f:α->Dt}:∀(l:η α)(i:Nat),de i (l.map f)=(l.mapIdx fun k a=>Dt.t [.int ((i+k:Nat):Int),f a])
 |[],_=>rfl
 |a::l,i=>by rw[qa6,de,u7 l (i+1),zc5];congr 1;congr 1;funext k a;rw[show i+1+k=i+(k+1)by lia]
theorem lM{α:Type}{f:α->Dt}{h:Nat->α->Dt}:∀{l:η α}(i:Nat),(∀k a,∃ δ1,bb (.t [.int ((k:Nat):Int),f a]) δ=ς δ1/\fe δ1=ς (h k a))->bE bb bh fe δ (de i (l.map f))=ς (l.mapIdx fun k a=>h (i+k) a)
 |[],_,_=>rfl
 |a::l,i,q=>by obtain⟨δ1,h1,h3⟩:=q i a;rw[qa6,de];unfold bE;rw[h1,qa3];show((fe δ1).bind fun y=>_)=_;rw[h3,qa3,lM (i+1) q,zc5];show ς _=ς _;congr 1;congr 1;congr 1;funext k a;rw[show i+1+k=i+(k+1)by lia]
def eU(l:η Str):(l.map Dt.str).all cG=θ:=by rw[qk1];intro x q;obtain⟨y,_,rfl⟩:=qb8.mp q;rfl
def tG(l:η Str)(x:Str):((l.map Dt.str).any fun y=>eqF y (.str x))=decide (x∈l):=by
 induction l with
 |nil=>rfl
 |cons a l q=>
  rw[qa6,qk6,q,show eqF (.str a) (.str x)=decide (a=x)from rfl];by_cases h:a=x
  .simp[h]
  .have:¬ x=a:=fun z=>h z.symm
   simp[h,this]
def gIn_strs{l:η Str}:bJ neg (.str x) (.e (l.map .str))=ς (.f (.bl (if neg then !decide (x∈l)else decide (x∈l)))):=by rw[Fn (by rw[eU];rfl),tG]
def pZ{l:η Str}(h:l.length<64):jc [.e (l.map .str)]=ς (.e ((gA (cb l)).map .str)):=by unfold jc u0;dsimp only;rw[lJ,qa3,if_pos ⟨Θ,qy5 (jJ l) h⟩]
def extL(l m:η Dt)(i:Nat)(δ:De):ζ Out:=if l.length+m.length<=qb2 then ς (.nx (δ.set i (ς (.e (l++m)))))else ψ
def tH{i:Nat}(h:l.length+m.length<=1000000):extL l m i δ=ς (.nx (δ.set i (ς (.e (l++m))))):=if_pos (small h)
def BR{i:Nat}{f:De->ζ T}(h:δ[i]?=ς (ς (.e l)))(q:f δ=ς (.e m)):q57 i f δ=extL l m i δ:=by unfold q57;rw[h];dsimp only;rw[q];rfl
theorem nj:∀{l m:η Str},peqs (l.map .str) (m.map .str)=decide (l=m)
 |[],[]=>rfl
 |[],_::_=>rfl
 |_::_,[]=>rfl
 |a::l,b::m=>by rw[qa6,qa6];show(decide (a=b)&&peqs (l.map .str) (m.map .str))=_;rw[nj];by_cases h1:a=b<;>by_cases h2:l=m<;>simp[h1,h2]
def xO{l m:η Str}:gEq neg (.e (l.map .str)) (.e (m.map .str))=ς (.f (.bl (if neg then !decide (l=m)else decide (l=m)))):=by rw[xL (eU l) (eU m),nj]
def aP{i:Nat}{f:De->ζ T}{t:T}(h:f δ=ς t):ap i f δ=ς (.nx (δ.set i (ς t))):=by unfold ap;rw[h];rfl
def jO(h:c δ=ς θ):sIf c g1 g2 δ=g1 δ:=by unfold sIf;rw[h];rfl
def mi(h:c δ=ς ξ):sIf c g1 g2 δ=g2 δ:=by unfold sIf;rw[h];rfl
def kF(h:c δ=ς θ)(q:g δ=ς (.nx δ1)):bp c g (n+1) δ=bp c g n δ1:=by
 conv=>lhs;unfold bp
 rw[h,qa3,if_pos rfl,q];rfl
def xP{t:T}(h:c δ=ς θ)(q:g δ=ς (.rt t)):bp c g (n+1) δ=ς (.rt t):=by
 conv=>lhs;unfold bp
 rw[h,qa3,if_pos rfl,q];rfl
def ou(h:c δ=ς ξ):bp c g (n+1) δ=ς (.nx δ):=by
 conv=>lhs;unfold bp
 rw[h];rfl
def kG{m:Nat}{t:T}(h:g (ds.map (fun d=>ς (T.f d))++qc1 (m-ds.length) ψ)=ς (.rt t)):bH m g ds=ς t:=by unfold bH;rw[h]
def DZ{k:Nat}(h:k<n):ixN n (k:Int)=ς k:=by unfold ixN;rw[if_pos Θ,if_pos Θ];simp
variable{fk:De->ζ Dt}
def xQ{i k:Nat}{d:Dt}(h:δ[i]?=ς (ς (.e l)))(hk:fk δ=ς (dI k))(q:fe δ=ς d)(L:k<l.length):l9 i fk fe δ=ς (.nx (δ.set i (ς (.e (l.set k d))))):=by
 unfold l9 dI at*
 rw[q,hk,qa3,qa3,h];simp only[Fp,qa3,DZ L,qm8]
def lN{i:Nat}{d:Dt}(h:δ[i]?=ς (ς (.e l)))(q:f δ=ς d)(L:l.length<1000000):y13 i f δ=ς (.nx (δ.set i (ς (.e (l++[d]))))):=by unfold y13;rw[h];dsimp only;rw[q,qa3,if_pos (lI L)]
def u8(h:n<=1000):uR [.int ((n:Int)-1),.int (-1),.int (-1)]=ς (((qd0 n).map fun i=>n-1-i).map dI):=by
 unfold uR
 have e:(qd3 ((n:Int)-1) (-1) (-1)).toNat=n:=by
  unfold qd3;rw[if_neg Ω];by_cases q:(n:Int)-1 > -1
  .rw[if_pos q];have:((n:Int)-1 - -1-1)/(- -1)=(n:Int)-1:=by rw[show(- -1:Int)=1 by decide,Int.ediv_one];lia
   rw[this];lia
  .rw[if_neg q];lia
 dsimp only;rw[if_pos (show wU ((n:Int)-1) (-1) (-1)=θ by unfold wU;simp;lia),e];congr 1;unfold qT;rw[qc6];refine qx2 fun i hi=>?_
 have:=qe9.mp hi;show Dt.int _=Dt.int ((n-1-i:Nat):Int);congr 1;lia
section
variable{α:Type}[DecidableEq α]
abbrev CF(α:Type):=η (α×ζ α)
noncomputable def ks(q:CF α):η α:=q.map (·.1)
def iH(h:α)(q:CF α)(t:α):CF α:=if t∈ks q then q else q++[(t,ς h)]
def cR(h:α)(q:CF α)(ts:η α):CF α:=ts.foldl (iH h) q
def bfs(beh:α->η α)(fit:α->Bool):Nat->CF α->Nat->η (η α)->ζ (ζ α×CF α×η (η α))
 |0,_,_,_=>ψ
 |n+1,q,k,J=>match q[k]? with
  |none=>ς (ψ,q,J)
  |some (h,_)=>if fit h then ς (ς h,q,J)else bfs beh fit n (cR h q (beh h)) (k+1) (J++[beh h])
def bQ(q:CF α)(s:α):CF α:=if s∈ks q then q else q++[(s,ψ)]
structure BI(beh:α->List α)(fit:α->Bool)(J4:List α)(cf:CF α)(k:Nat):Prop where
 nd:(ks cf).Nodup
 sub:∀s∈J4,s∈ks cf
 par:∀(i:Nat)(t p:α),cf[i]?=ς (t,ς p)->∃j q,j<i/\cf[j]?=ς (p,q)/\t∈beh p/\fit p=ξ
 st:∀(i:Nat)(t:α),cf[i]?=ς (t,ψ)->t∈J4
 done:∀(i:Nat)(t:α)(q:Option α),i<k->cf[i]?=ς (t,q)->fit t=ξ/\∀u∈beh t,u∈ks cf
variable{beh:α->η α}{fit:α->Bool}{J4:η α}
def fH(q cf':CF α):ks (q++cf')=ks q++ks cf':=qf5
def ii{L:CF α}{t:α}(h:t∈ks L):∃(i:Nat)(q:ζ α),L[i]?=ς (t,q):=by obtain⟨p,hp,rfl⟩:=qb8.mp h;obtain⟨i,hi,e⟩:=List.getElem_of_mem hp;exact⟨i,p.2,by rw[gQ hi,e]⟩
def ij{cf:CF α}{t:α}{i:Nat}{q:ζ α}(h:cf[i]?=ς (t,q)):t∈ks cf:=qb8.mpr ⟨(t,q),qc8 h,rfl⟩
theorem dN(h:α):∀(ts:η α)(cf:CF α),∃e,cR h cf ts=cf++e/\(∀p∈e,p.2=ς h/\p.1∈ts)/\((ks cf).Nodup->(ks (cR h cf ts)).Nodup)/\∀t∈ts,t∈ks (cR h cf ts)
 |[],cf=>⟨[],by simp[cR],Ξ,fun z=>z,Ξ⟩
 |t::ts,cf=>by
  obtain⟨e,h1,h2,h3,Z⟩:=dN h ts (iH h cf t);have e0:cR h cf (t::ts)=cR h (iH h cf t) ts:=rfl;rw[e0]
  have U:t∈ks (cR h (iH h cf t) ts):=by
   rw[h1,fH];refine qf0 _ ?_;unfold iH;split
   .assumption
   .rw[fH];exact qc7 _ (by simp[ks])
  have L:∀u∈t::ts,u∈ks (cR h (iH h cf t) ts):=fun u O=>by
   rcases qa8.mp O with rfl|O
   .exact U
   .exact Z u O
  by_cases q:t∈ks cf
  .have:iH h cf t=cf:=if_pos q;rw[this]at h1 h3 ⊢;refine⟨e,h1,fun p hp=>⟨(h2 p hp).1,qd5 _ (h2 p hp).2⟩,h3,?_⟩;rw[this]at L;exact L
  .have:iH h cf t=cf++[(t,ς h)]:=if_neg q;rw[this]at h1 h3 ⊢;refine⟨(t,ς h)::e,by rw[h1,qj5];rfl,fun p hp=>?_,fun nd=>h3 ?_,?_⟩
   .rcases qa8.mp hp with rfl|hp
    .exact⟨rfl,qe7⟩
    .exact⟨(h2 p hp).1,qd5 _ (h2 p hp).2⟩
   .rw[fH];refine ql0.mpr ⟨nd,by simp[ks],fun a Y b W=>?_⟩;simp[ks]at W;subst W;rintro rfl;exact q Y
   .rw[this]at L;exact L
def BI.step{L:CF α}{k:Nat}{h:α}{q:ζ α}(B:BI beh fit J4 L k)(hk:L[k]?=ς (h,q))(hf:fit h=ξ):BI beh fit J4 (cR h L (beh h)) (k+1):=by
 obtain⟨e,h1,h2,h3,h4⟩:=dN h (beh h) L
 have keep:∀{i:Nat}{x:α×ζ α},L[i]?=ς x->(cR h L (beh h))[i]?=ς x:=fun {i x} z=>by rw[h1,qb4 (gX z).1];exact z
 have O:∀{i:Nat}{x:α×ζ α},(cR h L (beh h))[i]?=ς x->L[i]?=ς x∨(x.2=ς h/\x.1∈beh h/\L.length<=i):=fun {i x} z=>by
  rw[h1]at z;by_cases hi:i<L.length
  .rw[qb4 hi]at z;exact .inl z
  .rw[gR Θ]at z;have:=h2 _ (qc8 z);exact .inr ⟨this.1,this.2,Θ⟩
 have U:∀{t:α},t∈ks L->t∈ks (cR h L (beh h)):=fun {t} z=>by rw[h1,fH];exact qf0 _ z
 refine⟨h3 B.nd,fun s hs=>U (B.sub s hs),fun i t p z=>?_,fun i t z=>?_,fun i t W hi z=>?_⟩
 .rcases O z with z|⟨z1,z2,z3⟩
  .obtain⟨j,W,g1,g2,g3⟩:=B.par i t p z;exact⟨j,W,g1,keep g2,g3⟩
  .cases z1;exact⟨k,q,qc2 (gX hk).1 z3,keep hk,z2,hf⟩
 .rcases O z with z|⟨z1,_,_⟩
  .exact B.st i t z
  .cases z1
 .have hk':=(gX hk).1;rcases O z with z|⟨_,_,z3⟩
  .by_cases Z:i=k
   .subst Z;rw[hk]at z;cases z;exact⟨hf,fun u Y=>h4 u Y⟩
   .obtain⟨g1,g2⟩:=B.done i t W Θ z;exact⟨g1,fun u Y=>U (g2 u Y)⟩
  .lia
def lO{U:η α}{h:α}{ts:η α}{q:CF α}(O:∀t∈ks q,t∈U)(L:∀t∈ts,t∈U):∀t∈ks (cR h q ts),t∈U:=fun t z=>by
 obtain⟨e,h1,h2,_,_⟩:=dN h ts q;rw[h1,fH]at z;rcases qe1.mp z with z|z
 .exact O t z
 .obtain⟨p,hp,rfl⟩:=qb8.mp z;exact L _ (h2 p hp).2
theorem p5 {U:η α} (Z:∀ t∈U,∀ u∈beh t,u∈U):∀ (n:Nat) (L:CF α) (k:Nat) (J:η (η α)),BI beh fit J4 L k->(∀ t∈ks L,t∈U)->k<=L.length->U.length<n+k→
  ∃f O J' k',bfs beh fit n L k J=ς (f,O,J')/\BI beh fit J4 O k'/\(∀t∈ks O,t∈U)/\(f=ψ->k'=O.length)/\∀h,f=ς h->fit h=θ/\h∈ks O
 |0,L,k,J,B,W,hk,hn=>by have:=bW B.nd W;rw[show(ks L).length=L.length from qa1 ..]at this;lia
 |n+1,L,k,J,B,W,hk,hn=>by
  unfold bfs;cases q:L[k]? with
  |none=>have:=qh7.mp q;exact⟨ψ,L,J,k,rfl,B,W,fun _=>Θ,fun h z=>nomatch z⟩
  |some x=>
   obtain⟨h,p⟩:=x;dsimp only;cases Y:fit h with
   |true=>exact⟨ς h,L,J,k,rfl,B,W,fun z=>(nomatch z),fun h' z=>by cases z;exact⟨Y,ij q⟩⟩
   |false=>have hk':=(gX q).1;obtain⟨e,h1,_⟩:=dN h (beh h) L;exact p5 Z n _ (k+1) _ (B.step q Y) (lO W (Z h (W h (ij q)))) (by rw[h1,qc0];lia) Θ
def BI.start:BI beh fit J4 (J4.foldl bQ []) 0:=by
 have W:∀(ss:η α)(L:CF α),(ks L).Nodup->(∀p∈L,p.2=ψ/\p.1∈J4)->(∀s∈ss,s∈J4)->(ks (ss.foldl bQ L)).Nodup/\(∀p∈ss.foldl bQ L,p.2=ψ/\p.1∈J4)/\∀s,(s∈ss∨s∈ks L)->s∈ks (ss.foldl bQ L):=fun ss=>by
  induction ss with
  |nil=>intro L h1 h2 _;exact⟨h1,h2,fun s U=>U.elim (fun z=>nomatch z) id⟩
  |cons s ss ih=>
   intro L h1 h2 h3;rw[qh6]
   have U:s∈ks (bQ L s):=by
    unfold bQ;split
    .assumption
    .rw[fH];exact qc7 _ (by simp[ks])
   have hm:∀t∈ks L,t∈ks (bQ L s):=fun t O=>by
    unfold bQ;split
    .exact O
    .rw[fH];exact qf0 _ O
   obtain⟨a,b,c⟩:=ih (bQ L s) (by
    unfold bQ;split
    .exact h1
    .rename_i q;rw[fH];refine ql0.mpr ⟨h1,by simp[ks],fun a Z b Y=>?_⟩;simp[ks]at Y;subst Y;rintro rfl;exact q Z) (fun p hp=>by
    unfold bQ at hp;split at hp
    .exact h2 p hp
    .rcases qe1.mp hp with hp|hp
     .exact h2 p hp
     .cases qa4.mp hp;exact⟨rfl,h3 _ qe7⟩) fun t O=>h3 t (qd5 _ O)
   refine⟨a,b,fun t O=>c t ?_⟩;rcases O with O|O
   .rcases qa8.mp O with rfl|O
    .exact .inr U
    .exact .inl O
   .exact .inr (hm t O)
 obtain⟨a,b,c⟩:=W J4 [] (by simp[ks]) Ξ fun s U=>U
 exact⟨a,fun s U=>c s (.inl U),fun i t p z=>(by have:=(b _ (qc8 z)).1;cases this),fun i t z=>(b _ (qc8 z)).2,fun i t q hi=>Θ⟩
noncomputable def look(q:CF α)(t:α):ζ (ζ α):=(q.find? fun p=>decide (p.1=t)).map (·.2)
theorem oy:∀{L:CF α}{i:Nat}{t:α}{q:ζ α},(ks L).Nodup->L[i]?=ς (t,q)->look L t=ς q
 |[],i,t,q,_,h=>by simp at h
 |p::L,0,t,q,O,h=>by simp at h;subst h;simp[look]
 |p::L,i+1,t,q,O,h=>by
  have h:L[i]?=ς (t,q):=by simpa using h
  have O:(p.1::ks L).Nodup:=O;have U:p.1≠t:=fun z=>(qi6.mp O).1 (z▸ij h)
  have:=oy (qi6.mp O).2 h;unfold look at this ⊢;rw[zd4 (by simpa using U)];exact this
inductive Tr(cf:CF α):α->List α->Prop
 |one {t:α} (h:look cf t=ς ψ):Tr cf t [t]
 |more {t p:α} {r:List α} (h:look cf t=ς (ς p)) (r':Tr cf p r):Tr cf t (t::r)
inductive Wy(beh:α->List α)(fit:α->Bool)(J4:List α):α->List α->Prop
 |one {t:α} (h:t∈J4):Wy beh fit J4 t [t]
 |more {t p:α} {r:List α} (h:t∈beh p) (hf:fit p=ξ) (w:Wy beh fit J4 p r):Wy beh fit J4 t (t::r)
def BI.trace{L:CF α}{k:Nat}(B:BI beh fit J4 L k):∀(i:Nat)(t:α)(q:ζ α),L[i]?=ς (t,q)->∃r,Tr L t r/\Wy beh fit J4 t r/\r.length<=i+1:=fun i=>by
 induction i using Nat.strongRecOn with
 |ind i O=>
  intro t q h;cases q with
  |none=>exact⟨[t],.one (oy B.nd h),.one (B.st i t h),Ξ⟩
  |some p=>obtain⟨j,W,h1,h2,h3,U⟩:=B.par i t p h;obtain⟨r,g1,g2,Y⟩:=O j h1 p W h2;exact⟨t::r,.more (oy B.nd h) g1,.more h3 U g2,by simp;lia⟩
inductive Rch(beh:α->List α)(J4:List α):α->Prop
 |one {t:α} (h:t∈J4):Rch beh J4 t
 |more {t p:α} (w:Rch beh J4 p) (h:t∈beh p):Rch beh J4 t
def BI.none{cf:CF α}(B:BI beh fit J4 cf cf.length){t:α}(h:Rch beh J4 t):fit t=ξ:=by
 have L:t∈ks cf:=by
  induction h with
  |one h=>exact B.sub _ h
  |more w h O=>obtain⟨i,q,e⟩:=ii O;exact(B.done i _ q (gX e).1 e).2 _ h
 obtain⟨i,q,e⟩:=ii L;exact(B.done i t q (gX e).1 e).1
end
inductive Mrk where
 |fresh|seen|safe|spoilt
deriving DecidableEq
noncomputable def Rw.gets:Rw->Str->Bool
 |.load _ c,nm=>decide (c=nm)|.take _ f _,nm=>decide (f=nm)
 |_,_=>ξ
def Rw.puts:Rw->Str->Bool
 |.store c _,nm=>decide (c=nm)|.lay f _ _,nm=>decide (f=nm)
 |_,_=>ξ
def Rw.stores:Rw->Str->Bool
 |.store c _,nm=>decide (c=nm)
 |_,_=>ξ
def mb:Mrk->Rw->Str->Mrk
 |.fresh,r,nm=>if r.gets nm then .seen else if r.stores nm then .safe else .fresh
 |.seen,r,nm=>if r.puts nm then .spoilt else .seen
 |m,_,_=>m
section
variable(J0:η Rw)(kept:η Nat)(nm:Str)
def ir(t:Nat×Mrk):η (Nat×Mrk):=match J0[t.1]? with
 |none=>[]
 |some r=>if mb t.2 r nm=.safe then []else((r.outs t.1).filter fun w=>!decide (w∈kept)).map fun w=>(w,mb t.2 r nm)
def hW(t:Nat×Mrk):Bool:=match J0[t.1]? with
 |none=>ξ
 |some r=>decide (mb t.2 r nm=.spoilt)
def cW:η (Nat×Mrk):=(0::kept).map fun k=>(k,.fresh)
end
section
variable{J0:η Rw}{kept:η Nat}{nm:Str}
def u9{m:Mrk}(h:mb m r nm=.spoilt):m=.spoilt∨(m=.seen/\r.puts nm=θ):=by
 cases m with
 |fresh=>simp only[mb]at h;split at h<;>(try split at h)<;>cases h
 |seen=>
  simp only[mb]at h;cases h1:r.puts nm<;>simp[h1]at h
  exact .inr ⟨rfl,rfl⟩
 |safe=>cases h
 |spoilt=>exact .inl rfl
end
section
variable{J0:η Rw}{kept:η Nat}{nm:Str}
def lP{t u:Nat×Mrk}(h:u∈ir J0 kept nm t):∃r,J0[t.1]?=ς r/\mb t.2 r nm≠.safe/\u.1∈r.outs t.1/\u.1∉kept/\u.2=mb t.2 r nm:=by
 unfold ir at h;split at h
 .cases h
 .rename_i r e;split at h
  .cases h
  .rename_i q;obtain⟨w,L,rfl⟩:=qb8.mp h;obtain⟨h1,h2⟩:=qg4.mp L;exact⟨r,e,q,h1,by simpa using h2,rfl⟩
end
def TRb:De->ζ Out:=(ai (y13 2 (vL 3)) (ap 3 (toT (toD (d2 u1 (vB 0) (vB 3))))))
def TRc:De->ζ Bool:=(tB2 (gIs θ) (vB 3) (kD .non))
def TRf:η Dt->ζ T:=bH 4 ((ai (ap 2 (aR af)) (ai (ap 3 (toT (vL 1))) (ai (bp TRc TRb 100000) (aV (vLR (vB 2)))))))
def RT0:De->ζ Out:=(lx 3 (vB 4) (kD .non))
def RT1:De->ζ Out:=(sIf (xu (vB 8) (vB 3)) (ai (lx 3 (vB 8) (vL 7)) (y13 5 (vL 8))) bo)
def RT2(G:Orc):De->ζ Out:=(ai (ap 7 (toT (toD (d2 ah (vB 5) (vB 6))))) (ai (uH (fun i j=>i+j) 6 (kD (.int 1))) (ai (sIf (cF (toD (vCl G 2 (aa (vL 7) af)))) (wt 3 (aV (ag TRf (aa (vL 3) (aa (vL 7) af))))) bo) (cV (fIt (toD (vCl G 1 (aa (vL 7) af)))) (am 8) RT1))))
def RTc:De->ζ Bool:=(tB2 (f9 fun i j=>decide (i<j)) (vB 6) (toD (ag bz (aa (vB 5) af))))
def RTf(G:Orc):Dt->J9->J9->Hp->ζ T:=uL 9 ((ai (ap 3 rm) (ai (cV (fIt (vL 0)) (am 4) RT0) (ai (ap 5 (ag ly (aa (vB 3) af))) (ai (ap 6 (toT (kD (.int 0)))) (ai (bp RTc (RT2 G) 100000) (aV (toT (kD .non)))))))))
def D0{g:Dt->Dt->ζ T}{fa fb:De->ζ Dt}{x y:Dt}(h1:fa δ=ς x)(h2:fb δ=ς y)(h:g x y=ς (.f (.bl b))):tB2 g fa fb δ=ς b:=by unfold tB2 d2;rw[h1,h2];show(g x y).bind asB=_;rw[h];rfl
theorem BS{i:Nat}{l:η (η Key×Dt)}{kd d:Dt}{k:η Key}(h:δ[i]?=ς (ς (.dcT l)))(hk:fk δ=ς kd)(q:isK kd=ς k)(L:fe δ=ς d)(O:l.length<1000000)(U:(l.map (·.1)).Nodup):lx i fk fe δ=ς (.nx (δ.set i (ς (.dcT (ki l k d))))):=by unfold lx;rw[L,hk,qa3,qa3,h];dsimp only;rw[q,qa3,if_pos ⟨lI O,U⟩]
variable{x4 x6:ζ T}
section
variable{α:Type}[DecidableEq α](ky:α->Int×Str)
noncomputable def nD(t:α):Dt:=.t [.int (ky t).1,.str (ky t).2]
def nK(t:α):η Key:=[.inl (ky t).1,.inr (ky t).2]
def pN:ζ α->Dt
 |none=>.non
 |some h=>nD ky h
def cfT(q:CF α):T:=.dcT (q.map fun p=>(nK ky p.1,pN ky p.2))
def cfD(q:CF α):Dt:=.dcT (q.map fun p=>nK ky p.1) (q.map fun p=>pN ky p.2)
def sT(q:CF α)(L:Dt)(J5:η α)(h:Dt):De:=[ς (.f (cfD ky q)),ς (.f L),ς (.e (J5.map (nD ky))),ς (.f h)]
def sR(st:Dt)(f1 f2:J9)(F0:Hp)(q:CF α)(x4 x6 O L:ζ T):De:=[ς (.f st),ς (.fn f1 F0),ς (.fn f2 F0),ς (cfT ky q),x4,ς (.e ((ks q).map (nD ky))),x6,O,L]
def sS(st:Dt)(f1 f2:J9)(F0:Hp)(q:CF α)(x4:ζ T):De:=[ς (.f st),ς (.fn f1 F0),ς (.fn f2 F0),ς (cfT ky q),x4,ψ,ψ,ψ,ψ]
variable{ky}(hk:∀a b,ky a=ky b->a=b)
def oz(hk:∀a b,ky a=ky b->a=b){a b:α}(h:nK ky a=nK ky b):a=b:=by unfold nK at h;simp only[List.cons.injEq,za8.injEq,qu8.injEq,and_true]at h;exact hk a b (Prod.ext h.1 h.2)
def xR(q:CF α):(cfT ky q).d=ς (cfD ky q):=by unfold cfT T.d;dsimp only;rw[qc6,qc6];rfl
include hk
theorem oA(t:α):∀q:CF α,dw (q.map fun p=>nK ky p.1) (q.map fun p=>pN ky p.2) (nK ky t)=(look q t).map (pN ky)
 |[]=>rfl
 |p::q=>by
  simp only[qa6,dw];unfold look;by_cases h:p.1=t
  .rw[if_pos (by rw[h]),List.find?_cons_of_pos (by simpa using h)];rfl
  .rw[if_neg fun z=>h (oz hk z),zd4 (by simpa using h),oA t q];rfl
def Fy(L:CF α)(t:α){q:ζ α}(h:look L t=ς q):u1 (cfD ky L) (nD ky t)=ς (.f (pN ky q)):=by show(dw (L.map fun p=>nK ky p.1) (L.map fun p=>pN ky p.2) (nK ky t)).map T.f=_;rw[oA hk,h];rfl
omit hk in
def FA(q:CF α)(t:α):(look q t).isSome=decide (t∈ks q):=by unfold look ks;rw[qq0,qj8,List.find?_isSome];simp
def AK {L:CF α} {U:Dt}:∀ {t:α} {ws:η α},Tr L t ws->∀ (n:Nat) (J5:η α),ws.length<n->J5.length+ws.length<100000→
  bp TRc TRb n (sT ky L U J5 (nD ky t))=ς (.nx (sT ky L U (J5++ws) .non)):=by
 intro t ws Z
 have one:∀(t:α)(J5:η α)(q:ζ α),look L t=ς q->J5.length<100000->TRb (sT ky L U J5 (nD ky t))=ς (.nx (sT ky L U (J5++[t]) (pN ky q))):=by
  intro t J5 q hq O;unfold TRb
  rw[ax (lN (l:=J5.map (nD ky)) (d:=nD ky t) rfl rfl (by rw[qa1];lia)),aP (t:=.f (pN ky q)) (by show((u1 (cfD ky L) (nD ky t)).bind T.d).map T.f=_;rw[Fy hk L t hq];rfl)]
  unfold sT;rw[qf5];rfl
 induction Z with
 |@one t h=>intro n J5 W O;obtain⟨n,rfl⟩:∃m,n=m+2:=⟨n-2,by simp at W;lia⟩;rw[kF rfl (one t J5 ψ h Θ)];exact ou rfl
 |@more t p r h r' Y=>intro n J5 W O;obtain⟨n,rfl⟩:∃m,n=m+1:=⟨n-1,Θ⟩;rw[kF rfl (one t J5 (ς p) h (by simp at O;lia))];have:=Y n (J5++[t]) (by simp at W;lia) (by simp at O ⊢;lia);rw[show pN ky (ς p)=nD ky p from rfl,this,qj5];rfl
theorem vc{q:CF α}{t:α}{ws:η α}(L:Tr q t ws)(O:ws.length<10000):TRf [cfD ky q,nD ky t]=ς (.e (ws.reverse.map (nD ky))):=by unfold TRf;refine kG ?_;show ai _ _ [ς (.f (cfD ky q)),ς (.f (nD ky t)),ψ,ψ]=_;rw[ax (aP (t:=.e []) (by rw[rC];show((ς []).bind mkL)=_;rw[qa3,cC Ξ])),ax (δ':=sT ky q (nD ky t) [] (nD ky t)) (aP rfl),ax (AK hk L 100000 [] Θ (by simp;lia)),qt0];show ς (Out.rt (.e (ws.map (nD ky)).reverse))=_;rw[List.map_reverse]
variable{f1 f2:J9}{F0:Hp}{G:Orc}{st:Dt}
theorem oB(t:α)(q:ζ α):∀{cf:CF α},t∉ks cf->ki (cf.map fun p=>(nK ky p.1,pN ky p.2)) (nK ky t) (pN ky q)=(cf++[(t,q)]).map fun p=>(nK ky p.1,pN ky p.2)
 |[],_=>rfl
 |p::cf,h=>by have h:t∉p.1::ks cf:=h;rw[qa6,ki,if_neg fun z=>h (by rw[oz hk z];exact .head _),oB t q fun z=>h (.tail _ z)];rfl
theorem p6{t:α}:∀{L:CF α},t∈ks L->(∀p∈L,p.2=ψ)->ki (L.map fun p=>(nK ky p.1,pN ky p.2)) (nK ky t) .non=L.map fun p=>(nK ky p.1,pN ky p.2)
 |[],h,_=>by cases h
 |p::L,h,O=>by
  rw[qa6,ki];by_cases e:p.1=t
  .rw[if_pos (by rw[e]),O p (.head _)];rfl
  .rw[if_neg fun z=>e (oz hk z),p6 ((qa8.mp (show t∈p.1::ks L from h)).resolve_left fun z=>e z.symm) fun q U=>O q (.tail _ U)]
def BT{q:CF α}(h:(ks q).Nodup):((q.map fun p=>(nK ky p.1,pN ky p.2)).map (·.1)).Nodup:=by
 have:((ks q).map (nK ky)).Nodup:=by rw[qq4,za4];exact qt7 (fun {a b}(z:a≠b) e=>z (oz hk e)) h
 rw[qc6];unfold ks at this;rw[qc6]at this;exact this
omit hk in
def oC(q:CF α):(ks q).length=q.length:=qa1 ..
def FB {L:CF α} {h t:α} (U:(ks L).Nodup) (W:L.length<100000) :
  RT1 (sR ky st f1 f2 F0 L x4 x6 (ς (.f (nD ky h))) (ς (.f (nD ky t))))=ς (.nx (sR ky st f1 f2 F0 (iH h L t) x4 x6 (ς (.f (nD ky h))) (ς (.f (nD ky t))))):=by
 have O:xu (vB 8) (vB 3) (sR ky st f1 f2 F0 L x4 x6 (ς (.f (nD ky h))) (ς (.f (nD ky t))))=ς (!decide (t∈ks L)):=by unfold xu;rw[show vB 8 (sR ky st f1 f2 F0 L x4 x6 (ς (.f (nD ky h))) (ς (.f (nD ky t))))=ς (nD ky t)from rfl,show vB 3 (sR ky st f1 f2 F0 L x4 x6 (ς (.f (nD ky h))) (ς (.f (nD ky t))))=ς (cfD ky L)from xR L];show ς (!(dw (L.map fun p=>nK ky p.1) (L.map fun p=>pN ky p.2) (nK ky t)).isSome)=_;rw[oA hk,qq0,FA]
 unfold RT1;by_cases q:t∈ks L
 .rw[decide_eq_true q]at O;rw[mi O,show iH h L t=L from if_pos q];rfl
 .rw[decide_eq_false q]at O;rw[jO O,show iH h L t=L++[(t,ς h)]from if_neg q,ax (BS (i:=3) (kd:=nD ky t) (k:=nK ky t) (d:=pN ky (ς h)) (l:=L.map fun p=>(nK ky p.1,pN ky p.2)) rfl rfl rfl rfl (by rw[qa1];lia) (BT hk U)),oB hk t (ς h) q];refine(lN (i:=5) (l:=(ks L).map (nD ky)) (d:=nD ky t) rfl rfl (by rw[qa1,oC];lia)).trans ?_;unfold sR;rw[fH,qf5 (f:=nD ky)];rfl
omit hk in
def AL{h t:α}{q:CF α}(L:(ks q).Nodup):(ks (iH h q t)).Nodup:=by obtain⟨_,_,_,h3,_⟩:=dN h [t] q;exact h3 L
omit hk in
def xS(h t:α)(q:CF α):(iH h q t).length<=q.length+1:=by unfold iH;split<;>simp
theorem BU {h:α}:∀ (ts:η α) (q:CF α) (L:ζ T),(ks q).Nodup->q.length+ts.length<100000→
  ∃O,cA (am 8) RT1 (ts.map (nD ky)) (sR ky st f1 f2 F0 q x4 x6 (ς (.f (nD ky h))) L)=ς (.nx (sR ky st f1 f2 F0 (cR h q ts) x4 x6 (ς (.f (nD ky h))) O))
 |[],q,L,_,_=>⟨L,rfl⟩
 |t::ts,q,L,U,W=>by rw[qd2]at W;obtain⟨O,e⟩:=BU ts (iH h q t) (ς (.f (nD ky t))) (AL U) (by have:=xS h t q;lia);refine⟨O,?_⟩;rw[qa6,aS rfl (FB hk U Θ)];exact e
omit hk in
def D3(q:CF α)(t:α):(bQ q t).length<=q.length+1:=by unfold bQ;split<;>simp
omit hk in
def FC{L:CF α}{t:α}(U:(ks L).Nodup):(ks (bQ L t)).Nodup:=by
 unfold bQ;split
 .exact U
 .rename_i q;rw[fH];refine ql0.mpr ⟨U,by simp[ks],fun a W b O=>?_⟩;simp[ks]at O;subst O;rintro rfl;exact q W
omit hk in
def tI{q:CF α}{t:α}(L:∀p∈q,p.2=ψ):∀p∈bQ q t,p.2=ψ:=fun p hp=>by
 unfold bQ at hp;split at hp
 .exact L p hp
 .rcases qe1.mp hp with z|z
  .exact L p z
  .cases qa4.mp z;rfl
include hk in
def vd{x4:ζ T}{L:CF α}{t:α}(U:(ks L).Nodup)(O:∀p∈L,p.2=ψ)(W:L.length<100000):RT0 (sS ky st f1 f2 F0 L (ς (.f (nD ky t))))=ς (.nx (sS ky st f1 f2 F0 (bQ L t) (ς (.f (nD ky t))))):=by
 unfold RT0;rw[BS (i:=3) (kd:=nD ky t) (k:=nK ky t) (d:=.non) (l:=L.map fun p=>(nK ky p.1,pN ky p.2)) rfl rfl rfl rfl (by rw[qa1];lia) (BT hk U)];unfold bQ;split
 .rename_i q;rw[p6 hk q O];rfl
 .rename_i q;rw[show(Dt.non)=pN ky (ψ:ζ α)from rfl,oB hk t ψ q];rfl
theorem nn:∀ (ss:η α) (q:CF α) (x4:ζ T),(ks q).Nodup->(∀ p∈q,p.2=ψ)->q.length+ss.length<100000→
  ∃L,cA (am 4) RT0 (ss.map (nD ky)) (sS ky st f1 f2 F0 q x4)=ς (.nx (sS ky st f1 f2 F0 (ss.foldl bQ q) L))
 |[],q,x4,_,_,_=>⟨x4,rfl⟩
 |t::ss,q,x4,U,O,W=>by rw[qd2]at W;obtain⟨L,e⟩:=nn ss (bQ q t) (ς (.f (nD ky t))) (FC U) (tI O) (by have:=D3 q t;lia);refine⟨L,?_⟩;rw[qa6,aS rfl (vd hk U O Θ (x4:=x4))];exact e
end
section
variable{α:Type}[DecidableEq α]{ky:α->Int×Str}(hk:∀a b,ky a=ky b->a=b){f1 f2:J9}{F0:Hp}{G:Orc}{st:Dt}
def LpR(ky:α->Int×Str)(q:CF α)(o:ζ Out):ζ α->Prop
 |none=>∃ δ,o=ς (.nx δ)
 |some h=>∀c,TRf [cfD ky q,nD ky h]=ς c->o=ς (.rt c)
include hk
theorem iI {x4:ζ T} {U:η α} {beh:α->η α} {fit:α->Bool} (hU:∀ t∈U,∀ u∈beh t,u∈U) (hUl:U.length<=10000) (hbl:∀ t∈U,(beh t).length<=1000) (h1:∀ t∈U,G f1 F0 [nD ky t]=ς (.e ((beh t).map (nD ky)))) (h2:∀ t∈U,G f2 F0 [nD ky t]=ς (.f (.bl (fit t)))) :
  ∀(n:Nat)(L:CF α)(k:Nat)(J:η (η α))(x7 W:ζ T)(f:ζ α)(Z:CF α)(J':η (η α)),(ks L).Nodup->(∀t∈ks L,t∈U)->bfs beh fit n L k J=ς (f,Z,J')→
   LpR ky Z (bp RTc (RT2 G) n (sR ky st f1 f2 F0 L x4 (ς (.f (.int k))) x7 W)) f
 |0,L,k,J,x7,W,f,Z,J',nd,hc,Y=>by cases Y
 |n+1,L,k,J,x7,W,f,Z,J',nd,hc,Y=>by
  have hcl:L.length<=10000:=by have:=bW nd hc;rw[oC]at this;lia
  have O:RTc (sR ky st f1 f2 F0 L x4 (ς (.f (.int k))) x7 W)=ς (decide ((k:Int)<L.length)):=by refine D0 (x:=.int k) rfl (y:=.int (L.length:Nat)) ?_ rfl;show ς (Dt.int (((ks L).map (nD ky)).length:Nat))=_;rw[qa1,oC]
  unfold bfs at Y;cases q:L[k]? with
  |none=>rw[q]at Y;cases Y;have:=qh7.mp q;rw[decide_eq_false Θ]at O;exact⟨_,ou O⟩
  |some x=>
   obtain⟨h,pq⟩:=x;rw[q]at Y;dsimp only at Y;have hkl:=(gX q).1;have hhU:h∈U:=hc h (ij q);rw[decide_eq_true Θ]at O
   have s1:ap 7 (toT (toD (d2 ah (vB 5) (vB 6)))) (sR ky st f1 f2 F0 L x4 (ς (.f (.int k))) x7 W)=ς (.nx (sR ky st f1 f2 F0 L x4 (ς (.f (.int k))) (ς (.f (nD ky h))) W)):=by
    refine(aP (t:=.f (nD ky h)) ?_).trans rfl;show((ah (.e ((ks L).map (nD ky))) (.int k)).bind T.d).map T.f=_;rw[eJ,be,qb1];have:(ks L)[k]?=ς h:=by unfold ks;rw[qb1,q];rfl
    rw[this];rfl
   have s2:uH (fun i j=>i+j) 6 (kD (.int 1)) (sR ky st f1 f2 F0 L x4 (ς (.f (.int k))) (ς (.f (nD ky h))) W)=ς (.nx (sR ky st f1 f2 F0 L x4 (ς (.f (.int ((k+1:Nat):Int)))) (ς (.f (nD ky h))) W)):=by show ς (Out.nx _)=ς (Out.nx _);rw[show((k+1:Nat):Int)=(k:Int)+1 by lia];rfl
   have tf:cF (toD (vCl G 2 (aa (vL 7) af))) (sR ky st f1 f2 F0 L x4 (ς (.f (.int ((k+1:Nat):Int)))) (ς (.f (nD ky h))) W)=ς (fit h):=by show(((G f2 F0 [nD ky h]).bind T.d).bind wg)=_;rw[h2 h hhU];rfl
   cases hf:fit h with
   |true=>rw[hf]at Y tf;cases Y;intro c ht;refine xP O ?_;unfold RT2;rw[ax s1,ax s2];refine xI ?_;rw[jO tf];show((cfT ky L).d.bind fun d=>aV (ag TRf (aa (vL 3) (aa (vL 7) af))) ((sR ky st f1 f2 F0 L x4 (ς (.f (.int ((k+1:Nat):Int)))) (ς (.f (nD ky h))) W).set 3 (ς (.f d))))=_;rw[xR,qa3];show(TRf [cfD ky L,nD ky h]).map Out.rt=_;rw[ht];rfl
   |false=>
    rw[hf]at Y tf;simp only[qf4,if_false]at Y;obtain⟨e,p1,p2,p3,p4⟩:=dN h (beh h) L;obtain⟨y8,hpE⟩:=BU hk (st:=st) (f1:=f1) (f2:=f2) (F0:=F0) (x4:=x4) (x6:=ς (.f (.int ((k+1:Nat):Int)))) (h:=h) (beh h) L W nd (by have:=hbl h hhU;lia)
    have body:RT2 G (sR ky st f1 f2 F0 L x4 (ς (.f (.int k))) x7 W)=ς (.nx (sR ky st f1 f2 F0 (cR h L (beh h)) x4 (ς (.f (.int ((k+1:Nat):Int)))) (ς (.f (nD ky h))) y8)):=by unfold RT2;rw[ax s1,ax s2,ax (by rw[mi tf];rfl)];show((((G f1 F0 [nD ky h]).bind T.d).bind itD).bind fun ds=>cA (am 8) RT1 ds (sR ky st f1 f2 F0 L x4 (ς (.f (.int ((k+1:Nat):Int)))) (ς (.f (nD ky h))) W))=_;rw[h1 h hhU];exact hpE
    rw[kF O body];exact iI hU hUl hbl h1 h2 n (cR h L (beh h)) (k+1) _ (ς (.f (nD ky h))) y8 f Z J' (p3 nd) (lO hc (hU h hhU)) Y
omit hk in
def resR(ky:α->Int×Str):ζ (η α)->T
 |none=>.f .non
 |some ws=>.e (ws.reverse.map (nD ky))
def j8 {J4:η α} (Z:J4.length<=10000):∃ q,∀ o:ζ Out,bp RTc (RT2 G) 100000 (sR ky (.e (J4.map (nD ky))) f1 f2 F0 (J4.foldl bQ []) q (ς (.f (.int ((0:Nat):Int)))) ψ ψ)=o→
  (∀c,o=ς (.rt c)->RTf G (.e (J4.map (nD ky))) f1 f2 F0=ς c)/\(∀ δ,o=ς (.nx δ)->RTf G (.e (J4.map (nD ky))) f1 f2 F0=ς (.f .non)):=by
 obtain⟨q,e⟩:=nn hk (st:=.e (J4.map (nD ky))) (f1:=f1) (f2:=f2) (F0:=F0) J4 [] ψ (by simp[ks]) Ξ (by simp;lia)
 have Y:∀{g:De->ζ Out}{r:T},g (deR 9 (.e (J4.map (nD ky))) f1 f2 F0)=ς (.rt r)->uL 9 g (.e (J4.map (nD ky))) f1 f2 F0=ς r:=fun {g r} z=>by unfold uL;rw[z]
 have W:cV (fIt (vL 0)) (am 4) RT0 (sS ky (.e (J4.map (nD ky))) f1 f2 F0 [] ψ)=ς (.nx (sS ky (.e (J4.map (nD ky))) f1 f2 F0 (J4.foldl bQ []) q)):=e
 have U:ap 5 (ag ly (aa (vB 3) af)) (sS ky (.e (J4.map (nD ky))) f1 f2 F0 (J4.foldl bQ []) q)=ς (.nx (sR ky (.e (J4.map (nD ky))) f1 f2 F0 (J4.foldl bQ []) q ψ ψ ψ)):=by refine(aP (t:=.e ((ks (J4.foldl bQ [])).map (nD ky))) ?_).trans rfl;unfold ag aa;rw[show vB 3 (sS ky (.e (J4.map (nD ky))) f1 f2 F0 (J4.foldl bQ []) q)=ς (cfD ky (J4.foldl bQ []))from xR _];show ς (T.e (((J4.foldl bQ []).map fun p=>nK ky p.1).map lv))=_;unfold ks;rw[qc6,qc6];rfl
 refine⟨q,fun o O=>⟨fun c L=>?_,fun δ L=>?_⟩⟩
 all_goals
  unfold RTf;refine Y ?_;show ai _ _ (ς (.f (.e (J4.map (nD ky))))::ς (.fn f1 F0)::ς (.fn f2 F0)::qc1 6 ψ)=_;rw[ax (δ':=sS ky (.e (J4.map (nD ky))) f1 f2 F0 [] ψ) (aP rfl),ax W,ax U,ax (δ':=sR ky (.e (J4.map (nD ky))) f1 f2 F0 (J4.foldl bQ []) q (ς (.f (.int ((0:Nat):Int)))) ψ ψ) (aP rfl)]
 .exact xI (O.trans L)
 .rw[ax (O.trans L)];rfl
def xT {U J4:η α} {beh:α->η α} {fit:α->Bool} (hU:∀ t∈U,∀ u∈beh t,u∈U) (hUl:U.length<=9000) (Y:∀ t∈U,(beh t).length<=1000) (hs:∀ t∈J4,t∈U) (W:J4.length<=10000) :
  ∃ r:ζ (η α),(∀(G:Orc)(f1 f2:J9)(F0:Hp),(∀t∈U,G f1 F0 [nD ky t]=ς (.e ((beh t).map (nD ky))))->(∀t∈U,G f2 F0 [nD ky t]=ς (.f (.bl (fit t))))→
      RTf G (.e (J4.map (nD ky))) f1 f2 F0=ς (resR ky r))∧
   (r=ψ->∀t,Rch beh J4 t->fit t=ξ)/\∀ws,r=ς ws->ws.length<=9001/\∃t,Wy beh fit J4 t ws/\fit t=θ:=by
 have O:∀t∈ks (J4.foldl bQ ([]:CF α)),t∈U:=fun t ht=>by
  obtain⟨i,q,e⟩:=ii ht;have B:=BI.start (beh:=beh) (fit:=fit) (J4:=J4);cases q with
  |none=>exact hs t (B.st i t e)
  |some p=>
   exfalso
   have key:∀(ss:η α)(L:CF α),(∀p∈L,p.2=ψ)->∀p∈ss.foldl bQ L,p.2=ψ:=fun ss=>by
    induction ss with
    |nil=>intro L h;exact h
    |cons s ss ih=>intro L h;exact ih _ (tI h)
   have:=key J4 [] Ξ _ (qc8 e);cases this
 obtain⟨f,L,J,k',h1,B,hc,hn,hf⟩:=p5 (fit:=fit) (J4:=J4) hU 100000 (J4.foldl bQ []) 0 [] BI.start O (qi7 _) Θ;have nd:=(BI.start (beh:=beh) (fit:=fit) (J4:=J4)).nd;cases f with
 |none=>
  refine⟨ψ,fun G f1 f2 F0 g1 g2=>?_,fun _ t ht=>?_,fun ws z=>(by cases z)⟩
  .obtain⟨y4,Z⟩:=j8 hk (G:=G) (f1:=f1) (f2:=f2) (F0:=F0) W;obtain⟨δ',hw⟩:=iI hk (st:=.e (J4.map (nD ky))) (x4:=y4) hU Θ Y g1 g2 100000 _ 0 [] ψ ψ ψ L J nd O h1;exact(Z _ rfl).2 δ' hw
  .have:=hn rfl;subst this;exact B.none ht
 |some h=>
  obtain⟨g1,g2⟩:=hf h rfl;obtain⟨i,q,e⟩:=ii g2;obtain⟨ws,tr,wy,hl⟩:=B.trace i h q e;have hi:=(gX e).1
  have hcl:L.length<=9000:=by have:=bW B.nd hc;rw[oC]at this;lia
  refine⟨ς ws,fun G f1 f2 F0 q1 q2=>?_,fun z=>(by cases z),fun ws' z=>(by cases z;exact⟨Θ,h,wy,g1⟩)⟩;obtain⟨y4,Z⟩:=j8 hk (G:=G) (f1:=f1) (f2:=f2) (F0:=F0) W;have hw:=iI hk (st:=.e (J4.map (nD ky))) (x4:=y4) hU Θ Y q1 q2 100000 _ 0 [] ψ ψ (ς h) L J nd O h1;exact(Z _ rfl).1 _ (hw _ (vc hk tr Θ))
end
section
variable{J0:η Rw}{kept:η Nat}{nm:Str}
def P1(J0:η Rw)(kept:η Nat)(nm:Str)(k:Nat):Prop:=Rch (ir J0 kept nm) (cW kept) (k,.fresh)∨Rch (ir J0 kept nm) (cW kept) (k,.seen)
def P2(J0:η Rw)(kept:η Nat)(nm:Str)(k:Nat):Prop:=Rch (ir J0 kept nm) (cW kept) (k,.seen)
def P1.start{k:Nat}(h:k=0∨k∈kept):P1 J0 kept nm k:=.inl (.one (qb8.mpr ⟨k,qa8.mpr h,rfl⟩))
end
end L2
local macro_rules | `(tactic| walk_at "d") => `(tactic| simp -implicitDefEqProofs only [L2.jM, L2.FS, L2.bL, L2.bF, L2.Fq, L2.bo, L2.ap, L2.aV, L2.fg, L2.ni, L2.jh, L2.ji, L2.kB_d, L2.g9, L2.wt, L2.wu, L2.uH, L2.l9, L2.toT, L2.toD, L2.T.d, L2.kD, L2.vL, L2.vB, L2.d2, L2.tB2, L2.cF, L2.dH, L2.jN, L2.Fs, L2.zL, L2.vAnd_d, L2.vIf_d, L2.af, L2.aa, L2.vTup_d, L2.rC, L2.cC, L2.FT, L2.fD, L2.ag, L2.jZ, L2.FU, L2.vSl, L2.gy, L2.db, L2.g5, L2.Bg, L2.pz, L2.nX, L2.gH, L2.fIt, L2.da, L2.am, L2.dC, L2.bh, L2.gAdd_i, L2.atI_0, L2.atI_1, L2.atI_2, L2.atI_3, L2.atI_4, L2.atI_5, L2.atI_6, L2.jj, L2.Fn, L2.Bs, L2.FV, L2.FW, L2.eqF_s, L2.eqF_i, qk5, zj7, qk6, List.any_nil, L2.gSub_i, L2.gMul_l, L2.gMul_r, L2.fu, L2.FQ, L2.gMod_w, L2.gCmp_i, L2.gEq_ii, L2.gEq_ss, L2.gNe_ss, L2.gIs_n, L2.gx, L2.eJ, L2.xG, L2.gLen_l, L2.gLen_t, L2.Fo, L2.itD_l, L2.itD_t, L2.truD_b, L2.asB_b, L2.asBl_b, L2.Fp, qa6, qj9, qd2, qw9, zc4, qt0, qc1, zc2, qk7, qs5, qs6, qa3, Option.bind_none, qm8, Option.map_none, qr2, Option.join_none, Nat.reduceAdd, Nat.reduceSub, Nat.reduceLeDiff, Int.reduceLT, Int.reduceEq, eq_self, Int.reduceNeg, Int.reduceLE, if_true, if_false, ite_true, ite_false, qf4, decide_true, decide_false, Bool.not_true, Bool.not_false, qo2, qi9, Bool.or_true, zj5, qv6, zi3, qu1, zg4, String.reduceBEq, reduceCtorEq])
local macro_rules | `(tactic| walk_at "k") => `(tactic| simp -implicitDefEqProofs only [L2.jM, L2.FS, L2.bL, L2.bF, L2.Fq, L2.bo, L2.ap, L2.aV, L2.fg, L2.ni, L2.jh, L2.ji, L2.kB_d, L2.g9, L2.wt, L2.wu, L2.uH, L2.l9, L2.toT, L2.toD, L2.T.d, L2.kD, L2.vL, L2.vB, L2.d2, L2.tB2, L2.cF, L2.dH, L2.jN, L2.Fs, L2.zL, L2.vAnd_d, L2.vIf_d, L2.af, L2.aa, L2.vTup_d, L2.rC, L2.cC, L2.FT, L2.fD, L2.ag, L2.jZ, L2.FU, L2.vSl, L2.gy, L2.db, L2.g5, L2.Bg, L2.pz, L2.nX, L2.gH, L2.fIt, L2.da, L2.am, L2.dC, L2.bh, L2.gAdd_i, L2.atI_0, L2.atI_1, L2.atI_2, L2.atI_3, L2.atI_4, L2.atI_5, L2.atI_6, L2.jj, L2.Fn, L2.Bs, L2.FV, L2.FW, L2.eqF_s, L2.eqF_i, qk5, zj7, qk6, List.any_nil, L2.gSub_i, L2.gMul_l, L2.gMul_r, L2.fu, L2.FQ, L2.gMod_w, L2.gCmp_i, L2.gEq_ii, L2.gEq_ss, L2.gNe_ss, L2.gIs_n, L2.gx, L2.eJ, L2.xG, L2.gLen_l, L2.gLen_t, L2.Fo, L2.itD_l, L2.itD_t, L2.truD_b, L2.asB_b, L2.asBl_b, L2.Fp, qa6, qj9, qd2, qw9, zc4, qt0, qc1, zc2, qk7, qs5, qs6, qa3, Option.bind_none, qm8, Option.map_none, qr2, Option.join_none, Nat.reduceAdd, Nat.reduceSub, Nat.reduceLeDiff, Int.reduceLT, Int.reduceEq, eq_self, Int.reduceNeg, Int.reduceLE, if_true, if_false, ite_true, ite_false, qf4, decide_true, decide_false, Bool.not_true, Bool.not_false, qo2, qi9, Bool.or_true, zj5, qv6, zi3, qu1, zg4, String.reduceBEq, reduceCtorEq, L2.Dw, L2.Ar, L2.yT, L2.As, L2.Bt, L2.At, L2.Bu, L2.Dx, L2.Dy, L2.Bv, L2.Dz, L2.DC, L2.Bw, L2.DD, L2.Ei, L2.DE, L2.Ej, L2.Ft, L2.Fu, L2.Ek, L2.Au, L2.DF, L2.yU, L2.Av, L2.Bx, L2.Aw, L2.By, L2.DH, L2.DI, L2.Bz, L2.yV, L2.BA, L2.yW, L2.yX, L2.Ax, L2.yY, L2.Ay, L2.BB, L2.BC, L2.Az, L2.AA, L2.DJ, L2.AB, L2.yZ, L2.BD, L2.AC, L2.BE, L2.DK, L2.DM, L2.BF, L2.BG, L2.El, L2.BH, L2.AD, L2.BJ, L2.BK, L2.DN, L2.Em, L2.Eo, L2.DQ, L2.AE, L2.DR, L2.AF, L2.zb, L2.AG, L2.BL, L2.BM, L2.DU, L2.DV, L2.BN, L2.AH, L2.Ep, L2.Er, L2.DX, L2.BO, L2.Fv, L2.Es, L2.BP, L2.Et, L2.AI, L2.Eu, L2.Ev])
namespace P52
open PySem L2
def rF(n:Nat)(r:Rw):q71 [.int n,r.d]=ς (.f (.t ((r.outs n).map dI))):=by cases r<;>kernel_rfl
def dW(J0:η Rw):Dt:=.e (J0.mapIdx fun k r=>.t ((r.outs k).map dI))
def kH(c s:Dt)(J0:η Rw)(h:J0.length<=1000):dz [.t [c,s,dR J0]]=ς (.e (J0.mapIdx fun k r=>.t ((r.outs k).map dI))):=by
 unfold dz;walk_at "k";unfold iw dR;walk_at "k"
 rw[lM (h:=fun k r=>.t ((r.outs k).map dI)) 0 fun k a=>⟨_,rfl,by unfold y107;walk_at "k";rw[rF];walk_at "k"⟩]
 walk_at "k";rw[cC (by rw[List.length_mapIdx];lia)];walk_at "k";simp
def xU(r:Rw):q88 [r.d]=ς (.f (match r.sets with|some x=>.str x|none=>.non)):=by cases r<;>kernel_rfl
def xV(r:Rw):y88 [r.d]=ς (.f (.t (r.atoms.map Atm.d))):=by cases r<;>kernel_rfl
theorem iJ(q:ζ T):∀(L:η Atm)(J5:η Str)(O:ζ T),J5.length+L.length<=10->∃y,cA (am 2) q69 (L.map Atm.d) [q,ς (.e (J5.map .str)),O]=ς (.nx [q,ς (.e (((nms L).foldl fz J5).map .str)),y])
 |[],J5,O,_=>⟨O,rfl⟩
 |.vl i::L,J5,O,h=>by obtain⟨y,e⟩:=iJ q L J5 (ς (.f (.int i))) (by simp at h ⊢;lia);refine⟨y,?_⟩;rw[qa6,aS (δ1:=[q,ς (.e (J5.map .str)),ς (.f (.int i))]) (δ2:=[q,ς (.e (J5.map .str)),ς (.f (.int i))]) rfl (by unfold q69;walk_at "k"<;>rfl)];exact e
 |.nm x::L,J5,O,h=>by
  have W:J5.length<10:=by simp at h;lia
  obtain⟨y,e⟩:=iJ q L (fz J5 x) (ς (.f (.str x))) (by
   have:(fz J5 x).length<=J5.length+1:=by unfold fz;split<;>simp
   simp at h ⊢;lia)
  refine⟨y,?_⟩;rw[qa6,aS (δ1:=[q,ς (.e (J5.map .str)),ς (.f (.str x))]) (δ2:=[q,ς (.e ((fz J5 x).map .str)),ς (.f (.str x))]) rfl ?_]
  .exact e
  .unfold q69 fz;walk_at "k";rw[gIn_strs];walk_at "k";by_cases U:x∈J5
   .rw[fC (by simp[U]),if_pos U];rfl
   .rw[gl (by simp[U]),if_neg U,j6 rfl];walk_at "k";rw[fD (by rw[qa1];lia)];simp
def xW(r:Rw):q76 [r.d]=ς (.e (r.reads.map .str)):=by
 have q:r.atoms.length<=2:=by cases r<;>simp[Rw.atoms]
 obtain⟨y,e⟩:=iJ (ς (.f r.d)) r.atoms [] ψ (by simp;lia);unfold q76;walk_at "k";rw[xV];walk_at "k";rw[show([]:η Dt)=([]:η Str).map .str from rfl,e];walk_at "k";rfl
def ve(r:Rw)(l:η Str):bE (am 0) y48 (vL 0) [ψ,ς (.f r.d)] (l.map .str)=ς ((l.filter fun b=>decide (r.sets≠ς b)).map .str):=
 bZ fun b _=>⟨[ς (.f (.str b)),ς (.f r.d)],rfl,by
  unfold y48;walk_at "k";rw[xU];walk_at "k";cases q:r.sets with
  |none=>walk_at "k";rw[show gEq θ (Dt.str b) Dt.non=ς (.f (.bl θ))from rfl];simp[asB]
  |some x=>
   walk_at "k";by_cases h:b=x
   .simp[h]
   .have:¬ x=b:=fun z=>h z.symm
    simp[h,this],fun _=>rfl⟩
theorem lQ(r:Rw)(q:ζ T):∀(ls:η (η Str))(J5:η Str)(L:ζ T),J5.length+(ls.map qp2).sum<=1000->∃y,cA (am 3) z48 (ls.map dS) [ς (.f r.d),q,ς (.e (J5.map .str)),L]=ς (.nx [ς (.f r.d),q,ς (.e ((J5++j7 r ls).map .str)),y])
 |[],J5,L,_=>⟨L,by unfold j7;simp[cA]⟩
 |l::ls,J5,L,h=>by
  simp only[qa6,qt1]at h;have O:=qd6 (fun b=>decide (r.sets≠ς b)) l;obtain⟨y,e⟩:=lQ r q ls (J5++l.filter fun b=>decide (r.sets≠ς b)) (ς (.f (dS l))) (by rw[qc0];lia);refine⟨y,?_⟩;rw[qa6,aS (δ1:=[ς (.f r.d),q,ς (.e (J5.map .str)),ς (.f (dS l))]) (δ2:=[ς (.f r.d),q,ς (.e ((J5++l.filter fun b=>decide (r.sets≠ς b)).map .str)),ς (.f (dS l))]) rfl ?_]
  .rw[e];unfold j7;simp
  .unfold z48;rw[BR (l:=J5.map .str) (m:=(l.filter fun b=>decide (r.sets≠ς b)).map .str) rfl (xJ (ds:=l.map .str) rfl (ve r l) (by rw[qa1];lia)),tH (by rw[qa1,qa1];lia)];simp
def xX(r:Rw)(ls:η (η Str))(h:(ls.map qp2).sum<=60):q22 [r.d,.e (ls.map dS)]=ς (.e ((NA r ls).map .str)):=by
 have L:=r.reads_len
 have O:(j7 r ls).length<=(ls.map qp2).sum:=by
  clear h L;induction ls with
  |nil=>simp[j7]
  |cons l ls q=>have U:=qd6 (fun b=>decide (r.sets≠ς b)) l;unfold j7 at q ⊢;simp only[List.flatMap_cons,qc0,qa6,qt1];lia
 obtain⟨y,e⟩:=lQ r (ς (.f (.e (ls.map dS)))) ls r.reads ψ Θ;unfold q22;walk_at "k";rw[xW];walk_at "k";rw[e];walk_at "k";rw[pZ (by rw[qc0];lia)];rfl
variable{J3:η (η Str)}
theorem xY(q:∀l∈J3,l.length<=12):∀js:η Nat,((js.map fun j=>J3.getD j []).map qp2).sum<=12*js.length
 |[]=>qi7 _
 |j::js=>by
  have L:=xY q js
  have:(J3.getD j []).length<=12:=by
   rw[qb5];cases h:J3[j]? with
   |none=>simp
   |some l=>exact q l (qc8 h)
  simp only[qa6,qt1,qd2];lia
variable{i:Nat}{r:Rw}
section
variable{P:Dt}{J0:η Rw}{B:η Str}{J3:η (η Str)}
def oD(h:J0[i]?=ς r):ah (dW J0) (.int i)=ς (.f (.t ((r.outs i).map dI))):=by unfold dW;rw[eJ,be,List.getElem?_mapIdx,h];rfl
def D4(h:J0[i]?=ς r):ah (dR J0) (.int i)=ς (.f r.d):=by unfold dR;rw[xG,be,qb1,h];rfl
def rG{l:η Str}(h:J3[i]?=ς l):ah (dF J3) (.int i)=ς (.f (dS l)):=by unfold dF;rw[eJ,be,qb1,h];rfl
def vf (O:J0[i]?=ς r) (U:∀ l∈J3,l.length<=12) (Z:∀ j∈r.outs i,j<J3.length) (W Y:ζ T) :
  ag q22 (aa (toD (d2 ah (vB 1) (vB 5))) (aa (toD (aQ [ψ,ς 3] (fIt (toD (d2 ah (vB 2) (vB 5)))) (am 0) bh q66)) af)) [ς (.f P),ς (.f (dR J0)),ς (.f (dW J0)),ς (.e (J3.map dS)),W,ς (.f (.int i)),Y]=ς (.e ((nw J0 J3 i).map .str)):=by
 walk_at "k";rw[D4 O,oD O];walk_at "k"
 rw[bw (h:=fun j=>dS (J3.getD j [])) fun j L=>⟨[ς (.f (dI j)),ς (.e (J3.map dS))],rfl,rfl,by have q:=Z j L;unfold q66 dI;walk_at "k";rw[be,qb1,qm9 q,oq (m:=J3[j]) (by simp[q])];rfl⟩]
 walk_at "k";have ho:=r.outs_len i;rw[cC (by rw[qa1];lia)];walk_at "k";have e:(r.outs i).map (fun j=>dS (J3.getD j []))=((r.outs i).map fun j=>J3.getD j []).map dS:=by rw[qc6];rfl
 rw[e,xX r _ (qb9 (xY U _) Θ)];unfold nw;rw[O]
def sl(P:Dt)(J0:η Rw)(J3:η (η Str))(c:Bool)(q x6:ζ T):De:=[ς (.f P),ς (.f (dR J0)),ς (.f (dW J0)),ς (.e (J3.map dS)),ς (.f (.bl c)),q,x6]
def AM {l:η Str} (Z:J0[i]?=ς r) (O:J3[i]?=ς l) (U:∀ l∈J3,l.length<=12) (Y:∀ j∈r.outs i,j<J3.length) (c:Bool) (x6:ζ T) :
  ∃q c' W,y64 (sl P J0 J3 c (ς (.f (dI i))) x6)=ς (.nx (sl P J0 q c' (ς (.f (dI i))) W))∧((nw J0 J3 i=l/\q=J3/\c'=c)∨(nw J0 J3 i≠l/\q=J3.set i (nw J0 J3 i)/\c'=θ)):=by
 have h1:ap 6 (toT (toD (ag q22 (aa (toD (d2 ah (vB 1) (vB 5))) (aa (toD (aQ [ψ,ς 3] (fIt (toD (d2 ah (vB 2) (vB 5)))) (am 0) bh q66)) af))))) (sl P J0 J3 c (ς (.f (dI i))) x6)=ς (.nx (sl P J0 J3 c (ς (.f (dI i))) (ς (.f (dS (nw J0 J3 i)))))):=by exact aP ((congrArg (fun z:ζ T=>(z.bind T.d).map T.f) (vf (P:=P) Z U Y (ς (.f (.bl c))) x6)).trans rfl)
 have h2:tB2 (gEq θ) (vB 6) (toD (d2 ah (vB 3) (vB 5))) (sl P J0 J3 c (ς (.f (dI i))) (ς (.f (dS (nw J0 J3 i)))))=ς (!decide (nw J0 J3 i=l)):=by unfold sl;walk_at "k";have:=rG O;unfold dF at this;unfold dI;rw[this];walk_at "k";unfold dS;rw[xO];rfl
 unfold y64;rw[ax h1];by_cases L:nw J0 J3 i=l
 .refine⟨J3,c,ς (.f (dS (nw J0 J3 i))),?_,.inl ⟨L,rfl,rfl⟩⟩;rw[decide_eq_true L]at h2;rw[mi h2];rfl
 .have hi:i<(J3.map dS).length:=by rw[qa1];exact(gX O).1
  refine⟨J3.set i (nw J0 J3 i),θ,ς (.f (dS (nw J0 J3 i))),?_,.inr ⟨L,rfl,rfl⟩⟩;rw[decide_eq_false L]at h2;rw[jO h2,ax (xQ (k:=i) (d:=dS (nw J0 J3 i)) rfl rfl rfl hi),aP rfl];unfold sl;rw[List.map_set];rfl
theorem pass (hB:∀ (i:Nat) (r:Rw) (b:Str),J0[i]?=ς r->b∈r.reads->b∈B) (hO:∀ (i:Nat) (r:Rw) (j:Nat),J0[i]?=ς r->j∈r.outs i->j<J0.length) (hb:B.length<=12) :
  ∀(js:η Nat)(J3:η (η Str))(c:Bool)(x5 x6:ζ T),Fnd J0 B J3->(∀j∈js,j<J0.length)→
  ∃L c' y5 y6,cA (am 5) y64 (js.map dI) (sl P J0 J3 c x5 x6)=ς (.nx (sl P J0 L c' y5 y6))/\Fnd J0 B L∧tot J3<=tot L/\(c'=θ->c=θ∨tot J3<tot L)/\(c'=ξ->c=ξ/\L=J3/\∀j∈js,∀l,J3[j]?=ς l->nw J0 J3 j=l)
 |[],J3,c,x5,x6,F,_=>⟨J3,c,x5,x6,rfl,F,nL _,.inl,fun h=>⟨h,rfl,fun j Z=>by cases Z⟩⟩
 |j::js,J3,c,x5,x6,F,Z=>by
  have U:=Z j (.head _);have hr:J0[j]?=ς J0[j]:=by simp[U]
  have hlt:j<J3.length:=by rw[F.len];exact U
  have Y:J3[j]?=ς J3[j]:=by simp[hlt]
  have hs:∀l∈J3,l.length<=12:=fun l Y=>by obtain⟨i,h⟩:=qk3 Y;exact qb9 (F.short h) hb
  obtain⟨found1,c1,z6,e1,q1⟩:=AM (P:=P) hr Y hs (fun k hk=>by rw[F.len];exact hO j _ k hr hk) c x6
  have F1:Fnd J0 B found1:=by
   rcases q1 with ⟨_,rfl,_⟩|⟨_,rfl,_⟩
   .exact F
   .exact F.step hB U
  obtain⟨O,c2,y5,y6,e2,F2,t2,q2,q3⟩:=pass hB hO hb js found1 c1 (ς (.f (dI j))) z6 F1 fun k hk=>Z k (.tail _ hk)
  refine⟨O,c2,y5,y6,?_,F2,?_,?_,?_⟩
  .rw[qa6,aS rfl e1];exact e2
  .rcases q1 with ⟨_,rfl,_⟩|⟨ne,rfl,_⟩
   .exact t2
   .exact qb9 (qj1 (F.more Y ne)) t2
  .intro h;rcases q1 with ⟨_,rfl,rfl⟩|⟨ne,rfl,_⟩
   .exact q2 h
   .exact .inr (qc2 (F.more Y ne) t2)
  .intro h;obtain⟨h1,h2,h3⟩:=q3 h;rcases q1 with ⟨q,rfl,rfl⟩|⟨ne,rfl,rfl⟩
   .refine⟨h1,h2,fun k hk l W=>?_⟩;rcases qa8.mp hk with rfl|hk
    .rw[Y]at W;cases W;exact q
    .exact h3 k hk l W
   .cases h1
theorem loop (hB:∀ (i:Nat) (r:Rw) (b:Str),J0[i]?=ς r->b∈r.reads->b∈B) (hO:∀ (i:Nat) (r:Rw) (j:Nat),J0[i]?=ς r->j∈r.outs i->j<J0.length) (hb:B.length<=12) (hn:J0.length<=1000) :
  ∀(m:Nat)(J3:η (η Str))(U x6:ζ T),Fnd J0 B J3->J0.length*B.length+2<=m+tot J3→
  ∃q W Y,bp z96 q65 m (sl P J0 J3 θ U x6)=ς (.nx (sl P J0 q ξ W Y))/\Fnd J0 B q/\Fix J0 q
 |0,J3,U,x6,F,hm=>by have:=F.tot_le;lia
 |m+1,J3,U,x6,F,hm=>by
  obtain⟨L,c1,W,Y,e1,F1,t1,q1,q2⟩:=pass (P:=P) hB hO hb ((qd0 J0.length).map fun i=>J0.length-1-i) J3 ξ U x6 F fun j hj=>by obtain⟨i,hi,rfl⟩:=qb8.mp hj;have:=qe9.mp hi;lia
  have Z:q65 (sl P J0 J3 θ U x6)=ς (.nx (sl P J0 L c1 W Y)):=by unfold q65;rw[ax (δ':=sl P J0 J3 ξ U x6) (aP rfl)];show(uR [.int (((J0.map Rw.d).length:Int)-1),.int (-1),.int (-1)]).bind _=_;rw[qa1,u8 hn,qa3];exact e1
  rw[kF rfl Z];cases c1 with
  |true=>
   rcases q1 rfl with h|h
   .cases h
   .obtain⟨O,z5,z6,e2,F2,x2⟩:=loop hB hO hb hn m L W Y F1 Θ;exact⟨O,z5,z6,e2,F2,x2⟩
  |false=>
   obtain⟨_,rfl,q3⟩:=q2 rfl
   have hm2:∃m',m=m'+1:=by have:=F1.tot_le;exact⟨m-1,Θ⟩
   obtain⟨m',rfl⟩:=hm2;refine⟨L,W,Y,ou rfl,F1,fun i l hl=>?_⟩;have hi:i<J0.length:=by rw[<- F1.len];exact(gX hl).1
   exact q3 i (qb8.mpr ⟨J0.length-1-i,qe9.mpr Θ,Θ⟩) l hl
end
theorem p7:∀ds:η Dt,bE (am 0) bh z33 [ψ] ds=ς (ds.map fun _=>.e [])
 |[]=>rfl
 |d::ds=>by unfold bE am;rw[qa3];show((z33 [ς (.f d)]).bind fun y=>(bE (am 0) bh z33 [ψ] ds).bind fun r=>ς (y::r))=_;rw[p7 ds,show z33 [ς (.f d)]=ς (.e [])by unfold z33;walk_at "k"];rfl
variable{c s:Dt}{J0:η Rw}
def rH {B:η Str} (W:∀ (i:Nat) (r:Rw) (b:Str),J0[i]?=ς r->b∈r.reads->b∈B) (Z:∀ (i:Nat) (r:Rw) (j:Nat),J0[i]?=ς r->j∈r.outs i->j<J0.length) (L:B.length<=12) (q:J0.length<=1000) :
  ∃J3,z18 [.t [c,s,dR J0]]=ς (.e (J3.map dS))/\Fnd J0 B J3/\Fix J0 J3:=by
 have O:J0.length*B.length<=1000*12:=zg8 q L;obtain⟨J3,y5,y6,e,F,x⟩:=loop (P:=.t [c,s,dR J0]) W Z L q 100000 _ ψ ψ Fnd.start Θ;refine⟨J3,?_,F,x⟩;unfold z18;refine kG ?_
 have Y:ap 2 (toT (toD (ag dz (aa (vL 0) af)))) [ς (.f (.t [c,s,dR J0])),ς (.f (dR J0)),ψ,ψ,ψ,ψ,ψ]=ς (.nx [ς (.f (.t [c,s,dR J0])),ς (.f (dR J0)),ς (.f (dW J0)),ψ,ψ,ψ,ψ]):=by refine aP ?_;show(((dz [.t [c,s,dR J0]]).bind T.d).map T.f)=_;rw[kH c s J0 q];rfl
 have U:ap 3 (aQ [ψ] (fIt (vB 1)) (am 0) bh z33) [ς (.f (.t [c,s,dR J0])),ς (.f (dR J0)),ς (.f (dW J0)),ψ,ψ,ψ,ψ]=ς (.nx [ς (.f (.t [c,s,dR J0])),ς (.f (dR J0)),ς (.f (dW J0)),ς (.e ((J0.map fun _=>[]).map dS)),ψ,ψ,ψ]):=by refine aP ?_;show((bE (am 0) bh z33 [ψ] (J0.map Rw.d)).bind fun ys=>if ys.length<=qb2 then ς (T.e ys)else ψ)=_;rw[p7,qa3,if_pos (small (by simp;lia)),qc6,qc6];rfl
 show ai _ _ [ς (.f (.t [c,s,dR J0])),ψ,ψ,ψ,ψ,ψ,ψ]=_;rw[ax (aP rfl)];show ai _ _ [ς (.f (.t [c,s,dR J0])),ς (.f (dR J0)),ψ,ψ,ψ,ψ,ψ]=_;rw[ax Y,ax U,ax (δ':=sl (.t [c,s,dR J0]) J0 (J0.map fun _=>[]) θ ψ ψ) (aP rfl),ax e];rfl
def tJ(l:η Nat)(x:Nat):((l.map dI).any fun y=>eqF y (dI x))=decide (x∈l):=by
 rw[qj8,zc6];constructor
 .rintro⟨y,L,e⟩;obtain⟨z,q,rfl⟩:=qb8.mp L;have:(z:Int)=x:=by simpa[dI,eqF] using e
  have:z=x:=by lia
  subst this;exact decide_eq_true q
 .intro h;exact⟨dI x,qb8.mpr ⟨x,of_decide_eq_true h,rfl⟩,by simp[dI,eqF]⟩
def p8(l:η Nat):(l.map dI).all cG=θ:=by rw[qk1];intro y q;obtain⟨z,L,rfl⟩:=qb8.mp q;rfl
variable{neg:Bool}{l:η Nat}
def gIn_ints{x:Nat}:bJ neg (dI x) (.e (l.map dI))=ς (.f (.bl (if neg then !decide (x∈l)else decide (x∈l)))):=by
 show gIn neg (dI x) (.e (l.map dI))=_;unfold gIn
 have:inD (dI x) (.e (l.map dI))=ς (decide (x∈l)):=by show(if cG (dI x)&&(l.map dI).all cG then ς ((l.map dI).any fun y=>eqF y (dI x))else ψ)=_;rw[p8,tJ];rfl
 rw[this];rfl
noncomputable def kpD(k:Nat×η Str):Dt:=.t [dI k.1,.t (k.2.map .str)]
def cdD(bg:η Str)(ks:η (Nat×η Str)):Dt:=.t [.t (bg.map .str),.t (ks.map kpD)]
theorem jk(b:Dt)(ks:η (Nat×η Str))(h:ks.length<=1000):z14 [.t [b,.t (ks.map kpD)]]=ς (.e ((ks.map (·.1)).map dI)):=by unfold z14;walk_at "k";rw[bw (h:=fun p:Nat×η Str=>dI p.1) fun p hp=>⟨_,rfl,rfl,by unfold z79 kpD;walk_at "k"⟩];walk_at "k";rw[cC (by rw[qa1];lia),qc6];walk_at "k";rfl
abbrev kcD(b:Dt)(ks:η (Nat×η Str)):Dt:=.t [b,.t (ks.map kpD)]
abbrev pcD(c s:Dt)(J0:η Rw):Dt:=.t [c,s,dR J0]
def gm(J0:η Rw)(i:Nat):η Nat:=match J0[i]? with
 |some r=>r.outs i
 |none=>[]
def jm(h:J0[i]?=ς r):gm J0 i=r.outs i:=by unfold gm;rw[h]
def stay(J0:η Rw)(l:η Nat):η Nat:=l.filter fun i=>(gm J0 i).any fun j=>decide (j∈l)
theorem np:∀bs:η Bool,jY (bs.map .bl)=ς bs
 |[]=>rfl
 |b::bs=>by rw[qa6];unfold jY;rw[np bs];rfl
def xZ(l js:η Nat):bE (am 0) bh z39 [ψ,ς (.f (.e (l.map dI)))] (js.map dI)=ς ((js.map fun j=>decide (j∈l)).map .bl):=by
 have:=bw (f:=dI) (h:=fun j=>Dt.bl (decide (j∈l))) (bb:=am 0) (ft:=bh) (fe:=z39) (δ:=[ψ,ς (.f (.e (l.map dI)))]) (l:=js) fun j _=>⟨[ς (.f (dI j)),ς (.f (.e (l.map dI)))],rfl,rfl,by unfold z39;show(bJ ξ (dI j) (.e (l.map dI))).bind T.d=_;rw[gIn_ints];rfl⟩
 rw[this,qc6];rfl
def vg(J0:η Rw)(l:η Nat)(i:Nat)(hi:i<J0.length):y18 [ς (.f (dI i)),ς (.f (dW J0)),ς (.f (.e (l.map dI)))]=ς ((gm J0 i).any fun j=>decide (j∈l)):=by
 have q:J0[i]?=ς J0[i]:=by simp[hi]
 have e:=oD q;have L:((J0[i]).outs i).length<=2:=Rw.outs_len _ _;unfold y18;rw[show dI i=Dt.int (i:Nat)from rfl];walk_at "k";rw[e];walk_at "k";rw[xZ,qa3,cC (by simp;lia)];walk_at "k";unfold qI;dsimp only;rw[np,jm q];walk_at "k";simp[List.any_map,Function.comp_def]
def vh(J0:η Rw)(l:η Nat)(q:∀i∈l,i<J0.length):bE (am 0) y18 (vL 0) [ψ,ς (.f (dW J0)),ς (.f (.e (l.map dI)))] (l.map dI)=ς ((stay J0 l).map dI):=bZ fun i hi=>⟨_,rfl,vg J0 l i (q i hi),fun _=>rfl⟩
variable{n:Nat}{δ δ2:De}
def ya{c:De->ζ Bool}{g:De->ζ Out}(h:c δ=ς θ)(q:g δ=ς (.nx δ2)):bp c g (n+1) δ=bp c g n δ2:=by rw[bp,h,qa3,if_pos rfl,q];rfl
def yb{c:De->ζ Bool}{g:De->ζ Out}(h:c δ=ς ξ):bp c g (n+1) δ=ς (.nx δ):=by rw[bp,h,qa3,if_neg Ω]
def lS(h:i∈stay J0 l):i∈l:=(qg4.mp h).1
def lT(J0:η Rw)(l:η Nat):(stay J0 l).length<=l.length:=qd6 _ _
def yc(h:¬ (stay J0 l).length<l.length):stay J0 l=l:=by have:=lT J0 l;exact(qo3 (p:=fun i=>(gm J0 i).any fun j=>decide (j∈l))).eq_of_length (by unfold stay at *;lia)
def yd (J0:η Rw) (l:η Nat) (O:∀ i∈l,i<J0.length) (Z:l.length<=1000) (q L x4:ζ T) :
  q40 [ς (.f (dW J0)),q,ς (.f (.e (l.map dI))),L,x4]=ς (.nx [ς (.f (dW J0)),q,ς (.f (.e ((stay J0 l).map dI))),ς (.f (.bl (decide ((stay J0 l).length<l.length)))),ς (.f (.e ((stay J0 l).map dI)))]):=by
 have U:=vh J0 l O;have Y:=lT J0 l
 have W:toD (aQ [ψ,ς 0,ς 2] (fIt (vB 2)) (am 0) y18 (vL 0)) [ς (.f (dW J0)),q,ς (.f (.e (l.map dI))),L,x4]=ς (.e ((stay J0 l).map dI)):=by show T.d =<< ((bE (am 0) y18 (vL 0) [ψ,ς (.f (dW J0)),ς (.f (.e (l.map dI)))] (l.map dI)).bind mkL)=_;rw[U,qa3,cC (by rw[qa1];lia)];rfl
 have s1:ap 4 (toT (toD (aQ [ψ,ς 0,ς 2] (fIt (vB 2)) (am 0) y18 (vL 0)))) [ς (.f (dW J0)),q,ς (.f (.e (l.map dI))),L,x4]=ς (.nx [ς (.f (dW J0)),q,ς (.f (.e (l.map dI))),L,ς (.f (.e ((stay J0 l).map dI)))]):=by unfold ap toT;rw[W];rfl
 unfold q40;rw[bL,s1,bF];walk_at "k";simp
theorem lU (J0:η Rw) (hn:J0.length<=500) (q:ζ T):∀ (f:Nat) (l:η Nat) (x4:ζ T),l.length<f->(∀ i∈l,i<J0.length)->l.Nodup->l.length<=1000→
  ∃(E:η Nat)(W:ζ T),bp q49 q40 (f+1) [ς (.f (dW J0)),q,ς (.f (.e (l.map dI))),ς (.f (.bl θ)),x4]=ς (.nx [ς (.f (dW J0)),q,ς (.f (.e (E.map dI))),ς (.f (.bl ξ)),W])/\stay J0 E=E/\E.Nodup/\(∀i∈E,i∈l)/\∀C:Nat->Prop,(∀i,C i->i∈l)->(∀i,C i->∃j∈gm J0 i,C j)->∀i,C i->i∈E
 |0,l,x4,h,_,_,_=>absurd h (qn7 _)
 |f+1,l,x4,h,Z,nd,h1=>by
  have hb:=yd J0 l Z h1 q (ς (.f (.bl θ))) x4;have hc:q49 [ς (.f (dW J0)),q,ς (.f (.e (l.map dI))),ς (.f (.bl θ)),x4]=ς θ:=rfl;have hs:=lT J0 l
  have keep:∀C:Nat->Prop,(∀i,C i->i∈l)->(∀i,C i->∃j∈gm J0 i,C j)->∀i,C i->i∈stay J0 l:=fun C L O i hi=>by obtain⟨j,hj,U⟩:=O i hi;refine qg4.mpr ⟨L i hi,?_⟩;rw[zc6];exact⟨j,hj,decide_eq_true (L j U)⟩
  rw[ya hc hb];by_cases z:(stay J0 l).length<l.length
  .rw[decide_eq_true z];obtain⟨E,W,e,g1,g2,g3,g4⟩:=lU J0 hn q f (stay J0 l) (ς (.f (.e ((stay J0 l).map dI)))) Θ (fun i hi=>Z i (lS hi)) (nd.sublist qo3) Θ;exact⟨E,W,e,g1,g2,fun i hi=>lS (g3 i hi),fun C L O=>g4 C (keep C L O) O⟩
  .rw[decide_eq_false z];have Y:=yc z;refine⟨stay J0 l,_,yb rfl,by rw[Y];exact Y,nd.sublist qo3,fun i hi=>lS hi,keep⟩
def rJ (J0:η Rw) (l:η Nat) (O:J0.length<=500) (q:∀ i∈l,i<J0.length) (L:l.Nodup) :
  ∃E:η Nat,y35 [dW J0,.e (l.map dI)]=ς (.f (.e (E.map dI)))/\stay J0 E=E/\E.Nodup/\(∀i∈E,i∈l)/\∀C:Nat->Prop,(∀i,C i->i∈l)->(∀i,C i->∃j∈gm J0 i,C j)->∀i,C i->i∈E:=by
 have h1:l.length<=J0.length:=by
  have:=bW L (m:=qd0 J0.length) fun x U=>qe9.mpr (q x U)
  simpa using this
 obtain⟨E,W,e,g⟩:=lU J0 O (ς (.f (.e (l.map dI)))) 99999 l ψ Θ q L Θ;refine⟨E,?_,g⟩;unfold y35;walk_at "k";rw[show(100000:Nat)=99999+1 from rfl,e];walk_at "k"
variable{fa fb:De->ζ Dt}{x y:Dt}
def aA{g:Dt->Dt->ζ T}(h1:fa δ=ς x)(h2:fb δ=ς y):d2 g fa fb δ=g x y:=by unfold d2;rw[h1,h2];rfl
def aj{f:De->ζ T}{t:T}(h:f δ=ς t):toD f δ=t.d:=by unfold toD;rw[h];rfl
variable{bb:Dt->De->ζ De}{ds:η Dt}
def cI{src:η (ζ Nat)}{fi:De->ζ (η Dt)}{ft:De->ζ Bool}{fe:De->ζ Dt}{ys:η Dt}(h1:fi δ=ς ds)(h2:bE bb ft fe (dC src δ) ds=ς ys)(h3:ys.length<=1000000):aQ src fi bb ft fe δ=ς (.e ys):=by unfold aQ;rw[h1,qa3,h2,qa3,if_pos (small h3)]
variable{f:De->ζ Dt}
def bq{F:η Dt->ζ T}(h:f δ=ς x):ag F (aa f af) δ=F [x]:=by unfold ag aa af;rw[h];rfl
variable{g:De->ζ Dt}
def br{F:η Dt->ζ T}(h:f δ=ς x)(h2:g δ=ς y):ag F (aa f (aa g af)) δ=F [x,y]:=by unfold ag aa af;rw[h,h2];rfl
theorem vi(kept:η Nat)(n:Nat):bE (am 0) q45 (vL 0) [ψ,ς (.f (.e (kept.map dI)))] ((qd0 n).map dI)=ς (((qd0 n).filter fun i=>!decide (i∈kept)).map dI):=bZ fun j _=>⟨[ς (.f (dI j)),ς (.f (.e (kept.map dI)))],rfl,by unfold q45;show((bJ θ (dI j) (.e (kept.map dI))).bind asB)=_;rw[gIn_ints];rfl,fun _=>rfl⟩
def jP(n:Nat)(h:n<=1000000):gG [.int n]=ς ((qd0 n).map dI):=by rw[Du Θ];unfold iE dI;simp
def ab{fs:De->ζ (η Dt)}{d:Dt}(h1:f δ=ς d)(h2:fs δ=ς ds):aa f fs δ=ς (d::ds):=by unfold aa;rw[h1,qa3,h2];rfl
def jn{fs:De->ζ (η Dt)}(h:fs δ=ς ds)(q:ds.length<=1000):av fs δ=ς (.f (.t ds)):=by unfold av;rw[h];exact if_pos (small Θ)
def tK(h:f δ=ς x)(h2:g δ=ς y):av (aa f (aa g af)) δ=ς (.f (.t [x,y])):=jn (ab h (ab h2 rfl)) Ξ
def b7{d:Dt}(h:f δ=ς d):toT f δ=ς (.f d):=by unfold toT;rw[h];rfl
def ej{F:η Dt->ζ T}{h:De->ζ Dt}{z:Dt}(h1:f δ=ς x)(h2:g δ=ς y)(h3:h δ=ς z):ag F (aa f (aa g (aa h af))) δ=F [x,y,z]:=by unfold ag;rw[ab h1 (ab h2 (ab h3 (show af δ=ς []from rfl)))];rfl
def dRt{m:Nat}{g:De->ζ Out}{t:T}(h:g (ds.map (fun d=>ς (T.f d))++qc1 (m-ds.length) ψ)=ς (.rt t)):bH m g ds=ς t:=by rw[jM,h];rfl
variable{g1:De->ζ Out}
def BV{c:De->ζ Bool}{r:De->ζ Out}{t:T}(h:c δ=ς θ)(h1:g1 δ=ς (.rt t)):ai (sIf c g1 bo) r δ=ς (.rt t):=by rw[bL,ni,h,jh,h1];rfl
def eM{c:De->ζ Bool}{r:De->ζ Out}(h:c δ=ς ξ):ai (sIf c g1 bo) r δ=r δ:=by rw[bL,ni,h,ji];rfl
variable{b:Bool}
def cM{g:Dt->Dt->ζ T}(h1:fa δ=ς x)(h2:fb δ=ς y)(h:g x y=ς (.f (.bl b))):tB2 g fa fb δ=ς b:=by unfold tB2;rw[aA h1 h2,h];rfl
def dj{f:De->ζ T}{t:T}(h:f δ=ς t):aV f δ=ς (.rt t):=by unfold aV;rw[h];rfl
structure Hd where
 x:Str
 n:Int
 b:Bool
def hdD(h:Hd):Dt:=.t [.str h.x,.int h.n,.bl h.b]
def oE{α:Type}(f:α->Dt)(cs ss:η α)(q:cs.length+ss.length<=1000):je (.t (cs.map f)) (.t (ss.map f))=ς (.f (.t ((cs++ss).map f))):=by
 cases cs with
 |nil=>rfl
 |cons a cs=>
  cases ss with
  |nil=>rw[qg5];rfl
  |cons b ss=>show(if((a::cs).map f).length+((b::ss).map f).length<=qb2/\(a::cs).map f≠[]/\(b::ss).map f≠[]then _ else ψ)=_;rw[if_pos ⟨by rw[qa1,qa1];exact small Θ,Ξ,Ξ⟩,qf5];rfl
def lV(cs ss:η Hd)(R:Dt)(q:cs.length+ss.length<=1000):q15 [.t [.t (cs.map hdD),.t (ss.map hdD),R]]=ς (.e ((((cs++ss).filter fun h=>!h.b).map (·.x)).map .str)):=by
 unfold q15;walk_at "k";rw[oE hdD cs ss q];walk_at "k"
 rw[bZ (h:=fun h:Hd=>Dt.str h.x) (p:=fun h=>!h.b) fun h _=>⟨_,rfl,by
  unfold y69 hdD;walk_at "k"
  try rfl,fun _=>by unfold z70 hdD;walk_at "k"⟩]
 walk_at "k";rw[cC (by rw[qa1];exact qb9 (qd6 _ _) (by rw[qc0];lia)),qc6];walk_at "k";rfl
abbrev pgD(cs ss:η Hd)(J0:η Rw):Dt:=.t [.t (cs.map hdD),.t (ss.map hdD),dR J0]
noncomputable def kdB(N:η Str):Rw->Bool
 |.fin _=>θ
 |.store c _=>decide (c∈N)
 |.lay f _ _=>decide (f∈N)
 |_=>ξ
def kds(N:η Str):Nat->η Rw->η Nat
 |_,[]=>[]
 |k,r::rs=>(if kdB N r then [k]else [])++kds N (k+1) rs
variable{N:η Str}{j:Nat}
theorem kds_mem:∀{k:Nat}{rs:η Rw},j∈kds N k rs↔k<=j/\∃r,rs[j-k]?=ς r/\kdB N r=θ
 |k,[]=>by simp[kds]
 |k,r::rs=>by
  rw[kds,qe1,kds_mem];constructor
  .rintro(h|⟨h,q,h1,h2⟩)
   .split at h
    .rename_i L;rw[qa4.mp h];exact⟨qp1 _,r,Ξ,L⟩
    .cases h
   .refine⟨Θ,q,?_,h2⟩;rw[show j-k=(j-(k+1))+1 by lia];exact h1
  .rintro⟨h,q,h1,h2⟩;by_cases e:j=k
   .subst e;rw[qu7]at h1;cases h1;left;rw[if_pos h2];exact .head _
   .right;refine⟨Θ,q,?_,h2⟩;rw[show j-k=(j-(k+1))+1 by lia]at h1;exact h1
theorem tM(N:η Str):∀(k:Nat)(rs:η Rw),(kds N k rs).length<=rs.length
 |_,[]=>nL _
 |k,r::rs=>by have:=tM N (k+1) rs;rw[kds,qc0,qd2];split<;>simp<;>lia
theorem vj(N:η Str)(r:Rw)(O q L:ζ T):fOr (tB2 (gEq ξ) (toD (d2 ah (vB 4) (kD (.int 0)))) (kD (.str "end"))) (cY (tB2 (bJ ξ) (toD (d2 ah (vB 4) (kD (.int 0)))) (toD (av (aa (kD (.str "store")) (aa (kD (.str "lay")) af))))) (tB2 (bJ ξ) (toD (d2 ah (vB 4) (kD (.int 1)))) (vB 1))) [O,ς (.f (dS N)),q,L,ς (.f r.d)]=ς (kdB N r):=by cases r<;>simp only[Rw.d,kdB,dS]<;>walk_at "k"<;>(try rw[gIn_strs])<;>(try rfl)
theorem tN(N:η Str)(q:ζ T):∀(rs:η Rw)(k:Nat)(J5:η Nat)(L x4:ζ T),J5.length+rs.length<=1000->∃U O,cA (eG 2 (aW (am 3) (aW (am 4) eF))) z21 (de k (rs.map Rw.d)) [q,ς (.f (dS N)),ς (.e (J5.map dI)),L,x4]=ς (.nx [q,ς (.f (dS N)),ς (.e ((J5++kds N k rs).map dI)),U,O])
 |[],k,J5,L,x4,_=>⟨L,x4,by rw[kds,qg5];rfl⟩
 |r::rs,k,J5,L,x4,h=>by
  have W:eG 2 (aW (am 3) (aW (am 4) eF)) (.t [.int (k:Nat),r.d]) [q,ς (.f (dS N)),ς (.e (J5.map dI)),L,x4]=ς [q,ς (.f (dS N)),ς (.e (J5.map dI)),ς (.f (.int (k:Nat))),ς (.f r.d)]:=rfl
  have Y:z21 [q,ς (.f (dS N)),ς (.e (J5.map dI)),ς (.f (.int (k:Nat))),ς (.f r.d)]=ς (.nx [q,ς (.f (dS N)),ς (.e ((J5++if kdB N r then [k]else []).map dI)),ς (.f (.int (k:Nat))),ς (.f r.d)]):=by
   unfold z21;rw[ni,vj];cases kdB N r with
   |false=>rw[ji];simp;rfl
   |true=>rw[jh];rw[j6 (l:=J5.map dI) rfl,show vL 3 [q,ς (.f (dS N)),ς (.e (J5.map dI)),ς (.f (.int (k:Nat))),ς (.f r.d)]=ς (dI k)from rfl,qa3,fD (by rw[qa1];simp at h;lia)];simp
  obtain⟨U,O,e⟩:=tN N q rs (k+1) (J5++if kdB N r then [k]else []) (ς (.f (.int (k:Nat)))) (ς (.f r.d)) (by simp at h ⊢;split<;>simp<;>lia);refine⟨U,O,?_⟩;rw[qa6,de,aS W Y,e,kds,qj5]
def rK(cs ss:η Hd)(J0:η Rw)(O:cs.length+ss.length<=1000)(Y:J0.length<=1000):y27 [pgD cs ss J0]=ς (.e ((kds (((cs++ss).filter fun h=>!h.b).map (·.x)) 0 J0).map dI)):=by
 unfold y27;rw[jM];generalize U:((cs++ss).filter fun h=>!h.b).map (·.x)=N
 have L:ap 1 (toT (toD (ag q15 (aa (vL 0) af)))) [ς (.f (pgD cs ss J0)),ψ,ψ,ψ,ψ]=ς (.nx [ς (.f (pgD cs ss J0)),ς (.f (dS N)),ψ,ψ,ψ]):=by have:=lV cs ss (dR J0) O;rw[U]at this;walk_at "k";rw[this];rfl
 obtain⟨y3,Z,W⟩:=tN N (ς (.f (pgD cs ss J0))) J0 0 [] ψ ψ (by simpa using Y);show oj (ai _ _ [ς (.f (pgD cs ss J0)),ψ,ψ,ψ,ψ])=_;rw[bL,L,bF,bL];show oj (ai _ _ [ς (.f (pgD cs ss J0)),ς (.f (dS N)),ς (.e ([].map dI)),ψ,ψ])=_;rw[bL];have q:cV (da iw (aa (toD (d2 ah (vB 0) (kD (.int 2)))) af)) (eG 2 (aW (am 3) (aW (am 4) eF))) z21 [ς (.f (pgD cs ss J0)),ς (.f (dS N)),ς (.e (([]:η Nat).map dI)),ψ,ψ]=cA (eG 2 (aW (am 3) (aW (am 4) eF))) z21 (de 0 (J0.map Rw.d)) [ς (.f (pgD cs ss J0)),ς (.f (dS N)),ς (.e (([]:η Nat).map dI)),ψ,ψ]:=rfl;rw[q,W,bF];rfl
def bks:Nat->η Rw->η Nat
 |_,[]=>[]
 |k,r::rs=>(r.outs k).filter (fun j=>decide (j<=k))++bks (k+1) rs
theorem bks_mem:∀{k:Nat}{rs:η Rw},j∈bks k rs↔∃i r,rs[i]?=ς r/\j∈r.outs (k+i)/\j<=k+i
 |k,[]=>by simp[bks]
 |k,r::rs=>by
  rw[bks,qe1,bks_mem,qg4];constructor
  .rintro(⟨h1,h2⟩|⟨i,q,h1,h2,h3⟩)
   .exact⟨0,r,rfl,h1,by simpa using h2⟩
   .exact⟨i+1,q,h1,by rw[show k+(i+1)=k+1+i by lia];exact h2,Θ⟩
  .rintro⟨i,q,h1,h2,h3⟩;cases i with
   |zero=>cases h1;exact .inl ⟨h2,by simpa using h3⟩
   |succ i=>exact .inr ⟨i,q,h1,by rw[show k+1+i=k+(i+1)by lia];exact h2,Θ⟩
theorem tP:∀(k:Nat)(rs:η Rw),(bks k rs).length<=2*rs.length
 |_,[]=>nL _
 |k,r::rs=>by have h1:=tP (k+1) rs;have h2:=qb9 (qd6 (fun j=>decide (j<=k)) (r.outs k)) (r.outs_len k);rw[bks,qc0,qd2];lia
theorem vk(k:Nat)(js:η Nat):bE (am 0) z26 (vL 0) [ψ,ς (.f (.int (k:Nat)))] (js.map dI)=ς ((js.filter fun j=>decide (j<=k)).map dI):=bZ fun j _=>⟨_,rfl,by unfold z26;show ς (decide (((j:Nat):Int)<=(k:Nat)))=_;congr 1;rw[decide_eq_decide];lia,fun _=>rfl⟩
theorem tQ(q:ζ T):∀(rs:η Rw)(k:Nat)(J5:η Nat)(L O:ζ T),J5.length+2*rs.length<=10000->∃U W,cA (eG 2 (aW (am 2) (aW (am 3) eF))) z17 (de k (rs.mapIdx fun i r=>.t ((r.outs (k+i)).map dI))) [q,ς (.e (J5.map dI)),L,O]=ς (.nx [q,ς (.e ((J5++bks k rs).map dI)),U,W])
 |[],k,J5,L,O,_=>⟨L,O,by rw[bks,qg5];rfl⟩
 |r::rs,k,J5,L,O,h=>by
  rw[qd2]at h;have h2:=qb9 (qd6 (fun j=>decide (j<=k)) (r.outs k)) (r.outs_len k);have Z:eG 2 (aW (am 2) (aW (am 3) eF)) (.t [.int (k:Nat),.t ((r.outs k).map dI)]) [q,ς (.e (J5.map dI)),L,O]=ς [q,ς (.e (J5.map dI)),ς (.f (.int (k:Nat))),ς (.f (.t ((r.outs k).map dI)))]:=rfl
  have e2:z17 [q,ς (.e (J5.map dI)),ς (.f (.int (k:Nat))),ς (.f (.t ((r.outs k).map dI)))]=ς (.nx [q,ς (.e ((J5++(r.outs k).filter fun j=>decide (j<=k)).map dI)),ς (.f (.int (k:Nat))),ς (.f (.t ((r.outs k).map dI)))]):=by
   unfold z17;rw[BR (l:=J5.map dI) (m:=((r.outs k).filter fun j=>decide (j<=k)).map dI) rfl,tH (by rw[qa1,qa1];lia)]
   .rw[qf5];rfl
   .show(bE (am 0) z26 (vL 0) [ψ,ς (.f (.int (k:Nat)))] ((r.outs k).map dI)).bind mkL=_;rw[vk,qa3,cC (by rw[qa1];lia)]
  obtain⟨U,W,e⟩:=tQ q rs (k+1) (J5++(r.outs k).filter fun j=>decide (j<=k)) (ς (.f (.int (k:Nat)))) (ς (.f (.t ((r.outs k).map dI)))) (by rw[qc0];lia);refine⟨U,W,?_⟩;rw[zc5,de,Nat.add_zero,aS Z e2]
  have Y:(fun i r=>Dt.t (zj9 dI (Rw.outs (k+(i+1)) r)))=fun i r=>Dt.t (zj9 dI (Rw.outs (k+1+i) r)):=by funext i r;rw[show k+(i+1)=k+1+i by lia]
  rw[Y,e,bks,qj5]
def p9(c s:Dt)(J0:η Rw)(U:J0.length<=1000):z19 [.t [c,s,dR J0]]=ς (.e ((bks 0 J0).map dI)):=by
 unfold z19;rw[jM];obtain⟨W,Y,O⟩:=tQ (ς (.f (.t [c,s,dR J0]))) J0 0 [] ψ ψ (by simp;lia);have L:=kH c s J0 U;show oj (ai _ _ [ς (.f (.t [c,s,dR J0])),ς (.e (([]:η Nat).map dI)),ψ,ψ])=_;rw[bL]
 have q:cV (da iw (aa (toD (ag dz (aa (vL 0) af))) af)) (eG 2 (aW (am 2) (aW (am 3) eF))) z17 [ς (.f (.t [c,s,dR J0])),ς (.e (([]:η Nat).map dI)),ψ,ψ]=cA (eG 2 (aW (am 2) (aW (am 3) eF))) z17 (de 0 (J0.mapIdx fun i r=>.t ((r.outs (0+i)).map dI))) [ς (.f (.t [c,s,dR J0])),ς (.e (([]:η Nat).map dI)),ψ,ψ]:=by walk_at "k";rw[L];simp only[zf5];rfl
 rw[q,O,bF];rfl
def orE{f g:De->ζ Bool}{a:Bool}(h1:f δ=ς a)(h2:a=ξ->g δ=ς b):fOr f g δ=ς (a||b):=by
 rw[Fs,h1];cases a with
 |true=>rfl
 |false=>exact h2 rfl
def b9{fs:De->ζ (η Dt)}(h:fs δ=ς ds)(q:ds.length<=1000):toD (aR fs) δ=ς (.e ds):=aj (t:=.e ds) (by rw[rC,h,qa3,cC Θ])
def aZ{fs:De->ζ (η Dt)}(h:fs δ=ς ds)(q:ds.length<=1000):toD (av fs) δ=ς (.t ds):=aj (t:=.f (.t ds)) (jn h q)
def jo{l m:η Dt}(h1:fa δ=ς (.e l))(h2:fb δ=ς (.e m))(q:l.length+m.length<=1000):toD (d2 az fa fb) δ=ς (.e (l++m)):=aj (t:=.e (l++m)) ((aA h1 h2).trans (jj Θ))
variable{a:Nat}
def ca{b c:Nat}(h1:fa δ=ς (dI a))(h2:fb δ=ς (dI b))(h:c=a+b):toD (d2 az fa fb) δ=ς (dI c):=aj (t:=.f (dI c)) ((aA h1 h2).trans (by rw[h];exact congrArg (fun z:Int=>ς (T.f (.int z))) (Int.natCast_add a b).symm))
def hX{l:η Dt}(h:f δ=ς (.e l))(q:n=l.length):toD (ag bz (aa f af)) δ=ς (dI n):=aj (t:=.f (dI n)) ((bq h).trans (by rw[q];rfl))
def cS{α β:Type}(f:α->β)(l:η α)(k:Nat)(h:k<l.length)(d:α):atI (l.map f) (k:Int)=ς (f (l.getD k d)):=by unfold atI ixN;rw[if_pos Θ,qa1,if_pos Θ];simp[h]
def eV(ns:η Int)(k:Nat):y1 [.e (ns.map .int),.int k]=ς (.f (.int (ns.getD k 0))):=by
 unfold y1;walk_at "d";by_cases h:k<ns.length
 .rw[gl (by simpa using h)];walk_at "d";rw[cS Dt.int ns k h 0];rfl
 .rw[fC (by simpa using h)];walk_at "d";simp[List.getD,show ns.length<=k by lia]
def il{i j:Int}(q:0<j)(h1:j<10000000000000):gz (.int i) (.int j)=ς (.f (.int (i/j))):=if_pos ⟨q,Θ⟩
theorem j9(q:ζ T):∀(zs:η Nat)(n:Int)(done:η Nat)(L:ζ T),(∀z∈zs,0<z/\z<10000000000000)->done.length+zs.length<=100->∃(O:Int)(ds:η Nat)(y:ζ T),cA (am 3) z51 (zs.map dI) [ς (.f (.int n)),q,ς (.e (done.map dI)),L]=ς (.nx [ς (.f (.int O)),q,ς (.e ((done++ds).map dI)),y])/\ds.length=zs.length/\∀(i d z:Nat),ds[i]?=ς d->zs[i]?=ς z->d<z
 |[],n,done,L,_,_=>⟨n,[],L,by simp[cA],rfl,fun i d z h=>by simp at h⟩
 |z::zs,n,done,L,U,W=>by
  obtain⟨h0,h1⟩:=U z (.head _);have m0:=qx5 n (show(z:Int)≠0 by lia);have m1:=qy8 n (show(0:Int)<z by lia);obtain⟨d,Z⟩:∃d:Nat,n%(z:Int)=(d:Int):=⟨(n%(z:Int)).toNat,Θ⟩;obtain⟨O,ds,y,e,el,ed⟩:=j9 q zs (n/z) (done++[d]) (ς (.f (dI z))) (fun w hw=>U w (.tail _ hw)) (by simp at W ⊢;lia);refine⟨O,d::ds,y,?_,by simp[el],fun i d' Y h1 h2=>?_⟩
  .rw[qa6,aS (δ1:=[ς (.f (.int n)),q,ς (.e (done.map dI)),ς (.f (dI z))]) (δ2:=[ς (.f (.int (n/z))),q,ς (.e ((done++[d]).map dI)),ς (.f (dI z))]) rfl ?_]
   .rw[e];simp
   .unfold z51 dI;walk_at "d";rw[j6 rfl];walk_at "d";rw[fu Θ,Z];walk_at "d";rw[fD (by rw[qa1];simp at W;lia)];walk_at "d";rw[il Θ Θ];walk_at "d";simp[dI]
  .cases i with
   |zero=>simp at h1 h2;subst h1 h2;lia
   |succ i=>exact ed i d' Y (by simpa using h1) (by simpa using h2)
theorem dO(n:Int)(zs:η Nat)(q:∀z∈zs,0<z/\z<10000000000000)(U:zs.length<=50):∃ds:η Nat,q12 [.int n,.e (zs.map dI)]=ς (.e (ds.map dI))/\ds.length=zs.length/\∀(i d z:Nat),ds[i]?=ς d->zs[i]?=ς z->d<z:=by obtain⟨W,ds,y,e,O,L⟩:=j9 (ς (.f (.e (zs.map dI)))) zs n [] ψ q (by simp;lia);refine⟨ds,?_,O,L⟩;unfold q12;walk_at "d";rw[show([]:η Dt)=([]:η Nat).map dI from rfl,e];walk_at "d"
theorem nq{α:Type}(a:Array α):∀(n:Nat)(J5:Array α),((qc1 n a).foldl (· ++ ·) J5).size=J5.size+n*a.size
 |0,J5=>by simp
 |n+1,J5=>by rw[qh9,qh6,nq a n,Array.size_append,zj4];lia
def tR(c n:Nat):(iF ⟨#[c]⟩ n).length<=n+1:=by
 unfold iF;split
 .simp[Str.empty,zf7]
 .split
  .simp[zf7]
  .show((qc1 (n:Int).toNat #[c]).foldl (· ++ ·) #[]).size<=n+1;rw[nq];simp
def tT(c n:Nat)(h:n<=10):jf (.str ⟨#[c]⟩) (.int n)=ς (.f (.str (iF ⟨#[c]⟩ n))):=if_pos ⟨Θ,Θ,by simp[zf7]⟩
theorem AN(c d m n:Nat)(L:m<=10)(q:n<=10):∃w:Str,((Option.bind ((Option.bind (jf (.str ⟨#[c]⟩) (.int m)) T.d).bind fun x=>az x (.str ⟨#[d]⟩)) T.d).bind fun x=>(Option.bind (jf (.str ⟨#[c]⟩) (.int n)) T.d).bind fun y=>az x y)=ς (.f (.str w)):=by
 have W:=tR c m;have U:=tR c n;have O:qb2=16777216:=qw7;refine⟨iF ⟨#[c]⟩ m++⟨#[d]⟩++iF ⟨#[c]⟩ n,?_⟩;rw[tT c m L,tT c n q];show((((az (.str (iF ⟨#[c]⟩ m)) (.str ⟨#[d]⟩)).bind T.d).bind fun y=>az y (.str (iF ⟨#[c]⟩ n))))=_;rw[xA (by simp[zf7]at *;lia)];show az (.str (iF ⟨#[c]⟩ m++⟨#[d]⟩)) (.str (iF ⟨#[c]⟩ n))=_
 have e:(iF ⟨#[c]⟩ m++(⟨#[d]⟩:Str)).length=(iF ⟨#[c]⟩ m).length+1:=by show((iF ⟨#[c]⟩ m).cps++#[d]).size=_;rw[Array.size_append];rfl
 rw[xA (by rw[e];lia)]
def vm (W U L:ζ T) (e0 e1 q O at' sz:Nat) (c k:Nat) (J5:η Str) (Z:ζ T) (h2:q<26) (ha:at'<sz) (hz:sz<=6) (hl:J5.length<=1000) :
  ∃(w:Str)(y9:ζ T),y45 [W,U,L,ς (.f (.e ([e0,e1,q,O].map dI))),ς (.f (dI sz)),ς (.f (dI at')),ς (.f (.str ⟨#[c]⟩)),ς (.e (J5.map .str)),ς (.f (dI k)),Z]=ς (.nx [W,U,L,ς (.f (.e ([e0,e1,q,O].map dI))),ς (.f (dI sz)),ς (.f (dI at')),ς (.f (.str ⟨#[c]⟩)),ς (.e ((J5++[w]).map .str)),ς (.f (dI k)),y9]):=by
 obtain⟨ch,Y,_⟩:=kE (x:="abcdefghijklmnopqrstuvwxyz") (i:=((q:Int)+(k:Int))%26) Ω Θ (by
  have:(("abcdefghijklmnopqrstuvwxyz":Str).length:Int)=26:=by decide
  lia)
 obtain⟨w,hw⟩:=AN c ch at' (sz-1-at') Θ Θ
 refine⟨w,ς (.f (.str ⟨#[ch]⟩)),?_⟩;unfold y45
 have s1:ap 9 (toT (toD (d2 ah (kD (.str "abcdefghijklmnopqrstuvwxyz")) (toD (d2 cg (toD (d2 az (toD (d2 ah (vB 3) (kD (.int 2)))) (vB 8))) (kD (.int 26))))))) [W,U,L,ς (.f (.e ([e0,e1,q,O].map dI))),ς (.f (dI sz)),ς (.f (dI at')),ς (.f (.str ⟨#[c]⟩)),ς (.e (J5.map .str)),ς (.f (dI k)),Z]=ς (.nx [W,U,L,ς (.f (.e ([e0,e1,q,O].map dI))),ς (.f (dI sz)),ς (.f (dI at')),ς (.f (.str ⟨#[c]⟩)),ς (.e (J5.map .str)),ς (.f (dI k)),ς (.f (.str ⟨#[ch]⟩))]):=by unfold dI;walk_at "k";rw[show ah (Dt.str "abcdefghijklmnopqrstuvwxyz") (Dt.int (((q:Int)+(k:Int))%26))=_ from Y];rfl
 rw[bL,s1,bF,j6 rfl]
 have e:(toD (d2 az (toD (d2 az (toD (d2 jf (vB 6) (vB 5))) (vB 9))) (toD (d2 jf (vB 6) (toD (d2 fj (toD (d2 fj (vB 4) (kD (.int 1)))) (vB 5))))))) [W,U,L,ς (.f (.e ([e0,e1,q,O].map dI))),ς (.f (dI sz)),ς (.f (dI at')),ς (.f (.str ⟨#[c]⟩)),ς (.e (J5.map .str)),ς (.f (dI k)),ς (.f (.str ⟨#[ch]⟩))]=ς (.str w):=by
  have h3:((sz:Nat):Int)-1-((at':Nat):Int)=((sz-1-at':Nat):Int):=by lia
  rw[<- h3]at hw;unfold dI;walk_at "k";rw[hw];rfl
 rw[e,qa3,fD (by rw[qa1];lia)];simp
theorem qa(Y W O:ζ T)(e0 e1 q U at' sz c:Nat)(h2:q<26)(ha:at'<sz)(hz:sz<=6):∀(ks:η Nat)(J5:η Str)(Z L:ζ T),J5.length+ks.length<=1000->∃(l:η Str)(y8 y9:ζ T),l.length=ks.length/\cA (am 8) y45 (ks.map dI) [Y,W,O,ς (.f (.e ([e0,e1,q,U].map dI))),ς (.f (dI sz)),ς (.f (dI at')),ς (.f (.str ⟨#[c]⟩)),ς (.e (J5.map .str)),Z,L]=ς (.nx [Y,W,O,ς (.f (.e ([e0,e1,q,U].map dI))),ς (.f (dI sz)),ς (.f (dI at')),ς (.f (.str ⟨#[c]⟩)),ς (.e ((J5++l).map .str)),y8,y9])
 |[],J5,Z,L,_=>⟨[],Z,L,rfl,by rw[qg5];rfl⟩
 |k::ks,J5,Z,L,h=>by
  rw[qd2]at h;obtain⟨w,z9,e⟩:=vm Y W O e0 e1 q U at' sz c k J5 L h2 ha hz Θ
  obtain⟨l,y8,y9,hl,q⟩:=qa Y W O e0 e1 q U at' sz c h2 ha hz ks (J5++[w]) (ς (.f (dI k))) z9 (by simp;lia)
  refine⟨w::l,y8,y9,by simp[hl],?_⟩;rw[qa6,aS (δ1:=[Y,W,O,ς (.f (.e ([e0,e1,_,U].map dI))),ς (.f (dI sz)),ς (.f (dI at')),ς (.f (.str ⟨#[c]⟩)),ς (.e (J5.map .str)),ς (.f (dI k)),L]) rfl e,q];simp
def four(h:l.length=4):∃a b c d,l=[a,b,c,d]:=by
 match l,h with
 |[a,b,c,d],_=>exact⟨a,b,c,d,rfl⟩
def fU(c:Int)(m:Nat)(hm:m<=100):∃l:η Str,l.length=m/\y12 [.int c,.int m]=ς (.e (l.map .str)):=by
 obtain⟨ds,e1,hl,O⟩:=dO (c*48271%1000000007) [6,6,26,5] (by intro z hz;simp at hz;lia) Ω;obtain⟨q,L,Z,U,rfl⟩:=four hl;have h0:=O 0 q 6 rfl rfl;have h1:=O 1 L 6 rfl rfl;have h2:=O 2 Z 26 rfl rfl;have h3:=O 3 U 5 rfl rfl
 obtain⟨cc,W,_⟩:=kE (x:="qxzjw") (i:=(U:Int)) Ω Θ (by
  have:(("qxzjw":Str).length:Int)=5:=by decide
  lia)
 obtain⟨l,y8,y9,Y,e2⟩:=qa (ς (.f (.int c))) (ς (.f (.int m))) (ς (.f (.int (c*48271%1000000007)))) q L Z U (L%(1+q)) (1+q) cc h2 (za5 _ Θ) Θ (qd0 m) [] ψ ψ (by simp;lia);refine⟨l,by simpa using Y,?_⟩;unfold y12;walk_at "d";rw[show Dt.e [Dt.int 6,Dt.int 6,Dt.int 26,Dt.int 5]=.e ([6,6,26,5].map dI)from rfl,e1];simp only[qa6,qj9,dI];walk_at "d";rw[fu Θ];walk_at "d";rw[W];walk_at "d";rw[jP m Θ,qa3];have e3:(L:Int)%(1+(q:Int))=((L%(1+q):Nat):Int):=by simp
 have e4:(1:Int)+(q:Int)=((1+q:Nat):Int):=by lia
 rw[e3,e4];simp only[qa6,qj9,dI]at e2;rw[e2];rfl
def hZ{B:η Str}{k:Nat}(h:k<B.length):ah (.e (B.map .str)) (.int k)=ς (.f (.str (B.getD k ""))):=by rw[eJ,cS Dt.str B k h ""];rfl
def nr{B:η Str}{k:Nat}(h:k<B.length):B.getD k ""∈B:=by simp[qb5,h]
def oF(d:Nat)(c:Int)(B:η Str):∃a:Atm,q23 [.int d,.int c,.e (B.map .str)]=ς (.f a.d)/\∀x,a=.nm x->x∈B:=by
 unfold q23;walk_at "d";rw[qa1];by_cases h:d<B.length
 .rw[gl (by simpa using h)];walk_at "d";rw[cS Dt.str B d h ""];exact⟨.nm (B.getD d ""),rfl,fun x e=>by cases e;exact nr h⟩
 .rw[fC (by simpa using h)];walk_at "d";by_cases h2:c%3=0
  .rw[gl (by simpa using h2)];walk_at "d";rw[il Ω Ω];walk_at "d";exact⟨.vl _,rfl,fun x e=>by cases e⟩
  .rw[fC (by simpa using h2)];walk_at "d";exact⟨.vl _,rfl,fun x e=>by cases e⟩
def Gd(B:η Str)(q:Nat)(r:Rw):Prop:=(∀b∈r.reads,b∈B)/\∀i j,j∈r.outs i->j<q∨j=i+1
def cT{B:η Str}(h:∀x,Atm.nm x∈r.atoms->x∈B):∀b∈r.reads,b∈B:=fun b q=>by
 have q:=onces_mem.mp q
 have L:∀as:η Atm,b∈nms as->Atm.nm b∈as:=fun as=>by
  induction as with
  |nil=>intro h;cases h
  |cons a as O=>
   cases a with
   |nm x=>
    intro h;rcases qa8.mp h with rfl|h
    .exact .head _
    .exact .tail _ (O h)
   |vl i=>exact fun h=>.tail _ (O h)
 exact h b (L _ q)
def FD(h:l.length=7):∃a b c d e f g,l=[a,b,c,d,e,f,g]:=by
 match l,h with
 |[a,b,c,d,e,f,g],_=>exact⟨a,b,c,d,e,f,g,rfl⟩
def AO (cell:Int) (many:Nat) (C S B:η Str) (hm:0<many) (hm2:many<=1000) (hC:0<C.length) (hC2:C.length<=100) (hS:S.length<=100) (hB:0<B.length) (hB2:B.length<=100) :
  ∃r:Rw,y38 [.int cell,.int many,.e (C.map .str),.e (S.map .str),.e (B.map .str)]=ς (.f r.d)/\Gd B many r:=by
 obtain⟨ds,e1,hl,hd⟩:=dO (cell*48271%1000000007) [16,B.length,B.length+2,B.length+2,9,12,many] (by intro z hz;simp at hz;lia) Ξ;obtain⟨k,b,p,q,sg,cc,g,rfl⟩:=FD hl;have h0:=hd 0 k _ rfl rfl;have h1:=hd 1 b _ rfl rfl;have h4:=hd 4 sg _ rfl rfl;have h6:=hd 6 g _ rfl rfl;clear hd hl;obtain⟨a1,ea1,ha1⟩:=oF p cell B;obtain⟨a2,ea2,ha2⟩:=oF q (cell/5) B;have hx:=hZ h1;have hcm:cc%C.length<C.length:=za5 _ hC;have hc:=hZ hcm
 obtain⟨sn,hsn,_⟩:=kE (x:="+-*<=&|^+") (i:=(sg:Int)) Ω Θ (by
  have:(("+-*<=&|^+":Str).length:Int)=9:=by decide
  lia)
 simp only[qa6,qj9,dI]at e1;unfold y38;walk_at "d";rw[qa1,show q12 [Dt.int (cell*48271%1000000007),Dt.e [Dt.int 16,Dt.int B.length,Dt.int ((B.length:Int)+2),Dt.int ((B.length:Int)+2),Dt.int 9,Dt.int 12,Dt.int many]]=_ from e1];walk_at "d";rw[ea1];walk_at "d";rw[il Ω Ω];walk_at "d";rw[ea2];walk_at "d";rw[cS Dt.str B b h1 ""];walk_at "d";rw[qa1,fu Θ];walk_at "d";rw[show((cc:Nat):Int)%((C.length:Nat):Int)=((cc%C.length:Nat):Int)by simp,cS Dt.str C _ hcm ""];walk_at "d";generalize C.getD (cc%C.length) ""=cn;generalize B.getD b ""=xn;have hk:(k:Int)=0∨(k:Int)=1∨(k:Int)=2∨(k:Int)=3∨(k:Int)=4∨(k:Int)=5∨(k:Int)=6∨(k:Int)=7∨(k:Int)=8∨(k:Int)=9∨(k:Int)=10∨(k:Int)=11∨(k:Int)=12∨(k:Int)=13∨(k:Int)=14∨(k:Int)=15:=by lia
 clear hx hc h0;have g0:∀(r:Rw),(∀x,Atm.nm x∈r.atoms->x∈B)->(∀i j,j∈r.outs i->j<many∨j=i+1)->Gd B many r:=fun r x y=>⟨cT x,y⟩
 have q0:∀x,Atm.nm x∈([]:η Atm)->x∈B:=fun x h=>by cases h
 have q1:∀x,Atm.nm x∈[a1]->x∈B:=fun x h=>ha1 x (qa4.mp h).symm
 have q2:∀x,Atm.nm x∈[a1,a2]->x∈B:=fun x h=>by
  rcases qa8.mp h with h|h
  .exact ha1 x h.symm
  .exact ha2 x (qa4.mp h).symm
 have o1:∀i j:Nat,j∈[i+1]->j<many∨j=i+1:=fun i j h=>.inr (qa4.mp h)
 have o2:∀i j:Nat,j∈[g,i+1]->j<many∨j=i+1:=fun i j h=>by
  rcases qa8.mp h with rfl|h
  .exact .inl h6
  .exact .inr (qa4.mp h)
 have o3:∀i j:Nat,j∈[g]->j<many∨j=i+1:=fun i j h=>.inl (qa4.mp h▸h6)
 rcases hk with hk|hk|hk|hk|hk|hk|hk|hk|hk|hk|hk|hk|hk|hk|hk|hk<;>rw[hk]<;>clear hk
 .exact⟨.copy xn a1,rfl,g0 _ q1 o1⟩
 .walk_at "k";rw[hsn];exact⟨.op xn ⟨#[sn]⟩ a1 a2,rfl,g0 _ q2 o1⟩
 .walk_at "k";rw[hsn];exact⟨.op xn ⟨#[sn]⟩ a1 a2,rfl,g0 _ q2 o1⟩
 .exact⟨.load xn cn,rfl,g0 _ q0 o1⟩
 .exact⟨.load xn cn,rfl,g0 _ q0 o1⟩
 .exact⟨.store cn a1,rfl,g0 _ q1 o1⟩
 .exact⟨.store cn a1,rfl,g0 _ q1 o1⟩
 .walk_at "k";rw[qa1];by_cases z:0<S.length
  .rw[gl (by simpa using z)];walk_at "k";rw[qa1,fu Θ];walk_at "k";rw[show((cc:Nat):Int)%((S.length:Nat):Int)=((cc%S.length:Nat):Int)by simp,cS Dt.str S _ (za5 _ z) ""];exact⟨.take xn (S.getD (cc%S.length) "") a1,rfl,g0 _ q1 o1⟩
  .rw[fC (by simpa using z)];exact⟨.load xn cn,rfl,g0 _ q0 o1⟩
 .walk_at "k";rw[qa1];by_cases z:0<S.length
  .rw[gl (by simpa using z)];walk_at "k";rw[qa1,fu Θ];walk_at "k";rw[show((cc:Nat):Int)%((S.length:Nat):Int)=((cc%S.length:Nat):Int)by simp,cS Dt.str S _ (za5 _ z) ""];exact⟨.lay (S.getD (cc%S.length) "") a1 a2,rfl,g0 _ q2 o1⟩
  .rw[fC (by simpa using z)];exact⟨.store cn a1,rfl,g0 _ q1 o1⟩
 .exact⟨.hear xn,rfl,g0 _ q0 o1⟩
 .exact⟨.say a1,rfl,g0 _ q1 o1⟩
 .exact⟨.iff a1 g,rfl,g0 _ q1 o2⟩
 .exact⟨.iff a1 g,rfl,g0 _ q1 o2⟩
 .exact⟨.go g,rfl,g0 _ q0 o3⟩
 .exact⟨.fin a1,rfl,g0 _ q1 fun i j h=>by cases h⟩
 .walk_at "k";rw[hsn];exact⟨.op xn ⟨#[sn]⟩ a1 a2,rfl,g0 _ q2 o1⟩
def rL{D:η Nat}(h:j<D.length):atI (D.map dI) (j:Int)=ς (dI (D.getD j 0)):=cS dI D j h 0
def vn (x0 Z W Y x6 x7 O U L q:ζ T) (D:η Nat) (N:η Str) (st:Int) (J5:η Hd) (k:Nat) (hD:D.length=12) (hN:N.length=13) (hk:k<8) (hl:J5.length<=1000) :
  ∃h:Hd,q31 [x0,Z,W,Y,ς (.f (.e (D.map dI))),ς (.f (.e (N.map .str))),x6,x7,ς (.f (.int st)),ς (.e (J5.map hdD)),ς (.f (dI k)),O,U,L,q]=ς (.nx [x0,Z,W,Y,ς (.f (.e (D.map dI))),ς (.f (.e (N.map .str))),x6,x7,ς (.f (.int st)),ς (.e ((J5++[h]).map hdD)),ς (.f (dI k)),O,U,L,q]):=by
 have i1:k<N.length:=by lia
 have i2:3+k%6<D.length:=by lia
 refine⟨⟨N.getD k "",(st+k)*982451653%wide,decide (((D.getD (3+k%6) 0:Nat):Int)=1)⟩,?_⟩;unfold q31;rw[j6 rfl]
 have e:toD (av (aa (toD (d2 ah (vB 5) (vB 10))) (aa (toD (d2 cg (toD (d2 fw (toD (d2 az (vB 8) (vB 10))) (kD (.int 982451653)))) (toD (d2 jD (kD (.int 2)) (kD (.int 40)))))) (aa (toD (d2 (gEq ξ) (toD (d2 ah (vB 4) (toD (d2 az (kD (.int 3)) (toD (d2 cg (vB 10) (kD (.int 6)))))))) (kD (.int 1)))) af)))) [x0,Z,W,Y,ς (.f (.e (D.map dI))),ς (.f (.e (N.map .str))),x6,x7,ς (.f (.int st)),ς (.e (J5.map hdD)),ς (.f (dI k)),O,U,L,q]=ς (hdD ⟨N.getD k "",(st+k)*982451653%wide,decide (((D.getD (3+k%6) 0:Nat):Int)=1)⟩):=by rw[show dI k=Dt.int (k:Nat)from rfl];walk_at "d";rw[cS Dt.str N k i1 ""];walk_at "d";rw[show(3:Int)+((k:Nat):Int)%6=((3+k%6:Nat):Int)by lia,rL i2];unfold dI;walk_at "d";rfl
 rw[e,qa3,fD (by rw[qa1];lia)];simp
theorem qb(x0 x1 Z x3 x6 x7 O U L q:ζ T)(D:η Nat)(N:η Str)(st:Int)(hD:D.length=12)(hN:N.length=13):∀(ks:η Nat)(J5:η Hd)(W:ζ T),(∀k∈ks,k<8)->J5.length+ks.length<=1000->∃(hs:η Hd)(Y:ζ T),hs.length=ks.length/\cA (am 10) q31 (ks.map dI) [x0,x1,Z,x3,ς (.f (.e (D.map dI))),ς (.f (.e (N.map .str))),x6,x7,ς (.f (.int st)),ς (.e (J5.map hdD)),W,O,U,L,q]=ς (.nx [x0,x1,Z,x3,ς (.f (.e (D.map dI))),ς (.f (.e (N.map .str))),x6,x7,ς (.f (.int st)),ς (.e ((J5++hs).map hdD)),Y,O,U,L,q])
 |[],J5,W,_,_=>⟨[],W,rfl,by rw[qg5];rfl⟩
 |k::ks,J5,W,hk,h=>by rw[qd2]at h;obtain⟨w,e⟩:=vn x0 x1 Z x3 x6 x7 O U L q D N st J5 k hD hN (hk k (.head _)) Θ;obtain⟨l,Y,hl,e2⟩:=qb x0 x1 Z x3 x6 x7 O U L q D N st hD hN ks (J5++[w]) (ς (.f (dI k))) (fun j hj=>hk j (.tail _ hj)) (by simp;lia);refine⟨w::l,Y,by simp[hl],?_⟩;rw[qa6,aS (δ1:=[x0,x1,Z,x3,ς (.f (.e (D.map dI))),ς (.f (.e (N.map .str))),x6,x7,ς (.f (.int st)),ς (.e (J5.map hdD)),ς (.f (dI k)),O,U,L,q]) rfl e,e2];simp
def rM (x0 Z U W x6 x7 Y O L q:ζ T) (D:η Nat) (N:η Str) (st:Int) (J5:η Hd) (k:Nat) (hD:D.length=12) (hN:N.length=13) (hk:k<4) (hl:J5.length<=1000) :
  ∃h:Hd,q29 [x0,Z,U,W,ς (.f (.e (D.map dI))),ς (.f (.e (N.map .str))),x6,x7,ς (.f (.int st)),Y,ς (.f (dI k)),ς (.e (J5.map hdD)),O,L,q]=ς (.nx [x0,Z,U,W,ς (.f (.e (D.map dI))),ς (.f (.e (N.map .str))),x6,x7,ς (.f (.int st)),Y,ς (.f (dI k)),ς (.e ((J5++[h]).map hdD)),O,L,q]):=by
 have i1:8+k<N.length:=by lia
 have i2:9+k%2<D.length:=by lia
 have i3:7-k<D.length:=by lia
 refine⟨⟨N.getD (8+k) "",1+((D.getD (9+k%2) 0:Nat):Int),decide (((D.getD (7-k) 0:Nat):Int)=1)⟩,?_⟩;unfold q29;rw[j6 rfl]
 have e:toD (av (aa (toD (d2 ah (vB 5) (toD (d2 az (kD (.int 8)) (vB 10))))) (aa (toD (d2 az (kD (.int 1)) (toD (d2 ah (vB 4) (toD (d2 az (kD (.int 9)) (toD (d2 cg (vB 10) (kD (.int 2)))))))))) (aa (toD (d2 (gEq ξ) (toD (d2 ah (vB 4) (toD (d2 fj (kD (.int 7)) (vB 10))))) (kD (.int 1)))) af)))) [x0,Z,U,W,ς (.f (.e (D.map dI))),ς (.f (.e (N.map .str))),x6,x7,ς (.f (.int st)),Y,ς (.f (dI k)),ς (.e (J5.map hdD)),O,L,q]=ς (hdD ⟨N.getD (8+k) "",1+((D.getD (9+k%2) 0:Nat):Int),decide (((D.getD (7-k) 0:Nat):Int)=1)⟩):=by rw[show dI k=Dt.int (k:Nat)from rfl];walk_at "d";rw[show(8:Int)+((k:Nat):Int)=((8+k:Nat):Int)by lia,cS Dt.str N (8+k) i1 ""];walk_at "d";rw[show(9:Int)+((k:Nat):Int)%2=((9+k%2:Nat):Int)by lia,rL i2,show(7:Int)-((k:Nat):Int)=((7-k:Nat):Int)by lia,rL i3];unfold dI;walk_at "d";rfl
 rw[e,qa3,fD (by rw[qa1];lia)];simp
theorem lW(x0 x1 Y Z x6 x7 x9 O L q:ζ T)(D:η Nat)(N:η Str)(st:Int)(hD:D.length=12)(hN:N.length=13):∀(ks:η Nat)(J5:η Hd)(U:ζ T),(∀k∈ks,k<4)->J5.length+ks.length<=1000->∃(hs:η Hd)(W:ζ T),hs.length=ks.length/\cA (am 10) q29 (ks.map dI) [x0,x1,Y,Z,ς (.f (.e (D.map dI))),ς (.f (.e (N.map .str))),x6,x7,ς (.f (.int st)),x9,U,ς (.e (J5.map hdD)),O,L,q]=ς (.nx [x0,x1,Y,Z,ς (.f (.e (D.map dI))),ς (.f (.e (N.map .str))),x6,x7,ς (.f (.int st)),x9,W,ς (.e ((J5++hs).map hdD)),O,L,q])
 |[],J5,U,_,_=>⟨[],U,rfl,by rw[qg5];rfl⟩
 |k::ks,J5,U,hk,h=>by rw[qd2]at h;obtain⟨w,e⟩:=rM x0 x1 Y Z x6 x7 x9 O L q D N st J5 k hD hN (hk k (.head _)) Θ;obtain⟨l,W,hl,e2⟩:=lW x0 x1 Y Z x6 x7 x9 O L q D N st hD hN ks (J5++[w]) (ς (.f (dI k))) (fun j hj=>hk j (.tail _ hj)) (by simp;lia);refine⟨w::l,W,by simp[hl],?_⟩;rw[qa6,aS (δ1:=[x0,x1,Y,Z,ς (.f (.e (D.map dI))),ς (.f (.e (N.map .str))),x6,x7,ς (.f (.int st)),x9,ς (.f (dI k)),ς (.e (J5.map hdD)),O,L,q]) rfl e,e2];simp
def kI(fe:De->ζ Dt)(q:fe=toD (d2 ah (vB 0) (kD (.int 0))))(cs:η Hd):bE (am 0) bh fe [ψ] (cs.map hdD)=ς ((cs.map (·.x)).map .str):=by
 have:=bw (f:=hdD) (h:=fun h:Hd=>Dt.str h.x) (bb:=am 0) (ft:=bh) (fe:=fe) (δ:=[ψ]) (l:=cs) fun h _=>⟨[ς (.f (hdD h))],rfl,rfl,by rw[q];rfl⟩
 rw[this,qc6];rfl
def ye (x0 Z L O x4 x5 x6 Y q:ζ T) (B:η Str) (cs ss:η Hd) (all:η Int) (J5:η Rw) (c:Int) (hB:0<B.length) (W:B.length<=100) (hc:0<cs.length) (U:cs.length<=100) (hs:ss.length<=100) (ha:all.length<=100) (hl:J5.length<=1000) :
  ∃r:Rw,z29 [x0,Z,L,O,x4,x5,x6,ς (.f (.e (B.map .str))),Y,ς (.e (cs.map hdD)),q,ς (.e (ss.map hdD)),ς (.e (J5.map Rw.d)),ς (.f (.e (all.map .int))),ς (.f (.int c))]=ς (.nx [x0,Z,L,O,x4,x5,x6,ς (.f (.e (B.map .str))),Y,ς (.e (cs.map hdD)),q,ς (.e (ss.map hdD)),ς (.e ((J5++[r]).map Rw.d)),ς (.f (.e (all.map .int))),ς (.f (.int c))])/\Gd B (all.length+1) r:=by
 obtain⟨r,er,hr⟩:=AO c (all.length+1) (cs.map (·.x)) (ss.map (·.x)) B Θ Θ (by simpa using hc) (by simpa using U) (by simpa using hs) hB W;refine⟨r,?_,hr⟩;have e1:=kI y49 rfl cs;have e2:=kI z49 rfl ss;unfold z29;rw[j6 rfl]
 have e:toD (ag y38 (aa (vL 14) (aa (toD (d2 az (toD (ag bz (aa (vB 13) af))) (kD (.int 1)))) (aa (toD (aQ [ψ] (fIt (vB 9)) (am 0) bh y49)) (aa (toD (aQ [ψ] (fIt (vB 11)) (am 0) bh z49)) (aa (vL 7) af)))))) [x0,Z,L,O,x4,x5,x6,ς (.f (.e (B.map .str))),Y,ς (.e (cs.map hdD)),q,ς (.e (ss.map hdD)),ς (.e (J5.map Rw.d)),ς (.f (.e (all.map .int))),ς (.f (.int c))]=ς r.d:=by walk_at "d";rw[e1,e2,qa3,qa3,cC (by simp;lia),cC (by simp;lia)];walk_at "d";rw[qa1,show y38 [Dt.int c,Dt.int ((all.length:Int)+1),Dt.e ((cs.map (·.x)).map .str),Dt.e ((ss.map (·.x)).map .str),Dt.e (B.map .str)]=_ from er];rfl
 rw[e,qa3,fD (by rw[qa1];lia)];simp
theorem tU(x0 x1 x2 x3 x4 x5 x6 Z L:ζ T)(B:η Str)(cs ss:η Hd)(all:η Int)(hB:0<B.length)(Y:B.length<=100)(hc:0<cs.length)(W:cs.length<=100)(hs:ss.length<=100)(ha:all.length<=100):∀(ls:η Int)(J5:η Rw)(O:ζ T),J5.length+ls.length<=1000->∃(rs:η Rw)(U:ζ T),rs.length=ls.length/\(∀r∈rs,Gd B (all.length+1) r)/\cA (am 14) z29 (ls.map .int) [x0,x1,x2,x3,x4,x5,x6,ς (.f (.e (B.map .str))),Z,ς (.e (cs.map hdD)),L,ς (.e (ss.map hdD)),ς (.e (J5.map Rw.d)),ς (.f (.e (all.map .int))),O]=ς (.nx [x0,x1,x2,x3,x4,x5,x6,ς (.f (.e (B.map .str))),Z,ς (.e (cs.map hdD)),L,ς (.e (ss.map hdD)),ς (.e ((J5++rs).map Rw.d)),ς (.f (.e (all.map .int))),U])
 |[],J5,O,_=>⟨[],O,rfl,fun r hr=>(by cases hr),by rw[qg5];rfl⟩
 |c::ls,J5,O,h=>by
  rw[qd2]at h;obtain⟨r,e,hr⟩:=ye x0 x1 x2 x3 x4 x5 x6 Z L B cs ss all J5 c hB Y hc W hs ha Θ;obtain⟨l,U,hl,hg,e2⟩:=tU x0 x1 x2 x3 x4 x5 x6 Z L B cs ss all hB Y hc W hs ha ls (J5++[r]) (ς (.f (.int c))) (by simp;lia);refine⟨r::l,U,by simp[hl],fun q hq=>?_,?_⟩
  .rcases qa8.mp hq with rfl|hq
   .exact hr
   .exact hg q hq
  .rw[qa6,aS (δ1:=[x0,x1,x2,x3,x4,x5,x6,ς (.f (.e (B.map .str))),Z,ς (.e (cs.map hdD)),L,ς (.e (ss.map hdD)),ς (.e (J5.map Rw.d)),ς (.f (.e (all.map .int))),ς (.f (.int c))]) rfl e,e2];simp
structure Prg(B:List Str)(J0:List Rw):Prop where
 b:B.length<=12
 n:J0.length<=60
 rd:∀(i:Nat)(r:Rw)(b:Str),J0[i]?=ς r->b∈r.reads->b∈B
 out:∀(i:Nat)(r:Rw)(j:Nat),J0[i]?=ς r->j∈r.outs i->j<J0.length
 pos:0<J0.length
variable{rs:η Rw}
def yf{B:η Str}{a:Atm}(Z:B.length<=12)(hn:rs.length<=59)(W:∀r∈rs,Gd B (rs.length+1) r)(Y:∀x,a=.nm x->x∈B):Prg B (rs++[.fin a]):=by
 have q:∀(i:Nat)(r:Rw),(rs++[Rw.fin a])[i]?=ς r->(i<rs.length/\r∈rs)∨(i=rs.length/\r=.fin a):=fun i r h=>by
  by_cases z:i<rs.length
  .rw[qb4 z]at h;exact .inl ⟨z,qc8 h⟩
  .have hi:=(gX h).1;simp at hi;obtain rfl:i=rs.length:=by lia
   rw[gR (nL _),qu7]at h;cases h;exact .inr ⟨rfl,rfl⟩
 refine⟨Z,by simp;lia,fun i r b h O=>?_,fun i r j h U=>?_,Ξ⟩
 .rcases q i r h with ⟨_,L⟩|⟨_,rfl⟩
  .exact(W r L).1 b O
  .exact cT (fun x hx=>Y x (qa4.mp hx).symm) b O
 .rcases q i r h with ⟨hi,L⟩|⟨_,rfl⟩
  .rw[qc0,qm1];rcases(W r L).2 i j U with z|z<;>lia
  .cases U
def prT:De->ζ Out:=(ai (ap 7 (toT (toD (ag y12 (aa (toD (ag y1 (aa (vL 0) (aa (kD (.int 2)) af)))) (aa (toD (d2 ah (vB 6) (kD (.int 2)))) af))))))
  (ai (ap 8 (toT (toD (ag y1 (aa (vL 0) (aa (kD (.int 3)) af))))))
  (ai (ap 9 (aR af))
  (ai (cV (da gG (aa (toD (d2 ah (vB 6) (kD (.int 0)))) af)) (am 10) q31)
  (ai (ap 11 (aR af))
  (ai (cV (da gG (aa (toD (d2 ah (vB 6) (kD (.int 1)))) af)) (am 10) q29)
  (ai (ap 12 (aR af))
  (ai (ap 13 (toT (toD (vSl (vB 0) (db (kD (.int 4))) (db (toD (d2 az (kD (.int 4)) (vB 1))))))))
  (ai (cV (fIt (vL 13)) (am 14) z29)
  (ai (y13 12 (toD (av (aa (kD (.str "end")) (aa (toD (ag q23 (aa (toD (d2 cg (vB 3) (toD (d2 az (toD (ag bz (aa (vB 7) af))) (kD (.int 1)))))) (aa (vL 8) (aa (vL 7) af))))) af)))))
  (aV (av (aa (toD (ag bO (aa (vB 9) af))) (aa (toD (ag bO (aa (vB 11) af))) (aa (toD (ag bO (aa (vB 12) af))) af)))))))))))))))
def yg(ns:η Int):∃ls:η Int,gSl (.e (ns.map .int)) (ς 4) (ς 13)=ς (.e (ls.map .int))/\ls.length<=9:=by
 refine⟨(ns.drop (HT.sIx (ns.map Dt.int).length 0 (ς 4))).take (HT.sIx (ns.map Dt.int).length (ns.map Dt.int).length (ς 13)-HT.sIx (ns.map Dt.int).length 0 (ς 4)),?_,?_⟩
 .show ς (T.e (i0 (ns.map Dt.int) (ς 4) (ς 13)))=_;unfold i0;rw[zi7,zc3]
 .have q:=HT.FP (ns.map Dt.int).length 0 4;have L:=HT.FP (ns.map Dt.int).length (ns.map Dt.int).length 13;rw[show(ς (4:Int))=ς (((4:Nat):Int))from rfl,show(ς (13:Int))=ς (((13:Nat):Int))from rfl,q,L];simp;lia
def D5 (ns:η Int) (q:Int) (D:η Nat) (N:η Str) (a b c:Nat) (hD:D.length=12) (hN:N.length=13) (ha:1<=a) (ha2:a<=8) (hb:b<=4) (hc:1<=c) (hc2:c<=12) :
  ∃(cs ss:η Hd)(J0:η Rw)(B:η Str),oj (prT [ς (.f (.e (ns.map .int))),ς (.f (.int 9)),ς (.f (.bl ξ)),ς (.f (.int q)),ς (.f (.e (D.map dI))),ς (.f (.e (N.map .str))),ς (.f (.e [.int a,.int b,.int c])),ψ,ψ,ψ,ψ,ψ,ψ,ψ,ψ])=ς (.f (pgD cs ss J0))/\0<cs.length/\cs.length<=8/\ss.length<=4/\Prg B J0:=by
 obtain⟨B,hB,eB⟩:=fU (ns.getD 2 0) c Θ;obtain⟨ls,Y,hls⟩:=yg ns;have c2:y1 [.e (ns.map .int),.int 2]=ς (.f (.int (ns.getD 2 0))):=eV ns 2;have c3:y1 [.e (ns.map .int),.int 3]=ς (.f (.int (ns.getD 3 0))):=eV ns 3;generalize ns.getD 2 0=n2 at c2 eB;generalize ns.getD 3 0=U at c3;obtain⟨cs,W,l1,e1⟩:=qb (ς (.f (.e (ns.map .int)))) (ς (.f (.int 9))) (ς (.f (.bl ξ))) (ς (.f (.int q))) (ς (.f (.e [.int a,.int b,.int c]))) (ς (.f (.e (B.map .str)))) ψ ψ ψ ψ D N U hD hN (qd0 a) [] ψ (fun k hk=>by have:=qe9.mp hk;lia) (by simp;lia);rw[qn5]at l1;obtain⟨ss,z10,l2,e2⟩:=lW (ς (.f (.e (ns.map .int)))) (ς (.f (.int 9))) (ς (.f (.bl ξ))) (ς (.f (.int q))) (ς (.f (.e [.int a,.int b,.int c]))) (ς (.f (.e (B.map .str)))) (ς (.e (cs.map hdD))) ψ ψ ψ D N U hD hN (qd0 b) [] W (fun k hk=>by have:=qe9.mp hk;lia) (by simp;lia);rw[qn5]at l2;obtain⟨rs,y14,l3,hg,e3⟩:=tU (ς (.f (.e (ns.map .int)))) (ς (.f (.int 9))) (ς (.f (.bl ξ))) (ς (.f (.int q))) (ς (.f (.e (D.map dI)))) (ς (.f (.e (N.map .str)))) (ς (.f (.e [.int a,.int b,.int c]))) (ς (.f (.int U))) z10 B cs ss ls Θ Θ Θ Θ Θ Θ ls [] ψ (by simp;lia);obtain⟨at',O,Z⟩:=oF (q%((B.length:Int)+1)).toNat U B
 have L:((q%((B.length:Int)+1)).toNat:Int)=q%((B.length:Int)+1):=by have:=qx5 q (show((B.length:Int)+1)≠0 by lia);lia
 rw[L]at O;refine⟨cs,ss,rs++[.fin at'],B,?_,Θ,Θ,Θ,yf Θ Θ (fun r hr=>by rw[l3];exact hg r hr) Z⟩;unfold prT;walk_at "d";rw[c2];walk_at "d";rw[eB];walk_at "d";rw[c3];walk_at "d";rw[qj9,qt0]at e1 e2 e3;rw[jP a Θ,qa3,e1];walk_at "d";rw[jP b Θ,qa3,e2];walk_at "d";rw[show gSl (Dt.e (ns.map Dt.int)) (ς 4) (ς (4+9))=_ from Y];walk_at "d";rw[e3];walk_at "d";rw[j6 rfl];walk_at "d";rw[qa1,fu Θ];walk_at "d";rw[O];walk_at "d";rw[fD (by rw[qa1];lia)];walk_at "d";unfold pgD dR;rw[qf5];rfl
def rN:q37=bH 15 ((ai (ap 3 (toT (toD (d2 cg (toD (d2 fw (toD (ag y1 (aa (vL 0) (aa (kD (.int 0)) af)))) (kD (.int 69621)))) (kD (.int 1000000007))))))
  (ai (ap 4 (toT (toD (ag q12 (aa (vL 3) (aa (toD (aR (aa (kD (.int 4)) (aa (kD (.int 3)) (aa (kD (.int 4)) (aa (kD (.int 2)) (aa (kD (.int 2)) (aa (kD (.int 2)) (aa (kD (.int 2)) (aa (kD (.int 2)) (aa (kD (.int 2)) (aa (kD (.int 8)) (aa (kD (.int 8)) (aa (kD (.int 4)) af)))))))))))))) af))))))
  (ai (ap 5 (toT (toD (ag y12 (aa (toD (ag y1 (aa (vL 0) (aa (kD (.int 1)) af)))) (aa (kD (.int 13)) af))))))
  (ai (ap 6 (toT (toD (aR (aa (toD (d2 az (kD (.int 1)) (toD (d2 ah (vB 4) (kD (.int 0)))))) (aa (toD (d2 ah (vB 4) (kD (.int 1)))) (aa (toD (d2 az (kD (.int 2)) (toD (d2 ah (vB 4) (kD (.int 2)))))) af)))))))
  (ai (sIf (cY (cF (vB 2)) (tB2 (gEq ξ) (toD (d2 ah (vB 4) (kD (.int 11)))) (kD (.int 1)))) (ap 6 (toT (toD (aR (aa (kD (.int 8)) (aa (kD (.int 4)) (aa (kD (.int 12)) af))))))) bo)
  prT)))))):=rfl
def rO(ns:η Int):∃(cs ss:η Hd)(J0:η Rw)(B:η Str),q37 [.e (ns.map .int),.int 9,.bl ξ]=ς (.f (pgD cs ss J0))/\0<cs.length/\cs.length<=8/\ss.length<=4/\Prg B J0:=by
 have c0:y1 [.e (ns.map .int),.int 0]=ς (.f (.int (ns.getD 0 0))):=eV ns 0;have Y:y1 [.e (ns.map .int),.int 1]=ς (.f (.int (ns.getD 1 0))):=eV ns 1;generalize ns.getD 0 0=U at c0;generalize ns.getD 1 0=n1 at Y;obtain⟨N,hN,eN⟩:=fU n1 13 Ω;obtain⟨D,eD,q,Z⟩:=dO (U*69621%1000000007) [4,3,4,2,2,2,2,2,2,8,8,4] (by intro z W;simp at W;lia) Ω;have q:D.length=12:=q;have L:∀j z:Nat,j<12->([4,3,4,2,2,2,2,2,2,8,8,4]:η Nat)[j]?=ς z->D.getD j 0<z:=fun j z hj W=>Z j _ z (by simp[q,hj]) W
 have g0:=L 0 4 Ω rfl;have g1:=L 1 3 Ω rfl;have g2:=L 2 4 Ω rfl;have a0:(D.map dI)[0]?=ς (dI (D.getD 0 0)):=by simp[q]
 have a1:(D.map dI)[1]?=ς (dI (D.getD 1 0)):=by simp[q]
 have a2:(D.map dI)[2]?=ς (dI (D.getD 2 0)):=by simp[q]
 have a11:(D.map dI)[11]?=ς (dI (D.getD 11 0)):=by simp[q]
 clear Z L;have O:q12 [Dt.int (U*69621%1000000007),Dt.e [Dt.int 4,Dt.int 3,Dt.int 4,Dt.int 2,Dt.int 2,Dt.int 2,Dt.int 2,Dt.int 2,Dt.int 2,Dt.int 8,Dt.int 8,Dt.int 4]]=ς (.e (D.map dI)):=eD;have rest:=D5 ns (U*69621%1000000007) D N;rw[rN];walk_at "d";rw[c0];walk_at "d";rw[O];walk_at "d";rw[Y];walk_at "d";rw[show y12 [.int n1,.int 13]=_ from eN];walk_at "d";rw[a0,a1,a2];simp only[dI];walk_at "d";exact rest (1+D.getD 0 0) (D.getD 1 0) (2+D.getD 2 0) q hN Θ Θ Θ Θ Θ
abbrev Pl(r:Rw):Prop:=r.reads=[]/\∀i j,j∈r.outs i->j=i+1
def flS(O:Int)(q:ζ T)(b0 b1:Str)(J5:η Rw)(x4 L:ζ T):De:=[ς (.f (.int O)),q,ς (.f (.e [.str b0,.str b1])),ς (.e (J5.map Rw.d)),x4,L]
def vo (n:Int) (q:ζ T) (b0 b1:Str) (J5:η Rw) (k:Nat) (W:ζ T) (ha:J5.length<=1000) :
  ∃(r:Rw)(y5:ζ T),q42 (flS n q b0 b1 J5 (ς (.f (dI k))) W)=ς (.nx (flS n q b0 b1 (J5++[r]) (ς (.f (dI k))) y5))/\Pl r:=by
 have s1:ap 5 (toT (toD (d2 cg (toD (d2 fw (toD (d2 az (vB 0) (toD (d2 fw (vB 4) (kD (.int 7919)))))) (kD (.int 48271)))) (kD (.int 1000000007))))) (flS n q b0 b1 J5 (ς (.f (dI k))) W)=ς (.nx (flS n q b0 b1 J5 (ς (.f (dI k))) (ς (.f (.int ((n+(k:Int)*7919)*48271%1000000007)))))):=by unfold flS dI;walk_at "d"
 generalize (n+(k:Int)*7919)*48271%1000000007=m at s1;have O:toD (d2 ah (vB 2) (toD (gH (kD (.int 1))))) (flS n q b0 b1 J5 (ς (.f (dI k))) (ς (.f (.int m))))=ς (.str b1):=rfl;have d1:toD (d2 gz (vB 5) (kD (.int 2))) (flS n q b0 b1 J5 (ς (.f (dI k))) (ς (.f (.int m))))=ς (.int (m/2)):=aj (t:=.f _) ((aA (x:=.int m) (y:=.int 2) rfl rfl).trans (il Ω Ω));have m1:toD (d2 cg (vB 5) (kD (.int 3))) (flS n q b0 b1 J5 (ς (.f (dI k))) (ς (.f (.int m))))=ς (.int (m%3)):=aj (t:=.f _) ((aA (x:=.int m) (y:=.int 3) rfl rfl).trans (fu Ω));have Z:=b9 (ab (aZ (ab (f:=kD (.str "copy")) rfl (ab O (ab (f:=vL 5) (d:=.int m) rfl (show af _=ς []from rfl)))) Ξ) (ab (aZ (ab (f:=kD (.str "say")) rfl (ab d1 (show af _=ς []from rfl))) Ξ) (ab (aZ (ab (f:=kD (.str "hear")) rfl (ab O (show af _=ς []from rfl))) Ξ) (show af _=ς []from rfl)))) Ξ
 have U:∃r:Rw,Pl r/\ah (.e [.t [.str "copy",.str b1,.int m],.t [.str "say",.int (m/2)],.t [.str "hear",.str b1]]) (.int (m%3))=ς (.f r.d):=by
  have h0:=qx5 m (show(3:Int)≠0 by decide);have h1:=qy8 m (show(0:Int)<3 by decide);have:m%3=0∨m%3=1∨m%3=2:=by lia
  rcases this with h|h|h<;>rw[h]
  .exact⟨.copy b1 (.vl m),⟨rfl,fun i j L=>qa4.mp L⟩,rfl⟩
  .exact⟨.say (.vl (m/2)),⟨rfl,fun i j L=>qa4.mp L⟩,rfl⟩
  .exact⟨.hear b1,⟨rfl,fun i j L=>qa4.mp L⟩,rfl⟩
 obtain⟨r,Y,er⟩:=U;refine⟨r,ς (.f (.int m)),?_,Y⟩;unfold q42;rw[ax s1]
 exact(lN (l:=J5.map Rw.d) (d:=r.d) rfl (aj (t:=.f r.d) ((aA Z m1).trans er)) (by rw[qa1];lia)).trans (by unfold flS;rw[qf5];rfl)
theorem tV(n:Int)(O:ζ T)(b0 b1:Str):∀(ks:η Nat)(J5:η Rw)(x4 L:ζ T),J5.length+ks.length<=1000->(∀r∈J5,Pl r)->∃(rs:η Rw)(Z W:ζ T),cA (am 4) q42 (ks.map dI) (flS n O b0 b1 J5 x4 L)=ς (.nx (flS n O b0 b1 rs Z W))/\rs.length=J5.length+ks.length/\∀r∈rs,Pl r
 |[],J5,x4,L,_,h=>⟨J5,x4,L,rfl,rfl,h⟩
 |k::ks,J5,x4,L,Y,h=>by
  rw[qd2]at Y;obtain⟨r,W,e1,hr⟩:=vo n O b0 b1 J5 k L Θ
  obtain⟨rs,z4,z5,e2,l2,h2⟩:=tV n O b0 b1 ks (J5++[r]) (ς (.f (dI k))) W (by simp;lia) fun q U=>by
   rcases qe1.mp U with U|U
   .exact h q U
   .rw[qa4.mp U];exact hr
  refine⟨rs,z4,z5,?_,by simp at l2 ⊢;lia,h2⟩;rw[qa6,aS (δ1:=flS n O b0 b1 J5 (ς (.f (dI k))) L) rfl e1];exact e2
def vp(n:Int)(k:Nat)(b0 b1:Str)(hk:k<=10):∃rs:η Rw,y40 [.int n,dI k,.e [.str b0,.str b1]]=ς (.e (rs.map Rw.d))/\rs.length=k/\∀r∈rs,Pl r:=by
 obtain⟨rs,U,O,e,l,h⟩:=tV n (ς (.f (dI k))) b0 b1 (qd0 k) [] ψ ψ (by simp;lia) fun r L=>by cases L
 refine⟨rs,?_,by simpa using l,h⟩;unfold y40;refine dRt ?_;show ai _ _ [ς (.f (.int n)),ς (.f (dI k)),ς (.f (.e [.str b0,.str b1])),ψ,ψ,ψ]=_;rw[ax (δ':=flS n (ς (.f (dI k))) b0 b1 [] ψ ψ) rfl,bL,g9]
 have q:da gG (aa (vL 1) af) (flS n (ς (.f (dI k))) b0 b1 [] ψ ψ)=ς ((qd0 k).map dI):=by unfold flS dI;walk_at "k";exact jP k Θ
 rw[q,qa3,e];rfl
def nine(h:l.length=9):∃a b c d e f g i j,l=[a,b,c,d,e,f,g,i,j]:=by
 match l,h with
 |[a,b,c,d,e,f,g,i,j],_=>exact⟨a,b,c,d,e,f,g,i,j,rfl⟩
def rb(Z:ζ T)(P:Dt)(b0 b1 W:Str)(n:Int)(D:η Nat)(f0 f1 f2 f3:η Rw)(nm:Str)(st:Int)(U:ζ T)(Y:η Hd)(R Fi:η Rw)(L q O:ζ T):De:=[Z,ς (.f P),ς (.f (.e [.str b0,.str b1])),ς (.f (.str W)),ς (.f (.int n)),ς (.f (.e (D.map dI))),ς (.f (.e [.e (f0.map Rw.d),.e (f1.map Rw.d),.e (f2.map Rw.d),.e (f3.map Rw.d)])),ς (.f (.str nm)),ς (.f (.int st)),U,ς (.f (.t (Y.map hdD))),ς (.f (.e (R.map Rw.d))),ς (.f (.e (Fi.map Rw.d))),L,q,O]
noncomputable def rbR(b0 b1 nm:Str)(d5 d8:Nat)(at':Atm)(R Fi f1 f2 f3:η Rw):η Rw:=[.go (1+R.length)]++R++Fi++[.iff at' (1+R.length+Fi.length+2+f1.length+2+f2.length),.store nm (.nm b0)]++f1++[.load b1 nm]++f2++[.go (1+2*d8)]++[.store nm (.vl d5)]++f3
abbrev Gr(B:η Str)(r:Rw):Prop:=(∀b∈r.reads,b∈B)/\∀i j,j∈r.outs i->j=1∨j=i+1
def yh{B:η Str}{k:Nat}(Y:B.length<=12)(Z:rs.length<=59)(hk:k<rs.length+1)(W:∀r∈rs,Gd B (rs.length+1) r):Prg B (rs++[.go k]):=by
 have q:∀(i:Nat)(r:Rw),(rs++[Rw.go k])[i]?=ς r->(i<rs.length/\r∈rs)∨(i=rs.length/\r=.go k):=fun i r h=>by
  by_cases z:i<rs.length
  .rw[qb4 z]at h;exact .inl ⟨z,qc8 h⟩
  .have hi:=(gX h).1;simp at hi;obtain rfl:i=rs.length:=by lia
   rw[gR (nL _),qu7]at h;cases h;exact .inr ⟨rfl,rfl⟩
 refine⟨Y,by simp;lia,fun i r b h O=>?_,fun i r j h U=>?_,Ξ⟩
 .rcases q i r h with ⟨_,L⟩|⟨_,rfl⟩
  .exact(W r L).1 b O
  .cases O
 .rcases q i r h with ⟨hi,L⟩|⟨_,rfl⟩
  .rw[qc0,qm1];rcases(W r L).2 i j U with z|z<;>lia
  .rw[qa4.mp U,qc0,qm1];exact hk
def FE{B:η Str}(h:Gr B r)(L:1<n):Gd B n r:=⟨h.1,fun i j q=>(h.2 i j q).elim (fun z=>.inl Θ) .inr⟩
def qc{B:η Str}(h:Pl r):Gr B r:=⟨fun b q=>(by rw[h.1]at q;cases q),fun i j L=>.inr (h.2 i j L)⟩
variable{b0 b1:Str}{d5 d8:Nat}{at':Atm}{Fi f1 f2 f3:η Rw}
def AQ{nm:Str}{R:η Rw}:(rbR b0 b1 nm d5 d8 at' R Fi f1 f2 f3).length=1+R.length+Fi.length+2+f1.length+1+f2.length+1+1+f3.length:=by unfold rbR;simp only[qc0,qd2,qw9]
def D6{nm:Str}{R:η Rw}{N:Nat}(hN:N=1+R.length+Fi.length+2+f1.length+1+f2.length+1+1+f3.length+1)(h8:d8<2)(Z:∀x,at'=.nm x->x=b0)(hR:∀r∈R++Fi++f1++f2++f3,Gr [b0,b1] r):∀r∈rbR b0 b1 nm d5 d8 at' R Fi f1 f2 f3,Gd [b0,b1] N r:=fun r U=>by
 have g:∀q,q∈R++Fi++f1++f2++f3->Gd [b0,b1] N q:=fun q hq=>FE (hR q hq) Θ
 have Y:∀k,k<N->Gd [b0,b1] N (.go k):=fun k hk=>⟨fun b O=>(by cases O),fun i j L=>by rw[qa4.mp L];exact .inl hk⟩
 unfold rbR at U;simp only[qe1,qa8,qg7,or_false]at U g;rcases U with (((((((((rfl|h)|h)|(rfl|rfl))|h)|rfl)|h)|rfl)|rfl)|h)
 .exact Y _ Θ
 .exact g r (by simp[h])
 .exact g r (by simp[h])
 .refine⟨cT fun x W=>?_,fun i j L=>?_⟩
  .rw[Z x (qa4.mp W).symm];exact .head _
  .rcases qa8.mp L with rfl|L
   .exact .inl Θ
   .exact .inr (qa4.mp L)
 .refine⟨cT fun x W=>?_,fun i j L=>.inr (qa4.mp L)⟩;cases qa4.mp W;exact .head _
 .exact g r (by simp[h])
 .exact⟨fun b O=>(by cases O),fun i j L=>.inr (qa4.mp L)⟩
 .exact g r (by simp[h])
 .exact Y _ Θ
 .exact⟨fun b O=>(by cases O),fun i j L=>.inr (qa4.mp L)⟩
 .exact g r (by simp[h])
variable{G:De->ζ Out}
def cN{F:De->ζ Dt}{d:Dt}{r:ζ Out}(h:F δ=ς d)(k:G (δ.set i (ς (.f d)))=r):ai (ap i (toT F)) G δ=r:=by rw[ax (aP (b7 h))];exact k
def yi(l:η Hd)(lo hi:ζ Int):∃m:η Hd,xx (.t (l.map hdD)) lo hi=ς (.f (.t (m.map hdD)))/\m.length<=l.length:=by
 by_cases z:HT.sIx (l.map hdD).length 0 lo=0/\HT.sIx (l.map hdD).length (l.map hdD).length hi=(l.map hdD).length
 .exact⟨l,if_pos z,nL _⟩
 .refine⟨(l.drop (HT.sIx (l.map hdD).length 0 lo)).take (HT.sIx (l.map hdD).length (l.map hdD).length hi-HT.sIx (l.map hdD).length 0 lo),(if_neg z).trans ?_,?_⟩
  .unfold i0;rw[zi7,zc3]
  .rw[qu9,qv1];lia
def yj{L q:De->ζ (ζ Int)}{lo hi:ζ Int}{t:T}(h:fa δ=ς x)(h1:L δ=ς lo)(h2:q δ=ς hi)(k:xx x lo hi=ς t):toD (pT fa L q) δ=t.d:=aj (by unfold pT;rw[h,qa3,h1,qa3,h2,qa3,k])
def cD{l m:η Rw}(h1:fa δ=ς (.e (l.map Rw.d)))(h2:fb δ=ς (.e (m.map Rw.d)))(q:l.length+m.length<=1000):toD (d2 az fa fb) δ=ς (.e ((l++m).map Rw.d)):=by rw[jo h1 h2 (by simp;lia),qf5]
def rbT:De->ζ Out:=(ai (ap 13 (toT (toD (d2 az (kD (.int 1)) (toD (ag bz (aa (vB 11) af)))))))
  (ai (ap 14 (toT (toD (d2 az (toD (d2 az (toD (d2 az (vB 13) (toD (ag bz (aa (vB 12) af))))) (kD (.int 2)))) (toD (ag bz (aa (toD (d2 ah (vB 6) (kD (.int 1)))) af)))))))
  (ai (ap 15 (toT (toD (av (aa (kD (.str "if")) (aa (toD (d2 ah (toD (aR (aa (toD (d2 ah (vB 2) (kD (.int 0)))) (aa (toD (d2 ah (vB 5) (kD (.int 5)))) af)))) (toD (d2 ah (vB 5) (kD (.int 4)))))) (aa (toD (d2 az (toD (d2 az (vB 14) (kD (.int 2)))) (toD (ag bz (aa (toD (d2 ah (vB 6) (kD (.int 2)))) af))))) af)))))))
  (ai (ap 11 (toT (toD (d2 az (toD (d2 az (toD (d2 az (toD (d2 az (toD (aR (aa (toD (av (aa (kD (.str "go")) (aa (vL 13) af)))) af))) (vB 11))) (vB 12))) (toD (aR (aa (vL 15) (aa (toD (av (aa (kD (.str "store")) (aa (vL 7) (aa (toD (d2 ah (vB 2) (kD (.int 0)))) af))))) af)))))) (toD (d2 ah (vB 6) (kD (.int 1))))))))
  (ai (ap 11 (toT (toD (d2 az (toD (d2 az (toD (d2 az (vB 11) (toD (aR (aa (toD (av (aa (kD (.str "load")) (aa (toD (d2 ah (vB 2) (toD (gH (kD (.int 1)))))) (aa (vL 7) af))))) af))))) (toD (d2 ah (vB 6) (kD (.int 2)))))) (toD (aR (aa (toD (av (aa (kD (.str "go")) (aa (toD (d2 az (kD (.int 1)) (toD (d2 fw (kD (.int 2)) (toD (d2 ah (vB 5) (kD (.int 8)))))))) af)))) af)))))))
  (ai (ap 11 (toT (toD (d2 az (toD (d2 az (toD (d2 az (vB 11) (toD (aR (aa (toD (av (aa (kD (.str "store")) (aa (vL 7) (aa (toD (d2 ah (vB 5) (kD (.int 5)))) af))))) af))))) (toD (d2 ah (vB 6) (kD (.int 3)))))) (toD (aR (aa (toD (av (aa (kD (.str "go")) (aa (vL 14) af)))) af)))))))
  (aV (av (aa (toD (pT (toD (d2 je (vB 10) (toD (pT (toD (d2 ah (vB 1) (kD (.int 0)))) (db (kD (.int 1))) gy)))) gy (db (kD (.int 8))))) (aa (toD (d2 ah (vB 1) (kD (.int 1)))) (aa (toD (ag bO (aa (vB 11) af))) af)))))))))))
theorem D7 (x0:ζ T) (h:Hd) (cs ss:η Hd) (J0:η Rw) (b0 b1 mo:Str) (n:Int) (d0 d1 d2' d3 q d5 d6 d7 d8:Nat) (f0 f1 f2 f3:η Rw) (nm:Str) (st:Int) (x9:ζ T) (O:η Hd) (R Fi:η Rw) (h4:q<2) (hc:cs.length<=8) (hh:O.length<=2) (l1:f1.length<=1) (l2:f2.length<=1) (l3:f3.length<=1) (lR:R.length<=10) (lF:Fi.length<=1) :
  ∃(W:η Hd)(at':Atm),W.length<=20/\(∀x,at'=.nm x->x=b0)/\rbT (rb x0 (pgD (h::cs) ss J0) b0 b1 mo n [d0,d1,d2',d3,q,d5,d6,d7,d8] f0 f1 f2 f3 nm st x9 O R Fi ψ ψ ψ)=ς (.rt (.f (pgD W ss (rbR b0 b1 nm d5 d8 at' R Fi f1 f2 f3++[Rw.go (1+R.length+Fi.length+2+f1.length)])))):=by
 obtain⟨at',hat,eat⟩:∃at':Atm,(∀x,at'=.nm x->x=b0)/\ah (.e [.str b0,dI d5]) (dI q)=ς (.f at'.d):=by
  have:q=0∨q=1:=by lia
  rcases this with rfl|rfl
  .exact⟨.nm b0,fun x Z=>(by cases Z;rfl),rfl⟩
  .exact⟨.vl d5,fun x Z=>(by cases Z),rfl⟩
 obtain⟨m1,e1,k1⟩:=yi (h::cs) (ς 1) ψ;obtain⟨m2,e2,k2⟩:=yi (O++m1) ψ (ς 8);refine⟨m2,at',by simp at k1 k2;lia,hat,?_⟩;unfold rbT;refine cN (d:=dI (1+R.length)) (ca (a:=1) rfl (hX (l:=R.map Rw.d) rfl Ξ) rfl) ?_;refine cN (d:=dI (1+R.length+Fi.length+2+f1.length)) (ca (ca (b:=2) (ca (a:=1+R.length) rfl (hX (l:=Fi.map Rw.d) rfl Ξ) rfl) rfl rfl) (hX (l:=f1.map Rw.d) rfl Ξ) rfl) ?_;refine cN (d:=(Rw.iff at' (1+R.length+Fi.length+2+f1.length+2+f2.length)).d) (aZ (ds:=[.str "if",at'.d,dI (1+R.length+Fi.length+2+f1.length+2+f2.length)]) (ab rfl (ab (aj (t:=.f at'.d) ((aA (b9 (ds:=[.str b0,dI d5]) (ab rfl (ab rfl rfl)) Ξ) (y:=dI q) rfl).trans eat)) (ab (ca (ca (a:=1+R.length+Fi.length+2+f1.length) (b:=2) rfl rfl rfl) (hX (l:=f2.map Rw.d) rfl Ξ) rfl) rfl))) Ξ) ?_;refine cN (d:=.e (([Rw.go (1+R.length)]++R++Fi++[Rw.iff at' (1+R.length+Fi.length+2+f1.length+2+f2.length),Rw.store nm (.nm b0)]++f1).map Rw.d)) (cD (cD (cD (cD (l:=[Rw.go (1+R.length)]) (m:=R) (b9 (ab (aZ (ab rfl (ab (d:=dI (1+R.length)) rfl rfl)) Ξ) rfl) Ξ) rfl (by simp;lia)) (m:=Fi) rfl (by simp;lia)) (m:=[Rw.iff at' (1+R.length+Fi.length+2+f1.length+2+f2.length),Rw.store nm (.nm b0)]) (b9 (ab rfl (ab (aZ (ab rfl (ab rfl (ab rfl rfl))) Ξ) rfl)) Ξ) (by simp;lia)) (m:=f1) rfl (by simp;lia)) ?_;generalize U:([Rw.go (1+R.length)]++R++Fi++[Rw.iff at' (1+R.length+Fi.length+2+f1.length+2+f2.length),Rw.store nm (.nm b0)]++f1:η Rw)=R2;have lR2:R2.length<=20:=by rw[<- U];simp;lia
 refine cN (d:=.e ((R2++[Rw.load b1 nm]++f2++[Rw.go (1+2*d8)]).map Rw.d)) (cD (cD (cD (l:=R2) (m:=[Rw.load b1 nm]) rfl (b9 (ab (aZ (ab rfl (ab rfl (ab rfl rfl))) Ξ) rfl) Ξ) (by simp;lia)) (m:=f2) rfl (by simp;lia)) (m:=[Rw.go (1+2*d8)]) (b9 (ab (aZ (ab rfl (ab (ca (a:=1) (b:=2*d8) rfl (aj (t:=.f (dI (2*d8))) ((aA (x:=.int 2) (y:=dI d8) rfl rfl).trans (by unfold dI;walk_at "d";simp))) rfl) rfl)) Ξ) rfl) Ξ) (by simp;lia)) ?_
 generalize L:(R2++[Rw.load b1 nm]++f2++[Rw.go (1+2*d8)]:η Rw)=R3;have lR3:R3.length<=30:=by rw[<- L];simp;lia
 refine cN (d:=.e ((R3++[Rw.store nm (.vl d5)]++f3++[Rw.go (1+R.length+Fi.length+2+f1.length)]).map Rw.d)) (cD (cD (cD (l:=R3) (m:=[Rw.store nm (.vl d5)]) rfl (b9 (ab (aZ (ab rfl (ab rfl (ab rfl rfl))) Ξ) rfl) Ξ) (by simp;lia)) (m:=f3) rfl (by simp;lia)) (m:=[Rw.go (1+R.length+Fi.length+2+f1.length)]) (b9 (ab (aZ (ab rfl (ab rfl rfl)) Ξ) rfl) Ξ) (by simp;lia)) ?_
 have Y:R3++[Rw.store nm (.vl d5)]++f3++[Rw.go (1+R.length+Fi.length+2+f1.length)]=rbR b0 b1 nm d5 d8 at' R Fi f1 f2 f3++[Rw.go (1+R.length+Fi.length+2+f1.length)]:=by unfold rbR;rw[<- L,<- U]
 rw[Y];generalize rbR b0 b1 nm d5 d8 at' R Fi f1 f2 f3++[Rw.go (1+R.length+Fi.length+2+f1.length)]=R4
 exact dj (jn (ab (yj (aj ((aA (g:=je) (fa:=vB 10) (x:=.t (O.map hdD)) rfl (yj (x:=.t ((h::cs).map hdD)) rfl rfl rfl e1)).trans (oE hdD O m1 (by simp at k1;lia)))) rfl rfl e2) (ab rfl (ab (aj (t:=.f (.t (R4.map Rw.d))) ((bq (x:=.e (R4.map Rw.d)) rfl).trans rfl)) rfl))) Ξ)
def rbM:De->ζ Out:=(sIf (tB2 (gEq ξ) (toD (d2 ah (vB 5) (kD (.int 8)))) (kD (.int 1))) (ai (ap 10 (toT (toD (d2 mO (vB 10) (toD (av (aa (toD (av (aa (vL 3) (aa (vL 8) (aa (kD (.bl ξ)) af))))) af)))))))
  (ai (ap 11 (toT (toD (d2 az (toD (aR (aa (toD (av (aa (kD (.str "store")) (aa (vL 3) (aa (toD (d2 ah (vB 5) (kD (.int 6)))) af))))) (aa (toD (av (aa (kD (.str "end")) (aa (toD (d2 ah (vB 5) (kD (.int 7)))) af)))) (aa (toD (av (aa (kD (.str "store")) (aa (vL 7) (aa (toD (d2 ah (vB 5) (kD (.int 5)))) af))))) af))))) (toD (d2 ah (vB 6) (kD (.int 0))))))))
  (ai (ap 11 (toT (toD (d2 az (vB 11) (toD (aR (aa (toD (av (aa (kD (.str "load")) (aa (toD (d2 ah (vB 2) (toD (gH (kD (.int 1)))))) (aa (vL 3) af))))) (aa (toD (av (aa (kD (.str "go")) (aa (kD (.int 1)) af)))) af))))))))
  (ap 12 (toT (toD (aR (aa (toD (av (aa (kD (.str "store")) (aa (vL 3) (aa (toD (d2 ah (vB 5) (kD (.int 7)))) af))))) af)))))))) bo)
structure RbG(b0 b1:Str)(hs:List Hd)(R Fi:List Rw):Prop where
 h:hs.length<=2
 r:R.length<=10
 f:Fi.length<=1
 g:∀r∈R++Fi,Gr [b0,b1] r
 e:∃a,Rw.fin a∈R
def jp{B:η Str}(c:Str)(v:Int):Gr B (.store c (.vl v)):=⟨fun b q=>(by cases q),fun i j L=>.inr (qa4.mp L)⟩
def yk{B:η Str}(v:Int):Gr B (.fin (.vl v)):=⟨fun b q=>(by cases q),fun i j L=>(by cases L)⟩
def AR{B:η Str}(x c:Str):Gr B (.load x c):=⟨fun b q=>(by cases q),fun i j L=>.inr (qa4.mp L)⟩
def FG{B:η Str}:Gr B (.go 1):=⟨fun b q=>(by cases q),fun i j L=>.inl (qa4.mp L)⟩
def D8 (x0:ζ T) (P:Dt) (b0 b1 q:Str) (n:Int) (d0 d1 W Z Y d5 O L d8:Nat) (f0 f1 f2 f3:η Rw) (nm:Str) (st:Int) (x9:ζ T) (h:Hd) (h8:d8<2) (l0:f0.length<=1) (p0:∀ r∈f0,Pl r) :
  ∃(hs:η Hd)(R Fi:η Rw),RbG b0 b1 hs R Fi/\rbM (rb x0 P b0 b1 q n [d0,d1,W,Z,Y,d5,O,L,d8] f0 f1 f2 f3 nm st x9 [h] ([Rw.store nm (.vl O)]++f0++[Rw.fin (.vl L)]) [] ψ ψ ψ)=ς (.nx (rb x0 P b0 b1 q n [d0,d1,W,Z,Y,d5,O,L,d8] f0 f1 f2 f3 nm st x9 hs R Fi ψ ψ ψ)):=by
 have:d8=0∨d8=1:=by lia
 rcases this with rfl|rfl
 .refine⟨[h],[Rw.store nm (.vl O)]++f0++[Rw.fin (.vl L)],[],⟨Ξ,by simp;lia,Ξ,fun r U=>?_,.vl L,Ξ⟩,?_⟩
  .simp only[qe1,qa8,qg7,or_false]at U;rcases U with (rfl|U)|rfl
   .exact jp _ _
   .exact qc (p0 r U)
   .exact yk _
  .unfold rbM;rw[mi rfl];rfl
 .refine⟨[h,⟨q,st,ξ⟩],[Rw.store q (.vl O),Rw.fin (.vl L),Rw.store nm (.vl d5)]++f0++[Rw.load b1 q,Rw.go 1],[Rw.store q (.vl L)],⟨Ξ,by simp;lia,Ξ,fun r U=>?_,_,.tail _ (.head _)⟩,?_⟩
  .simp only[qe1,qa8,qg7,or_false]at U;rcases U with (((rfl|rfl|rfl)|U)|(rfl|rfl))|rfl
   .exact jp _ _
   .exact yk _
   .exact jp _ _
   .exact qc (p0 r U)
   .exact AR _ _
   .exact FG
   .exact jp _ _
  .unfold rbM;rw[jO rfl];refine cN (d:=.t ([h,⟨q,st,ξ⟩].map hdD)) (aj (t:=.f (.t ([h,⟨q,st,ξ⟩].map hdD))) ((aA (x:=.t [hdD h]) (y:=.t [hdD ⟨q,st,ξ⟩]) rfl (aZ (ab (aZ (ab rfl (ab rfl (ab rfl rfl))) Ξ) rfl) Ξ)).trans (show mO (.t [hdD h]) (.t [hdD ⟨q,st,ξ⟩])=_ from Dr (l:=[hdD h]) (m:=[hdD ⟨q,st,ξ⟩]) ⟨small Ξ,Ξ,Ξ⟩))) ?_;show ai _ _ (rb x0 P b0 b1 q n [d0,d1,W,Z,Y,d5,O,L,1] f0 f1 f2 f3 nm st x9 [h,⟨q,st,ξ⟩] ([Rw.store nm (.vl O)]++f0++[Rw.fin (.vl L)]) [] ψ ψ ψ)=_;refine cN (d:=.e (([Rw.store q (.vl O),Rw.fin (.vl L),Rw.store nm (.vl d5)]++f0).map Rw.d)) (cD (l:=[Rw.store q (.vl O),Rw.fin (.vl L),Rw.store nm (.vl d5)]) (m:=f0) (b9 (ab (aZ (ab rfl (ab rfl (ab rfl rfl))) Ξ) (ab (aZ (ab rfl (ab rfl rfl)) Ξ) (ab (aZ (ab rfl (ab rfl (ab rfl rfl))) Ξ) rfl))) Ξ) rfl (by simp;lia)) ?_;show ai _ _ (rb x0 P b0 b1 q n [d0,d1,W,Z,Y,d5,O,L,1] f0 f1 f2 f3 nm st x9 [h,⟨q,st,ξ⟩] ([Rw.store q (.vl O),Rw.fin (.vl L),Rw.store nm (.vl d5)]++f0) [] ψ ψ ψ)=_;refine cN (d:=.e (([Rw.store q (.vl O),Rw.fin (.vl L),Rw.store nm (.vl d5)]++f0++[Rw.load b1 q,Rw.go 1]).map Rw.d)) (cD (l:=[Rw.store q (.vl O),Rw.fin (.vl L),Rw.store nm (.vl d5)]++f0) (m:=[Rw.load b1 q,Rw.go 1]) rfl (b9 (ab (aZ (ab rfl (ab rfl (ab rfl rfl))) Ξ) (ab (aZ (ab rfl (ab rfl rfl)) Ξ) rfl)) Ξ) (by simp;lia)) ?_;exact(aP (t:=.f (.e ([Rw.store q (.vl L)].map Rw.d))) (b7 (b9 (ab (aZ (ab rfl (ab rfl (ab rfl rfl))) Ξ) rfl) Ξ))).trans rfl
theorem yl(n:Int)(b0 b1:Str)(d:η Nat)(O:∀k,k<4->∃x,d[k]?=ς x/\x<=1):∃f0 f1 f2 f3:η Rw,(∀f∈[f0,f1,f2,f3],f.length<=1/\∀r∈f,Pl r)/\bE (am 0) bh q14 [ψ,ς (.f (.e [.str b0,.str b1])),ς (.f (.int n)),ς (.f (.e (d.map dI)))] ((qd0 4).map dI)=ς [.e (f0.map Rw.d),.e (f1.map Rw.d),.e (f2.map Rw.d),.e (f3.map Rw.d)]:=by
 have one:∀k,k<4->∃f:η Rw,(f.length<=1/\∀r∈f,Pl r)/\q14 [ς (.f (dI k)),ς (.f (.e [.str b0,.str b1])),ς (.f (.int n)),ς (.f (.e (d.map dI)))]=ς (.e (f.map Rw.d)):=fun k hk=>by
  obtain⟨x,U,Y⟩:=O k hk;obtain⟨rs,e,l,h⟩:=vp (n+31*(k:Int)) x b0 b1 Θ;refine⟨rs,⟨Θ,h⟩,?_⟩;unfold q14;refine aj (t:=.e (rs.map Rw.d)) ((ej (x:=.int (n+31*(k:Int))) (y:=dI x) (z:=.e [.str b0,.str b1]) ?_ ?_ rfl).trans e)
  .unfold dI;walk_at "d"
  .exact aj (t:=.f (dI x)) ((aA (x:=.e (d.map dI)) (y:=dI k) rfl rfl).trans (by unfold dI;rw[eJ,be,qb1,U];rfl))
 obtain⟨f0,p0,e0⟩:=one 0 Ω;obtain⟨f1,p1,e1⟩:=one 1 Ω;obtain⟨f2,p2,W⟩:=one 2 Ω;obtain⟨f3,Z,L⟩:=one 3 Ω;refine⟨f0,f1,f2,f3,fun f q=>?_,?_⟩
 .simp only[qa8,qg7,or_false]at q;rcases q with rfl|rfl|rfl|rfl
  .exact p0
  .exact p1
  .exact p2
  .exact Z
 .have st:∀(k:Nat)(y:Dt)(ds ys:η Dt),q14 [ς (.f (dI k)),ς (.f (.e [.str b0,.str b1])),ς (.f (.int n)),ς (.f (.e (d.map dI)))]=ς y->bE (am 0) bh q14 [ψ,ς (.f (.e [.str b0,.str b1])),ς (.f (.int n)),ς (.f (.e (d.map dI)))] ds=ς ys->bE (am 0) bh q14 [ψ,ς (.f (.e [.str b0,.str b1])),ς (.f (.int n)),ς (.f (.e (d.map dI)))] (dI k::ds)=ς (y::ys):=fun k y ds ys h1 h2=>by unfold bE;rw[h2];show((q14 [ς (.f (dI k)),ς (.f (.e [.str b0,.str b1])),ς (.f (.int n)),ς (.f (.e (d.map dI)))]).bind _)=_;rw[h1];rfl
  exact st 0 _ _ _ e0 (st 1 _ _ _ e1 (st 2 _ _ _ W (st 3 _ _ _ L rfl)))
def D9{fd:De->ζ Dt}{d:Dt}(h1:fd δ=ς d)(h2:bb d δ=ς δ2):wu fd bb δ=ς (.nx δ2):=by unfold wu;rw[h1,qa3,h2];rfl
def lX (c:Int) (h:Hd) (cs ss:η Hd) (J0:η Rw) (b0 b1 mo:Str) (hc:cs.length<=8) :
  ∃(Y:η Hd)(O:η Rw),y16 [.int c,pgD (h::cs) ss J0,.e [.str b0,.str b1],.str mo]=ς (.f (pgD Y ss O))/\Prg [b0,b1] O/\Y.length<=20:=by
 obtain⟨n,hn⟩:∃n,c*69621%1000000007=n:=⟨_,rfl⟩;obtain⟨D,eD,hD,hd⟩:=dO n [2,2,2,2,2,5,5,5,2] (by intro z hz;simp at hz;lia) Ω;obtain⟨d0,Z,q,d3,d4,d5,U,W,d8,rfl⟩:=nine hD
 obtain⟨f0,f1,f2,f3,hf,ef⟩:=yl n b0 b1 [d0,Z,q,d3,d4,d5,U,W,d8] fun k hk=>by
  have:k=0∨k=1∨k=2∨k=3:=by lia
  rcases this with rfl|rfl|rfl|rfl
  .exact⟨d0,rfl,qt9 (hd 0 d0 2 rfl rfl)⟩
  .exact⟨Z,rfl,qt9 (hd 1 Z 2 rfl rfl)⟩
  .exact⟨q,rfl,qt9 (hd 2 q 2 rfl rfl)⟩
  .exact⟨d3,rfl,qt9 (hd 3 d3 2 rfl rfl)⟩
 have h4:d4<2:=hd 4 d4 2 rfl rfl;have h8:d8<2:=hd 8 d8 2 rfl rfl;obtain⟨l0,p0⟩:=hf f0 (.head _);obtain⟨l1,p1⟩:=hf f1 (.tail _ (.head _));obtain⟨l2,p2⟩:=hf f2 (.tail _ (.tail _ (.head _)));obtain⟨l3,p3⟩:=hf f3 (.tail _ (.tail _ (.tail _ (.head _))));obtain⟨hs,R,Fi,G,em⟩:=D8 (ς (.f (.int c))) (pgD (h::cs) ss J0) b0 b1 mo n d0 Z q d3 d4 d5 U W d8 f0 f1 f2 f3 h.x h.n (ς (.f (.bl h.b))) ⟨h.x,h.n,decide (n%8=1)⟩ h8 l0 p0;obtain⟨Y,at',q1,q2,et⟩:=D7 (ς (.f (.int c))) h cs ss J0 b0 b1 mo n d0 Z q d3 d4 d5 U W d8 f0 f1 f2 f3 h.x h.n (ς (.f (.bl h.b))) hs R Fi h4 hc G.h l1 l2 l3 G.r G.f;have gr:=G.r;have gf:=G.f
 have hR:∀r∈R++Fi++f1++f2++f3,Gr [b0,b1] r:=fun r L=>by
  simp only[qe1]at L;rcases L with (((L|L)|L)|L)|L
  .exact G.g r (qf0 _ L)
  .exact G.g r (qc7 _ L)
  .exact qc (p1 r L)
  .exact qc (p2 r L)
  .exact qc (p3 r L)
 have ll:=AQ (b0:=b0) (b1:=b1) (nm:=h.x) (d5:=d5) (d8:=d8) (at':=at') (R:=R) (Fi:=Fi) (f1:=f1) (f2:=f2) (f3:=f3);refine⟨Y,rbR b0 b1 h.x d5 d8 at' R Fi f1 f2 f3++[Rw.go (1+R.length+Fi.length+2+f1.length)],?_,yh Ξ Θ (k:=1+R.length+Fi.length+2+f1.length) Θ (D6 Θ h8 q2 hR),q1⟩
 .unfold y16;refine dRt ?_;show ai _ _ [ς (.f (.int c)),ς (.f (pgD (h::cs) ss J0)),ς (.f (.e [.str b0,.str b1])),ς (.f (.str mo)),ψ,ψ,ψ,ψ,ψ,ψ,ψ,ψ,ψ,ψ,ψ,ψ]=_;refine cN (d:=.int n) (by rw[<- hn];walk_at "d") ?_;refine cN (d:=.e ([d0,Z,q,d3,d4,d5,U,W,d8].map dI)) (aj (t:=.e ([d0,Z,q,d3,d4,d5,U,W,d8].map dI)) ((br (x:=.int n) (y:=.e ([2,2,2,2,2,5,5,5,2].map dI)) rfl rfl).trans eD)) ?_;refine cN (d:=.e [.e (f0.map Rw.d),.e (f1.map Rw.d),.e (f2.map Rw.d),.e (f3.map Rw.d)]) (aj (t:=.e [.e (f0.map Rw.d),.e (f1.map Rw.d),.e (f2.map Rw.d),.e (f3.map Rw.d)]) (cI (ds:=(qd0 4).map dI) rfl ef Ξ)) ?_;rw[ax (δ':=[ς (.f (.int c)),ς (.f (pgD (h::cs) ss J0)),ς (.f (.e [.str b0,.str b1])),ς (.f (.str mo)),ς (.f (.int n)),ς (.f (.e ([d0,Z,q,d3,d4,d5,U,W,d8].map dI))),ς (.f (.e [.e (f0.map Rw.d),.e (f1.map Rw.d),.e (f2.map Rw.d),.e (f3.map Rw.d)])),ς (.f (.str h.x)),ς (.f (.int h.n)),ς (.f (.bl h.b)),ψ,ψ,ψ,ψ,ψ,ψ]) (D9 (d:=hdD h) (aj (t:=.f (hdD h)) ((aA (x:=.t ((h::cs).map hdD)) (y:=.int ((0:Nat):Int)) (aj (t:=.f (.t ((h::cs).map hdD))) ((aA (x:=pgD (h::cs) ss J0) (y:=.int 0) rfl rfl).trans rfl)) rfl).trans (by rw[xG,be];rfl))) rfl)];refine cN (d:=.t ([Hd.mk h.x h.n (decide (n%8=1))].map hdD)) (aZ (ab (aZ (ab rfl (ab rfl (ab (d:=.bl (decide (n%8=1))) (by walk_at "d") rfl))) Ξ) rfl) Ξ) ?_;refine cN (d:=.e (([Rw.store h.x (.vl U)]++f0++[Rw.fin (.vl W)]).map Rw.d)) (cD (cD (l:=[Rw.store h.x (.vl U)]) (m:=f0) (b9 (ab (aZ (ab rfl (ab rfl (ab rfl rfl))) Ξ) rfl) Ξ) rfl (by simp;lia)) (m:=[Rw.fin (.vl W)]) (b9 (ab (aZ (ab rfl (ab rfl rfl)) Ξ) rfl) Ξ) (by simp;lia)) ?_;refine cN (d:=.e (([]:η Rw).map Rw.d)) rfl ?_;show ai rbM rbT (rb (ς (.f (.int c))) (pgD (h::cs) ss J0) b0 b1 mo n [d0,Z,q,d3,d4,d5,U,W,d8] f0 f1 f2 f3 h.x h.n (ς (.f (.bl h.b))) [⟨h.x,h.n,decide (n%8=1)⟩] ([Rw.store h.x (.vl U)]++f0++[Rw.fin (.vl W)]) [] ψ ψ ψ)=_;rw[ax em];exact et
def pw40:jD (.int 2) (.int 40)=ς (.f (.int 1099511627776)):=by rw[xD χ];rfl
def Ea{F:De->ζ T}{t:T}{r:ζ Out}(h:F δ=ς t)(k:G (δ.set i (ς t))=r):ai (ap i F) G δ=r:=by rw[ax (aP h)];exact k
theorem rP{i:Int}(h1:fa δ=ς (.int i))(h2:fb δ=ς (dI n))(L:0<n):∃k,k<n/\toD (d2 cg fa fb) δ=ς (dI k):=by have O:=qx5 i (show(n:Int)≠0 by lia);have q:=qy8 i (show(0:Int)<n by lia);refine⟨(i%(n:Int)).toNat,Θ,aj (t:=.f (dI _)) ((aA h1 h2).trans ((fu Θ).trans ?_))⟩;unfold dI;rw[show((i%(n:Int)).toNat:Int)=i%(n:Int)by lia]
def rQ{B:η Str}{v:Nat}(L:j<B.length+1):∃a:Atm,(∀x,a=.nm x->x∈B)/\ah (.e (B.map .str++[dI v])) (dI j)=ς (.f a.d):=by
 by_cases z:j<B.length
 .refine⟨.nm (B.getD j ""),fun x q=>by cases q;exact nr z,?_⟩;unfold dI;rw[eJ,be,qb4 (by simpa using z),qb1,qm9 z,qb5,qm9 z];rfl
 .obtain rfl:j=B.length:=by lia
  refine⟨.vl v,fun x q=>(by cases q),?_⟩;unfold dI;rw[eJ,be,qc9 Ξ];simp;rfl
def BW{L:η Rw}(h:j<L.length):∃r∈L,ah (.e (L.map Rw.d)) (dI j)=ς (.f r.d):=by refine⟨L[j],qr4 _,?_⟩;unfold dI;rw[eJ,be,qb1,gQ h];rfl
noncomputable def dgS(L:Int)(q:Nat)(C S B:η Str)(Z x6 x7 Y x9 O U W:ζ T):De:=[ς (.f (.int L)),ς (.f (dI q)),ς (.f (.e (C.map .str))),ς (.f (.e (S.map .str))),ς (.f (.e (B.map .str))),Z,x6,x7,Y,x9,O,U,W]
noncomputable def dgL(x c q:Str)(o p:Atm)(g:Nat)(u w:Rw):η Rw:=[.copy x o,.op x q o p,.load x c,.store c o,u,w,.hear x,.say o,.iff o g,.go g,.fin o,.op x q o p]
def dg3(L:Int)(q:Nat)(C S B:η Str)(d0 d1 O W U d5 Y Z d8:Nat)(o p:Atm)(x:Str):ζ T->ζ T->ζ T->De:=dgS L q C S B (ς (.f (dI (B.length+1)))) (ς (.f (.e ([d0,d1,O,W,U,d5,Y,Z,d8].map dI)))) (ς (.f o.d)) (ς (.f p.d)) (ς (.f (.str x)))
def ym{B:η Str}{q:Nat}{x c sg:Str}{o p:Atm}{g:Nat}{u w:Rw}(Z:∀x,o=.nm x->x∈B)(hp:∀x,p=.nm x->x∈B)(hg:g<q)(hu:Gd B q u)(hw:Gd B q w):∀r∈dgL x c sg o p g u w,Gd B q r:=fun r U=>by
 have O:∀r:Rw,r.atoms=[o]->∀b∈r.reads,b∈B:=fun r e=>cT fun y L=>by rw[e]at L;exact Z y (qa4.mp L).symm
 have Y:∀r:Rw,r.atoms=[o,p]->∀b∈r.reads,b∈B:=fun r e=>cT fun y L=>by
  rw[e]at L;rcases qa8.mp L with L|L
  .exact Z y L.symm
  .exact hp y (qa4.mp L).symm
 have W:∀r:Rw,r.atoms=[]->∀b∈r.reads,b∈B:=fun r e=>cT fun y L=>by rw[e]at L;cases L
 have n1:∀i j:Nat,j∈[i+1]->j<q∨j=i+1:=fun i j h=>.inr (qa4.mp h)
 unfold dgL at U;simp only[qa8,qg7,or_false]at U;rcases U with rfl|rfl|rfl|rfl|rfl|rfl|rfl|rfl|rfl|rfl|rfl|rfl
 .exact⟨O _ rfl,n1⟩
 .exact⟨Y _ rfl,n1⟩
 .exact⟨W _ rfl,n1⟩
 .exact⟨O _ rfl,n1⟩
 .exact hu
 .exact hw
 .exact⟨W _ rfl,n1⟩
 .exact⟨O _ rfl,n1⟩
 .refine⟨O _ rfl,fun i j h=>?_⟩;rcases qa8.mp h with h|h
  .exact .inl Θ
  .exact n1 i j h
 .exact⟨W _ rfl,fun i j h=>.inl (by rw[qa4.mp h];exact hg)⟩
 .exact⟨O _ rfl,fun i j h=>(by cases h)⟩
 .exact⟨Y _ rfl,n1⟩
def dgT:De->ζ Out:=(ai (sIf (tB2 (f9 fun i j=>decide (j<i)) (toD (ag bz (aa (vB 3) af))) (kD (.int 0))) (ai (ap 12 (toT (toD (d2 ah (vB 3) (toD (d2 cg (toD (d2 ah (vB 6) (kD (.int 7)))) (toD (ag bz (aa (vB 3) af)))))))))
  (ai (l9 11 (kD (.int 4)) (toD (av (aa (kD (.str "take")) (aa (vL 9) (aa (vL 12) (aa (vL 7) af)))))))
  (l9 11 (kD (.int 5)) (toD (av (aa (kD (.str "lay")) (aa (vL 12) (aa (vL 7) (aa (vL 8) af))))))))) bo)
  (aV (d2 ah (vB 11) (toD (d2 ah (vB 6) (kD (.int 0)))))))
def oG (q:Int) (many:Nat) (C S B:η Str) (hm:0<many) (hm2:many<=1000) (hC:0<C.length) (hC2:C.length<=100) (hS:S.length<=100) (hB:0<B.length) (hB2:B.length<=100) :
  ∃r:Rw,y30 [.int q,dI many,.e (C.map .str),.e (S.map .str),.e (B.map .str)]=ς (.f r.d)/\Gd B many r:=by
 obtain⟨D,eD,hD,hd⟩:=dO q [12,B.length,B.length+1,1099511627776,B.length+1,1099511627776,8,24,many] (by intro z hz;simp at hz;lia) Ξ;obtain⟨d0,U,O,Z,Y,d5,W,d7,d8,rfl⟩:=nine hD;have b0:d0<12:=hd 0 d0 12 rfl rfl;have b1:U<B.length:=hd 1 U _ rfl rfl;have b2:O<B.length+1:=hd 2 O _ rfl rfl;have b4:Y<B.length+1:=hd 4 Y _ rfl rfl;have b6:W<8:=hd 6 W 8 rfl rfl;have b8:d8<many:=hd 8 d8 _ rfl rfl;obtain⟨o,ho,eo⟩:=rQ (B:=B) (v:=Z) (j:=O) b2;obtain⟨p,hp,ep⟩:=rQ (B:=B) (v:=d5) (j:=Y) b4
 obtain⟨ch,hch,_⟩:=kE (x:="+-*<=&|^") (i:=(W:Int)) Ω Θ (by
  have:(("+-*<=&|^":Str).length:Int)=8:=by decide
  lia)
 have lens:∀(f:De->ζ Dt)(δ:De)(L:η Str),f δ=ς (.e (L.map .str))->toD (ag bz (aa f af)) δ=ς (dI L.length):=fun f δ L h=>hX h Ξ
 obtain⟨kc,hkc,ekc⟩:=rP (fa:=toD (d2 ah (vB 6) (kD (.int 7)))) (fb:=toD (ag bz (aa (vB 2) af))) (δ:=dg3 q many C S B d0 U O Z Y d5 W d7 d8 o p (B.getD U "") ψ ψ ψ) (i:=d7) rfl (lens _ _ C rfl) hC
 have tl:∃r:Rw,Gd B many r/\dgT (dg3 q many C S B d0 U O Z Y d5 W d7 d8 o p (B.getD U "") (ς (.f (.str (C.getD kc "")))) (ς (.e ((dgL (B.getD U "") (C.getD kc "") ⟨#[ch]⟩ o p d8 (.load (B.getD U "") (C.getD kc "")) (.store (C.getD kc "") p)).map Rw.d))) ψ)=ς (.rt (.f r.d)):=by
  generalize B.getD U ""=x;generalize C.getD kc ""=c;have n1:∀i j:Nat,j∈[i+1]->j<many∨j=i+1:=fun i j h=>.inr (qa4.mp h)
  unfold dgT;by_cases z:S=[]
  .subst z;obtain⟨r,hr,er⟩:=BW (L:=dgL x c ⟨#[ch]⟩ o p d8 (.load x c) (.store c p)) (j:=d0) b0;have gu:Gd B many (.load x c):=⟨cT fun y hy=>(by cases hy),n1⟩;have gw:Gd B many (.store c p):=⟨cT fun y hy=>hp y (qa4.mp hy).symm,n1⟩;refine⟨r,ym ho hp b8 gu gw r hr,?_⟩;rw[eM rfl];exact dj ((aA (x:=.e ((dgL x c ⟨#[ch]⟩ o p d8 (.load x c) (.store c p)).map Rw.d)) (y:=dI d0) rfl rfl).trans er)
  .have hS0:=qo4.mpr z;obtain⟨kf,hkf,ekf⟩:=rP (fa:=toD (d2 ah (vB 6) (kD (.int 7)))) (fb:=toD (ag bz (aa (vB 3) af))) (δ:=dg3 q many C S B d0 U O Z Y d5 W d7 d8 o p x (ς (.f (.str c))) (ς (.e ((dgL x c ⟨#[ch]⟩ o p d8 (.load x c) (.store c p)).map Rw.d))) ψ) (i:=d7) rfl (lens _ _ S rfl) hS0;obtain⟨r,hr,er⟩:=BW (L:=dgL x c ⟨#[ch]⟩ o p d8 (.take x (S.getD kf "") o) (.lay (S.getD kf "") o p)) (j:=d0) b0;have gu:Gd B many (.take x (S.getD kf "") o):=⟨cT fun y hy=>ho y (qa4.mp hy).symm,n1⟩;have gw:Gd B many (.lay (S.getD kf "") o p):=⟨cT fun y hy=>(qa8.mp hy).elim (fun z=>ho y z.symm) fun z=>hp y (qa4.mp z).symm,n1⟩;refine⟨r,ym ho hp b8 gu gw r hr,?_⟩
   rw[bL,jO (cM (x:=dI S.length) (y:=.int 0) (lens _ _ S rfl) rfl (by show ς (T.f (.bl (decide ((0:Int)<(S.length:Nat)))))=_;rw[decide_eq_true Θ]))]
   rw[ax (δ':=dg3 q many C S B d0 U O Z Y d5 W d7 d8 o p x (ς (.f (.str c))) (ς (.e ((dgL x c ⟨#[ch]⟩ o p d8 (.load x c) (.store c p)).map Rw.d))) (ς (.f (.str (S.getD kf ""))))) ((aP (t:=.f (.str (S.getD kf ""))) (b7 (aj (t:=.f (.str (S.getD kf ""))) ((aA (x:=.e (S.map .str)) (y:=dI kf) rfl ekf).trans (hZ hkf))))).trans rfl)];generalize S.getD kf ""=f at er ⊢;rw[ax (δ':=dg3 q many C S B d0 U O Z Y d5 W d7 d8 o p x (ς (.f (.str c))) (ς (.e ((dgL x c ⟨#[ch]⟩ o p d8 (.take x f o) (.store c p)).map Rw.d))) (ς (.f (.str f)))) ((xQ (l:=(dgL x c ⟨#[ch]⟩ o p d8 (.load x c) (.store c p)).map Rw.d) (k:=4) (d:=(Rw.take x f o).d) rfl rfl (aZ (ab rfl (ab rfl (ab rfl (ab rfl rfl)))) Ξ) (by simp[dgL])).trans rfl)];rw[show l9 11 (kD (.int 5)) (toD (av (aa (kD (.str "lay")) (aa (vL 12) (aa (vL 7) (aa (vL 8) af)))))) (dg3 q many C S B d0 U O Z Y d5 W d7 d8 o p x (ς (.f (.str c))) (ς (.e ((dgL x c ⟨#[ch]⟩ o p d8 (.take x f o) (.store c p)).map Rw.d))) (ς (.f (.str f))))=ς (.nx (dg3 q many C S B d0 U O Z Y d5 W d7 d8 o p x (ς (.f (.str c))) (ς (.e ((dgL x c ⟨#[ch]⟩ o p d8 (.take x f o) (.lay f o p)).map Rw.d))) (ς (.f (.str f)))))from(xQ (l:=(dgL x c ⟨#[ch]⟩ o p d8 (.take x f o) (.store c p)).map Rw.d) (k:=5) (d:=(Rw.lay f o p).d) rfl rfl (aZ (ab rfl (ab rfl (ab rfl (ab rfl rfl)))) Ξ) (by simp[dgL])).trans rfl,bF];exact dj ((aA (x:=.e ((dgL x c ⟨#[ch]⟩ o p d8 (.take x f o) (.lay f o p)).map Rw.d)) (y:=dI d0) rfl rfl).trans er)
 obtain⟨r,hr,er⟩:=tl;refine⟨r,?_,hr⟩;unfold y30;refine dRt ?_;show ai _ _ (dgS q many C S B ψ ψ ψ ψ ψ ψ ψ ψ)=_;refine cN (d:=dI (B.length+1)) (ca (a:=B.length) (b:=1) (lens _ _ B rfl) rfl rfl) ?_;show ai _ _ (dgS q many C S B (ς (.f (dI (B.length+1)))) ψ ψ ψ ψ ψ ψ ψ)=_;have e40:∀ δ:De,toD (d2 jD (kD (.int 2)) (kD (.int 40))) δ=ς (dI 1099511627776):=fun δ=>aj (t:=.f (dI 1099511627776)) ((aA (x:=.int 2) (y:=.int 40) rfl rfl).trans pw40)
 refine cN (d:=.e ([d0,U,O,Z,Y,d5,W,d7,d8].map dI)) (aj (t:=.e ([d0,U,O,Z,Y,d5,W,d7,d8].map dI)) ((br (x:=.int q) (y:=.e ([12,B.length,B.length+1,1099511627776,B.length+1,1099511627776,8,24,many].map dI)) rfl (b9 (ab rfl (ab (lens _ _ B rfl) (ab rfl (ab (e40 _) (ab rfl (ab (e40 _) (ab rfl (ab rfl (ab rfl rfl))))))))) Ξ)).trans eD)) ?_;show ai _ _ (dgS q many C S B (ς (.f (dI (B.length+1)))) (ς (.f (.e ([d0,U,O,Z,Y,d5,W,d7,d8].map dI)))) ψ ψ ψ ψ ψ ψ)=_;refine cN (d:=o.d) (aj (t:=.f o.d) ((aA (x:=.e (B.map .str++[dI Z])) (y:=dI O) (jo (l:=B.map .str) (m:=[dI Z]) rfl (b9 (ab rfl rfl) Ξ) (by simp;lia)) rfl).trans eo)) ?_;show ai _ _ (dgS q many C S B (ς (.f (dI (B.length+1)))) (ς (.f (.e ([d0,U,O,Z,Y,d5,W,d7,d8].map dI)))) (ς (.f o.d)) ψ ψ ψ ψ ψ)=_;refine cN (d:=p.d) (aj (t:=.f p.d) ((aA (x:=.e (B.map .str++[dI d5])) (y:=dI Y) (jo (l:=B.map .str) (m:=[dI d5]) rfl (b9 (ab rfl rfl) Ξ) (by simp;lia)) rfl).trans ep)) ?_;show ai _ _ (dgS q many C S B (ς (.f (dI (B.length+1)))) (ς (.f (.e ([d0,U,O,Z,Y,d5,W,d7,d8].map dI)))) (ς (.f o.d)) (ς (.f p.d)) ψ ψ ψ ψ)=_;refine cN (d:=.str (B.getD U "")) (aj (t:=.f (.str (B.getD U ""))) ((aA (x:=.e (B.map .str)) (y:=dI U) rfl rfl).trans (hZ b1))) ?_;show ai _ _ (dg3 q many C S B d0 U O Z Y d5 W d7 d8 o p (B.getD U "") ψ ψ ψ)=_;refine cN (d:=.str (C.getD kc "")) (aj (t:=.f (.str (C.getD kc ""))) ((aA (x:=.e (C.map .str)) (y:=dI kc) rfl ekc).trans (hZ hkc))) ?_;show ai _ _ (dg3 q many C S B d0 U O Z Y d5 W d7 d8 o p (B.getD U "") (ς (.f (.str (C.getD kc "")))) ψ ψ)=_;generalize B.getD U ""=x at er ⊢;generalize C.getD kc ""=c at er ⊢;have tp:∀{fs:De->ζ (η Dt)}{δ:De}{ds:η Dt},fs δ=ς ds->ds.length<=1000->toD (av fs) δ=ς (.t ds):=fun h hl=>aZ h hl
 refine Ea (t:=.e (([.copy x o,.op x ⟨#[ch]⟩ o p,.load x c,.store c o]:η Rw).map Rw.d)) (by rw[rC,ab (tp (ab rfl (ab rfl (ab rfl rfl))) Ξ) (ab (tp (ab rfl (ab rfl (ab (aj (t:=.f (.str ⟨#[ch]⟩)) ((aA (x:=.str "+-*<=&|^") (y:=dI W) rfl rfl).trans hch)) (ab rfl (ab rfl rfl))))) Ξ) (ab (tp (ab rfl (ab rfl (ab rfl rfl))) Ξ) (ab (tp (ab rfl (ab rfl (ab rfl rfl))) Ξ) (show af _=ς []from rfl)))),qa3,cC Ξ];rfl) ?_
 show ai _ _ (dg3 q many C S B d0 U O Z Y d5 W d7 d8 o p x (ς (.f (.str c))) (ς (.e (([.copy x o,.op x ⟨#[ch]⟩ o p,.load x c,.store c o]:η Rw).map Rw.d))) ψ)=_;refine Ea (t:=.e (([.copy x o,.op x ⟨#[ch]⟩ o p,.load x c,.store c o,.load x c,.store c p,.hear x,.say o]:η Rw).map Rw.d)) ((aA (x:=.e (([.copy x o,.op x ⟨#[ch]⟩ o p,.load x c,.store c o]:η Rw).map Rw.d)) (y:=.e (([.load x c,.store c p,.hear x,.say o]:η Rw).map Rw.d)) rfl (b9 (ab (tp (ab rfl (ab rfl (ab rfl rfl))) Ξ) (ab (tp (ab rfl (ab rfl (ab rfl rfl))) Ξ) (ab (tp (ab rfl (ab rfl rfl)) Ξ) (ab (tp (ab rfl (ab rfl rfl)) Ξ) rfl)))) Ξ)).trans (jj Ξ)) ?_;show ai _ _ (dg3 q many C S B d0 U O Z Y d5 W d7 d8 o p x (ς (.f (.str c))) (ς (.e (([.copy x o,.op x ⟨#[ch]⟩ o p,.load x c,.store c o,.load x c,.store c p,.hear x,.say o]:η Rw).map Rw.d))) ψ)=_;refine Ea (t:=.e ((dgL x c ⟨#[ch]⟩ o p d8 (.load x c) (.store c p)).map Rw.d)) ((aA (x:=.e (([.copy x o,.op x ⟨#[ch]⟩ o p,.load x c,.store c o,.load x c,.store c p,.hear x,.say o]:η Rw).map Rw.d)) (y:=.e (([.iff o d8,.go d8,.fin o,.op x ⟨#[ch]⟩ o p]:η Rw).map Rw.d)) rfl (b9 (ab (tp (ab rfl (ab rfl (ab rfl rfl))) Ξ) (ab (tp (ab rfl (ab rfl rfl)) Ξ) (ab (tp (ab rfl (ab rfl rfl)) Ξ) (ab rfl rfl)))) Ξ)).trans (jj Ξ)) ?_;exact er
def sG(P C:Dt)(kept:η Nat)(J0:η Rw)(E w:η Nat)(h:Nat):De:=[ς (.f P),ς (.f C),ς (.f (.e (kept.map dI))),ς (.f (dW J0)),ς (.f (.e (E.map dI))),ς (.e (w.map dI)),ς (.f (dI h))]
def gp(h:f δ=ς x)(h2:itD x=ς ds):fIt f δ=ς ds:=by unfold fIt;rw[h];exact h2
variable{E:η Nat}{h:Nat}
def AS(hE:stay J0 E=E)(hl:∀i∈E,i<J0.length)(L:h∈E):∃j,j∈gm J0 h/\j∈E/\∀(P C:Dt)(kept w:η Nat),toD (d2 ah (toD (aQ [ψ,ς 4] (fIt (toD (d2 ah (vB 3) (vB 6)))) (am 0) q21 (vL 0))) (kD (.int 0))) (sG P C kept J0 E w h)=ς (dI j):=by
 obtain⟨r0,O⟩:∃r0,J0[h]?=ς r0:=⟨J0[h]'(hl h L),by simp[hl h L]⟩;rw[<- hE]at L;obtain⟨_,q⟩:=qg4.mp L;obtain⟨j0,W,U⟩:=zc6.mp q
 have Y:(r0.outs h).filter (fun j=>decide (j∈E))≠[]:=fun z=>by have:j0∈(r0.outs h).filter (fun j=>decide (j∈E)):=qg4.mpr ⟨by rw[<- jm O];exact W,U⟩;rw[z]at this;cases this
 have hc:bE (am 0) q21 (vL 0) [ψ,ς (.f (.e (E.map dI)))] ((r0.outs h).map dI)=ς (((r0.outs h).filter fun j=>decide (j∈E)).map dI):=bZ fun j _=>⟨[ς (.f (dI j)),ς (.f (.e (E.map dI)))],rfl,by unfold q21;show((bJ ξ (dI j) (.e (E.map dI))).bind asB)=_;rw[gIn_ints];rfl,fun _=>rfl⟩
 have hl2:((r0.outs h).filter fun j=>decide (j∈E)).length<=2:=qb9 (qd6 _ _) (Rw.outs_len _ _);cases Z:(r0.outs h).filter (fun j=>decide (j∈E))with
 |nil=>exact absurd Z Y
 |cons j r=>
  have hj:j∈(r0.outs h).filter (fun j=>decide (j∈E)):=by rw[Z];exact .head _
  obtain⟨k1,k2⟩:=qg4.mp hj;refine⟨j,by rw[jm O];exact k1,of_decide_eq_true k2,fun P C kept w=>?_⟩;have a1:toD (d2 ah (vB 3) (vB 6)) (sG P C kept J0 E w h)=ς (.t ((r0.outs h).map dI)):=aj (t:=.f (.t ((r0.outs h).map dI))) ((aA (x:=dW J0) (y:=dI h) rfl rfl).trans (oD O));have a2:=aj (cI (src:=[ψ,ς 4]) (bb:=am 0) (ft:=q21) (fe:=vL 0) (gp a1 rfl) (show bE (am 0) q21 (vL 0) (dC [ψ,ς 4] (sG P C kept J0 E w h)) ((r0.outs h).map dI)=ς (((r0.outs h).filter fun j=>decide (j∈E)).map dI)from hc) (by rw[qa1];lia));rw[Z]at a2
  exact aj (t:=.f (dI j)) ((aA (x:=.e ((j::r).map dI)) a2 (show kD (.int 0) (sG P C kept J0 E w h)=ς (.int ((0:Nat):Int))from rfl)).trans (by rw[eJ,be];rfl))
structure Chn(J0:List Rw)(E w:List Nat)(h:Nat):Prop where
 nd:w.Nodup
 all:∀i∈w++[h],i∈E
 ed:∀(k a b:Nat),(w++[h])[k]?=ς a->(w++[h])[k+1]?=ς b->b∈gm J0 a
variable{w:η Nat}
def Chn.step(c:Chn J0 E w h)(W:h∉w)(Y:j∈gm J0 h)(L:j∈E):Chn J0 E (w++[h]) j:=by
 refine⟨ql0.mpr ⟨c.nd,Ξ,fun a O b U e=>W (by rw[qa4.mp U]at e;exact e▸O)⟩,fun i hi=>?_,fun k a b h1 h2=>?_⟩
 .rcases qe1.mp hi with hi|hi
  .exact c.all i hi
  .rw[qa4.mp hi];exact L
 .have hk:k+1<(w++[h]++[j]).length:=(gX h2).1;simp at hk;have q:k<(w++[h]).length:=by simp;lia
  rw[qb4 q]at h1;by_cases z:k+1<(w++[h]).length
  .rw[qb4 z]at h2;exact c.ed k a b h1 h2
  .have e:k=w.length:=by simp at z;lia
   subst e;rw[gR (nL _),qu7]at h1;rw[qc9 Ξ]at h2;simp at h1 h2;subst h1 h2;exact Y
variable{P C:Dt}
def vq {kept:η Nat} (L:w.length<1000) (q:∀ (P C:Dt) (kept w:η Nat),toD (d2 ah (toD (aQ [ψ,ς 4] (fIt (toD (d2 ah (vB 3) (vB 6)))) (am 0) q21 (vL 0))) (kD (.int 0))) (sG P C kept J0 E w h)=ς (dI j)) :
  z37 (sG P C kept J0 E w h)=ς (.nx (sG P C kept J0 E (w++[h]) j)):=by
 unfold z37
 rw[ax (δ':=sG P C kept J0 E (w++[h]) h) ((lN (l:=w.map dI) (d:=dI h) rfl rfl (by rw[qa1];lia)).trans (by unfold sG;rw[qf5];rfl))]
 exact aP (t:=.f (dI j)) (by unfold toT;rw[q P C kept (w++[h])];rfl)
theorem nu{P C:Dt}{kept:η Nat}(O:stay J0 E=E)(U:∀i∈E,i<J0.length)(Y:E.length<=500):∀(f:Nat)(w:η Nat)(h:Nat),Chn J0 E w h->E.length<f+w.length->∃q h',bp z45 z37 f (sG P C kept J0 E w h)=ς (.nx (sG P C kept J0 E q h'))/\Chn J0 E q h'/\h'∈q
 |0,w,h,c,hf=>by
  have:=bW c.nd fun i hi=>c.all i (qf0 _ hi)
  lia
 |f+1,w,h,c,hf=>by
  have L:z45 (sG P C kept J0 E w h)=ς (!decide (h∈w)):=cM (x:=dI h) (y:=.e (w.map dI)) rfl rfl gIn_ints;have W:=bW c.nd fun i hi=>c.all i (qf0 _ hi)
  by_cases z:h∈w
  .rw[decide_eq_true z]at L;exact⟨w,h,yb L,c,z⟩
  .rw[decide_eq_false z]at L;obtain⟨j,j1,j2,Z⟩:=AS O U (c.all h Ξ);obtain⟨q,h',e,c',z'⟩:=nu (P:=P) (C:=C) (kept:=kept) O U Y f (w++[h]) j (c.step z j1 j2) (by simp;lia);exact⟨q,h',by rw[ya L (vq Θ Z),e],c',z'⟩
def yn{g:Dt->η Dt->ζ T}{fo:De->ζ Dt}{o:Dt}(h:fo δ=ς o)(h2:f δ=ς x):jZ g fo (aa f af) δ=g o [x]:=by unfold jZ aa af;rw[h,h2];rfl
structure Ring(J0:List Rw)(U:Nat->Prop)(R:List Nat):Prop where
 ne:R≠[]
 nd:R.Nodup
 all:∀i∈R,U i
 ed:∀(k a b:Nat),R[k]?=ς a->R[k+1]?=ς b->b∈gm J0 a
 turn:∀a b:Nat,R[R.length-1]?=ς a->R[0]?=ς b->b∈gm J0 a
def Chn.ring(c:Chn J0 E w h)(hi:w[i]?=ς h):Ring J0 (· ∈ E) (w.drop i):=by
 have O:i<w.length:=(gX hi).1;refine⟨fun z=>?_,c.nd.sublist (List.drop_sublist _ _),fun j q=>c.all j (qf0 _ (List.mem_of_mem_drop q)),fun k a b h1 h2=>?_,fun a b h1 h2=>?_⟩
 .have:=congrArg qp2 z;simp at this;lia
 .rw[qy6]at h1 h2;have L:=(gX h2).1;exact c.ed (i+k) a b (by rw[qb4 Θ];exact h1) (by rw[show i+k+1=i+(k+1)by lia,qb4 L];exact h2)
 .rw[qy6]at h1 h2;rw[Nat.add_zero,hi]at h2;cases h2;rw[qv1,show i+(w.length-i-1)=w.length-1 by lia]at h1;refine c.ed (w.length-1) a h (by rw[qb4 Θ];exact h1) ?_;rw[show w.length-1+1=w.length by lia,gR (nL _),qu7];rfl
def tW(w:η Nat):lu (w.map dI)=ς (w.map fun j:Nat=>(j:Int)):=by have:=lz (w.map fun j:Nat=>(j:Int));rw[qc6]at this;exact this
def yo(O:h∈w)(U:w.length<=1000):∃i:Nat,w[i]?=ς h/\dg (.e (w.map dI)) [dI h]=ς (.f (.int (i:Nat))):=by
 have L:(h:Int)∈w.map fun j:Nat=>(j:Int):=qb8.mpr ⟨h,O,rfl⟩
 have q:=za7.mpr L;refine⟨(w.map fun j:Nat=>(j:Int)).idxOf (h:Int),?_,?_⟩
 .have e:=List.getElem_idxOf q;rw[qa1]at q;rw[List.getElem_map]at e;rw[gQ q];congr 1;lia
 .show((lu (w.map dI)).bind fun ns=>if(h:Int)∈ns/\ns.length<=100000 then ς (T.f (.int (ns.idxOf (h:Int):Nat)))else ψ)=_;rw[tW,qa3,if_pos ⟨L,by simp;lia⟩]
def yp{l:η Dt}{k:Nat}:gSl (.e l) (ς ((k:Nat):Int)) ψ=ς (.e (l.drop k)):=by
 have e:=HT.FP l.length 0 k;show ς (T.e (i0 l (ς ((k:Nat):Int)) ψ))=_;unfold i0;rw[e,HT.EQ];by_cases z:k<=l.length
 .rw[Nat.min_eq_left z,zd1 Ξ]
 .rw[Nat.min_eq_right Θ,zd5 (nL _),zd5 Θ];simp
def AT {b:Dt} {ks:η (Nat×η Str)} (hn:J0.length<=500) (hkl:ks.length<=1000) :
  (y23 [pcD c s J0,kcD b ks]=ς (.f .non)/\∀C:Nat->Prop,(∀i,C i->i<J0.length/\i∉ks.map (·.1))->(∀i,C i->∃j∈gm J0 i,C j)->∀i,¬ C i)∨
  ∃R:η Nat,Ring J0 (fun i=>i<J0.length/\i∉ks.map (·.1)) R/\R.length<=J0.length/\y23 [pcD c s J0,kcD b ks]=ς (.f (.t [.str "ring",.e (R.map dI)])):=by
 have ek:=jk b ks hkl;have ew:=kH c s J0 Θ;generalize ks.map (·.1)=kept at ek ⊢;have nd0:((qd0 J0.length).filter fun i=>!decide (i∈kept)).Nodup:=List.nodup_range.sublist qo3
 have q:∀i,i∈(qd0 J0.length).filter (fun i=>!decide (i∈kept))↔i<J0.length/\i∉kept:=fun i=>by rw[qg4,qe9];simp
 obtain⟨E,ee,hE,ndE,L,W⟩:=rJ J0 ((qd0 J0.length).filter fun i=>!decide (i∈kept)) hn (fun i hi=>((q i).mp hi).1) nd0
 have lE:E.length<=J0.length:=by
  have:=bW ndE (m:=qd0 J0.length) fun x hx=>qe9.mpr ((q x).mp (L x hx)).1
  simpa using this
 have hF:∀r,ai (sIf (tB2 (gEq ξ) (toD (ag bz (aa (vB 4) af))) (kD (.int 0))) (aV (toT (kD .non))) bo)
  (ai (ap 5 (aR af))
  (ai (ap 6 (toT (toD (d2 ah (vB 4) (kD (.int 0))))))
  (ai (bp z45 z37 100000)
  (aV (av (aa (kD (.str "ring")) (aa (toD (vSl (vB 5) (db (toD (jZ dg (vB 5) (aa (vB 6) af)))) gy)) af))))))) [ς (.f (pcD c s J0)),ς (.f (kcD b ks)),ς (.f (.e (kept.map dI))),ς (.f (dW J0)),ς (.f (.e (E.map dI))),ψ,ψ]=ς (.rt r)->y23 [pcD c s J0,kcD b ks]=ς r:=fun r h=>by
  unfold y23;refine kG ?_;show ai _ _ [ς (.f (pcD c s J0)),ς (.f (kcD b ks)),ψ,ψ,ψ,ψ,ψ]=_
  have e1:da gG (aa (toD (ag bz (aa (vB 3) af))) af) [ς (.f (pcD c s J0)),ς (.f (kcD b ks)),ς (.f (.e (kept.map dI))),ς (.f (dW J0)),ψ,ψ,ψ]=ς ((qd0 J0.length).map dI):=by unfold dW;walk_at "k";rw[List.length_mapIdx,jP _ Θ]
  have a2:=aj (cI (src:=[ψ,ς 2]) (bb:=am 0) (ft:=q45) (fe:=vL 0) e1 (vi kept J0.length) (by rw[qa1];exact qb9 (qd6 _ _) (by simp;lia)))
  rw[ax (aP (t:=.f (.e (kept.map dI))) (b7 (aj (bq (x:=kcD b ks) rfl |>.trans ek))))];rw[ax (aP (t:=.f (dW J0)) (b7 (aj (bq (x:=pcD c s J0) rfl |>.trans ew))))];show ai _ _ [ς (.f (pcD c s J0)),ς (.f (kcD b ks)),ς (.f (.e (kept.map dI))),ς (.f (dW J0)),ψ,ψ,ψ]=_;rw[ax (aP (t:=.f (.e (E.map dI))) (b7 (aj (br (f:=vL 3) (x:=dW J0) (y:=.e (((qd0 J0.length).filter fun i=>!decide (i∈kept)).map dI)) rfl a2 |>.trans ee))))];exact h
 have Z:tB2 (gEq ξ) (toD (ag bz (aa (vB 4) af))) (kD (.int 0)) [ς (.f (pcD c s J0)),ς (.f (kcD b ks)),ς (.f (.e (kept.map dI))),ς (.f (dW J0)),ς (.f (.e (E.map dI))),ψ,ψ]=ς (decide (((E.map dI).length:Int)=0)):=rfl;rw[qa1]at Z;by_cases O:E=[]
 .left;refine⟨hF (.f .non) (BV (Z.trans (by simp[O])) rfl),fun C c1 c2 i hi=>?_⟩;have:=W C (fun i hi=>(q i).mpr (c1 i hi)) c2 i hi;rw[O]at this;cases this
 .right;obtain⟨e0,U⟩:∃e0,E[0]?=ς e0:=⟨E[0]'(qo4.mpr O),by simp[qo4.mpr O]⟩;have me0:e0∈E:=qc8 U;have Y:∀i∈E,i<J0.length:=fun i hi=>((q i).mp (L i hi)).1
  have c0:Chn J0 E [] e0:=⟨qu2,fun i hi=>by rw[qa4.mp hi];exact me0,fun k a b h1 h2=>by simp at h2⟩;obtain⟨w,h,ew2,cw,hw⟩:=nu (P:=pcD c s J0) (C:=kcD b ks) (kept:=kept) hE Y Θ 100000 [] e0 c0 (by simp;lia);have wl:w.length<=E.length:=bW cw.nd fun i hi=>cw.all i (qf0 _ hi)
  obtain⟨i,hi,ei⟩:=yo hw Θ;have R:=cw.ring hi;refine⟨w.drop i,⟨R.ne,R.nd,fun j hj=>(q j).mp (L j (R.all j hj)),R.ed,R.turn⟩,by simp;lia,hF _ ?_⟩
  rw[eM (Z.trans (by simp[O])),ax (aP (t:=.e []) rfl),ax (δ':=sG (pcD c s J0) (kcD b ks) kept J0 E [] e0) (aP (t:=.f (dI e0)) (b7 (aj (t:=.f (dI e0)) ((aA (x:=.e (E.map dI)) (y:=.int ((0:Nat):Int)) rfl rfl).trans (by rw[eJ,be,qb1,U];rfl))))),ax ew2]
  refine dj ?_
  have v1:vSl (vB 5) (db (toD (jZ dg (vB 5) (aa (vB 6) af)))) gy (sG (pcD c s J0) (kcD b ks) kept J0 E w h)=ς (.e ((w.drop i).map dI)):=by have m1:toD (jZ dg (vB 5) (aa (vB 6) af)) (sG (pcD c s J0) (kcD b ks) kept J0 E w h)=ς (.int (i:Nat)):=aj ((yn (g:=dg) (o:=.e (w.map dI)) (x:=dI h) rfl rfl).trans ei);unfold vSl db gy;rw[m1];show gSl (.e (w.map dI)) (ς ((i:Nat):Int)) ψ=_;rw[yp,zc3]
  exact tK (x:=.str "ring") rfl (aj v1)
def plc(N:η Str)(J0:η Rw):η Nat:=(g8 (cb ((kds N 0 J0++bks 0 J0).map fun j:Nat=>(j:Int)))).map Int.toNat
def yq(N:η Str)(J0:η Rw):(g8 (cb ((kds N 0 J0++bks 0 J0).map fun j:Nat=>(j:Int)))).map Dt.int=(plc N J0).map dI:=by
 unfold plc;rw[qc6];refine qx2 fun x q=>?_
 rw[jL,oncesK_mem]at q;obtain⟨j,_,rfl⟩:=qb8.mp q;rfl
def plc_mem:j∈plc N J0↔j∈kds N 0 J0∨j∈bks 0 J0:=by
 unfold plc;rw[<- qe1,qb8];constructor
 .rintro⟨x,q,rfl⟩;rw[jL,oncesK_mem]at q;obtain⟨j,L,rfl⟩:=qb8.mp q;exact L
 .intro h;exact⟨(j:Int),by rw[jL,oncesK_mem];exact qb8.mpr ⟨j,h,rfl⟩,rfl⟩
def oH(q:∀(i:Nat)(r:Rw)(j:Nat),J0[i]?=ς r->j∈r.outs i->j<J0.length)(h:j∈plc N J0):j<J0.length:=by
 rcases plc_mem.mp h with h|h
 .obtain⟨_,r,h1,_⟩:=kds_mem.mp h;exact(gX h1).1
 .obtain⟨i,r,h1,h2,_⟩:=bks_mem.mp h;rw[zf5]at h2;exact q i r j h1 h2
def AU{l:η Int}(O:l.Nodup)(h:∀x∈l,∃j:Nat,j<n/\x=(j:Int)):l.length<=n:=by
 have:=bW O (m:=(qd0 n).map fun j:Nat=>(j:Int)) fun x q=>by obtain⟨j,L,rfl⟩:=h x q;exact qb8.mpr ⟨j,qe9.mpr L,rfl⟩
 simpa using this
theorem ka{N:η Str}(O:∀(i:Nat)(r:Rw)(j:Nat),J0[i]?=ς r->j∈r.outs i->j<J0.length):(cb ((kds N 0 J0++bks 0 J0).map fun j:Nat=>(j:Int))).length<=J0.length:=AU (n9 _) fun x q=>by rw[oncesK_mem]at q;obtain⟨j,L,rfl⟩:=qb8.mp q;exact⟨j,oH (N:=N) O (plc_mem.mpr (qe1.mp L)),rfl⟩
def kJ(q:∀(i:Nat)(r:Rw)(j:Nat),J0[i]?=ς r->j∈r.outs i->j<J0.length):(plc N J0).length<=J0.length:=by unfold plc;rw[qa1,(dM _).length_eq];exact ka q
def dh(N:η Str)(J0:η Rw)(J3:η (η Str)):η (Nat×η Str):=(plc N J0).map fun j=>(j,J3.getD j [])
def jq{B:η Str}(F:Fnd J0 B J3)(h:j<J0.length):J3[j]?=ς (J3.getD j []):=by
 have:j<J3.length:=by rw[F.len];exact h
 simp[this]
variable{cs ss:η Hd}
theorem mj {B:η Str} (hB:∀ (i:Nat) (r:Rw) (b:Str),J0[i]?=ς r->b∈r.reads->b∈B) (q:∀ (i:Nat) (r:Rw) (j:Nat),J0[i]?=ς r->j∈r.outs i->j<J0.length) (hb:B.length<=12) (hn:J0.length<=60) (O:0<J0.length) (U:cs.length+ss.length<=1000) (Z:z18 [pgD cs ss J0]=ς (.e (J3.map dS))) (F:Fnd J0 B J3) :
  y17 [pgD cs ss J0]=ς (.f (cdD (J3.getD 0 []) (dh (((cs++ss).filter fun h=>!h.b).map (·.x)) J0 J3))):=by
 have L:=rK cs ss J0 U Θ;have eb:=p9 (.t (cs.map hdD)) (.t (ss.map hdD)) J0 Θ;generalize ((cs++ss).filter fun h=>!h.b).map (·.x)=N at L ⊢;have l1:=tM N 0 J0;have l2:=tP 0 J0
 have eg:az (.e ((kds N 0 J0).map dI)) (.e ((bks 0 J0).map dI))=ς (.e (((kds N 0 J0++bks 0 J0).map fun j:Nat=>(j:Int)).map .int)):=by rw[jj (by rw[qa1,qa1];lia),<- qf5,qc6];rfl
 have es:=pV (ns:=(kds N 0 J0++bks 0 J0).map fun j:Nat=>(j:Int)) (by rw[qa1,qc0];lia) (qy5 (ka q) Θ);rw[yq]at es;unfold y17;rw[jM]
 have s1:ap 1 (toT (toD (ag (z18) (aa (vL 0) af)))) [ς (.f (pgD cs ss J0)),ψ,ψ]=ς (.nx [ς (.f (pgD cs ss J0)),ς (.f (dF J3)),ψ]):=by walk_at "k";rw[Z];rfl
 have s2:ap 2 (toT (toD (ag fS (aa (toD (d2 az (toD (ag y27 (aa (vL 0) af))) (toD (ag z19 (aa (vL 0) af))))) af)))) [ς (.f (pgD cs ss J0)),ς (.f (dF J3)),ψ]=ς (.nx [ς (.f (pgD cs ss J0)),ς (.f (dF J3)),ς (.f (.e ((plc N J0).map dI)))]):=by walk_at "k";rw[L,eb];walk_at "k";rw[eg];walk_at "k";rw[es];rfl
 show oj (ai _ _ [ς (.f (pgD cs ss J0)),ψ,ψ])=_;rw[bL,s1,bF,bL,s2,bF]
 have Y:bE (am 0) bh q44 [ψ,ς (.f (dF J3))] ((plc N J0).map dI)=ς ((dh N J0 J3).map kpD):=by
  have:=bZ (f:=dI) (h:=fun j=>kpD (j,J3.getD j [])) (p:=fun _=>θ) (bb:=am 0) (ft:=bh) (fe:=q44) (δ:=[ψ,ς (.f (dF J3))]) (l:=plc N J0) fun j W=>⟨[ς (.f (dI j)),ς (.f (dF J3))],rfl,rfl,fun _=>by unfold q44;have h2:=rG (jq F (oH q W));unfold dI;walk_at "k";rw[h2];rfl⟩
  rw[this,List.filter_eq_self.mpr fun _ _=>rfl];unfold dh;rw[qc6];rfl
 have h2:=rG (jq F O);walk_at "k"
 have l3:((dh N J0 J3).map kpD).length<=1000000:=by have:=kJ (N:=N) q;unfold dh;simp;lia
 rw[show ah (dF J3) (.int 0)=_ from h2,Y,qa3,qa3,cC l3];rfl
def jr(kept:η Nat)(J0:η Rw):η Dt:=J0.mapIdx fun k r=>.e (((r.outs k).filter fun w=>!decide (w∈kept)).map dI)
def q118(kept outs:η Nat)(L:outs.length<=10):z59 [ς (.f (.t (outs.map dI))),ς (.f (.e (kept.map dI)))]=ς (.e ((outs.filter fun w=>!decide (w∈kept)).map dI)):=by
 unfold z59;walk_at "k"
 rw[bZ (h:=dI) (p:=fun w=>!decide (w∈kept)) fun w q=>⟨_,rfl,by unfold z74;walk_at "k";rw[gIn_ints];rfl,fun _=>rfl⟩]
 walk_at "k";rw[cC (by rw[qa1];exact qb9 (qd6 _ _) Θ)];walk_at "k"
theorem yr(c s b:Dt)(J0:η Rw)(ks:η (Nat×η Str))(h:J0.length<=1000)(hk:ks.length<=1000):q24 [.t [c,s,dR J0],.t [b,.t (ks.map kpD)]]=ς (.e (jr (ks.map (·.1)) J0)):=by unfold q24;walk_at "k";rw[jk b ks hk];walk_at "k";rw[kH c s J0 h];walk_at "k";unfold jr;rw[qz3,qz3,bw (h:=fun p:Rw×Nat=>Dt.e (((p.1.outs p.2).filter fun w=>!decide (w∈ks.map (·.1))).map dI)) fun p hp=>⟨_,rfl,rfl,q118 _ _ (qb9 (Rw.outs_len _ _) Ω)⟩];walk_at "k";rw[cC (by rw[qa1,List.length_zipIdx];lia)];walk_at "k"
noncomputable def ms:Mrk->Str
 |.fresh=>"fresh"|.seen=>"seen"|.safe=>"safe"|.spoilt=>"spoilt"
def oI:∀{a b:Mrk},ms a=ms b->a=b:=fun {a b} h=>by cases a<;>cases b<;>first|rfl|(exfalso;revert h;unfold ms;decide +kernel)
def FH(a b:Mrk):decide (ms a=ms b)=decide (a=b):=by rw[decide_eq_decide];exact⟨oI,fun h=>by rw[h]⟩
theorem FI(r:Rw)(nm:Str)(x:ζ T):tB2 (bJ ξ) (toD (d2 ah (vB 1) (kD (.int 0)))) (toD (av (aa (kD (.str "load")) (aa (kD (.str "take")) af)))) [x,ς (.f r.d),ς (.f (.str nm))]=ς (match r with|.load _ _=>θ|.take _ _ _=>θ|_=>ξ):=by cases r<;>simp only[Rw.d]<;>walk_at "k"
theorem FJ(r:Rw)(nm:Str)(x:ζ T):tB2 (bJ ξ) (toD (d2 ah (vB 1) (kD (.int 0)))) (toD (av (aa (kD (.str "store")) (aa (kD (.str "lay")) af)))) [x,ς (.f r.d),ς (.f (.str nm))]=ς (match r with|.store _ _=>θ|.lay _ _ _=>θ|_=>ξ):=by cases r<;>simp only[Rw.d]<;>walk_at "k"
def FK(r:Rw)(nm:Str)(x:ζ T):tB2 (gEq ξ) (toD (d2 ah (vB 1) (kD (.int 0)))) (kD (.str "store")) [x,ς (.f r.d),ς (.f (.str nm))]=ς (match r with|.store _ _=>θ|_=>ξ):=by cases r<;>simp only[Rw.d]<;>walk_at "k"
def oJ(a b:Mrk)(x y:ζ T):tB2 (gEq ξ) (vB 0) (kD (.str (ms b))) [ς (.f (.str (ms a))),x,y]=ς (decide (a=b)):=by rw[<- FH];rfl
def tX(m:Mrk)(r:Rw)(nm:Str):y32 [.str (ms m),r.d,.str nm]=ς (.f (.str (ms (mb m r nm)))):=by
 have O:cY (tB2 (gEq ξ) (vB 0) (kD eT)) (cY (tB2 (bJ ξ) (toD (d2 ah (vB 1) (kD (.int 0)))) (toD (av (aa (kD (.str "load")) (aa (kD (.str "take")) af))))) (tB2 (gEq ξ) (toD (d2 ah (vB 1) (kD (.int 2)))) (vB 2))) [ς (.f (.str (ms m))),ς (.f r.d),ς (.f (.str nm))]=ς (decide (m=.fresh)&&r.gets nm):=by
  rw[jN,show tB2 (gEq ξ) (vB 0) (kD eT) [ς (.f (.str (ms m))),ς (.f r.d),ς (.f (.str nm))]=_ from oJ m .fresh _ _];cases decide (m=.fresh)
  .rfl
  .rw[jh,jN,FI];cases r<;>rfl
 have L:cY (tB2 (gEq ξ) (vB 0) (kD eT)) (cY (tB2 (gEq ξ) (toD (d2 ah (vB 1) (kD (.int 0)))) (kD (.str "store"))) (tB2 (gEq ξ) (toD (d2 ah (vB 1) (kD (.int 1)))) (vB 2))) [ς (.f (.str (ms m))),ς (.f r.d),ς (.f (.str nm))]=ς (decide (m=.fresh)&&r.stores nm):=by
  rw[jN,show tB2 (gEq ξ) (vB 0) (kD eT) [ς (.f (.str (ms m))),ς (.f r.d),ς (.f (.str nm))]=_ from oJ m .fresh _ _];cases decide (m=.fresh)
  .rfl
  .rw[jh,jN,FK];cases r<;>rfl
 have q:cY (tB2 (gEq ξ) (vB 0) (kD lB)) (cY (tB2 (bJ ξ) (toD (d2 ah (vB 1) (kD (.int 0)))) (toD (av (aa (kD (.str "store")) (aa (kD (.str "lay")) af))))) (tB2 (gEq ξ) (toD (d2 ah (vB 1) (kD (.int 1)))) (vB 2))) [ς (.f (.str (ms m))),ς (.f r.d),ς (.f (.str nm))]=ς (decide (m=.seen)&&r.puts nm):=by
  rw[jN,show tB2 (gEq ξ) (vB 0) (kD lB) [ς (.f (.str (ms m))),ς (.f r.d),ς (.f (.str nm))]=_ from oJ m .seen _ _];cases decide (m=.seen)
  .rfl
  .rw[jh,jN,FJ];cases r<;>rfl
 unfold y32;rw[jM];show oj (ai _ _ [ς (.f (.str (ms m))),ς (.f r.d),ς (.f (.str nm))])=_;rw[bL,ni,O];cases h1:(decide (m=.fresh)&&r.gets nm)with
 |true=>
  have:m=.fresh/\r.gets nm=θ:=by simpa using h1
  rw[this.1];simp only[mb,this.2,if_true];rfl
 |false=>
  rw[ji,bo,bF,bL,ni,L];cases h2:(decide (m=.fresh)&&r.stores nm)with
  |true=>
   have:m=.fresh/\r.stores nm=θ:=by simpa using h2
   rw[this.1]at h1 ⊢;simp only[decide_true,qi9]at h1;simp only[mb,this.2,h1,if_true,qf4,if_false];rfl
  |false=>
   rw[ji,bo,bF,bL,ni,q];cases h3:(decide (m=.seen)&&r.puts nm)with
   |true=>
    have:m=.seen/\r.puts nm=θ:=by simpa using h3
    rw[this.1];simp only[mb,this.2,if_true];rfl
   |false=>
    rw[ji,bo,bF];cases m with
    |fresh=>simp only[decide_true,qi9]at h1 h2;simp only[mb,h1,h2,qf4,if_false];rfl
    |seen=>simp only[decide_true,qi9]at h3;simp only[mb,h3,qf4,if_false];rfl
    |safe=>rfl
    |spoilt=>rfl
def ev(t:Nat×Mrk):Dt:=.t [dI t.1,.str (ms t.2)]
def im(h:J0[i]?=ς r):ah (dR J0) (dI i)=ς (.f r.d):=by unfold dR dI;rw[xG,be,qb1,h];rfl
def Eb{kept:η Nat}(h:J0[i]?=ς r):ah (.e (jr kept J0)) (dI i)=ς (.f (.e (((r.outs i).filter fun w=>!decide (w∈kept)).map dI))):=by unfold jr dI;rw[eJ,be,List.getElem?_mapIdx,h];rfl
def tY(t:Nat×Mrk):ah (ev t) (.int 0)=ς (.f (dI t.1)):=by unfold ev;walk_at "k"
def BX(t:Nat×Mrk):ah (ev t) (.int 1)=ς (.f (.str (ms t.2))):=by unfold ev;walk_at "k"
def FL{a b:Mrk}:decide (ms a=ms b)=decide (a=b):=by rw[decide_eq_decide];exact⟨oI,fun h=>by rw[h]⟩
def vt{nm:Str}{t:Nat×Mrk}(h:t.1<J0.length):kh 3 cj [.str nm,dR J0] [ev t]=ς (.f (.bl (hW J0 nm t))):=by
 have q:J0[t.1]?=ς J0[t.1]:=gQ h;unfold kh
 show(match cj [ς (.f (ev t)),ς (.f (.str nm)),ς (.f (dR J0))]with
  |some (.rt t)=>ς t|some (.nx _)=>ς (.f .non)|_=>ψ)=_
 have e:cj [ς (.f (ev t)),ς (.f (.str nm)),ς (.f (dR J0))]=ς (.rt (.f (.bl (hW J0 nm t)))):=by unfold cj;walk_at "k";rw[BX,tY];walk_at "k";rw[im q];walk_at "k";rw[tX];unfold jg;walk_at "k";unfold hW;simp only[q];rw[<- FL];rfl
 rw[e]
def AV{kept:η Nat}{nm:Str}{t:Nat×Mrk}(h:t.1<J0.length):kh 5 ci [.str nm,dR J0,.e (jr kept J0)] [ev t]=ς (.e ((ir J0 kept nm t).map ev)):=by
 have q:J0[t.1]?=ς J0[t.1]:=gQ h;unfold kh
 show(match ci [ς (.f (ev t)),ψ,ς (.f (.str nm)),ς (.f (dR J0)),ς (.f (.e (jr kept J0)))]with
  |some (.rt t)=>ς t|some (.nx _)=>ς (.f .non)|_=>ψ)=_
 have e:ci [ς (.f (ev t)),ψ,ς (.f (.str nm)),ς (.f (dR J0)),ς (.f (.e (jr kept J0)))]=ς (.rt (.e ((ir J0 kept nm t).map ev))):=by
  unfold ci;walk_at "k";rw[BX,tY];walk_at "k";rw[im q];walk_at "k";rw[tX];unfold og;walk_at "k";unfold ir;simp only[q];generalize L:mb t.2 J0[t.1] nm=m;by_cases e:m=.safe
  .rw[gl (by simp[e,ms]),if_pos e];walk_at "k"
  .rw[fC (by simp only[decide_eq_false_iff_not];exact fun z=>e (oI (b:=.safe) z)),if_neg e];walk_at "k";rw[tY];walk_at "k";rw[Eb q];walk_at "k";rw[bw (h:=fun w:Nat=>ev (w,m)) fun w _=>⟨_,rfl,rfl,by unfold q63 ev;walk_at "k"⟩];walk_at "k";rw[cC (by rw[qa1];exact qb9 (qd6 _ _) (qb9 (Rw.outs_len _ _) Ω)),qc6];walk_at "k";rfl
 rw[e]
def ky(t:Nat×Mrk):Int×Str:=((t.1:Int),ms t.2)
def Ec(a b:Nat×Mrk)(h:ky a=ky b):a=b:=by unfold ky at h;simp only[Prod.mk.injEq]at h;exact Prod.ext Θ (oI h.2)
noncomputable def Un(n:Nat):η (Nat×Mrk):=(qd0 n).flatMap fun k=>[(k,.fresh),(k,.seen),(k,.safe),(k,.spoilt)]
def mem_Un{t:Nat×Mrk}:t∈Un n↔t.1<n:=by
 unfold Un;rw[List.mem_flatMap];constructor
 .rintro⟨k,hk,h⟩;have hk:=qe9.mp hk;simp at h;rcases h with rfl|rfl|rfl|rfl<;>exact hk
 .intro h;refine⟨t.1,qe9.mpr h,?_⟩;obtain⟨k,m⟩:=t;cases m<;>simp
def Ed(n:Nat):(Un n).length=4*n:=by
 unfold Un;induction n with
 |zero=>rfl
 |succ n q=>rw[List.range_succ,List.flatMap_append,qc0,q];simp;lia
def kps(kp:η (Nat×η Str)):η Nat:=kp.map (·.1)
noncomputable def plain(cs ss:η Hd):η Str:=((cs++ss).filter fun h=>!h.b).map (·.x)
def sl8(P C:Dt)(nm:Str)(L x4 q:ζ T):De:=[ς (.f P),ς (.f C),ς (.f (.str nm)),L,x4,ψ,ψ,q]
noncomputable def endS:ζ (η (Nat×Mrk))->T
 |none=>.f .non
 |some ws=>.e ((ws.reverse.map (·.1)).map dI)
theorem rR {b:Dt} {kp:η (Nat×η Str)} {nm:Str} (hl:cs.length+ss.length<=1000) (h:nm∈plain cs ss) (hr:J0.length<=1000) (Y:0<J0.length) (hk:kp.length<=1000) (Z:∀ k∈kps kp,k<J0.length) (hO:∀ (k:Nat) (r:Rw) (w:Nat),J0[k]?=ς r->w∈r.outs k->w<J0.length) :
  ∃r:ζ (η (Nat×Mrk)),q56 [pgD cs ss J0,kcD b kp,.str nm]=ς (endS r)∧(r=ψ->∀t,Rch (ir J0 (kps kp) nm) (cW (kps kp)) t->hW J0 nm t=ξ)/\∀ws,r=ς ws->ws.length<=10000/\∃t,Wy (ir J0 (kps kp) nm) (hW J0 nm) (cW (kps kp)) t ws/\hW J0 nm t=θ:=by
 obtain⟨r,h1,h2,h3⟩:=xT (ky:=ky) Ec (U:=Un J0.length) (J4:=cW (kps kp)) (beh:=ir J0 (kps kp) nm) (fit:=hW J0 nm)
  (fun t q u hu=>by obtain⟨r,e,_,g,_⟩:=lP hu;exact mem_Un.mpr (hO _ r _ e g))
  (by rw[Ed];lia)
  (fun t q=>by
   unfold ir;split
   .simp
   .split
    .simp
    .rw[qa1];exact qb9 (qd6 _ _) (qb9 (Rw.outs_len _ _) Ω))
  (fun t q=>by
   obtain⟨k,L,rfl⟩:=qb8.mp q;refine mem_Un.mpr ?_;rcases qa8.mp L with rfl|z
   .exact Y
   .exact Z k z)
  (by unfold cW kps;simp;lia)
 refine⟨r,?_,h2,fun ws z=>⟨qb9 (h3 ws z).1 Ω,(h3 ws z).2⟩⟩;have W:∀ws,r=ς ws->ws.length<=10000:=fun ws z=>qb9 (h3 ws z).1 Ω
 unfold q56;refine kG ?_;show ai _ _ (sl8 (pgD cs ss J0) (kcD b kp) nm ψ ψ ψ)=_
 have t1:tB2 (bJ θ) (vB 2) (toD (ag q15 (aa (vL 0) af))) (sl8 (pgD cs ss J0) (kcD b kp) nm ψ ψ ψ)=ς ξ:=by unfold sl8;walk_at "k";rw[lV cs ss _ hl];walk_at "k";rw[gIn_strs];simp only[if_true];rw[show(((cs++ss).filter fun h=>!h.b).map (·.x))=plain cs ss from rfl,decide_eq_true h];rfl
 have t3:ap 4 (toT (toD (ag q24 (aa (vL 0) (aa (vL 1) af))))) (sl8 (pgD cs ss J0) (kcD b kp) nm (ς (.f (dR J0))) ψ ψ)=ς (.nx (sl8 (pgD cs ss J0) (kcD b kp) nm (ς (.f (dR J0))) (ς (.f (.e (jr (kps kp) J0)))) ψ)):=by refine(aP (t:=.f (.e (jr (kps kp) J0))) ?_).trans rfl;show(((q24 [pgD cs ss J0,kcD b kp]).bind T.d).map T.f)=_;show(((q24 [pcD _ _ J0,kcD b kp]).bind T.d).map T.f)=_;rw[yr _ _ _ J0 kp hr hk];rfl
 rw[ax (by rw[mi t1];rfl),ax (δ':=sl8 (pgD cs ss J0) (kcD b kp) nm (ς (.f (dR J0))) ψ ψ) (aP rfl),ax t3];show ai _ _ (sl8 (pgD cs ss J0) (kcD b kp) nm (ς (.f (dR J0))) (ς (.f (.e (jr (kps kp) J0)))) ψ)=_
 have f0:z66 (sl8 (pgD cs ss J0) (kcD b kp) nm (ς (.f (dR J0))) (ς (.f (.e (jr (kps kp) J0)))) ψ)=ς (.e ((cW (kps kp)).map (nD ky))):=by unfold z66 sl8;walk_at "k";rw[jk b kp hk];walk_at "k";rw[xB (small (by simp;lia))];walk_at "k";rw[show(Dt.int 0::(kp.map (fun x=>x.1)).map dI)=(0::kps kp).map dI from rfl,bw (h:=fun k:Nat=>ev (k,.fresh)) fun k _=>⟨_,rfl,rfl,by unfold q97 ev eT;walk_at "k";rfl⟩];walk_at "k";rw[cC (by unfold kps;simp;lia)];unfold cW;rw[qc6];rfl
 have fr:fRt [2,3,4] [2,3] ["place","mark","name","rows","inner"] ["place","name","rows"] ci cj z66 y87 (sl8 (pgD cs ss J0) (kcD b kp) nm (ς (.f (dR J0))) (ς (.f (.e (jr (kps kp) J0)))) ψ)=ς (resR ky r):=by
  refine Df (d0:=.e ((cW (kps kp)).map (nD ky))) (a:=[.str nm,dR J0,.e (jr (kps kp) J0)]) (b:=[.str nm,dR J0]) f0 rfl rfl fun f1 f2 F0 O=>?_
  refine h1 _ f1 f2 F0 (fun t q=>?_) fun t q=>?_
  .rw[C9];exact AV (mem_Un.mp q)
  .rw[Db O];exact vt (mem_Un.mp q)
 rw[ax (aP fr)];cases r with
 |none=>rfl
 |some ws=>
  have hwl:ws.length<=10000:=W ws rfl;show aV _ [ς (.f (pgD cs ss J0)),ς (.f (kcD b kp)),ς (.f (.str nm)),ς (.f (dR J0)),ς (.f (.e (jr (kps kp) J0))),ψ,ψ,ς (.e (ws.reverse.map (nD ky)))]=_;walk_at "k"
  rw[bw (h:=fun t:Nat×Mrk=>dI t.1) fun t _=>⟨[ς (.f (ev t))],rfl,rfl,by unfold y94;walk_at "k";rw[tY];rfl⟩]
  walk_at "k";rw[cC (by rw[qa1,qr6];lia)];show ς (Out.rt (.e (ws.reverse.map fun t=>dI t.1)))=ς (Out.rt (.e ((ws.reverse.map (·.1)).map dI)));rw[qc6];rfl
def Rw.isFin:Rw->Bool
 |.fin _=>θ
 |_=>ξ
def fE(kept:η Nat):Nat->η Rw->ζ Nat
 |_,[]=>ψ
 |k,r::rs=>if Rw.isFin r&&!decide (k∈kept)then ς k else fE kept (k+1) rs
theorem oK{kept:η Nat}:∀{k:Nat}{rs:η Rw},fE kept k rs=ψ->∀(i:Nat)(r:Rw),rs[i]?=ς r->Rw.isFin r=θ->k+i∈kept
 |k,[],_,i,r,h,_=>by simp at h
 |k,q::rs,e,i,r,h,O=>by
  unfold fE at e;split at e
  .cases e
  .rename_i L;cases i with
   |zero=>cases h;rw[O]at L;simpa using L
   |succ i=>
    have:=oK e i r h O
    rwa [show k+(i+1)=k+1+i by lia]
theorem oM{kept:η Nat}:∀{k:Nat}{rs:η Rw},fE kept k rs=ς n->n∉kept/\k<=n/\∃r,rs[n-k]?=ς r/\Rw.isFin r=θ
 |k,[],h=>by cases h
 |k,q::rs,e=>by
  unfold fE at e;split at e
  .rename_i L;cases e;simp at L;exact⟨L.2,qp1 _,q,Ξ,L.1⟩
  .obtain⟨a,b,r,c,d⟩:=oM e;refine⟨a,Θ,r,?_,d⟩;rw[show n-k=(n-(k+1))+1 by lia];exact c
theorem yt(P C:ζ T)(kept:η Nat)(k:Nat)(r:Rw):z32 [P,C,ς (.f (.e (kept.map dI))),ς (.f (dI k)),ς (.f r.d)]=if Rw.isFin r&&!decide (k∈kept)then ς (.rt (.f (.t [.str "end",dI k])))else ς (.nx [P,C,ς (.f (.e (kept.map dI))),ς (.f (dI k)),ς (.f r.d)]):=by
 unfold z32;cases r<;>(simp only[Rw.d,Rw.isFin];walk_at "k")<;>try rfl
 rw[gIn_ints];walk_at "k";by_cases h:k∈kept<;>simp[h]<;>rfl
theorem qd (P C:ζ T) (kept:η Nat):∀ (rs:η Rw) (k:Nat) (L x4:ζ T),∃ U O,cA (eG 2 (aW (am 3) (aW (am 4) eF))) z32 (de k (rs.map Rw.d)) [P,C,ς (.f (.e (kept.map dI))),L,x4]=match fE kept k rs with
  |some n=>ς (.rt (.f (.t [.str "end",dI n])))
  |none=>ς (.nx [P,C,ς (.f (.e (kept.map dI))),U,O])
 |[],k,L,x4=>⟨L,x4,rfl⟩
 |r::rs,k,L,x4=>by
  obtain⟨U,O,e⟩:=qd P C kept rs (k+1) (ς (.f (dI k))) (ς (.f r.d));refine⟨U,O,?_⟩;have q:=yt P C kept k r;unfold fE;cases W:Rw.isFin r&&!decide (k∈kept)with
  |true=>rw[W]at q;show((z32 [P,C,ς (.f (.e (kept.map dI))),ς (.f (dI k)),ς (.f r.d)]).bind _)=_;rw[q];rfl
  |false=>rw[W]at q;show((z32 [P,C,ς (.f (.e (kept.map dI))),ς (.f (dI k)),ς (.f r.d)]).bind _)=_;rw[q];exact e
def Ee {b:Dt} {ks:η (Nat×η Str)} (O:J0.length<=500) (q:ks.length<=1000) :
  z41 [pcD c s J0,kcD b ks]=ς (.f (match fE (ks.map (·.1)) 0 J0 with
   |some n=>.t [.str "end",dI n]
   |none=>.non)):=by
 unfold z41;walk_at "k";rw[show z14 [kcD b ks]=_ from jk b ks q];walk_at "k";unfold iw dR;walk_at "k";obtain⟨U,L,e⟩:=qd (ς (.f (pcD c s J0))) (ς (.f (kcD b ks))) (ks.map (·.1)) J0 0 ψ ψ;rw[e];cases fE (ks.map (·.1)) 0 J0<;>rfl
def yu{l:η Str}{x:Str}:bJ neg (.str x) (.t (l.map .str))=ς (.f (.bl (if neg then !decide (x∈l)else decide (x∈l)))):=by rw[Bs (by rw[eU];rfl),tG]
theorem tZ(U O q L x4 x6:ζ T)(bs:η Str):∀(l:η Str)(W:ζ T),(∀b∈l,b∈bs)->∃y,cA (am 7) q59 (l.map .str) [U,O,q,L,x4,ς (.f (.t (bs.map .str))),x6,W]=ς (.nx [U,O,q,L,x4,ς (.f (.t (bs.map .str))),x6,y])
 |[],W,_=>⟨W,rfl⟩
 |b::l,W,h=>by
  obtain⟨y,e⟩:=tZ U O q L x4 x6 bs l (ς (.f (.str b))) (fun c Y=>h c (.tail _ Y));refine⟨y,?_⟩;rw[qa6,aS (δ1:=[U,O,q,L,x4,ς (.f (.t (bs.map .str))),x6,ς (.f (.str b))]) (δ2:=[U,O,q,L,x4,ς (.f (.t (bs.map .str))),x6,ς (.f (.str b))]) rfl ?_]
  .exact e
  .unfold q59;walk_at "k";rw[yu];walk_at "k";rw[fC (by simp[h b (.head _)])];rfl
noncomputable def plD(p:Nat×η Str×Bool):Dt:=.t [dI p.1,.t (p.2.1.map .str),.bl p.2.2]
theorem qe(W L U:ζ T){B:η Str}(F:Fnd J0 B J3):∀(ps:η (Nat×η Str×Bool))(x4 Y x6 O:ζ T),(∀p∈ps,p.1<J0.length/\∀l,J3[p.1]?=ς l->∀b∈l,b∈p.2.1)->∃y4 y5 y6 Z,cA (eG 3 (aW (am 4) (aW (am 5) (aW (am 6) eF)))) y58 (ps.map plD) [W,L,ς (.f (dF J3)),U,x4,Y,x6,O]=ς (.nx [W,L,ς (.f (dF J3)),U,y4,y5,y6,Z])
 |[],x4,Y,x6,O,_=>⟨x4,Y,x6,O,rfl⟩
 |p::ps,x4,Y,x6,O,h=>by
  obtain⟨hp,hB⟩:=h p (.head _);obtain⟨l,hl⟩:∃l,J3[p.1]?=ς l:=⟨J3[p.1]'(by rw[F.len];exact hp),Ξ⟩;obtain⟨y,e1⟩:=tZ W L (ς (.f (dF J3))) U (ς (.f (dI p.1))) (ς (.f (.bl p.2.2))) p.2.1 l O (hB l hl);obtain⟨y4,y5,y6,Z,e⟩:=qe W L U F ps (ς (.f (dI p.1))) (ς (.f (.t (p.2.1.map .str)))) (ς (.f (.bl p.2.2))) y (fun q hq=>h q (.tail _ hq));refine⟨y4,y5,y6,Z,?_⟩;rw[qa6,aS (δ1:=[W,L,ς (.f (dF J3)),U,ς (.f (dI p.1)),ς (.f (.t (p.2.1.map .str))),ς (.f (.bl p.2.2)),O]) rfl (δ2:=[W,L,ς (.f (dF J3)),U,ς (.f (dI p.1)),ς (.f (.t (p.2.1.map .str))),ς (.f (.bl p.2.2)),y]) ?_]
  .exact e
  .unfold y58
   have e2:ah (dF J3) (dI p.1)=ς (.f (dS l)):=by unfold dF dI;rw[eJ,be,qb1,hl];rfl
   walk_at "k";rw[e2];walk_at "k";exact e1
variable{bg:η Str}
theorem AW {B:η Str} {ks:η (Nat×η Str)} (hB:∀ (i:Nat) (r:Rw) (b:Str),J0[i]?=ς r->b∈r.reads->b∈B) (hO:∀ (i:Nat) (r:Rw) (j:Nat),J0[i]?=ς r->j∈r.outs i->j<J0.length) (Y:B.length<=12) (Z:J0.length<=500) (hp:0<J0.length) (e:z18 [pcD c s J0]=ς (.e (J3.map dS))) (F:Fnd J0 B J3) (L:∀ l,J3[0]?=ς l->∀ b∈l,b∈bg) (hk:∀ k∈ks,k.1<J0.length/\∀ l,J3[k.1]?=ς l->∀ b∈l,b∈k.2) (U:ks.length<=900) :
  q35 [pcD c s J0,kcD (.t (bg.map .str)) ks]=ς (.f .non):=by
 unfold q35;walk_at "k";rw[show z18 [pcD c s J0]=_ from e];walk_at "k";rw[bw (h:=fun k:Nat×η Str=>plD (k.1,k.2,ξ)) fun k _=>⟨_,rfl,rfl,by unfold y75 kpD;walk_at "k";rfl⟩];walk_at "k";rw[cC (by rw[qa1];lia)];walk_at "k"
 have ps:=qe (ς (.f (pcD c s J0))) (ς (.f (kcD (.t (bg.map .str)) ks))) (ς (.f (.e (((0,bg,θ)::ks.map fun k=>(k.1,k.2,ξ)).map plD)))) F ((0,bg,θ)::ks.map fun k=>(k.1,k.2,ξ)) ψ ψ ψ ψ (fun p q=>by
  rcases qa8.mp q with rfl|q
  .exact⟨hp,L⟩
  .obtain⟨k,O,rfl⟩:=qb8.mp q;exact hk k O)
 obtain⟨y4,y5,y6,W,ps⟩:=ps;unfold dF at ps;rw[jj (by simp;lia)];walk_at "k";rw[show Dt.t [Dt.int 0,Dt.t (zj9 Dt.str bg),Dt.bl θ]=plD (0,bg,θ)from rfl,show zj9 (fun k:Nat×η Str=>plD (k.1,k.2,ξ)) ks=(ks.map fun k=>(k.1,k.2,ξ)).map plD by rw[qc6];rfl,<- qa6,ps];rfl
abbrev yv(kept:η Nat)(t:Nat×Mrk):Prop:=t.2=.fresh∨t.2=.seen/\t.1∉kept
def yw{kept:η Nat}{nm:Str}(hp:∀(i:Nat)(r:Rw),J0[i]?=ς r->r.puts nm=θ->i∈kept){t:Nat×Mrk}(q:yv kept t):hW J0 nm t=ξ:=by
 unfold hW;split
 .rfl
 .rename_i r e;refine decide_eq_false fun z=>?_
  rcases u9 z with z|⟨z,L⟩
  .rcases q with h|⟨h,_⟩<;>rw[h]at z<;>cases z
  .rcases q with h|⟨_,h⟩
   .rw[h]at z;cases z
   .exact h (hp _ r e L)
def yx{kept:η Nat}{nm:Str}(hp:∀(i:Nat)(r:Rw),J0[i]?=ς r->r.puts nm=θ->i∈kept){t u:Nat×Mrk}(U:yv kept t)(O:u∈ir J0 kept nm t):yv kept u:=by
 obtain⟨r,e,g1,_,L,W⟩:=lP O;have:=yw hp U;unfold hW at this;rw[e]at this;unfold yv;rw[W];cases q:mb t.2 r nm with
 |fresh=>exact .inl rfl
 |seen=>exact .inr ⟨rfl,L⟩
 |safe=>exact absurd q g1
 |spoilt=>exact absurd q (of_decide_eq_false this)
def yy{α:Type}{beh:α->η α}{fit:α->Bool}{J4:η α}{t:α}{ws:η α}(h:Wy beh fit J4 t ws):(∃s∈J4,ws.reverse[0]?=ς s)/\(∃n,ws.length=n+1/\ws.reverse[n]?=ς t)/\∀(k:Nat)(a b:α),ws.reverse[k]?=ς a->ws.reverse[k+1]?=ς b->b∈beh a:=by
 induction h with
 |@one t h=>exact⟨⟨t,h,rfl⟩,⟨0,rfl,rfl⟩,fun k a b h1 h2=>by simp at h2⟩
 |@more t p r h Z w W=>
  obtain⟨⟨s,O,e0⟩,⟨n,q,U⟩,L⟩:=W;rw[qo0];refine⟨⟨s,O,by rw[qb4 (by rw[qr6];lia)];exact e0⟩,⟨n+1,by simp[q],?_⟩,fun k a b h1 h2=>?_⟩
  .rw[qc9 (by simp[q])];simp[q]
  .by_cases z:k+1<r.reverse.length
   .rw[qb4 Θ]at h1;rw[qb4 z]at h2;exact L k a b h1 h2
   .have Y:=(gX h2).1;simp at Y z;obtain rfl:k=n:=by lia
    rw[qb4 (by simp;lia),U]at h1;rw[qc9 (by simp;lia)]at h2;cases h1;rw[qr6,q,qu7]at h2;cases h2;exact h
def Ef{α:Type}{beh:α->η α}{fit:α->Bool}{J4:η α}{t:α}{ws:η α}{P:α->Prop}(h:Wy beh fit J4 t ws)(q:∀s∈J4,P s)(L:∀a,P a->∀b∈beh a,P b):P t:=by
 induction h with
 |one h=>exact q _ h
 |more h _ _ O=>exact L _ O _ h
structure Inp(cs ss:List Hd)(J0:List Rw)(B:List Str)(J3:List (List Str))(ks:List (Nat×List Str)):Prop where
 hB:∀(i:Nat)(r:Rw)(b:Str),J0[i]?=ς r->b∈r.reads->b∈B
 hO:∀(i:Nat)(r:Rw)(j:Nat),J0[i]?=ς r->j∈r.outs i->j<J0.length
 l0:0<J0.length
 l1:J0.length<=60
 hb:B.length<=12
 hh:cs.length+ss.length<=100
 F:Fnd J0 B J3
 en:z18 [pgD cs ss J0]=ς (.e (J3.map dS))
 hk:∀k∈ks,k.1<J0.length/\k.2=J3.getD k.1 []
 hkl:ks.length<=60
variable{K R:η Nat}{ws:η (Nat×Mrk)}
section
variable{cs ss:η Hd}{J0:η Rw}{B:η Str}{J3:η (η Str)}{ks:η (Nat×η Str)}
abbrev lY(nm:Str)(ws:η (Nat×Mrk)):Dt:=.t [.str "spoil",.str nm,.e ((ws.reverse.map (·.1)).map dI)]
structure Spl(cs ss:List Hd)(J0:List Rw)(K:List Nat)(nm:Str)(ws:List (Nat×Mrk)):Prop where
 pl:nm∈plain cs ss
 l:ws.length<=10000
 w:∃t,Wy (ir J0 K nm) (hW J0 nm) (cW K) t ws/\hW J0 nm t=θ
theorem lZ{R:Str->η (Nat×Mrk)->Prop}:∀(l:η Str)(L q:ζ T),(∀nm∈l,∃r,q56 [P,C,.str nm]=ς (endS r)/\∀ws,r=ς ws->R nm ws)->(∃U Z,cA (am 2) z16 (l.map .str) [ς (.f P),ς (.f C),L,q]=ς (.nx [ς (.f P),ς (.f C),U,Z]))∨∃nm ws,R nm ws/\cA (am 2) z16 (l.map .str) [ς (.f P),ς (.f C),L,q]=ς (.rt (.f (lY nm ws)))
 |[],L,q,_=>.inl ⟨L,q,rfl⟩
 |nm::l,L,q,h=>by
  obtain⟨r,O,Y⟩:=h nm (.head _);cases r with
  |none=>
   have b:z16 [ς (.f P),ς (.f C),ς (.f (.str nm)),q]=ς (.nx [ς (.f P),ς (.f C),ς (.f (.str nm)),ς (.f .non)]):=by unfold z16;rw[ax ((aP (t:=.f .non) (b7 (aj (t:=.f .non) ((ej (x:=P) (y:=C) (z:=.str nm) rfl rfl rfl).trans O)))).trans rfl)];rfl
   have st:cA (am 2) z16 ((nm::l).map .str) [ς (.f P),ς (.f C),L,q]=_:=aS (δ1:=[ς (.f P),ς (.f C),ς (.f (.str nm)),q]) rfl b;rw[st];exact lZ l _ _ fun n W=>h n (.tail _ W)
  |some ws=>
   refine .inr ⟨nm,ws,Y ws rfl,?_⟩
   have b:z16 [ς (.f P),ς (.f C),ς (.f (.str nm)),q]=ς (.rt (.f (lY nm ws))):=by unfold z16;rw[ax ((aP (t:=.f (.e ((ws.reverse.map (·.1)).map dI))) (b7 (aj (t:=.e ((ws.reverse.map (·.1)).map dI)) ((ej (x:=P) (y:=C) (z:=.str nm) rfl rfl rfl).trans O)))).trans rfl),jO rfl];exact dj (jn (ab rfl (ab rfl (ab rfl rfl))) Ξ)
   show((z16 [ς (.f P),ς (.f C),ς (.f (.str nm)),q]).bind _)=_;rw[b];rfl
def yz(I:Inp cs ss J0 B J3 ks)(b:Dt):z20 [pgD cs ss J0,kcD b ks]=ς (.f .non)∨∃nm ws,Spl cs ss J0 (ks.map (·.1)) nm ws/\z20 [pgD cs ss J0,kcD b ks]=ς (.f (lY nm ws)):=by
 have h1:=I.l1;have h2:=I.hh;have h3:=I.hkl
 have e0:fIt (toD (ag q15 (aa (vL 0) af))) [ς (.f (pgD cs ss J0)),ς (.f (kcD b ks)),ψ,ψ]=ς ((plain cs ss).map .str):=by unfold fIt;rw[aj ((bq (x:=pgD cs ss J0) rfl).trans (lV cs ss _ Θ))];rfl
 rcases lZ (P:=pgD cs ss J0) (C:=kcD b ks) (R:=Spl cs ss J0 (ks.map (·.1))) (plain cs ss) ψ ψ (fun nm L=>by
  obtain⟨r,e,_,q⟩:=rR (b:=b) (kp:=ks) Θ L Θ I.l0 Θ (fun k hk=>by obtain⟨p,hp,rfl⟩:=qb8.mp hk;exact(I.hk p hp).1) I.hO
  exact⟨r,e,fun ws z=>⟨L,(q ws z).1,(q ws z).2⟩⟩)with ⟨y2,y3,e⟩|⟨nm,ws,hS,e⟩
 .left;unfold z20;refine dRt ?_;show ai _ _ [ς (.f (pgD cs ss J0)),ς (.f (kcD b ks)),ψ,ψ]=_;rw[bL,g9,e0,qa3,e];rfl
 .refine .inr ⟨nm,ws,hS,?_⟩;unfold z20;refine dRt ?_;show ai _ _ [ς (.f (pgD cs ss J0)),ς (.f (kcD b ks)),ψ,ψ]=_;rw[bL,g9,e0,qa3,e];rfl
def yA(a b:Dt):Dt:=if gx a then b else a
def jt {a r l:Dt} (O:z41 [P,C]=ς (.f a)) (W:y23 [P,C]=ς (.f r)) (Y:z20 [P,C]=ς (.f s)) (U:q35 [P,C]=ς (.f l)) :
  z24 [P,C]=ς (.f (yA (yA (yA a r) s) l)):=by
 have st:∀(F:η Dt->ζ T)(d:Dt)(x:ζ T),F [P,C]=ς (.f d)->ap 2 (toT (toD (ag F (aa (vL 0) (aa (vL 1) af))))) [ς (.f P),ς (.f C),x]=ς (.nx [ς (.f P),ς (.f C),ς (.f d)]):=fun F d x h=>by refine(aP (t:=.f d) (b7 (aj (t:=.f d) ((br (x:=P) (y:=C) rfl rfl).trans h)))).trans rfl
 have q:∀(F:η Dt->ζ T)(a d:Dt),F [P,C]=ς (.f d)->sIf (tB2 (gIs ξ) (vB 2) (kD .non)) (ap 2 (toT (toD (ag F (aa (vL 0) (aa (vL 1) af)))))) bo [ς (.f P),ς (.f C),ς (.f a)]=ς (.nx [ς (.f P),ς (.f C),ς (.f (yA a d))]):=fun F a d h=>by
  have L:tB2 (gIs ξ) (vB 2) (kD .non) [ς (.f P),ς (.f C),ς (.f a)]=ς (gx a):=rfl;unfold yA;cases z:gx a with
  |true=>rw[jO (L.trans (by rw[z])),st F d _ h];rfl
  |false=>rw[mi (L.trans (by rw[z]))];rfl
 unfold z24;refine dRt ?_;show ai _ _ [ς (.f P),ς (.f C),ψ]=_;rw[ax (st _ _ _ O),ax (q _ _ _ W),ax (q _ _ _ Y),ax (q _ _ _ U)];rfl
inductive Flt(cs ss:List Hd)(J0:List Rw)(K:List Nat):Dt->Prop
 |fin (n:Nat) (h:fE K 0 J0=ς n):Flt cs ss J0 K (.t [.str "end",dI n])
 |ring (R:List Nat) (h:fE K 0 J0=ψ) (r:Ring J0 (fun i=>i<J0.length/\i∉K) R) (l:R.length<=J0.length):Flt cs ss J0 K (.t [.str "ring",.e (R.map dI)])
 |spoil (nm:Str) (ws:List (Nat×Mrk)) (h:fE K 0 J0=ψ) (s:Spl cs ss J0 K nm ws):Flt cs ss J0 K (lY nm ws)
 |non (h:fE K 0 J0=ψ):Flt cs ss J0 K .non
def qf(I:Inp cs ss J0 B J3 ks):∃d,z24 [pgD cs ss J0,cdD (J3.getD 0 []) ks]=ς (.f d)/\Flt cs ss J0 (ks.map (·.1)) d:=by
 have h1:=I.l1;have h3:=I.hkl;have L:=Ee (c:=.t (cs.map hdD)) (s:=.t (ss.map hdD)) (b:=.t ((J3.getD 0 []).map .str)) (J0:=J0) (ks:=ks) Θ Θ;have q:=AT (c:=.t (cs.map hdD)) (s:=.t (ss.map hdD)) (b:=.t ((J3.getD 0 []).map .str)) (J0:=J0) (ks:=ks) Θ Θ;have es:=yz I (.t ((J3.getD 0 []).map .str));have U:∀j l,J3[j]?=ς l->l=J3.getD j []:=fun j l h=>by rw[qb5,h];rfl
 have W:=AW (c:=.t (cs.map hdD)) (s:=.t (ss.map hdD)) (bg:=J3.getD 0 []) (ks:=ks) I.hB I.hO I.hb Θ I.l0 I.en I.F (fun l O b Y=>by rw[<- U 0 l O];exact Y) (fun k hk=>⟨(I.hk k hk).1,fun l O b Y=>by rw[(I.hk k hk).2,<- U _ l O];exact Y⟩) Θ;cases z:fE (ks.map (·.1)) 0 J0 with
 |some n=>rw[z]at L;rcases q with ⟨q,_⟩|⟨R,_,_,q⟩<;>rcases es with es|⟨nm,ws,_,es⟩<;>exact⟨_,jt L q es W,.fin n z⟩
 |none=>
  rw[z]at L;rcases q with ⟨q,_⟩|⟨R,hR,O,q⟩
  .rcases es with es|⟨nm,ws,Z,es⟩
   .exact⟨_,jt L q es W,.non z⟩
   .exact⟨_,jt L q es W,.spoil nm ws z Z⟩
  .rcases es with es|⟨nm,ws,Z,es⟩<;>exact⟨_,jt L q es W,.ring R z hR O⟩
def yB{d:Dt}(h:z24 [P,C]=ς (.f d)):q25 [P,C]=ς (.f (.bl (gx d))):=by unfold q25;exact dRt (dj ((aA (aj ((br (x:=P) (y:=C) rfl rfl).trans h)) (y:=.non) rfl).trans rfl))
def AX(r:Ring J0 (fun i=>i<J0.length/\i∉K) R)(U:∀(i j:Nat),j∈gm J0 i->j<=i->j∈K):False:=by
 have up:∀(k a:Nat),R[k]?=ς a->∀L,R[0]?=ς L->L<=a:=fun k=>by
  induction k with
  |zero=>intro a h L O;rw[O]at h;cases h;exact nL _
  |succ k Y=>
   intro a h L O;have Z:=(gX h).1;obtain⟨p,hp⟩:∃p,R[k]?=ς p:=⟨R[k]'Θ,Ξ⟩;have h2:=Y p hp L O;by_cases q:a<=p
   .exact absurd (U p a (r.ed k p a hp h) q) (r.all a (qc8 h)).2
   .lia
 have hp:=qo4.mpr r.ne;have e0:R[0]?=ς R[0]:=gQ hp;have W:R[R.length-1]?=ς (R[R.length-1]'Θ):=gQ Θ;exact(r.all _ (qc8 e0)).2 (U _ _ (r.turn _ _ W e0) (up _ _ W _ e0))
def yC{nm:Str}(s:Spl cs ss J0 K nm ws)(hp:∀nm∈plain cs ss,∀(i:Nat)(r:Rw),J0[i]?=ς r->r.puts nm=θ->i∈K):False:=by
 obtain⟨t,w,q⟩:=s.w
 have:=Ef (P:=yv K) w (fun t U=>by obtain⟨k,_,rfl⟩:=qb8.mp U;exact .inl rfl) fun a L b O=>yx (hp nm s.pl) L O
 rw[yw (hp nm s.pl) this]at q;cases q
end
def yD(n:Nat)(r:Rw):q30 [r.d,.int n]=ς (.f (.t ((r.outs n).map dI))):=by cases r<;>kernel_rfl
def gIn_intT{x:Nat}:bJ neg (dI x) (.t (l.map dI))=ς (.f (.bl (if neg then !decide (x∈l)else decide (x∈l)))):=by rw[Bs (by rw[p8];rfl),tJ]
def eI{k:Nat}(h:k<l.length):ah (.e (l.map dI)) (.int k)=ς (.f (dI (l.getD k 0))):=by rw[eJ,cS dI l k h 0];rfl
theorem t4(h:l.length=n+1):ah (.e (l.map dI)) (.int (-1))=ς (.f (dI (l.getD n 0))):=by rw[eJ];unfold atI ixN;rw[qa1,h,if_neg Θ,if_pos Θ];show(((l.map dI)[(-1+((n+1:Nat):Int)).toNat]?)).map T.f=_;rw[show(-1+((n+1:Nat):Int)).toNat=n by lia,qb1,gQ Θ,qb5,gQ Θ];rfl
def yE{α:Type}(l:η α):qI (fun bs=>bs.all id) [.e (l.map fun _=>Dt.bl θ)]=ς (.f (.bl θ)):=by
 have e:∀l:η α,jY (l.map fun _=>Dt.bl θ)=ς (l.map fun _=>θ):=fun l=>by
  induction l with
  |nil=>rfl
  |cons a l q=>rw[qa6,jY,q];rfl
 unfold qI;dsimp only;rw[e];simp
def AY(a n:Nat)(h:a<=n)(q:n<=1000000):qF [dI a,.int n]=ς (((qd0 (n-a)).map fun k=>a+k).map dI):=by
 show qF [.int a,.int n]=_;unfold qF;have h1:gv (a:Int)=θ:=by unfold gv;simp;lia
 have h2:gv (n:Int)=θ:=by unfold gv;simp;lia
 dsimp only;rw[h1,h2,qv7,if_pos rfl];unfold iE dI;rw[show((n:Int)-a).toNat=n-a by lia,qc6];rfl
def ml{f g:De->ζ Bool}{a:Bool}(h1:f δ=ς a)(h2:g δ=ς b):fOr f g δ=ς (a||b):=orE h1 fun _=>h2
section
variable{cs ss:η Hd}{J0:η Rw}
structure Way(J0:List Rw)(S W:List Nat):Prop where
 ne:0<W.length
 l:W.length<=10000
 lt:∀i∈W,i<J0.length
 nx:∀k,k+1<W.length->W.getD (k+1) 0∉S/\W.getD (k+1) 0∈gm J0 (W.getD k 0)
def wyS(q:ζ T)(W S:η Nat)(J0:η Rw)(x4:ζ T):De:=[q,ς (.f (.e (W.map dI))),ς (.f (.e (S.map dI))),ς (.f (dR J0)),x4]
def gdm{α:Type}{l:η α}{k:Nat}{d:α}(h:k<l.length):l.getD k d∈l:=by rw[qb5,gQ h];exact qr4 _
theorem qg(hi:i<J0.length)(L:f δ=ς (dR J0))(q:g δ=ς (dI i)){S:η Nat}:toD (ag q30 (aa (toD (d2 ah f g)) (aa g af))) δ=ς (.t ((gm J0 i).map dI)):=by have e:J0[i]?=ς J0[i]:=gQ hi;rw[jm e];exact aj (t:=.f (.t ((J0[i].outs i).map dI))) ((br (x:=J0[i].d) (y:=dI i) (aj (t:=.f J0[i].d) ((aA L q).trans (im e))) q).trans (yD i J0[i]))
def yF(q:ζ T){W S:η Nat}(w:Way J0 S W){k:Nat}(hk:k+1<W.length):y41 (wyS q W S J0 (ς (.f (dI (k+1)))))=ς (.nx (wyS q W S J0 (ς (.f (dI (k+1)))))):=by
 obtain⟨h1,h2⟩:=w.nx k hk;have L:toD (d2 ah (vB 1) (vB 4)) (wyS q W S J0 (ς (.f (dI (k+1)))))=ς (dI (W.getD (k+1) 0)):=aj (t:=.f _) ((aA (x:=.e (W.map dI)) (y:=dI (k+1)) rfl rfl).trans (eI hk))
 have O:toD (d2 ah (vB 1) (toD (d2 fj (vB 4) (kD (.int 1))))) (wyS q W S J0 (ς (.f (dI (k+1)))))=ς (dI (W.getD k 0)):=aj (t:=.f _) ((aA (x:=.e (W.map dI)) (y:=dI k) rfl (aj (t:=.f (dI k)) ((aA (x:=dI (k+1)) (y:=.int 1) rfl rfl).trans (by show ς (T.f (.int (((k+1:Nat):Int)-1)))=_;unfold dI;rw[show((k+1:Nat):Int)-1=(k:Int)by lia])))).trans (eI Θ))
 unfold y41;rw[mi (ml (a:=false) (b:=false) (cM L (y:=.e (S.map dI)) rfl (gIn_ints.trans (by rw[decide_eq_false h1];rfl))) (cM L (qg (J0:=J0) (S:=S) (w.lt _ (gdm Θ)) rfl O) (gIn_intT.trans (by rw[decide_eq_true h2];rfl))))];rfl
theorem yG(q:ζ T){W S:η Nat}(w:Way J0 S W):∀(js:η Nat)(x4:ζ T),(∀j∈js,0<j/\j<W.length)->∃L,cA (am 4) y41 (js.map dI) (wyS q W S J0 x4)=ς (.nx (wyS q W S J0 L))
 |[],x4,_=>⟨x4,rfl⟩
 |j::js,x4,h=>by
  obtain⟨L,e⟩:=yG q w js (ς (.f (dI j))) fun i hi=>h i (.tail _ hi)
  obtain⟨h1,h2⟩:=h j (.head _);obtain⟨k,rfl⟩:∃k,j=k+1:=⟨j-1,Θ⟩;refine⟨L,?_⟩;rw[qa6,aS (δ1:=wyS q W S J0 (ς (.f (dI (k+1))))) rfl (yF q w h2)];exact e
def nv{W S:η Nat}(Z:J0.length<=1000)(w:Way J0 S W):y31 [pgD cs ss J0,.e (W.map dI),.e (S.map dI)]=ς (.f (.bl θ)):=by
 have U:=w.ne;have Y:=w.l;unfold y31;refine dRt ?_;show ai _ _ [ς (.f (pgD cs ss J0)),ς (.f (.e (W.map dI))),ς (.f (.e (S.map dI))),ψ,ψ]=_;rw[ax (δ':=wyS (ς (.f (pgD cs ss J0))) W S J0 ψ) ((aP (t:=.f (dR J0)) (b7 (aj (t:=.f (dR J0)) ((aA (x:=pgD cs ss J0) (y:=.int 2) rfl rfl).trans rfl)))).trans rfl)]
 rw[eM (ml (a:=false) (b:=false) rfl (cM (x:=dI W.length) (y:=.int 0) (aj (t:=.f (dI W.length)) ((bq (x:=.e (W.map dI)) rfl).trans (by
  show ς (T.f (.int ((W.map dI).length:Nat)))=_;rw[qa1];rfl))) rfl (by
  show ς (T.f (.bl (decide ((W.length:Int)=0))))=_;rw[decide_eq_false Θ])))]
 have L:bE (am 0) bh y54 [ψ,ς (.f (dR J0))] (W.map dI)=ς (W.map fun _=>.bl θ):=bw fun i hi=>⟨[ς (.f (dI i)),ς (.f (dR J0))],rfl,rfl,by have q:=w.lt i hi;unfold y54 dI dR;walk_at "k";rw[if_pos (decide_eq_true Θ),qa1,decide_eq_true Θ];rfl⟩
 rw[eM (by unfold dH cF;rw[aj (t:=.f (.bl θ)) ((bq (x:=.e (W.map fun _=>.bl θ)) (aj (cI (src:=[ψ,ς 3]) (ds:=W.map dI) (gp (f:=vB 1) (x:=.e (W.map dI)) rfl rfl) L (by simp;lia)))).trans (yE W))];rfl)]
 obtain⟨y4,e⟩:=yG (ς (.f (pgD cs ss J0))) w ((qd0 (W.length-1)).map fun k=>1+k) ψ fun j O=>by obtain⟨k,hk,rfl⟩:=qb8.mp O;have:=qe9.mp hk;lia
 rw[bL,g9,show da qF (aa (kD (.int 1)) (aa (toD (ag bz (aa (vB 1) af))) af)) (wyS (ς (.f (pgD cs ss J0))) W S J0 ψ)=ς (((qd0 (W.length-1)).map fun k=>1+k).map dI)by
  unfold da
  rw[ab (d:=dI 1) rfl (ab (d:=.int (W.length:Nat)) (aj (t:=.f (.int (W.length:Nat))) ((bq (x:=.e (W.map dI)) rfl).trans (by show ς (T.f (.int ((W.map dI).length:Nat)))=_;rw[qa1]))) (show af _=ς []from rfl)),qa3]
  exact AY 1 W.length Θ Θ,qa3,e,bF]
 rfl
end
def FM(ns:η Int):∃ls:η Int,gSl (.e (ns.map .int)) (ς 4) (ς (4+16))=ς (.e (ls.map .int))/\ls.length<=16:=by
 refine⟨(ns.drop (HT.sIx (ns.map Dt.int).length 0 (ς 4))).take (HT.sIx (ns.map Dt.int).length (ns.map Dt.int).length (ς 20)-HT.sIx (ns.map Dt.int).length 0 (ς 4)),?_,?_⟩
 .show ς (T.e (i0 (ns.map Dt.int) (ς 4) (ς 20)))=_;unfold i0;rw[zi7,zc3]
 .have q:=HT.FP (ns.map Dt.int).length 0 4;have L:=HT.FP (ns.map Dt.int).length (ns.map Dt.int).length 20;rw[show(ς (4:Int))=ς (((4:Nat):Int))from rfl,show(ς (20:Int))=ς (((20:Nat):Int))from rfl,q,L];simp;lia
def qh{F:η Dt->ζ T}{fs:De->ζ (η Dt)}(h:fs δ=ς ds):ag F fs δ=F ds:=by unfold ag;rw[h];rfl
def dpS(ns:η Int)(D:η Nat)(N B:η Str)(St:η Nat)(cs ss:η Hd)(ls:η Int)(J5:η Rw)(q L O:ζ T):De:=[ς (.f (.e (ns.map .int))),ς (.f (.int 16)),ς (.f (.e (D.map dI))),ς (.f (.e (N.map .str))),ς (.f (.e (B.map .str))),ς (.f (.e (St.map dI))),ς (.f (.t (cs.map hdD))),ς (.f (.t (ss.map hdD))),ς (.f (.e (ls.map .int))),ς (.e (J5.map Rw.d)),q,L,O]
section
variable{ns:η Int}{D:η Nat}{N B:η Str}{St:η Nat}{cs ss:η Hd}{ls:η Int}
def AZ (hB:0<B.length) (W:B.length<=100) (Z:0<cs.length) (U:cs.length<=100) (Y:ss.length<=100) (hl:ls.length<=100) (J5:η Rw) (ha:J5.length<=1000) (c:Int) (L q:ζ T) :
  ∃(r:Rw)(O:ζ T),y22 (dpS ns D N B St cs ss ls J5 (ς (.f (.int c))) L q)=ς (.nx (dpS ns D N B St cs ss ls (J5++[r]) (ς (.f (.int c))) O q))/\Gd B (ls.length+1) r:=by
 obtain⟨r,er,hr⟩:=oG c (ls.length+1) (cs.map (·.x)) (ss.map (·.x)) B Θ Θ (by simpa using Z) (by simpa using U) (by simpa using Y) hB W;refine⟨r,ς (.f (.e [.e ((cs.map (·.x)).map .str),.e ((ss.map (·.x)).map .str)])),?_,hr⟩;unfold y22
 have s1:ap 11 (toT (toD (aR (aa (toD (aQ [ψ] (fIt (vB 6)) (am 0) bh y46)) (aa (toD (aQ [ψ] (fIt (vB 7)) (am 0) bh z46)) af))))) (dpS ns D N B St cs ss ls J5 (ς (.f (.int c))) L q)=ς (.nx (dpS ns D N B St cs ss ls J5 (ς (.f (.int c))) (ς (.f (.e [.e ((cs.map (·.x)).map .str),.e ((ss.map (·.x)).map .str)]))) q)):=(aP (t:=.f (.e [.e ((cs.map (·.x)).map .str),.e ((ss.map (·.x)).map .str)])) (b7 (b9 (ab (aj (cI (src:=[ψ]) (ds:=cs.map hdD) (gp (x:=.t (cs.map hdD)) rfl rfl) (kI _ rfl cs) (by simp;lia))) (ab (aj (cI (src:=[ψ]) (ds:=ss.map hdD) (gp (x:=.t (ss.map hdD)) rfl rfl) (kI _ rfl ss) (by simp;lia))) rfl)) Ξ))).trans rfl
 rw[ax s1]
 refine(lN (l:=J5.map Rw.d) (d:=r.d) rfl (aj (t:=.f r.d) ?_) (by rw[qa1];lia)).trans (by unfold dpS;rw[qf5];rfl)
 exact(qh (ab (d:=.int c) rfl (ab (d:=dI (ls.length+1)) (ca (a:=ls.length) (b:=1) (hX (l:=ls.map .int) rfl Ξ) rfl rfl) (ab (d:=.e ((cs.map (·.x)).map .str)) rfl (ab (d:=.e ((ss.map (·.x)).map .str)) rfl (ab (d:=.e (B.map .str)) rfl (show af _=ς []from rfl))))))).trans er
theorem BY (hB:0<B.length) (Z:B.length<=100) (hc:0<cs.length) (Y:cs.length<=100) (hs:ss.length<=100) (hl:ls.length<=100) (O:ζ T):∀ (js:η Int) (J5:η Rw) (U L:ζ T),J5.length+js.length<=1000->(∀ r∈J5,Gd B (ls.length+1) r)→
  ∃(rs:η Rw)(y10 W:ζ T),cA (am 10) y22 (js.map .int) (dpS ns D N B St cs ss ls J5 U L O)=ς (.nx (dpS ns D N B St cs ss ls rs y10 W O))/\rs.length=J5.length+js.length/\∀r∈rs,Gd B (ls.length+1) r
 |[],J5,U,L,_,h=>⟨J5,U,L,rfl,rfl,h⟩
 |j::js,J5,U,L,hj,h=>by
  rw[qd2]at hj;obtain⟨r,W,e1,hr⟩:=AZ (ns:=ns) (D:=D) (N:=N) (St:=St) hB Z hc Y hs hl J5 Θ j L O
  obtain⟨rs,z10,z11,e2,l2,h2⟩:=BY hB Z hc Y hs hl O js (J5++[r]) (ς (.f (.int j))) W (by simp;lia) fun q hq=>by
   rcases qe1.mp hq with hq|hq
   .exact h q hq
   .rw[qa4.mp hq];exact hr
  refine⟨rs,z10,z11,?_,by simp at l2 ⊢;lia,h2⟩;rw[qa6,aS (δ1:=dpS ns D N B St cs ss ls J5 (ς (.f (.int j))) L O) rfl e1];exact e2
end
def jQ(ns:η Int):∃(cs ss:η Hd)(J0:η Rw)(B:η Str),z15 [.e (ns.map .int),.int 16]=ς (.f (pgD cs ss J0))/\0<cs.length/\cs.length<=8/\ss.length<=4/\Prg B J0:=by
 have cell:∀k:Nat,∃n,∀ δ,vL 0 δ=ς (.e (ns.map .int))->toD (ag y1 (aa (vL 0) (aa (kD (.int k)) af))) δ=ς (.int n):=fun k=>⟨_,fun δ h0=>aj (t:=.f (.int _)) ((br h0 (y:=.int k) rfl).trans (eV ns k))⟩
 obtain⟨n0,c0⟩:=cell 0;obtain⟨n1,c1⟩:=cell 1;obtain⟨n2,c2⟩:=cell 2;obtain⟨n3,c3⟩:=cell 3;obtain⟨D,eD,hD,hd⟩:=dO (n0/2) [8,5,12,2,2,2,2,2,2,2,2,2,2,2,2,8,8,8,8] (by intro z hz;simp at hz;lia) Ω;have hD:D.length=19:=hD;have gt:∀j z:Nat,j<19->([8,5,12,2,2,2,2,2,2,2,2,2,2,2,2,8,8,8,8]:η Nat)[j]?=ς z->D.getD j 0<z:=fun j z hj hz=>hd j _ z (by simp[hD,hj]) hz
 have g0:=gt 0 8 Ω rfl;have g1:=gt 1 5 Ω rfl;have g2:=gt 2 12 Ω rfl;obtain⟨N,hN,eN⟩:=fU n1 13 Ω;obtain⟨B,hB,eB⟩:=fU n2 (1+D.getD 2 0) Θ;obtain⟨St,eS,hS,hs⟩:=dO n3 [1099511627776,1099511627776,1099511627776,1099511627776,1099511627776,1099511627776,1099511627776,1099511627776,1099511627776,2,60,B.length+1] (by intro z hz;simp at hz;lia) Ξ;have hS:St.length=12:=hS;have g11:St.getD 11 0<B.length+1:=hs 11 _ _ (by simp[hS]) rfl;obtain⟨ls,els,hls⟩:=FM ns;obtain⟨at',hat,eat⟩:=rQ (B:=B) (v:=St.getD 8 0) (j:=St.getD 11 0) g11;obtain⟨cs,hcs⟩:∃cs:η Hd,cs=(qd0 (1+D.getD 0 0)).map fun k=>⟨N.getD k "",(St.getD k 0:Nat),decide (((D.getD (3+k) 0:Nat):Int)=1)⟩:=⟨_,rfl⟩
 obtain⟨ss,hss⟩:∃ss:η Hd,ss=(qd0 (D.getD 1 0)).map fun k=>⟨N.getD (8+k) "",((1+D.getD (15+k) 0:Nat):Int),decide (((D.getD (11+k) 0:Nat):Int)=1)⟩:=⟨_,rfl⟩
 have lc:cs.length=1+D.getD 0 0:=by rw[hcs];simp
 have lss:ss.length=D.getD 1 0:=by rw[hss];simp
 obtain⟨rs,y10,y11,er,lr,hr⟩:=BY (ns:=ns) (D:=D) (N:=N) (B:=B) (St:=St) (cs:=cs) (ss:=ss) (ls:=ls) Θ Θ Θ Θ Θ Θ ψ ls [] ψ ψ (by simp;lia) fun r hr=>by cases hr
 have lr:rs.length=ls.length:=by simpa using lr
 rw[<- lr]at hr
 have ec:bE (am 0) bh y34 [ψ,ς (.f (.e (D.map dI))),ς (.f (.e (N.map .str))),ς (.f (.e (St.map dI)))] ((qd0 (1+D.getD 0 0)).map dI)=ς (cs.map hdD):=by
  rw[hcs,qc6]
  exact bw fun k hk=>⟨[ς (.f (dI k)),ς (.f (.e (D.map dI))),ς (.f (.e (N.map .str))),ς (.f (.e (St.map dI)))],rfl,rfl,by have hk:=qe9.mp hk;unfold y34;exact aZ (ab (aj (t:=.f _) ((aA (x:=.e (N.map .str)) (y:=dI k) rfl rfl).trans (hZ Θ))) (ab (aj (t:=.f _) ((aA (x:=.e (St.map dI)) (y:=dI k) rfl rfl).trans (eI Θ))) (ab (aj (t:=.f (.bl (decide (((D.getD (3+k) 0:Nat):Int)=1)))) ((aA (x:=dI (D.getD (3+k) 0)) (y:=.int 1) (aj (t:=.f _) ((aA (x:=.e (D.map dI)) (y:=dI (3+k)) rfl (ca (a:=3) (b:=k) rfl rfl rfl)).trans (eI Θ))) rfl).trans rfl)) rfl))) Ξ⟩
 have es:bE (am 0) bh z34 [ψ,ς (.f (.e (D.map dI))),ς (.f (.e (N.map .str)))] ((qd0 (D.getD 1 0)).map dI)=ς (ss.map hdD):=by
  rw[hss,qc6]
  exact bw fun k hk=>⟨[ς (.f (dI k)),ς (.f (.e (D.map dI))),ς (.f (.e (N.map .str)))],rfl,rfl,by have hk:=qe9.mp hk;unfold z34;exact aZ (ab (aj (t:=.f _) ((aA (x:=.e (N.map .str)) (y:=dI (8+k)) rfl (ca (a:=8) (b:=k) rfl rfl rfl)).trans (hZ Θ))) (ab (ca (a:=1) (b:=D.getD (15+k) 0) rfl (aj (t:=.f _) ((aA (x:=.e (D.map dI)) (y:=dI (15+k)) rfl (ca (a:=15) (b:=k) rfl rfl rfl)).trans (eI Θ))) rfl) (ab (aj (t:=.f (.bl (decide (((D.getD (11+k) 0:Nat):Int)=1)))) ((aA (x:=dI (D.getD (11+k) 0)) (y:=.int 1) (aj (t:=.f _) ((aA (x:=.e (D.map dI)) (y:=dI (11+k)) rfl (ca (a:=11) (b:=k) rfl rfl rfl)).trans (eI Θ))) rfl).trans rfl)) rfl))) Ξ⟩
 have rn:∀(f:De->ζ Dt)(δ:De)(n:Nat),n<=1000->f δ=ς (dI n)->da gG (aa f af) δ=ς ((qd0 n).map dI):=fun f δ n hn h=>by unfold da;rw[ab h (show af δ=ς []from rfl),qa3];exact jP n Θ
 have e40:∀ δ:De,toD (d2 jD (kD (.int 2)) (kD (.int 40))) δ=ς (dI 1099511627776):=fun δ=>aj (t:=.f (dI 1099511627776)) ((aA (x:=.int 2) (y:=.int 40) rfl rfl).trans pw40)
 have fin:∃q:Rw,(q=.fin at'∨∃k,k<rs.length+1/\q=.go k)/\z15 [.e (ns.map .int),.int 16]=ς (.f (pgD cs ss (rs++[q]))):=by
  unfold z15
  suffices h:∃q:Rw,(q=.fin at'∨∃k,k<rs.length+1/\q=.go k)/\(ai (ap 12 (toT (toD (av (aa (kD (.str "end")) (aa (toD (d2 ah (toD (d2 az (vB 4) (toD (aR (aa (toD (d2 ah (vB 5) (kD (.int 8)))) af))))) (toD (d2 ah (vB 5) (kD (.int 11)))))) af))))))
  (ai (sIf (tB2 (gEq ξ) (toD (d2 ah (vB 5) (kD (.int 9)))) (kD (.int 1))) (ap 12 (toT (toD (av (aa (kD (.str "go")) (aa (toD (d2 cg (toD (d2 ah (vB 5) (kD (.int 10)))) (toD (d2 az (toD (ag bz (aa (vB 8) af))) (kD (.int 1)))))) af)))))) bo)
  (aV (av (aa (vL 6) (aa (vL 7) (aa (toD (ag bO (aa (toD (d2 az (vB 9) (toD (aR (aa (vL 12) af))))) af))) af))))))) (dpS ns D N B St cs ss ls rs y10 y11 ψ)=ς (.rt (.f (pgD cs ss (rs++[q]))))by obtain⟨q,h1,h2⟩:=h;refine⟨q,h1,dRt ?_⟩;show ai _ _ [ς (.f (.e (ns.map .int))),ς (.f (.int 16)),ψ,ψ,ψ,ψ,ψ,ψ,ψ,ψ,ψ,ψ,ψ]=_;refine cN (d:=.e (D.map dI)) (aj (t:=.e (D.map dI)) ((br (x:=.int (n0/2)) (y:=.e (([8,5,12,2,2,2,2,2,2,2,2,2,2,2,2,8,8,8,8]:η Nat).map dI)) (aj (t:=.f (.int (n0/2))) ((aA (x:=.int n0) (y:=.int 2) (c0 _ rfl) rfl).trans (il Ω Ω))) rfl).trans eD)) ?_;refine cN (d:=.e (N.map .str)) (aj (t:=.e (N.map .str)) ((br (x:=.int n1) (y:=.int 13) (c1 _ rfl) rfl).trans eN)) ?_;show ai _ _ [ς (.f (.e (ns.map .int))),ς (.f (.int 16)),ς (.f (.e (D.map dI))),ς (.f (.e (N.map .str))),ψ,ψ,ψ,ψ,ψ,ψ,ψ,ψ,ψ]=_;refine cN (d:=.e (B.map .str)) (aj (t:=.e (B.map .str)) ((br (x:=.int n2) (y:=dI (1+D.getD 2 0)) (c2 _ rfl) (ca (a:=1) (b:=D.getD 2 0) rfl (aj (t:=.f _) ((aA (x:=.e (D.map dI)) (y:=dI 2) rfl rfl).trans (eI Θ))) rfl)).trans eB)) ?_;refine cN (d:=.e (St.map dI)) (aj (t:=.e (St.map dI)) ((br (x:=.int n3) (y:=.e (([1099511627776,1099511627776,1099511627776,1099511627776,1099511627776,1099511627776,1099511627776,1099511627776,1099511627776,2,60,B.length+1]:η Nat).map dI)) (c3 _ rfl) (jo (l:=([1099511627776,1099511627776,1099511627776,1099511627776,1099511627776,1099511627776,1099511627776,1099511627776,1099511627776]:η Nat).map dI) (m:=([2,60,B.length+1]:η Nat).map dI) (aj (t:=.e (([1099511627776,1099511627776,1099511627776,1099511627776,1099511627776,1099511627776,1099511627776,1099511627776,1099511627776]:η Nat).map dI)) ((aA (x:=.e [dI 1099511627776]) (y:=.int 9) (b9 (ab (e40 _) rfl) Ξ) rfl).trans rfl)) (b9 (ab rfl (ab rfl (ab (ca (a:=B.length) (b:=1) (hX (l:=B.map .str) rfl Ξ) rfl rfl) rfl))) Ξ) Ξ)).trans eS)) ?_;show ai _ _ [ς (.f (.e (ns.map .int))),ς (.f (.int 16)),ς (.f (.e (D.map dI))),ς (.f (.e (N.map .str))),ς (.f (.e (B.map .str))),ς (.f (.e (St.map dI))),ψ,ψ,ψ,ψ,ψ,ψ,ψ]=_;refine cN (d:=.t (cs.map hdD)) (aj (t:=.f (.t (cs.map hdD))) ((bq (x:=.e (cs.map hdD)) (aj (cI (src:=[ψ,ς 2,ς 3,ς 5]) (rn _ _ (1+D.getD 0 0) Θ (ca (a:=1) (b:=D.getD 0 0) rfl (aj (t:=.f _) ((aA (x:=.e (D.map dI)) (y:=dI 0) rfl rfl).trans (eI Θ))) rfl)) ec (by simp;lia)))).trans rfl)) ?_;refine cN (d:=.t (ss.map hdD)) (aj (t:=.f (.t (ss.map hdD))) ((bq (x:=.e (ss.map hdD)) (aj (cI (src:=[ψ,ς 2,ς 3]) (rn _ _ (D.getD 1 0) Θ (aj (t:=.f _) ((aA (x:=.e (D.map dI)) (y:=dI 1) rfl rfl).trans (eI Θ)))) es (by simp;lia)))).trans rfl)) ?_;refine cN (d:=.e (ls.map .int)) (aj (t:=.e (ls.map .int)) els) ?_;rw[ax (δ':=dpS ns D N B St cs ss ls [] ψ ψ ψ) rfl,bL,g9,show fIt (vL 8) (dpS ns D N B St cs ss ls [] ψ ψ ψ)=ς (ls.map .int)from rfl,qa3,er,bF];exact h2
  have v5:∀(x12:ζ T)(j:Nat),j<12->toD (d2 ah (vB 5) (kD (.int (j:Nat)))) (dpS ns D N B St cs ss ls rs y10 y11 x12)=ς (dI (St.getD j 0)):=fun x12 j hj=>aj (t:=.f _) ((aA (x:=.e (St.map dI)) (y:=dI j) rfl rfl).trans (eI Θ))
  have ret:∀q:Rw,aV (av (aa (vL 6) (aa (vL 7) (aa (toD (ag bO (aa (toD (d2 az (vB 9) (toD (aR (aa (vL 12) af))))) af))) af)))) (dpS ns D N B St cs ss ls rs y10 y11 (ς (.f q.d)))=ς (.rt (.f (pgD cs ss (rs++[q])))):=fun q=>dj (jn (ab rfl (ab rfl (ab (aj (t:=.f (dR (rs++[q]))) ((bq (x:=.e ((rs++[q]).map Rw.d)) (cD (l:=rs) (m:=[q]) rfl (b9 (ab rfl rfl) Ξ) (by simp;lia))).trans rfl)) rfl))) Ξ)
  have s12:∀(G:De->ζ Out),ai (ap 12 (toT (toD (av (aa (kD (.str "end")) (aa (toD (d2 ah (toD (d2 az (vB 4) (toD (aR (aa (toD (d2 ah (vB 5) (kD (.int 8)))) af))))) (toD (d2 ah (vB 5) (kD (.int 11)))))) af)))))) G (dpS ns D N B St cs ss ls rs y10 y11 ψ)=G (dpS ns D N B St cs ss ls rs y10 y11 (ς (.f (Rw.fin at').d))):=fun G=>cN (d:=(Rw.fin at').d) (aZ (ab rfl (ab (aj (t:=.f at'.d) ((aA (x:=.e (B.map .str++[dI (St.getD 8 0)])) (y:=dI (St.getD 11 0)) (jo (l:=B.map .str) (m:=[dI (St.getD 8 0)]) rfl (b9 (ab (v5 ψ 8 Ω) rfl) Ξ) (by simp;lia)) (v5 ψ 11 Ω)).trans eat)) rfl)) Ξ) rfl
  have t9:tB2 (gEq ξ) (toD (d2 ah (vB 5) (kD (.int 9)))) (kD (.int 1)) (dpS ns D N B St cs ss ls rs y10 y11 (ς (.f (Rw.fin at').d)))=ς (decide (((St.getD 9 0:Nat):Int)=1)):=cM (v5 _ 9 Ω) (y:=.int 1) rfl rfl;by_cases z:((St.getD 9 0:Nat):Int)=1
  .rw[decide_eq_true z]at t9;obtain⟨k,hk,ek⟩:=rP (fa:=toD (d2 ah (vB 5) (kD (.int 10)))) (fb:=toD (d2 az (toD (ag bz (aa (vB 8) af))) (kD (.int 1)))) (δ:=dpS ns D N B St cs ss ls rs y10 y11 (ς (.f (Rw.fin at').d))) (i:=(St.getD 10 0:Nat)) (n:=ls.length+1) (v5 _ 10 Ω) (ca (a:=ls.length) (b:=1) (hX (l:=ls.map .int) rfl Ξ) rfl rfl) Θ;refine⟨.go k,.inr ⟨k,Θ,rfl⟩,?_⟩;rw[s12,bL,jO t9,show ap 12 (toT (toD (av (aa (kD (.str "go")) (aa (toD (d2 cg (toD (d2 ah (vB 5) (kD (.int 10)))) (toD (d2 az (toD (ag bz (aa (vB 8) af))) (kD (.int 1)))))) af))))) (dpS ns D N B St cs ss ls rs y10 y11 (ς (.f (Rw.fin at').d)))=ς (.nx (dpS ns D N B St cs ss ls rs y10 y11 (ς (.f (Rw.go k).d))))from(aP (t:=.f (Rw.go k).d) (b7 (aZ (ab rfl (ab ek rfl)) Ξ))).trans rfl,bF];exact ret _
  .rw[decide_eq_false z]at t9;refine⟨.fin at',.inl rfl,?_⟩;rw[s12,eM t9];exact ret _
 obtain⟨q,hq,e⟩:=fin;refine⟨cs,ss,rs++[q],B,e,Θ,Θ,Θ,?_⟩;rcases hq with rfl|⟨k,hk,rfl⟩
 .exact yf Θ Θ hr hat
 .exact yh Θ Θ hk hr
section
variable{cs ss:η Hd}{J0:η Rw}{K:η Nat}{nm:Str}
def Cn(J0:η Rw)(nm:Str):η (Nat×Mrk)->Nat×Mrk->Prop
 |[],_=>True
 |v::V,t=>(∃r,J0[v.1]?=ς r/\(v.2=.fresh∨v.2=.seen)/\mb v.2 r nm=(V.headD t).2/\mb v.2 r nm≠.safe/\mb v.2 r nm≠.spoilt)/\Cn J0 nm V t
theorem Cn.snoc{p t:Nat×Mrk}(h:∃r,J0[p.1]?=ς r/\(p.2=.fresh∨p.2=.seen)/\mb p.2 r nm=t.2/\mb p.2 r nm≠.safe/\mb p.2 r nm≠.spoilt):∀{V:η (Nat×Mrk)},Cn J0 nm V p->Cn J0 nm (V++[p]) t
 |[],_=>⟨h,trivial⟩
 |[v],c=>⟨c.1,h,trivial⟩
 |v::w::V,c=>⟨c.1,Cn.snoc h (V:=w::V) c.2⟩
def FN{t:Nat×Mrk}(h:Wy (ir J0 K nm) (hW J0 nm) (cW K) t ws):∃V,ws.reverse=V++[t]/\Cn J0 nm V t/\(t.2=.fresh∨t.2=.seen)/\(V.headD t).2=.fresh:=by
 induction h with
 |@one t h=>obtain⟨k,_,rfl⟩:=qb8.mp h;exact⟨[],rfl,trivial,.inl rfl,rfl⟩
 |@more t p r h L w ih=>
  obtain⟨V,e,c,hp,W⟩:=ih;obtain⟨q,Y,Z,_,_,O⟩:=lP h
  have U:mb p.2 q nm≠.spoilt:=fun z=>by unfold hW at L;rw[Y]at L;exact(of_decide_eq_false L) z
  refine⟨V++[p],by rw[qo0,e],Cn.snoc ⟨q,Y,hp,O.symm,Z,U⟩ c,?_,?_⟩
  .rw[O];cases z:mb p.2 q nm with
   |fresh=>exact .inl rfl
   |seen=>exact .inr rfl
   |safe=>exact absurd z Z
   |spoilt=>exact absurd z U
  .cases V with
   |nil=>exact W
   |cons v V=>exact W
def spS(P:Dt)(nm:Str)(q:ζ T)(L:Bool)(x4 O x6:ζ T):De:=[ς (.f P),ς (.f (.str nm)),q,ς (.f (.bl L)),x4,O,x6]
theorem yH(r:Rw)(P:Dt)(nm:Str)(L:ζ T)(q:Bool)(x4 x6:ζ T):cY (tB2 (gEq ξ) (toD (d2 ah (vB 5) (kD (.int 0)))) (kD (.str "store"))) (cY (tB2 (gEq ξ) (toD (d2 ah (vB 5) (kD (.int 1)))) (vB 1)) (dH (cF (vB 3)))) (spS P nm L q x4 (ς (.f r.d)) x6)=ς (r.stores nm&&!q):=by unfold spS;cases r<;>cases q<;>simp only[Rw.d,Rw.stores]<;>walk_at "k"<;>(try rfl)<;>(generalize decide (_=nm)=b;cases b<;>rfl)
theorem yI(r:Rw)(P:Dt)(nm:Str)(q:ζ T)(L:Bool)(x4 x6:ζ T):cY (tB2 (bJ ξ) (toD (d2 ah (vB 5) (kD (.int 0)))) (toD (av (aa (kD (.str "load")) (aa (kD (.str "take")) af))))) (tB2 (gEq ξ) (toD (d2 ah (vB 5) (kD (.int 2)))) (vB 1)) (spS P nm q L x4 (ς (.f r.d)) x6)=ς (r.gets nm):=by unfold spS;cases r<;>simp only[Rw.d,Rw.gets]<;>walk_at "k"<;>(try rfl)
theorem yJ(L x6:ζ T){t:Nat×Mrk}:∀(V:η (Nat×Mrk))(x4 O:ζ T),Cn J0 nm V t->∃Y W,cA (am 4) q52 (V.map fun v=>dI v.1) (spS (pgD cs ss J0) nm L (decide ((V.headD t).2=.seen)) x4 O x6)=ς (.nx (spS (pgD cs ss J0) nm L (decide (t.2=.seen)) Y W x6))
 |[],x4,O,_=>⟨x4,O,rfl⟩
 |v::V,x4,O,c=>by
  obtain⟨⟨r,e1,h1,h2,h3,Z⟩,c2⟩:=c;obtain⟨Y,W,e⟩:=yJ L x6 V (ς (.f (dI v.1))) (ς (.f r.d)) c2;refine⟨Y,W,?_⟩;rw[List.headD_cons,qa6]
  have s1:ap 5 (toT (toD (d2 ah (toD (d2 ah (vB 0) (kD (.int 2)))) (vB 4)))) (spS (pgD cs ss J0) nm L (decide (v.2=.seen)) (ς (.f (dI v.1))) O x6)=ς (.nx (spS (pgD cs ss J0) nm L (decide (v.2=.seen)) (ς (.f (dI v.1))) (ς (.f r.d)) x6)):=(aP (t:=.f r.d) (b7 (aj (t:=.f r.d) ((aA (x:=dR J0) (y:=dI v.1) (aj (t:=.f (dR J0)) ((aA (x:=pgD cs ss J0) (y:=.int 2) rfl rfl).trans rfl)) rfl).trans (im e1))))).trans rfl
  have t1:=yH r (pgD cs ss J0) nm L (decide (v.2=.seen)) (ς (.f (dI v.1))) x6;have U:=yI r (pgD cs ss J0) nm L (decide (v.2=.seen)) (ς (.f (dI v.1))) x6
  have f1:(r.stores nm&&!decide (v.2=.seen))=ξ:=by
   rcases h1 with h1|h1
   .rw[h1]at h3;have h3:(if r.gets nm=θ then Mrk.seen else if r.stores nm=θ then .safe else .fresh)≠.safe:=h3;cases q:r.stores nm with
    |false=>rfl
    |true=>
     exfalso;have:r.gets nm=ξ:=by cases r<;>first|rfl|cases q
     rw[this,q]at h3;exact h3 rfl
   .rw[h1];simp
  have f2:(if r.gets nm=θ then θ else decide (v.2=.seen))=decide ((V.headD t).2=.seen):=by
   rw[<- h2];rcases h1 with h1|h1<;>rw[h1]at h3 Z ⊢<;>unfold mb at h3 Z ⊢
   .cases q:r.gets nm<;>cases q2:r.stores nm<;>simp_all
   .cases q:r.puts nm<;>simp_all
  rw[aS (δ1:=spS (pgD cs ss J0) nm L (decide (v.2=.seen)) (ς (.f (dI v.1))) O x6) (δ2:=spS (pgD cs ss J0) nm L (decide ((V.headD t).2=.seen)) (ς (.f (dI v.1))) (ς (.f r.d)) x6) rfl ?_]
  .exact e
  .unfold q52;rw[ax s1,eM (t1.trans (by rw[f1])),<- f2];cases q:r.gets nm with
   |true=>rw[q]at U;rw[jO U];rfl
   |false=>rw[q]at U;rw[mi U];rfl
def yK:gSl (.e ((l++[a]).map dI)) ψ (ς (-1))=ς (.e (l.map dI)):=by
 show ς (T.e (i0 ((l++[a]).map dI) ψ (ς (-1))))=_;unfold i0;rw[HT.EQ]
 have:HT.sIx ((l++[a]).map dI).length ((l++[a]).map dI).length (ς (-1))=l.length:=by unfold HT.sIx;simp;lia
 rw[this,List.drop_zero,Nat.sub_zero,qf5,List.take_left' Ξ]
def rS{V:η (Nat×Mrk)}{t:Nat×Mrk}(c:Cn J0 nm V t)(Y:(V.headD t).2=.fresh)(O:hW J0 nm t=θ)(L:t.2=.fresh∨t.2=.seen):q41 [pgD cs ss J0,.str nm,.e (((V.map (·.1))++[t.1]).map dI)]=ς (.f (.bl θ)):=by
 obtain⟨r,e1,W⟩:∃r,J0[t.1]?=ς r/\mb t.2 r nm=.spoilt:=by
  unfold hW at O;split at O
  .cases O
  .rename_i r e;exact⟨r,e,of_decide_eq_true O⟩
 obtain⟨s1,U⟩:t.2=.seen/\r.puts nm=θ:=by
  rcases L with L|L<;>rw[L]at W<;>unfold mb at W
  .cases q:r.gets nm<;>cases q2:r.stores nm<;>simp_all
  .cases q:r.puts nm<;>simp_all
 obtain⟨y4,Z,e⟩:=yJ (cs:=cs) (ss:=ss) (ς (.f (.e (((V.map (·.1))++[t.1]).map dI)))) ψ V ψ ψ c;rw[Y,s1]at e;have hl:((V.map (·.1))++[t.1]).length=V.length+1:=by simp
 unfold q41;refine dRt ?_;show ai _ _ [ς (.f (pgD cs ss J0)),ς (.f (.str nm)),ς (.f (.e (((V.map (·.1))++[t.1]).map dI))),ψ,ψ,ψ,ψ]=_;rw[ax (δ':=spS (pgD cs ss J0) nm (ς (.f (.e (((V.map (·.1))++[t.1]).map dI)))) ξ ψ ψ ψ) rfl,bL,g9,show fIt (toD (vSl (vB 2) gy (db (toD (gH (kD (.int 1))))))) (spS (pgD cs ss J0) nm (ς (.f (.e (((V.map (·.1))++[t.1]).map dI)))) ξ ψ ψ ψ)=ς (V.map fun v=>dI v.1)from gp (x:=.e ((V.map (·.1)).map dI)) (aj (t:=.e ((V.map (·.1)).map dI)) (show gSl (.e (((V.map (·.1))++[t.1]).map dI)) ψ (ς (-1))=_ from yK)) (by rw[qc6];rfl),qa3];rw[show decide (Mrk.fresh=Mrk.seen)=ξ from rfl]at e;rw[e,bF]
 rw[ax ((aP (t:=.f r.d) (b7 (aj (t:=.f r.d) ((aA (x:=dR J0) (y:=dI t.1) (aj (t:=.f (dR J0)) ((aA (x:=pgD cs ss J0) (y:=.int 2) rfl rfl).trans rfl)) (aj (t:=.f (dI t.1)) ((aA (x:=.e (((V.map (·.1))++[t.1]).map dI)) (y:=.int (-1)) rfl rfl).trans ((t4 hl).trans (by rw[qb5,qc9 Ξ];simp))))).trans (im e1))))).trans rfl)]
 show aV _ (spS (pgD cs ss J0) nm (ς (.f (.e (((V.map (·.1))++[t.1]).map dI)))) θ y4 Z (ς (.f r.d)))=_;refine dj ?_;cases r with
 |store c a=>have:c=nm:=of_decide_eq_true U;subst this;unfold spS;simp only[Rw.d];walk_at "k"
 |lay f a b=>have:f=nm:=of_decide_eq_true U;subst this;unfold spS;simp only[Rw.d];walk_at "k"
 |_=>cases U
end
section
variable{cs ss:η Hd}{J0:η Rw}{ks:η (Nat×η Str)}{bg:η Str}
def A0{g:De->ζ T}{t:T}(h1:f δ=ς (.bl θ))(h2:g δ=ς t):kg f g δ=ς t:=by unfold kg;rw[h1];exact h2
def gdE{k:Nat}(h:l[k]?=ς a):l.getD k 0=a:=by rw[qb5,h];rfl
theorem yL(r:Ring J0 (fun i=>i<J0.length/\i∉K) R)(l:R.length<=J0.length)(O:J0.length<=60):Way J0 K R:=by refine⟨qo4.mpr r.ne,Θ,fun i hi=>(r.all i hi).1,fun k hk=>?_⟩;have L:R[k]?=ς (R[k]'Θ):=gQ Θ;have q:R[k+1]?=ς R[k+1]:=gQ hk;rw[gdE L,gdE q];exact⟨(r.all _ (qc8 q)).2,r.ed k _ _ L q⟩
theorem A1{nm:Str}{t:Nat×Mrk}(w:Wy (ir J0 K nm) (hW J0 nm) (cW K) t ws)(hl:ws.length<=10000)(Y:0<J0.length)(hk:∀k∈K,k<J0.length)(hO:∀(i:Nat)(r:Rw)(j:Nat),J0[i]?=ς r->j∈r.outs i->j<J0.length):Way J0 K (ws.reverse.map (·.1))/\((ws.reverse.map (·.1)).getD 0 0=0∨(ws.reverse.map (·.1)).getD 0 0∈K):=by
 obtain⟨⟨s,Z,e0⟩,⟨n,e1,e2⟩,L⟩:=yy w
 have U:s.1=0∨s.1∈K:=by obtain⟨k,q,rfl⟩:=qb8.mp Z;exact qa8.mp q
 have at':∀(k:Nat)(a:Nat×Mrk),ws.reverse[k]?=ς a->(ws.reverse.map (·.1)).getD k 0=a.1:=fun k a h=>gdE (by rw[qb1,h];rfl)
 refine⟨⟨by simp;lia,by simpa using hl,fun i hi=>?_,fun k q=>?_⟩,by rw[at' 0 s e0];exact U⟩
 .obtain⟨a,ha,rfl⟩:=qb8.mp hi;obtain⟨k,q⟩:=qk3 ha;cases k with
  |zero=>
   rw[e0]at q;cases q;rcases U with z|z
   .rw[z];exact Y
   .exact hk _ z
  |succ k=>have:=(gX q).1;obtain⟨r,q1,_,q2,_⟩:=lP (L k (ws.reverse[k]'Θ) a (gQ Θ) q);exact hO _ r _ q1 q2
 .rw[qa1]at q;have W:ws.reverse[k]?=ς (ws.reverse[k]'Θ):=gQ Θ;have O:ws.reverse[k+1]?=ς ws.reverse[k+1]:=gQ q;obtain⟨r,q1,_,q2,q3,_⟩:=lP (L k _ _ W O);rw[at' _ _ W,at' _ _ O,jm q1];exact⟨q3,q2⟩
def wkS(cs ss:η Hd)(J0:η Rw)(bg:η Str)(ks:η (Nat×η Str))(d:Dt)(x4 q:ζ T):De:=[ς (.f (pgD cs ss J0)),ς (.f (cdD bg ks)),ς (.f d),ς (.f (.e ((ks.map (·.1)).map dI))),x4,q]
theorem ny (q:ks.length<=60) {d:Dt} {r:ζ Out} (h1:fOr (dH (cF (toD (g5 "tuple" (vB 2))))) (tB2 (f9 fun i j=>decide (i<j)) (toD (ag bz (aa (vB 2) af))) (kD (.int 2))) (wkS cs ss J0 bg ks d ψ ψ)=ς ξ) (h:G (wkS cs ss J0 bg ks d ψ ψ)=r):ai (ap 3 (toT (toD (aQ [ψ,ψ] (fIt (toD (d2 ah (vB 1) (kD (.int 1))))) (eG 2 (aW (am 0) (aW (am 1) eF))) bh (vL 0)))))
  (ai (sIf (fOr (dH (cF (toD (g5 "tuple" (vB 2))))) (tB2 (f9 fun i j=>decide (i<j)) (toD (ag bz (aa (vB 2) af))) (kD (.int 2)))) dl bo) G) [ς (.f (pgD cs ss J0)),ς (.f (cdD bg ks)),ς (.f d),ψ,ψ,ψ]=r:=by
 rw[ax (δ':=wkS cs ss J0 bg ks d ψ ψ) ((aP (t:=.f (.e ((ks.map (·.1)).map dI))) (b7 (aj (cI (src:=[ψ,ψ]) (ds:=ks.map kpD) (gp (aj (t:=.f (.t (ks.map kpD))) ((aA (x:=cdD bg ks) (y:=.int 1) rfl rfl).trans rfl)) rfl) (ys:=(ks.map (·.1)).map dI) (by rw[qc6];exact bw fun k _=>⟨_,rfl,rfl,rfl⟩) (by simp;lia))))).trans rfl),eM h1]
 exact h
def qi(W:J0.length<=60)(O:ks.length<=60)(r:Ring J0 (fun i=>i<J0.length/\i∉ks.map (·.1)) R)(l:R.length<=J0.length):y20 [pgD cs ss J0,cdD bg ks,.t [.str "ring",.e (R.map dI)]]=ς (.f (.bl θ)):=by
 have w:=yL r l W;obtain⟨n,L⟩:∃n,R.length=n+1:=⟨R.length-1,by have:=w.ne;lia⟩;have g0:R.getD 0 0∈R:=gdm Θ;have gn:R.getD n 0∈R:=gdm Θ;have q:R.getD 0 0∈gm J0 (R.getD n 0):=r.turn _ _ (by rw[L];simp[L]) (by simp[L]);unfold y20;refine dRt ?_;show ai _ _ [ς (.f (pgD cs ss J0)),ς (.f (cdD bg ks)),ς (.f (.t [.str "ring",.e (R.map dI)])),ψ,ψ,ψ]=_;refine ny O rfl ?_;rw[bL,jO (cM (x:=.str "ring") (y:=.str "ring") rfl rfl (by kernel_rfl)),ax (δ':=wkS cs ss J0 bg ks (.t [.str "ring",.e (R.map dI)]) (ς (.f (.e (R.map dI)))) ψ) rfl];have U:toD (d2 ah (vB 4) (kD (.int 0))) (wkS cs ss J0 bg ks (.t [.str "ring",.e (R.map dI)]) (ς (.f (.e (R.map dI)))) ψ)=ς (dI (R.getD 0 0)):=aj (t:=.f _) ((aA (x:=.e (R.map dI)) (y:=.int ((0:Nat):Int)) rfl rfl).trans (eI Θ));have Z:toD (d2 ah (vB 4) (toD (gH (kD (.int 1))))) (wkS cs ss J0 bg ks (.t [.str "ring",.e (R.map dI)]) (ς (.f (.e (R.map dI)))) ψ)=ς (dI (R.getD n 0)):=aj (t:=.f _) ((aA (x:=.e (R.map dI)) (y:=.int (-1)) rfl rfl).trans (t4 L))
 have Y:(cb (R.map fun j:Nat=>(j:Int))).length=R.length:=by
  have a:=jJ (R.map fun j:Nat=>(j:Int))
  have b:=bW (l:=R.map fun j:Nat=>(j:Int)) (by rw[qq4,za4];exact qt7 (fun {a b:Nat}(z:a≠b)(e:(a:Int)=(b:Int))=>z Θ) (qq4.mp r.nd)) (m:=cb (R.map fun j:Nat=>(j:Int))) fun x hx=>oncesK_mem.mpr hx
  rw[qa1]at a b;lia
 rw [eM (ml (a:=false) (b:=false) (by
     unfold dH cF;rw[aj (t:=.f (.bl θ)) ((ej (x:=pgD cs ss J0) (y:=.e (R.map dI)) (z:=.e ((ks.map (·.1)).map dI)) rfl rfl rfl).trans (nv Θ w))]
     rfl) (ml (a:=false) (b:=false) (cM U (y:=.e ((ks.map (·.1)).map dI)) rfl (gIn_ints.trans (by rw[decide_eq_false (r.all _ g0).2];rfl))) (cM (x:=.int (R.length:Nat)) (y:=.int (R.length:Nat)) (aj (t:=.f (.int (R.length:Nat))) ((bq (x:=.e (R.map dI)) rfl).trans (by
      show((lu (R.map dI)).bind fun ss=>if ss.length<4000 then ς (T.f (.int ((cb ss).length:Nat)))else ψ)=_;rw[tW,qa3,if_pos (by rw[qa1];lia),Y]))) (aj (t:=.f (.int (R.length:Nat))) ((bq (x:=.e (R.map dI)) rfl).trans (by
      show ς (T.f (.int ((R.map dI).length:Nat)))=_;rw[qa1]))) (lH (neg:=true) (b:=true) (show ς (decide (((R.length:Nat):Int)=(R.length:Nat)))=ς θ by simp)))))]
 rw[dj ((aA U (qg (J0:=J0) (S:=R) (r.all _ gn).1 (aj (t:=.f (dR J0)) ((aA (x:=pgD cs ss J0) (y:=.int 2) rfl rfl).trans rfl)) Z)).trans (gIn_intT.trans (by rw[decide_eq_true q])))];rfl
theorem oN(hn:J0.length<=60)(W:0<J0.length)(hh:cs.length+ss.length<=100)(L:ks.length<=60)(hk:∀k∈ks.map (·.1),k<J0.length)(hO:∀(i:Nat)(r:Rw)(j:Nat),J0[i]?=ς r->j∈r.outs i->j<J0.length){nm:Str}(s:Spl cs ss J0 (ks.map (·.1)) nm ws):y20 [pgD cs ss J0,cdD bg ks,lY nm ws]=ς (.f (.bl θ)):=by
 obtain⟨t,w,hf⟩:=s.w;obtain⟨U,q⟩:=A1 w s.l W hk hO;obtain⟨V,e,c,ht,hV⟩:=FN w;have Z:ws.reverse.map (·.1)=V.map (·.1)++[t.1]:=by rw[e,qf5];rfl
 have hp:=U.ne;unfold y20;refine dRt ?_;show ai _ _ [ς (.f (pgD cs ss J0)),ς (.f (cdD bg ks)),ς (.f (lY nm ws)),ψ,ψ,ψ]=_;refine ny L rfl ?_;rw[eM (cM (x:=.str "spoil") (y:=.str "ring") (b:=false) rfl rfl (by kernel_rfl)),eM (ml (a:=false) (b:=false) (cM (x:=.str "spoil") (y:=.str "spoil") rfl rfl (by kernel_rfl)) rfl)];have Y:fIt (toD (d2 je (toD (d2 ah (vB 0) (kD (.int 0)))) (toD (d2 ah (vB 0) (kD (.int 1)))))) (wkS cs ss J0 bg ks (lY nm ws) ψ ψ)=ς ((cs++ss).map hdD):=gp (aj (t:=.f (.t ((cs++ss).map hdD))) ((aA (x:=.t (cs.map hdD)) (y:=.t (ss.map hdD)) (aj (t:=.f (.t (cs.map hdD))) ((aA (x:=pgD cs ss J0) (y:=.int 0) rfl rfl).trans rfl)) (aj (t:=.f (.t (ss.map hdD))) ((aA (x:=pgD cs ss J0) (y:=.int 1) rfl rfl).trans rfl))).trans (oE hdD cs ss Θ))) rfl
 have a2:=aj (cI (src:=[ψ]) (bb:=am 0) (ft:=z54) (fe:=y70) Y (ys:=(plain cs ss).map .str) (by
  unfold plain;rw[qc6];exact bZ fun h _=>⟨[ς (.f (hdD h))],rfl,by unfold z54 hdD;cases h.b<;>rfl,fun _=>rfl⟩) (by
  unfold plain;rw[qa1,qa1];exact qb9 (qd6 _ _) (by simp;lia)))
 rw[ax (δ':=wkS cs ss J0 bg ks (lY nm ws) ψ (ς (.f (dS (plain cs ss))))) ((aP (t:=.f (dS (plain cs ss))) (b7 a2)).trans rfl),ax (δ':=wkS cs ss J0 bg ks (lY nm ws) (ς (.f (.e ((ws.reverse.map (·.1)).map dI)))) (ς (.f (dS (plain cs ss))))) rfl]
 rw[eM (ml (a:=false) (b:=false) (cM (x:=.str nm) (y:=dS (plain cs ss)) rfl rfl (gIn_strs.trans (by rw[decide_eq_true s.pl];rfl))) (by unfold dH cF;rw[aj (t:=.f (.bl θ)) ((ej (x:=pgD cs ss J0) (y:=.e ((ws.reverse.map (·.1)).map dI)) (z:=.e ((ks.map (·.1)).map dI)) rfl rfl rfl).trans (nv Θ U))];rfl))]
 have O:toD (d2 ah (vB 4) (kD (.int 0))) (wkS cs ss J0 bg ks (lY nm ws) (ς (.f (.e ((ws.reverse.map (·.1)).map dI)))) (ς (.f (dS (plain cs ss)))))=ς (dI ((ws.reverse.map (·.1)).getD 0 0)):=aj (t:=.f _) ((aA (x:=.e ((ws.reverse.map (·.1)).map dI)) (y:=.int ((0:Nat):Int)) rfl rfl).trans (eI Θ));refine dj ?_
 have o1:toD (vOr (toD (d2 (gEq ξ) (toD (d2 ah (vB 4) (kD (.int 0)))) (kD (.int 0)))) (d2 (bJ ξ) (toD (d2 ah (vB 4) (kD (.int 0)))) (vB 3))) (wkS cs ss J0 bg ks (lY nm ws) (ς (.f (.e ((ws.reverse.map (·.1)).map dI)))) (ς (.f (dS (plain cs ss)))))=ς (.bl θ):=by
  refine aj (t:=.f (.bl θ)) ?_;unfold vOr;rw[aj (t:=.f (.bl (decide ((((ws.reverse.map (·.1)).getD 0 0:Nat):Int)=0)))) ((aA O (y:=.int 0) rfl).trans rfl),aA O (y:=.e ((ks.map (·.1)).map dI)) rfl,gIn_ints];rcases q with z|z
  .rw[z];rfl
  .rw[decide_eq_true z];cases decide ((((ws.reverse.map (·.1)).getD 0 0:Nat):Int)=0)<;>rfl
 refine A0 o1 ((ej (x:=pgD cs ss J0) (y:=.str nm) (z:=.e ((ws.reverse.map (·.1)).map dI)) rfl rfl rfl).trans ?_);rw[Z];exact rS c hV hf ht
end
theorem fV{α:Type}{f:α->Dt}(h:∀a b,dX (f a) (f b)=θ):∀l m:η α,cmpbs (l.map f) (m.map f)=θ
 |[],_=>by simp[cmpbs]
 |_::_,[]=>by simp[cmpbs]
 |a::l,b::m=>by rw[qa6,qa6];unfold cmpbs;rw[h a b,fV h l m];rfl
theorem ia{α:Type}{f:α->Dt}(h:∀a,f6 (f a)<=n):∀l:η α,deeps (l.map f)<=n
 |[]=>qi7 _
 |a::l=>by have h1:=h a;have h2:=ia h l;rw[qa6];unfold deeps;lia
def oO(x y:Str):dX (.str x) (.str y)=θ:=rfl
def l4(x:Str):f6 (.str x)<=0:=by simp[f6]
def Eg(p q:Nat×η Str):dX (kpD p) (kpD q)=θ:=by unfold kpD;simp only[dX,cmpbs,fV oO,qo2];rfl
def A2(p:Nat×η Str):f6 (kpD p)<=5:=by have:=ia l4 p.2;simp only[kpD,f6,deeps,dI];lia
def t5(bs:η Str)(L q:η (Nat×η Str)):gEq neg (cdD bs L) (cdD bs q)=ς (.f (.bl (if neg then !peqs (L.map kpD) (q.map kpD)else peqs (L.map kpD) (q.map kpD)))):=by
 unfold cdD;have h1:=ia l4 bs;have h2:=ia A2 L;refine lH ((Br ?_).trans ?_)
 .rw[qb3];refine⟨?_,decide_eq_true ?_⟩
  .simp only[cmpbs,dX,fV oO,fV Eg,qv7]
  .simp only[deeps,f6];lia
 .simp only[peqs,peq,peqs_self,qi9,qo2]
theorem qj:∀{l m:η Dt},peqs l m=θ->l.length=m.length
 |[],[],_=>rfl
 |[],_::_,h=>by simp[peqs]at h
 |_::_,[],h=>by simp[peqs]at h
 |_::l,_::m,h=>by unfold peqs at h;rw[qd2,qd2,qj (qq7.mp h).2]
noncomputable def les(j:Nat)(ks:η (Nat×η Str)):η (Nat×η Str):=ks.filter fun k=>!decide ((k.1:Int)=(j:Int))
theorem yM(C:De->ζ Bool)(q:C=tB2 (gEq θ) (toD (d2 ah (vB 0) (kD (.int 0)))) (vB 1))(j:Nat)(ks:η (Nat×η Str)):bE (am 0) C (vL 0) [ψ,ς (.f (dI j))] (ks.map kpD)=ς ((les j ks).map kpD):=bZ fun k _=>⟨[ς (.f (kpD k)),ς (.f (dI j))],rfl,by subst q;rfl,fun _=>rfl⟩
def oP(j:Nat)(ks:η (Nat×η Str)):(les j ks).length<=ks.length:=qd6 _ _
theorem A3(x:Dt)(j:Nat)(ks:η (Nat×η Str))(Z:ks.length<=1000)(C:De->ζ Bool)(O:C=tB2 (gEq θ) (toD (d2 ah (vB 0) (kD (.int 0)))) (vB 1))(h1:δ[i]?=ς (ς (.f (cdD bg ks))))(h2:δ[a]?=ς (ς (.f (dI j)))):av (aa (toD (d2 ah (vB i) (kD (.int 0)))) (aa (toD (ag bO (aa (toD (aQ [ψ,ς a] (fIt (toD (d2 ah (vB i) (kD (.int 1))))) (am 0) C (vL 0))) af))) af)) δ=ς (.f (cdD bg (les j ks))):=by
 have b1:vB i δ=ς (cdD bg ks):=by unfold vB;rw[h1];rfl
 have W:toD (d2 ah (vB i) (kD (.int 0))) δ=ς (.t (bg.map .str)):=aj (t:=.f _) ((aA b1 (y:=.int 0) rfl).trans rfl);have L:toD (d2 ah (vB i) (kD (.int 1))) δ=ς (.t (ks.map kpD)):=aj (t:=.f _) ((aA b1 (y:=.int 1) rfl).trans rfl)
 have q:fIt (toD (d2 ah (vB i) (kD (.int 1)))) δ=ς (ks.map kpD):=by unfold fIt;rw[L];rfl
 have U:=aj (cI (src:=[ψ,ς a]) (bb:=am 0) (ft:=C) (fe:=vL 0) q (ys:=(les j ks).map kpD) (by
  have:dC [ψ,ς a] δ=[ψ,ς (.f (dI j))]:=by simp[dC,h2]
  rw[this];exact yM C O j ks) (by
  have:=oP j ks;rw[qa1];lia))
 have Y:=aj (t:=.f (.t ((les j ks).map kpD))) ((bq (F:=bO) U).trans rfl);exact tK W Y
theorem l5(j:Nat)(bg:η Str)(ks:η (Nat×η Str))(q:ks.length<=1000):z38 [cdD bg ks,dI j]=ς (.f (cdD bg (les j ks))):=by unfold z38;rw[jM];show oj (aV _ [ς (.f (cdD bg ks)),ς (.f (dI j))])=_;unfold aV;rw[A3 .non j ks q q91 rfl (i:=0) (a:=1) (bg:=bg) rfl rfl];rfl
def io(j:Nat)(ks:η (Nat×η Str)):(les j ks).Sublist ks:=qo3
def yN{a b:η (Nat×η Str)}(h:a.Sublist b):gEq neg (cdD bg a) (cdD bg b)=ς (.f (.bl (if neg then !decide (a.length=b.length)else decide (a.length=b.length)))):=by
 rw[t5]
 have:peqs (a.map kpD) (b.map kpD)=decide (a.length=b.length):=by
  by_cases z:a.length=b.length
  .rw[h.eq_of_length z,peqs_self];simp
  .rw[decide_eq_false z];cases e:peqs (a.map kpD) (b.map kpD)with
   |false=>rfl
   |true=>have:=qj e;simp at this;exact absurd this z
 rw[this]
def gS(P:Dt)(q:ζ T)(bg:η Str)(l:η (Nat×η Str))(L x4:ζ T):De:=[ς (.f P),q,ς (.f (cdD bg l)),L,x4]
def tS(P:Dt)(bg:η Str)(l:η (Nat×η Str))(q:ζ T):De:=[ς (.f P),ς (.f (cdD bg l)),q]
section
variable{P:Dt}{bg:η Str}{H:η (Nat×η Str)->Bool}{N:Nat}
def goT(H:η (Nat×η Str)->Bool):η Nat->η (Nat×η Str)->η (Nat×η Str)
 |[],l=>l
 |j::js,l=>goT H js (if H (les j l)then les j l else l)
def goG(H:η (Nat×η Str)->Bool)(ks:η (Nat×η Str)):η (Nat×η Str):=goT H (ks.map (·.1)) ks
theorem ip:∀(js:η Nat)(l:η (Nat×η Str)),(goT H js l).Sublist l
 |[],l=>qu0 _
 |j::js,l=>by
  unfold goT;split
  .exact(ip js _).trans (io j l)
  .exact ip js l
abbrev HolP(P:Dt)(bg:η Str)(ks0:η (Nat×η Str))(H:η (Nat×η Str)->Bool):Prop:=ks0.length<=60/\∀ks:η (Nat×η Str),ks.Sublist ks0->q25 [P,cdD bg ks]=ς (.f (.bl (H ks)))
def HolP.sub{q ks:η (Nat×η Str)}(h:HolP P bg q H)(s:ks.Sublist q):HolP P bg ks H:=⟨qb9 s.length_le h.1,fun k z=>h.2 k (z.trans s)⟩
def rT{F:η Dt->ζ T}{k:Nat}(h1:vL i δ=ς x)(h2:vL k δ=ς y)(h:F [x,y]=ς (.f (.bl b))):cF (toD (ag F (aa (vL i) (aa (vL k) af)))) δ=ς b:=by unfold cF;rw[aj ((br h1 h2).trans h)];rfl
theorem t6(q:ζ T):∀(js:η Nat)(l:η (Nat×η Str))(L x4:ζ T),HolP P bg l H->∃U O,cA (am 3) y39 (js.map dI) (gS P q bg l L x4)=ς (.nx (gS P q bg (goT H js l) U O))
 |[],l,L,x4,_=>⟨L,x4,rfl⟩
 |j::js,l,L,x4,h=>by
  have s1:ap 4 (toT (toD (ag z38 (aa (vL 2) (aa (vL 3) af))))) (gS P q bg l (ς (.f (dI j))) x4)=ς (.nx (gS P q bg l (ς (.f (dI j))) (ς (.f (cdD bg (les j l)))))):=(aP (t:=.f (cdD bg (les j l))) (b7 (aj (t:=.f _) ((br (x:=cdD bg l) (y:=dI j) rfl rfl).trans (l5 j bg l (by have:=h.1;lia)))))).trans rfl
  have W:cF (toD (ag q25 (aa (vL 0) (aa (vL 4) af)))) (gS P q bg l (ς (.f (dI j))) (ς (.f (cdD bg (les j l)))))=ς (H (les j l)):=rT (x:=P) (y:=cdD bg (les j l)) rfl rfl (h.2 _ (io j l))
  have b:y39 (gS P q bg l (ς (.f (dI j))) x4)=ς (.nx (gS P q bg (if H (les j l)then les j l else l) (ς (.f (dI j))) (ς (.f (cdD bg (les j l)))))):=by
   unfold y39;rw[ax s1];cases z:H (les j l)with
   |true=>rw[jO (W.trans (by rw[z]))];rfl
   |false=>rw[mi (W.trans (by rw[z]))];rfl
  obtain⟨U,O,e⟩:=t6 q js (if H (les j l)then les j l else l) (ς (.f (dI j))) (ς (.f (cdD bg (les j l)))) (by
   split
   .exact h.sub (io j l)
   .exact h)
  refine⟨U,O,?_⟩;rw[qa6,aS (δ1:=(gS P q bg l (ς (.f (dI j))) x4)) rfl b,e];rfl
def t7{ks:η (Nat×η Str)}(h:HolP P bg ks H):q27 [P,cdD bg ks]=ς (.f (cdD bg (goG H ks))):=by
 obtain⟨L,q,e⟩:=t6 (ς (.f (cdD bg ks))) (ks.map (·.1)) ks ψ ψ h;unfold q27;refine dRt ?_;show ai _ _ [ς (.f P),ς (.f (cdD bg ks)),ψ,ψ,ψ]=_;rw[ax (δ':=(gS P (ς (.f (cdD bg ks))) bg ks ψ ψ)) rfl,bL,g9]
 have e0:fIt (toD (ag z14 (aa (vL 1) af))) (gS P (ς (.f (cdD bg ks))) bg ks ψ ψ)=ς ((ks.map (·.1)).map dI):=by unfold fIt;rw[aj ((bq (x:=cdD bg ks) rfl).trans (jk _ ks (by have:=h.1;lia)))];rfl
 rw[e0,qa3,e];rfl
def iK(H:η (Nat×η Str)->Bool):Nat->η (Nat×η Str)->η (Nat×η Str)
 |0,ks=>ks
 |n+1,ks=>if(goG H ks).length=ks.length then ks else iK H n (goG H ks)
theorem t8:∀(n m:Nat)(ks:η (Nat×η Str)),ks.length<n->ks.length<m->iK H n ks=iK H m ks
 |0,_,_,h,_=>absurd h (qn7 _)
 |_,0,_,_,h=>absurd h (qn7 _)
 |n+1,m+1,ks,h,h'=>by
  unfold iK;split
  .rfl
  .rename_i z;have:=(ip (H:=H) (ks.map (·.1)) ks).length_le;have:(goG H ks).length<ks.length:=qy9 this z;exact t8 n m _ Θ Θ
theorem ua:∀(f:Nat)(ks:η (Nat×η Str)),HolP P bg ks H->ks.length<f->∃x,bp z72 z73 f (tS P bg ks (ς (.f (cdD bg (goG H ks)))))=ς (.nx [ς (.f P),x,ς (.f (cdD bg (iK H f ks)))])
 |0,_,_,h=>absurd h (qn7 _)
 |f+1,ks,h,O=>by
  have q:=ip (H:=H) (ks.map (·.1)) ks;have c:z72 (tS P bg ks (ς (.f (cdD bg (goG H ks)))))=ς (!decide ((goG H ks).length=ks.length)):=cM (x:=cdD bg (goG H ks)) (y:=cdD bg ks) rfl rfl (yN q);unfold iK;by_cases z:(goG H ks).length=ks.length
  .have L:goG H ks=ks:=q.eq_of_length z;refine⟨ς (.f (cdD bg ks)),?_⟩;rw[if_pos z,yb (c.trans (by rw[decide_eq_true z];rfl)),L];rfl
  .rw[decide_eq_false z]at c;have lt:(goG H ks).length<ks.length:=qy9 q.length_le z;have h2:=h.sub q;obtain⟨x,e⟩:=ua f (goG H ks) h2 Θ;refine⟨x,?_⟩
   rw[if_neg z,ya c (δ2:=(tS P bg (goG H ks) (ς (.f (cdD bg (goG H (goG H ks))))))) (by unfold z73;rw[ax (δ':=(tS P bg (goG H ks) (ς (.f (cdD bg (goG H ks)))))) rfl];exact(aP (t:=.f (cdD bg (goG H (goG H ks)))) (b7 (aj (t:=.f _) ((br (x:=P) (y:=cdD bg (goG H ks)) rfl rfl).trans (t7 h2))))).trans rfl)]
   exact e
def A4{ks:η (Nat×η Str)}(h:HolP P bg ks H):q61 [P,cdD bg ks]=ς (.f (cdD bg (if H ks then iK H (ks.length+1) ks else ks))):=by
 have q:dH (cF (toD (ag q25 (aa (vL 0) (aa (vL 1) af))))) (tS P bg ks ψ)=ς (!H ks):=by unfold dH;rw[rT (x:=P) (y:=cdD bg ks) rfl rfl (h.2 _ (qu0 _))];rfl
 unfold q61;refine dRt ?_;show ai _ _ (tS P bg ks ψ)=_;cases z:H ks with
 |false=>exact BV (q.trans (by rw[z];rfl)) rfl
 |true=>obtain⟨x,e⟩:=ua 100000 ks h (by have:=h.1;lia);rw[eM (q.trans (by rw[z];rfl)),ax (δ':=(tS P bg ks (ς (.f (cdD bg (goG H ks)))))) ((aP (t:=.f (cdD bg (goG H ks))) (b7 (aj (t:=.f _) ((br (x:=P) (y:=cdD bg ks) rfl rfl).trans (t7 h))))).trans rfl),ax e,t8 100000 (ks.length+1) ks (by have:=h.1;lia) Θ];rfl
end
section
variable{H:η (Nat×η Str)->Bool}
theorem yO:∀(js:η Nat)(l:η (Nat×η Str)),H l=θ->H (goT H js l)=θ
 |[],l,h=>h
 |j::js,l,h=>by
  unfold goT;split
  .rename_i z;exact yO js _ z
  .exact yO js l h
theorem oQ:∀(js:η Nat)(l:η (Nat×η Str)),(goT H js l).length=l.length->∀j∈js,(les j l).length<l.length->H (les j l)=ξ
 |[],l,_,j,q,_=>by cases q
 |i::js,l,h,j,q,L=>by
  unfold goT at h;by_cases z:H (les i l)=θ
  .rw[if_pos z]at h;have h1:=(ip (H:=H) js (les i l)).length_le;have h2:=oP i l;have e:les i l=l:=(io i l).eq_of_length Θ;rw[e]at h;rcases qa8.mp q with rfl|q
   .rw[e]at L;lia
   .exact oQ js l h j q L
  .rw[if_neg z]at h;rcases qa8.mp q with rfl|q
   .exact Bool.not_eq_true _ |>.mp z
   .exact oQ js l h j q L
theorem qk:∀(n:Nat)(ks:η (Nat×η Str)),ks.length<n->H ks=θ->(iK H n ks).Sublist ks/\H (iK H n ks)=θ/\(goG H (iK H n ks)).length=(iK H n ks).length
 |0,ks,h,_=>absurd h (qn7 _)
 |n+1,ks,L,h=>by
  by_cases z:(goG H ks).length=ks.length
  .rw[show iK H (n+1) ks=ks from if_pos z];exact⟨qu0 _,h,z⟩
  .rw[show iK H (n+1) ks=iK H n (goG H ks)from if_neg z];have q:=ip (H:=H) (ks.map (·.1)) ks;have:=qy9 q.length_le z;obtain⟨a,b,c⟩:=qk n (goG H ks) (qc2 this Θ) (yO _ _ h);exact⟨a.trans q,b,c⟩
end
section
variable{cs ss:η Hd}{J0:η Rw}{B:η Str}{J3:η (η Str)}{ks:η (Nat×η Str)}
def Inp.sub{l:η (Nat×η Str)}(I:Inp cs ss J0 B J3 ks)(h:l.Sublist ks):Inp cs ss J0 B J3 l:=⟨I.hB,I.hO,I.l0,I.l1,I.hb,I.hh,I.F,I.en,fun k hk=>I.hk k (h.subset hk),qb9 h.length_le I.hkl⟩
def vv(I:Inp cs ss J0 B J3 (dh (plain cs ss) J0 J3)):z24 [pgD cs ss J0,cdD (J3.getD 0 []) (dh (plain cs ss) J0 J3)]=ς (.f .non):=by
 have U:∀i,i∈(dh (plain cs ss) J0 J3).map (·.1)↔i∈plc (plain cs ss) J0:=fun i=>by
  unfold dh;rw[qc6]
  exact⟨fun h=>by obtain⟨j,L,rfl⟩:=qb8.mp h;exact L,fun h=>qb8.mpr ⟨i,h,rfl⟩⟩
 have O:∀(i:Nat)(r:Rw),J0[i]?=ς r->kdB (plain cs ss) r=θ->i∈(dh (plain cs ss) J0 J3).map (·.1):=fun i r e h=>(U i).mpr (plc_mem.mpr (.inl (kds_mem.mpr ⟨qi7 _,r,by simpa using e,h⟩)))
 obtain⟨d,e,f⟩:=qf I;cases f with
 |fin n h=>obtain⟨a,_,r,b,c⟩:=oM h;exact absurd (O n r (by simpa using b) (by cases r<;>first|rfl|cases c)) a
 |ring R h r l=>
  exact(AX r fun i j L hl=>by
   refine(U j).mpr (plc_mem.mpr (.inr ?_));unfold gm at L;split at L
   .rename_i q Z;exact bks_mem.mpr ⟨i,q,Z,by rw[zf5];exact L,Θ⟩
   .cases L).elim
 |spoil nm ws h s=>
  exact(yC s fun nm W i r Y hp=>O i r Y (by
   cases r with
   |store c a=>exact decide_eq_true (by rw[of_decide_eq_true hp];exact W)
   |lay f a b=>exact decide_eq_true (by rw[of_decide_eq_true hp];exact W)
   |_=>cases hp)).elim
 |non h=>exact e
def Hw(cs ss:η Hd)(J0:η Rw)(J3:η (η Str))(K:η (Nat×η Str)):Prop:=∀j∈K.map (·.1),∃d,z24 [pgD cs ss J0,cdD (J3.getD 0 []) (les j K)]=ς (.f d)/\Flt cs ss J0 ((les j K).map (·.1)) d/\gx d=ξ
theorem ub(p:Prg B J0)(hh:cs.length+ss.length<=100):∃(J3:η (η Str))(K:η (Nat×η Str)),Inp cs ss J0 B J3 K/\y17 [pgD cs ss J0]=ς (.f (cdD (J3.getD 0 []) (dh (plain cs ss) J0 J3)))/\gj [pgD cs ss J0]=ς (.f (cdD (J3.getD 0 []) K))/\K.Sublist (dh (plain cs ss) J0 J3)/\q25 [pgD cs ss J0,cdD (J3.getD 0 []) K]=ς (.f (.bl θ))/\fE (K.map (·.1)) 0 J0=ψ/\Hw cs ss J0 J3 K:=by
 have hn:=p.n;obtain⟨J3,en,F,_⟩:=rH (c:=.t (cs.map hdD)) (s:=.t (ss.map hdD)) p.rd p.out p.b Θ;have ea:y17 [pgD cs ss J0]=ς (.f (cdD (J3.getD 0 []) (dh (plain cs ss) J0 J3))):=mj (cs:=cs) (ss:=ss) p.rd p.out p.b hn p.pos Θ en F;have pl:=kJ (N:=plain cs ss) p.out
 have I:Inp cs ss J0 B J3 (dh (plain cs ss) J0 J3):=⟨p.rd,p.out,p.pos,hn,p.b,hh,F,en,fun k hk=>by obtain⟨j,Y,rfl⟩:=qb8.mp hk;exact⟨oH p.out Y,rfl⟩,by unfold dh;rw[qa1];lia⟩
 have O:∀l:η (Nat×η Str),l.Sublist (dh (plain cs ss) J0 J3)->∃d,z24 [pgD cs ss J0,cdD (J3.getD 0 []) l]=ς (.f d)/\Flt cs ss J0 (l.map (·.1)) d:=fun l W=>qf (I.sub W)
 obtain⟨H,Z⟩:∃H:η (Nat×η Str)->Bool,∀l,l.Sublist (dh (plain cs ss) J0 J3)->∀d,z24 [pgD cs ss J0,cdD (J3.getD 0 []) l]=ς (.f d)->H l=gx d:=⟨fun l=>match z24 [pgD cs ss J0,cdD (J3.getD 0 []) l]with|some (.f d)=>gx d|_=>ξ,fun l W d e=>by dsimp only;rw[e]⟩
 have U:HolP (pgD cs ss J0) (J3.getD 0 []) (dh (plain cs ss) J0 J3) H:=⟨I.hkl,fun l W=>by obtain⟨d,e,_⟩:=O l W;rw[Z l W d e];exact yB e⟩
 have h0:H (dh (plain cs ss) J0 J3)=θ:=Z _ (qu0 _) _ (vv I);have et:=A4 U;rw[h0,if_pos rfl]at et;obtain⟨L,hK,fx⟩:=qk (H:=H) ((dh (plain cs ss) J0 J3).length+1) _ (ql7 _) h0;generalize iK H ((dh (plain cs ss) J0 J3).length+1) (dh (plain cs ss) J0 J3)=K at et L hK fx;have eh:=U.2 K L;rw[hK]at eh;refine⟨J3,K,I.sub L,ea,?_,L,eh,?_,fun j Y=>?_⟩
 .unfold gj;exact dRt (dj ((br (x:=pgD cs ss J0) (y:=cdD (J3.getD 0 []) (dh (plain cs ss) J0 J3)) rfl (aj (t:=.f _) ((bq (x:=pgD cs ss J0) rfl).trans ea))).trans et))
 .obtain⟨d,e,f⟩:=O K L;have:=Z K L d e;rw[hK]at this;cases f with
  |fin n h=>cases this
  |ring R h r l=>exact h
  |spoil nm ws h s=>exact h
  |non h=>exact h
 .have sl:=(io j K).trans L;obtain⟨d,e,f⟩:=O _ sl;refine⟨d,e,f,?_⟩;rw[<- Z _ sl d e];obtain⟨k,hk,rfl⟩:=qb8.mp Y;exact oQ (H:=H) (K.map fun q:Nat×η Str=>q.1) K fx k.1 Y (List.length_filter_lt_length_iff_exists.mpr ⟨k,hk,Ξ⟩)
end
def ql{neg:Bool}(l:η Str):gEq neg (.t (l.map .str)) (.t (l.map .str))=ς (.f (.bl (if neg then ξ else θ))):=by
 have h1:=ia l4 l;refine(lH (neg:=neg) (b:=true) ((Br (l:=l.map .str) ?_).trans (by rw[peqs_self]))).trans ?_
 .rw[fV oO,qi9];exact decide_eq_true Θ
 .cases neg<;>rfl
def andF{f g:De->ζ Bool}{a:Bool}(h1:f δ=ς a)(h2:a=θ->g δ=ς ξ):cY f g δ=ς ξ:=by
 unfold cY;rw[h1,qa3];cases a with
 |true=>exact h2 rfl
 |false=>rfl
def lwT:De->ζ Out:=(ai (ap 5 (toT (toD (ag gj (aa (vL 1) af)))))
  (ai (ap 6 (toT (toD (ag z18 (aa (vL 1) af)))))
  (ai (ap 7 (toT (toD (aQ [ψ,ψ] (fIt (toD (d2 ah (toD (ag y17 (aa (vL 1) af))) (kD (.int 1))))) (eG 2 (aW (am 0) (aW (am 1) eF))) bh (vL 0)))))
  (ai (sIf (fOr (dH (cF (toD (g5 "tuple" (vB 5))))) (fOr (tB2 (gEq θ) (toD (ag bz (aa (vB 5) af))) (kD (.int 2))) (fOr (tB2 (gEq θ) (toD (d2 ah (vB 5) (kD (.int 0)))) (toD (ag bO (aa (toD (d2 ah (vB 6) (kD (.int 0)))) af)))) (dH (cF (toD (ag q25 (aa (vL 1) (aa (vL 5) af))))))))) dl bo)
  (ai (cV (fIt (toD (d2 ah (vB 5) (kD (.int 1))))) (eG 2 (aW (am 8) (aW (am 4) eF))) z76)
  (ai (ap 10 (toT (toD (av (aa (toD (d2 ah (vB 1) (kD (.int 0)))) (aa (toD (d2 ah (vB 1) (kD (.int 1)))) (aa (toD (av (aa (toD (av (aa (kD (.str "end")) (aa (kD (.int 0)) af)))) af))) af)))))))
  (aV (d2 (gEq ξ) (toD (ag gj (aa (vL 10) af))) (toD (av (aa (toD (av af)) (aa (toD (av (aa (toD (av (aa (kD (.int 0)) (aa (toD (av af)) af)))) af))) af))))))))))))
def lwS(Y:ζ T)(cs ss:η Hd)(J0:η Rw)(L U x4 W x6 Z O x9 q:ζ T):De:=[Y,ς (.f (pgD cs ss J0)),L,U,x4,W,x6,Z,O,x9,q]
def lwU(O:ζ T)(cs ss:η Hd)(J0:η Rw)(q L x4:ζ T)(J3:η (η Str))(K:η (Nat×η Str)):ζ T->ζ T->ζ T->De:=lwS O cs ss J0 q L x4 (ς (.f (cdD (J3.getD 0 []) K))) (ς (.f (dF J3))) (ς (.f (.e ((plc (plain cs ss) J0).map dI))))
section
variable{cs ss:η Hd}{J0:η Rw}{B:η Str}{J3:η (η Str)}{K:η (Nat×η Str)}
def yP (W U Y x4 x8 x9 L:ζ T) (I:Inp cs ss J0 B J3 K) (sb:K.Sublist (dh (plain cs ss) J0 J3)) (hE:fE (K.map (·.1)) 0 J0=ψ) (hw:Hw cs ss J0 J3 K) {k:Nat×η Str} (hk:k∈K) :
  ∃y9,z76 (lwU W cs ss J0 U Y (ς (.f (.t (k.2.map .str)))) J3 K (ς (.f (dI k.1))) x9 L)=ς (.nx (lwU W cs ss J0 U Y (ς (.f (.t (k.2.map .str)))) J3 K (ς (.f (dI k.1))) y9 L)):=by
 have h1:=I.l1;have h3:=I.hkl;obtain⟨kl,kb⟩:=I.hk k hk
 have kp:k.1∈plc (plain cs ss) J0:=by obtain⟨j,hj,e⟩:=qb8.mp (sb.subset hk);rw[<- e];exact hj
 have hf:J3[k.1]?=ς (J3.getD k.1 []):=jq I.F kl
 have fAt:ah (dF J3) (dI k.1)=ς (.f (dS (J3.getD k.1 []))):=by unfold dF dI;rw[eJ,be,qb1,hf];rfl
 refine⟨ς (.f (cdD (J3.getD 0 []) (les k.1 K))),?_⟩;unfold z76;rw[eM (ml (a:=false) (b:=false) (cM (x:=dI k.1) (y:=.e ((plc (plain cs ss) J0).map dI)) rfl rfl (gIn_ints.trans (by rw[decide_eq_true kp];rfl))) (cM (x:=.t (k.2.map .str)) (y:=.t (k.2.map .str)) rfl (aj (t:=.f (.t (k.2.map .str))) ((bq (x:=dS (J3.getD k.1 [])) (aj (t:=.f _) ((aA (x:=dF J3) (y:=dI k.1) rfl rfl).trans fAt))).trans (by rw[kb];rfl))) (ql (neg:=true) k.2)))];rw[ax (δ':=lwU W cs ss J0 U Y (ς (.f (.t (k.2.map .str)))) J3 K (ς (.f (dI k.1))) (ς (.f (cdD (J3.getD 0 []) (les k.1 K)))) L) ((aP (t:=.f (cdD (J3.getD 0 []) (les k.1 K))) (b7 (aj (t:=.f _) ((br (x:=cdD (J3.getD 0 []) K) (y:=dI k.1) rfl rfl).trans (l5 k.1 _ K Θ))))).trans rfl)];obtain⟨r,er⟩:∃r,J0[k.1]?=ς r:=⟨J0[k.1],gQ kl⟩
 obtain⟨O,k1,k2⟩:∃O:Str,ah r.d (.int 0)=ς (.f (.str O))/\decide (O="end")=Rw.isFin r:=by cases r<;>exact⟨_,rfl,by kernel_rfl⟩
 have t1:tB2 (gEq θ) (toD (d2 ah (toD (d2 ah (toD (d2 ah (vB 1) (kD (.int 2)))) (vB 8))) (kD (.int 0)))) (kD (.str "end")) (lwU W cs ss J0 U Y (ς (.f (.t (k.2.map .str)))) J3 K (ς (.f (dI k.1))) (ς (.f (cdD (J3.getD 0 []) (les k.1 K)))) L)=ς (!Rw.isFin r):=cM (x:=.str O) (y:=.str "end") (aj (t:=.f (.str O)) ((aA (x:=r.d) (y:=.int 0) (aj (t:=.f r.d) ((aA (x:=dR J0) (y:=dI k.1) (aj (t:=.f (dR J0)) ((aA (x:=pgD cs ss J0) (y:=.int 2) rfl rfl).trans rfl)) rfl).trans (im er))) rfl).trans k1)) rfl ((lH (neg:=true) (b:=decide (O="end")) rfl).trans (by rw[k2];rfl));rw[mi (andF t1 fun hq=>?_)]
 .rfl
 .have hnf:Rw.isFin r=ξ:=by simpa using hq
  obtain⟨d,ef,fl,hd⟩:=hw k.1 (qb8.mpr ⟨k,hk,rfl⟩)
  have hk2:∀i∈(les k.1 K).map (·.1),i<J0.length:=fun i hi=>by obtain⟨q,Z,rfl⟩:=qb8.mp hi;exact(I.hk q ((io k.1 K).subset Z)).1
  have ll:=oP k.1 K
  have ew:y20 [pgD cs ss J0,cdD (J3.getD 0 []) (les k.1 K),d]=ς (.f (.bl θ)):=by
   cases fl with
   |fin n h=>
    exfalso;obtain⟨a,_,q,b,c⟩:=oM h;have b:J0[n]?=ς q:=by simpa using b
    have:=oK hE n q b c;rw[zf5]at this;obtain⟨m,hm,e⟩:=qb8.mp this;refine a (qb8.mpr ⟨m,qg4.mpr ⟨hm,?_⟩,e⟩);simp only[qi1,decide_eq_false_iff_not];intro z;have z2:n=k.1:=by lia
    rw[z2,er]at b;cases b;rw[hnf]at c;cases c
   |ring R h r l=>exact qi h1 Θ r l
   |spoil nm ws h s=>exact oN h1 I.l0 I.hh Θ hk2 I.hO s
   |non h=>cases hd
  unfold dH cF;rw[aj (t:=.f (.bl θ)) ((ej (x:=pgD cs ss J0) (y:=cdD (J3.getD 0 []) (les k.1 K)) (z:=d) rfl rfl (aj (t:=.f d) ((br (x:=pgD cs ss J0) (y:=cdD (J3.getD 0 []) (les k.1 K)) rfl rfl).trans ef))).trans ew)];rfl
theorem yQ(x0 W Y O:ζ T)(I:Inp cs ss J0 B J3 K)(sb:K.Sublist (dh (plain cs ss) J0 J3))(hE:fE (K.map (·.1)) 0 J0=ψ)(hw:Hw cs ss J0 J3 K):∀(L:η (Nat×η Str))(x4 Z U:ζ T),(∀k∈L,k∈K)->∃y4 y8 y9,cA (eG 2 (aW (am 8) (aW (am 4) eF))) z76 (L.map kpD) (lwU x0 cs ss J0 W Y x4 J3 K Z U O)=ς (.nx (lwU x0 cs ss J0 W Y y4 J3 K y8 y9 O))
 |[],x4,Z,U,_=>⟨x4,Z,U,rfl⟩
 |k::L,x4,Z,U,h=>by
  obtain⟨y9,e1⟩:=yP x0 W Y x4 Z U O I sb hE hw (h k (.head _));obtain⟨z4,z8,z9,e⟩:=yQ x0 W Y O I sb hE hw L (ς (.f (.t (k.2.map .str)))) (ς (.f (dI k.1))) y9 fun q hq=>h q (.tail _ hq)
  refine⟨z4,z8,z9,?_⟩;rw[qa6,aS (δ1:=lwU x0 cs ss J0 W Y (ς (.f (.t (k.2.map .str)))) J3 K (ς (.f (dI k.1))) U O) rfl e1];exact e
def yR(cs ss:η Hd)(hh:cs.length+ss.length<=100):gj [pgD cs ss [.fin (.vl 0)]]=ς (.f (cdD [] [(0,[])])):=by
 have p:Prg [] [Rw.fin (.vl 0)]:=⟨Ξ,Ξ,fun i r b h L=>by
  cases i with
  |zero=>cases h;cases L
  |succ i=>simp at h,fun i r j h O=>by
  cases i with
  |zero=>cases h;cases O
  |succ i=>simp at h,Ξ⟩
 obtain⟨J3,K,I,ea,Z,U,eh,hE,hw⟩:=ub (cs:=cs) (ss:=ss) p hh
 have f0:J3.getD 0 []=[]:=List.eq_nil_iff_forall_not_mem.mpr fun b L=>by cases I.F.sub 0 _ b (jq I.F Ξ) L
 have k0:=oK hE 0 (.fin (.vl 0)) rfl rfl
 have Y:∀k∈dh (plain cs ss) [Rw.fin (.vl 0)] J3,k=(0,[]):=fun k hk=>by
  obtain⟨j,O,rfl⟩:=qb8.mp hk;have:j<1:=oH p.out O;obtain rfl:j=0:=by lia
  rw[f0]
 have W:(dh (plain cs ss) [Rw.fin (.vl 0)] J3).length<=1:=by have:=kJ (N:=plain cs ss) p.out;unfold dh;rw[qa1];exact this
 have:K=[(0,[])]:=by
  have hl:=qb9 U.length_le W;cases K with
  |nil=>cases k0
  |cons k K=>
   cases K with
   |nil=>rw[Y k (U.subset (.head _))]
   |cons q K=>simp at hl
 rw[Z,f0,this]
def yS(O q L x4:ζ T)(p:Prg B J0)(U:cs.length+ss.length<=100):lwT (lwS O cs ss J0 q L x4 ψ ψ ψ ψ ψ ψ)=ς (.rt (.f (.bl θ))):=by
 obtain⟨J3,K,I,W,em,Z,eh,Y,hw⟩:=ub (cs:=cs) (ss:=ss) p U;have h3:=I.hkl;have pl:=kJ (N:=plain cs ss) p.out;have hn:=p.n;unfold lwT;refine cN (d:=cdD (J3.getD 0 []) K) (aj (t:=.f _) ((bq (x:=pgD cs ss J0) rfl).trans em)) ?_;refine cN (d:=dF J3) (aj (t:=.e (J3.map dS)) ((bq (x:=pgD cs ss J0) rfl).trans I.en)) ?_
 refine cN (d:=.e ((plc (plain cs ss) J0).map dI)) (aj (cI (src:=[ψ,ψ]) (ds:=(dh (plain cs ss) J0 J3).map kpD) (gp (aj (t:=.f (.t ((dh (plain cs ss) J0 J3).map kpD))) ((aA (x:=cdD (J3.getD 0 []) (dh (plain cs ss) J0 J3)) (y:=.int 1) (aj (t:=.f _) ((bq (x:=pgD cs ss J0) rfl).trans W)) rfl).trans rfl)) rfl) (ys:=(plc (plain cs ss) J0).map dI) (by unfold dh;rw[qc6];exact bw fun k _=>⟨_,rfl,rfl,rfl⟩) (by rw[qa1];lia))) ?_
 show ai _ _ (lwU O cs ss J0 q L x4 J3 K ψ ψ ψ)=_
 have f0:ah (dF J3) (.int 0)=ς (.f (dS (J3.getD 0 []))):=by unfold dF;rw[show(0:Int)=((0:Nat):Int)from rfl,eJ,be,qb1,jq I.F p.pos];rfl
 rw[eM (ml (a:=false) (b:=false) rfl (ml (a:=false) (b:=false) rfl (ml (a:=false) (b:=false) (cM (x:=.t ((J3.getD 0 []).map .str)) (y:=.t ((J3.getD 0 []).map .str)) rfl (aj (t:=.f (.t ((J3.getD 0 []).map .str))) ((bq (x:=dS (J3.getD 0 [])) (aj (t:=.f _) ((aA (x:=dF J3) (y:=.int 0) rfl rfl).trans f0))).trans rfl)) (ql (neg:=true) _)) (by unfold dH;rw[rT (x:=pgD cs ss J0) (y:=cdD (J3.getD 0 []) K) rfl rfl eh];rfl))))]
 obtain⟨y4,y8,y9,e⟩:=yQ O q L ψ I Z Y hw K x4 ψ ψ fun k hk=>hk
 rw[bL,g9,show fIt (toD (d2 ah (vB 5) (kD (.int 1)))) (lwU O cs ss J0 q L x4 J3 K ψ ψ ψ)=ς (K.map kpD)from gp (aj (t:=.f (.t (K.map kpD))) ((aA (x:=cdD (J3.getD 0 []) K) (y:=.int 1) rfl rfl).trans rfl)) rfl,qa3,e,bF];refine cN (d:=pgD cs ss [.fin (.vl 0)]) (aZ (ab (aj (t:=.f (.t (cs.map hdD))) ((aA (x:=pgD cs ss J0) (y:=.int 0) rfl rfl).trans rfl)) (ab (aj (t:=.f (.t (ss.map hdD))) ((aA (x:=pgD cs ss J0) (y:=.int 1) rfl rfl).trans rfl)) (ab (aZ (ab (aZ (ab rfl (ab rfl rfl)) Ξ) rfl) Ξ) rfl))) Ξ) ?_;exact dj ((aA (x:=cdD [] [(0,[])]) (y:=cdD [] [(0,[])]) (aj (t:=.f _) ((bq (x:=pgD cs ss [.fin (.vl 0)]) rfl).trans (yR cs ss U))) (aZ (ab (aZ (ds:=[]) rfl Ξ) (ab (aZ (ab (aZ (ab rfl (ab (aZ (ds:=[]) rfl Ξ) rfl)) Ξ) rfl) Ξ) rfl)) Ξ)).trans ((t5 (neg:=false) [] [(0,[])] [(0,[])]).trans (by rw[peqs_self];rfl)))
end
def two{l:η Str}(h:l.length=2):∃a b,l=[a,b]:=by
 match l,h with
 |[a,b],_=>exact⟨a,b,rfl⟩
def main(ns:η Int)(h:ns.length<=63):tz [.e (ns.map .int)]=ς (.f (.bl θ)):=by
 obtain⟨cs,ss,J0,B,e1,hc0,hc,hs,p⟩:=rO ns;obtain⟨cs',ss',rows',B',e1',hc0',hc',hs',p'⟩:=jQ ns;have c0:y1 [.e (ns.map .int),.int 0]=ς (.f (.int (ns.getD 0 0))):=eV ns 0;have c1:y1 [.e (ns.map .int),.int 1]=ς (.f (.int (ns.getD 1 0))):=eV ns 1;have c2:y1 [.e (ns.map .int),.int 2]=ς (.f (.int (ns.getD 2 0))):=eV ns 2;have c3:y1 [.e (ns.map .int),.int 3]=ς (.f (.int (ns.getD 3 0))):=eV ns 3;generalize ns.getD 0 0=n0 at c0;generalize ns.getD 1 0=n1 at c1;generalize ns.getD 2 0=n2 at c2;generalize ns.getD 3 0=n3 at c3;obtain⟨L,hL,eL⟩:=fU n2 2 Ω;obtain⟨a,b,rfl⟩:=two hL;obtain⟨N,hN,eN⟩:=fU n1 13 Ω;have cell:∀(δ:De)(k n:Int),vL 0 δ=ς (.e (ns.map .int))->y1 [.e (ns.map .int),.int k]=ς (.f (.int n))->toD (ag y1 (aa (vL 0) (aa (kD (.int k)) af))) δ=ς (.int n):=fun δ k n h0 h=>aj (t:=.f (.int n)) ((br h0 (y:=.int k) rfl).trans h)
 obtain⟨n,hn⟩:∃n,n3*48271%1000000007=n:=⟨_,rfl⟩
 have rest:∀(cs ss:η Hd)(J0:η Rw)(B:η Str),0<cs.length->cs.length<=8->ss.length<=4->Prg B J0->(ai (ap 2 (toT (toD (d2 cg (toD (d2 fw (toD (ag y1 (aa (vL 0) (aa (kD (.int 3)) af)))) (kD (.int 48271)))) (kD (.int 1000000007))))))
  (ai (ap 3 (toT (toD (ag y12 (aa (toD (ag y1 (aa (vL 0) (aa (kD (.int 1)) af)))) (aa (kD (.int 13)) af))))))
  (ai (ap 4 (toT (toD (ag y12 (aa (toD (ag y1 (aa (vL 0) (aa (kD (.int 2)) af)))) (aa (kD (.int 2)) af))))))
  (ai (sIf (tB2 (gEq ξ) (toD (d2 cg (vB 2) (kD (.int 3)))) (kD (.int 1))) (ap 1 (toT (toD (ag y16 (aa (toD (d2 gz (vB 2) (kD (.int 3)))) (aa (vL 1) (aa (vL 4) (aa (toD (d2 ah (vB 3) (kD (.int 12)))) af)))))))) bo)
  lwT)))) (lwS (ς (.f (.e (ns.map .int)))) cs ss J0 ψ ψ ψ ψ ψ ψ ψ ψ ψ)=ς (.rt (.f (.bl θ))):=fun cs ss J0 B hc0 hc hs p=>by
  refine cN (d:=.int n) (aj (t:=.f _) ((aA (x:=.int (n3*48271)) (y:=.int 1000000007) (aj (t:=.f (.int (n3*48271))) ((aA (x:=.int n3) (y:=.int 48271) (cell _ 3 n3 rfl c3) rfl).trans (by walk_at "d"))) rfl).trans ((fu Ω).trans (by rw[hn])))) ?_;refine cN (d:=.e (N.map .str)) (aj (t:=.e (N.map .str)) ((br (x:=.int n1) (y:=.int 13) (cell _ 1 n1 rfl c1) rfl).trans eN)) ?_;refine cN (d:=.e [.str a,.str b]) (aj (t:=.e ([a,b].map .str)) ((br (x:=.int n2) (y:=.int 2) (cell _ 2 n2 rfl c2) rfl).trans eL)) ?_;show ai _ _ (lwS (ς (.f (.e (ns.map .int)))) cs ss J0 (ς (.f (.int n))) (ς (.f (.e (N.map .str)))) (ς (.f (.e [.str a,.str b]))) ψ ψ ψ ψ ψ ψ)=_
  have t1:tB2 (gEq ξ) (toD (d2 cg (vB 2) (kD (.int 3)))) (kD (.int 1)) (lwS (ς (.f (.e (ns.map .int)))) cs ss J0 (ς (.f (.int n))) (ς (.f (.e (N.map .str)))) (ς (.f (.e [.str a,.str b]))) ψ ψ ψ ψ ψ ψ)=ς (decide (n%3=1)):=by unfold lwS;walk_at "d"
  by_cases z:n%3=1
  .rw[decide_eq_true z]at t1;cases cs with
   |nil=>exact absurd hc0 Ξ
   |cons h0 cs=>obtain⟨cs2,rows2,er,p2,l2⟩:=lX (n/3) h0 cs ss J0 a b (N.getD 12 "") (by simp at hc;lia);rw[bL,jO t1,show ap 1 (toT (toD (ag y16 (aa (toD (d2 gz (vB 2) (kD (.int 3)))) (aa (vL 1) (aa (vL 4) (aa (toD (d2 ah (vB 3) (kD (.int 12)))) af))))))) (lwS (ς (.f (.e (ns.map .int)))) (h0::cs) ss J0 (ς (.f (.int n))) (ς (.f (.e (N.map .str)))) (ς (.f (.e [.str a,.str b]))) ψ ψ ψ ψ ψ ψ)=ς (.nx (lwS (ς (.f (.e (ns.map .int)))) cs2 ss rows2 (ς (.f (.int n))) (ς (.f (.e (N.map .str)))) (ς (.f (.e [.str a,.str b]))) ψ ψ ψ ψ ψ ψ))from(aP (t:=.f (pgD cs2 ss rows2)) (b7 (aj (t:=.f (pgD cs2 ss rows2)) ((qh (ab (d:=.int (n/3)) (aj (t:=.f _) ((aA (x:=.int n) (y:=.int 3) rfl rfl).trans (il Ω Ω))) (ab (d:=pgD (h0::cs) ss J0) rfl (ab (d:=.e [.str a,.str b]) rfl (ab (d:=.str (N.getD 12 "")) (aj (t:=.f _) ((aA (x:=.e (N.map .str)) (y:=.int ((12:Nat):Int)) rfl rfl).trans (hZ Θ))) (show af _=ς []from rfl)))))).trans er)))).trans rfl,bF];exact yS _ _ _ _ p2 Θ
  .rw[decide_eq_false z]at t1;rw[eM t1];exact yS _ _ _ _ p Θ
 unfold tz;refine dRt ?_;show ai _ _ [ς (.f (.e (ns.map .int))),ψ,ψ,ψ,ψ,ψ,ψ,ψ,ψ,ψ,ψ]=_;refine cN (d:=pgD cs ss J0) (aj (t:=.f _) ((ej (x:=.e (ns.map .int)) (y:=.int 9) (z:=.bl ξ) rfl rfl rfl).trans e1)) ?_;show ai (sIf _ _ _) _ (lwS (ς (.f (.e (ns.map .int)))) cs ss J0 ψ ψ ψ ψ ψ ψ ψ ψ ψ)=_;have t0:tB2 (gEq ξ) (toD (d2 cg (toD (ag y1 (aa (vL 0) (aa (kD (.int 0)) af)))) (kD (.int 2)))) (kD (.int 1)) (lwS (ς (.f (.e (ns.map .int)))) cs ss J0 ψ ψ ψ ψ ψ ψ ψ ψ ψ)=ς (decide (n0%2=1)):=cM (x:=.int (n0%2)) (y:=.int 1) (aj (t:=.f (.int (n0%2))) ((aA (x:=.int n0) (y:=.int 2) (cell _ 0 n0 rfl c0) rfl).trans (fu Ω))) rfl rfl;by_cases z:n0%2=1
 .rw[decide_eq_true z]at t0;rw[bL,jO t0,show ap 1 (toT (toD (ag z15 (aa (vL 0) (aa (kD (.int 16)) af))))) (lwS (ς (.f (.e (ns.map .int)))) cs ss J0 ψ ψ ψ ψ ψ ψ ψ ψ ψ)=ς (.nx (lwS (ς (.f (.e (ns.map .int)))) cs' ss' rows' ψ ψ ψ ψ ψ ψ ψ ψ ψ))from(aP (t:=.f (pgD cs' ss' rows')) (b7 (aj (t:=.f _) ((br (x:=.e (ns.map .int)) (y:=.int 16) rfl rfl).trans e1')))).trans rfl,bF];exact rest cs' ss' rows' B' hc0' hc' hs' p'
 .rw[decide_eq_false z]at t0;rw[eM t0];exact rest cs ss J0 B hc0 hc hs p
def oR(K:xA9):Sp:=fun vs H Q _=>∃(a:J9)(ns:η Int),vs=[.ref a]/\SqL K H a (ns.map V.int)/\ns.length<=63/\sU H/\∀H',Q (.bl θ) H'
def Eh{K:xA9}{vs:η V}{H:Hp}{Q:VK}{E:XK}(h:oR K vs H Q E):spD K 1 tz vs H Q E:=by
 obtain⟨a,ns,rfl,O,L,U,q⟩:=h;refine⟨H,[.e (ns.map .int)],.f (.bl θ),Same.refl H,rfl,?_,main ns L,fun v H' F' S st o _=>?_⟩
 .simp only[Reps,Rep];exact⟨_,[],rfl,⟨a,_,rfl,O,Reps.map (fun _=>f7) ns⟩,rfl⟩
 .have o:Rep K F' (.bl θ) v:=o;simp only[Rep]at o;subst o;exact q H'
def all_mk {l:xT9} {w:Ja} {K:xA9} {h:Heap} {mg:Str->ζ Vz} {fa:J9} (X:K.In h) (G:h.Ns qc3 mg) (hfa:mg "law"=ς (.ref fa))
  (a0:AtF K "_law_cell_at" z43)
  (a1:AtF K "_law_digits" y47)
  (a2:AtF K "_law_digit_row" y29)
  (a3:AtF K "_law_names" z42)
  (a4:AtF K "_law_digit_program" y15)
  (a5:AtF K "_law_atom" z60)
  (a6:AtF K "_law_row" z64)
  (a7:AtF K "_law_program" z28)
  (a8:AtF K "_law_filled" z40)
  (a9:AtF K "_law_round_about" q19)
  (a10:AtF K "_law_leads" y50)
  (a11:AtF K "_law_is_way" q17)
  (a12:AtF K "_law_spoils" z47)
  (a13:AtF K "_law_walked" q16)
  (a14:AtF K "gives" z98)
  (a15:AtF K "atoms" y74)
  (a16:AtF K "reads" y66)
  (a17:AtF K "needed_ahead" q28)
  (a18:AtF K "ways_of" q70)
  (a19:AtF K "ways" iG)
  (a20:AtF K "needed" z57)
  (a21:AtF K "plain_names" y62)
  (a22:AtF K "rows_by_kind" z36)
  (a23:AtF K "rows_led_back_to" z23)
  (a24:AtF K "all_places" z30)
  (a25:AtF K "kept_rows" y59)
  (a26:AtF K "end_fault" q46)
  (a27:AtF K "lost_fault" z52)
  (a28:AtF K "endless_rows" y21)
  (a29:AtF K "ring_fault" z35)
  (a30:AtF K "inner_ways" q43)
  (a31:AtF K "mark_behind" y25)
  (a32:AtF K "traced" q58)
  (a33:AtF K "route" z67)
  {cc34 Pt34:J9} (a34:AtC K "spoilt" z22 cc34 Pt34) (hd34:xK9 K cc34 Pt34=θ) (to34:qm K "spoilt"=ς (Pt34,oT "spoilt" (bc z22)))
  (a35:AtF K "spoil_fault" q47)
  (a36:AtF K "fault" q89)
  (a37:AtF K "holds" y97)
  (a38:AtF K "without" z61)
  (a39:AtF K "gone_through" y43)
  (a40:AtF K "thinned" z69)
  (a41:AtF K "make" rB)
  (a42:AtF K "law" gF)
  (z_all:xB9 K qc3 "all"=ς ψ)
  (z_any:xB9 K qc3 "any"=ς ψ)
  (z_bool:xB9 K qc3 "bool"=ς ψ)
  (z_enumerate:xB9 K qc3 "enumerate"=ς ψ)
  (z_int:xB9 K qc3 "int"=ς ψ)
  (z_isinstance:xB9 K qc3 "isinstance"=ς ψ)
  (z_len:xB9 K qc3 "len"=ς ψ)
  (z_list:xB9 K qc3 "list"=ς ψ)
  (z_range:xB9 K qc3 "range"=ς ψ)
  (z_reversed:xB9 K qc3 "reversed"=ς ψ)
  (z_set:xB9 K qc3 "set"=ς ψ)
  (z_sorted:xB9 K qc3 "sorted"=ς ψ)
  (z_str:xB9 K qc3 "str"=ς ψ)
  (z_tuple:xB9 K qc3 "tuple"=ς ψ)
  {d_A:J9} {o_A:Obj} {m_A:Nat} {t0_A:Tok} {t1_A:Tok} {t2_A:Tok} {t3_A:Tok} {t4_A:Tok} {t5_A:Tok} {t6_A:Tok} {t7_A:Tok} {q:J9} {U:J9} {Y:J9} {L:J9} {a4_A:J9} {a5_A:J9} {O:J9} {Z:J9} (b_A:xB9 K qc3 "ATOM_PLACES"=ς (ς (.ref d_A))) (l_A:K.lookup d_A=ς o_A) (e_A:o_A.ExactDict) (f_A:o_A.data=.dict #[⟨qk8 w.params "copy",.str "copy" t0_A,.ref q⟩,⟨qk8 w.params "op",.str "op" t1_A,.ref U⟩,⟨qk8 w.params "store",.str "store" t2_A,.ref Y⟩,⟨qk8 w.params "take",.str "take" t3_A,.ref L⟩,⟨qk8 w.params "lay",.str "lay" t4_A,.ref a4_A⟩,⟨qk8 w.params "say",.str "say" t5_A,.ref a5_A⟩,⟨qk8 w.params "if",.str "if" t6_A,.ref O⟩,⟨qk8 w.params "end",.str "end" t7_A,.ref Z⟩] m_A) (z_A:(d_A==qj0)=ξ)
  {o0_A:Obj} {i0_A:Array Vz} {m0_A:Nat} (l0_A:K.lookup q=ς o0_A) (e0_A:o0_A.cls=.type "tuple") (f0_A:o0_A.data=.seq i0_A m0_A) (r0_A:Vals [V.int 2,V.int 3] i0_A.toList)
  {o1_A:Obj} {i1_A:Array Vz} {m1_A:Nat} (l1_A:K.lookup U=ς o1_A) (e1_A:o1_A.cls=.type "tuple") (f1_A:o1_A.data=.seq i1_A m1_A) (r1_A:Vals [V.int 3,V.int 5] i1_A.toList)
  {o2_A:Obj} {i2_A:Array Vz} {m2_A:Nat} (l2_A:K.lookup Y=ς o2_A) (e2_A:o2_A.cls=.type "tuple") (f2_A:o2_A.data=.seq i2_A m2_A) (r2_A:Vals [V.int 2,V.int 3] i2_A.toList)
  {o3_A:Obj} {i3_A:Array Vz} {m3_A:Nat} (l3_A:K.lookup L=ς o3_A) (e3_A:o3_A.cls=.type "tuple") (f3_A:o3_A.data=.seq i3_A m3_A) (r3_A:Vals [V.int 3,V.int 4] i3_A.toList)
  {o4_A:Obj} {i4_A:Array Vz} {m4_A:Nat} (l4_A:K.lookup a4_A=ς o4_A) (e4_A:o4_A.cls=.type "tuple") (f4_A:o4_A.data=.seq i4_A m4_A) (r4_A:Vals [V.int 2,V.int 4] i4_A.toList)
  {o5_A:Obj} {i5_A:Array Vz} {m5_A:Nat} (l5_A:K.lookup a5_A=ς o5_A) (e5_A:o5_A.cls=.type "tuple") (f5_A:o5_A.data=.seq i5_A m5_A) (r5_A:Vals [V.int 1,V.int 2] i5_A.toList)
  {o6_A:Obj} {i6_A:Array Vz} {m6_A:Nat} (l6_A:K.lookup O=ς o6_A) (e6_A:o6_A.cls=.type "tuple") (f6_A:o6_A.data=.seq i6_A m6_A) (r6_A:Vals [V.int 1,V.int 2] i6_A.toList)
  {o7_A:Obj} {i7_A:Array Vz} {m7_A:Nat} (l7_A:K.lookup Z=ς o7_A) (e7_A:o7_A.cls=.type "tuple") (f7_A:o7_A.data=.seq i7_A m7_A) (r7_A:Vals [V.int 1,V.int 2] i7_A.toList)
  {u_D:Vz} (b_D:xB9 K qc3 "FRESH"=ς (ς u_D)) (r_D:RelV (.str "fresh") u_D)
  {u_E:Vz} (b_E:xB9 K qc3 "SAFE"=ς (ς u_E)) (r_E:RelV (.str "safe") u_E)
  {u_F:Vz} (b_F:xB9 K qc3 "SEEN"=ς (ς u_F)) (r_F:RelV (.str "seen") u_F)
  {d_B:J9} {o_B:Obj} {i_B:Array Vz} {m_B:Nat} (b_B:xB9 K qc3 "SETTING"=ς (ς (.ref d_B))) (l_B:K.lookup d_B=ς o_B) (e_B:o_B.cls=.type "tuple") (f_B:o_B.data=.seq i_B m_B) (r_B:Vals [V.str "copy",V.str "op",V.str "load",V.str "take",V.str "hear"] i_B.toList)
  {u_C:Vz} (b_C:xB9 K qc3 "SPOILT"=ς (ς u_C)) (r_C:RelV (.str "spoilt") u_C)
  (zIS:rk K=θ)
  (kd_list:fq K "list")
  (kd_bool:fq K "bool")
  (kd_int:fq K "int")
  (kd_tuple:fq K "tuple")
  (kd_str:fq K "str")
  : ∃fd:qp9,(∀(s:qa5)(v:Vz),za9 s fd ⟨[v],[]⟩ [("_law_script",v)])/\∀base:Heap,K.In base->base.Ns qc3 mg->qS mg base->FnOk l.prog w K mg base CX0 12 fa fd ["_law_script"] (oR K):=by
 obtain⟨f42,oc42,od42,an42,sl42,kV42,dc42,pm42,cd42,ct42,a42,l42,c42,k42⟩:=a42;have e:=hfa.symm.trans (xI9 X G a42);cases e;have T:Txt l.prog w K mg:={n_all:=xE9 X G z_all,n_any:=xE9 X G z_any,n_bool:=xE9 X G z_bool,n_enumerate:=xE9 X G z_enumerate,n_int:=xE9 X G z_int,n_isinstance:=xE9 X G z_isinstance,n_len:=xE9 X G z_len,n_list:=xE9 X G z_list,n_range:=xE9 X G z_range,n_reversed:=xE9 X G z_reversed,n_set:=xE9 X G z_set,n_sorted:=xE9 X G z_sorted,n_str:=xE9 X G z_str,n_tuple:=xE9 X G z_tuple,g_A:=zY [("copy",t0_A,.ref q,.ref q),("op",t1_A,.ref U,.ref U),("store",t2_A,.ref Y,.ref Y),("take",t3_A,.ref L,.ref L),("lay",t4_A,.ref a4_A,.ref a4_A),("say",t5_A,.ref a5_A,.ref a5_A),("if",t6_A,.ref O,.ref O),("end",t7_A,.ref Z,.ref Z)] (xI9 X G b_A) l_A e_A f_A z_A (show(["copy","op","store","take","lay","say","if","end"]:η Str).Nodup by decide +kernel) (by simp[RelV]) (fun F=>zZ (.cons (dy l0_A e0_A f0_A r0_A Ω (by simp[Reps,Rep])) (.cons (dy l1_A e1_A f1_A r1_A Ω (by simp[Reps,Rep])) (.cons (dy l2_A e2_A f2_A r2_A Ω (by simp[Reps,Rep])) (.cons (dy l3_A e3_A f3_A r3_A Ω (by simp[Reps,Rep])) (.cons (dy l4_A e4_A f4_A r4_A Ω (by simp[Reps,Rep])) (.cons (dy l5_A e5_A f5_A r5_A Ω (by simp[Reps,Rep])) (.cons (dy l6_A e6_A f6_A r6_A Ω (by simp[Reps,Rep])) (.cons (dy l7_A e7_A f7_A r7_A Ω (by simp[Reps,Rep])) .nil))))))))),g_D:=i7 ⟨_,xI9 X G b_D,r_D⟩,g_E:=i7 ⟨_,xI9 X G b_E,r_E⟩,g_F:=i7 ⟨_,xI9 X G b_F,r_F⟩,g_B:=wK (xI9 X G b_B) l_B e_B f_B r_B Ω (fun F=>by simp[Reps,Rep]),g_C:=i7 ⟨_,xI9 X G b_C,r_C⟩,is:=zIS,k_list:=kd_list,k_bool:=kd_bool,k_int:=kd_int,k_tuple:=kd_tuple,k_str:=kd_str};refine⟨xC9 "law" "law" (ck gF) (bc gF) (ac gF) .none kV42 dc42 pm42 an42 cd42 ct42,fun s v=>.of_eq rfl,fun base kb _ bm=>?_⟩;have y28:=z93 (base:=base) T (a0.df X G fun _ _ _ _ _ _=>el2 fun _ _=>rfl);have q13:=q102 (base:=base) T (a1.df X G fun _ _ _ _ _ _=>el2 fun _ _=>rfl);have z68:=q90 T (a2.df X G fun _ _ _ _ _ _=>el5 fun _ _ _ _ _=>rfl) q13;have y36:=z103 T (a3.df X G fun _ _ _ _ _ _=>el2 fun _ _=>rfl) q13;have q54:=y73 T (a4.df X G fun _ _ _ _ _ _=>el2 fun _ _=>rfl) y28 z68 q13 y36;have q60:=q107 (base:=base) T (a5.df X G fun _ _ _ _ _ _=>el3 fun _ _ _=>rfl);have q77:=q109 T (a6.df X G fun _ _ _ _ _ _=>el5 fun _ _ _ _ _=>rfl) q60 q13;have q75:=q96 T (a7.df X G fun _ _ _ _ _ _=>el3 fun _ _ _=>rfl) q60 y28 q13 y36 q77;have y78:=q101 (base:=base) T (a8.df X G fun _ _ _ _ _ _=>el3 fun _ _ _=>rfl);have y60:=z83 T (a9.df X G fun _ _ _ _ _ _=>el4 fun _ _ _ _=>rfl) q13 y78;have q53:=q103 (base:=base) T (a10.df X G fun _ _ _ _ _ _=>el2 fun _ _=>rfl);have y80:=y98 T (a11.df X G fun _ _ _ _ _ _=>el3 fun _ _ _=>rfl) q53;have q79:=y100 (base:=base) T (a12.df X G fun _ _ _ _ _ _=>el3 fun _ _ _=>rfl);have q80:=y99 T (a13.df X G fun _ _ _ _ _ _=>el3 fun _ _ _=>rfl) y80 q53 q79;have q110:=q116 (base:=base) T (a14.df X G fun _ _ _ _ _ _=>el1 fun _=>rfl);have y109:=y116 (base:=base) T (a15.df X G fun _ _ _ _ _ _=>el1 fun _=>rfl);have z109:=q115 T (a16.df X G fun _ _ _ _ _ _=>el1 fun _=>rfl) y109
 have z56:=q94 T (a17.df X G fun _ _ _ _ _ _=>el2 fun _ _=>rfl) q110 z109;have y102:=z112 (base:=base) T (a18.df X G fun _ _ _ _ _ _=>el2 fun _ _=>rfl);have h_ways:=z119 T (a19.df X G fun _ _ _ _ _ _=>el1 fun _=>rfl) y102;have y57:=q114 T (a20.df X G fun _ _ _ _ _ _=>el1 fun _=>rfl) z56 h_ways;have q32:=z100 (base:=base) T (a21.df X G fun _ _ _ _ _ _=>el1 fun _=>rfl);have z75:=q95 T (a22.df X G fun _ _ _ _ _ _=>el1 fun _=>rfl) q32;have y61:=q84 T (a23.df X G fun _ _ _ _ _ _=>el1 fun _=>rfl) h_ways;have z53:=z104 T (a24.df X G fun _ _ _ _ _ _=>el1 fun _=>rfl) y57 z75 y61;have q20:=y108 (base:=base) T (a25.df X G fun _ _ _ _ _ _=>el1 fun _=>rfl);have y90:=z108 T (a26.df X G fun _ _ _ _ _ _=>el2 fun _ _=>rfl) q20;have z87:=y103 T (a27.df X G fun _ _ _ _ _ _=>el2 fun _ _=>rfl) y57;have y56:=y92 (base:=base) T (a28.df X G fun _ _ _ _ _ _=>el2 fun _ _=>rfl);have q85:=y104 T (a29.df X G fun _ _ _ _ _ _=>el2 fun _ _=>rfl) y56 q20 h_ways;have z85:=q104 T (a30.df X G fun _ _ _ _ _ _=>el2 fun _ _=>rfl) q20 h_ways;have y79:=z101 (base:=base) T (a31.df X G fun _ _ _ _ _ _=>el3 fun _ _ _=>rfl);have z92:=q113 (base:=base) T (a32.df X G fun _ _ _ _ _ _=>el2 fun _ _=>rfl);have y101:=z117 T (a33.df X G fun _ _ _ _ _ _=>el3 fun _ _ _=>rfl) z92;have z106:=z113 T (a34.df X G fun _ _ _ _ _ _=>el3 fun _ _ _=>rfl) (TabB.mk' kb hd34 bm) (Aj rfl to34) z85 q20 y79 q32 y101;have z80:=q100 T (a35.df X G fun _ _ _ _ _ _=>el2 fun _ _=>rfl) q32 z106;have z88:=z116 T (a36.df X G fun _ _ _ _ _ _=>el2 fun _ _=>rfl) y90 z87 q85 z80;have q67:=y115 T (a37.df X G fun _ _ _ _ _ _=>el2 fun _ _=>rfl) z88;have z71:=z111 (base:=base) T (a38.df X G fun _ _ _ _ _ _=>el2 fun _ _=>rfl);have y76:=y93 T (a39.df X G fun _ _ _ _ _ _=>el2 fun _ _=>rfl) q67 q20 z71;have z102:=q111 T (a40.df X G fun _ _ _ _ _ _=>el2 fun _ _=>rfl) y76 q67;have h_make:=y118 T (a41.df X G fun _ _ _ _ _ _=>el1 fun _=>rfl) z53 z102;exact(Dq T (nJ (st:=gF) l42 c42 k42) y28 q54 y36 q75 y60 q80 z53 z88 q67 h_make y57 z71).imp fun vs H Q E z=>Eh z
abbrev y68:Jb:=top 28
theorem FX{K:xA9}{h:Heap}{ts:η J9}(X:K.In h)(Y:∀P∈ts,h.get? P=ς (xJ9 #[])){O L:J9}(a0:AtC K "spoilt" z22 O L)(Z:xK9 K O L=θ)(n0:K.lookup L=ψ)(m0:L∈ts){U q:J9}(a1:AtC K "way_to_reading" y68 U q)(hd1:xK9 K U q=θ)(n1:K.lookup q=ψ)(m1:q∈ts)(e:dD K=[(q,oT "way_to_reading" (bc y68)),(L,oT "spoilt" (bc z22))])(ne:q≠L):TabsIn K h:=TabsIn.two X e ne n1 n0 hd1 Z (Y _ m1) (Y _ m0)
def walk {l:xT9} {q:qd1} {loose:η Str} {XP:(Str->ζ Vz)->Heap->Prop} {YP:Ja->Heap->Prop} {d:DefRec} {K:Params->xA9} (U:l.most=ς 63) (L:d.params.defaults=[])
  (hY:∀(w:Ja)(h:Heap),YP w h->(K w.params).In h) (hT:∀(w:Ja)(h:Heap),YP w h->TabsIn (K w.params) h)
  (F:∀(w:Ja)(mg:Str->ζ Vz)(fa:J9)(h:Heap),(K w.params).In h->h.Ns qc3 mg->mg d.name=ς (.ref fa)→
   ∃fd:qp9,(∀(s:qa5)(u:Vz),za9 s fd ⟨[u],[]⟩ [("_law_script",u)])/\∀base:Heap,(K w.params).In base->base.Ns qc3 mg->qS mg base->FnOk l.prog w (K w.params) mg base CX0 12 fa fd ["_law_script"] (oR (K w.params))) :
  PySem.W.WalkO q loose XP YP l.row.toRowW d [] (fun f vs=>PySem.call f vs):=
 L2.Fd (n:=63) (k:=12) (x:="_law_script") (CX:=fun _=>CX0) (sp:=fun w=>oR (K w.params)) U Ω L ⟨rfl,Ω,Ω⟩ hY hT F (fun _ _ a ns O Y Z=>⟨a,ns,rfl,Z,O,Y,fun _=>rfl⟩) fun _ _ _ _ _ z=>z
end P52
open PySem PySem.W PyProof.Rows
local macro_rules | `(tactic| walk_at "f") => `(tactic| (refine' L2.AtF.mk ?za ?zl ?zc ?zk; (case za => k_is); (case zl => k_is); (case zc => k_is); (case zk => k_is)))
local macro_rules | `(tactic| walk_at "c") => `(tactic| (refine' L2.AtC.mk ?za ?zl ?zc ?zk ?zx ?zp; (case za => k_is); (case zl => k_is); (case zc => k_is); (case zk => k_is); (case zx => k_is); (case zp => exact rfl)))
set_option maxRecDepth 100000 in
set_option maxHeartbeats 0 in
theorem PySem.Challenge.cw_dimhouse_k52_whole_made_holds : PySem.Challenge.rw_dimhouse_k52_whole_made.Holds := by
 w_on;o_law
 refine holds_open (q:=P52.seen) (loose:=[PySem.Str.ofString "ATOM_PLACES"]) (Xt:=fun s=>xlAt P52.seen [] s&&recOk (zj1 (zg3 PySem.Challenge.rw_dimhouse_k52_whole_made.row)) s) (XP:=XL P52.seen []) (Yf:=Hook.obs P52.hook) (Ya:=Hook.val P52.hook) (YP:=Hook.says P52.hook) (N:=3274) ?hl (Hook.of P52.hook) (Hook.keeps P52.hook) (fun s e=>xl_of s (qq7.mp e).1) XL.keeps (by rfl) (by rfl) (by rfl) (fun s e=>recFacts_of (qq7.mp e).2) (by rfl) (by first | assumption | decide +kernel) (by decide +kernel) ⟨rfl,rfl,rfl,rfl,rfl,by decide +kernel⟩ ?hw ?hc
 case hl=>exact LeftO.of_split "special-get-raises" fun w=>P52.map_two (P52.run_false w) (P52.run_true w)
 case hw=>w_witness2
 delta P52.hook
 k_fill
 refine P52.walk (l:=PySem.Challenge.rw_dimhouse_k52_whole_made) rfl rfl (fun w h Y=>PySem.W.km_in_of Y) ?T ?F
 case T =>
  intro w h Y;refine' P52.FX (PySem.W.km_in_of Y) (PySem.W.km_tabs_of Y) ?a0 ?hd0 ?n0 ?m0 ?a1 ?hd1 ?n1 ?m1 ?e ?ne
  (case a0=>walk_at "c")
  (case hd0=>kernel_rfl)
  (case n0=>kernel_rfl)
  (case m0=>simp)
  (case a1=>walk_at "c")
  (case hd1=>kernel_rfl)
  (case n1=>kernel_rfl)
  (case m1=>simp)
  (case e=>kernel_rfl)
  (case ne=>decide)
 case F =>
  intro w mg fa h U G O;refine' P52.all_mk U G O ?a0 ?a1 ?a2 ?a3 ?a4 ?a5 ?a6 ?a7 ?a8 ?a9 ?a10 ?a11 ?a12 ?a13 ?a14 ?a15 ?a16 ?a17 ?a18 ?a19 ?a20 ?a21 ?a22 ?a23 ?a24 ?a25 ?a26 ?a27 ?a28 ?a29 ?a30 ?a31 ?a32 ?a33 ?a34 ?hd34 ?to34 ?a35 ?a36 ?a37 ?a38 ?a39 ?a40 ?a41 ?a42 ?z_all ?z_any ?z_bool ?z_enumerate ?z_int ?z_isinstance ?z_len ?z_list ?z_range ?z_reversed ?z_set ?z_sorted ?z_str ?z_tuple ?b_A ?l_A ?e_A ?f_A ?z_A ?l0_A ?e0_A ?f0_A ?r0_A ?l1_A ?e1_A ?f1_A ?r1_A ?l2_A ?e2_A ?f2_A ?r2_A ?l3_A ?e3_A ?f3_A ?r3_A ?l4_A ?e4_A ?f4_A ?r4_A ?l5_A ?e5_A ?f5_A ?r5_A ?l6_A ?e6_A ?f6_A ?r6_A ?l7_A ?e7_A ?f7_A ?r7_A ?b_D ?r_D ?b_E ?r_E ?b_F ?r_F ?b_B ?l_B ?e_B ?f_B ?r_B ?b_C ?r_C ?zIS ?kd_list ?kd_bool ?kd_int ?kd_tuple ?kd_str
  (case a0=>walk_at "f")
  (case a1=>walk_at "f")
  (case a2=>walk_at "f")
  (case a3=>walk_at "f")
  (case a4=>walk_at "f")
  (case a5=>walk_at "f")
  (case a6=>walk_at "f")
  (case a7=>walk_at "f")
  (case a8=>walk_at "f")
  (case a9=>walk_at "f")
  (case a10=>walk_at "f")
  (case a11=>walk_at "f")
  (case a12=>walk_at "f")
  (case a13=>walk_at "f")
  (case a14=>walk_at "f")
  (case a15=>walk_at "f")
  (case a16=>walk_at "f")
  (case a17=>walk_at "f")
  (case a18=>walk_at "f")
  (case a19=>walk_at "f")
  (case a20=>walk_at "f")
  (case a21=>walk_at "f")
  (case a22=>walk_at "f")
  (case a23=>walk_at "f")
  (case a24=>walk_at "f")
  (case a25=>walk_at "f")
  (case a26=>walk_at "f")
  (case a27=>walk_at "f")
  (case a28=>walk_at "f")
  (case a29=>walk_at "f")
  (case a30=>walk_at "f")
  (case a31=>walk_at "f")
  (case a32=>walk_at "f")
  (case a33=>walk_at "f")
  (case a34=>walk_at "c")
  (case hd34=>kernel_rfl)
  (case to34=>kernel_rfl)
  (case a35=>walk_at "f")
  (case a36=>walk_at "f")
  (case a37=>walk_at "f")
  (case a38=>walk_at "f")
  (case a39=>walk_at "f")
  (case a40=>walk_at "f")
  (case a41=>walk_at "f")
  (case a42=>walk_at "f")
  (case z_all | z_any | z_bool | z_enumerate | z_int | z_isinstance | z_len | z_list | z_range | z_reversed | z_set | z_sorted | z_str | z_tuple | b_A | l_A=>k_is)
  (case e_A=>exact ⟨rfl,rfl,rfl⟩)
  (case f_A=>rfl)
  (case z_A=>rfl)
  (case l0_A=>k_is)
  (case e0_A=>rfl)
  (case f0_A=>rfl)
  (case r0_A=>exact (.cons ⟨_,rfl⟩ (.cons ⟨_,rfl⟩ .nil)))
  (case l1_A=>k_is)
  (case e1_A=>rfl)
  (case f1_A=>rfl)
  (case r1_A=>exact (.cons ⟨_,rfl⟩ (.cons ⟨_,rfl⟩ .nil)))
  (case l2_A=>k_is)
  (case e2_A=>rfl)
  (case f2_A=>rfl)
  (case r2_A=>exact (.cons ⟨_,rfl⟩ (.cons ⟨_,rfl⟩ .nil)))
  (case l3_A=>k_is)
  (case e3_A=>rfl)
  (case f3_A=>rfl)
  (case r3_A=>exact (.cons ⟨_,rfl⟩ (.cons ⟨_,rfl⟩ .nil)))
  (case l4_A=>k_is)
  (case e4_A=>rfl)
  (case f4_A=>rfl)
  (case r4_A=>exact (.cons ⟨_,rfl⟩ (.cons ⟨_,rfl⟩ .nil)))
  (case l5_A=>k_is)
  (case e5_A=>rfl)
  (case f5_A=>rfl)
  (case r5_A=>exact (.cons ⟨_,rfl⟩ (.cons ⟨_,rfl⟩ .nil)))
  (case l6_A=>k_is)
  (case e6_A=>rfl)
  (case f6_A=>rfl)
  (case r6_A=>exact (.cons ⟨_,rfl⟩ (.cons ⟨_,rfl⟩ .nil)))
  (case l7_A=>k_is)
  (case e7_A=>rfl)
  (case f7_A=>rfl)
  (case r7_A=>exact (.cons ⟨_,rfl⟩ (.cons ⟨_,rfl⟩ .nil)))
  (case b_D=>k_is)
  (case r_D=>exact ⟨_,rfl⟩)
  (case b_E=>k_is)
  (case r_E=>exact ⟨_,rfl⟩)
  (case b_F=>k_is)
  (case r_F=>exact ⟨_,rfl⟩)
  (case b_B | l_B=>k_is)
  (case e_B=>rfl)
  (case f_B=>rfl)
  (case r_B=>exact (.cons ⟨_,rfl⟩ (.cons ⟨_,rfl⟩ (.cons ⟨_,rfl⟩ (.cons ⟨_,rfl⟩ (.cons ⟨_,rfl⟩ .nil))))))
  (case b_C=>k_is)
  (case r_C=>exact ⟨_,rfl⟩)
  (case zIS=>kernel_rfl)
  (case kd_list=>exact fun d L=>by cases d<;>first | (cases L;done) | k_is | rfl)
  (case kd_bool=>exact fun d L=>by cases d<;>first | (cases L;done) | k_is | rfl)
  (case kd_int=>exact fun d L=>by cases d<;>first | (cases L;done) | k_is | rfl)
  (case kd_tuple=>exact fun d L=>by cases d<;>first | (cases L;done) | k_is | rfl)
  (case kd_str=>exact fun d L=>by cases d<;>first | (cases L;done) | k_is | rfl)
