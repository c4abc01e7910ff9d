import PyProof.Rows.All
import KE.KNest
import Wide.All
import OpenK.AllK
import Wide.FinOn
import Lean
import PyProof.EqAt
import PyProof.EqKinds
import PyProof.TupleCall
import PySem.Challenge.RW_dimhouse_k13_read_or_refused
open Array renaming getElem?_eq_some_iff→qi3,length_toList→qp5,mem_toList_iff→qt3,getElem?_toList→za7
open Bool renaming and_eq_true→qb0,false_ne_true→qc2,false_eq_true→qc6,eq_iff_iff→qe1,or_eq_true→qe2,or_false→qh0,not_eq_true'→qj8,true_and→qk9,and_true→qm3,and_false→qo7,and_eq_true_iff→qt7,or_eq_false_iff→qu0,and_assoc→qw3,false_or→qy7,false_and→zb8,not_false→zc0,not_true→zd4,not_not→ze6
open Decidable renaming byContradiction→qw6
open False renaming elim→qf3
open ForInStep renaming yield→qn8
open Int renaming emod_lt_of_pos→qg7,emod_nonneg→qi9,eq_ofNat_of_zero_le→qj5,natCast_add→qr0,toNat_natCast→qr8,zero_add→qs3
open List renaming mem_cons_of_mem→qa3,length_map→qa5,mem_cons_self→qa8,mem_cons→qa9,replicate→qb2,map_cons→qb3,size_toArray→qb4,not_mem_nil→qb8,filterMap_cons→qb9,length_cons→qc4,mem_map→qc9,mem_append_right→qd0,map_append→qd1,append_nil→qd2,getElem?_map→qd3,length_append→qd6,getD_eq_getElem?_getD→qd9,set→qe3,any_cons→qe6,mem_append→qe8,lookup→qf9,all_eq_true→qg2,take_of_length_le→qg8,nodup_cons→qg9,append_assoc→qh4,length_filter_le→qh5,all_cons→qh9,mem_singleton→qi1,length_drop→qi2,replicate_succ→qi5,any_nil→qj0,mem_append_left→qj2,map_map→qj6,length_nil→qj9,nil_append→qk0,length_take→qk6,lookup_cons→qk7,flatten_cons→ql8,nodup_append→ql9,length_filterMap_le→qm0,map_nil→qm1,getElem_mem→qm5,range→qm6,nodup_nil→qm7,getElem?_set_self→qm9,find?_cons→qn6,mem_of_getElem?→qo2,mem_of_mem_take→qo3,getElem?_append_left→qo4,drop_eq_getElem_cons→qo8,cons_append→qp2,map_congr_left→qp8,getElem_of_mem→qp9,mem_filterMap→qq5,foldl_cons→qq7,drop_of_length_le→qr3,filterMap_append→qs4,drop_length→qs8,eq_nil_of_length_eq_zero→qs9,any_eq_true→qt1,mem_of_mem_drop→qt9,of_mem_zip→qu9,length_set→qv0,mem_map_of_mem→qv1,getElem?_append_right→qv5,getElem?_zip_eq_some→qw2,mem_or_eq_of_mem_set→qw5,getElem?_replicate→qy5,getElem?_cons_succ→qz1,filter_cons_of_pos→qz2,filter_cons_of_neg→qz3,map_take→qz4,range_succ_eq_map→qz8,mem_filter→za0,length_replicate→za3,forIn_cons→za6,length_zip→zb2,foldl→zb4,mem_range→zb7,length→zc2,Pairwise→zd3,map_drop→zd5,all_map→ze3,map_set→ze5
open List.cons renaming injEq→za9
open Nat renaming lt_of_lt_of_le→qc3,le_trans→qc5,ne_of_lt→qc8,lt_irrefl→qh6,ne_of_gt→qn5,min_eq_right→qp3,min_eq_left→qr1,le_refl→qr4,le_of_lt→qs2,mul_le_mul_right→qt8,not_lt→qx6,zero_le→qy8,le_succ→zc7,succ_mul→ze2
open Ne renaming symm→qe7
open Option renaming bind_some→qa1,map_some→qf6,join_some→qs7,isSome_iff_exists→qx3,isSome_map→qx4
open Option.some renaming inj→qc1,injEq→qo0
open PyProof.Rows renaming callWith_type1→qh8,slot_tuple_getitem→ql6,envOfC→qn3,AllBare→qy2,subscriptTail_builtinR→qz6,subscriptTail→zd2
open PySem renaming starEach→qa2,Shared→qa4,sizeLine→qa7,wpAny_pure→qb1,mainGlobals→qb5,Program→qc0,bootBuiltins→qd5,wpAny_field→qd7,Around→qd8,compareOp→qe4,foldedSetIterable→qe5,wpAny_mono→qf1,backTo→qf2,swapsWith→qf7,wpAny_truthy_bool→qg3,attributeBase→qg5,wpAny_newObj_type→qh3,behindInMarks→qh7,assignEach→qi4,wpAny_holding→qi6,wpAny_setField→qi7,sysModules→qj1,wpAny_callSpecial?_slot→qj3,wpAny_loadPart_at→qj7,FuncData→qk2,Keyword→qk3,binaryOp→qk8,wpAny_setField_rec→ql0,keywordEach→ql2,wpAny_seqItems→ql3,rawInt→ql4,IsPair→qm4,Builtin→qn0,wpAny_Call_Name_kw→qn2,tupleKind_room_in1→qn4,noteFrame→qn7,wpAny_standAt→qo1,Arguments→qo5,NameKind→qp0,wpAny_call_entry→qp1,wpAny_isSubtype_exc→qp6,wpAny_bind→qq0,wpAny_execs_nil→qq3,wpAny_pyIter_tuple→qq4,wpAny_passesOwn→qq6,setFlight→qq8,sizeLine_eq→qr7,sliceBounds→qr9,plainObj_wpAny_Assign_Attribute→qs0,backToKw→qs1,wpAny_execs_cons→qs5,noFill_tuple_add→qs6,wpAny_pyIter_zip→qt0,codeAny_call_builtin→qt5,wpAny_updateSeq_pair→qt6,wpAny_attempt→qu1,comprehension→qu2,wpAny_call→qu5,typeIs_str→qu6,call_meets→qu7,letOwnedTupleGo→qu8,codeAny_mono→qv8,concat_meets→qv9,wpAny_letOwnedTupleGo_zip→qw4,assign→qw7,wpAny_assign_Name→qw8,wpAny_Assign_Name→qw9,wpAny_pyIter_list→qx0,cellsFrom→qx2,codeAny→qy4,seq_tuple_add→qy6,compPost→qy9,wpAny_onRaise→qz0,wpAny_Call_method_late→qz7,tupleKind→qz9,wpAny_isTrue_Compare1→za1,holding→za2,codeAny_call_function→za4,exec_Assign_Name_used→zb1,SetTable→zb5,wpAny_loadPart→zb9,getItem→zc3,subscripted→zc4,valueAt→zc5,excClassObj→zc6,PassesOwn→zd1,callerA→zd6,isInstance→zd7,IsPart→ze1,callType_new→ze4,bindArgs→ze7,treeTable→ze8,lastMarks→ze9,BindsTo→zf0,onTheHeap→zf1,JoinOk→zf2,pyNext→zf3
open PySem.Around renaming under→zd9
open PySem.AutoSeq1 renaming wpAny_loadPart'→qq2
open PySem.Builtin.List renaming listTooLong→qq1
open PySem.Builtin.Range renaming rangeSize→qm2
open PySem.Builtin.Slice renaming slicePlaces→ql1,sliceAdjust→qo6,sliceApplied→qv6
open PySem.Builtin.SmallTypes renaming nextOf→qf0,ownedTupleIsFree→qh2,ownedTupleHandOut→qo9
open PySem.Builtin.Str renaming strSliceIndices→qg1,occurrences→qg4,partsBetween→qx9
open PySem.Builtin.Tuple renaming tupleExact→ql7
open PySem.Calls renaming spliced_cons→qn1,callWith_builtin→qr2,evalArgs_plain→qt4,Name_function_global→qv4,Constant_str→qv7,spliced_nil→qx1
open PySem.Code renaming isFrame→ze0
open PySem.EntryCells renaming newEntry→qp7
open PySem.F renaming slot_tuple_iterator_next→qk4,args_tuple_iterator_next_1→qu3,entry_tuple_iterator_next→qv2,slot_zip_next→qv3,args_str_split_2→qw1,entry_str_split→qy0,slot_str_split→qz5
open PySem.Heap renaming lt_size→qa6,get?_push_size→qb6,get?_update_other→qd4,size_push→qf8,get?_update_self→qg0,SameBut→qg6,get?_none_of_le→qt2
open PySem.NameKind renaming free→qh1
open PySem.Obj renaming mapFields→qe9,data_mapFields→qi0,isFreed_of_fields→qi8,cls_mapFields→qx5,mapSeq→zb3
open PySem.PassesOwn renaming never→qk1
open PySem.PyData renaming keyHash→qf4
open PySem.SeqAt renaming EqAt→qf5,RcAt→qx7,RcNeAt→za8
open PySem.SeqAt.EqAt renaming of_refs→qw0,same→za5
open PySem.SeqAt.RcAt renaming lists_lengths→qx8
open PySem.Shared renaming heap→zc8
open PySem.Str renaming ofString→qa0,join→qe0,empty→ql5,length_append→qy1
open PySem.StrLaws renaming join_split→qq9,occ_length_le→zb0
open PySem.Value renaming ref→qb7,none→qc7,builtin→qj4,bool→qr6,type→qu4,int→zc9,str→zd0
open PySem.W.OpenRow renaming toRowW→zb6
open PySem.W.RowW renaming records→zd8
open Sum renaming inr→qm8,inl→zc1
open Sum.inr renaming inj→qr5
open ToString renaming toString→qy3
open True renaming intro→qk5
set_option Elab.async false
set_option linter.all false
namespace P13
open PySem PySem.W PyProof.Rows
section
local macro_rules | `(tactic| o_head $_) => `(tactic| exact (by assumption : ∀ p : Prop, p) _)
set_option maxRecDepth 100000 in
set_option maxHeartbeats 0 in
theorem pre(O:∀p:Prop,p):PySem.Challenge.rw_dimhouse_k13_read_or_refused.row.Holds:=by k_head
end
def seen:qc0:={PySem.Challenge.pw_dimhouse_k13_read_or_refused with main:={PySem.Challenge.pw_dimhouse_k13_read_or_refused.main with body:=[1,2,3,4,5,6,8,9,10,11,12,13,14,15,16,17,18,20,21,22,23,24,25,26,27,28,29,30,31,32,33,34,35,36,37,39,40,41,42,43,44,45,46,47,48,49,50,51,52,53,54,55,56,57].filterMap fun i=>PySem.Challenge.pw_dimhouse_k13_read_or_refused.main.body[i]?}}
noncomputable abbrev hook:Hook:=kHook P13.pre.heap_1 [2,3,15,22,23,24,25,28,35,37,38,40,41,42,43,44,47,54,56,57,59,60,61,62,63,66,73,75,76,78,79,80,81,82,85,92,94,95,97,98,99,100,101,104,111,113,114,116,117,118,119,120,123,126,127,128,130,131,133,134,135,137,138,140,141,142,144,145,147,148,149,151,152,154,155,156,157,158,159,160,161,162,163,164,165,166,167,168,169,170,171,172,173,174,175,176,178,179,181,182,183,185,186,188,189,190,193,194,195,197,198,200,201,202,204,205,207,208,209,211,212,214,215,216,218,219,221,222,223,225,226,228,229,230,232,233,235,236,237,240,241,242,245,246,247,249,250,252,253,254,256,257,259,260,261,264,265,266,269,270,271,273,274,276,277,278,280,281,283,284,285,287,288,290,291,292,294,295,297,298,299,301,302,304,305,306,309,310,311,313,314,316,317,318,321,322,323,325,326,328,329,330,333,334,335,338,339,340,343,344,345,347,348,350,351,352,355,356,357,359,360,362,363] (fun _=>by kernel_rfl)
theorem map_two {α β γ:Type} {x:Option α} {f:α→β} {g:α→γ} {a:β} {b:γ} (h:x.map f=some a) (h':x.map g=some b):x.map (fun s=>(f s,g s))=some (a,b):=by
  cases x with
  |none=>cases h
  |some s=>simp only[qf6,qo0]at h h' ⊢;rw[h,h']
theorem pair_two {α β γ δ ε:Type}{x:Option α}{f:α→Option β}{A:β→γ×ε}{C:β→δ}{a:γ×ε}{c:δ}(h:x.map (fun s=>(f s).map fun z=>((A z).1,C z))=some (some (a.1,c)))(h':x.map (fun s=>(f s).map fun z=>(A z).2)=some (some a.2)):x.map (fun s=>(f s).map fun z=>(A z,C z))=some (some (a,c)):=by
  cases x with
  |none=>cases h
  |some s=>
    simp only[qf6,qo0]at h h' ⊢
    cases q:f s with
    |none=>rw[q] at h;cases h
    |some z=>
      rw[q]at h h'
      simp only[qf6,qo0,Prod.mk.injEq]at h h' ⊢
      exact⟨Prod.ext h.1 h',h.2⟩
abbrev pg:=PySem.Challenge.rw_dimhouse_k13_read_or_refused.row.prog
abbrev tp{γ:Type}(w:World)(b:Bool)(A:PySem.Shared→γ):=(fencedOpening ze8 pg w 5892).map fun s₀=>(topFrom ze8 pg (w.withFollow "special-get-raises" b) 5892 s₀).map A
abbrev oA(s:PySem.Shared):=openSeen seen [qa0 "WANTED"] (importedModules pg.main.body) (fun s=>xlAt seen [] s&&recOk (zd8 (zb6 PySem.Challenge.rw_dimhouse_k13_read_or_refused.row)) s) true s
set_option maxRecDepth 100000
set_option maxHeartbeats 0
theorem run_false1(w:World):tp w false (fun z=>((oA z).1,Hook.obs hook z))=some (some ((openGood seen [qa0 "WANTED"]).1,Hook.val hook (w.withFollow "special-get-raises" false))):=by kernel_rfl
theorem run_false2(w:World):tp w false (fun z=>(oA z).2)=some (some (openGood seen [qa0 "WANTED"]).2):=by kernel_rfl
theorem run_true1(w:World):tp w true (fun z=>((oA z).1,Hook.obs hook z))=some (some ((openGood seen [qa0 "WANTED"]).1,Hook.val hook (w.withFollow "special-get-raises" true))):=by kernel_rfl
theorem run_true2(w:World):tp w true (fun z=>(oA z).2)=some (some (openGood seen [qa0 "WANTED"]).2):=by kernel_rfl
end P13
set_option maxRecDepth 100000
set_option maxHeartbeats 4000000
set_option compiler.extract_closed false
open PySem.W renaming Frag→xA9,nsIn→xB9,mg_of→xC9,findIn→xD9,keepIn→xE9,fnOf→xF9,kia_one→xG9,mg_none_of→xH9,kitOne→xI9,mroIn→xJ9,codeIn→xK9,Looks→xL9,looks_findIn→xM9,clsIn→xN9,InstAt→xO9,typeIn→xP9,kitx_dict→xQ9,notCls→xR9,instObj→xS9,methodObj→xT9,specialIn→xU9,takesIn→xV9,kitx_list→xW9,callWith_K→xX9,OpenLaw→xY9,looks_clsIn→xZ9,check_slot→yA9
open PySem renaming Addr→J5,World→J6,Stmt→J8,Expr→J9,Scope→Ja
noncomputable section
theorem χ{p:Prop}(h:p:=by decide +kernel):p:=h
theorem Ψ{p:Prop}(h:p:=by walk_at "x"):p:=h
theorem Θ{p:Prop}(h:p:=by lia):p:=h
theorem Ξ{p:Prop}(h:p:=by simp):p:=h
theorem Ω{p:Prop}(h:p:=by decide):p:=h
open Option renaming some→ς,none→ψ
open Bool renaming true→θ,false→ξ
abbrev η:=@List
abbrev ζ:=@Option
theorem bS{α β:Type _}{o:ζ α}{f:α->ζ β}{b:β}(h:o.bind f=ς b):∃a,o=ς a/\f a=ς b:=Option.bind_eq_some_iff.mp h
theorem mS{α β:Type _}{o:ζ α}{f:α->β}{b:β}(h:o.map f=ς b):∃a,o=ς a/\f a=b:=Option.map_eq_some_iff.mp h
theorem gX{α:Type _}{l:η α}{i:Nat}{a:α}(h:l[i]?=ς a):∃z:i<l.length,l[i]=a:=List.getElem?_eq_some_iff.mp h
open PySem PySem.Spec PyProof.Rows in abbrev gN := @List.getElem?_set_ne
open PySem PySem.Spec PyProof.Rows in abbrev gP := @Heap.get?_push_of_some
open PySem PySem.Spec PyProof.Rows in abbrev wB := @wpAny_bind
open PySem PySem.Spec PyProof.Rows in abbrev gQ := @List.getElem?_eq_getElem
open PySem PySem.Spec PyProof.Rows in abbrev nL := @Nat.le_refl
set_option maxRecDepth 100000
namespace L2
open PySem PySem.Spec PyProof.Rows
abbrev Key:=Sum Int Str
def mQ:Key->Value->Bool
 |.inl k,v=>Value.isInt k v
 |.inr x,v=>Value.isStrOf x v
def keyH(w:J6):Key->Int
 |.inl k=>hashInt k
 |.inr x=>hashStr w x
theorem cb:∀{k:Key}{v:Value},mQ k v=θ->(∃i t,k=zc1 i/\v=zc9 i t)∨(∃x t,k=qm8 x/\v=zd0 x t)
 |.inl i,v,h=>by obtain⟨t,e⟩:=Value.isInt_shape (k:=i) (v:=v) h;exact .inl ⟨i,t,rfl,e⟩
 |.inr x,v,h=>by obtain⟨t,e⟩:=Value.isStrOf_shape (x:=x) (v:=v) h;exact .inr ⟨x,t,rfl,e⟩
theorem vc(i:Int)(t:Tok):mQ (.inl i) (.int i t)=θ:=by simp[mQ,Value.isInt]
theorem vd(x:Str)(t:Tok):mQ (.inr x) (.str x t)=θ:=by simp[mQ,Value.isStrOf]
theorem Cn(a b:Int):decide ((zc1 a:Key)=zc1 b)=(a==b):=by
 by_cases e:a=b
 .subst e;simp
 .have h:¬ (zc1 a:Key)=zc1 b:=fun q=>e (zc1.inj q)
  rw[decide_eq_false h];exact(beq_eq_false_iff_ne.mpr e).symm
theorem Co(a b:Str):decide ((qm8 a:Key)=qm8 b)=decide (a=b):=by
 by_cases e:a=b
 .subst e;simp
 .have h:¬ (qm8 a:Key)=qm8 b:=fun q=>e (qr5 q)
  rw[decide_eq_false h,decide_eq_false e]
theorem Cp(a:Int)(b:Str):decide ((zc1 a:Key)=qm8 b)=ξ:=decide_eq_false (fun q=>nomatch q)
theorem Cq(a:Str)(b:Int):decide ((qm8 a:Key)=zc1 b)=ξ:=decide_eq_false (fun q=>nomatch q)
def bE(prog:qc0)(w:J6):PySem.KeyKind prog w Key where
 is:=mQ
 hash:=keyH w
 inj:=fun v a b Z U=>by
  rcases cb Z with ⟨i,t,rfl,rfl⟩|⟨x,t,rfl,rfl⟩
  .rcases cb U with ⟨j,u,rfl,e⟩|⟨y,u,rfl,e⟩
   .injection e with e1 _;rw[e1]
   .exact nomatch e
  .rcases cb U with ⟨j,u,rfl,e⟩|⟨y,u,rfl,e⟩
   .exact nomatch e
   .injection e with e1 _;rw[e1]
 byValue:=fun k v h=>by rcases cb h with ⟨i,t,rfl,rfl⟩|⟨x,t,rfl,rfl⟩<;>rfl
 pyHash:=fun O h=>by
  rcases cb O with ⟨i,t,rfl,rfl⟩|⟨x,t,rfl,rfl⟩
  .exact wpAny_pyHash_int h
  .exact wpAny_pyHash_str h
 eqBool:=fun hu O h=>by
  rcases cb hu with ⟨i,t,rfl,rfl⟩|⟨x,t,rfl,rfl⟩
  .rcases cb O with ⟨j,u,rfl,rfl⟩|⟨y,u,rfl,rfl⟩
   .rw[Cn]at h;exact wpAny_eqBool_int h
   .rw[Cp]at h;exact qf5.int_str i t y u _ _ _ _ h
  .rcases cb O with ⟨j,u,rfl,rfl⟩|⟨y,u,rfl,rfl⟩
   .rw[Cq]at h;exact qf5.str_int x t j u _ _ _ _ h
   .rw[Co]at h;exact wpAny_eqBool_str h
 «strs»:=fun k x t v h=>by
  rcases cb h with ⟨i,u,rfl,e⟩|⟨y,u,rfl,e⟩
  .exact nomatch e
  .injection e with e1 _;subst e1;cases v<;>rfl
theorem p7(prog:qc0)(w:J6)(i:Int)(t:Tok):(bE prog w).is (.inl i) (.int i t)=θ:=vc i t
theorem hZ(prog:qc0)(w:J6)(x:Str)(t:Tok):(bE prog w).is (.inr x) (.str x t)=θ:=vd x t
inductive V where
 |non|bl (b:Bool)|int (i:Int)|str (x:Str)|byt (b:Array UInt8)|flt (b:UInt64)|ref (a:J5)|ty (n:String)
 deriving DecidableEq
def RelV:V->Value->Prop
 |.non,u=>u=qc7
 |.bl b,u=>u=qr6 b
 |.int i,u=>∃t,u=zc9 i t
 |.str x,u=>∃t,u=zd0 x t
 |.byt b,u=>∃t,u=Value.bytes b t
 |.flt b,u=>∃t,u=Value.float b t
 |.ref a,u=>u=qb7 a
 |.ty n,u=>u=qu4 n
abbrev Vals:η V->η Value->Prop:=Paired RelV
variable{xs:η V}{us:η Value}
theorem Vals.length(r:Vals xs us):xs.length=us.length:=Paired.length r
theorem Vals.get:∀{xs:η V}{us:η Value}{i:Nat}{x:V},Vals xs us->xs[i]?=ς x->∃u,us[i]?=ς u/\RelV x u
 |_,_,_,_,.nil,e=>by simp at e
 |_,_,0,_,.cons r _,e=>by simp at e;subst e;exact⟨_,rfl,r⟩
 |_,_,i+1,x,.cons _ t,e=>by obtain⟨u,h1,h2⟩:=Vals.get (i:=i) (x:=x) t (by simpa using e);exact⟨u,by simpa using h1,h2⟩
variable{u:Value}
theorem Vals.set{x:V}(r:RelV x u):∀{xs:η V}{us:η Value}(i:Nat),Vals xs us->Vals (xs.set i x) (us.set i u)
 |_,_,_,.nil=>.nil
 |_,_,0,.cons _ t=>.cons r t
 |_,_,i+1,.cons q t=>.cons q (Vals.set r i t)
theorem Vals.append:∀{xs ys:η V}{us ws:η Value},Vals xs us->Vals ys ws->Vals (xs++ys) (us++ws)
 |_,_,_,_,.nil,s=>s
 |_,_,_,_,.cons r t,s=>.cons r (Vals.append t s)
theorem Vals.take:∀{xs:η V}{us:η Value}(n:Nat),Vals xs us->Vals (xs.take n) (us.take n)
 |_,_,0,_=>.nil
 |_,_,_+1,.nil=>.nil
 |_,_,n+1,.cons r t=>.cons r (Vals.take n t)
theorem Vals.drop:∀{xs:η V}{us:η Value}(n:Nat),Vals xs us->Vals (xs.drop n) (us.drop n)
 |_,_,0,r=>r
 |_,_,_+1,.nil=>.nil
 |_,_,n+1,.cons _ t=>Vals.drop n t
def RelO:ζ V->ζ Value->Prop
 |some v,ς u=>RelV v u
 |none,ψ=>True
 |_,_=>False
def KV{κ:Type}:η (κ×V)->η (κ×Value)->Prop:=Paired fun(p:κ×V)(q:κ×Value)=>p.1=q.1/\RelV p.2 q.2
def kV:Key->V
 |.inl i=>.int i
 |.inr x=>.str x
inductive HO where
 |e (xs:List V)
 |t (xs:List V)
 |dK (J3:List (Key×V))|dT (J3:List (List Key×V))
 |set (S:Int->Bool) (n:Nat)
 |ins (C dx:J5) (fs:List (Str×V))
 |own (x:J5)
 |xd (fs:List (Str×V))
 |met (f x:J5)
 |rng (lo hi:Int)
 |frz (o:Obj) (u:HO)
 |tbl (ps:Array Value)
 |code (q:Str)
 |ctab (qs:List ((Nat×Nat)×Str))
 |ext (φ:Heap->Prop)
abbrev Hp:=J5->ζ HO
def upd(H:Hp)(a:J5)(o:HO):Hp:=fun b=>if b=a then ς o else H b
variable{H:Hp}{a:J5}{o:HO}
theorem aC:upd H a o a=ς o:=by unfold upd;rw[if_pos rfl]
variable{b:J5}
theorem ax(h:b≠a):upd H a o b=H b:=by unfold upd;rw[if_neg h]
theorem zN{u:HO}:upd (upd H a o) a u=upd H a u:=by funext b;unfold upd;split<;>rfl
theorem kL{u:HO}(h:H a=ς o)(h':H b=ς u)(d:o≠u):a≠b:=by intro e;subst e;rw[h]at h';exact d (qc1 h')
theorem aP(h:H a=ς o)(h':H b=ψ):a≠b:=by intro e;subst e;rw[h]at h';cases h'
section
variable(P:qc0)(w:J6)
def ObjOk(H:Hp)(h:Heap)(a:J5):HO->Prop
 |.e xs=>xs.length<=qa7/\∃(J4:η Value)(n:Nat),Vals xs J4/\h.get? a=ς {cls:=.type "list",data:=.seq J4.toArray n}
 |.t xs=>xs.length<=qa7/\∃J4:η Value,Vals xs J4/\IsTup h a J4.toArray
 |.dK J3=>J3.length<=qa7/\(a==qj1)=ξ/\∃vs,KV J3 vs/\h.DictOf (bE P w) a vs
 | .dT J3=>J3.length<=qa7/\(a==qj1)=ξ/\∃xs:η (η Key×J5×Value),
     Paired (fun(p:η Key×V)(q:η Key×J5×Value)=>p.1=q.1/\H q.2.1=ς (.t (p.1.map kV))/\RelV p.2 q.2.2) J3 xs∧
     ∃o es ep,h.get? a=ς o/\o.ExactDict/\o.data=.dict es ep/\es.toList=xs.map (entryOfKey (qz9 (bE P w)))/\(xs.map (·.1)).Nodup
 |.set S n=>h.SetOf (intKind P w) a S n
 |.ins C dx fs=>H dx=ς (.own a)/\fs.length<=1000/\dx≠a/\h.get? a=ς (xS9 C dx)∧∃mA,h.Ns1 dx mA/\(∀f,RelO (fs.lookup f) (mA f))/\PySem.Within mA (fs.map (·.1))
 |.own _=>∃o,h.get? a=ς o
 |.xd fs=>∃mA,h.Ns1 a mA/\∀f,RelO (fs.lookup f) (mA f)
 |.rng lo hi=>∃t u v,h.get? a=ς {cls:=.type "range",data:=.fields #[.int lo t,.int hi u,.int 1 v]}
 |.frz o u=>h.get? a=ς o/\ObjOk H h a u
 |.tbl ps=>h.get? a=ς {cls:=.none,data:=.fields ps}
 |.code q=>h.CodeRec (.ref a) q
 |.ctab qs=>∃ps:Array Value,h.get? a=ς {cls:=.none,data:=.fields ps}/\TriplesOk ps.toList/\∀(pos:Pos)(q:Str)(v:Value),((pos.line,pos.col),q)∈qs->codeAmong pos ps.toList=ς v->∃c o,v=.ref c/\H c=ς (.frz o (.code q))
 |.met f x=>h.get? a=ς (xT9 (.ref f) (.ref x))
 |.ext φ=>φ h/\(∃o,h.get? a=ς o)/\∀h1 h2:Heap,φ h1->(∀o,h1.get? a=ς o->h2.get? a=ς o)->φ h2
def HOk(H:Hp)(h:Heap):Prop:=∀a o,H a=ς o->ObjOk P w H h a o
end
section
variable{P:qc0}{w:J6}{H H':Hp}{h h':Heap}{a:J5}{o:HO}
theorem ObjOk.lt(x:ObjOk P w H h a o):a<h.objs.size:=by
 cases o with
 |e xs=>obtain⟨_,_,_,_,e⟩:=x;exact qa6 e
 |t xs=>obtain⟨_,_,_,p⟩:=x;exact p.lt
 |dK J3=>obtain⟨_,_,_,_,o,_,_,e,_⟩:=x;exact qa6 e
 |dT J3=>obtain⟨_,_,_,_,o,_,_,e,_⟩:=x;exact qa6 e
 |set S n=>obtain⟨o,_,_,_,e,_⟩:=x;exact qa6 e
 |ins C dx fs=>obtain⟨_,_,_,e,_⟩:=x;exact qa6 e
 |own y=>obtain⟨_,e⟩:=x;exact qa6 e
 |xd fs=>obtain⟨_,⟨_,_,_,e,_⟩,_⟩:=x;exact qa6 e
 |rng lo hi=>obtain⟨_,_,_,e⟩:=x;exact qa6 e
 |frz ob u=>obtain⟨e,_⟩:=x;exact qa6 e
 |tbl ps=>exact qa6 (show h.get? a=ς _ from x)
 |code q=>obtain⟨c,o,vs,t,e,g,_⟩:=x;cases e;exact qa6 g
 |ctab qs=>obtain⟨ps,g,_⟩:=x;exact qa6 g
 |met f y=>exact qa6 (show h.get? a=ς _ from x)
 |ext φ=>obtain⟨_,⟨_,e⟩,_⟩:=x;exact qa6 e
theorem Paired.mapP{α β:Type}{F G:α->β->Prop}:∀{U:η α}{O:η β},Paired F U O->(∀a b,F a b->G a b)->Paired G U O
 |_,_,.nil,_=>.nil
 |_,_,.cons r t,f=>.cons (f _ _ r) (Paired.mapP t f)
theorem ObjOk.stay (x:ObjOk P w H h a o) (k:∀ b u,(b=a∨H b=ς (.own a))->h.get? b=ς u->h'.get? b=ς u)
  (U:∀b,H b=ς (.own a)->H' b=ς (.own a)) (ht:∀b xs,H b=ς (.t xs)->H' b=ς (.t xs)) (O:∀b ob q,H b=ς (.frz ob (.code q))->H' b=ς (.frz ob (.code q))):ObjOk P w H' h' a o:=by
 induction o with
 |e xs=>obtain⟨z,J4,n,r,e⟩:=x;exact⟨z,J4,n,r,k _ _ (.inl rfl) e⟩
 |t xs=>obtain⟨z,J4,r,ob,e,c⟩:=x;exact⟨z,J4,r,ob,k _ _ (.inl rfl) e,c⟩
 |dK J3=>obtain⟨z,y,vs,r,ob,es,ep,e,c⟩:=x;exact⟨z,y,vs,r,ob,es,ep,k _ _ (.inl rfl) e,c⟩
 |dT J3=>obtain⟨z,y,xs,r,ob,es,ep,e,c⟩:=x;exact⟨z,y,xs,Paired.mapP r fun p q z=>⟨z.1,ht _ _ z.2.1,z.2.2⟩,ob,es,ep,k _ _ (.inl rfl) e,c⟩
 |set S n=>obtain⟨ob,es,ep,t,e,c⟩:=x;exact⟨ob,es,ep,t,k _ _ (.inl rfl) e,c⟩
 |ins C dx fs=>obtain⟨d,z,ne,e,mA,⟨od,es,ep,e2,c⟩,r⟩:=x;exact⟨U _ d,z,ne,k _ _ (.inl rfl) e,mA,⟨od,es,ep,k _ _ (.inr d) e2,c⟩,r⟩
 |own y=>obtain⟨ob,e⟩:=x;exact⟨ob,k _ _ (.inl rfl) e⟩
 |xd fs=>obtain⟨mA,⟨od,es,ep,e,c⟩,r⟩:=x;exact⟨mA,⟨od,es,ep,k _ _ (.inl rfl) e,c⟩,r⟩
 |rng lo hi=>obtain⟨t,u,v,e⟩:=x;exact⟨t,u,v,k _ _ (.inl rfl) e⟩
 |frz ob u ih=>obtain⟨e,q⟩:=x;exact⟨k _ _ (.inl rfl) e,ih q⟩
 |tbl ps=>have e:h.get? a=ς {cls:=.none,data:=.fields ps}:=x;show h'.get? a=ς {cls:=.none,data:=.fields ps};exact k a _ (.inl rfl) e
 |code q=>obtain⟨c,o,vs,t,e,g,r⟩:=x;cases e;exact⟨a,o,vs,t,rfl,k a _ (.inl rfl) g,r⟩
 |ctab qs=>obtain⟨ps,g,Z,r2⟩:=x;exact⟨ps,k a _ (.inl rfl) g,Z,fun pos q v h1 h2=>let ⟨c,ob,e,g⟩:=r2 pos q v h1 h2;⟨c,ob,e,O c ob q g⟩⟩
 |met f y=>have e:h.get? a=ς (xT9 (.ref f) (.ref y)):=x;show h'.get? a=ς (xT9 (.ref f) (.ref y));exact k a _ (.inl rfl) e
 |ext φ=>obtain⟨p,⟨o,e⟩,st⟩:=x;exact⟨st _ _ p fun o q=>k _ _ (.inl rfl) q,⟨o,k _ _ (.inl rfl) e⟩,st⟩
theorem HOk.lt(x:HOk P w H h)(e:H a=ς o):a<h.objs.size:=(x a o e).lt
theorem HOk.fresh(x:HOk P w H h)(e:h.objs.size<=a):H a=ψ:=by
 cases q:H a with
 |none=>rfl
 |some u=>exact absurd (qc3 (x.lt q) e) (qh6 _)
theorem HOk.kept(x:HOk P w H h)(k:∀b u,h.get? b=ς u->h'.get? b=ς u):HOk P w H h':=fun a o e=>(x a o e).stay (fun b u _ q=>k b u q) (fun _ q=>q) (fun _ _ q=>q) fun _ _ _ q=>q
theorem HOk.laid(x:HOk P w H h)(k:∀b u,h.get? b=ς u->h'.get? b=ς u)(Z:h.objs.size<=a)(new:ObjOk P w (upd H a o) h' a o):HOk P w (upd H a o) h':=fun b u e=>by
 have O:=x.fresh Z;by_cases U:b=a
 .subst U;rw[aC]at e;cases e;exact new
 .rw[ax U]at e;exact(x b u e).stay (fun c v _ q=>k c v q) (fun c q=>by rw[ax (aP q O)];exact q) (fun c xs q=>by rw[ax (aP q O)];exact q) fun c ob xs q=>by rw[ax (aP q O)];exact q
end
def Rd(H:Hp)(a:J5)(u:HO):Prop:=H a=ς u∨∃o,H a=ς (.frz o u)
theorem Rd.of{u:HO}(h:H a=ς u):Rd H a u:=.inl h
variable{P:qc0}{h:Heap}
theorem Rd.ok{w:J6}{u:HO}(r:Rd H a u)(x:HOk P w H h):ObjOk P w H h a u:=by
 rcases r with r|⟨o,r⟩
 .exact x a u r
 .obtain⟨_,q⟩:=x a _ r;exact q
def Mut:ζ HO->Prop
 |some (.e _)=>True
 |some (.dK _)=>True
 |some (.dT _)=>True
 |some (.set _ _)=>True
 |some (.ins _ _ _)=>True
 |some (.ext _)=>True
 |_=>False
section
variable{P:qc0}{w:J6}{H:Hp}{h h':Heap}{x e:J5}{o':HO}
theorem HOk.write (ok:HOk P w H h) (Z:Mut (H x)) (he:e=x∨H e=ς (.own x)) (k:∀ b u,b≠e->h.get? b=ς u->h'.get? b=ς u) (heo:∃ u,h'.get? e=ς u)
  (new:ObjOk P w (upd H x o') h' x o'):HOk P w (upd H x o') h':=fun b u q=>by
 have U:∀c y,H c=ς (.own y)->c≠x:=fun c y r z=>by subst z;rw[r]at Z;exact Z
 have ntup:∀c xs,H c=ς (.t xs)->c≠x:=fun c xs r z=>by subst z;rw[r]at Z;exact Z
 have ncod:∀c ob xs,H c=ς (.frz ob (.code xs))->c≠x:=fun c ob xs r z=>by subst z;rw[r]at Z;exact Z
 by_cases hb:b=x
 .subst hb;rw[aC]at q;cases q;exact new
 .rw[ax hb]at q;by_cases O:b=e
  .have q':H b=ς (.own x):=by
    rcases he with z|z
    .exact absurd (O.trans z) hb
    .rw[O];exact z
   rw[q]at q';cases q'
   obtain⟨v,hv⟩:=heo;exact⟨v,by rw[O];exact hv⟩
  .refine(ok b u q).stay (fun c v hc r=>k c v ?_ r) (fun c r=>by rw[ax (U c b r)];exact r) (fun c xs r=>by rw[ax (ntup c xs r)];exact r) fun c ob xs r=>by rw[ax (ncod c ob xs r)];exact r
   rcases hc with rfl|hc
   .exact O
   .rintro rfl;rcases he with z|z
    .exact U c b hc z
    .rw[hc]at z;cases z;exact hb rfl
end
structure Un(fs ex:List J5)(H H':Hp)(h h':Heap):Prop where
 keep:∀b o,h.get? b=ς o->H b=ψ->b∉fs->b∉ex->h'.get? b=ς o
 slot:∀b o,h.get? b=ς o->H b=ψ->b∈fs->b∉ex->∃sl,h'.get? b=ς {o with slots:=sl}
 free:∀b o,h.get? b=ς o->H b=ψ->b∉ex->H' b=ψ
 there:∀b o,h.get? b=ς o->b∉ex->∃o',h'.get? b=ς o'
 tups:∀b xs,H b=ς (.t xs)->H' b=ς (.t xs)
 frzs:∀b o u,H b=ς (.frz o u)->H' b=ς (.frz o u)
 tbls:∀b ps,H b=ς (.tbl ps)->∃more,H' b=ς (.tbl (ps++more))
 cts:∀b qs,H b=ς (.ctab qs)->H' b=ς (.ctab qs)
section
variable{fs fs' ex ex':η J5}{H H1 H2:Hp}{h h1 h2 h':Heap}{a x e:J5}{o:HO}
theorem Un.any(u:Un fs ex H H1 h h1){ob:Obj}(q:h.get? b=ς ob)(n:H b=ψ)(U:b∉ex):∃sl,h1.get? b=ς {ob with slots:=sl}:=by
 by_cases O:b∈fs
 .exact u.slot b ob q n O U
 .exact⟨ob.slots,u.keep b ob q n O U⟩
theorem Un.trans(a:Un fs ex H H1 h h1)(b:Un fs ex H1 H2 h1 h2):Un fs ex H H2 h h2 where
 keep:=fun c ob q n U O=>b.keep c ob (a.keep c ob q n U O) (a.free c ob q n O) U O
 slot:=fun c ob q n U O=>by obtain⟨sl,e1⟩:=a.slot c ob q n U O;obtain⟨Z,e2⟩:=b.slot c _ e1 (a.free c ob q n O) U O;exact⟨Z,e2⟩
 free:=fun c ob q n O=>by obtain⟨o',e1⟩:=a.there c ob q O;exact b.free c o' e1 (a.free c ob q n O) O
 there:=fun c ob q O=>by obtain⟨o',e1⟩:=a.there c ob q O;exact b.there c o' e1 O
 tups:=fun c xs q=>b.tups c xs (a.tups c xs q)
 frzs:=fun c ob xs q=>b.frzs c ob xs (a.frzs c ob xs q)
 tbls:=fun c ps q=>by obtain⟨m1,e1⟩:=a.tbls c ps q;obtain⟨m2,e2⟩:=b.tbls c _ e1;exact⟨m1++m2,by rw[e2,Array.append_assoc]⟩
 cts:=fun c qs q=>b.cts c qs (a.cts c qs q)
theorem Un.kept(k:∀b u,h.get? b=ς u->h'.get? b=ς u):Un fs ex H H h h':=⟨fun b ob q _ _ _=>k b ob q,fun b ob q _ _ _=>⟨ob.slots,k b ob q⟩,fun _ _ _ n _=>n,fun b ob q _=>⟨ob,k b ob q⟩,fun _ _ q=>q,fun _ _ _ q=>q,fun _ ps q=>⟨#[],by rw[q];simp⟩,fun _ _ q=>q⟩
theorem Un.refl:Un fs ex H H h h:=Un.kept fun _ _ q=>q
theorem Un.laid(k:∀b u,h.get? b=ς u->h'.get? b=ς u)(U:h.objs.size<=a)(O:H a=ψ):Un fs ex H (upd H a o) h h' where
 keep:=fun b u q _ _ _=>k b u q
 slot:=fun b u q _ _ _=>⟨u.slots,k b u q⟩
 free:=fun b u q n _=>by rw[ax (qc8 (qc3 (qa6 q) U))];exact n
 there:=fun b u q _=>⟨u,k b u q⟩
 tups:=fun b xs q=>by rw[ax (aP q O)];exact q
 frzs:=fun b u xs q=>by rw[ax (aP q O)];exact q
 tbls:=fun b ps q=>⟨#[],by rw[ax (aP q O),q];simp⟩
 cts:=fun b qs q=>by rw[ax (aP q O)];exact q
theorem Un.write(U:Mut (H x))(he:e=x∨H e=ς (.own x))(k:∀b u,b≠e->h.get? b=ς u->h'.get? b=ς u)(heo:∃u,h'.get? e=ς u):Un fs ex H (upd H x o) h h':=by
 have hx:∀b,H b=ψ->b≠x:=fun b n z=>by subst z;rw[n]at U;exact U
 have hb:∀b,H b=ψ->b≠e:=fun b n z=>by
  subst z;rcases he with r|r
  .exact hx b n r
  .rw[n]at r;cases r
 have Z:∀b u,H b=ς u->¬ Mut (ς u)->b≠x:=fun b u q nm z=>by subst z;rw[q]at U;exact nm U
 refine⟨fun b u q n _ _=>k b u (hb b n) q,fun b u q n _ _=>⟨u.slots,k b u (hb b n) q⟩,fun b u q n _=>by rw[ax (hx b n)];exact n,fun b u q _=>?_,fun b xs q=>by rw[ax (Z b _ q fun z=>z)];exact q,fun b u xs q=>by rw[ax (Z b _ q fun z=>z)];exact q,fun b ps q=>⟨#[],by rw[ax (Z b _ q fun z=>z),q];simp⟩,fun b xs q=>by rw[ax (Z b _ q fun z=>z)];exact q⟩
 by_cases O:b=e
 .subst O;exact heo
 .exact⟨u,k b u O q⟩
end
def trk(h:Heap)(H:Hp):η J5:=(qm6 h.objs.size).filter fun a=>(H a).isSome
def om(h:Heap)(H:Hp):Heap:=PySem.W.hideAll h (trk h H)
theorem ve(h:Heap)(H:Hp):(om h H).objs.size=h.objs.size:=PySem.W.hideAll_size _ _
theorem ww{o:Obj}(e:h.get? b=ς o)(n:H b=ψ):(om h H).get? b=ς o:=PySem.W.hideAll_get _ e fun O=>by have q:(H b).isSome=θ:=(za0.mp O).2;rw[n]at q;simp at q
theorem zO{o:Obj}(e:(om h H).get? b=ς o):h.get? b=ς o/\H b=ψ:=by
 have O:h.get? b=ς o:=PySem.W.of_hideAll (trk h H) e;refine⟨O,?_⟩;cases q:H b with
 |none=>rfl
 |some x=>have U:b∈trk h H:=za0.mpr ⟨zb7.mpr (qa6 O),by simp[q]⟩;have z:(om h H).get? b=ψ:=PySem.W.hideAll_none (trk h H) U;rw[z]at e;cases e
def zP(g h:Heap)(L:J5):η (J5×Obj):=(qm6 h.objs.size).filterMap fun a=>if a=L∨(g.get? a).isSome=θ then ψ else(h.get? a).map fun o=>(a,o)
def rest(g h:Heap)(L d:J5):η (J5×Obj):=(zP g h L).filter fun p=>decide (p.1≠d)
def nestNames:η Str:=["way_to_reading","spoilt"]
def EO(x:Str)(ss:η J8):η ((Nat×Nat)×Str):=ss.filterMap fun st=>match st with
 |.FunctionDef name _ _ _ _ _ _ _ _ pos=>ς ((pos.line,pos.col),x++".<locals>."++name)
 |_=>ψ
def Cr(K:xA9)(x:Str):ζ (J5×η ((Nat×Nat)×Str)):=match PySem.W.tabIn K x with
 |some (_,P)=>(match xB9 K qb5 x with
  |some (ς (.ref f))=>(match K.lookup f with
   |some o=>(match o.data with
    |.func fd=>(match fd.body with
     |.stmts b=>ς (P,EO x b)
     |_=>ψ)
    |_=>ψ)
   |none=>ψ)
  |_=>ψ)
 |none=>ψ
def p8(K:xA9):η (J5×η ((Nat×Nat)×Str)):=nestNames.filterMap (Cr K)
structure Mod(K:xA9)(mg:Str->Option Value)(base:Heap):Prop where
 kin:K.In base
 glob:base.Ns qb5 mg
 blt:∃mb,base.Ns builtinsNs mb/\∀x:Str,x≠"__name__"->mb x=qd5 x
 nolimit:base.NoLimit
structure Cx where
 prog:qc0
 w:J6
 K:xA9
 mg:Str->Option Value
 base:Heap
 A:qd8
 N:List Str
 s₀:qa4
 H₀:Hp
 env:Env
 outer:List Env
 stack:List Env
 ex:List J5
 fn:Str->Bool
 calm:Bool
 pn:List (J5×Obj)
 xe:Value->qa4->Prop
def frs(l:η Env):η J5:=l.filterMap (·.frame)
abbrev Cx.fs(X:Cx):η J5:=frs X.outer
def Vis(sc:Ja)(x:Str):Prop:=sc.names.lookup x=ς .local∨sc.names.lookup x=ς .cell∨sc.names.lookup x=ς .free
def Loc(sc:Ja)(x:Str):Prop:=sc.names.lookup x=ς .local∨sc.names.lookup x=ς .cell
def Look(env:Env)(h:Heap)(m:Str->ζ Value)(x:Str)(u:Value):Prop:=(env.kindOf x=ς .local/\m x=ς u)∨((env.kindOf x=ς .cell∨env.kindOf x=ς .free)/\∃c,env.cells.lookup x=ς c/\h.IsCell c (ς u))
structure Cx.Ok(X:Cx):Prop where
 mod:Mod X.K X.mg X.base
 kind:X.env.scope.kind=.function
 glob:X.env.globals=qb5
 blt:X.env.builtins=builtinsNs
 above:X.s₀.heap.objs.size<=X.env.locals
 inj:∀x y c,X.env.cells.lookup x=ς c->X.env.cells.lookup y=ς c->x=y
 has:∀x,(X.env.kindOf x=ς .cell∨X.env.kindOf x=ς .free)->∃c,X.env.cells.lookup x=ς c
 cab:∀x c,X.fn x=θ->X.env.cells.lookup x=ς c->X.s₀.heap.objs.size<=c
 hd:X.calm=θ->X.A.handled=ψ
 frames:X.A.frames=ς X.stack
 stk:X.stack=X.outer∨(X.stack=X.env::X.outer/\X.env.frame=ς X.env.locals)
 exf:∀b∈X.ex,b≠X.env.locals/\∀x c,X.env.cells.lookup x=ς c->c≠b
 bs:∀b o,X.base.get? b=ς o->X.s₀.heap.get? b=ς o/\X.H₀ b=ψ
 bsz:X.base.objs.size<=X.s₀.heap.objs.size
 noex:∀b o,X.base.get? b=ς o->b∉X.ex
 exfs:∀b∈X.ex,b∉X.fs
 funs:X.s₀.heap.FunFrames X.base X.outer
 frf:∀b∈X.fs,X.H₀ b=ψ
 tb:∀p∈p8 X.K,X.H₀ p.1=ς (.ctab p.2)
structure Inv(X:Cx)(J1:List (J5×Obj))(σ:List (Option V))(H:Hp)(s:qa4):Prop where
 ok:X.Ok
 os:s.os=X.s₀.os
 bare:qy2 s.gens
 base:Un X.fs X.ex X.H₀ H X.s₀.heap s.heap
 loc:∃m,s.heap.Ns X.env.locals m/\∀(i:Nat)(x:Str)(v:V),X.N[i]?=ς x->σ[i]?=ς (ς v)->Vis X.env.scope x->∃u,RelV v u/\Look X.env s.heap m x u
 cell:∀x c,X.env.cells.lookup x=ς c->∃v,s.heap.IsCell c v
 free:H X.env.locals=ψ
 freeC:∀x c,X.env.cells.lookup x=ς c->H c=ψ
 pin:∀p∈X.pn++J1,s.heap.get? p.1=ς p.2/\H p.1=ψ/\p.1≠X.env.locals/\p.1∉X.fs/\∀v,p.2.data≠.cell v
 hok:HOk X.prog X.w H s.heap
 len:σ.length=X.N.length
variable{g':Array GenState}{t' i j:Nat}{d':Drawn}{ch:η J5}{it:J5}{N:η Str}{x:Str}{M:Model}{A:qd8}{E:Value->qa4->Prop}{v:V}{s':qa4}
section
variable{X:Cx}{J1:η (J5×Obj)}{σ:η (ζ V)}{H H':Hp}{s:qa4}{h':Heap}
theorem Cx.Ok.nofr(ok:X.Ok){o:Obj}(e:X.base.get? b=ς o):b∉X.fs:=fun O=>by have:=(ok.funs.mem O).1;rw[e]at this;cases this
theorem Inv.bs(I:Inv X J1 σ H s):∀b o,X.base.get? b=ς o->s.heap.get? b=ς o/\H b=ψ:=fun b o e=>⟨I.base.keep b o (I.ok.bs b o e).1 (I.ok.bs b o e).2 (I.ok.nofr e) (I.ok.noex b o e),I.base.free b o (I.ok.bs b o e).1 (I.ok.bs b o e).2 (I.ok.noex b o e)⟩
theorem Inv.bk(I:Inv X J1 σ H s):∀b o,X.base.get? b=ς o->s.heap.get? b=ς o:=fun b o e=>(I.bs b o e).1
theorem Inv.mod(I:Inv X J1 σ H s):Mod X.K X.mg X.base:=I.ok.mod
theorem Inv.kIn(I:Inv X J1 σ H s):X.K.In s.heap:=I.ok.mod.kin.keeps I.bk
theorem Inv.fr(I:Inv X J1 σ H s):∃m,Fr X.base X.env.locals s.heap m:=
 let ⟨m,hn,_⟩:=I.loc
 ⟨m,hn,I.bk,qc5 I.ok.bsz I.ok.above⟩
theorem Inv.lt(I:Inv X J1 σ H s):X.env.locals<s.heap.objs.size:=let ⟨_,hn,_⟩:=I.loc;hn.lt
theorem Inv.sz(I:Inv X J1 σ H s):X.s₀.heap.objs.size<=s.heap.objs.size:=qc5 I.ok.above (qs2 I.lt)
theorem Inv.nofs(I:Inv X J1 σ H s)(h:s.heap.objs.size<=a):a∉X.fs:=fun U=>by obtain⟨_,o,O,_⟩:=I.ok.funs.mem U;exact absurd (qc3 (qa6 O) (qc5 I.sz h)) (qh6 _)
theorem Inv.cne(I:Inv X J1 σ H s):∀x c,X.env.cells.lookup x=ς c->c≠X.env.locals:=fun x c e z=>by obtain⟨v,o,Z,hd⟩:=I.cell x c e;obtain⟨m,⟨o',es,ep,O,U,_⟩,_⟩:=I.loc;rw[z,O]at Z;cases Z;rw[U]at hd;cases hd
theorem Inv.funs(I:Inv X J1 σ H s):s.heap.FunFrames X.base X.outer:=by
 have all:∀(l:η Env),(∀b∈frs l,b∈X.fs)->X.s₀.heap.FunFrames X.base l->s.heap.FunFrames X.base l:=by
  intro l;induction l with
  |nil=>intro _ _;trivial
  |cons env r ih=>
   intro hs hl;obtain⟨hk,⟨L,o,U,hn,ho,hd⟩,hr⟩:=hl;have O:L∈X.fs:=hs L (by unfold frs;rw[qb9,U];exact qa8);obtain⟨sl,e⟩:=I.base.slot L o ho (I.ok.frf L O) O fun z=>I.ok.exfs L z O
   exact⟨hk,⟨L,_,U,hn,e,hd⟩,ih (fun b Z=>hs b (by unfold frs;rw[qb9,U];exact qa3 _ Z)) hr⟩
 exact all X.outer (fun _ Z=>Z) I.ok.funs
theorem Inv.stack(I:Inv X J1 σ H s):s.heap.FunFrames X.base X.stack:=by
 rcases I.ok.stk with e|⟨e,U⟩
 .rw[e];exact I.funs
 .rw[e];obtain⟨m,O,_⟩:=I.loc;refine .cons (by rw[I.ok.kind];decide) U O ?_ I.funs;exact qt2 (qc5 I.ok.bsz I.ok.above)
theorem Inv.stkSub(I:Inv X J1 σ H s):∀b∈frs X.stack,b∈X.env.locals::X.fs:=fun b O=>by
 rcases I.ok.stk with e|⟨e,U⟩
 .rw[e]at O;exact qa3 _ O
 .rw[e]at O;unfold frs at O;rw[qb9,U]at O;exact O
theorem Inv.stkFree(I:Inv X J1 σ H s):∀b∈frs X.stack,H b=ψ:=fun b O=>by
 rcases qa9.mp (I.stkSub b O)with e|O
 .rw[e];exact I.free
 .obtain⟨_,o,U,_⟩:=I.ok.funs.mem O;exact I.base.free b o U (I.ok.frf b O) fun z=>I.ok.exfs b z O
theorem Inv.step(I:Inv X J1 σ H s)
 (hch:∀b∈ch,(b∈X.ex∨X.s₀.heap.objs.size<=b)/\b≠X.env.locals/\(∀x c,X.env.cells.lookup x=ς c->c≠b)/\∀p∈X.pn++J1,p.1≠b)
 (Z:∀b o,b≠X.env.locals->b∉X.fs->b∉ch->s.heap.get? b=ς o->H b=ψ->h'.get? b=ς o)
 (slot:∀b o,b≠X.env.locals->b∈X.fs->b∉ch->s.heap.get? b=ς o->H b=ψ->∃sl,h'.get? b=ς {o with slots:=sl}) (free:∀b o,b∉ch->s.heap.get? b=ς o->H b=ψ->H' b=ψ)
 (there:∀b o,b∉ch->s.heap.get? b=ς o->∃o',h'.get? b=ς o')
 (tups:∀b xs,H b=ς (.t xs)->H' b=ς (.t xs)) (frzs:∀b o u,H b=ς (.frz o u)->H' b=ς (.frz o u)) (tbls:∀b ps,H b=ς (.tbl ps)->∃more,H' b=ς (.tbl (ps++more))) (cts:∀b qs,H b=ς (.ctab qs)->H' b=ς (.ctab qs))
 (ns:∀m,s.heap.Ns X.env.locals m->h'.Ns X.env.locals m) (hok:HOk X.prog X.w H' h') (hg:qy2 g') :
  Inv X J1 σ H' {s with heap:=h',gens:=g',drawn:=d',toks:=t'}:=by
 have neL:∀b o,X.s₀.heap.get? b=ς o->b≠X.env.locals:=fun b o e=>qc8 (qc3 (qa6 e) I.ok.above)
 have neC:∀b o,X.s₀.heap.get? b=ς o->b∉X.ex->b∉ch:=fun b o e O hb=>by
  rcases(hch b hb).1 with z|z
  .exact O z
  .exact absurd (qc3 (qa6 e) z) (qh6 _)
 have cellK:∀x c,X.env.cells.lookup x=ς c->∀v,s.heap.IsCell c v->h'.IsCell c v:=fun x c e v ⟨o,ho,hd⟩=>by
  have U:c∉ch:=fun z=>(hch c z).2.2.1 x c e rfl
  by_cases hc:c∈X.fs
  .obtain⟨sl,q⟩:=slot c o (I.cne x c e) hc U ho (I.freeC x c e);exact⟨_,q,hd⟩
  .exact⟨o,Z c o (I.cne x c e) hc U ho (I.freeC x c e),hd⟩
 refine⟨I.ok,I.os,hg,⟨fun b o e n hb O=>?_,fun b o e n hb O=>?_,fun b o e n O=>?_,fun b o e O=>?_,fun b xs e=>tups b xs (I.base.tups b xs e),fun b o xs e=>frzs b o xs (I.base.frzs b o xs e),fun b ps e=>?_,fun b qs e=>cts b qs (I.base.cts b qs e)⟩,?_,fun x c e=>?_,?_,fun x c e=>?_,fun p hp=>?_,hok,I.len⟩
 .exact Z b o (neL b o e) hb (neC b o e O) (I.base.keep b o e n hb O) (I.base.free b o e n O)
 .obtain⟨sl,e1⟩:=I.base.slot b o e n hb O;obtain⟨sl',e2⟩:=slot b _ (neL b o e) hb (neC b o e O) e1 (I.base.free b o e n O);exact⟨sl',e2⟩
 .obtain⟨o',e1⟩:=I.base.there b o e O;exact free b o' (neC b o e O) e1 (I.base.free b o e n O)
 .obtain⟨o',e1⟩:=I.base.there b o e O;exact there b o' (neC b o e O) e1
 .obtain⟨m1,e1⟩:=I.base.tbls b ps e;obtain⟨m2,e2⟩:=tbls b _ e1;exact⟨m1++m2,by rw[e2,Array.append_assoc]⟩
 .obtain⟨m,hn,hl⟩:=I.loc;refine⟨m,ns m hn,fun i x v e1 e2 e3=>?_⟩;obtain⟨u,r,l⟩:=hl i x v e1 e2 e3;refine⟨u,r,?_⟩;rcases l with l|⟨k,c,e,z⟩
  .exact .inl l
  .exact .inr ⟨k,c,e,cellK x c e _ z⟩
 .obtain⟨v,z⟩:=I.cell x c e;exact⟨v,cellK x c e v z⟩
 .obtain⟨m,⟨o,_,_,ho,_⟩,_⟩:=I.loc;exact free _ o (fun z=>(hch _ z).2.1 rfl) ho I.free
 .obtain⟨v,o,ho,hd⟩:=I.cell x c e;exact free c o (fun z=>(hch c z).2.2.1 x c e rfl) ho (I.freeC x c e)
 .obtain⟨e,n,ne,nf,d⟩:=I.pin p hp;have U:p.1∉ch:=fun z=>(hch p.1 z).2.2.2 p hp rfl
  exact⟨Z p.1 p.2 ne nf U e n,free p.1 p.2 U e n,ne,nf,d⟩
theorem Inv.un(I:Inv X J1 σ H s)(u:Un X.fs [] H H' s.heap h')(hok:HOk X.prog X.w H' h'):Inv X J1 σ H' {s with heap:=h',toks:=t'}:=by
 obtain⟨m,⟨o,es,ep,ho,r⟩,_⟩:=id I.loc;obtain⟨sl,hL⟩:=u.any ho I.free Ξ
 exact I.step (g':=s.gens) (d':=s.drawn) (ch:=[]) (fun _ z=>nomatch z) (fun b o _ hb _ e n=>u.keep b o e n hb Ξ) (fun b o _ hb _ e n=>u.slot b o e n hb Ξ) (fun b o _ e n=>u.free b o e n Ξ) (fun b o _ e=>u.there b o e Ξ) u.tups u.frzs u.tbls u.cts (fun m' hm=>by
  obtain⟨o',U,Z,O,r'⟩:=hm;rw[ho]at O;cases O
  exact⟨_,U,Z,hL,r'⟩) hok I.bare
theorem Inv.call{ch:η J5}(I:Inv X J1 σ H s)(u:Un (frs X.stack) ch H H' s.heap h')(hok:HOk X.prog X.w H' h')(hg:qy2 g')
 (U:∀b∈ch,(b∈X.ex∨X.s₀.heap.objs.size<=b)/\b≠X.env.locals/\(∀x c,X.env.cells.lookup x=ς c->c≠b)/\∀p∈X.pn++J1,p.1≠b) :
  Inv X J1 σ H' {s with heap:=h',gens:=g',drawn:=d',toks:=t'}:=by
 obtain⟨m,⟨o,es,ep,ho,r⟩,_⟩:=id I.loc;obtain⟨sl,hL⟩:=u.any ho I.free fun z=>(U _ z).2.1 rfl
 exact I.step (ch:=ch) U (fun b o hL hb O e n=>u.keep b o e n (fun z=>(qa9.mp (I.stkSub b z)).elim hL hb) O) (fun b o _ _ O e n=>u.any e n O) (fun b o O e n=>u.free b o e n O) (fun b o O e=>u.there b o e O) u.tups u.frzs u.tbls u.cts (fun m' hm=>by
  obtain⟨o',es',ep',Z,r'⟩:=hm;rw[ho]at Z;cases Z
  exact⟨_,es',ep',hL,r'⟩) hok hg
theorem Inv.turned(I:Inv X J1 σ H s)(k:∀b o,b≠it->s.heap.get? b=ς o->h'.get? b=ς o)(hn:H it=ψ)(Z:it≠X.env.locals)
 (h1:it∈X.ex∨X.s₀.heap.objs.size<=it) (h2:∀x c,X.env.cells.lookup x=ς c->c≠it) (h3:∀p∈X.pn++J1,p.1≠it):Inv X J1 σ H {s with heap:=h',toks:=t'}:=by
 have U:∀b u,H b=ς u->b≠it:=fun b u e z=>by rw[z,hn]at e;cases e
 refine I.step (g':=s.gens) (d':=s.drawn) (ch:=[it]) (fun b hb=>?_) (fun b o _ _ O e _=>k b o (fun z=>O (by simp[z])) e) (fun b o _ _ O e _=>⟨o.slots,k b o (fun z=>O (by simp[z])) e⟩) (fun _ _ _ _ n=>n)
  (fun b o O e=>⟨o,k b o (fun z=>O (by simp[z])) e⟩) (fun _ _ e=>e) (fun _ _ _ e=>e) (fun b ps e=>⟨#[],by rw[e];simp⟩) (fun _ _ e=>e) (fun m hm=>?_) (fun b u e=>?_) I.bare
 .have e:b=it:=by simpa using hb
  subst e;exact⟨h1,Z,h2,h3⟩
 .obtain⟨o,es,ep,ho,r⟩:=hm;exact⟨o,es,ep,k _ o (qe7 Z) ho,r⟩
 .refine(I.hok b u e).stay (fun c v O q=>k c v ?_ q) (fun _ q=>q) (fun _ _ q=>q) fun _ _ _ q=>q
  rcases O with z|z
  .rw[z];exact U b u e
  .exact U c _ z
theorem Inv.tok(I:Inv X J1 σ H s)(t:Nat):Inv X J1 σ H {s with toks:=t}:=I.un (h':=s.heap) (t':=t) Un.refl I.hok
theorem Inv.kept(I:Inv X J1 σ H s)(k:∀b u,s.heap.get? b=ς u->h'.get? b=ς u):Inv X J1 σ H {s with heap:=h',toks:=t'}:=I.un (Un.kept k) (I.hok.kept k)
theorem Inv.laid (I:Inv X J1 σ H s) (k:∀ b u,s.heap.get? b=ς u->h'.get? b=ς u) (O:s.heap.objs.size<=a) (new:ObjOk X.prog X.w (upd H a o) h' a o) :
  Inv X J1 σ (upd H a o) {s with heap:=h',toks:=t'}:=I.un (Un.laid k O (I.hok.fresh O)) (I.hok.laid k O new)
theorem Inv.write{x e:J5}(I:Inv X J1 σ H s)(U:Mut (H x))(Z:e=x∨H e=ς (.own x))(k:∀b u,b≠e->s.heap.get? b=ς u->h'.get? b=ς u)(O:∃u,h'.get? e=ς u)(new:ObjOk X.prog X.w (upd H x o) h' x o):Inv X J1 σ (upd H x o) {s with heap:=h',toks:=t'}:=I.un (Un.write U Z k O) (I.hok.write U Z k O new)
theorem Inv.weak{O:η (ζ V)}(I:Inv X J1 σ H s)(Z:O.length=σ.length)(w:∀(i:Nat) v,O[i]?=ς (ς v)->σ[i]?=ς (ς v)):Inv X J1 O H s:=⟨I.ok,I.os,I.bare,I.base,let ⟨m,hn,hl'⟩:=I.loc;⟨m,hn,fun i x v e1 e2 U=>hl' i x v e1 (w i v e2) U⟩,I.cell,I.free,I.freeC,I.pin,I.hok,Z.trans I.len⟩
theorem Inv.pins_of{O:η (J5×Obj)}(I:Inv X J1 σ H s)(h:∀p∈O,s.heap.get? p.1=ς p.2/\H p.1=ψ/\p.1≠X.env.locals/\p.1∉X.fs/\∀v,p.2.data≠.cell v):Inv X O σ H s:=⟨I.ok,I.os,I.bare,I.base,I.loc,I.cell,I.free,I.freeC,fun p U=>(qe8.mp U).elim (fun z=>I.pin p (qj2 _ z)) (h p),I.hok,I.len⟩
theorem lD(O:N.Nodup)(a:N[i]?=ς x)(b:N[j]?=ς x):i=j:=by obtain⟨h1,e1⟩:=gX a;obtain⟨h2,e2⟩:=gX b;exact(List.getElem_inj O).mp (e1.trans e2.symm)
theorem jZ{Q:Unit->qa4->Prop}(I:Inv X J1 σ H s)(hN:X.N.Nodup)(hi:X.N[i]?=ς x)(hx:Loc X.env.scope x)(r:RelV v u)
 (h:∀s',Inv X J1 (σ.set i (ς v)) H s'->(∃a,qg6 a s.heap s'.heap/\(a=X.env.locals∨X.env.cells.lookup x=ς a))->Q () s') (hf:X.fn x=θ∨X.env.scope.names.lookup x=ς .local:=by first|exact .inl rfl|exact .inr rfl|assumption):wpAny M A (storeName X.env x u) Q E s:=by
 obtain⟨m,hn,hl⟩:=id I.loc;have hcls:(X.env.scope.kind==.class||(X.env.scope.kind==.module&&X.env.locals != X.env.globals))=ξ:=by rw[I.ok.kind];rfl
 have hiσ:i<σ.length:=by rw[I.len];exact(gX hi).1
 have cne:=I.cne
 have U:∀{a:J5}{h':Heap},(∃o,s.heap.get? a=ς o/\H a=ψ)->qg6 a s.heap h'->HOk X.prog X.w H h':=fun {a h'} ha O b ob e=>by
  obtain⟨_,_,hfree⟩:=ha;refine(I.hok b ob e).stay (fun c w' Z q=>(O.2 c ?_).trans q) (fun _ q=>q) (fun _ _ q=>q) fun _ _ _ q=>q
  rintro rfl;rcases Z with rfl|Z
  .rw[hfree]at e;cases e
  .rw[hfree]at Z;cases Z
 rcases hx with hk|hk
 .refine wpAny_storeName_local hk hn (fun h' hn' O=>?_) hcls;obtain⟨oL,_,_,hoL,_⟩:=id hn;refine h _ ⟨I.ok,I.os,I.bare,⟨fun b o e n hb hx=>?_,fun b o e n hb hx=>?_,I.base.free,fun b o e hx=>?_,I.base.tups,I.base.frzs,I.base.tbls,I.base.cts⟩,⟨_,hn',fun j y v' e1 e2 e3=>?_⟩,fun y c e=>?_,I.free,I.freeC,fun p hp=>?_,U ⟨oL,hoL,I.free⟩ O,by simpa using I.len⟩ ⟨_,O,.inl rfl⟩
  .exact(O.2 b (qc8 (qc3 (qa6 e) I.ok.above))).trans (I.base.keep b o e n hb hx)
  .obtain⟨sl,e1⟩:=I.base.slot b o e n hb hx;exact⟨sl,(O.2 b (qc8 (qc3 (qa6 e) I.ok.above))).trans e1⟩
  .obtain⟨o',e1⟩:=I.base.there b o e hx;exact⟨o',(O.2 b (qc8 (qc3 (qa6 e) I.ok.above))).trans e1⟩
  .by_cases hj:j=i
   .subst hj;rw[hi]at e1;cases e1
    rw[qm9 hiσ]at e2;cases e2;exact⟨u,r,.inl ⟨hk,Ξ⟩⟩
   .rw[gN (qe7 hj)]at e2;obtain⟨u',r',q⟩:=hl j y v' e1 e2 e3;refine⟨u',r',?_⟩;rcases q with ⟨k,e⟩|⟨k,c,e,z⟩
    .refine .inl ⟨k,?_⟩;have:y≠x:=fun e=>hj (lD hN e1 (e▸hi))
     simp[this,e]
    .exact .inr ⟨k,c,e,z.sameBut O (cne y c e)⟩
  .obtain⟨w',z⟩:=I.cell y c e;exact⟨w',z.sameBut O (cne y c e)⟩
  .obtain⟨e,n,ne,nf,d⟩:=I.pin p hp;exact⟨(O.2 p.1 ne).trans e,n,ne,nf,d⟩
 .have hfn:X.fn x=θ:=by
   rcases hf with z|z
   .exact z
   .rw[z]at hk;cases hk
  obtain⟨c,Z⟩:=I.ok.has x (.inl hk);obtain⟨w',z⟩:=I.cell x c Z;refine wpAny_storeName_cell I.ok.kind hk Z z (fun h' hc' O=>?_);obtain⟨oc,hoc,hocd⟩:=id z;refine h {s with heap:=h'} ⟨I.ok,I.os,I.bare,⟨fun b o e n hb hx=>?_,fun b o e n hb hx=>?_,I.base.free,fun b o e hx=>?_,I.base.tups,I.base.frzs,I.base.tbls,I.base.cts⟩,⟨m,hn.sameBut O (qe7 (cne x c Z)),fun j y v' e1 e2 e3=>?_⟩,fun y c' e=>?_,I.free,I.freeC,fun p hp=>?_,U ⟨oc,hoc,I.freeC x c Z⟩ O,by simpa using I.len⟩ ⟨c,O,.inr Z⟩
  .exact(O.2 b (qc8 (qc3 (qa6 e) (I.ok.cab x c hfn Z)))).trans (I.base.keep b o e n hb hx)
  .obtain⟨sl,e1⟩:=I.base.slot b o e n hb hx;exact⟨sl,(O.2 b (qc8 (qc3 (qa6 e) (I.ok.cab x c hfn Z)))).trans e1⟩
  .obtain⟨o',e1⟩:=I.base.there b o e hx;exact⟨o',(O.2 b (qc8 (qc3 (qa6 e) (I.ok.cab x c hfn Z)))).trans e1⟩
  .by_cases hj:j=i
   .subst hj;rw[hi]at e1;cases e1
    rw[qm9 hiσ]at e2;cases e2;exact⟨u,r,.inr ⟨.inl hk,c,Z,hc'⟩⟩
   .rw[gN (qe7 hj)]at e2;obtain⟨u',r',q⟩:=hl j y v' e1 e2 e3;refine⟨u',r',?_⟩;rcases q with q|⟨k,c',e,z'⟩
    .exact .inl q
    .refine .inr ⟨k,c',e,z'.sameBut O ?_⟩;rintro rfl;exact hj (lD hN e1 (I.ok.inj _ _ _ e Z▸hi))
  .by_cases hcc:c'=c
   .subst hcc;exact⟨_,hc'⟩
   .obtain⟨w2,z2⟩:=I.cell y c' e;exact⟨w2,z2.sameBut O hcc⟩
  .obtain⟨e,n,ne,nf,d⟩:=I.pin p hp;refine⟨(O.2 p.1 ?_).trans e,n,ne,nf,d⟩;intro q;rw[q,hoc]at e;have q':oc=p.2:=qc1 e;exact d w' (by rw[<- q'];exact hocd)
theorem gl{Q:Unit->qa4->Prop}(I:Inv X J1 σ H s)(U:X.N.Nodup)(hi:X.N[i]?=ς x)(Z:Loc X.env.scope x)(r:RelV v u)
 (h:∀s',Inv X J1 (σ.set i (ς v)) H s'->Q () s') (hf:X.fn x=θ∨X.env.scope.names.lookup x=ς .local:=by first|exact .inl rfl|exact .inr rfl|assumption):wpAny M A (storeName X.env x u) Q E s:=
 jZ I U hi Z r (fun s' O _=>h s' O) hf
theorem Inv.call'(I:Inv X J1 σ H s)(ho:s'.os=s.os)(u:Un (frs X.stack) ch H H' s.heap s'.heap)(U:HOk X.prog X.w H' s'.heap)(Z:qy2 s'.gens)
 (O:∀b∈ch,(b∈X.ex∨X.s₀.heap.objs.size<=b)/\b≠X.env.locals/\(∀x c,X.env.cells.lookup x=ς c->c≠b)/\∀p∈X.pn++J1,p.1≠b):Inv X J1 σ H' s':=by
 obtain⟨h',g',d',t',o'⟩:=s';have e:o'=s.os:=ho;subst e;exact I.call (g':=g') (t':=t') (d':=d') u U Z O
end
abbrev XK:=Value->ζ J5->Hp->Prop
abbrev St:=η (ζ V)
abbrev VK:=V->Hp->Prop
abbrev TE:=St->Hp->VK->Prop
abbrev TT:=St->Hp->(Bool->Hp->Prop)->Prop
abbrev TA:=St->Hp->(η V->Hp->Prop)->Prop
structure Ends where
 nx:St->Hp->Prop
 rt:VK
 bk:St->Hp->Prop:=fun _ _=>False
 ct:St->Hp->Prop:=fun _ _=>False
abbrev TS:=Ends->St->Hp->Prop
def EP(X:Cx)(J1:η (J5×Obj))(σ:St)(Q:VK)(u:Value)(s':qa4):Prop:=∃v H',Inv X J1 σ H' s'/\RelV v u/\Q v H'
def TP(X:Cx)(J1:η (J5×Obj))(σ:St)(Q:Bool->Hp->Prop)(b:Bool)(s':qa4):Prop:=∃H',Inv X J1 σ H' s'/\Q b H'
def AP(X:Cx)(J1:η (J5×Obj))(σ:St)(Q:η V->Hp->Prop)(us:η Value)(s':qa4):Prop:=∃vs H',Inv X J1 σ H' s'/\Vals vs us/\Q vs H'
def SP(X:Cx)(J1:η (J5×Obj))(D:Ends)(f:Flow)(s':qa4):Prop:=
 match f with
 |.next=>∃O H',Inv X J1 O H' s'/\D.nx O H'
 |.brk=>∃O H',Inv X J1 O H' s'/\D.bk O H'
 |.cont=>∃O H',Inv X J1 O H' s'/\D.ct O H'
 |.ret u=>∃v O H',Inv X J1 O H' s'/\RelV v u/\D.rt v H'
def PE(X:Cx)(e:J9)(t:TE):Prop:=∀(J1:η (J5×Obj))(s:qa4)(σ:St)(H:Hp)(Q:VK),Inv X J1 σ H s->t σ H Q->wpAny (model X.prog X.w) X.A (eval e X.env) (EP X J1 σ Q) X.xe s
def PT(X:Cx)(e:J9)(t:TT):Prop:=∀(J1:η (J5×Obj))(s:qa4)(σ:St)(H:Hp)(Q:Bool->Hp->Prop),Inv X J1 σ H s->t σ H Q->wpAny (model X.prog X.w) X.A (isTrue e X.env (eval e X.env)) (TP X J1 σ Q) X.xe s
def PW(X:Cx)(e:J9)(t:TT):Prop:=∀(O:Sem Value)(J1:η (J5×Obj))(s:qa4)(σ:St)(H:Hp)(Q:Bool->Hp->Prop),Inv X J1 σ H s->t σ H Q->wpAny (model X.prog X.w) X.A (isTrue e X.env O) (TP X J1 σ Q) X.xe s
variable{X:Cx}{e:J9}
theorem PW.pt{t:TT}(h:PW X e t):PT X e t:=h _
def PA(X:Cx)(es:η J9)(t:TA):Prop:=∀(pos:Pos)(J1:η (J5×Obj))(s:qa4)(σ:St)(H:Hp)(Q:η V->Hp->Prop),Inv X J1 σ H s->t σ H Q->wpAny (model X.prog X.w) X.A (spliced (qf2 pos (qa2 es X.env))) (AP X J1 σ Q) X.xe s
def PS(X:Cx)(st:J8)(t:TS):Prop:=∀(J1:η (J5×Obj))(s:qa4)(σ:St)(H:Hp)(D:Ends),Inv X J1 σ H s->t D σ H->wpAny (model X.prog X.w) X.A (exec st X.env) (SP X J1 D) X.xe s
def PSs(X:Cx)(st:η J8)(t:TS):Prop:=∀(J1:η (J5×Obj))(s:qa4)(σ:St)(H:Hp)(D:Ends),Inv X J1 σ H s->t D σ H->wpAny (model X.prog X.w) X.A (execs st X.env) (SP X J1 D) X.xe s
variable{s:qa4}
theorem thn{α:Type}{t:Sem α}{Q O:α->qa4->Prop}(h:wpAny M A t Q E s)(U:∀a s,Q a s->O a s):wpAny M A t O E s:=qf1 h U fun _ _ x=>x
variable{J1:η (J5×Obj)}{σ:St}{R:V->V->Hp->Prop}{pos:Pos}{Q:Value->qa4->Prop}{op:CmpOp}{c:J9}
section
variable{X:Cx}
theorem bin{a b:J9}{ta tb:TE}(Z:PE X a ta)(hb:PE X b tb)(I:Inv X J1 σ H s)(h:ta σ H fun x H1=>tb σ H1 fun y H2=>R x y H2)
 {α:Type} {Q:α->qa4->Prop} {f:Value->Value->Sem α}
 (hf:∀v u s2 x y H2,Inv X J1 σ H2 s2->RelV x v->RelV y u->R x y H2->wpAny (model X.prog X.w) X.A (f v u) Q X.xe s2) :
  wpAny (model X.prog X.w) X.A (eval a X.env) (fun v O=>wpAny (model X.prog X.w) X.A (eval b X.env) (fun u U=>wpAny (model X.prog X.w) X.A (f v u) Q X.xe U) X.xe O) X.xe s:=by
 refine thn (Z J1 s σ H _ I h) fun v s1 ⟨x,H1,I1,r1,q1⟩=>?_
 refine thn (hb J1 s1 σ H1 _ I1 q1) fun u s2 ⟨y,H2,I2,r2,q2⟩=>?_
 exact hf v u s2 x y H2 I2 r1 r2 q2
def gF(i:Nat):TE:=fun σ H Q=>∃v,σ[i]?=ς (ς v)/\Q v H
def tC(v:V):TE:=fun _ H Q=>Q v H
theorem Cs(hN:X.N[i]?=ς x)(hv:Vis X.env.scope x)(hd:(x==("__debug__":Str))=ξ:=by decide)(hcd:(x==("__classdict__":Str))=ξ:=by decide):PE X (.Name x pos) (gF i):=by
 intro J1 s σ H Q I h;obtain⟨v,e,h⟩:=h;obtain⟨m,hn,hl⟩:=I.loc;obtain⟨u,r,l⟩:=hl i x v hN e hv;have U:EP X J1 σ Q u s:=⟨v,H,I,r,h⟩;rcases l with ⟨Z,hm⟩|⟨Z,c,hc,O⟩
 .exact wpAny_Name (wpAny_loadName_local I.ok.kind Z hn hm U) hd
 .rcases Z with Z|Z
  .exact wpAny_Name (wpAny_loadName_cell I.ok.kind Z hc O U) hd
  .exact wpAny_Name (wpAny_loadName_free I.ok.kind Z hc O U hcd) hd
theorem Cu{i j pos}:PE X (.Constant (.int i) j pos) (tC (.int i)):=fun _ _ _ H _ I h=>wpAny_Constant_int ⟨.int i,H,I.tok _,⟨_,rfl⟩,h⟩
theorem EQ{b j pos}:PE X (.Constant (.bool b) j pos) (tC (.bl b)):=fun _ _ _ H _ I h=>Constant_bool ⟨.bl b,H,I,rfl,h⟩
theorem wx{j pos}:PE X (.Constant .none j pos) (tC .non):=fun _ _ _ H _ I h=>Constant_none ⟨.non,H,I,rfl,h⟩
theorem Cv{x j pos}:PE X (.Constant (.str x) j pos) (tC (.str x)):=fun _ _ _ H _ I h=>qv7 ⟨.str x,H,I.tok _,⟨_,rfl⟩,h⟩
def Gl(X:Cx)(x:Str):Prop:=X.env.kindOf x=ς .globalImplicit
theorem jp(I:Inv X J1 σ H s)(O:Gl X x)(U:X.mg x=ς u)(h:Q u s)
 (hd:(x==("__debug__":Str))=ξ:=by decide):wpAny (model X.prog X.w) X.A (eval (.Name x pos) X.env) Q E s:=
 qv4 I.ok.kind O (Calls.loadGlobal_global (by rw[I.ok.glob];exact I.mod.glob.keeps I.bk) U h) hd
theorem jh(I:Inv X J1 σ H s)(O:Gl X x)(hm:X.mg x=ψ)(Z:qd5 x=ς u)(h:Q u s)
 (U:x≠"__name__":=by decide) (hd:(x==("__debug__":Str))=ξ:=by decide):wpAny (model X.prog X.w) X.A (eval (.Name x pos) X.env) Q E s:=by
 obtain⟨mb,h1,h2⟩:=I.mod.blt;exact qv4 I.ok.kind O (Calls.loadGlobal_builtin (by rw[I.ok.glob];exact I.mod.glob.keeps I.bk) hm (by rw[I.ok.blt];exact h1.keeps I.bk) ((h2 x U).trans Z) h) hd
theorem zQ(O:Gl X x)(U:X.mg x=ς u)(r:RelV v u)(hd:(x==("__debug__":Str))=ξ:=by decide):PE X (.Name x pos) (tC v):=fun _ _ _ H _ I h=>jp I O U ⟨v,H,I,r,h⟩ hd
theorem zR(O:Gl X x)(hm:X.mg x=ψ)(Z:qd5 x=ς u)(r:RelV v u)(U:x≠"__name__":=by decide)(hd:(x==("__debug__":Str))=ξ:=by decide):PE X (.Name x pos) (tC v):=fun _ _ _ H _ I h=>jh I O hm Z ⟨v,H,I,r,h⟩ U hd
variable{a b:J9}{ta tb:TE}{pos:Pos}
def PC(X:Cx)(op:CmpOp)(a b:J9)(t:TE):Prop:=
 ∀(J1:η (J5×Obj))(s:qa4)(σ:St)(H:Hp)(Q:VK),Inv X J1 σ H s->t σ H Q→
  wpAny (model X.prog X.w) X.A (eval a X.env) (fun v O=>wpAny (model X.prog X.w) X.A (eval b X.env) (fun u U=>wpAny (model X.prog X.w) X.A (qe4 op v u) (EP X J1 σ Q) X.xe U) X.xe O) X.xe s
def tB(t:TE):TT:=fun σ H Q=>t σ H fun x H1=>∃c,x=.bl c/\Q c H1
theorem Cw{t:TE}(h:PC X op a b t)(h1:qh7 op b=ξ:=by first|exact nobehind _ Ω Ω|rfl):PE X (.Compare a [op] [b] pos) t:=fun J1 s σ H Q I O=>wpAny_Compare1 (h J1 s σ H Q I O) h1
theorem rW{t:TE}(h:PC X op a b t)(h1:qh7 op b=ξ:=by first|exact nobehind _ Ω Ω|rfl):PT X (.Compare a [op] [b] pos) (tB t):=by intro J1 s σ H Q I O;refine za1 (thn (h J1 s σ H _ I O) fun v s1 h1=>thn h1 fun u s2 h2=>thn h2 fun c s3 ⟨x,H1,Z,U,q1⟩=>?_) h1;obtain⟨d,rfl,q⟩:=q1;cases U;exact qg3 ⟨H1,Z,q⟩
variable{tA tB':TT}{rest:η J9}
def tAnd(t u:TT):TT:=fun σ H Q=>t σ H fun c H1=>if c=θ then u σ H1 Q else Q ξ H1
def tOr(t u:TT):TT:=fun σ H Q=>t σ H fun c H1=>if c=θ then Q θ H1 else u σ H1 Q
def tNot(t:TT):TT:=fun σ H Q=>t σ H fun c H1=>Q (!c) H1
theorem zS(O:PT X a tA):PW X (.BoolOp .And [a] pos) tA:=by
 intro U J1 s σ H Q I h;refine isTrue_and (thn (O J1 s σ H Q I h) fun c s1 e=>?_);cases c with
 |true=>exact isTrue_and_nil e
 |false=>exact e
theorem Cy(O:PT X a tA):PW X (.BoolOp .Or [a] pos) tA:=by
 intro U J1 s σ H Q I h;refine isTrue_or (thn (O J1 s σ H Q I h) fun c s1 e=>?_);cases c with
 |false=>exact isTrue_or_nil e
 |true=>exact e
theorem Cz(U:PT X a tA)(hb:PW X (.BoolOp .And (b::rest) pos) tB'):PW X (.BoolOp .And (a::b::rest) pos) (tAnd tA tB'):=by
 intro Z J1 s σ H Q I h;refine isTrue_and (thn (U J1 s σ H _ I h) fun c s1 ⟨H1,O,q1⟩=>?_);cases c with
 |true=>exact hb Z J1 s1 σ H1 Q O q1
 |false=>exact⟨H1,O,q1⟩
theorem ER(U:PT X a tA)(hb:PW X (.BoolOp .Or (b::rest) pos) tB'):PW X (.BoolOp .Or (a::b::rest) pos) (tOr tA tB'):=by
 intro Z J1 s σ H Q I h;refine isTrue_or (thn (U J1 s σ H _ I h) fun c s1 ⟨H1,O,q1⟩=>?_);cases c with
 |true=>exact⟨H1,O,q1⟩
 |false=>exact hb Z J1 s1 σ H1 Q O q1
theorem CA(O:PT X a tA):PT X (.UnaryOp .Not a pos) (tNot tA):=by intro J1 s σ H Q I h;exact isTrue_not (O J1 s σ H (fun c H1=>Q (!c) H1) I h)
def ES(ta tb:TE):TE:=fun σ H Q=>ta σ H fun x H1=>∃c,x=.bl c/\if c=θ then tb σ H1 Q else Q (.bl ξ) H1
def tOrV(ta tb:TE):TE:=fun σ H Q=>ta σ H fun x H1=>∃c,x=.bl c/\if c=θ then Q (.bl θ) H1 else tb σ H1 Q
def ET(ta:TE):TE:=fun σ H Q=>ta σ H fun x H1=>∃c,x=.bl c/\Q (.bl (!c)) H1
theorem CB{op}{t:TE}(h:PE X a t):PE X (.BoolOp op [a] pos) t:=fun J1 s σ H Q I O=>BoolOp_one (h J1 s σ H Q I O)
theorem CC(U:PE X a ta)(hb:PE X (.BoolOp .And (b::rest) pos) tb):PE X (.BoolOp .And (a::b::rest) pos) (ES ta tb):=by
 intro J1 s σ H Q I h;refine BoolOp_and (thn (U J1 s σ H _ I h) fun v s1 ⟨x,H1,O,Z,q1⟩=>?_);obtain⟨c,rfl,q1⟩:=q1;cases Z;refine qg3 ?_;cases c with
 |true=>exact hb J1 s1 σ H1 Q O q1
 |false=>exact⟨.bl ξ,H1,O,rfl,q1⟩
theorem EU(U:PE X a ta)(hb:PE X (.BoolOp .Or (b::rest) pos) tb):PE X (.BoolOp .Or (a::b::rest) pos) (tOrV ta tb):=by
 intro J1 s σ H Q I h;refine BoolOp_or (thn (U J1 s σ H _ I h) fun v s1 ⟨x,H1,O,Z,q1⟩=>?_);obtain⟨c,rfl,q1⟩:=q1;cases Z;refine qg3 ?_;cases c with
 |false=>exact hb J1 s1 σ H1 Q O q1
 |true=>exact⟨.bl θ,H1,O,rfl,q1⟩
theorem CD(O:PE X a ta):PE X (.UnaryOp .Not a pos) (ET ta):=by intro J1 s σ H Q I h;refine UnaryOp_ (thn (O J1 s σ H _ I h) fun v s1 ⟨x,H1,Z,U,q1⟩=>?_);obtain⟨c,rfl,q1⟩:=q1;cases U;exact not_of (qg3 ⟨.bl (!c),H1,Z,rfl,q1⟩)
def tIf(t:TT)(ta tb:TE):TE:=fun σ H Q=>t σ H fun c H1=>if c=θ then ta σ H1 Q else tb σ H1 Q
theorem wy(Z:PT X c tA)(U:PE X a ta)(hb:PE X b tb):PE X (.IfExp c a b pos) (tIf tA ta tb):=by
 intro J1 s σ H Q I h;refine wpAny_IfExp (thn (Z J1 s σ H _ I h) fun d s1 ⟨H1,O,q1⟩=>?_);cases d with
 |true=>exact U J1 s1 σ H1 Q O q1
 |false=>exact hb J1 s1 σ H1 Q O q1
end
def SqL(K:xA9)(H:Hp)(a:J5)(xs:η V):Prop:=Rd H a (.e xs)∨∃(o:Obj)(J4:Array Value)(n:Nat),K.lookup a=ς o/\o.cls=.type "list"/\o.dict=ψ/\o.data=.seq J4 n/\J4.size<=qa7/\Vals xs J4.toList
def SqT(K:xA9)(H:Hp)(a:J5)(xs:η V):Prop:=H a=ς (.t xs)∨∃(o:Obj)(J4:Array Value)(n:Nat),K.lookup a=ς o/\o.cls=.type "tuple"/\o.data=.seq J4 n/\J4.size<=qa7/\Vals xs J4.toList
def absV:Value->ζ V
 |.none=>ς .non
 |.bool b=>ς (.bl b)
 |.int i _=>ς (.int i)
 |.str x _=>ς (.str x)
 |.bytes b _=>ς (.byt b)
 |.float b _=>ς (.flt b)
 |.ref a=>ς (.ref a)
 |.type n=>ς (.ty n)
 |_=>ψ
theorem RelV.abs{x:V}(r:RelV x u):absV u=ς x:=by
 cases x with
 |non=>cases r;rfl
 |bl _=>cases r;rfl
 |int _=>obtain⟨t,rfl⟩:=r;rfl
 |str _=>obtain⟨t,rfl⟩:=r;rfl
 |byt _=>obtain⟨t,rfl⟩:=r;rfl
 |flt _=>obtain⟨t,rfl⟩:=r;rfl
 |ref _=>cases r;rfl
 |ty _=>cases r;rfl
variable{y:V}
theorem RelV.inj{x:V}(r:RelV x u)(q:RelV y u):x=y:=qc1 (r.abs.symm.trans q.abs)
theorem Vals.inj:∀{xs ys:η V}{us:η Value},Vals xs us->Vals ys us->xs=ys
 |_,_,_,.nil,.nil=>rfl
 |_,_,_,.cons r t,.cons r' t'=>by rw[r.inj r',Vals.inj t t']
variable{K:xA9}
section
variable{X:Cx}{J1:η (J5×Obj)}{σ:St}{H:Hp}{s:qa4}{a:J5}{xs ys:η V}
theorem SqL.of(h:H a=ς (.e xs)):SqL K H a xs:=.inl (.inl h)
theorem SqT.of(h:H a=ς (.t xs)):SqT K H a xs:=.inl h
theorem Inv.list(I:Inv X J1 σ H s)(h:SqL X.K H a xs):∃J4:η Value,Vals xs J4/\PlainL s.heap a J4.toArray/\xs.length<=qa7:=by
 rcases h with h|⟨o,J4,n,Z,U,hd,O,hz,r⟩
 .obtain⟨z,J4,n,r,e⟩:=h.ok I.hok;exact⟨J4,r,⟨_,n,e,rfl,rfl,rfl⟩,z⟩
 .refine⟨J4.toList,r,⟨o,n,I.kIn a o Z,U,hd,by simpa using O⟩,?_⟩;have e:=r.length;simp only[qp5]at e;lia
theorem Inv.tuple(I:Inv X J1 σ H s)(h:SqT X.K H a xs):∃J4:η Value,Vals xs J4/\IsTup s.heap a J4.toArray/\xs.length<=qa7:=by
 rcases h with h|⟨o,J4,n,Z,U,O,hz,r⟩
 .obtain⟨z,J4,r,p⟩:=(Rd.of h).ok I.hok;exact⟨J4,r,p,z⟩
 .refine⟨J4.toList,r,⟨o,I.kIn a o Z,U,n,by simpa using O⟩,?_⟩;have e:=r.length;simp only[qp5]at e;lia
theorem Inv.list_inj(I:Inv X J1 σ H s)(h:SqL X.K H a xs)(h':SqL X.K H a ys):xs=ys:=by
 obtain⟨J4,r,⟨o,n,e,_,_,d⟩,_⟩:=I.list h;obtain⟨its',r',⟨o',Z,O,_,_,d'⟩,_⟩:=I.list h';rw[e]at O;cases O
 rw[d]at d';injection d' with U _;have:J4=its':=by simpa using congrArg Array.toList U
 subst this;exact r.inj r'
theorem Inv.tuple_inj(I:Inv X J1 σ H s)(h:SqT X.K H a xs)(h':SqT X.K H a ys):xs=ys:=by
 obtain⟨J4,r,⟨o,e,_,n,d⟩,_⟩:=I.tuple h;obtain⟨its',r',⟨o',O,_,Z,d'⟩,_⟩:=I.tuple h';rw[e]at O;cases O
 rw[d]at d';injection d' with U _;have:J4=its':=by simpa using congrArg Array.toList U
 subst this;exact r.inj r'
end
abbrev Cx.wish(X:Cx)(E:Value->qa4->Prop):Cx:={X with xe:=E}
abbrev Cx.nox(X:Cx):Cx:=X.wish fun _ _=>False
theorem Cx.Ok.wish(ok:X.Ok)(E:Value->qa4->Prop):(X.wish E).Ok:=⟨ok.mod,ok.kind,ok.glob,ok.blt,ok.above,ok.inj,ok.has,ok.cab,ok.hd,ok.frames,ok.stk,ok.exf,ok.bs,ok.bsz,ok.noex,ok.exfs,ok.funs,ok.frf,ok.tb⟩
theorem Cx.Ok.unwish(ok:(X.wish E).Ok):X.Ok:=⟨ok.mod,ok.kind,ok.glob,ok.blt,ok.above,ok.inj,ok.has,ok.cab,ok.hd,ok.frames,ok.stk,ok.exf,ok.bs,ok.bsz,ok.noex,ok.exfs,ok.funs,ok.frf,ok.tb⟩
section
variable{X:Cx}{J1:η (J5×Obj)}{σ:St}{H:Hp}{s:qa4}{E:Value->qa4->Prop}
theorem Inv.wish(I:Inv X J1 σ H s)(E:Value->qa4->Prop):Inv (X.wish E) J1 σ H s:=⟨I.ok.wish E,I.os,I.bare,I.base,I.loc,I.cell,I.free,I.freeC,I.pin,I.hok,I.len⟩
theorem Inv.unwish(I:Inv (X.wish E) J1 σ H s):Inv X J1 σ H s:=⟨I.ok.unwish,I.os,I.bare,I.base,I.loc,I.cell,I.free,I.freeC,I.pin,I.hok,I.len⟩
theorem SP.unwish{D:Ends}{f:Flow}(h:SP (X.wish E) J1 D f s'):SP X J1 D f s':=by
 cases f with
 |next=>obtain⟨O,H',I,q⟩:=h;exact⟨O,H',I.unwish,q⟩
 |brk=>obtain⟨O,H',I,q⟩:=h;exact⟨O,H',I.unwish,q⟩
 |cont=>obtain⟨O,H',I,q⟩:=h;exact⟨O,H',I.unwish,q⟩
 |ret u=>obtain⟨v,O,H',I,r,q⟩:=h;exact⟨v,O,H',I.unwish,r,q⟩
theorem PSs.nox{st:η J8}{t:TS}(h:PSs X.nox st t):PSs X st t:=fun J1 s σ H D I O=>qf1 (h J1 s σ H D (I.wish _) O) (fun _ _ q=>q.unwish) fun _ _ z=>qf3 z
end
section
variable{X:Cx}{st:J8}{rest:η J8}{t u:TS}{e:J9}{te:TE}{pos:Pos}
def EV:TS:=fun D σ H=>D.nx σ H
def CF(t u:TS):TS:=fun D σ H=>t {D with nx:=u D} σ H
theorem zT:PSs X [] EV:=fun _ _ σ H _ I h=>qq3 ⟨σ,H,I,h⟩
theorem lE(h1:PS X st t)(h2:PSs X rest u):PSs X (st::rest) (CF t u):=by
 intro J1 s σ H D I h;refine qs5 (thn (h1 J1 s σ H {D with nx:=u D} I h) fun f s1 q=>?_);cases f with
 |next=>obtain⟨O,H',U,q⟩:=q;exact h2 J1 s1 O H' D U q
 |ret v=>exact q
 |brk=>exact q
 |cont=>exact q
theorem fS(h1:PS X st t):PSs X [st] t:=by
 intro J1 s σ H D I h;refine qs5 (thn (h1 J1 s σ H D I h) fun f s1 q=>?_);cases f with
 |next=>exact qq3 q
 |ret v=>exact q
 |brk=>exact q
 |cont=>exact q
theorem Inv.quiet(I:Inv X J1 σ H s):interactive X.env=ξ:=by simp[interactive,I.ok.kind]
def EW(te:TE):TS:=fun D σ H=>te σ H fun _ H1=>D.nx σ H1
theorem oq(O:PE X e te)(U:qf7 e ψ pos.line X.env=pure ξ:=by rfl):PS X (.Expr e pos) (EW te):=by intro J1 s σ H D I h;exact wpAny_Expr_any (thn (O J1 s σ H _ I h) fun v s1 ⟨x,H1,Z,r1,q1⟩=>⟨σ,H1,Z,q1⟩) I.quiet U
def tRet(te:TE):TS:=fun D σ H=>te σ H D.rt
theorem wA(U:PE X e te):PS X (.Return (ς e) pos) (tRet te):=by intro J1 s σ H D I h;exact wpAny_Return_some (thn (U J1 s σ H _ I h) fun v s1 ⟨x,H1,Z,O,q1⟩=>⟨x,σ,H1,Z,O,q1⟩)
def tIfS(c:TT)(t u:TS):TS:=fun D σ H=>c σ H fun b H1=>if b=θ then t D σ H1 else u D σ H1
theorem BJ{a b:η J8}{tc:TT}(Z:PT X c tc)(U:PSs X a t)(hb:PSs X b u):PS X (.If c a b pos) (tIfS tc t u):=by
 intro J1 s σ H D I h;refine wpAny_If (thn (Z J1 s σ H _ I h) fun d s1 ⟨H1,O,q1⟩=>?_);cases d with
 |true=>exact U J1 s1 σ H1 D O q1
 |false=>exact hb J1 s1 σ H1 D O q1
end
abbrev TG:=V->St->Hp->(St->Hp->Prop)->Prop
abbrev TGs:=η V->St->Hp->(St->Hp->Prop)->Prop
def PG(X:Cx)(O:J9)(t:TG):Prop:=
 ∀(J1:η (J5×Obj))(s:qa4)(σ:St)(H:Hp)(v:V)(u:Value)(Q:St->Hp->Prop),Inv X J1 σ H s->RelV v u->t v σ H Q→
  wpAny (model X.prog X.w) X.A (qw7 O X.env u) (fun _ s'=>∃U H',Inv X J1 U H' s'/\Q U H') X.xe s
def PGs(X:Cx)(ts:η J9)(t:TGs):Prop:=
 ∀(J1:η (J5×Obj))(s:qa4)(σ:St)(H:Hp)(vs:η V)(us:η Value)(Q:St->Hp->Prop),Inv X J1 σ H s->Vals vs us->t vs σ H Q→
  wpAny (model X.prog X.w) X.A (assignInOrder ((qi4 ts X.env).map (·.2)) us) (fun _ s'=>∃O H',Inv X J1 O H' s'/\Q O H') X.xe s
abbrev CG:=V->V->V->Hp->(Hp->Prop)->Prop
def PSet(X:Cx)(t:CG):Prop:=
 ∀(J1:η (J5×Obj))(s:qa4)(σ:St)(H:Hp)(o i v:V)(U O u:Value)(Q:Hp->Prop),Inv X J1 σ H s->RelV o U->RelV i O->RelV v u->t o i v H Q→
  wpAny (model X.prog X.w) X.A (setItem U O u) (fun _ s'=>∃H',Inv X J1 σ H' s'/\Q H') X.xe s
abbrev TIp:=V->V->Hp->VK->Prop
def PIp(X:Cx)(op:Operator)(t:TIp):Prop:=
 ∀(J1:η (J5×Obj))(s:qa4)(σ:St)(H:Hp)(x y:V)(v u:Value)(Q:VK),Inv X J1 σ H s->RelV x v->RelV y u->t x y H Q→
  wpAny (model X.prog X.w) X.A (inplaceOp op v u) (EP X J1 σ Q) X.xe s
variable{es:η J9}{n:Nat}{tg:J9}{te:TE}{g:TG}{pos':Pos}
section
variable{X:Cx}{pos:Pos}
def jq(i:Nat):TG:=fun v σ H Q=>Q (σ.set i (ς v)) H
theorem tN(U:X.N.Nodup)(hi:X.N[i]?=ς x)(Z:Loc X.env.scope x)(hf:X.fn x=θ∨X.env.scope.names.lookup x=ς .local:=by first|exact .inl rfl|exact .inr rfl|assumption):PG X (.Name x pos) (jq i):=by intro J1 s σ H v u Q I r h;exact qw8 (gl I U hi Z r (fun s' O=>⟨_,H,O,h⟩) hf)
def gNil:TGs:=fun vs σ H Q=>vs=[]/\Q σ H
def EX(t:TG)(u:TGs):TGs:=fun vs σ H Q=>∃v r,vs=v::r/\t v σ H fun O H'=>u r O H' Q
theorem zU:PGs X [] gNil:=by intro J1 s σ H vs us Q I r h;obtain⟨e,h⟩:=h;subst e;cases r;exact assignInOrder_nil ⟨σ,H,I,h⟩
theorem wC{t:TG}{u:TGs}(h1:PG X e t)(h2:PGs X es u)
 (U:(qi4 (e::es) X.env).map (·.2)=qw7 e X.env::(qi4 es X.env).map (·.2):=by rfl):PGs X (e::es) (EX t u):=by
 intro J1 s σ H vs us Q I r h;obtain⟨v,vr,e1,h⟩:=h;subst e1;cases r with
 |cons r Z=>rw[U];refine assignInOrder_cons (thn (h1 J1 s σ H _ _ _ I r h) fun _ s1 ⟨O,H1,I1,q1⟩=>?_);exact h2 J1 s1 O H1 _ _ Q I1 Z q1
def gTup(K:xA9)(n:Nat)(t:TGs):TG:=fun v σ H Q=>∃a xs,v=.ref a/\SqT K H a xs/\xs.length=n/\t xs σ H Q
theorem CH{k:Nat}{t:TGs}(hc:X.calm=θ)(h:PGs X es t)
 (hn:(qi4 es X.env).length=n:=by rfl) (U:(qi4 es X.env).findIdx? (·.1)=ψ:=by rfl):PG X (.Tuple es k pos) (gTup X.K n t):=by
 intro J1 s σ H v u Q I r O;obtain⟨a,xs,e1,hq,hl,O⟩:=O;subst e1;cases r;obtain⟨J4,Z,ht,hz⟩:=I.tuple hq;refine assign_Tuple_tuple (I.ok.hd hc) ht (by simp[hn,<- hl,Z.length]) U fun h' hx=>?_
 have I1:Inv X J1 σ H {s with heap:=h'}:=I.kept (t':=s.toks) fun b o e=>hx b o (qc8 (qa6 e)) e
 exact h J1 _ σ H xs _ Q I1 (by simpa using Z) O
def gSub(to ti:TE)(t:CG):TG:=fun v σ H Q=>to σ H fun o H1=>ti σ H1 fun i H2=>t o i v H2 fun O=>Q σ O
theorem CI {o i:J9} {to ti:TE} {t:CG} (Z:PE X o to) (hi:PE X i ti) (hs:PSet X t)
  (ha:∀v,qw7 (.Subscript o i pos) X.env v=(do
   let O <- za2 [v] (eval o X.env);let U <- za2 [v,O] (eval i X.env)
   standAt pos
   za2 [v,O,U] (setItem O U v)
   release [v,O,U] []):=by intro _;rfl):PG X (.Subscript o i pos) (gSub to ti t):=by
 intro J1 s σ H v u Q I r h;rw[ha];refine wB (qi6 (thn (Z J1 s σ H _ I h) fun O s1 ⟨x,H1,I1,r1,q1⟩=>?_));refine wB (qi6 (thn (hi J1 s1 σ H1 _ I1 q1) fun U s2 ⟨y,H2,I2,r2,q2⟩=>?_));refine wB (qo1 (wB (qi6 (thn (hs J1 s2 σ H2 x y v O U u _ I2 r1 r2 r q2) fun _ s3 ⟨H3,I3,q3⟩=>?_))));exact wpAny_release ⟨σ,H3,I3,q3⟩
def vf(te:TE)(g:TG):TS:=fun D σ H=>te σ H fun x H1=>g x σ H1 D.nx
theorem CJ(Z:PE X e te)(O:PG X tg g)(hs:swapsWithSole [tg] e pos.line X.env=pure ξ:=by rfl)(U:swappedStores [tg] e X.env=pure ψ:=by rfl)
 (h1:(qi4 [tg] X.env).map (·.2)=[qw7 tg X.env]:=by rfl):PS X (.Assign [tg] e pos) (vf te g):=by
 intro J1 s σ H D I h;refine wpAny_Assign_stores (thn (Z J1 s σ H _ I h) fun v s1 ⟨x,H1,I1,r1,q1⟩=>?_) hs U;rw[h1];exact thn (O J1 s1 σ H1 x v _ I1 r1 q1) fun _ s2 q=>q
theorem wE (Z:X.N.Nodup) (hi:X.N[i]?=ς x) (hx:Loc X.env.scope x) (O:PE X e te) (U:qf7 e (ς (.Name x pos')) pos.line X.env=pure ξ:=by rfl) (hf:X.fn x=θ∨X.env.scope.names.lookup x=ς .local:=by first | exact .inl rfl | exact .inr rfl | assumption) :
  PS X (.Assign [.Name x pos'] e pos) (vf te (jq i)):=by
 intro J1 s σ H D I h;refine qw9 (thn (O J1 s σ H _ I h) fun v s1 ⟨y,H1,I1,r1,q1⟩=>?_) U;exact gl I1 Z hi hx r1 (fun s2 I2=>⟨_,H1,I2,q1⟩) hf
def tAug(i:Nat)(te:TE)(ti:TIp):TS:=fun D σ H=>∃x,σ[i]?=ς (ς x)/\te σ H fun y H1=>ti x y H1 fun z H2=>D.nx (σ.set i (ς z)) H2
theorem CK {op:Operator} {ti:TIp} (hN:X.N.Nodup) (hi:X.N[i]?=ς x) (hx:Loc X.env.scope x) (he:PE X e te) (ho:PIp X op ti) (hf:X.fn x=θ∨X.env.scope.names.lookup x=ς .local:=by first | exact .inl rfl | exact .inr rfl | assumption) :
  PS X (.AugAssign (.Name x pos') op e pos) (tAug i te ti):=by
 intro J1 s σ H D I h;obtain⟨v,e1,h⟩:=h;obtain⟨m,hn,hl⟩:=I.loc;have vis:Vis X.env.scope x:=by rcases hx with k|k;exact .inl k;exact .inr (.inl k)
 obtain⟨u,r,l⟩:=hl i x v hi e1 vis;refine wpAny_AugAssign_Name ?_
 have go:wpAny (model X.prog X.w) X.A (eval e X.env) (fun w Z=>wpAny (model X.prog X.w) X.A (inplaceOp op u w) (fun r s₃=>wpAny (model X.prog X.w) X.A (storeName X.env x r) (fun _=>SP X J1 D .next) X.xe s₃) X.xe Z) X.xe s:=by
  refine thn (he J1 s σ H _ I h) fun w s1 ⟨y,H1,I1,r1,q1⟩=>?_
  refine thn (ho J1 s1 σ H1 v y u w _ I1 r r1 q1) fun z s2 ⟨zv,H2,I2,r2,q2⟩=>?_
  exact gl I2 hN hi hx r2 (fun s3 I3=>⟨_,H2,I3,q2⟩) hf
 rcases l with ⟨O,hm⟩|⟨O,c,hc,U⟩
 .exact wpAny_loadName_local I.ok.kind O hn hm go
 .rcases O with O|O
  .exact wpAny_loadName_cell I.ok.kind O hc U go
  .rcases hx with k|k
   .have:X.env.scope.names.lookup x=ς .free:=O;rw[k]at this;cases this
   .have:X.env.scope.names.lookup x=ς .free:=O;rw[k]at this;cases this
def ipI(f:Int->Int->Int):TIp:=fun x y H Q=>∃i j,x=.int i/\y=.int j/\Q (.int (f i j)) H
theorem CL:PIp X .Add (ipI fun i j=>i+j):=by intro J1 s σ H x y v u Q I O U h;obtain⟨i,j,e1,e2,q⟩:=h;subst e1;subst e2;obtain⟨t,rfl⟩:=O;obtain⟨t',rfl⟩:=U;exact iadd_int ⟨.int _,H,I.tok _,⟨_,rfl⟩,q⟩
end
structure It where
 go:Nat->Hp->Prop
 yld:Nat->Hp->V->Hp->Prop
 stop:Nat->Hp->Prop
def f7(X:Cx)(J1:η (J5×Obj))(H:Hp)(b:J5):Prop:=H b=ψ/\b≠X.env.locals/\b∉X.fs/\(b∈X.ex∨X.s₀.heap.objs.size<=b)/\(∀x c,X.env.cells.lookup x=ς c->c≠b)/\∀p∈X.pn++J1,p.1≠b
theorem Inv.fpOk{H':Hp}(I:Inv X J1 σ H s)(O:s.heap.objs.size<=b)(U:H' b=ψ):f7 X J1 H' b:=by
 refine⟨U,qn5 (qc3 I.lt O),I.nofs O,.inr (qc5 I.sz O),fun x c e z=>?_,fun p Z z=>?_⟩
 .obtain⟨v,q⟩:=I.cell x c e;exact absurd (qc3 q.lt (by rw[z];exact O)) (qh6 _)
 .exact absurd (qc3 (qa6 (I.pin p Z).1) (by rw[z];exact O)) (qh6 _)
structure Turn(P:qc0)(w:J6)(K:xA9)(tg:J9)(J:It)(fp:List J5)(it:J5)(tn:Nat->Heap->Prop):Prop where
 mem:it∈fp
 obj:∀i h,tn i h->∀b∈fp,∃o,h.get? b=ς o/\∀v,o.data≠.cell v
 keep:∀i h h',tn i h->(∀b∈fp,∀o,h.get? b=ς o->h'.get? b=ς o)->tn i h'
 item:∀(X:Cx),X.prog=P->X.w=w->X.K=K->X.calm=θ->∀(i:Nat)(J1:List (J5×Obj))(s:qa4)(σ:St)(H:Hp)(E:Value->qa4->Prop),Inv X J1 σ H s->(∀b∈fp,f7 X J1 H b)->tn i s.heap->J.go i H→
  wpAny (model P w) X.A (zf3 (.ref it)) (fun r s1=>∃u,r=ς u∧wpAny (model P w) X.A (qu8 tg (.ref it) u) (fun _ s2=>∃x H',Inv X J1 σ H' s2/\RelV x u/\J.yld i H x H'/\tn (i+1) s2.heap/\∀b∈fp,H' b=ψ) E s1) E s
 done:∀(X:Cx),X.prog=P->X.w=w->X.K=K->X.calm=θ->∀(i:Nat)(J1:List (J5×Obj))(s:qa4)(σ:St)(H:Hp)(E:Value->qa4->Prop),Inv X J1 σ H s->(∀b∈fp,f7 X J1 H b)->tn i s.heap->J.stop i H→
  wpAny (model P w) X.A (zf3 (.ref it)) (fun r s1=>r=ψ/\Inv X J1 σ H s1) E s
 self:∀(A:qd8)(i:Nat)(s:qa4)(Q E:Value->qa4->Prop),tn i s.heap->Q (.ref it) s->wpAny (model P w) A (pyIter (.ref it)) Q E s
abbrev TI:=St->Hp->(It->Hp->Prop)->Prop
def PIE(X:Cx)(J1:η (J5×Obj))(σ:St)(tg:J9)(R:It->Hp->Prop)(O:Value)(s2:qa4):Prop:=∃(it:J5)(fp:η J5)(U:Nat->Heap->Prop)(J:It)(H':Hp),O=.ref it/\Inv X J1 σ H' s2/\Turn X.prog X.w X.K tg J fp it U/\U 0 s2.heap/\(∀b∈fp,f7 X J1 H' b)/\R J H'
def PI(X:Cx)(tg iter:J9)(wi:TI):Prop:=
 ∀(J1:η (J5×Obj))(s:qa4)(σ:St)(H:Hp)(R:It->Hp->Prop),Inv X J1 σ H s->wi σ H R→
  wpAny (model X.prog X.w) X.A (eval iter X.env) (fun v s1=>wpAny (model X.prog X.w) X.A (pyIter v) (PIE X J1 σ tg R) X.xe s1) X.xe s
theorem p9{o:Obj}{n:String}{vs:Array Value}{Q:Unit->qa4->Prop}(Z:s.heap.get? it=ς o)(hc:o.cls=.type n)(hd:o.data=.fields vs)
 (U:["enumerate","zip","dict_itemiterator","dict_reverseitemiterator","odict_iterator","itertools.zip_longest","itertools.pairwise"].contains n=ξ) (O:Q () s):wpAny M A (qu8 tg (.ref it) u) Q E s:=by
 unfold qu8
 cases tg<;>first
  |exact qb1 O
  | (cases u<;>first
      |exact qb1 O
      | (refine wB (wpAny_load Z ?_)
         rw[hc,hd];show wpAny M A (if(["enumerate","zip","dict_itemiterator","dict_reverseitemiterator","odict_iterator","itertools.zip_longest","itertools.pairwise"].contains n&&vs[0]?==ς (ql4 _))=θ then _ else _) Q E s;rw[if_neg (by intro h;rw[U,zb8]at h;cases h)];exact qb1 O))
def Itl(K:xA9)(a:J5):It:=⟨fun i H=>∃xs x,SqL K H a xs/\xs[i]?=ς x,fun i H x H'=>H'=H/\∀xs,SqL K H a xs->xs[i]?=ς x,fun i H=>∃xs,SqL K H a xs/\xs.length<=i⟩
def Itt(K:xA9)(a:J5):It:=⟨fun i H=>∃xs x,SqT K H a xs/\xs[i]?=ς x,fun i H x H'=>H'=H/\∀xs,SqT K H a xs->xs[i]?=ς x,fun i H=>∃xs,SqT K H a xs/\xs.length<=i⟩
def Itr(lo:Int)(n:Nat):It:=⟨fun i _=>i<n,fun i H x H'=>H'=H/\x=.int (lo+i),fun i _=>n<=i⟩
theorem vg{w:J6}(a it:J5):Turn P w K tg (Itl K a) [it] it (fun i h=>h.IsListIter it a i) where
 mem:=by simp
 obj:=fun i h st b O=>by
  have e:b=it:=by simpa using O
  subst e;obtain⟨o,e,c,d⟩:=st;exact⟨o,e,fun v z=>by rw[d]at z;cases z⟩
 keep:=fun i h h' st k=>st.at fun o e=>k it Ξ o e
 item:=by
  intro X hP hw hK hc i J1 s σ H E I hf st hg;subst hP hw hK;obtain⟨xs,x,Z,hx⟩:=hg;obtain⟨J4,rv,p,hz⟩:=I.list Z;obtain⟨u,hu,ru⟩:=rv.get hx;obtain⟨f0,f1,f2,f3,f4,f5⟩:=hf it Ξ;refine wpAny_pyNext_list_item st p.isList (x:=u) (by simpa using hu) fun h' U sb=>?_
  have I1:Inv X J1 σ H {s with heap:=h'}:=I.turned (t':=s.toks) (fun b o O e=>(sb.2 b O).trans e) f0 f1 f3 f4 f5;obtain⟨o,e,c,d⟩:=id U;exact⟨u,rfl,p9 (s:={s with heap:=h'}) e c d Ω ⟨x,H,I1,ru,⟨rfl,fun ys hy=>by rw[I.list_inj hy Z];exact hx⟩,U,fun b O=>(hf b O).1⟩⟩
 done:=by intro X hP hw hK hc i J1 s σ H E I hf st hg;subst hP hw hK;obtain⟨xs,Z,hx⟩:=hg;obtain⟨J4,rv,p,hz⟩:=I.list Z;obtain⟨f0,f1,f2,f3,f4,f5⟩:=hf it Ξ;have hl:=rv.length;exact wpAny_pyNext_list_end (I.ok.hd hc) st p.isList (by simp;lia) fun h' eb=>⟨rfl,I.turned (t':=s.toks) (fun b o O e=>eb b o O e) f0 f1 f3 f4 f5⟩
 self:=fun _ _ _ _ _ st h=>wpAny_pyIter_listiter st h
theorem rX{w:J6}(a it:J5):Turn P w K tg (Itt K a) [it] it (fun i h=>h.IsTupleIter it a i) where
 mem:=by simp
 obj:=fun i h st b O=>by
  have e:b=it:=by simpa using O
  subst e;obtain⟨o,e,c,d⟩:=st;exact⟨o,e,fun v z=>by rw[d]at z;cases z⟩
 keep:=fun i h h' st k=>st.at fun o e=>k it Ξ o e
 item:=by
  intro X hP hw hK hc i J1 s σ H E I hf st hg;subst hP hw hK;obtain⟨xs,x,Z,hx⟩:=hg;obtain⟨J4,rv,p,hz⟩:=I.tuple Z;obtain⟨u,hu,ru⟩:=rv.get hx;obtain⟨f0,f1,f2,f3,f4,f5⟩:=hf it Ξ;refine wpAny_pyNext_tuple_item st (show s.heap.IsTuple a J4.toArray from p) (x:=u) (by simpa using hu) fun h' U sb=>?_
  have I1:Inv X J1 σ H {s with heap:=h'}:=I.turned (t':=s.toks) (fun b o O e=>(sb.2 b O).trans e) f0 f1 f3 f4 f5;obtain⟨o,e,c,d⟩:=id U;exact⟨u,rfl,p9 (s:={s with heap:=h'}) e c d Ω ⟨x,H,I1,ru,⟨rfl,fun ys hy=>by rw[I.tuple_inj hy Z];exact hx⟩,U,fun b O=>(hf b O).1⟩⟩
 done:=by intro X hP hw hK hc i J1 s σ H E I hf st hg;subst hP hw hK;obtain⟨xs,Z,hx⟩:=hg;obtain⟨J4,rv,p,hz⟩:=I.tuple Z;obtain⟨f0,f1,f2,f3,f4,f5⟩:=hf it Ξ;have hl:=rv.length;exact wpAny_pyNext_tuple_end (I.ok.hd hc) st (show s.heap.IsTuple a J4.toArray from p) (by simp;lia) fun h' eb=>⟨rfl,I.turned (t':=s.toks) (fun b o O e=>eb b o O e) f0 f1 f3 f4 f5⟩
 self:=fun _ _ _ _ _ st h=>wpAny_pyIter_tupleiter st h
theorem rY{w:J6}(it:J5)(lo:Int)(n:Nat):Turn P w K tg (Itr lo n) [it] it (fun i h=>IsRangeIter h it (lo+(i:Nat)*1) ((n:Int)-(i:Nat)) 1) where
 mem:=by simp
 obj:=fun i h st b O=>by
  have e:b=it:=by simpa using O
  subst e
  exact⟨_,st,fun v z=>by have z':Data.fields _=Data.cell v:=z;cases z'⟩
 keep:=fun i h h' st k=>k it Ξ _ st
 item:=by
  intro X hP hw hK hc i J1 s σ H E I Z st hg;subst hP hw hK;obtain⟨f0,f1,f2,f3,f4,f5⟩:=Z it Ξ;have W:=Walks.range (prog:=X.prog) (w:=X.w) (I.ok.hd hc) it lo 1 n;refine W.item i s _ _ hg st fun v h' tk hv U kk=>?_
  obtain⟨t,rfl⟩:=hv;have I1:Inv X J1 σ H {s with heap:=h',toks:=tk}:=I.turned (fun b o O e=>kk b o (by simpa using O) e) f0 f1 f3 f4 f5;refine⟨_,rfl,p9 (s:={s with heap:=h',toks:=tk}) (n:="range_iterator") U rfl rfl Ω ⟨.int (lo+i),H,I1,⟨t,?_⟩,⟨rfl,rfl⟩,U,fun b O=>(Z b O).1⟩⟩;rw[Int.mul_one]
 done:=by intro X hP hw hK hc i J1 s σ H E I Z st hg;subst hP hw hK;obtain⟨f0,f1,f2,f3,f4,f5⟩:=Z it Ξ;exact wpAny_pyNext_range_end (I.ok.hd hc) st (by have:n<=i:=hg;lia) fun h' eb=>⟨rfl,I.turned (t':=s.toks) (fun b o O e=>eb b o O e) f0 f1 f3 f4 f5⟩
 self:=fun _ _ _ _ _ st h=>wpAny_pyIter_rangeiter st h
variable{l:J9}{tl:TE}{fp:η J5}{body:η J8}
section
variable{X:Cx}{tg:J9}
def EY(K:xA9)(tl:TE):TI:=fun σ H R=>tl σ H fun x H1=>∃a,x=.ref a/\(∃xs,SqL K H1 a xs)/\R (Itl K a) H1
def iTup(K:xA9)(tl:TE):TI:=fun σ H R=>tl σ H fun x H1=>∃a,x=.ref a/\(∃xs,SqT K H1 a xs)/\R (Itt K a) H1
theorem tP(U:PE X l tl):PI X tg l (EY X.K tl):=by
 intro J1 s σ H R I h;refine thn (U J1 s σ H _ I h) fun v s1 ⟨x,H1,O,Z,q1⟩=>?_
 obtain⟨a,e,⟨xs,hq⟩,q⟩:=q1;subst e;cases Z;obtain⟨J4,rv,p,hz⟩:=O.list hq;refine qx0 p.isList ?_;refine⟨s1.heap.objs.size,[s1.heap.objs.size],_,_,H1,rfl,O.kept (t':=s1.toks) fun b o e=>gP _ e,vg a _,⟨_,qb6 _ rfl,rfl,rfl⟩,fun b hb=>?_,q⟩;have e:b=s1.heap.objs.size:=by simpa using hb
 subst e;exact O.fpOk (nL _) (O.hok.fresh (nL _))
theorem wF(U:PE X l tl):PI X tg l (iTup X.K tl):=by
 intro J1 s σ H R I h;refine thn (U J1 s σ H _ I h) fun v s1 ⟨x,H1,O,Z,q1⟩=>?_
 obtain⟨a,e,⟨xs,hq⟩,q⟩:=q1;subst e;cases Z;obtain⟨J4,rv,p,hz⟩:=O.tuple hq;refine qq4 (show s1.heap.IsTuple a J4.toArray from p) ?_;refine⟨s1.heap.objs.size,[s1.heap.objs.size],_,_,H1,rfl,O.kept (t':=s1.toks) fun b o e=>gP _ e,rX a _,⟨_,qb6 _ rfl,rfl,rfl⟩,fun b hb=>?_,q⟩;have e:b=s1.heap.objs.size:=by simpa using hb
 subst e;exact O.fpOk (nL _) (O.hok.fresh (nL _))
theorem wG{R:It->Hp->Prop}{lo hi:Int}{t u v:Tok}{tk:Nat}(I:Inv X J1 σ H s)(h1:-(2^62)<=lo)(h2:lo<2^62)(h3:-(2^62)<=hi)(U:hi<2^62)
 (q:R (Itr lo (hi-lo).toNat) H):wpAny (model X.prog X.w) X.A (pyIter (.ref s.heap.objs.size)) (PIE X J1 σ tg R) E {s with heap:=s.heap.push {cls:=.type "range",data:=.fields #[.int lo t,.int hi u,.int 1 v]},toks:=tk}:=by
 refine wpAny_pyIter_range (IsRange.new ..) (small_one h1 h2 h3 U) ?_;have O:Inv X J1 σ H {s with heap:=s.heap.push {cls:=.type "range",data:=.fields #[.int lo t,.int hi u,.int 1 v]},toks:=tk}:=I.kept fun b o e=>gP _ e
 refine⟨(s.heap.push {cls:=.type "range",data:=.fields #[.int lo t,.int hi u,.int 1 v]}).objs.size,[(s.heap.push {cls:=.type "range",data:=.fields #[.int lo t,.int hi u,.int 1 v]}).objs.size],_,_,H,rfl,O.kept (t':=tk) fun b o e=>gP _ e,rY _ lo (hi-lo).toNat,?_,fun b Z=>?_,q⟩
 .have e1:lo+((0:Nat):Int)*1=lo:=by simp
  have e2:(((hi-lo).toNat:Nat):Int)-((0:Nat):Int)=qm2 lo hi 1:=by rw[rangeSize_one];split<;>lia
  show IsRangeIter _ _ (lo+((0:Nat):Int)*1) ((((hi-lo).toNat:Nat):Int)-((0:Nat):Int)) 1;rw[e1,e2];exact qb6 _ rfl
 .have e:b=(s.heap.push {cls:=.type "range",data:=.fields #[.int lo t,.int hi u,.int 1 v]}).objs.size:=by simpa using Z
  subst e;exact O.fpOk (nL _) (O.hok.fresh (nL _))
def BK(ta:TA):TI:=fun σ H R=>ta σ H fun vs H1=>∃j:Int,vs=[.int j]/\-(2^62)<=j/\j<2^62/\R (Itr 0 j.toNat) H1
theorem vh{a:J9}{ta:TA}{p:Pos}(O:Gl X "range")(hm:X.mg "range"=ψ)(U:PA X [a] ta)(Z:qa2 [a] X.env=[(ξ,eval a X.env)]:=by rfl):PI X tg (.Call (.Name "range" p) [a] [] pos) (BK ta):=by
 intro J1 s σ H R I h;refine Call_ (jh I O hm boot_range (qh8 (thn (U pos J1 s σ H _ I h) fun us s1 ⟨vs,H1,I1,r1,q1⟩=>?_) Z rfl));obtain⟨j,e,q1,q2,q⟩:=q1;subst e;cases r1 with
 |cons r rr=>cases rr;obtain⟨t,rfl⟩:=r;exact call_range_1 (wG I1 Θ Θ q1 q2 (by simpa using q))
def tFor(wi:TI)(g:TG)(tb:TS):TS:=fun D σ H=>wi σ H fun J H1=>∃W:Nat->Nat->St->Hp->Prop,(∃m,W 0 m σ H1)/\∀i m σ H,W i m σ H→ (J.stop i H/\D.nx σ H)∨(J.go i H/\∃N:St->Hp->Prop,(∀O H',N O H'->∃Z,Z<m/\W (i+1) Z O H')/\∀x H',J.yld i H x H'->g x σ H' fun U H2=>tb {D with nx:=N,ct:=N,bk:=D.nx} U H2)
def j0(fp:η J5)(h:Heap):η (J5×Obj):=fp.filterMap fun b=>(h.get? b).map fun o=>(b,o)
theorem gG{o:Obj}(O:b∈fp)(e:h.get? b=ς o):(b,o)∈j0 fp h:=qq5.mpr ⟨b,O,by rw[e];rfl⟩
theorem vi{p:J5×Obj}(O:p∈j0 fp h):p.1∈fp/\h.get? p.1=ς p.2:=by
 obtain⟨b,Z,e⟩:=qq5.mp O;cases q:h.get? b with
 |none=>rw[q]at e;cases e
 |some o=>rw[q]at e;have U:(b,o)=p:=qc1 e;subst U;exact⟨Z,q⟩
theorem Inv.pinned(I:Inv X J1 σ H s)(hf:∀b∈fp,f7 X J1 H b)(Z:∀b∈fp,∃o,s.heap.get? b=ς o/\∀v,o.data≠.cell v):Inv X (J1++j0 fp s.heap) σ H s:=
 I.pins_of fun p hp=>(qe8.mp hp).elim (fun z=>I.pin p (qd0 _ z)) fun z=>by
  obtain⟨U,e⟩:=vi z;obtain⟨f0,f1,f2,_⟩:=hf p.1 U;obtain⟨o,O,d⟩:=Z p.1 U;rw[e]at O;cases O
  exact⟨e,f0,f1,f2,d⟩
theorem Inv.unpinned{U:η (J5×Obj)}(I:Inv X (J1++U) σ H s):Inv X J1 σ H s:=I.pins_of fun p O=>I.pin p (qd0 _ (qj2 _ O))
theorem wH{iter:J9}{wi:TI}{tb:TS}(hp:zd1 (model X.prog X.w) X.A X.env X.xe)(hc:X.calm=θ)(hi:PI X tg iter wi)(hg:PG X tg g)(hb:PSs X body tb)
 (hs:∀x,qe5 iter X.env x=pure x:=by intro _;rfl):PS X (.For tg iter body [] pos) (tFor wi g tb):=by
 intro J1 s σ H D I h;refine wpAny_For (thn (hi J1 s σ H _ I h) fun v s1 h1=>thn h1 fun itv s2 h2=>?_) hs;obtain⟨it,fp,tn,J,H2,e,I2,T,st2,f2,W,⟨m0,w0⟩,turn⟩:=h2;subst e
 -- what stays θ of the iterator's objects through the loop
 have U:∀{H':Hp},(∀b∈fp,H' b=ψ)->∀b∈fp,f7 X J1 H' b:=fun hn b hb=>⟨hn b hb,(f2 b hb).2⟩
 refine codeAny_forLoop_any (fun n s'=>∃i σ' H',Inv X J1 σ' H' s'/\tn i s'.heap/\(∀b∈fp,H' b=ψ)/\W i n σ' H') ?_ m0 ⟨0,σ,H2,I2,st2,fun b hb=>(f2 b hb).1,w0⟩;rintro n s3 ⟨i,σ3,H3,I3,st3,fr3,w3⟩;rcases turn i n σ3 H3 w3 with ⟨stop,qn⟩|⟨go,N,hN,step⟩
 .refine qq6 hp (thn (T.done X rfl rfl rfl hc i J1 s3 σ3 H3 X.xe I3 (U fr3) st3 stop) fun r s4 ⟨hr,I4⟩=>?_);subst hr;exact qq3 ⟨σ3,H3,I4,qn⟩
 .refine qq6 hp (thn (T.item X rfl rfl rfl hc i J1 s3 σ3 H3 X.xe I3 (U fr3) st3 go) fun r s4 ⟨u,hr,h4⟩=>?_);subst hr;refine qq6 hp (thn h4 fun _ s5 ⟨x,H5,I5,r5,y5,st5,fr5⟩=>?_);have I5':=I5.pinned (U fr5) (T.obj _ _ st5);refine qq6 hp (thn (hg _ s5 σ3 H5 x u _ I5' r5 (step x H5 y5)) fun _ s6 ⟨σ6,H6,I6,q6⟩=>?_);refine qq6 hp (thn (hb _ s6 σ6 H6 _ I6 q6) fun f s7 q7=>?_)
  have again:∀{O:St}{Z:Hp},Inv X (J1++j0 fp s5.heap) O Z s7->N O Z->∃m,m<n/\∃i σ' H',Inv X J1 σ' H' s7/\tn i s7.heap/\(∀b∈fp,H' b=ψ)/\W i m σ' H':=fun {O Z} I7 n7=>by obtain⟨m',hm,w7⟩:=hN O Z n7;refine⟨m',hm,i+1,O,Z,I7.unpinned,T.keep _ _ _ st5 fun b hb o e=>(I7.pin (b,o) (qd0 _ (qd0 _ (gG hb e)))).1,fun b hb=>?_,w7⟩;obtain⟨o,e,d⟩:=T.obj _ _ st5 b hb;exact(I7.pin (b,o) (qd0 _ (qd0 _ (gG hb e)))).2.1
  cases f with
  |next=>obtain⟨O,Z,I7,n7⟩:=q7;exact again I7 n7
  |cont=>obtain⟨O,Z,I7,n7⟩:=q7;exact again I7 n7
  |brk=>obtain⟨O,Z,I7,q7⟩:=q7;exact⟨O,Z,I7.unpinned,q7⟩
  |ret v=>obtain⟨x7,O,Z,I7,r7,q7⟩:=q7;exact⟨x7,O,Z,I7.unpinned,r7,q7⟩
end
abbrev R2:=V->V->Hp->VK->Prop
def OpR(X:Cx)(f:Value->Value->Sem Value)(r:R2):Prop:=
 ∀(J1:η (J5×Obj))(s:qa4)(σ:St)(H:Hp)(x y:V)(v u:Value)(Q:VK),Inv X J1 σ H s->RelV x v->RelV y u->r x y H Q→
  wpAny (model X.prog X.w) X.A (f v u) (EP X J1 σ Q) X.xe s
def UnR(X:Cx)(f:Value->Sem Value)(r:V->Hp->VK->Prop):Prop:=
 ∀(J1:η (J5×Obj))(s:qa4)(σ:St)(H:Hp)(x:V)(v:Value)(Q:VK),Inv X J1 σ H s->RelV x v->r x H Q→
  wpAny (model X.prog X.w) X.A (f v) (EP X J1 σ Q) X.xe s
def CallR(X:Cx)(f:Value)(r:η V->Hp->VK->Prop):Prop:=
 ∀(J1:η (J5×Obj))(s:qa4)(σ:St)(H:Hp)(xs:η V)(us:η Value)(Q:VK),Inv X J1 σ H s->Vals xs us->r xs H Q→
  wpAny (model X.prog X.w) X.A (call f us) (EP X J1 σ Q) X.xe s
def TruR(X:Cx)(r:V->Hp->(Bool->Hp->Prop)->Prop):Prop:=
 ∀(J1:η (J5×Obj))(s:qa4)(σ:St)(H:Hp)(x:V)(v:Value)(Q:Bool->Hp->Prop),Inv X J1 σ H s->RelV x v->r x H Q→
  wpAny (model X.prog X.w) X.A (truthy v) (TP X J1 σ Q) X.xe s
def tOp(r:R2)(ta tb:TE):TE:=fun σ H Q=>ta σ H fun x H1=>tb σ H1 fun y H2=>r x y H2 Q
def tUn(r:V->Hp->VK->Prop)(ta:TE):TE:=fun σ H Q=>ta σ H fun x H1=>r x H1 Q
def rI(C:Int->Int->Prop)(g:Int->Int->V):R2:=fun x y H Q=>∃i j,x=.int i/\y=.int j/\C i j/\Q (g i j) H
def rI0(g:Int->Int->V):R2:=fun x y H Q=>∃i j,x=.int i/\y=.int j/\Q (g i j) H
def rU(g:Int->V):V->Hp->VK->Prop:=fun x H Q=>∃i,x=.int i/\Q (g i) H
variable{f:Value->Value->Sem Value}{r:R2}
section
variable{X:Cx}{a b c:J9}{ta tb tc:TE}{pos:Pos}
theorem CM(Z:PE X a ta)(hb:PE X b tb)(I:Inv X J1 σ H s)
 (h:ta σ H fun x H1=>tb σ H1 fun y H2=>R x y H2) 
 (hf:∀v u s2 x y H2,Inv X J1 σ H2 s2->RelV x v->RelV y u->R x y H2->wpAny (model X.prog X.w) X.A (f v u) Q X.xe s2) :
  wpAny (model X.prog X.w) X.A (eval a X.env) (fun v O=>wpAny (model X.prog X.w) X.A (eval b X.env) (fun u U=>wpAny (model X.prog X.w) X.A (f v u) Q X.xe U) X.xe O) X.xe s:=by
 refine thn (Z J1 s σ H _ I h) fun v s1 ⟨x,H1,I1,r1,q1⟩=>?_
 refine thn (hb J1 s1 σ H1 _ I1 q1) fun u s2 ⟨y,H2,I2,r2,q2⟩=>?_
 exact hf v u s2 x y H2 I2 r1 r2 q2
theorem EZ{op:Operator}(U:OpR X (qk8 op) r)(O:PE X a ta)(hb:PE X b tb):PE X (.BinOp a op b pos) (tOp r ta tb):=by intro J1 s σ H Q I h;exact wpAny_BinOp (CM O hb I h fun v u s2 x y H2 Z rx ry q=>U J1 s2 σ H2 x y v u Q Z rx ry q)
theorem E1{op:UnaryOp}{r:V->Hp->VK->Prop}(U:UnR X (unaryOp op) r)(O:PE X a ta):PE X (.UnaryOp op a pos) (tUn r ta):=by intro J1 s σ H Q I h;exact UnaryOp_ (thn (O J1 s σ H _ I h) fun v s1 ⟨x,H1,I1,Z,q1⟩=>U J1 s1 σ H1 x v Q I1 Z q1)
theorem opI{C:Int->Int->Prop}{g:Int->Int->Int}
 (O:∀(i j:Int)(t u:Tok)(s:qa4)(Q E:Value->qa4->Prop),C i j->Q (.int (g i j) s.toks) {s with toks:=s.toks+1}->wpAny (model X.prog X.w) X.A (f (.int i t) (.int j u)) Q E s) :
  OpR X f (rI C fun i j=>.int (g i j)):=by
 intro J1 s σ H x y v u Q I rx Z h;obtain⟨i,j,rfl,rfl,U,q⟩:=h;obtain⟨t,rfl⟩:=rx;obtain⟨t',rfl⟩:=Z;exact O i j t t' s _ _ U ⟨.int (g i j),H,I.tok _,⟨_,rfl⟩,q⟩
theorem opI0{g:Int->Int->Int}
 (O:∀(i j:Int)(t u:Tok)(s:qa4)(Q E:Value->qa4->Prop),Q (.int (g i j) s.toks) {s with toks:=s.toks+1}->wpAny (model X.prog X.w) X.A (f (.int i t) (.int j u)) Q E s) :
  OpR X f (rI0 fun i j=>.int (g i j)):=by
 intro J1 s σ H x y v u Q I Z U h;obtain⟨i,j,rfl,rfl,q⟩:=h;obtain⟨t,rfl⟩:=Z;obtain⟨t',rfl⟩:=U;exact O i j t t' s _ _ ⟨.int (g i j),H,I.tok _,⟨_,rfl⟩,q⟩
theorem CN{g:Int->Int->Bool}
 (O:∀(i j:Int)(t u:Tok)(s:qa4)(Q E:Value->qa4->Prop),Q (.bool (g i j)) s->wpAny (model X.prog X.w) X.A (f (.int i t) (.int j u)) Q E s) :
  OpR X f (rI0 fun i j=>.bl (g i j)):=by
 intro J1 s σ H x y v u Q I Z U h;obtain⟨i,j,rfl,rfl,q⟩:=h;obtain⟨t,rfl⟩:=Z;obtain⟨t',rfl⟩:=U;exact O i j t t' s _ _ ⟨.bl (g i j),H,I,rfl,q⟩
def CO(i j:Int):Prop:=0<=j/\j<=1000000/\i.natAbs<2^64
def CMul(i j:Int):Prop:=(-(2^64)<i/\i<2^64)∨(-(2^64)<j/\j<2^64)
theorem CMul.ok{i j:Int}(h:CMul i j):IntMulOk i j:=by
 rcases h with ⟨h1,h2⟩|⟨h1,h2⟩
 .exact .of_left (intBits_le_64 h1 h2)
 .exact .of_right (intBits_le_64 h1 h2)
theorem CP:OpR X (qk8 .Add) (rI0 fun i j=>.int (i+j)):=opI0 fun _ _ _ _ _ _ _ q=>add_int q
theorem wI:OpR X (qk8 .Sub) (rI0 fun i j=>.int (i-j)):=opI0 fun _ _ _ _ _ _ _ q=>sub_int q
theorem rZ:OpR X (qk8 .Mult) (rI CMul fun i j=>.int (i*j)):=opI fun _ _ _ _ _ _ _ O q=>mul_int q O.ok
theorem r6:OpR X (qk8 .Mod) (rI (fun _ j=>0<j) fun i j=>.int (i%j)):=opI fun i j _ _ _ _ _ O q=>by have h1:(0:Int)<j:=O;exact mod_int' Θ (by rw[Int.fmod_eq_emod_of_nonneg i Θ];exact q)
theorem r8:OpR X (qk8 .Pow) (rI CO fun i j=>.int (i^j.toNat)):=opI fun _ _ _ _ _ _ _ O q=>pow_int_small O.1 O.2.1 O.2.2 q
theorem unI {f:Value->Sem Value} {g:Int->Int}
  (O:∀(i:Int)(t:Tok)(s:qa4)(Q E:Value->qa4->Prop),Q (.int (g i) s.toks) {s with toks:=s.toks+1}->wpAny (model X.prog X.w) X.A (f (.int i t)) Q E s) :
  UnR X f (rU fun i=>.int (g i)):=by
 intro J1 s σ H x v Q I U h;obtain⟨i,rfl,q⟩:=h;obtain⟨t,rfl⟩:=U;exact O i t s _ _ ⟨.int (g i),H,I.tok _,⟨_,rfl⟩,q⟩
theorem CQ:UnR X (unaryOp .USub) (rU fun i=>.int (-i)):=unI fun _ _ _ _ _ q=>neg_int q
end
def CT:V->V->Bool
 |.non,.non=>θ|.non,.int _=>θ|.int _,.non=>θ|.non,.bl _=>θ|.bl _,.non=>θ|.non,.str _=>θ|.str _,.non=>θ
 |.int _,.int _=>θ|.bl _,.bl _=>θ|.str _,.str _=>θ|.byt _,.byt _=>θ
 |.int _,.str _=>θ|.str _,.int _=>θ|.bl _,.str _=>θ|.str _,.bl _=>θ
 |_,_=>ξ
def rEq:R2:=fun x y H Q=>CT x y=θ/\Q (.bl (decide (x=y))) H
def rNe:R2:=fun x y H Q=>CT x y=θ/\Q (.bl (!decide (x=y))) H
theorem tQ{i j:Int}:decide (V.int i=V.int j)=(i==j):=by rw[qe1];simp
theorem wJ{i j:Bool}:decide (V.bl i=V.bl j)=(i==j):=by rw[qe1];simp
theorem tR{i j:Str}:decide (V.str i=V.str j)=(i==j):=by rw[qe1];simp
theorem tT{i j:Array UInt8}:decide (V.byt i=V.byt j)=(i.toList==j.toList):=by rw[qe1];cases i;cases j;simp
variable{r':R2}{op':CmpOp}
section
variable{X:Cx}{a b c:J9}{ta tb tc:TE}{pos:Pos}
theorem bp{Q:VK}{k k':Bool}(I:Inv X J1 σ H s)(q:Q (.bl k) H)(e:k=k'):EP X J1 σ Q (.bool k') s:=by subst e;exact⟨.bl k,H,I,rfl,q⟩
theorem E2:OpR X (qe4 .Eq) rEq:=by
 intro J1 s σ H x y v u Q I Z O h;obtain⟨U,q⟩:=h;cases x with
 |non=>
  cases Z;cases y with
  |non=>cases O;exact PySem.EqNone.eq_none_none (bp I q Ξ)
  |bl j=>cases O;exact PySem.EqNone.eq_none_bool (bp I q Ξ)
  |int j=>obtain⟨t',rfl⟩:=O;exact PySem.EqNone.eq_none_int (bp I q Ξ)
  |str j=>obtain⟨t',rfl⟩:=O;exact PySem.EqNone.eq_none_str (bp I q Ξ)
  |_=>exact absurd (show ξ=θ from U) qc2
 |bl i=>
  cases Z;cases y with
  |non=>cases O;exact PySem.EqNone.eq_bool_none (bp I q Ξ)
  |bl j=>cases O;exact eq_bool (bp I q wJ)
  |str j=>obtain⟨t',rfl⟩:=O;exact PySem.EqMixed.eq_bool_str (bp I q Ξ)
  |_=>exact absurd (show ξ=θ from U) qc2
 |int i=>
  obtain⟨t,rfl⟩:=Z;cases y with
  |non=>cases O;exact PySem.EqNone.eq_int_none (bp I q Ξ)
  |int j=>obtain⟨t',rfl⟩:=O;exact eq_int (bp I q tQ)
  |str j=>obtain⟨t',rfl⟩:=O;exact PySem.EqMixed.eq_int_str (bp I q Ξ)
  |_=>exact absurd (show ξ=θ from U) qc2
 |str i=>
  obtain⟨t,rfl⟩:=Z;cases y with
  |non=>cases O;exact PySem.EqNone.eq_str_none (bp I q Ξ)
  |bl j=>cases O;exact PySem.EqMixed.eq_str_bool (bp I q Ξ)
  |int j=>obtain⟨t',rfl⟩:=O;exact PySem.EqMixed.eq_str_int (bp I q Ξ)
  |str j=>obtain⟨t',rfl⟩:=O;exact eq_str (bp I q tR)
  |_=>exact absurd (show ξ=θ from U) qc2
 |byt i=>
  obtain⟨t,rfl⟩:=Z;cases y with
  |byt j=>obtain⟨t',rfl⟩:=O;exact PySem.W.eq_bytes (bp I q tT)
  |_=>exact absurd (show ξ=θ from U) qc2
 |_=>cases y<;>exact absurd (show ξ=θ from U) qc2
theorem E3:OpR X (qe4 .NotEq) rNe:=by
 intro J1 s σ H x y v u Q I Z O h;obtain⟨U,q⟩:=h;cases x with
 |non=>
  cases Z;cases y with
  |non=>cases O;exact PySem.EqNone.ne_none_none (bp I q Ξ)
  |bl j=>cases O;exact PySem.EqNone.ne_none_bool (bp I q Ξ)
  |int j=>obtain⟨t',rfl⟩:=O;exact PySem.EqNone.ne_none_int (bp I q Ξ)
  |str j=>obtain⟨t',rfl⟩:=O;exact PySem.EqNone.ne_none_str (bp I q Ξ)
  |_=>exact absurd (show ξ=θ from U) qc2
 |bl i=>
  cases Z;cases y with
  |non=>cases O;exact PySem.EqNone.ne_bool_none (bp I q Ξ)
  |bl j=>cases O;exact ne_bool (bp I q (congrArg not wJ))
  |str j=>obtain⟨t',rfl⟩:=O;exact PySem.EqMixed.ne_bool_str (bp I q Ξ)
  |_=>exact absurd (show ξ=θ from U) qc2
 |int i=>
  obtain⟨t,rfl⟩:=Z;cases y with
  |non=>cases O;exact PySem.EqNone.ne_int_none (bp I q Ξ)
  |int j=>obtain⟨t',rfl⟩:=O;exact ne_int (bp I q (congrArg not tQ))
  |str j=>obtain⟨t',rfl⟩:=O;exact PySem.EqMixed.ne_int_str (bp I q Ξ)
  |_=>exact absurd (show ξ=θ from U) qc2
 |str i=>
  obtain⟨t,rfl⟩:=Z;cases y with
  |non=>cases O;exact PySem.EqNone.ne_str_none (bp I q Ξ)
  |bl j=>cases O;exact PySem.EqMixed.ne_str_bool (bp I q Ξ)
  |int j=>obtain⟨t',rfl⟩:=O;exact PySem.EqMixed.ne_str_int (bp I q Ξ)
  |str j=>obtain⟨t',rfl⟩:=O;exact ne_str (bp I q (congrArg not tR))
  |_=>exact absurd (show ξ=θ from U) qc2
 |byt i=>
  obtain⟨t,rfl⟩:=Z;cases y with
  |byt j=>obtain⟨t',rfl⟩:=O;exact PySem.W.ne_bytes (bp I q (congrArg not tT))
  |_=>exact absurd (show ξ=θ from U) qc2
 |_=>cases y<;>exact absurd (show ξ=θ from U) qc2
theorem qa:OpR X (qe4 .Lt) (rI0 fun i j=>.bl (decide (i<j))):=CN fun _ _ _ _ _ _ _ q=>lt_int q
theorem eZ:OpR X (qe4 .LtE) (rI0 fun i j=>.bl (decide (i<=j))):=CN fun _ _ _ _ _ _ _ q=>le_int q
theorem BL:OpR X (qe4 .Gt) (rI0 fun i j=>.bl (decide (j<i))):=CN fun _ _ _ _ _ _ _ q=>gt_int q
theorem vj:OpR X (qe4 .In) (fun x y H Q=>∃i j,x=.str i/\y=.str j/\Q (.bl (!(qg4 j i 0 j.length 1).isEmpty)) H):=by intro J1 s σ H x y v u Q I U O h;obtain⟨i,j,rfl,rfl,q⟩:=h;obtain⟨t,rfl⟩:=U;obtain⟨t',rfl⟩:=O;exact in_str (bp I q rfl)
theorem ou:OpR X (qe4 .Is) (fun x y H Q=>y=.non/\Q (.bl (decide (x=.non))) H):=by
 intro J1 s σ H x y v u Q I O U h;obtain⟨rfl,q⟩:=h;cases U;refine is_none_gen (bp I q ?_)
 cases x<;>first
  |(cases O;rfl)
  |(obtain⟨t,rfl⟩:=O;rfl)
theorem ow:OpR X (qe4 .IsNot) (fun x y H Q=>y=.non/\Q (.bl (!decide (x=.non))) H):=by
 intro J1 s σ H x y v u Q I O U h;obtain⟨rfl,q⟩:=h;cases U;refine isnot_none_gen (bp I q ?_)
 cases x<;>first
  |(cases O;rfl)
  |(obtain⟨t,rfl⟩:=O;rfl)
theorem OpR.or(h:OpR X f r)(h':OpR X f r'):OpR X f (fun x y H Q=>r x y H Q∨r' x y H Q):=by
 intro J1 s σ H x y v u Q I U O q;rcases q with q|q
 .exact h J1 s σ H x y v u Q I U O q
 .exact h' J1 s σ H x y v u Q I U O q
theorem bi(b:J9)(h:op≠.In:=by decide)(h2:op≠.NotIn:=by decide):qh7 op b=ξ:=by
 have e1:(op==CmpOp.In)=ξ:=by cases op<;>first|rfl|exact absurd rfl h
 have e2:(op==CmpOp.NotIn)=ξ:=by cases op<;>first|rfl|exact absurd rfl h2
 cases b<;>simp[qh7,e1,e2]
theorem tU(U:OpR X (qe4 op) r)(O:PE X a ta)(hb:PE X b tb)(hm:qh7 op b=ξ):PE X (.Compare a [op] [b] pos) (tOp r ta tb):=by intro J1 s σ H Q I h;exact wpAny_Compare1 (CM O hb I h fun v u s2 x y H2 Z rx ry q=>U J1 s2 σ H2 x y v u Q Z rx ry q) hm
def BM(t:TE):TT:=fun σ H Q=>t σ H fun x H'=>∃k,x=.bl k/\Q k H'
theorem kY(O:OpR X (qe4 op) r)(ha:PE X a ta)(hb:PE X b tb)(hm:qh7 op b=ξ):PT X (.Compare a [op] [b] pos) (BM (tOp r ta tb)):=by
 intro J1 s σ H Q I h
 refine za1 (thn (ha J1 s σ H _ I h) fun v s1 ⟨x,H1,I1,r1,q1⟩=>thn (hb J1 s1 σ H1 _ I1 q1) fun u s2 ⟨y,H2,I2,r2,q2⟩=>thn (O J1 s2 σ H2 x y v u _ I2 r1 r2 q2) fun c s3 ⟨z,Z,I3,U,k,e,q3⟩=>?_) hm
 subst e;cases U;exact qg3 ⟨Z,I3,q3⟩
def r9(r r':R2)(ta tb tc:TE):TE:=fun σ H Q=>ta σ H fun x H1=>tb σ H1 fun y H2=>r x y H2 fun z O=>∃k,z=.bl k∧(if k=θ then tc σ O fun U Z=>r' y U Z Q else Q (.bl ξ) O)
theorem wK(ho:OpR X (qe4 op) r)(O:OpR X (qe4 op') r')(ha:PE X a ta)(hb:PE X b tb)(hc:PE X c tc)
 (hm:ze9 [op,op'] [b,c]=ξ:=by with_unfolding_all rfl):PE X (.Compare a [op,op'] [b,c] pos) (r9 r r' ta tb tc):=by
 intro J1 s σ H Q I h
 refine Compare_chain (thn (ha J1 s σ H _ I h) fun v s1 ⟨x,H1,I1,r1,q1⟩=>chain_link (thn (hb J1 s1 σ H1 _ I1 q1) fun u s2 ⟨y,H2,I2,r2,q2⟩=>thn (ho J1 s2 σ H2 x y v u _ I2 r1 r2 q2) fun d s3 ⟨z,U,Z,r3,k,e,q3⟩=>?_)) hm
 subst e;cases r3;refine qg3 ?_;cases k with
 |false=>exact ite_ff ⟨.bl ξ,U,Z,rfl,q3⟩
 |true=>exact ite_tt (chain_last (thn (hc J1 s3 σ U _ Z q3) fun w' s4 ⟨z',H4,I4,r4,q4⟩=>O J1 s4 σ H4 y z' u w' Q I4 r2 r4 q4))
theorem wL(ho:OpR X (qe4 op) r)(O:OpR X (qe4 op') r')(ha:PE X a ta)(hb:PE X b tb)(hc:PE X c tc)
 (hm:ze9 [op,op'] [b,c]=ξ:=by with_unfolding_all rfl):PT X (.Compare a [op,op'] [b,c] pos) (BM (r9 r r' ta tb tc)):=by
 intro J1 s σ H Q I h
 refine isTrue_chain (thn (ha J1 s σ H _ I h) fun v s1 ⟨x,H1,I1,r1,q1⟩=>test_link (thn (hb J1 s1 σ H1 _ I1 q1) fun u s2 ⟨y,H2,I2,r2,q2⟩=>thn (ho J1 s2 σ H2 x y v u _ I2 r1 r2 q2) fun d s3 ⟨z,U,Z,r3,k,e,q3⟩=>?_)) hm
 subst e;cases r3;refine qg3 ?_;cases k with
 |false=>obtain⟨k',e',q'⟩:=q3;cases e';exact ite_ff ⟨U,Z,q'⟩
 |true=>refine ite_tt (test_last (thn (hc J1 s3 σ U _ Z q3) fun w' s4 ⟨z',H4,I4,r4,q4⟩=>thn (O J1 s4 σ H4 y z' u w' _ I4 r2 r4 q4) fun d' s5 ⟨z2,H5,I5,r5,k2,e2,q5⟩=>?_));subst e2;cases r5;exact qg3 ⟨H5,I5,q5⟩
def CU(K:xA9)(x:V)(H:Hp)(k:Bool):Prop:=
 match x with
 |.non=>k=ξ
 |.bl b=>k=b
 |.int i=>k=(i != 0)
 |.str y=>y.length<=qa7/\k=((y.length:Int) != 0)
 |.byt y=>y.size<=qa7/\k=((y.size:Int) != 0)
 |.ref p=>(∃xs,SqL K H p xs/\k=!xs.isEmpty)∨(∃xs,SqT K H p xs/\k=!xs.isEmpty)∨∃J3,H p=ς (.dK J3)/\k=!J3.isEmpty
 |_=>False
theorem sd{κ:Type}{J3:η (κ×V)}{vs:η (κ×Value)}(r:KV J3 vs):(!vs.isEmpty)=!J3.isEmpty:=by cases r<;>rfl
theorem lF{J4:η Value}(r:Vals xs J4):(!J4.toArray.isEmpty)=!xs.isEmpty:=by cases r<;>simp
theorem j3:(qa7:Nat)<2^63:=by rw[qr7];decide
theorem CV:TruR X (fun x H Q=>∃k,CU X.K x H k/\Q k H):=by
 intro J1 s σ H x v Q I rx h;obtain⟨k,e,q⟩:=h;have hl:=j3;have hs:qa7=16777216:=qr7;cases x with
 |non=>cases rx;have e':k=ξ:=e;subst e';exact truthy_none ⟨H,I,q⟩
 |bl b=>cases rx;have e':k=b:=e;subst e';exact qg3 ⟨H,I,q⟩
 |int i=>obtain⟨t,rfl⟩:=rx;have e':k=(i != 0):=e;subst e';exact PySem.P.truthy_int ⟨H,I,q⟩
 |str y=>obtain⟨t,rfl⟩:=rx;obtain⟨hy,e'⟩:y.length<=qa7/\k=((y.length:Int) != 0):=e;subst e';exact PySem.P.truthy_str Θ ⟨H,I.tok _,q⟩
 |byt y=>obtain⟨t,rfl⟩:=rx;obtain⟨hy,e'⟩:y.size<=qa7/\k=((y.size:Int) != 0):=e;subst e';exact PySem.W.truthy_bytes Θ ⟨H,I.tok _,q⟩
 |ref p=>
  cases rx;have e':(∃xs,SqL X.K H p xs/\k=!xs.isEmpty)∨(∃xs,SqT X.K H p xs/\k=!xs.isEmpty)∨∃J3,H p=ς (.dK J3)/\k=!J3.isEmpty:=e;rcases e' with ⟨xs,hx,e'⟩|⟨xs,hx,e'⟩|⟨J3,hx,e'⟩
  .subst e';obtain⟨J4,r,pl,hz⟩:=I.list hx;have hlen:=r.length;exact wpAny_truthy_list pl.isList (by simp only[qb4];lia) ⟨H,I.tok _,by rw[lF r];exact q⟩
  .subst e';obtain⟨J4,r,pl,hz⟩:=I.tuple hx;have hlen:=r.length;exact truthy_tuple pl (by simp only[qb4];lia) ⟨H,I.tok _,by rw[lF r];exact q⟩
  .subst e';obtain⟨hz,hS,vs,r,m⟩:J3.length<=qa7/\(p==qj1)=ξ/\∃vs,KV J3 vs/\s.heap.DictOf (bE X.prog X.w) p vs:=I.hok p _ hx;have hlen:J3.length=vs.length:=Paired.length r;exact wpAny_truthy_dict hS m Θ ⟨H,I.tok _,by rw[sd r];exact q⟩
 |_=>exact(show False from e).elim
theorem wM (U:PE X a ta) (Z:∀ O,isTrue a X.env O=(do let v <- O;standAt a.pos;za2 [v] (truthy v))) :
  PT X a (fun σ H Q=>ta σ H fun x H'=>∃k,CU X.K x H' k/\Q k H'):=by
 intro J1 s σ H Q I h;exact isTrue_plain (thn (U J1 s σ H _ I h) fun v s1 ⟨x,H1,I1,r1,q1⟩=>CV J1 s1 σ H1 x v Q I1 r1 q1) (Z _)
theorem se:OpR X (qk8 .Add) (fun x y H Q=>∃i j,x=.str i/\y=.str j/\i.length+j.length<=qa7/\Q (.str (i++j)) H):=by intro J1 s σ H x y v u Q I Z U h;obtain⟨i,j,rfl,rfl,O,q⟩:=h;obtain⟨t,rfl⟩:=Z;obtain⟨t',rfl⟩:=U;exact add_str (fun t' tk=>⟨.str (i++j),H,I.tok _,⟨_,rfl⟩,q⟩) O
theorem jr{x:V}(r:Vals [x] us):∃u,us=[u]/\RelV x u:=by
 cases r with
 |cons O U=>cases U;exact⟨_,rfl,O⟩
theorem qb{x:V}(r:Vals [x,y] us):∃u w',us=[u,w']/\RelV x u/\RelV y w':=by
 cases r with
 |cons O r2=>
  cases r2 with
  |cons U Z=>cases Z;exact⟨_,_,rfl,O,U⟩
theorem vk:CallR X (.type "int") (fun xs H Q=>(∃i,xs=[.int i]/\Q (.int i) H)∨∃k,xs=[.bl k]/\Q (.int (if k then 1 else 0)) H):=by
 intro J1 s σ H xs us Q I r h;rcases h with ⟨i,rfl,q⟩|⟨k,rfl,q⟩
 .obtain⟨u,rfl,t,rfl⟩:=jr r;exact call_int_int ⟨.int i,H,I,⟨_,rfl⟩,q⟩
 .obtain⟨u,rfl,O⟩:=jr r;cases O;exact call_int_bool ⟨.int (if k then 1 else 0),H,I.tok _,⟨_,rfl⟩,q⟩
theorem oy:CallR X (.type "str") (fun xs H Q=>∃i,xs=[.int i]/\i.natAbs.log2<1920/\Q (.str (qy3 i)) H):=by intro J1 s σ H xs us Q I r h;obtain⟨i,rfl,O,q⟩:=h;obtain⟨u,rfl,t,rfl⟩:=jr r;exact PySem.P.str_of_int O ⟨.str _,H,I.tok _,⟨_,rfl⟩,q⟩
def LenV(K:xA9)(x:V)(H:Hp)(n:Nat):Prop:=
 match x with
 |.str y=>y.length<=qa7/\n=y.length
 |.byt y=>y.size<=qa7/\n=y.size
 |.ref p=>(∃xs,SqL K H p xs/\n=xs.length)∨∃xs,SqT K H p xs/\n=xs.length
 |_=>False
theorem wN:CallR X (.builtin "len") (fun xs H Q=>∃x n,xs=[x]/\LenV X.K x H n/\Q (.int n) H):=by
 intro J1 s σ H xs us Q I r h;obtain⟨x,n,rfl,e,q⟩:=h;obtain⟨u,rfl,rx⟩:=jr r;have hl:=j3;have hs:qa7=16777216:=qr7;cases x with
 |str y=>obtain⟨t,rfl⟩:=rx;obtain⟨hy,e'⟩:y.length<=qa7/\n=y.length:=e;subst e';exact len_str Θ ⟨.int _,H,I.tok _,⟨_,rfl⟩,q⟩
 |byt y=>obtain⟨t,rfl⟩:=rx;obtain⟨hy,e'⟩:y.size<=qa7/\n=y.size:=e;subst e';exact PySem.W.len_bytes Θ ⟨.int _,H,I.tok _,⟨_,rfl⟩,q⟩
 |ref p=>
  cases rx;have e':(∃xs,SqL X.K H p xs/\n=xs.length)∨∃xs,SqT X.K H p xs/\n=xs.length:=e;rcases e' with ⟨xs,hx,e'⟩|⟨xs,hx,e'⟩
  .subst e';obtain⟨J4,r',pl,hz⟩:=I.list hx;have hlen:=r'.length;exact Calls.call_len_list pl.isList (by simp only[qb4];lia) ⟨.int xs.length,H,I.tok _,⟨_,by simp only[qb4];rw[hlen]⟩,q⟩
  .subst e';obtain⟨J4,r',pl,hz⟩:=I.tuple hx;have hlen:=r'.length;exact len_tuple pl (by simp only[qb4];lia) ⟨.int xs.length,H,I.tok _,⟨_,by simp only[qb4];rw[hlen]⟩,q⟩
 |_=>exact(show False from e).elim
end
structure ObjM(h:Heap)(x dx C:J5)(mA:Str->Option Value):Prop where
 obj:h.get? x=ς (xS9 C dx)
 ns:h.Ns1 dx mA
 ne:dx≠x
variable{mA:Str->ζ Value}
theorem iO{dx:J5}(n:h.Ns1 dx mA):∃od,h.get? dx=ς od/\∀name,PySem.W.lookIn name od=ς (mA name):=by
 obtain⟨o,es,ep,Z,hd,hk,_,hm⟩:=n;refine⟨o,Z,fun name=>?_⟩;have e:=hm name;unfold nsFind findBy at e;rw[<- Array.find?_toList]at e;unfold PySem.W.lookIn;rw[hd];dsimp only;split
 .rename_i y q;rw[q]at e;exact congrArg ς e
 .rename_i q;rw[q]at e
  have a:es.toList.any (·.refKey)=ξ:=by rw[List.any_eq_false];intro y hy;obtain⟨z,t,O⟩:=hk y (qt3.mp hy);simp[DictEntry.refKey,O]
  have U:¬ es.toList.any (·.refKey)=θ:=by rw[a];exact qc2
  rw[if_neg U];exact congrArg ς e
variable{C:J5}
theorem ObjM.look{x dx:J5}(I:ObjM h x dx C mA):∃od,xO9 h x (xS9 C dx) C (ς od)/\∀name,PySem.W.lookIn name od=ς (mA name):=
 let ⟨od,ho,hl⟩:=iO I.ns
 ⟨od,⟨I.obj,rfl,rfl,ho⟩,hl⟩
def j4(f:Str)(v:V):η (Str×V)->η (Str×V)
 |[]=>[(f,v)]
 |(g,x)::r=>if g=f then(g,v)::r else(g,x)::j4 f v r
theorem kM(f g:Str)(v:V):∀fs:η (Str×V),(j4 f v fs).lookup g=if g=f then ς v else fs.lookup g
 |[]=>by
  show qf9 g [(f,v)]=_;by_cases h:g=f
  .have O:(g==f)=θ:=beq_iff_eq.mpr h;simp only[qf9,O,if_pos h]
  .have O:(g==f)=ξ:=beq_eq_false_iff_ne.mpr h;simp only[qf9,O,if_neg h]
 |(k,x)::r=>by
  have Z:=kM f g v r;rw[show j4 f v ((k,x)::r)=(if k=f then(k,v)::r else(k,x)::j4 f v r)from rfl];by_cases U:k=f
  .rw[if_pos U];by_cases h:g=k
   .have O:(g==k)=θ:=beq_iff_eq.mpr h;simp only[qf9,O,if_pos (h.trans U)]
   .have O:(g==k)=ξ:=beq_eq_false_iff_ne.mpr h;simp only[qf9,O,if_neg (fun e:g=f=>h (e.trans U.symm))]
  .rw[if_neg U];by_cases h:g=k
   .have O:(g==k)=θ:=beq_iff_eq.mpr h;simp only[qf9,O,if_neg (fun e:g=f=>U (h.symm.trans e))]
   .have O:(g==k)=ξ:=beq_eq_false_iff_ne.mpr h;simp only[qf9,O];exact Z
theorem j5(f:Str)(v:V):∀fs:η (Str×V),f∈(j4 f v fs).map (·.1)/\∀g,g∈fs.map (·.1)->g∈(j4 f v fs).map (·.1)
 |[]=>⟨by simp[j4],fun g h=>by simp at h⟩
 |(k,x)::r=>by
  obtain⟨i1,i2⟩:=j5 f v r;rw[show j4 f v ((k,x)::r)=(if k=f then(k,v)::r else(k,x)::j4 f v r)from rfl];by_cases O:k=f
  .rw[if_pos O];subst O;exact⟨Ξ,fun g h=>by simpa using h⟩
  .rw[if_neg O];refine⟨?_,fun g h=>?_⟩
   .rw[qb3];exact qa3 _ i1
   .rw[qb3]at h ⊢;rcases qa9.mp h with e|e
    .exact qa9.mpr (.inl e)
    .exact qa3 _ (i2 g e)
theorem RelO.some_of{o:ζ Value}(r:RelO (ς v) o):∃u,o=ς u/\RelV v u:=by
 cases o with
 |none=>exact(show False from r).elim
 |some u=>exact⟨u,rfl,r⟩
theorem vm(r:RelV v u):PySem.W.handedIn u=θ:=by
 cases v with
 |non=>cases (show u=qc7 from r);rfl
 |bl b=>cases (show u=qr6 b from r);rfl
 |int i=>obtain⟨t,e⟩:=(show ∃t,u=zc9 i t from r);cases e;rfl
 |str x=>obtain⟨t,e⟩:=(show ∃t,u=zd0 x t from r);cases e;rfl
 |byt b=>obtain⟨t,e⟩:=(show ∃t,u=Value.bytes b t from r);cases e;rfl
 |flt b=>obtain⟨t,e⟩:=(show ∃t,u=Value.float b t from r);cases e;rfl
 |ref a=>cases (show u=qb7 a from r);rfl
 |ty n=>cases (show u=qu4 n from r);rfl
section
variable{P:qc0}{w:J6}{H H':Hp}{h h':Heap}{a C dx:J5}{fs fs':η (Str×V)}
theorem zV(O:HOk P w H h)(e:H a=ς (.ins C dx fs)):∃mA,ObjM h a dx C mA/\(∀f,RelO (fs.lookup f) (mA f))/\PySem.Within mA (fs.map (·.1))/\fs.length<=1000/\H dx=ς (.own a):=by obtain⟨d,z,U,ob,mA,n,r,q⟩:=(show ObjOk P w H h a (.ins C dx fs)from O a _ e);exact⟨mA,⟨ob,n,U⟩,r,q,z,d⟩
end
structure Cls(K:xA9)(C:J5):Prop where
 pg:PySem.W.plainGet K C ql5=θ
 hd:PySem.W.hasDictIn K C=θ
 po:PySem.W.plainOver K C=θ
 sa:xD9 K (.ref C) "__setattr__"=ς (ς (.builtin "object.__setattr__"))
theorem Cls.get(c:Cls K C)(f:Str):PySem.W.plainGet K C f=θ:=c.pg
def dZ(K:xA9)(C:J5)(f:Str):Prop:=xD9 K (.ref C) f=ς ψ
section
variable{X:Cx}{J1:η (J5×Obj)}{σ:St}{H:Hp}{s:qa4}{a C dx:J5}{fs:η (Str×V)}{f:Str}{v:V}{A:qd8}{E:Value->qa4->Prop}
theorem zW{prog:qc0}{w:J6}{env:Env}{f:Str}(U:qg5 e f env (eval e env)=eval e env)
 (h:wpAny (model prog w) A (eval e env) (fun o O=>wpAny (model prog w) A (getAttr o f θ) Q E O) E s):wpAny (model prog w) A (eval (.Attribute e f pos) env) Q E s:=
 Attribute_any_ h (by rw[arm_eval_Attribute,U])
end
section
variable{X:Cx}{J1:η (J5×Obj)}{σ:St}{H:Hp}{s:qa4}{A:qd8}{E Q:Value->qa4->Prop}{c:Value}{b:Bool}
inductive TyOf(K:xA9)(H:Hp):V->Value->Prop where
 |non:TyOf K H .non (.type "NoneType")
 |bl (x:Bool):TyOf K H (.bl x) (.type "bool")
 |int (i:Int):TyOf K H (.int i) (.type "int")
 |str (x:Str):TyOf K H (.str x) (.type "str")
 |flt (x:UInt64):TyOf K H (.flt x) (.type "float")
 |e {a:J5} {xs:List V} (e:H a=ς (.e xs)):TyOf K H (.ref a) (.type "list")
 |frz {a:J5} {o:Obj} {xs:List V} (e:H a=ς (.frz o (.e xs))):TyOf K H (.ref a) (.type "list")
 |t {a:J5} {xs:List V} (e:H a=ς (.t xs)):TyOf K H (.ref a) (.type "tuple")
 |dK {a:J5} {J3:List (Key×V)} (e:H a=ς (.dK J3)):TyOf K H (.ref a) (.type "dict")
 |dT {a:J5} {J3:List (List Key×V)} (e:H a=ς (.dT J3)):TyOf K H (.ref a) (.type "dict")
 | ins {a C dx:J5} {fs:List (Str×V)} (e:H a=ς (.ins C dx fs)) (cl:Cls K C) (ha:xD9 K (.ref C) "__class__"=ς (ς (.builtin "object.__class__")))
     (hn:xU9 K (.builtin "object.__class__") "__get__"=ς (ς (.builtin "getset_descriptor.__get__"))) (htk:xV9 K (.builtin "object.__class__")=ς θ)
     (hm:xJ9 K C (.type "object")=ς θ):TyOf K H (.ref a) (.ref C)
theorem iP {x:V} {t:Value} (I:Inv X J1 σ H s) (U:RelV x u) (ty:TyOf X.K H x t) (e:xI9 X.K t c=ς b) (h:∀ tk,Q (.bool b) {s with toks:=tk}) :
  wpAny (model X.prog X.w) A (call (.builtin "isinstance") [u,c]) Q E s:=by
 cases ty with
 |non=>cases (show u=qc7 from U);exact xG9 PySem.W.kitx_none I.kIn qk5 e (fun z=>nomatch z) h
 |bl y=>cases (show u=qr6 y from U);exact xG9 PySem.W.kitx_bool I.kIn qk5 e (fun z=>nomatch z) h
 |int i=>obtain⟨t,q⟩:=(show ∃t,u=zc9 i t from U);cases q;exact xG9 PySem.W.kitx_int I.kIn qk5 e (fun z=>nomatch z) h
 |str y=>obtain⟨t,q⟩:=(show ∃t,u=zd0 y t from U);cases q;exact xG9 PySem.W.kitx_str I.kIn qk5 e (fun z=>nomatch z) h
 |flt y=>obtain⟨t,q⟩:=(show ∃t,u=Value.float y t from U);cases q;exact xG9 PySem.W.kitx_float I.kIn qk5 e (fun z=>nomatch z) h
 |@e a xs ea=>cases (show u=qb7 a from U);obtain⟨_,_,n,_,h1⟩:=(show ObjOk X.prog X.w H s.heap a (.e xs)from I.hok a _ ea);exact xG9 xW9 I.kIn ⟨_,h1,rfl⟩ e (fun z=>nomatch z) h
 |@frz a ob xs ea=>cases (show u=qb7 a from U);obtain⟨_,_,_,n,_,h1⟩:=(show ObjOk X.prog X.w H s.heap a (.frz ob (.e xs))from I.hok a _ ea);exact xG9 xW9 I.kIn ⟨_,h1,rfl⟩ e (fun z=>nomatch z) h
 |@t a xs ea=>cases (show u=qb7 a from U);obtain⟨_,_,_,p⟩:=(show ObjOk X.prog X.w H s.heap a (.t xs)from I.hok a _ ea);obtain⟨o,h1,h2,_⟩:=p;exact xG9 PySem.W.kitx_tuple I.kIn ⟨o,h1,h2⟩ e (fun z=>nomatch z) h
 |@dK a J3 ea=>cases (show u=qb7 a from U);obtain⟨_,_,vs,_,p⟩:=(show ObjOk X.prog X.w H s.heap a (.dK J3)from I.hok a _ ea);obtain⟨o,es,ep,h1,h2,_⟩:=p;exact xG9 xQ9 I.kIn ⟨o,h1,h2.1⟩ e (fun z=>nomatch z) h
 |@dT a J3 ea=>cases (show u=qb7 a from U);obtain⟨_,_,xs,_,o,es,ep,h1,h2,_⟩:=(show ObjOk X.prog X.w H s.heap a (.dT J3)from I.hok a _ ea);exact xG9 xQ9 I.kIn ⟨o,h1,h2.1⟩ e (fun z=>nomatch z) h
 |@ins a C dx fs ea cl ha hn Z hm=>cases (show u=qb7 a from U);obtain⟨mA,O,_⟩:=zV I.hok ea;obtain⟨od,J,_⟩:=O.look;exact xG9 (PySem.W.kitx_own (cl.get _) cl.hd ha hn Z hm) I.kIn J e (fun z=>nomatch z) h
end
structure Room(k:Nat)(A:qd8):Prop where
 hd:A.handled=ψ
 dp:A.depth+3*k+5<recursionLimit
 un:A.units+16*k+200<cLine
theorem Room.mono{k:Nat}(r:Room k A)(h:j<=k):Room j A:=⟨r.hd,by have:=r.dp;lia,by have:=r.un;lia⟩
theorem Room.deeper{k:Nat}(r:Room (k+1) A)(env:Env):Room k (A.deeper env):=⟨r.hd,by have:=r.dp;show A.depth+1+3*k+5<_;lia,by have:=r.un;show A.units+3+16*k+200<_;lia⟩
variable{kw:η (Str×Value)}
theorem sf:(A.under (.builtin "type.__call__" ⟨.ref C::us,kw⟩)).depth=A.depth+1:=by first|rfl|simp[zd9,Code.weight,Code.isCreation,Code.isGuard,Code.isCaller,Code.frames,ze0,guardIds]
theorem sh:(A.under (.builtin "type.__call__" ⟨.ref C::us,kw⟩)).units=A.units+1:=by first|rfl|simp[zd9,Code.cUnits,Code.frames,ze0]
theorem Room.make{k:Nat}(r:Room (k+1) A)(C:J5)(us:η Value)(kw:η (Str×Value)):Room k (A.under (.builtin "type.__call__" ⟨.ref C::us,kw⟩)):=⟨r.hd,by have:=r.dp;rw[sf];lia,by have:=r.un;rw[sh];lia⟩
theorem Room.depth{k:Nat}(r:Room k A):A.depth<recursionLimit:=by have:=r.dp;lia
theorem Room.units{k:Nat}(r:Room k A):A.units+64<cLine:=by have:=r.un;lia
def tNil:TA:=fun _ H Q=>Q [] H
def E4(ta:TE)(O:TA):TA:=fun σ H Q=>ta σ H fun x H1=>O σ H1 fun xs H2=>Q (x::xs) H2
section
variable{X:Cx}{e:J9}{es:η J9}{te:TE}{t:TA}{pos:Pos}
theorem ia:PA X [] tNil:=fun _ _ _ _ H Q I h=>qx1 ⟨[],H,I,.nil,h⟩
theorem c8(O:PE X e te)(hr:PA X es t)(U:qa2 (e::es) X.env=(ξ,eval e X.env)::qa2 es X.env:=by rfl):PA X (e::es) (E4 te t):=by intro pos J1 s σ H Q I h;rw[U];show wpAny _ _ (spliced ((ξ,eval e X.env)::qf2 pos (qa2 es X.env))) _ _ s;refine qn1 (thn (O J1 s σ H _ I h) fun u s1 ⟨x,H1,I1,r1,q1⟩=>?_);exact thn (hr pos J1 s1 σ H1 _ I1 q1) fun us s2 ⟨xs,H2,Z,r2,q2⟩=>⟨x::xs,H2,Z,.cons r1 r2,q2⟩
def tTup(t:TA):TE:=fun σ H Q=>t σ H fun xs H1=>xs.length<=qa7/\∀p,H1 p=ψ->Q (.ref p) (upd H1 p (.t xs))
def tLst(t:TA):TE:=fun σ H Q=>t σ H fun xs H1=>xs.length<=qa7/\∀p,H1 p=ψ->Q (.ref p) (upd H1 p (.e xs))
theorem wO{x1}(h:PA X es t):PE X (.Tuple es x1 pos) (tTup t):=by intro J1 s σ H Q I U;refine wpAny_Tuple_spliced (thn (h pos J1 s σ H _ I U) fun us s1 ⟨xs,H1,O,r,z,q⟩=>⟨by rw[<- r.length];exact z,?_⟩);have Z:H1 s1.heap.objs.size=ψ:=O.hok.fresh (nL _);refine⟨.ref s1.heap.objs.size,upd H1 s1.heap.objs.size (.t xs),O.laid (t':=s1.toks) (fun b u e=>gP _ e) (nL _) ?_,rfl,q _ Z⟩;exact⟨z,us,r,⟨_,qb6 _ rfl,rfl,_,rfl⟩⟩
theorem CW(h:PA X es t):PE X (.List es pos) (tLst t):=by intro J1 s σ H Q I U;refine wpAny_List_spliced (thn (h pos J1 s σ H _ I U) fun us s1 ⟨xs,H1,O,r,z,q⟩=>⟨by rw[<- r.length];exact z,?_⟩);have Z:H1 s1.heap.objs.size=ψ:=O.hok.fresh (nL _);refine⟨.ref s1.heap.objs.size,upd H1 s1.heap.objs.size (.e xs),O.laid (t':=s1.toks) (fun b u e=>gP _ e) (nL _) ?_,rfl,q _ Z⟩;exact⟨z,us,0,r,qb6 _ rfl⟩
end
abbrev Sp:=η V->Hp->VK->XK->Prop
abbrev CXT:=η Env->Hp->qa4->XK->Value->qa4->Prop
structure Env0(P:qc0)(w:J6)(K:xA9)(mg:Str->Option Value)(base:Heap)(A:qd8)(outer:List Env)(s:qa4)(H:Hp):Prop where
 frames:A.frames=ς outer
 mod:Mod K mg base
 bs:∀b o,base.get? b=ς o->s.heap.get? b=ς o/\H b=ψ
 bsz:base.objs.size<=s.heap.objs.size
 funs:s.heap.FunFrames base outer
 frf:∀b∈frs outer,H b=ψ
 hok:HOk P w H s.heap
 bare:qy2 s.gens
 tb:∀p∈p8 K,H p.1=ς (.ctab p.2)
def CE(outer:η Env)(P:qc0)(w:J6)(H:Hp)(s:qa4)(Q:VK)(u:Value)(s':qa4):Prop:=∃v H',s'.os=s.os/\qy2 s'.gens/\Un (frs outer) [] H H' s.heap s'.heap/\HOk P w H' s'.heap/\RelV v u/\Q v H'
def CR(CX:CXT)(outer:η Env)(P:qc0)(w:J6)(H:Hp)(s:qa4)(Q:VK)(E:XK)(r:Result)(s':qa4):Prop:=
 match r with
 |.ok (.ret u)=>CE outer P w H s Q u s'
 |.ok _=>False
 |.error e=>CX outer H s E e s'
structure FnOk(P:qc0)(w:J6)(K:xA9)(mg:Str->Option Value)(base:Heap)(CX:CXT)(k:Nat)(f:J5)(fd:qk2)(ps:List Str)(sp:Sp):Prop where
 len:∀vs H Q E,sp vs H Q E->vs.length=ps.length
 run:∀(A:qd8)(outer:List Env)(s:qa4)(H:Hp)(args:Args)(us:List Value)(vs:List V)(Q:VK)(E:XK),Room k A->Env0 P w K mg base A outer s H->zf0 s fd args (ps.zip us)->Vals vs us->sp vs H Q E→
  qy4 (model P w) A (.call (.ref f) args) (CR CX outer P w H s Q E) s
variable{mg:Str->ζ Value}{base:Heap}{CX:CXT}{fd:qk2}{ps:η Str}{sp:Sp}
theorem FnOk.imp{w:J6}{k:Nat}{f:J5}{U:Sp}(F:FnOk P w K mg base CX k f fd ps sp)
 (h:∀vs H Q E,U vs H Q E->sp vs H Q E):FnOk P w K mg base CX k f fd ps U:=
 ⟨fun vs H Q E q=>F.len vs H Q E (h _ _ _ _ q),fun A outer s H O us vs Q E hr Z hb hv hs=>F.run A outer s H O us vs Q E hr Z hb hv (h _ _ _ _ hs)⟩
variable{outer:η Env}
theorem Env0.make {w:J6} (e:Env0 P w K mg base A outer s H) (C:J5) (us:η Value) (kw:η (Str×Value)) :
  Env0 P w K mg base (A.under (.builtin "type.__call__" ⟨.ref C::us,kw⟩)) outer s H:=⟨by first|exact e.frames|(simpa[zd9,Code.envs,ze0,pushEnvs] using e.frames),e.mod,e.bs,e.bsz,e.funs,e.frf,e.hok,e.bare,e.tb⟩
section
variable{X:Cx}{J1:η (J5×Obj)}{σ:St}{H:Hp}{s s':qa4}
theorem Inv.env0(I:Inv X J1 σ H s):Env0 X.prog X.w X.K X.mg X.base X.A X.stack s H:=⟨I.ok.frames,I.ok.mod,I.bs,qc5 I.ok.bsz I.sz,I.stack,I.stkFree,I.hok,I.bare,fun p O=>I.base.cts _ _ (I.ok.tb p O)⟩
theorem Inv.after{Q:VK}(I:Inv X J1 σ H s)(h:CE X.stack X.prog X.w H s Q u s'):EP X J1 σ Q u s':=by obtain⟨v,H',os,O,un,Z,r,q⟩:=h;obtain⟨hh,g,d,t,U⟩:=s';obtain rfl:U=s.os:=os;exact⟨v,H',I.call (h':=hh) (g':=g) (d':=d) (t':=t) (ch:=[]) un Z O (fun b z=>absurd z Ξ),r,q⟩
end
def tV(sp:Sp)(dvs:η V)(E:XK)(t:TA):TE:=fun σ H Q=>t σ H fun vs H1=>sp (vs++dvs) H1 Q E
def Binds(K:xA9)(fd:qk2)(ps:η Str)(ds:η Value):Prop:=∀(s:qa4)(us:η Value),K.In s.heap->(us++ds).length=ps.length->zf0 s fd ⟨us,[]⟩ (ps.zip (us++ds))
theorem Binds.all(h:∀us:η Value,us.length=ps.length->ze7 fd ⟨us,[]⟩=pure (ps.zip us)):Binds K fd ps []:=fun s us _ O=>by rw[qd2]at O ⊢;exact .of_eq (h us O)
def oz(CX:CXT)(X:Cx)(E:XK):Prop:=∀(J1:η (J5×Obj))(σ:St)(H:Hp)(s:qa4)(e:Value)(s':qa4),Inv X J1 σ H s->CX X.stack H s E e s'->X.xe e s'
variable{vs:η V}
section
variable{X:Cx}{CX:CXT}{k:Nat}{f C:J5}{fd:qk2}{ps:η Str}{sp:Sp}{dvs:η V}{ds:η Value}{E:XK}{x m:Str}{p pos apos:Pos}{e o:J9}{es:η J9}{ta:TE}{t:TA}
theorem CY{Q:VK}(F:FnOk X.prog X.w X.K X.mg X.base CX k f fd ps sp)(hr:Room k X.A)(hb:Binds X.K fd ps ds)(hd:Vals dvs ds)(hx:oz CX X E)
 (I:Inv X J1 σ H s) (r:Vals vs us) (h:sp (vs++dvs) H Q E):wpAny (model X.prog X.w) X.A (call (.ref f) us) (EP X J1 σ Q) X.xe s:=by
 have U:Vals (vs++dvs) (us++ds):=r.append hd;have Z:(us++ds).length=ps.length:=by rw[<- U.length];exact F.len _ _ _ _ h
 refine qu5 (qv8 (F.run X.A X.stack s H ⟨us,[]⟩ (us++ds) (vs++dvs) Q E hr I.env0 (hb s us I.kIn Z) U h) fun r s' O=>?_);cases r with
 |error e=>exact hx J1 σ H s e s' I O
 |ok fl=>
  cases fl with
  |ret u=>exact I.after O
  |next=>exact qf3 O
  |brk=>exact qf3 O
  |cont=>exact qf3 O
theorem tW (F:FnOk X.prog X.w X.K X.mg X.base CX k f fd ps sp) (hr:Room k X.A) (hg:Gl X x) (hm:X.mg x=ς (.ref f)) (hk:xE9 X.K (.ref f)=θ) (hb:Binds X.K fd ps ds) (hd:Vals dvs ds) (hx:oz CX X E)
  (ha:PA X (e::es) t) (U:(x==("__debug__":Str))=ξ:=by decide) (he:qa2 (e::es) X.env=(ξ,eval e X.env)::qa2 es X.env:=by rfl) (O:(qf2 pos (qa2 es X.env)).any (·.1)=ξ:=by rfl) :
  PE X (.Call (.Name x p) (e::es) [] pos) (tV sp dvs E t):=by
 intro J1 s σ H Q I h;refine qn2 (jp I hg hm ?_ U);refine xX9 (h₀:=X.base) I.ok.mod.kin hk (thn (ha pos J1 s σ H _ I h) fun us s1 ⟨vs,H1,Z,r,q⟩=>⟨Z.kIn,?_⟩) he O;exact CY F hr hb hd hx Z r q
end
structure FnScope(N P:List Str)(sc:Ja):Prop where
 kind:sc.kind=.function
 co:sc.isCoroutine=ξ
 gen:sc.isGenerator=ξ
 nd:N.Nodup
 pre:N.take P.length=P
 par:∀x∈P,sc.names.lookup x=ς .local∨sc.names.lookup x=ς .cell
 nofree:∀y∈sc.names,y.2≠.free
variable{kindOf:Str->ζ qp0}
theorem mR:∀{binds:η (Str×Value)}{m:Str->ζ Value},(∀v,(x,v)∉binds)->bindL kindOf binds m x=m x
 |[],_,_=>rfl
 |(n,v)::r,m,h=>by
  unfold bindL;rw[mR fun w hw=>h w (qa3 _ hw)];split
  .have:x≠n:=by rintro rfl;exact h v qa8
   simp[this]
  .rfl
theorem mT:∀{binds:η (Str×Value)}{m:Str->ζ Value},(∀v,(x,v)∉binds)->bindC kindOf binds m x=m x
 |[],_,_=>rfl
 |(n,v)::r,m,h=>by
  unfold bindC;rw[mT fun w hw=>h w (qa3 _ hw)];split
  .rfl
  .have:x≠n:=by rintro rfl;exact h v qa8
   simp[this]
theorem mU {v:Value}:∀ {P:η Str} {vs:η Value} {i:Nat} {m:Str->ζ Value},P.Nodup->P[i]?=ς x->vs[i]?=ς v->kindOf x=ς .local→
  bindL kindOf (P.zip vs) m x=ς v
 |[],_,_,_,_,h,_,_=>by simp at h
 |_::_,[],_,_,_,_,h,_=>by simp at h
 |p::P,w::vs,0,m,nd,h1,h2,hk=>by
  simp at h1 h2;subst h1;subst h2
  show bindL kindOf ((p,w)::P.zip vs) m p=_;unfold bindL;rw[mR fun v hv=>(qg9.mp nd).1 (qu9 hv).1,if_pos hk];simp
 |p::P,w::vs,i+1,m,nd,h1,h2,hk=>by show bindL kindOf ((p,w)::P.zip vs) m x=_;unfold bindL;exact mU (i:=i) (qg9.mp nd).2 (by simpa using h1) (by simpa using h2) hk
theorem mV {v:Value}:∀ {P:η Str} {vs:η Value} {i:Nat} {m:Str->ζ Value},P.Nodup->P[i]?=ς x->vs[i]?=ς v->kindOf x≠ς .local→
  bindC kindOf (P.zip vs) m x=ς v
 |[],_,_,_,_,h,_,_=>by simp at h
 |_::_,[],_,_,_,_,h,_=>by simp at h
 |p::P,w::vs,0,m,nd,h1,h2,hk=>by
  simp at h1 h2;subst h1;subst h2
  show bindC kindOf ((p,w)::P.zip vs) m p=_;unfold bindC;rw[mT fun v hv=>(qg9.mp nd).1 (qu9 hv).1,if_neg hk];simp
 |p::P,w::vs,i+1,m,nd,h1,h2,hk=>by show bindC kindOf ((p,w)::P.zip vs) m x=_;unfold bindC;exact mV (i:=i) (qg9.mp nd).2 (by simpa using h1) (by simpa using h2) hk
def e7(N:η Str)(vs:η V):St:=vs.map ς++qb2 (N.length-vs.length) ψ
def dq(CX:CXT)(P:qc0)(w:J6)(K:xA9)(mg:Str->ζ Value)(base:Heap)(N:η Str)(qual:Str)(scope:Ja)(f:J5)(cd:Value)(A:qd8)(outer:η Env)(s:qa4)(H:Hp)(E:XK):Cx where
 prog:=P
 w:=w
 K:=K
 mg:=mg
 base:=base
 A:=A.deeper (qn3 qual scope s.heap.objs.size f cd)
 N:=N
 s₀:=s
 H₀:=H
 env:=qn3 qual scope s.heap.objs.size f cd
 outer:=outer
 stack:=qn3 qual scope s.heap.objs.size f cd::outer
 ex:=[]
 calm:=true
 fn:=fun _=>θ
 pn:=[]
 xe:=fun e s'=>wpAny (model P w) (A.deeper (qn3 qual scope s.heap.objs.size f cd)) (leaving (qn3 qual scope s.heap.objs.size f cd) e) (fun _ O=>CX outer H s E e O) (fun U O=>CX outer H s E U O) s'
theorem qd{sc:Ja}(h:sc.names.lookup x=ς .cell):∃c,(qx2 n sc.names []).lookup x=ς c:=by have q:=PySem.W.cellsFrom_some sc.names n [] (.inl h);exact qx3.mp q
variable{qual:Str}{scope:Ja}
theorem mW{w:J6}{f:J5}{cd:Value}{s1:qa4}{E:XK} 
 (S:FnScope N ps scope) (hd:A.handled=ψ) (e0:Env0 P w K mg base A outer s H) (hl:vs.length=ps.length) (r:Vals vs us)
 (x:InCallC s s.heap.objs.size (bindL (qn3 qual scope s.heap.objs.size f cd).kindOf (ps.zip us) fun _=>ψ) (qx2 (s.heap.objs.size+1) scope.names []) (bindC (qn3 qual scope s.heap.objs.size f cd).kindOf (ps.zip us) fun _=>ψ) s1) :
  Inv (dq CX P w K mg base N qual scope f cd A outer s H E) [] (e7 N vs) H s1:=by
 have hpl:ps.length<=N.length:=by have:=congrArg zc2 S.pre;rw[qk6]at this;lia
 obtain⟨h1,tk,rfl,hk⟩:=x.done;have O:∀b:J5,b∉(dq CX P w K mg base N qual scope f cd A outer s H E).ex:=fun b z=>absurd (show b∈([]:η J5)from z) Ξ
 refine⟨⟨e0.mod,S.kind,rfl,rfl,nL _,fun y z c h1 h2=>?_,fun y U=>?_,fun y c _ h=>?_,fun _=>hd,qd8.frames_deeper e0.frames,.inr ⟨rfl,rfl⟩,fun b z=>absurd z (O b),e0.bs,e0.bsz,fun b _ _=>O b,fun b z=>absurd z (O b),e0.funs,e0.frf,e0.tb⟩,rfl,e0.bare,Un.kept hk,⟨_,x.toInCall.ns,fun i y v h1 h2 h3=>?_⟩,fun y c h=>⟨_,x.cell y c h⟩,e0.hok.fresh (qr4 _),fun y c h=>?_,fun p Z=>absurd (show p∈([]:η (J5×Obj))from Z) Ξ,e0.hok.kept hk,?_⟩
 .exact name_of_addr x.apart (PySem.mem_of_lookup h1) (PySem.mem_of_lookup h2)
 .have U:scope.names.lookup y=ς .cell∨scope.names.lookup y=ς .free:=U;rcases U with U|U
  .exact qd U
  .exact absurd rfl (S.nofree _ (PySem.mem_of_lookup U))
 .exact qs2 (x.above y c (PySem.mem_of_lookup h))
 .have hi:i<vs.length:=by
   unfold e7 at h2;by_cases hi:i<vs.length
   .exact hi
   .rw[qv5 (by simpa using hi)]at h2;rw[qy5]at h2;split at h2<;>cases h2
  have ha:vs[i]?=ς v:=by
   unfold e7 at h2;rw[qo4 (by simpa using hi),qd3]at h2;cases e:vs[i]? with
   |none=>rw[e]at h2;cases h2
   |some a=>rw[e]at h2;cases h2;rfl
  obtain⟨u,hu,rv⟩:=r.get ha
  have Z:ps[i]?=ς y:=by rw[<- S.pre,List.getElem?_take_of_lt Θ];exact h1
  have ndP:ps.Nodup:=by rw[<- S.pre];exact S.nd.sublist (List.take_sublist _ _)
  refine⟨u,rv,?_⟩;rcases S.par y (qo2 Z)with k|k
  .exact .inl ⟨k,mU ndP Z hu k⟩
  .obtain⟨c,e⟩:=qd (n:=s.heap.objs.size+1) k;refine .inr ⟨.inl k,c,e,?_⟩;have q:=x.cell y c e;rw[mV ndP Z hu (by show scope.names.lookup y≠_;rw[k];decide)]at q;exact q
 .exact e0.hok.fresh (qs2 (x.above y c (PySem.mem_of_lookup h)))
 .unfold e7;show _=N.length;rw[qd6,qa5,za3];lia
theorem BN{w:J6}{k:Nat}{f:J5}{name:Str}{params:qo5}{dV kV doc pm cdv ct oc:Value}{an od:ζ J5}
 {osl:Array (ζ Value)} (lk:K.lookup f=ς ⟨oc,od,.func (xF9 name qual params body scope dV kV doc pm an cdv ct),osl⟩) (hcd:xK9 K cdv qual=θ) (S:FnScope N ps scope)
 (len:∀vs H Q E,sp vs H Q E->vs.length=ps.length)
 (Z:∀(A:qd8)(outer:η Env)(s:qa4)(H:Hp)(vs:η V)(Q:VK)(E:XK),Room k (A.deeper (qn3 qual scope s.heap.objs.size f cdv))->sp vs H Q E→
 ∃t,PSs (dq CX P w K mg base N qual scope f cdv A outer s H E) body t/\t {nx:=fun _ H'=>Q .non H',rt:=Q} (e7 N vs) H) :
  FnOk P w K mg base CX (k+1) f (xF9 name qual params body scope dV kV doc pm an cdv ct) ps sp:=by
 refine⟨len,fun A outer s H args us vs Q E hr e0 hb r hsp=>?_⟩;have hl:=len _ _ _ _ hsp;have KX:K.In s.heap:=e0.mod.kin.keeps fun b o e=>(e0.bs b o e).1
 have lim:s.heap.NoLimit:=e0.mod.nolimit.keeps fun b o e=>(e0.bs b o e).1
 have U:∀y∈ps.zip us,scope.names.lookup y.1=ς .local∨(scope.names.lookup y.1=ς .cell/\((qx2 (s.heap.objs.size+1) scope.names []).lookup y.1).isSome=θ):=fun⟨n,v⟩ hy=>by
  rcases S.par n (qu9 hy).1 with q|q
  .exact .inl q
  .exact .inr ⟨q,PySem.W.cellsFrom_some _ _ _ (.inl q)⟩
 refine za4 hr.depth (KX _ _ lk) rfl S.co S.gen rfl (PySem.W.codeRec_of KX hcd) (hb _ _ _ _ ?_);refine wpAny_newFunctionEnv_cells S.kind U fun env he s1 x=>?_
 subst he;refine⟨lim.keeps x.toInCall.keep,codeAny_func ?_⟩;obtain⟨t,ht,hq⟩:=Z A outer s H vs Q E (hr.deeper _) hsp;have I:Inv (dq CX P w K mg base N qual scope f cdv A outer s H E) [] (e7 N vs) H s1:=mW S hr.hd e0 hl r x;refine qf1 (ht [] s1 (e7 N vs) H _ I hq) (fun fl s' hs=>?_) fun e s' hs=>hs
 have fin:∀{O:St}{H':Hp}{v:V}{u:Value},Inv (dq CX P w K mg base N qual scope f cdv A outer s H E) [] O H' s'->RelV v u->Q v H'->CE outer P w H s Q u s':=fun {O H' v u} J rv q=>⟨v,H',J.os,J.bare,J.base,J.hok,rv,q⟩
 cases fl with
 |ret u=>obtain⟨v,O,H',J,rv,q⟩:=hs;exact fin J rv q
 |next=>obtain⟨O,H',J,q⟩:=hs;exact fin (v:=V.non) (u:=qc7) J rfl q
 |brk=>obtain⟨_,_,_,q⟩:=hs;exact qf3 q
 |cont=>obtain⟨_,_,_,q⟩:=hs;exact qf3 q
section
variable{X:Cx}{x:Str}{p pos:Pos}{e:J9}{es:η J9}{t:TA}{id T:String}{r:η V->Hp->VK->Prop}
def tCB(r:η V->Hp->VK->Prop)(t:TA):TE:=fun σ H Q=>t σ H fun vs H1=>r vs H1 Q
theorem wP (hc:CallR X (.builtin id) r) (Z:Gl X x) (hm:X.mg x=ψ) (hv:qd5 x=ς (.builtin id)) (ha:PA X (e::es) t) (hn:x≠"__name__":=by decide) (U:(x==("__debug__":Str))=ξ:=by decide)
  (he:qa2 (e::es) X.env=(ξ,eval e X.env)::qa2 es X.env:=by rfl) (O:(qf2 pos (qa2 es X.env)).any (·.1)=ξ:=by rfl):PE X (.Call (.Name x p) (e::es) [] pos) (tCB r t):=by
 intro J1 s σ H Q I h;refine qn2 (jh I Z hm hv ?_ hn U);exact PyProof.Rows.callWith_builtin1 (thn (ha pos J1 s σ H _ I h) fun us s1 ⟨vs,H1,I1,r1,q1⟩=>hc J1 s1 σ H1 vs us Q I1 r1 q1) he O
theorem vo (hc:CallR X (.type T) r) (Z:Gl X x) (hm:X.mg x=ψ) (hv:qd5 x=ς (.type T)) (ha:PA X (e::es) t) (hn:x≠"__name__":=by decide) (U:(x==("__debug__":Str))=ξ:=by decide)
  (he:qa2 (e::es) X.env=(ξ,eval e X.env)::qa2 es X.env:=by rfl) (O:(qf2 pos (qa2 es X.env)).any (·.1)=ξ:=by rfl):PE X (.Call (.Name x p) (e::es) [] pos) (tCB r t):=by
 intro J1 s σ H Q I h;refine qn2 (jh I Z hm hv ?_ hn U);exact qh8 (thn (ha pos J1 s σ H _ I h) fun us s1 ⟨vs,H1,I1,r1,q1⟩=>hc J1 s1 σ H1 vs us Q I1 r1 q1) he O
end
end L2
namespace HT
open PySem PyProof.Rows
variable{Q:Value->qa4->Prop}{sl:J5}{vu:Value}{lo hi:ζ Int}
section
variable{prog:qc0}{w:J6}{A:qd8}{E:Value->qa4->Prop}{s:qa4}
theorem FW{t b:J5}{vs ws:η Value}(ht:IsTup s.heap t vs.toArray)(hb:IsTup s.heap b ws.toArray)(hv:vs≠[])
 (h1:ws=[]->Q (.ref t) s) (h2:ws≠[]->Q (.ref s.heap.objs.size) {s with heap:=s.heap.push {cls:=.type "tuple",data:=.seq (vs++ws).toArray}})
 (hsz:vs.length+ws.length<=qa7):wpAny (model prog w) A (qk8 .Add (.ref t) (.ref b)) Q E s:=by
 obtain⟨⟨cls,dd,data,sl⟩,ho,hc,n,hd⟩:=id ht;obtain⟨⟨cls2,U,data2,Z⟩,O,hc2,n2,hd2⟩:=id hb;simp only at hc hd hc2 hd2;subst hc hd hc2 hd2;have e:vs.toArray++ws.toArray=(vs++ws).toArray:=by simp
 by_cases hw:ws=[]
 .exact qv9 ⟨_,ho,rfl⟩ ⟨_,O,rfl⟩ qs6 qy6 PySem.F.slot_tuple_add PySem.F.entry_tuple_add (PySem.F.args_tuple_add_2 _ _)
   (tuple_addW1 t b vs.toArray ws.toArray n n2 dd U sl Z (by simpa using hv) (by simp[hw])) ⟨ho,O,h1 hw⟩
 .refine qv9 ⟨_,ho,rfl⟩ ⟨_,O,rfl⟩ qs6 qy6 PySem.F.slot_tuple_add PySem.F.entry_tuple_add (PySem.F.args_tuple_add_2 _ _)
   (tuple_addW2 t b vs.toArray ws.toArray n n2 dd U sl Z (by simpa using hv) (by simpa using hw) (by rw[qb4,qb4];exact hsz)) ⟨ho,O,?_⟩
  rw[e];exact h2 hw
def sIx(n d:Nat):ζ Int->Nat
 |none=>d
 |some v=>if v<0 then(v+(n:Int)).toNat else min v.toNat n
theorem E5(n d:Nat):sIx n d ψ=d:=rfl
theorem FX(n d k:Nat):sIx n d (ς (k:Int))=min k n:=by show(if(k:Int)<0 then((k:Int)+(n:Int)).toNat else min (k:Int).toNat n)=min k n;rw[if_neg Θ,qr8]
theorem CZ(n d:Nat)(hd:d<=n)(o:ζ Int):sIx n d o<=n:=by
 cases o with
 |none=>exact hd
 |some v=>
  show(if v<0 then(v+(n:Int)).toNat else min v.toNat n)<=n;by_cases O:v<0
  .rw[if_pos O];lia
  .rw[if_neg O];exact Nat.min_le_right _ _
theorem tX(v:Int)(n d:Nat):(if v<0 then max (v+(n:Int)) 0 else min v (n:Int))=((sIx n d (ς v):Nat):Int):=by
 show(if v<0 then max (v+(n:Int)) 0 else min v (n:Int))=(((if v<0 then(v+(n:Int)).toNat else min v.toNat n):Nat):Int);by_cases O:v<0
 .simp only[if_pos O];lia
 .simp only[if_neg O];lia
theorem si(lo hi:ζ Int)(n:Nat):qo6 lo hi 1 (n:Int)=(((sIx n 0 lo:Nat):Int),((sIx n n hi:Nat):Int)):=by
 have h1:¬ ((1:Int)<0):=by lia
 unfold qo6;simp only[h1,if_false];refine Prod.ext ?_ ?_
 .cases lo with
  |none=>rfl
  |some v=>exact tX v n 0
 .cases hi with
  |none=>rfl
  |some v=>exact tX v n n
theorem sj(i j:Nat):ql1 (i:Int) (j:Int) 1=j-i:=by
 unfold ql1;have h1:(1:Int) > 0:=by lia
 simp only[h1,if_true,Int.ediv_one];split<;>lia
theorem lG{v:Value}{o:ζ Int}{Q:ζ Int->qa4->Prop}(p:ze1 v o)(h:Q o s):wpAny (model prog w) A (qn0.Slice.slicePartIndex v) Q E s:=by
 cases p with
 |none=>exact slicePart_none h
 |int i t=>exact slicePart_int h
theorem j6{vl:Value}{n:Nat}{Q:Int×Int×Nat->qa4->Prop}(hs:s.heap.IsSliceOf sl vl vu .none)(pl:ze1 vl lo)(Z:ze1 vu hi)
 (h:Q (((sIx n 0 lo:Nat):Int),1,sIx n n hi-sIx n 0 lo) s):wpAny (model prog w) A (qv6 (.ref sl) (pure (n:Int))) Q E s:=by
 obtain⟨os,O,hcs,U⟩:=id hs;unfold qv6 qn0.Slice.sliceFields;refine wB (wB (qd7 O U (x:=vl) rfl (wB (qd7 O U (x:=vu) rfl (wB (qd7 O U (x:=.none) rfl (qb1 ?_)))))));refine wB (slicePart_none ?_);show wpAny _ _ (if((1:Int)==0)=θ then _ else _) _ _ s;rw[if_neg Ω];refine wB (lG pl (wB (lG Z (wB (qb1 ?_)))));show wpAny _ _ (match qo6 lo hi 1 (n:Int)with|(lo,hi)=>pure (lo,(1:Int),ql1 lo hi 1)) _ _ s;rw[si lo hi n];show wpAny _ _ (pure (((sIx n 0 lo:Nat):Int),(1:Int),ql1 ((sIx n 0 lo:Nat):Int) ((sIx n n hi:Nat):Int) 1)) _ _ s;rw[sj];exact qb1 h
theorem wQ(xs:Array Value)(i k:Nat):((qm6 k).filterMap fun(m:Nat)=>xs[((i:Int)+(m:Int)*1).toNat]?).toArray=((xs.toList.drop i).take k).toArray:=by
 have e:(fun(m:Nat)=>xs[((i:Int)+(m:Int)*1).toNat]?)=fun m=>xs[i+m]?:=by
  funext m;have:((i:Int)+(m:Int)*1).toNat=i+m:=by lia
  rw[this]
 rw[e];have:=pick_run xs i k;rw[List.filterMap_map]at this;have e2:((fun x=>xs[x]?) ∘ fun x=>i+x)=fun m=>xs[i+m]?:=rfl
 rw[e2]at this;rw[this]
theorem tY{t:J5}{O:Array Value}{vl:Value}(Z:IsTup s.heap t O)(hs:s.heap.IsSliceOf sl vl vu .none)(pl:ze1 vl lo)(pu:ze1 vu hi)
 (hw:¬ (sIx O.size 0 lo=0/\sIx O.size O.size hi=O.size))
 (h:Q (.ref s.heap.objs.size) {s with heap:=s.heap.push {cls:=.type "tuple",data:=.seq ((O.toList.drop (sIx O.size 0 lo)).take (sIx O.size O.size hi-sIx O.size 0 lo)).toArray}})
 (hsz:O.size<=qa7):wpAny (model prog w) A (zc3 (.ref t) (.ref sl)) Q E s:=by
 have U:sizeOk (.seq ((O.toList.drop (sIx O.size 0 lo)).take (sIx O.size O.size hi-sIx O.size 0 lo)).toArray):=by show((O.toList.drop (sIx O.size 0 lo)).take (sIx O.size O.size hi-sIx O.size 0 lo)).toArray.size<=qa7;rw[qb4,qk6,qi2,qp5];lia
 have hj:sIx O.size O.size hi<=O.size:=CZ _ _ (nL _) hi;obtain⟨os,hos,hcs,hds⟩:=id hs;have hTs:s.TypeIs (.ref sl) "slice":=⟨os,hos,hcs⟩;unfold zc3
 try with_reducible refine qi6 ?_
 first|refine wB (qb1 ?_)|skip
 refine wB (wpAny_sequenceKey Z.typeIs Ω ?_)
 refine wB (qj3 (name:=qa0 "__getitem__") Z.typeIs ql6
  (qp1 ql6 Z.typeIs entry_tuple_getitem ?_ (args_tuple_getitem _ _)))
 show wpAny _ _ (qn0.Tuple.tupleItemsOf (.ref t) >>= _) _ _ s;refine wB (tupleItemsOf_ Z ?_);refine wB (wpAny_typeOf hTs ?_);rw[if_pos Ω];refine wB (j6 hs pl pu ?_)
 have hno:¬ ((((sIx O.size 0 lo:Nat):Int)==0&&(1:Int)==1&&(sIx O.size O.size hi-sIx O.size 0 lo)==O.size)=θ):=by intro q;rw[qb0,qb0]at q;have q1:((sIx O.size 0 lo:Nat):Int)=0:=eq_of_beq q.1.1;have q2:sIx O.size O.size hi-sIx O.size 0 lo=O.size:=eq_of_beq q.2;exact hw ⟨Θ,Θ⟩
 show wpAny _ _ (if(((sIx O.size 0 lo:Nat):Int)==0&&(1:Int)==1&&(sIx O.size O.size hi-sIx O.size 0 lo)==O.size)=θ then _ else _) _ _ s;rw[if_neg hno,wQ]
 first
  |exact wB (m:=ql7 _) (qh3 (qb1 ⟨_,rfl,qb1 h⟩) U)
  |exact wB (m:=ql7 _) (qh3 (wB (qb1 (qb1 ⟨_,rfl,qb1 h⟩))) U)
  |exact wB (wB (m:=ql7 _) (qh3 (qb1 (qb1 ⟨_,rfl,qb1 h⟩)) U))
  |exact wB (wB (m:=ql7 _) (qh3 (qb1 ⟨_,rfl,qb1 h⟩) U))
end
end HT
namespace L2
open PySem PySem.Spec PyProof.Rows
abbrev TO:=St->Hp->(ζ Int->Hp->Prop)->Prop
def PO(X:Cx)(e:ζ J9)(t:TO):Prop:=
 ∀(J1:η (J5×Obj))(s:qa4)(σ:St)(H:Hp)(Q:ζ Int->Hp->Prop),Inv X J1 σ H s->t σ H Q→
  wpAny (model X.prog X.w) X.A (evalPart e X.env) (fun u s'=>∃o H',Inv X J1 σ H' s'/\ze1 u o/\Q o H') X.xe s
def zX:TO:=fun _ H Q=>Q ψ H
def E6(t:TE):TO:=fun σ H Q=>t σ H fun x H1=>∃i,x=.int i/\Q (ς i) H1
variable{r:V->ζ Int->ζ Int->Hp->VK->Prop}{xs:η V}{us:η Value}
section
variable{X:Cx}{e:J9}{te:TE}{lo hi:ζ J9}{tl th:TO}{pos p2:Pos}
theorem zY:PO X ψ zX:=by intro J1 s σ H Q I h;rw[evalPart_none];exact qb1 ⟨ψ,H,I,.none,h⟩
theorem zZ(h:PE X e te):PO X (ς e) (E6 te):=by
 intro J1 s σ H Q I O;rw[evalPart_some];refine thn (h J1 s σ H _ I O) fun u s1 ⟨x,H1,Z,U,q1⟩=>?_
 obtain⟨i,rfl,q⟩:=q1;obtain⟨t,rfl⟩:=U;exact⟨ς i,H1,Z,.int i t,q⟩
def SlR(X:Cx)(r:V->ζ Int->ζ Int->Hp->VK->Prop):Prop:=
 ∀(J1:η (J5×Obj))(s:qa4)(σ:St)(H:Hp)(x:V)(v vl vu:Value)(lo hi:ζ Int)(sl:J5)(Q:VK),Inv X J1 σ H s->RelV x v->s.heap.IsSliceOf sl vl vu .none->ze1 vl lo->ze1 vu hi->r x lo hi H Q→
  ∃T id,typeLookup (.type T) "__getitem__"=pure (ς (.builtin id))/\s.TypeIs v T/\wpAny (model X.prog X.w) X.A (zc3 v (.ref sl)) (EP X J1 σ Q) X.xe s
theorem SlR.or{r':V->ζ Int->ζ Int->Hp->VK->Prop}(h:SlR X r)(h':SlR X r'):SlR X (fun x lo hi H Q=>r x lo hi H Q∨r' x lo hi H Q):=by
 intro J1 s σ H x v vl vu lo hi sl Q I rx O Z U q;rcases q with q|q
 .exact h J1 s σ H x v vl vu lo hi sl Q I rx O Z U q
 .exact h' J1 s σ H x v vl vu lo hi sl Q I rx O Z U q
def tSl(r:V->ζ Int->ζ Int->Hp->VK->Prop)(te:TE)(tl th:TO):TE:=fun σ H Q=>te σ H fun x H1=>tl σ H1 fun l H2=>th σ H2 fun u O=>r x l u O Q
theorem wR(hr:SlR X r)(he:PE X e te)(Z:PO X lo tl)(hu:PO X hi th):PE X (.Subscript e (.Slice lo hi ψ p2) pos) (tSl r te tl th):=by
 intro J1 s σ H Q I h;refine Subscript_ (thn (he J1 s σ H _ I h) fun v s1 ⟨x,H1,I1,r1,q1⟩=>?_);refine wpAny_Slice (thn (Z J1 s1 σ H1 _ I1 q1) fun vl s2 ⟨l,H2,I2,pl,q2⟩=>thn (hu J1 s2 σ H2 _ I2 q2) fun vu O ⟨u,U,I3,pu,q3⟩=>?_);rw[evalPart_none];refine qb1 ?_;have I4:Inv X J1 σ U {O with heap:=O.heap.push {cls:=.type "slice",data:=.fields #[vl,vu,.none]}}:=I3.kept (t':=O.toks) fun b ob q=>gP _ q
 obtain⟨T,id,hT,ht,hg⟩:=hr J1 {O with heap:=O.heap.push {cls:=.type "slice",data:=.fields #[vl,vu,.none]}} σ U x v vl vu l u O.heap.objs.size Q I4 r1 (Heap.IsSliceOf.new ..) pl pu q3;show wpAny (model X.prog X.w) X.A (zd2 e (.Slice lo hi ψ p2) v (.ref O.heap.objs.size)) (EP X J1 σ Q) X.xe {O with heap:=O.heap.push {cls:=.type "slice",data:=.fields #[vl,vu,.none]}};exact tail_any (ops:=[.ref O.heap.objs.size,v]) ht hT hg (by with_unfolding_all rfl)
def qe(xs:η V)(lo hi:ζ Int):η V:=(xs.drop (HT.sIx xs.length 0 lo)).take (HT.sIx xs.length xs.length hi-HT.sIx xs.length 0 lo)
theorem kN(xs:η V)(lo hi:ζ Int):(qe xs lo hi).length<=xs.length:=by unfold qe;rw[qk6,qi2];lia
def rSlT(K:xA9):V->ζ Int->ζ Int->Hp->VK->Prop:=fun x lo hi H Q=>∃a xs,x=.ref a/\SqT K H a xs∧¬ (HT.sIx xs.length 0 lo=0/\HT.sIx xs.length xs.length hi=xs.length)/\∀p,H p=ψ->Q (.ref p) (upd H p (.t (qe xs lo hi)))
theorem C0:SlR X (rSlT X.K):=by
 intro J1 s σ H x v vl vu lo hi sl Q I rx hs pl pu h;obtain⟨a,xs,rfl,hx,hw,q⟩:=h;cases rx;obtain⟨J4,r,Z,U⟩:=I.tuple hx;have O:J4.toArray.size=xs.length:=by rw[qb4];exact r.length.symm
 refine⟨"tuple",_,ql6.lookup,Z.typeIs,?_⟩;refine HT.tY Z hs pl pu (by rw[O];exact hw) ?_ (by rw[O];exact U);rw[O];refine⟨.ref s.heap.objs.size,_,I.laid (t':=s.toks) (o:=.t (qe xs lo hi)) (fun b ob q=>gP _ q) (nL _) ?_,rfl,q _ (I.hok.fresh (nL _))⟩;exact⟨qc5 (kN xs lo hi) U,_,(r.drop (HT.sIx xs.length 0 lo)).take (HT.sIx xs.length xs.length hi-HT.sIx xs.length 0 lo),IsTup.new _ _⟩
def BO(K:xA9):R2:=fun x y H Q=>∃a b xs ys,x=.ref a/\y=.ref b/\SqT K H a xs/\SqT K H b ys/\xs≠[]/\xs.length+ys.length<=qa7∧(ys=[]->Q (.ref a) H)/\(ys≠[]->∀p,H p=ψ->Q (.ref p) (upd H p (.t (xs++ys))))
theorem Vals.nil_iff(r:Vals xs us):us=[]↔xs=[]:=by
 cases r with
 |nil=>simp
 |cons _ _=>simp
theorem Aa:OpR X (qk8 .Add) (BO X.K):=by intro J1 s σ H x y v u Q I rx ry h;obtain⟨a,b,xs,ys,rfl,rfl,ha,hb,hx,Z,q1,q2⟩:=h;cases rx;cases ry;obtain⟨J4,U,p1,_⟩:=I.tuple ha;obtain⟨its2,O,p2,_⟩:=I.tuple hb;refine HT.FW p1 p2 (fun z=>hx (U.nil_iff.mp z)) (fun z=>⟨.ref a,H,I,rfl,q1 (O.nil_iff.mp z)⟩) (fun z=>?_) (by rw[<- U.length,<- O.length];exact Z);refine⟨.ref s.heap.objs.size,_,I.laid (t':=s.toks) (o:=.t (xs++ys)) (fun b ob q=>gP _ q) (nL _) ?_,rfl,q2 (fun w=>z (O.nil_iff.mpr w)) _ (I.hok.fresh (nL _))⟩;exact⟨by rw[qd6];exact Z,_,U.append O,IsTup.new _ _⟩
end
def ixN(n:Nat)(i:Int):ζ Nat:=if 0<=i then(if i<n then ς i.toNat else ψ)else if -(n:Int)<=i then ς (i+n).toNat else ψ
def atI{α:Type}(xs:η α)(i:Int):ζ α:=(ixN xs.length i).bind fun j=>xs[j]?
variable{n j:Nat}{i:Int}
theorem tZ(h:ixN n i=ς j):seqIndex? i n=ς j/\j<n/\-(n:Int)<=i/\i<n:=by
 unfold ixN at h;by_cases O:0<=i
 .rw[if_pos O]at h;by_cases h1:i<n
  .rw[if_pos h1]at h;have e:i.toNat=j:=qc1 h;exact⟨by rw[seqIndex_of O h1,e],Θ,Θ,h1⟩
  .rw[if_neg h1]at h;cases h
 .rw[if_neg O]at h;by_cases h1:-(n:Int)<=i
  .rw[if_pos h1]at h;have e:(i+n).toNat=j:=qc1 h;exact⟨by rw[seqIndex_neg Θ h1,e],Θ,h1,Θ⟩
  .rw[if_neg h1]at h;cases h
theorem oA{α:Type}{xs:η α}{v:α}(h:atI xs i=ς v):∃j,seqIndex? i xs.length=ς j/\xs[j]?=ς v/\j<xs.length/\-(xs.length:Int)<=i/\i<xs.length:=by
 unfold atI at h;cases e:ixN xs.length i with
 |none=>rw[e]at h;cases h
 |some j=>rw[e]at h;obtain⟨h1,h2,h3,O⟩:=tZ e;exact⟨j,h1,h,h2,h3,O⟩
theorem Ab{α:Type}{xs:η α}{v:α}(h:xs[j]?=ς v):atI xs (j:Int)=ς v:=by
 have O:j<xs.length:=(gX h).1
 have e:ixN xs.length (j:Int)=ς j:=by unfold ixN;rw[if_pos Θ,if_pos Θ];simp
 unfold atI;rw[e];exact h
def t4(b:J9):Prop:=∀o i,zc4 b ξ o i=operate [o,i] (zc3 o i)
def IxR(X:Cx)(r:R2):Prop:=
 ∀(value O:J9)(J1:η (J5×Obj))(s:qa4)(σ:St)(H:Hp)(x y:V)(v u:Value)(Q:VK),Inv X J1 σ H s->RelV x v->RelV y u->r x y H Q→
  zc4 O ξ v u=operate [v,u] (zc3 v u)->wpAny (model X.prog X.w) X.A (zd2 value O v u) (EP X J1 σ Q) X.xe s
def MtR(X:Cx)(id:String)(r:V->η V->Hp->VK->Prop):Prop:=
 ∀(J1:η (J5×Obj))(s:qa4)(σ:St)(H:Hp)(x:V)(xs:η V)(v:Value)(us:η Value)(Q:VK),Inv X J1 σ H s->RelV x v->Vals xs us->r x xs H Q→
  wpAny (model X.prog X.w) X.A (call (.builtin id) (v::us)) (EP X J1 σ Q) X.xe s
variable{J1:η (J5×Obj)}{σ:St}{H:Hp}{s:qa4}{J4 its':η Value}{A:qd8}{y x:V}{u v:Value}
section
variable{X:Cx}{a b:J9}{ta tb:TE}{pos:Pos}
theorem IxR.or{r r':R2}(h:IxR X r)(h':IxR X r'):IxR X (fun x y H Q=>r x y H Q∨r' x y H Q):=by
 intro value O J1 s σ H x y v u Q I rx Z q U;rcases q with q|q
 .exact h value O J1 s σ H x y v u Q I rx Z q U
 .exact h' value O J1 s σ H x y v u Q I rx Z q U
theorem E7{r:R2}(hr:IxR X r)(O:PE X a ta)(hb:PE X b tb)(U:t4 b):PE X (.Subscript a b pos) (tOp r ta tb):=by intro J1 s σ H Q I h;exact Subscript_ (CM O hb I h fun v u s2 x y H2 Z rx ry q=>hr a b J1 s2 σ H2 x y v u Q Z rx ry q (U _ _))
def rIxL(K:xA9):R2:=fun x y H Q=>∃p xs i v,x=.ref p/\y=.int i/\SqL K H p xs/\atI xs i=ς v/\Q v H
def rIxT(K:xA9):R2:=fun x y H Q=>∃p xs i v,x=.ref p/\y=.int i/\SqT K H p xs/\atI xs i=ς v/\Q v H
def rIxS:R2:=fun x y H Q=>∃z i c,x=.str z/\y=.int i/\z.length<=qa7/\atI z.cps.toList i=ς c/\Q (.str ⟨#[c]⟩) H
theorem ix_list:IxR X (rIxL X.K):=by
 intro value slice J1 s σ H x y v u Q I rx ry h hs;obtain⟨p,xs,i,z,rfl,rfl,hq,he,q⟩:=h;cases rx;obtain⟨t,rfl⟩:=ry;obtain⟨J4,r,pl,hz⟩:=I.list hq;obtain⟨j,h1,h2,h3,h4,h5⟩:=oA he;obtain⟨w,ew,rw'⟩:=r.get h2;have hl:=r.length;have hn:=j3;have fin:EP X J1 σ Q w s:=⟨z,H,I,rw',q⟩;by_cases h0:0<=i
 .have hj:i.toNat=j:=by rw[seqIndex_of h0 h5]at h1;exact qc1 h1
  exact item_listR pl.isList h0 Θ (by rw[hj];simpa using ew) fin hs
 .have hj:(i+(J4.toArray.size:Int)).toNat=j:=by rw[seqIndex_neg Θ h4]at h1;rw[qb4,<- hl];exact qc1 h1
  exact qz6 (x:=w) pl.isList.typeIs slot_list_getitem.lookup
   (wpAny_getItem_list_neg (Q:=fun r s'=>r=w/\EP X J1 σ Q r s') pl.isList Θ (by rw[qb4]<;>lia) Θ (by rw[hj];simpa using ew) ⟨rfl,fin⟩) hs
theorem ix_tup:IxR X (rIxT X.K):=by
 intro value slice J1 s σ H x y v u Q I rx ry h hs;obtain⟨p,xs,i,z,rfl,rfl,hq,he,q⟩:=h;cases rx;obtain⟨t,rfl⟩:=ry;obtain⟨J4,r,pl,hz⟩:=I.tuple hq;obtain⟨j,h1,h2,h3,h4,h5⟩:=oA he;obtain⟨w,ew,rw'⟩:=r.get h2;have hl:=r.length;have hn:=j3;have fin:EP X J1 σ Q w s:=⟨z,H,I,rw',q⟩
 exact qz6 (x:=w) pl.typeIs slot_tuple_getitem.lookup
  (getItem_tuple (j:=j) (Q:=fun r s'=>r=w/\EP X J1 σ Q r s') pl Θ Θ (by rw[qb4,<- hl];exact h1) (by simpa using ew) ⟨rfl,fin⟩) hs
theorem C1:IxR X rIxS:=by
 intro value slice J1 s σ H x y v u Q I rx ry h hs;obtain⟨z,i,c,rfl,rfl,hz,he,q⟩:=h;obtain⟨t,rfl⟩:=rx;obtain⟨t',rfl⟩:=ry;obtain⟨j,h1,h2,h3,h4,h5⟩:=oA he;have hl:z.cps.toList.length=z.length:=by simp[Str.length]
 rw[hl]at h1 h4 h5;have hn:=j3
 exact tail_any (qu6 s z t) slot_str_getitem.lookup (getItem_str (c:=c) (by have e1:decide (i < -(2^63:Int))=ξ:=decide_eq_false Θ;have e2:decide (i ≥ 2^63)=ξ:=decide_eq_false Θ;rw[e1,e2,qh0]) (by rw[h1];simpa using h2) ⟨.str ⟨#[c]⟩,H,I.tok _,⟨_,rfl⟩,q⟩) hs
def rIx(K:xA9):R2:=fun x y H Q=>rIxL K x y H Q∨rIxT K x y H Q∨rIxS x y H Q
theorem C2:IxR X (rIx X.K):=ix_list.or (ix_tup.or C1)
theorem sk(J4:η Value)(n j:Nat)(u:Value):zb3 (·.setIfInBounds j u) {cls:=.type "list",data:=.seq J4.toArray n}={cls:=.type "list",data:=.seq (J4.set j u).toArray n}:=by simp[zb3]
theorem Inv.lst {p:J5} (I:Inv X J1 σ H s) (h:H p=ς (.e xs)) :
  ∃(J4:η Value)(n:Nat),Vals xs J4/\s.heap.get? p=ς {cls:=.type "list",data:=.seq J4.toArray n}/\xs.length<=qa7:=by
 obtain⟨z,J4,n,r,e⟩:=I.hok p _ h;exact⟨J4,n,r,e,z⟩
theorem Inv.lstUpd{p:J5}{ys:η V}{O:Nat}{f:Obj->Obj}(I:Inv X J1 σ H s)(h:H p=ς (.e xs))
 (ho:s.heap.get? p=ς {cls:=.type "list",data:=.seq J4.toArray n}) (U:f {cls:=.type "list",data:=.seq J4.toArray n}={cls:=.type "list",data:=.seq its'.toArray O}) (r:Vals ys its') (Z:ys.length<=qa7) (t:Nat) :
  Inv X J1 σ (upd H p (.e ys)) {s with heap:=s.heap.update p f,toks:=t}:=by
 have e:(s.heap.update p f).get? p=ς {cls:=.type "list",data:=.seq its'.toArray O}:=by rw[qg0 f ho (by rw[U]<;>rfl),U]
 refine I.write (x:=p) (e:=p) (by rw[h];trivial) (.inl rfl) (fun b u hb q=>(qd4 _ _ (qe7 hb)).trans q) ⟨_,e⟩ ?_;exact⟨Z,its',O,r,e⟩
def E8:V->V->V->Hp->(Hp->Prop)->Prop:=fun o i v H Q=>∃p xs k j,o=.ref p/\i=.int k/\H p=ς (.e xs)/\ixN xs.length k=ς j/\Q (upd H p (.e (xs.set j v)))
theorem wS:PSet X E8:=by
 intro J1 s σ H o i v ov iv u Q I ro ri rv h;obtain⟨p,xs,k,j,rfl,rfl,hp,hj,q⟩:=h;cases ro;obtain⟨t,rfl⟩:=ri;obtain⟨J4,n,r,ho,hz⟩:=I.lst hp;obtain⟨h1,h2,h3,h4⟩:=tZ hj;have hl:=r.length;have hn:=j3
 have I':Inv X J1 σ (upd H p (.e (xs.set j v))) {s with heap:=s.heap.update p (zb3 (·.setIfInBounds j u))}:=I.lstUpd hp ho (sk J4 n j u) (r.set rv j) (by rw[qv0];exact hz) s.toks
 by_cases h0:0<=k
 .have hk:k.toNat=j:=by rw[seqIndex_of h0 h4]at h1;exact qc1 h1
  exact PySem.W.ki_setAt ho h0 Θ (by rw[qb4,<- hl];exact h4) (by rw[hk];exact⟨_,I',q⟩)
 .have hk:(k+(J4.toArray.size:Int)).toNat=j:=by rw[seqIndex_neg Θ h3]at h1;rw[qb4,<- hl];exact qc1 h1
  exact PySem.W.ki_setBack ho Θ (by rw[qb4,<- hl];exact h3) Θ (by rw[hk];exact⟨_,I',q⟩)
theorem oB(lo hi:ζ Int)(n:Nat):(qr9 lo hi ψ n).1=((HT.sIx n 0 lo:Nat):Int)/\(qr9 lo hi ψ n).2.1=((HT.sIx n n hi:Nat):Int)/\(qr9 lo hi ψ n).2.2=1:=by
 refine⟨?_,?_,rfl⟩
 .cases lo with
  |none=>simp[qr9,HT.sIx]
  |some i=>
   simp only[qr9,HT.sIx,Option.getD_none,show(1:Int) > 0 by decide,if_true];by_cases h:i<0
   .simp only[h,if_true]<;>lia
   .simp only[h,if_false]<;>lia
 .cases hi with
  |none=>simp[qr9,HT.sIx]
  |some i=>
   simp only[qr9,HT.sIx,Option.getD_none,show(1:Int) > 0 by decide,if_true];by_cases h:i<0
   .simp only[h,if_true]<;>lia
   .simp only[h,if_false]<;>lia
theorem mG(J4:η Value)(lo hi:ζ Int):slicePick J4.toArray lo hi ψ=((J4.drop (HT.sIx J4.length 0 lo)).take (HT.sIx J4.length J4.length hi-HT.sIx J4.length 0 lo)).toArray:=by obtain⟨h1,h2,h3⟩:=oB lo hi J4.toArray.size;unfold slicePick;rw[h1,h2,h3];simp only[sliceRange_one,pick_run,qb4]<;>rfl
def rSlL(K:xA9):V->ζ Int->ζ Int->Hp->VK->Prop:=fun x lo hi H Q=>∃a xs,x=.ref a/\SqL K H a xs/\∀p,H p=ψ->Q (.ref p) (upd H p (.e (qe xs lo hi)))
theorem Ac:SlR X (rSlL X.K):=by intro J1 s σ H x v vl vu lo hi sl Q I rx hs pl pu h;obtain⟨a,xs,rfl,Z,q⟩:=h;cases rx;obtain⟨J4,r,U,hz⟩:=I.list Z;have O:=r.length;refine⟨"list",_,slot_list_getitem.lookup,U.isList.typeIs,?_⟩;refine wpAny_getItem_list_slice U.isList hs pl pu .none Ξ ?_ (by rw[qb4]<;>lia);rw[mG,<- O];refine⟨.ref s.heap.objs.size,_,I.laid (t':=s.toks) (o:=.e (qe xs lo hi)) (fun b ob q=>gP _ q) (nL _) ?_,rfl,q _ (I.hok.fresh (nL _))⟩;exact⟨qc5 (kN xs lo hi) hz,_,0,(r.drop (HT.sIx xs.length 0 lo)).take (HT.sIx xs.length xs.length hi-HT.sIx xs.length 0 lo),qb6 _ rfl⟩
def i6:V->Bool
 |.non=>θ
 |.bl _=>θ
 |.int _=>θ
 |.str _=>θ
 |_=>ξ
def eqV:V->V->Bool
 |.non,.non=>θ
 |.bl a,.bl b=>a==b
 |.bl a,.int b=>(if a then 1 else 0)==b
 |.int a,.bl b=>a==(if b then 1 else 0)
 |.int a,.int b=>a==b
 |.str a,.str b=>a==b
 |_,_=>ξ
theorem j7(Z:RelV y u)(O:RelV x v)(fy:i6 y=θ)(U:i6 x=θ):qf5 A s u v (eqV y x):=by
 cases y with
 |non=>
  cases Z;cases x with
  |non=>cases O;exact za5 _
  |bl b=>cases O;exact qf5.none_bool b
  |int b=>obtain⟨t,rfl⟩:=O;exact qf5.none_int b t
  |str b=>obtain⟨t,rfl⟩:=O;exact qf5.none_str b t
  |_=>exact absurd (show ξ=θ from U) qc2
 |bl a=>
  cases Z;cases x with
  |non=>cases O;exact qf5.bool_none a
  |bl b=>cases O;exact qf5.bool_bool a b
  |int b=>obtain⟨t,rfl⟩:=O;exact qf5.bool_int a b t
  |str b=>obtain⟨t,rfl⟩:=O;exact qf5.bool_str a b t
  |_=>exact absurd (show ξ=θ from U) qc2
 |int a=>
  obtain⟨t',rfl⟩:=Z;cases x with
  |non=>cases O;exact qf5.int_none a t'
  |bl b=>cases O;exact qf5.int_bool a t' b
  |int b=>obtain⟨t,rfl⟩:=O;exact qf5.int_int a t' b t
  |str b=>obtain⟨t,rfl⟩:=O;exact qf5.int_str a t' b t
  |_=>exact absurd (show ξ=θ from U) qc2
 |str a=>
  obtain⟨t',rfl⟩:=Z;cases x with
  |non=>cases O;exact qf5.str_none a t'
  |bl b=>cases O;exact qf5.str_bool a t' b
  |int b=>obtain⟨t,rfl⟩:=O;exact qf5.str_int a t' b t
  |str b=>obtain⟨t,rfl⟩:=O;exact qf5.str_str a t' b t
  |_=>exact absurd (show ξ=θ from U) qc2
 |_=>exact absurd (show ξ=θ from fy) qc2
def eqU(x:V)(u:Value):Bool:=match u with
 |.none=>eqV .non x
 |.bool b=>eqV (.bl b) x
 |.int i _=>eqV (.int i) x
 |.str z _=>eqV (.str z) x
 |_=>ξ
theorem wT(r:RelV y u)(f:i6 y=θ):eqU x u=eqV y x:=by
 cases y with
 |non=>cases r;rfl
 |bl b=>cases r;rfl
 |int i=>obtain⟨t,rfl⟩:=r;rfl
 |str z=>obtain⟨t,rfl⟩:=r;rfl
 |_=>exact absurd (show ξ=θ from f) qc2
theorem jt:∀{xs:η V}{us:η Value},Vals xs us->xs.all i6=θ->us.any (eqU x)=xs.any fun y=>eqV y x
 |_,_,.nil,_=>rfl
 |y::xs,u::us,.cons r t,f=>by rw[qh9,qb0]at f;rw[qe6,qe6,wT r f.1,jt t f.2]
theorem ib(Z:RelV x v)(U:i6 x=θ):∀{xs:η V}{us:η Value},Vals xs us->xs.all i6=θ->∀u∈us,qf5 A s u v (eqU x u)
 |_,_,.nil,_=>fun u O=>by cases O
 |y::xs,u::us,.cons r t,f=>fun u' O=>by
  rw[qh9,qb0]at f;rcases qa9.mp O with rfl|O
  .rw[wT r f.1];exact j7 r Z f.1 U
  .exact ib Z U t f.2 u' O
def inV(x:V)(xs:η V):Bool:=xs.any fun y=>eqV y x
def rIn(K:xA9)(neg:Bool):R2:=fun x y H Q=>∃p xs,y=.ref p/\(SqL K H p xs∨SqT K H p xs)/\i6 x=θ/\xs.all i6=θ/\Q (.bl (if neg then !inV x xs else inV x xs)) H
theorem vp:OpR X (qe4 .In) (rIn X.K ξ):=by
 intro J1 s σ H x y v u Q I rx ry h;obtain⟨p,xs,rfl,O,fx,fs,q⟩:=h;cases ry;rcases O with O|O
 .obtain⟨J4,r,Z,hz⟩:=I.list O;refine SeqAt.in_listAt (eqU x) Z.isList (fun w U=>ib rx fx r fs w (by simpa using U)) ⟨.bl _,H,I,rfl,?_⟩;rw[show J4.toArray.any (eqU x)=J4.any (eqU x)by simp,jt r fs];exact q
 .obtain⟨J4,r,Z,hz⟩:=I.tuple O;refine SeqAt.in_tupleAt (eqU x) Z (fun w U=>ib rx fx r fs w (by simpa using U)) ⟨.bl _,H,I,rfl,?_⟩;rw[show J4.toArray.any (eqU x)=J4.any (eqU x)by simp,jt r fs];exact q
theorem oE:OpR X (qe4 .NotIn) (rIn X.K θ):=by
 intro J1 s σ H x y v u Q I rx ry h;obtain⟨p,xs,rfl,O,fx,fs,q⟩:=h;cases ry;rcases O with O|O
 .obtain⟨J4,r,Z,hz⟩:=I.list O;refine SeqAt.notIn_listAt (eqU x) Z.isList (fun w U=>ib rx fx r fs w (by simpa using U)) ⟨.bl _,H,I,rfl,?_⟩;rw[show J4.toArray.any (eqU x)=J4.any (eqU x)by simp,jt r fs];exact q
 .obtain⟨J4,r,Z,hz⟩:=I.tuple O;refine SeqAt.notIn_tupleAt (eqU x) Z (fun w U=>ib rx fx r fs w (by simpa using U)) ⟨.bl _,H,I,rfl,?_⟩;rw[show J4.toArray.any (eqU x)=J4.any (eqU x)by simp,jt r fs];exact q
theorem oF:OpR X (qe4 .NotIn) (fun x y H Q=>∃i j,x=.str i/\y=.str j/\Q (.bl (!(!(qg4 j i 0 j.length 1).isEmpty))) H):=by intro J1 s σ H x y v u Q I U O h;obtain⟨i,j,rfl,rfl,q⟩:=h;obtain⟨t,rfl⟩:=U;obtain⟨t',rfl⟩:=O;exact notIn_str ⟨.bl _,H,I,rfl,q⟩
theorem CallR.or{f:Value}{r r':η V->Hp->VK->Prop}(h:CallR X f r)(h':CallR X f r'):CallR X f (fun xs H Q=>r xs H Q∨r' xs H Q):=by
 intro J1 s σ H xs us Q I O q;rcases q with q|q
 .exact h J1 s σ H xs us Q I O q
 .exact h' J1 s σ H xs us Q I O q
theorem f8:CallR X (.type "tuple") (fun xs H Q=>∃p ys,xs=[.ref p]/\((SqL X.K H p ys/\∀l,H l=ψ->Q (.ref l) (upd H l (.t ys)))∨(SqT X.K H p ys/\Q (.ref p) H))):=by
 intro J1 s σ H xs us Q I r h;obtain⟨p,ys,rfl,h⟩:=h;obtain⟨u,rfl,rx⟩:=jr r;cases rx;rcases h with ⟨U,q⟩|⟨U,q⟩
 .obtain⟨J4,r',O,Z⟩:=I.list U;have hlen:=r'.length;refine call_tuple_list O.isList (fun h' kp=>?_) (by simp only[qb4]<;>lia);have I1:Inv X J1 σ H {s with heap:=h'}:=I.kept (t':=s.toks) kp
  have I2:Inv X J1 σ (upd H h'.objs.size (.t ys)) {s with heap:=h'.push {cls:=.type "tuple",data:=.seq J4.toArray}}:=I1.laid (t':=s.toks) (fun b o e=>gP _ e) (nL _) (show ObjOk X.prog X.w _ _ _ (.t ys)from⟨Z,J4,r',IsTup.new _ _⟩)
  exact⟨.ref h'.objs.size,_,I2,rfl,q _ (I1.hok.fresh (nL _))⟩
 .obtain⟨J4,r',O,Z⟩:=I.tuple U;exact call_tuple_same O ⟨.ref p,H,I,rfl,q⟩
def tyV(K:xA9)(T:String)(x:V)(H:Hp):Prop:=match x with
 |.str _=>T="str"
 |.int _=>T="int"
 |.ref p=>(T="list"/\∃xs,SqL K H p xs)∨(T="tuple"/\∃o,K.lookup p=ς o/\o.cls=.type "tuple"/\o.dict=ψ)∨(T="dict"/\((∃J3,H p=ς (.dK J3))∨∃J3,H p=ς (.dT J3)))∨(T="set"/\∃S n,H p=ς (.set S n))
 |_=>False
theorem C3 {T:String} (I:Inv X J1 σ H s) (r:RelV x v) (ty:tyV X.K T x H) :
  s.TypeIs v T/\∀a,v=.ref a->∃ob,s.heap.get? a=ς ob/\ob.dict=ψ:=by
 cases x with
 |str z=>obtain⟨t,rfl⟩:=r;cases (show T="str" from ty);exact⟨qu6 s z t,fun _ e=>nomatch e⟩
 |int i=>obtain⟨t,rfl⟩:=r;cases (show T="int" from ty);exact⟨typeIs_int s i t,fun _ e=>nomatch e⟩
 |ref p=>
  cases r;rcases ty with ⟨rfl,xs,hq⟩|⟨rfl,o,O,Z,hd⟩|⟨rfl,O⟩|⟨rfl,S,n,O⟩
  .obtain⟨J4,_,U,_⟩:=I.list hq;refine⟨U.isList.typeIs,fun a e=>?_⟩;cases e;obtain⟨o,n,e,c,hd,_⟩:=U;exact⟨o,e,hd⟩
  .refine⟨⟨o,I.kIn p o O,Z⟩,fun a e=>?_⟩;cases e;exact⟨o,I.kIn _ o O,hd⟩
  .have z:∃o,s.heap.get? p=ς o/\o.ExactDict:=by
    rcases O with ⟨J3,O⟩|⟨J3,O⟩
    .obtain⟨_,_,_,_,o,_,_,e,ex,_⟩:=I.hok p _ O;exact⟨o,e,ex⟩
    .obtain⟨_,_,_,_,o,_,_,e,ex,_⟩:=I.hok p _ O;exact⟨o,e,ex⟩
   obtain⟨o,e,ex⟩:=z;refine⟨⟨o,e,ex.1⟩,fun a e2=>?_⟩;cases e2;exact⟨o,e,ex.2.1⟩
  .obtain⟨o,_,_,_,e,ex,_⟩:=I.hok p _ O;refine⟨⟨o,e,ex.1⟩,fun a e2=>?_⟩;cases e2;exact⟨o,e,ex.2.1⟩
 |_=>exact qf3 ty
def tBM(K:xA9)(T:String)(r:V->η V->Hp->VK->Prop)(to:TE)(t:TA):TE:=fun σ H Q=>to σ H fun x H1=>tyV K T x H1/\t σ H1 fun xs H2=>r x xs H2 Q
variable{o e:J9}{es:η J9}{to:TE}{t:TA}{name:Str}{apos cpos:Pos}{T id:String}{r:V->η V->Hp->VK->Prop}
theorem wU (pa:PlainAttrs T) (slot:Slot T name id) (hty:typeOf (.builtin id)=pure (.type "method_descriptor")) (hm:MtR X id r) (ho:PE X o to) (ha:PA X (e::es) t)
  (Z:qg5 o name X.env (eval o X.env)=eval o X.env:=by rfl)
  (hfew:((qf2 cpos (qa2 (e::es) X.env)).all (fun x=>!x.1)&&(qs1 cpos (ql2 [] X.env)).all (fun x=>x.1.isSome)
   && decide ((e::es).length+([]:η qk3).length+(if([]:η qk3).isEmpty then 0 else 1)<30))=θ:=by rfl)
  (U:(apos.endLine==cpos.line)=θ:=by rfl) (hs:qa2 (e::es) X.env=(ξ,eval e X.env)::qa2 es X.env:=by rfl) (O:(qf2 cpos (qa2 es X.env)).any (·.1)=ξ:=by rfl) :
  PE X (.Call (.Attribute o name apos) (e::es) [] cpos) (tBM X.K T r to t):=by
 intro J1 s σ H Q I h;refine qz7 Z hfew U rfl (thn (ho J1 s σ H _ I h) fun v s1 ⟨x,H1,I1,r1,ty,q1⟩=>?_);obtain⟨h1,h2⟩:=C3 I1 r1 ty;refine⟨T,id,pa,slot,hty,h1,h2,?_⟩;have hA:=ha cpos J1 s1 σ H1 _ I1 q1;rw[hs]at hA ⊢;refine qr2 (by show(ξ||(qf2 cpos (qa2 es X.env)).any (·.1))=ξ;rw[O]<;>rfl) (qt4 ?_);exact thn hA fun us s2 ⟨vs,H2,I2,r2,q2⟩=>hm J1 s2 σ H2 x vs v us Q I2 r1 r2 q2
/- xs.append(e),list.index on a module's tuple .. are MtR facts of 06m -/
end
def MtM(X:Cx)(id:String)(r:V->η V->Hp->VK->Prop):Prop:=
 ∀(J1:η (J5×Obj))(s:qa4)(σ:St)(H:Hp)(x:V)(xs:η V)(v:Value)(us:η Value)(Q:VK),Inv X J1 σ H s->RelV x v->Vals xs us->r x xs H Q→
  wpAny (model X.prog X.w) X.A (call (.builtin id) (v::us)) (EP X J1 σ Q) X.xe s
theorem Vals.one:∀{x:V}{us:η Value},Vals [x] us->∃u,us=[u]/\RelV x u
 |_,_,.cons r .nil=>⟨_,rfl,r⟩
theorem Vals.rep(h:Vals xs us):∀k:Nat,Vals (qb2 k xs).flatten (qb2 k us).flatten
 |0=>.nil
 |k+1=>by rw[qi5,qi5,ql8,ql8];exact Vals.append h (Vals.rep h k)
theorem mX (J4:η Value):∀ (k:Nat) (O:η Value),
  zb4 (fun Z U=>Z++U) O.toArray (qb2 k J4.toArray)=(O++(qb2 k J4).flatten).toArray
 |0,O=>by simp
 |k+1,O=>by
  have e:O.toArray++J4.toArray=(O++J4).toArray:=by simp
  have e2:(O++J4)++(qb2 k J4).flatten=O++(qb2 (k+1) J4).flatten:=by rw[qi5,ql8,qh4]
  rw[<- e2,<- mX J4 k (O++J4),<- e,qi5,qq7]
variable{t':Nat}
section
variable{X:Cx}{J1:η (J5×Obj)}{σ:St}{H:Hp}{s:qa4}{l b:J5}{xs ys zs:η V}
theorem Inv.lset{f:Array Value->Array Value}(I:Inv X J1 σ H s)(hH:H l=ς (.e xs))
 (e:s.heap.get? l=ς {cls:=.type "list",data:=.seq J4.toArray n}) (Z:f J4.toArray=its'.toArray) (hv:Vals ys its') (O:ys.length<=qa7) :
  Inv X J1 σ (upd H l (.e ys)) {s with heap:=s.heap.update l (zb3 f),toks:=t'}:=by
 have q:=PySem.IsL.update e f;rw[Z]at q;refine I.write (x:=l) (e:=l) (by rw[hH];exact trivial) (.inl rfl) (fun b' u hb U=>(qd4 s.heap (zb3 f) (qe7 hb)).trans U) ⟨_,q⟩ ?_;exact⟨O,its',_,hv,q⟩
theorem Inv.lnew (I:Inv X J1 σ H s) (U:Vals ys J4) (O:ys.length<=qa7) :
  Inv X J1 σ (upd H s.heap.objs.size (.e ys)) {s with heap:=s.heap.push {cls:=.type "list",data:=.seq J4.toArray},toks:=t'}:=
 I.laid (fun _ _ q=>gP _ q) (nL _) ⟨O,J4,0,U,qb6 _ rfl⟩
theorem Inv.fresh(I:Inv X J1 σ H s):H s.heap.objs.size=ψ:=I.hok.fresh (nL _)
theorem Inv.lstM(I:Inv X J1 σ H s)(O:H l=ς (.e xs)):xs.length<=qa7/\∃(J4:η Value)(n:Nat),Vals xs J4/\xs.length=J4.length/\s.heap.get? l=ς {cls:=.type "list",data:=.seq J4.toArray n}:=by obtain⟨z,J4,n,r,e⟩:=I.hok l _ O;exact⟨z,J4,n,r,r.length,e⟩
theorem wV(h:n<=qa7):qq1 n=ξ:=by unfold qq1;exact decide_eq_false Θ
end
section
variable{X:Cx}
def Ad:V->η V->Hp->VK->Prop:=fun x vs H Q=>∃l xs y,x=.ref l/\vs=[y]/\H l=ς (.e xs)/\xs.length<qa7/\Q .non (upd H l (.e (xs++[y])))
theorem mY:MtM X "list.append" Ad:=by intro J1 s σ H x vs v us Q I rx U h;obtain⟨l,xs,y,rfl,rfl,O,hz,q⟩:=h;cases rx;obtain⟨u,rfl,Z⟩:=U.one;obtain⟨z,J4,n,r,hl,e⟩:=I.lstM O;refine qu7 F.slot_list_append ⟨_,e,rfl⟩ F.entry_list_append (F.args_list_append_2 _ _) (PySem.list_append l J4.toArray n u (by rw[qb4];lia)) ⟨e,?_⟩;refine⟨.non,_,I.lset (its':=J4++[u]) O e Ξ (r.append (.cons Z .nil)) ?_,rfl,q⟩;rw[qd6,List.length_singleton];lia
theorem t5{α:Type}(xs:η α)(k:Nat):(qb2 k xs).flatten.length=k*xs.length:=by
 induction k with
 |zero=>simp
 |succ k O=>rw[qi5,ql8,qd6,O,ze2,Nat.add_comm]
end
variable{o:ζ V}
section
variable{κ:Type}[DecidableEq κ]
def fP(J3:η (κ×V))(k:κ):ζ V:=(J3.find? fun kv=>decide (kv.1=k)).map (·.2)
def eU(J3:η (κ×V))(k:κ)(v:V):η (κ×V):=if(J3.any fun kv=>decide (kv.1=k))=θ then J3.map (fun kv=>if kv.1=k then(kv.1,v)else kv)else J3++[(k,v)]
def dropK(J3:η (κ×V))(k:κ):η (κ×V):=J3.filter fun kv=>decide (kv.1≠k)
theorem ju{p:κ×V}{r:η (κ×V)}{k:κ}(e:p.1=k):fP (p::r) k=ς p.2:=by simp[fP,qn6,e]
theorem ie{p:κ×V}{r:η (κ×V)}{k:κ}(e:¬ p.1=k):fP (p::r) k=fP r k:=by simp[fP,qn6,e]
theorem qf(k:κ):∀J3:η (κ×V),(J3.any fun kv=>decide (kv.1=k))=(fP J3 k).isSome
 |[]=>rfl
 |p::r=>by
  rw[qe6];by_cases e:p.1=k
  .simp only[ju e,decide_eq_true e,Bool.true_or,Option.isSome_some]
  .rw[ie e,decide_eq_false e,qy7];exact qf k r
theorem ig(J3:η (κ×V))(k:κ)(v:V):(eU J3 k v).length<=J3.length+1:=by
 unfold eU;split
 .rw[qa5];lia
 .rw[qd6,qc4,qj9];lia
theorem RelO.isSome_eq{u:ζ Value}(r:RelO o u):o.isSome=u.isSome:=by
 cases o with
 |none=>cases u with
  |none=>rfl
  |some _=>exact(show False from r).elim
 |some _=>cases u with
  |none=>exact(show False from r).elim
  |some _=>rfl
theorem RelO.getD{u:ζ Value}{d:V}{d':Value}(r:RelO o u)(rd:RelV d d'):RelV (o.getD d) (u.getD d'):=by
 cases o with
 |none=>cases u with
  |none=>exact rd
  |some _=>exact(show False from r).elim
 |some _=>cases u with
  |none=>exact(show False from r).elim
  |some _=>exact r
theorem KV.val{J3:η (κ×V)}{vs:η (κ×Value)}(r:KV J3 vs)(k:κ):RelO (fP J3 k) (zc5 vs k):=by
 unfold KV at r;induction r with
 |nil=>exact qk5
 |@cons p q ps qs h t U=>
  obtain⟨h1,h2⟩:=h;by_cases e:p.1=k
  .have O:q.1=k:=h1.symm.trans e;have b:zc5 (q::qs) k=ς q.2:=by simp[zc5,qn6,O]
   rw[ju e,b];exact h2
  .have O:¬ q.1=k:=fun z=>e (h1.trans z)
   have b:zc5 (q::qs) k=zc5 qs k:=by simp[zc5,qn6,O]
   rw[ie e,b];exact U
theorem KV.any{J3:η (κ×V)}{vs:η (κ×Value)}(r:KV J3 vs)(k:κ):(J3.any fun kv=>decide (kv.1=k))=vs.any fun kv=>decide (kv.1=k):=by
 unfold KV at r;induction r with
 |nil=>rfl
 |cons h t O=>rw[qe6,qe6,O,h.1]
theorem KV.repl {J3:η (κ×V)} {vs:η (κ×Value)} (r:KV J3 vs) (k:κ) (O:RelV y u) :
  KV (J3.map fun kv=>if kv.1=k then(kv.1,y)else kv) (vs.map fun kv=>if kv.1=k then(kv.1,u)else kv):=by
 unfold KV at r ⊢;induction r with
 |nil=>exact .nil
 |@cons p q ps qs h t U=>
  rw[qb3,qb3];refine .cons ?_ U;obtain⟨h1,h2⟩:=h;by_cases e:p.1=k
  .rw[if_pos e,if_pos (h1.symm.trans e)];exact⟨h1,O⟩
  .rw[if_neg e,if_neg (fun z=>e (h1.trans z))];exact⟨h1,h2⟩
theorem KV.put{J3:η (κ×V)}{vs:η (κ×Value)}(r:KV J3 vs)(k:κ)(O:RelV y u):KV (eU J3 k y) (stored vs k u):=by
 unfold eU stored;rw[r.any k];by_cases e:(vs.any fun kv=>decide (kv.1=k))=θ
 .rw[if_pos e,if_pos e];exact r.repl k O
 .rw[if_neg e,if_neg e];exact Paired.snoc r ⟨rfl,O⟩
theorem KV.length{J3:η (κ×V)}{vs:η (κ×Value)}(r:KV J3 vs):J3.length=vs.length:=Paired.length r
end
variable{P:qc0}
theorem jv{w:J6}{k:Key}(r:RelV (kV k) u):(bE P w).is k u=θ:=by
 cases k with
 |inl i=>obtain⟨t,e⟩:=(show ∃t,u=zc9 i t from r);subst e;exact p7 P w i t
 |inr x=>obtain⟨t,e⟩:=(show ∃t,u=zd0 x t from r);subst e;exact hZ P w x t
theorem mZ{w:J6}:∀{ks:η Key}{us:η Value},Vals (ks.map kV) us->ItemsAre (bE P w) ks us
 |[],_,r=>by rw[qm1]at r;cases r;exact .nil
 |k::ks,_,r=>by
  rw[qb3]at r;cases r with
  |cons h t=>exact .cons (jv h) (mZ t)
abbrev KT(H:Hp):η (η Key×V)->η (η Key×J5×Value)->Prop:=Paired fun p q=>p.1=q.1/\H q.2.1=ς (.t (p.1.map kV))/\RelV p.2 q.2.2
variable{J3:η (η Key×V)}
theorem KT.val{xs:η (η Key×J5×Value)}(r:KT H J3 xs)(k:η Key):RelO (fP J3 k) ((atKey xs k).map (·.2)):=by
 induction r with
 |nil=>exact qk5
 |@cons p q ps qs h t U=>
  obtain⟨h1,_,h2⟩:=h;by_cases e:p.1=k
  .have O:q.1=k:=h1.symm.trans e;have b:atKey (q::qs) k=ς q.2:=by simp[atKey,qn6,O]
   rw[ju e,b];exact h2
  .have O:¬ q.1=k:=fun z=>e (h1.trans z)
   have b:atKey (q::qs) k=atKey qs k:=by simp[atKey,qn6,O]
   rw[ie e,b];exact U
theorem KT.repl {xs:η (η Key×J5×Value)} (r:KT H J3 xs) (k:η Key) (O:RelV y u) :
  KT H (J3.map fun kv=>if kv.1=k then(kv.1,y)else kv) (xs.map (putAt k u)):=by
 induction r with
 |nil=>exact .nil
 |@cons p q ps qs h t U=>
  rw[qb3,qb3];refine .cons ?_ U;obtain⟨h1,h2,h3⟩:=h;unfold putAt;by_cases e:p.1=k
  .rw[if_pos e,if_pos (h1.symm.trans e)];exact⟨h1,h2,O⟩
  .rw[if_neg e,if_neg (fun z=>e (h1.trans z))];exact⟨h1,h2,h3⟩
theorem KT.put {xs:η (η Key×J5×Value)} (r:KT H J3 xs) (k:η Key) {b:J5} (U:H b=ς (.t (k.map kV))) (O:RelV y u) :
  KT H (eU J3 k y) (storedH xs k b u):=by
 have e:(J3.any fun kv=>decide (kv.1=k))=(atKey xs k).isSome:=by rw[qf,(r.val k).isSome_eq,qx4]
 unfold eU storedH;rw[e];by_cases q:(atKey xs k).isSome=θ
 .rw[if_pos q,if_pos q];exact r.repl k O
 .rw[if_neg q,if_neg q];exact Paired.snoc r ⟨rfl,U,O⟩
variable{H':Hp}
theorem KT.keeps{xs:η (η Key×J5×Value)}(r:KT H J3 xs)(O:∀b ys,H b=ς (.t ys)->H' b=ς (.t ys)):KT H' J3 xs:=Paired.mapP r fun _ _ z=>⟨z.1,O _ _ z.2.1,z.2.2⟩
section
variable{P:qc0}{w:J6}{H:Hp}{h:Heap}{a:J5}
theorem BP{u:HO}(ok:HOk P w H h)(e:Rd H a u):ObjOk P w H h a u:=e.ok ok
theorem kO{J3:η (Key×V)}(ok:HOk P w H h)(e:Rd H a (.dK J3)):J3.length<=qa7/\(a==qj1)=ξ/\∃vs,KV J3 vs/\h.DictOf (bE P w) a vs:=show ObjOk P w H h a (.dK J3)from BP ok e
theorem BQ{J3:η (Key×V)}(ok:HOk P w H h)(e:H a=ς (.dK J3)):J3.length<=qa7/\(a==qj1)=ξ/\∃vs,KV J3 vs/\h.DictOf (bE P w) a vs:=kO ok (.inl e)
theorem j8{ks:η Key}(ok:HOk P w H h)(e:H a=ς (.t (ks.map kV))):(qz9 (bE P w)).is h ks a:=by obtain⟨_,J4,r,o,h1,h2,n,h3⟩:=(show ObjOk P w H h a (.t (ks.map kV))from ok a _ e);exact⟨o,J4.toArray,n,h1,h2,h3,by simpa using mZ r⟩
theorem lH (ok:HOk P w H h) (e:Rd H a (.dT J3)):J3.length<=qa7/\(a==qj1)=ξ∧
  ∃xs,KT H J3 xs/\h.DictOfH (qz9 (bE P w)) a xs:=by
 obtain⟨z,y,xs,r,o,es,ep,h1,h2,h3,Z,h5⟩:=(show ObjOk P w H h a (.dT J3)from BP ok e);refine⟨z,y,xs,r,o,es,ep,h1,h2,h3,Z,fun x O=>?_,h5⟩
 have all:∀{l:η (η Key×V)}{m:η (η Key×J5×Value)},KT H l m->∀x∈m,(qz9 (bE P w)).is h x.1 x.2.1:=by
  intro l m q;induction q with
  |nil=>intro x O;exact nomatch O
  |@cons p q ps qs U t ih=>
   intro x O;rcases qa9.mp O with e|O
   .subst e;exact j8 ok (by rw[<- U.1];exact U.2.1)
   .exact ih x O
 exact all r x O
theorem E9(ok:HOk P w H h)(e:H a=ς (.dT J3)):J3.length<=qa7/\(a==qj1)=ξ∧∃xs,KT H J3 xs/\h.DictOfH (qz9 (bE P w)) a xs:=lH ok (.inl e)
end
def DGet(H:Hp)(a:J5)(y:V)(r:ζ V):Prop:=(∃J3 k,Rd H a (.dK J3)/\y=kV k/\r=fP J3 k)∨∃J3 k b,Rd H a (.dT J3)/\y=.ref b/\H b=ς (.t (k.map kV))/\r=fP J3 k
def DPut(H:Hp)(a:J5)(y v:V)(H':Hp):Prop:=
 (∃J3 k,H a=ς (.dK J3)/\y=kV k/\J3.length<qa7/\H'=upd H a (.dK (eU J3 k v)))∨
 ∃J3 k b,H a=ς (.dT J3)/\y=.ref b/\H b=ς (.t (k.map kV))/\J3.length<qa7/\H'=upd H a (.dT (eU J3 k v))
variable{a:J5}
theorem DGet.k{J3:η (Key×V)}{k:Key}(e:H a=ς (.dK J3)):DGet H a (kV k) (fP J3 k):=.inl ⟨J3,k,.inl e,rfl,rfl⟩
theorem DPut.k{J3:η (Key×V)}{k:Key}{v:V}(e:H a=ς (.dK J3))(O:J3.length<qa7):DPut H a (kV k) v (upd H a (.dK (eU J3 k v))):=.inl ⟨J3,k,e,rfl,O,rfl⟩
variable{Q:Value->qa4->Prop}{h':Heap}
section
variable{X:Cx}{J1:η (J5×Obj)}{σ:St}{H:Hp}{s:qa4}{a:J5}{y v:V}{u r:Value}{o:ζ V}{A:qd8}{E:Value->qa4->Prop}
theorem Inv.big(I:Inv X J1 σ H s):qj1<s.heap.objs.size:=by have h:qb5<s.heap.objs.size:=(I.mod.glob.keeps I.bk).lt;exact Nat.lt_trans Ω h
theorem vq (hu:A.units+1<cLine) (I:Inv X J1 σ H s) (g:DGet H a y (ς v)) (ry:RelV y u) (h:∀ Z s',Inv X J1 σ H s'->RelV v Z->Q Z s') :
  wpAny (model X.prog X.w) A (zc3 (.ref a) u) Q E s:=by
 rcases g with ⟨J3,k,e,ey,l⟩|⟨J3,k,b,e,ey,eb,l⟩
 .subst ey;obtain⟨z,hd,vs,O,dd⟩:=kO I.hok e;obtain⟨Z,hw,U⟩:=RelO.some_of (v:=v) (o:=zc5 vs k) (by rw[l];exact O.val k);exact wpAny_getItem_of (jv ry) dd.mapOf hw (h Z _ (I.tok _) U)
 .subst ey;cases (show u=qb7 b from ry);obtain⟨z,hd,xs,O,dd⟩:=lH I.hok e;obtain⟨Z,hw,U⟩:=RelO.some_of (v:=v) (o:=(atKey xs k).map (·.2)) (by rw[l];exact O.val k);obtain⟨p,hp,hp2⟩:=mS hw;refine wpAny_getItem_heap (qn4 hu) (j8 I.hok eb) dd hp ?_;rw[hp2];exact h Z _ (I.tok _) U
theorem d_in (hu:A.units+1<cLine) (I:Inv X J1 σ H s) (g:DGet H a y o) (Z:RelV y u) (h:∀ s',Inv X J1 σ H s'->Q (.bool o.isSome) s') :
  wpAny (model X.prog X.w) A (qe4 .In u (.ref a)) Q E s:=by
 rcases g with ⟨J3,k,e,U,l⟩|⟨J3,k,b,e,U,eb,l⟩
 .subst U;obtain⟨z,hd,vs,O,dd⟩:=kO I.hok e;refine wpAny_in_of (jv Z) hd dd.mapOf ?_;rw[<- (O.val k).isSome_eq,<- l];exact h _ (I.tok _)
 .subst U;cases (show u=qb7 b from Z);obtain⟨z,hd,xs,O,dd⟩:=lH I.hok e;refine wpAny_in_heap (qn4 hu) (j8 I.hok eb) hd dd ?_;have q:=(O.val k).isSome_eq;rw[qx4]at q;rw[<- q,<- l];exact h _ (I.tok _)
theorem Ae (hu:A.units+1<cLine) (I:Inv X J1 σ H s) (g:DGet H a y o) (Z:RelV y u) (h:∀ s',Inv X J1 σ H s'->Q (.bool (!o.isSome)) s') :
  wpAny (model X.prog X.w) A (qe4 .NotIn u (.ref a)) Q E s:=by
 rcases g with ⟨J3,k,e,U,l⟩|⟨J3,k,b,e,U,eb,l⟩
 .subst U;obtain⟨z,hd,vs,O,dd⟩:=kO I.hok e;refine wpAny_notIn_of (jv Z) hd dd.mapOf ?_;rw[<- (O.val k).isSome_eq,<- l];exact h _ (I.tok _)
 .subst U;cases (show u=qb7 b from Z);obtain⟨z,hd,xs,O,dd⟩:=lH I.hok e;refine wpAny_notIn_heap (qn4 hu) (j8 I.hok eb) hd dd ?_;have q:=(O.val k).isSome_eq;rw[qx4]at q;rw[<- q,<- l];exact h _ (I.tok _)
theorem oG {ob:HO} (I:Inv X J1 σ H s) (O:Mut (H a)) (Z:qg6 a s.heap h') (U:∃ q,h'.get? a=ς q) (new:ObjOk X.prog X.w (upd H a ob) h' a ob) :
  Inv X J1 σ (upd H a ob) {s with heap:=h',toks:=t'}:=
 I.write (x:=a) (e:=a) O (.inl rfl) (fun b q hb z=>(Z.2 b hb).trans z) U new
theorem wW {w:J6} {J3:η (Key×V)} {vs:η (Key×Value)} (z:J3.length<=qa7) (hd:(a==qj1)=ξ) (O:KV J3 vs) (dd:h'.DictOf (bE P w) a vs) :
  ObjOk P w H' h' a (.dK J3):=⟨z,hd,vs,O,dd⟩
theorem vt {Q:Unit->qa4->Prop} (hu:A.units+1<cLine) (I:Inv X J1 σ H s) (g:DPut H a y v H') (ry:RelV y u) (rv:RelV v r) (h:∀ s',Inv X J1 σ H' s'->Q () s') :
  wpAny (model X.prog X.w) A (setItem (.ref a) u r) Q E s:=by
 rcases g with ⟨J3,k,e,ey,l,eH⟩|⟨J3,k,b,e,ey,eb,l,eH⟩
 .subst ey eH;obtain⟨z,hd,vs,O,dd⟩:=BQ I.hok e;have hz:vs.length<=qa7:=by rw[<- O.length];exact z
  have hl:(eU J3 k v).length<=qa7:=by have:=ig J3 k v;lia
  refine wpAny_setItem_pairs (hsz:=hz) (jv ry) dd fun h' U hs=>h _ ?_
  have he:∃q,h'.get? a=ς q:=let ⟨q,_,_,Z,_⟩:=U;⟨q,Z⟩;exact oG I (by rw[e];exact qk5) hs he (wW hl hd (O.put k rv) U)
 .subst ey eH;cases (show u=qb7 b from ry);obtain⟨z,hd,xs,O,dd⟩:=E9 I.hok e;have hz:xs.length<=qa7:=by rw[<- Paired.length O];exact z
  have hl:(eU J3 k v).length<=qa7:=by have:=ig J3 k v;lia
  refine wpAny_setItem_heap (hsz:=hz) (qn4 hu) (j8 I.hok eb) dd fun h' U hs=>h _ ?_
  obtain⟨q,es,ep,Z,h2,h3,h4,_,h5⟩:=U;refine oG I (by rw[e];exact qk5) hs ⟨q,Z⟩ ⟨hl,hd,_,(O.put k eb rv).keeps fun c ys ec=>?_,q,es,ep,Z,h2,h3,h4,h5⟩;rw[ax (kL ec e (fun z=>nomatch z))];exact ec
end
def wX(i:J9):Prop:=∀U O,zc4 i ξ U O=operate [U,O] (zc3 U O)
variable{pos:Pos}
theorem t6{prog:qc0}{w:J6}{E:Value->qa4->Prop}{env:Env}{value O:J9}{T id:String} 
 (hl:typeLookup (.type T) "__getitem__"=pure (ς (.builtin id))) (hs:wX O)
 (h:wpAny (model prog w) A (eval value env) (fun o Z=>wpAny (model prog w) A (eval O env) (fun i s₂=>s₂.TypeIs o T/\wpAny (model prog w) A (zc3 o i) Q E s₂) E Z) E s) :
  wpAny (model prog w) A (eval (.Subscript value O pos) env) Q E s:=by
 refine Subscript_ (qf1 h (fun o Z h₁=>qf1 h₁ (fun i s₂ U=>?_) fun _ _ x=>x) fun _ _ x=>x);obtain⟨hT,U⟩:=U;unfold zd2;refine wB ?_;rw[getitemInPython_of_ne hT.not_modules];refine wB (wpAny_specialOf hT hl ?_)
 have fin:wpAny (model prog w) A (zc4 O ξ o i) (fun r s₃=>wpAny (model prog w) A (letTemporaryGo value o r >>= fun _=>pure r) Q E s₃) E s₂:=by rw[hs o i];exact wpAny_operating (qf1 U (fun r s₃ h₃=>wB (wpAny_letTemporaryGo (qb1 h₃))) fun _ _ x=>x)
 first
  |exact qb1 (wB fin)
  |exact wB (qb1 (wB fin))
  |exact wB fin
variable{X:Cx}
theorem qg(I:Inv X J1 σ H s)(g:DGet H a y o):s.TypeIs (.ref a) "dict":=by
 rcases g with ⟨J3,k,e,_,_⟩|⟨J3,k,b,e,_,_,_⟩
 .obtain⟨_,_,vs,_,dd⟩:=kO I.hok e;exact dd.typeIs
 .obtain⟨_,_,xs,_,dd⟩:=lH I.hok e;exact dd.typeIs
def Fa(td ty:TE):TE:=fun σ H Q=>td σ H fun x H1=>ty σ H1 fun y H2=>∃a v,x=.ref a/\DGet H2 a y (ς v)/\Q v H2
def tDIn(ty td:TE):TE:=fun σ H Q=>ty σ H fun y H1=>td σ H1 fun x H2=>∃a o,x=.ref a/\DGet H2 a y o/\Q (.bl o.isSome) H2
def t7(ty td:TE):TE:=fun σ H Q=>ty σ H fun y H1=>td σ H1 fun x H2=>∃a o,x=.ref a/\DGet H2 a y o/\Q (.bl (!o.isSome)) H2
def Fb(td ty tv:TE):TS:=fun D σ H=>tv σ H fun v H1=>td σ H1 fun x H2=>ty σ H2 fun y U=>∃a O,x=.ref a/\DPut U a y v O/\D.nx σ O
section
variable{X:Cx}{o i e value:J9}{pos pos' tpos:Pos}{td ty tv:TE}
theorem Af(hu:X.A.units+1<cLine)(Z:PE X o td)(hi:PE X i ty)(hs:wX i):PE X (.Subscript o i pos) (Fa td ty):=by intro J1 s σ H Q I h;refine t6 PySem.F.slot_dict_getitem.lookup hs (thn (Z J1 s σ H _ I h) fun u s1 ⟨x,H1,I1,rx,q1⟩=>thn (hi J1 s1 σ H1 _ I1 q1) fun iv s2 ⟨y,H2,U,ry,a,v,ex,g,q2⟩=>?_);subst ex;obtain rfl:u=qb7 a:=rx;exact⟨qg U g,vq hu U g ry fun w' s3 I3 O=>⟨v,H2,I3,O,q2⟩⟩
theorem wY(O:X.A.units+1<cLine)(hi:PE X i ty)(U:PE X o td):PC X .In i o (tDIn ty td):=by
 intro J1 s σ H Q I h;refine thn (hi J1 s σ H _ I h) fun iv s1 ⟨y,H1,I1,ry,q1⟩=>thn (U J1 s1 σ H1 _ I1 q1) fun u s2 ⟨x,H2,I2,rx,a,Z,ex,g,q2⟩=>?_
 subst ex;obtain rfl:u=qb7 a:=rx;exact d_in O I2 g ry fun s3 I3=>⟨.bl Z.isSome,H2,I3,rfl,q2⟩
theorem vv(O:X.A.units+1<cLine)(hi:PE X i ty)(U:PE X o td):PC X .NotIn i o (t7 ty td):=by
 intro J1 s σ H Q I h;refine thn (hi J1 s σ H _ I h) fun iv s1 ⟨y,H1,I1,ry,q1⟩=>thn (U J1 s1 σ H1 _ I1 q1) fun u s2 ⟨x,H2,I2,rx,a,Z,ex,g,q2⟩=>?_
 subst ex;obtain rfl:u=qb7 a:=rx;exact Ae O I2 g ry fun s3 I3=>⟨.bl (!Z.isSome),H2,I3,rfl,q2⟩
theorem Ag (hu:X.A.units+1<cLine) (O:PE X o td) (hi:PE X i ty) (hv:PE X value tv) (hs:qf7 value (ς (.Subscript o i pos')) pos.line X.env=pure ξ) :
  PS X (.Assign [.Subscript o i pos'] value pos) (Fb td ty tv):=by
 intro J1 s σ H D I h;refine wpAny_Assign_Subscript (thn (hv J1 s σ H _ I h) fun r s1 ⟨v,H1,I1,rv,q1⟩=>thn (O J1 s1 σ H1 _ I1 q1) fun u s2 ⟨x,H2,I2,Z,q2⟩=>thn (hi J1 s2 σ H2 _ I2 q2) fun iv s3 ⟨y,H3,U,ry,a,H4,ex,g,q3⟩=>?_) hs;subst ex;obtain rfl:u=qb7 a:=Z;exact vt hu U g ry rv fun s4 I4=>⟨σ,H4,I4,q3⟩
end
theorem qh{w:J6}(h:Heap)(O:qj1<h.objs.size):ObjOk P w H (h.push {cls:=.type "dict",data:=.dict #[]}) h.objs.size (.dK []):=⟨qy8 _,beq_eq_false_iff_ne.mpr (qe7 (qc8 O)),[],.nil,Heap.DictOf.new h⟩
def C4:TE:=fun _ H Q=>∀p,H p=ψ->Q (.ref p) (upd H p (.dK []))
section
variable{X:Cx}{pos:Pos}
theorem wZ:PE X (.Dict [] [] pos) C4:=fun J1 s σ H Q I h=>wpAny_Dict_empty ⟨.ref s.heap.objs.size,_,I.laid (a:=s.heap.objs.size) (o:=.dK []) (t':=s.toks) (fun _ _ q=>gP _ q) (nL _) (qh s.heap I.big),rfl,h _ (I.hok.fresh (nL _))⟩
end
def oH:η (TE×TE)->St->Hp->(η (V×V)->Hp->Prop)->Prop
 |[],_,H,Q=>Q [] H
 |(tk,tv)::r,σ,H,Q=>tk σ H fun x H1=>tv σ H1 fun y H2=>oH r σ H2 fun ps O=>Q ((x,y)::ps) O
abbrev VV:η (V×V)->η (Value×Value)->Prop:=Paired fun p q=>RelV p.1 q.1/\RelV p.2 q.2
def PPs(X:Cx)(pos:Pos)(U:η (ζ J9))(O:η J9)(trs:η (TE×TE)):Prop:=
 ∀(J1:η (J5×Obj))(s:qa4)(σ:St)(H:Hp)(Q:η (V×V)->Hp->Prop),Inv X J1 σ H s->oH trs σ H Q→
  wpAny (model X.prog X.w) X.A (evalPairs (pairTrees U O X.env pos)) (fun vs s'=>∃ps H',Inv X J1 σ H' s'/\VV ps vs/\Q ps H') X.xe s
theorem Ah:PPs X pos [] [] []:=fun J1 s σ H Q I h=>pairTrees_nil_walk ⟨[],H,I,.nil,h⟩
variable{trs:η (TE×TE)}
theorem w4 {k v:J9} {ks:η (ζ J9)} {vs:η J9} {tk tv:TE} (hk:PE X k tk) (hv:PE X v tv) (hr:PPs X pos ks vs trs) :
  PPs X pos (ς k::ks) (v::vs) ((tk,tv)::trs):=fun J1 s σ H Q I h=>
 pairTrees_cons_walk (thn (hk J1 s σ H _ I h) fun u s1 ⟨x,H1,I1,rx,q1⟩=>thn (hv J1 s1 σ H1 _ I1 q1) fun w2 s2 ⟨y,H2,I2,ry,q2⟩=>thn (hr J1 s2 σ H2 _ I2 q2) fun ws s3 ⟨ps,U,Z,O,q3⟩=>⟨(x,y)::ps,U,Z,.cons ⟨rx,ry⟩ O,q3⟩)
def ii(J3 O:η (Key×V)):η (Key×V):=O.foldl (fun U kv=>eU U kv.1 kv.2) J3
theorem KV.merge:∀{O:η (Key×V)}{U:η (Key×Value)}{J3:η (Key×V)}{vs:η (Key×Value)},KV O U->KV J3 vs->KV (ii J3 O) (merged vs U):=by
 intro O U J3 vs r;unfold KV at r;induction r generalizing J3 vs with
 |nil=>intro q;exact q
 |@cons p q ps qs h t ih=>
  intro Z
  have e:KV (eU J3 p.1 p.2) (stored vs q.1 q.2):=by have:=Z.put p.1 h.2;rw[<- h.1];exact this
  exact ih e
theorem i7:∀(O J3:η (Key×V)),(ii J3 O).length<=J3.length+O.length
 |[],J3=>by show J3.length<=J3.length+0;lia
 |p::r,J3=>by have h1:=i7 r (eU J3 p.1 p.2);have h2:=ig J3 p.1 p.2;show(ii (eU J3 p.1 p.2) r).length<=_;rw[qc4];lia
theorem lI{P:qc0}{w:J6}:∀{J3:η (Key×V)}{ws:η (Value×Value)},VV (J3.map fun kv=>(kV kv.1,kv.2)) ws->∃O,Carries (bE P w) ws O/\KV J3 O
 |[],_,r=>by rw[qm1]at r;cases r;exact⟨[],qk5,.nil⟩
 |p::J3,_,r=>by
  rw[qb3]at r;cases r with
  |@cons a b Z bs h t=>obtain⟨O,c,q⟩:=lI (P:=P) (w:=w) t;obtain⟨b1,U⟩:=b;exact⟨(p.1,U)::O,⟨jv h.1,rfl,c⟩,.cons ⟨rfl,h.2⟩ q⟩
def Fc(trs:η (TE×TE)):TE:=fun σ H Q=>∀p,H p=ψ->oH trs σ (upd H p (.dK [])) fun ps H2=>H2 p=ς (.dK [])/\∃J3:η (Key×V),ps=J3.map (fun kv=>(kV kv.1,kv.2))/\J3.length<=15/\Q (.ref p) (upd H2 p (.dK (ii [] J3)))
theorem Ai{O:η (ζ J9)}{U:η J9}(h:PPs X pos O U trs)(hall:O.all (·.isSome)=θ)(hl:O.length=U.length)(h0:O≠[])
 (h15:O.length<=15):PE X (.Dict O U pos) (Fc trs):=by
 intro J1 s σ H Q I q;have hn:=I.hok.fresh (nL s.heap.objs.size);have I1:=I.laid (a:=s.heap.objs.size) (o:=.dK []) (h':=s.heap.push {cls:=.type "dict",data:=.dict #[]}) (t':=s.toks) (fun _ _ q=>gP _ q) (nL _) (qh s.heap I.big);refine wpAny_Dict_walk (knd:=bE X.prog X.w) hall hl h0 h15 (thn (h J1 _ σ _ _ I1 (q _ hn)) fun ws s2 ⟨ps,H2,I2,rel,e,J3,ep,lk,q2⟩=>?_);subst ep;obtain⟨rs,c,rk⟩:=lI (P:=X.prog) (w:=X.w) rel;obtain⟨z,hd,vs0,r0,dd⟩:=BQ I2.hok e;cases r0;refine⟨rs,c,dd,fun h' Z hs=>⟨.ref s.heap.objs.size,_,?_,rfl,q2⟩⟩
 have hz:(ii [] J3).length<=qa7:=by have h1:=i7 J3 [];rw[qj9]at h1;rw[qr7];lia
 have he:∃q,h'.get? s.heap.objs.size=ς q:=let ⟨q,_,_,hq,_⟩:=Z;⟨q,hq⟩;exact oG I2 (by rw[e];exact qk5) hs he (wW hz hd (rk.merge .nil) Z)
structure M2(X:Cx)(o:J9)(m:Str)(apos:Pos)(e f:J9)(cpos:Pos):Prop where
 base:qg5 o m X.env (eval o X.env)=eval o X.env
 few:((qf2 cpos (qa2 [e,f] X.env)).all (fun x=>!x.1)&&(qs1 cpos (ql2 [] X.env)).all (fun x=>x.1.isSome)
  && decide (([e,f]:List J9).length+([]:List qk3).length+(if([]:List qk3).isEmpty then 0 else 1)<30))=θ
 line:(apos.endLine==cpos.line)=θ
 trees:qf2 cpos (qa2 [e,f] X.env)=[(ξ,eval e X.env),(ξ,eval f X.env)]
def IsD(H:Hp)(a:J5):Prop:=(∃J3,Rd H a (.dK J3))∨∃J3,Rd H a (.dT J3)
theorem C5 (I:Inv X J1 σ H s) (d:IsD H a) :
  s.TypeIs (.ref a) "dict"/\(∀b,qb7 a=.ref b->∃ob,s.heap.get? b=ς ob/\ob.dict=ψ)/\(a==qj1)=ξ:=by
 rcases d with ⟨J3,e⟩|⟨J3,e⟩
 .obtain⟨_,hd,vs,_,dd⟩:=kO I.hok e;refine⟨dd.typeIs,fun b q=>?_,hd⟩;cases q;obtain⟨ob,_,_,h1,h2,_⟩:=dd;exact⟨ob,h1,h2.2.1⟩
 .obtain⟨_,hd,xs,_,dd⟩:=lH I.hok e;refine⟨dd.typeIs,fun b q=>?_,hd⟩;cases q;obtain⟨ob,_,_,h1,h2,_⟩:=dd;exact⟨ob,h1,h2.2.1⟩
section
variable{X:Cx}{J1:η (J5×Obj)}{σ:St}{H:Hp}{s:qa4}{a:J5}{y d:V}{u r:Value}{o:ζ V}{A:qd8}{E:Value->qa4->Prop}
theorem C6 (hu:A.units+1<cLine) (I:Inv X J1 σ H s) (g:DGet H a y o) (ry:RelV y u) (rd:RelV d r) (h:∀ Z s',Inv X J1 σ H s'->RelV (o.getD d) Z->Q Z s') :
  wpAny (model X.prog X.w) A (call (.builtin "dict.get") [.ref a,u,r]) Q E s:=by
 rcases g with ⟨J3,k,e,U,l⟩|⟨J3,k,b,e,U,eb,l⟩
 .subst U;obtain⟨z,hd,vs,O,dd⟩:=kO I.hok e;refine call_meetsIn PySem.F.slot_dict_get dd.typeIs PySem.F.entry_dict_get (PySem.F.args_dict_get_3 _ _ _) (meets_dict_get_default (bE X.prog X.w) a (jv ry) hd r) ⟨_,dd.mapOf,h _ _ (I.tok _) ?_⟩;rw[l];exact(O.val k).getD rd
 .subst U;cases (show u=qb7 b from ry);obtain⟨z,hd,xs,O,dd⟩:=lH I.hok e;refine call_meetsIn PySem.F.slot_dict_get dd.typeIs PySem.F.entry_dict_get (PySem.F.args_dict_get_3 _ _ _) (meetsH_dict_get_default (qz9 (bE X.prog X.w)) a b hd r) ⟨qn4 hu,k,xs,j8 I.hok eb,dd,h _ _ (I.tok _) ?_⟩;rw[l];exact(O.val k).getD rd
end
def C7(td ty tx:TE):TE:=fun σ H Q=>td σ H fun x H1=>∃a,x=.ref a/\IsD H1 a/\ty σ H1 fun y H2=>tx σ H2 fun z O=>∃o,DGet O a y o/\Q (o.getD z) O
section
variable{X:Cx}{o e f:J9}{apos cpos:Pos}{td ty tx:TE}
theorem w6(hu:X.A.units+1<cLine)(Z:PE X o td)(he:PE X e ty)(hf:PE X f tx)(m:M2 X o "get" apos e f cpos):PE X (.Call (.Attribute o "get" apos) [e,f] [] cpos) (C7 td ty tx):=by
 intro J1 s σ H Q I h;refine wpAny_Call_method m.base m.few m.line PySem.F.plainAttrs_dict PySem.F.slot_dict_get PySem.F.type_dict_get (thn (Z J1 s σ H _ I h) fun u s1 ⟨x,H1,U,rx,a,ex,d,q1⟩=>?_);subst ex;obtain rfl:u=qb7 a:=rx;obtain⟨t1,t2,_⟩:=C5 U d;refine⟨t1,t2,?_⟩;rw[m.trees]
 refine qr2 rfl (qt4 (qn1 (thn (he J1 s1 σ H1 _ U q1) fun iv s2 ⟨y,H2,I2,ry,q2⟩=>qn1 (thn (hf J1 s2 σ H2 _ I2 q2) fun fv s3 ⟨z,H3,I3,rz,ov,g,q3⟩=>qx1 ?_))))
 exact C6 hu I3 g ry rz fun w' s4 I4 O=>⟨_,H3,I4,O,q3⟩
end
end L2
namespace Att
open PySem PySem.W PySem.Calls PyProof.Rows
variable{P:Params}{h:Heap}
theorem kU:∀(ns:η Int)(vs:η Value),WellAll P h vs (ns.map WData.int)->IntsAre vs ns:=by
 intro ns;induction ns with
 |nil=>intro vs w;rw[qm1]at w;cases w;exact .nil
 |cons n ns O=>
  intro vs w;rw[qb3]at w;cases w with
  |cons a b=>cases a;exact .cons _ _ (O _ b)
variable{l:OpenLaw}{n:Nat}
theorem vz(hn:l.most=ς n){args:η WData}{U:η Value}
 (O:l.row.toRowW.claim.pre args=θ) (hwl:WellAll P h U args) :
  ∃a vs ns,U=[qb7 a]/\args=[WData.list (ns.map WData.int)]/\h.get? a=ς {cls:=.type "list",data:=.seq vs.toArray}/\IntsAre vs ns/\ns.length<=n:=by
 have hsh:WShape.hasAll [] args [.list .int]=θ:=(pre_splitW O).1;have hc:l.pre.holds [] {args:=args}=θ:=(pre_splitW O).2;obtain⟨d,r,rfl,h1,h2⟩:=hasAllW_cons hsh;obtain rfl:=hasAllW_nil h2;obtain⟨xs,rfl,h3⟩:=hasW_list h1;obtain⟨ns,rfl⟩:=items_int h3
 have Z:ns.length<=n:=by
  unfold OpenLaw.pre at hc
  have h4:(WTm.not (.lt (.lit (.int (n:Int))) (.len (.arg 0)))).holds [] {args:=[.list (ns.map .int)]}=θ:=by have h4:=(holds_andW hc).1;rw[hn]at h4;exact h4
  have h5:=condW_of h4 (w_not (w_lt w_lit (w_len_list (w_arg rfl))));rw[qa5]at h5;refine Nat.le_of_not_lt fun q=>?_
  have q':(n:Int)<((ns.length:Nat):Int):=by lia
  first
   |(rw[decide_eq_true q']at h5;exact absurd h5 Ω)
   |(simp at h5;lia)
 cases hwl with
 |cons w1 w2=>
  cases w2;cases w1 with
  |list ho hall=>exact⟨_,_,ns,rfl,rfl,ho,kU ns _ hall,Z⟩
theorem vA(l:OpenLaw)(args:η WData):l.row.toRowW.claim.post args (.bool θ) args=θ:=
 postW_of (r:=l.row.toRowW) (X:=(θ==θ))
  (show WShape.has [] (.bool θ) .bool=θ by first|rfl|decide|simp[WShape.has,WShape.arms,WShape.armsAll])
  (show(WTm.eq .res (.lit (.bool θ))).value [] {args:=args,res:=ς (.bool θ),after:=args}=ς (.bool (θ==θ))from w_eq_bool (w_res rfl) w_lit) rfl
theorem BR{q:qc0}{loose:η Str}{XP:(Str->ζ Value)->Heap->Prop}{YP:J6->Heap->Prop}{d:DefRec}
 (hn:l.most=ς n) (hdf:d.params.defaults=[])
 (call:∀(w:J6)(s₀ O:qa4)(mg mb:Str->ζ Value)(fa:J5)(o:Obj)(pm cd doc:Value)(a:J5)(vs:η Value)(ns:η Int),
 Ground q loose [] XP w s₀ mg mb O.heap->YP w O.heap→
 O.heap.get? fa=ς o->o.data=.func (docDef d.name d.params d.body d.scope pm cd doc)->O.heap.CodeRec cd d.name->mg d.name=ς (.ref fa)→
 O.heap.get? a=ς {cls:=.type "list",data:=.seq vs.toArray}->IntsAre vs ns->ns.length<=n->O.gens=#[]→
 qy4 (model l.prog w) zd6 (.call (.ref fa) ⟨[.ref a],[]⟩) (fun r s'=>r=.ok (.ret (.bool θ))/\OldK O.heap s'.heap/\s'.os=O.os/\qy2 s'.gens) O) :
  WalkO q loose XP YP l.row.toRowW d [] (fun f vs=>PySem.call f vs):=by
 intro w s₀ O mg mb G Y fa o pm cd doc dV kV ho hd hcd hD hmg hg args vals as Z hlay hrd hwl hlo;obtain rfl:dV=.none:=Dflts.none hD hdf;obtain rfl:kV=.none:=Dflts.noKw hD;obtain⟨a,vs,ns,rfl,rfl,hobj,U,hlen⟩:=vz hn Z hwl;refine enter_call (qv8 (call w s₀ O mg mb fa o pm cd doc a vs ns G Y ho (fd_plain hd) hcd hmg hobj U hlen hg) fun r s' hq=>?_);obtain⟨rfl,h2,h3,h4⟩:=hq;exact⟨.inl ⟨.bool θ,.bool θ,[],rfl,fun _=>rfl,.bool θ,vA l _,fun _=>⟨zd3.nil,fun _ hm=>(nomatch hm)⟩⟩,h2,h3,h4⟩
end Att
namespace L2
open PySem PySem.Spec PyProof.Rows
theorem m3:∀{vs:η Value}{ns:η Int},IntsAre vs ns->Vals (ns.map V.int) vs
 |_,_,.nil=>.nil
 |_,_,.cons n t h=>.cons ⟨t,rfl⟩ (m3 h)
def Aj(H:Hp):Prop:=∀b,H b=ψ∨∃o xs,H b=ς (.frz o (.e xs))
variable{x:Str}
theorem w8{P:qc0}{w:J6}{K:xA9}{mg mb:Str->ζ Value}{CX:CXT}{k:Nat}{fa a:J5}{fd:qk2}{sp:Sp}{s₁:qa4}{vs:η Value}{ns:η Int}
 (KX:K.In s₁.heap) (hns:s₁.heap.Ns qb5 mg) (U:s₁.heap.Ns builtinsNs mb) (hbb:∀x:Str,x≠"__name__"->mb x=qd5 x) (hlim:s₁.heap.NoLimit) (hg:s₁.gens=#[]) (hT0:p8 K=[])
 (ha:s₁.heap.get? a=ς {cls:=.type "list",data:=.seq vs.toArray}) (hi:IntsAre vs ns) (hl:ns.length<=qa7) (hr:Room k zd6)
 (F:∀base:Heap,K.In base->base.Ns qb5 mg->FnOk P w K mg base CX k fa fd [x] sp) (hbind:∀(s:qa4)(u:Value),zf0 s fd ⟨[u],[]⟩ [(x,u)])
 (hsp:∀H:Hp,Aj H->SqL K H a (ns.map V.int)->sp [.ref a] H (fun v _=>v=.bl θ) fun _ _ _=>False)
 (hCX:∀H e s',CX [] H s₁ (fun _ _ _=>False) e s'->False) :
  qy4 (model P w) zd6 (.call (.ref fa) ⟨[.ref a],[]⟩) (fun r s'=>r=.ok (.ret (.bool θ))/\OldK s₁.heap s'.heap/\s'.os=s₁.os/\qy2 s'.gens) s₁:=by
 have rv:=m3 hi;have lenV:=hi.length
 -- from an abstract heap in which nothing but the script may be tracked
 have core:∀ H:Hp,Aj H->SqL K H a (ns.map V.int)->HOk P w H s₁.heap->(∀ b,H b≠ψ->b=a)->(H a≠ψ->K.lookup a=ψ)→
     qy4 (model P w) zd6 (.call (.ref fa) ⟨[.ref a],[]⟩) (fun r s'=>r=.ok (.ret (.bool θ))/\OldK s₁.heap s'.heap/\s'.os=s₁.os/\qy2 s'.gens) s₁:=by
  intro H hO hS hok hA hK;have O:∀{b:J5}{o:Obj},s₁.heap.get? b=ς o->H b=ψ->(om s₁.heap H).get? b=ς o:=fun e n=>ww e n
  have noA:∀{b:J5}{o:Obj}{es:Array DictEntry}{ep:Nat},s₁.heap.get? b=ς o->o.data=.dict es ep->H b=ψ:=fun {b o es ep} e d=>by
   cases q:H b with
   |none=>rfl
   |some u=>
    have e':b=a:=hA b (by rw[q];simp);subst e';rw[ha]at e;cases e
    have d':Data.seq vs.toArray _=Data.dict es ep:=d;cases d'
  have Z:∀{b:J5}{m:Str->ζ Value},s₁.heap.Ns b m->(om s₁.heap H).Ns b m:=fun {b m}⟨o,es,ep,e,d,r⟩=>⟨o,es,ep,O e (noA e d),d,r⟩
  have hKb:K.In (om s₁.heap H):=fun b o e=>O (KX b o e) (by
   cases q:H b with
   |none=>rfl
   |some u=>have e':b=a:=hA b (by rw[q];simp);subst e';rw[hK (by rw[q];simp)]at e;cases e)
  have hM:Mod K mg (om s₁.heap H):=⟨hKb,Z hns,⟨mb,Z U,hbb⟩,let ⟨mc,h1,h2⟩:=hlim;⟨mc,Z h1,h2⟩⟩;have e0:Env0 P w K mg (om s₁.heap H) zd6 [] s₁ H:=⟨rfl,hM,fun b o e=>zO e,Nat.le_of_eq (ve _ _),trivial,fun b U=>absurd (show b∈([]:η J5)from U) Ξ,hok,.of_eq hg,fun p hp=>by rw[hT0]at hp;cases hp⟩;refine qv8 ((F _ hKb (Z hns)).run zd6 [] s₁ H ⟨[.ref a],[]⟩ [.ref a] [.ref a] _ _ hr e0 (hbind s₁ (.ref a)) (.cons rfl .nil) (hsp H hO hS)) fun r s' h=>?_
  cases r with
  |error e=>exact(hCX H e s' h).elim
  |ok fl=>
   cases fl with
   |next=>exact qf3 h
   |brk=>exact qf3 h
   |cont=>exact qf3 h
   |ret u=>
    obtain⟨v,H',os,bare,un,hok',r',q⟩:=h;have q':v=.bl θ:=q;subst q';obtain rfl:u=qr6 θ:=r';refine⟨rfl,OldK.of_keep fun b o e=>?_,os,bare⟩;cases q:H b with
    |none=>exact un.keep b o e q (by intro z;exact absurd (show b∈([]:η J5)from z) Ξ) Ξ
    |some u=>
     rcases hO b with z|⟨ob,xs,z⟩
     .rw[q]at z;cases z
     .have z2:=un.frzs b ob _ z;obtain⟨e1,_⟩:=hok b _ z;obtain⟨e2,_⟩:=hok' b _ z2;rw[e]at e1;cases e1
      exact e2
 cases hk:K.lookup a with
 |some o=>
  -- the script is one of the module's own objects
  have e:=KX a o hk;rw[ha]at e;cases e;refine core (fun _=>ψ) (fun _=>.inl rfl) (.inr ⟨_,vs.toArray,_,hk,rfl,rfl,rfl,by rw[qb4,lenV];exact hl,by simpa using rv⟩) (fun b u z=>by have z':(ψ:ζ HO)=ς u:=z;cases z') (fun b z=>absurd rfl z) fun z=>absurd rfl z
 |none=>
  refine core (fun b=>if b=a then ς (.frz {cls:=.type "list",data:=.seq vs.toArray} (.e (ns.map V.int)))else ψ) (fun b=>?_) (.inl (.inr ⟨{cls:=.type "list",data:=.seq vs.toArray},if_pos rfl⟩)) (fun b u z=>?_) (fun b z=>?_) fun _=>hk
  .by_cases U:b=a
   .exact .inr ⟨_,_,if_pos U⟩
   .exact .inl (if_neg U)
  .by_cases U:b=a
   .have z':=(if_pos U).symm.trans z;cases z';subst U;exact⟨ha,by rw[qa5];exact hl,vs,_,rv,ha⟩
   .have z':=(if_neg U).symm.trans z;cases z'
  .by_cases U:b=a
   .exact U
   .exact absurd (if_neg U) z
theorem FY{l:xY9}{n k:Nat}{q:qc0}{loose:η Str}{XP:(Str->ζ Value)->Heap->Prop}{YP:J6->Heap->Prop}{d:DefRec}{K:Params->xA9}{CX:J6->CXT}{sp:J6->Sp} 
 (hn:l.most=ς n) (hn2:n<=qa7) (hdf:d.params.defaults=[]) (hr:Room k zd6)
 (hY:∀(w:J6)(h:Heap),YP w h->(K w.params).In h) (hT0:∀w:J6,p8 (K w.params)=[])
 (F:∀(w:J6)(mg:Str->ζ Value)(fa:J5)(h:Heap),(K w.params).In h->h.Ns qb5 mg->mg d.name=ς (.ref fa)→
 ∃fd:qk2,(∀(s:qa4)(u:Value),zf0 s fd ⟨[u],[]⟩ [(x,u)])∧
 ∀base:Heap,(K w.params).In base->base.Ns qb5 mg->FnOk l.prog w (K w.params) mg base (CX w) k fa fd [x] (sp w))
 (hsp:∀(w:J6)(H:Hp)(a:J5)(ns:η Int),ns.length<=n->Aj H->SqL (K w.params) H a (ns.map V.int)->sp w [.ref a] H (fun v _=>v=.bl θ) fun _ _ _=>False)
 (hCX:∀(w:J6)(H:Hp)(s:qa4)(e:Value)(s':qa4),CX w [] H s (fun _ _ _=>False) e s'->False) :
  PySem.W.WalkO q loose XP YP l.row.toRowW d [] (fun f vs=>PySem.call f vs):=by
 refine Att.BR hn hdf fun w s₀ Z mg mb fa o pm cd doc a vs ns G Y ho hd hcd hmg hobj U O hg=>?_
 have KX:=hY w _ Y;obtain⟨fd,hb,hF⟩:=F w mg fa _ KX G.T.g hmg;exact w8 KX G.T.g G.T.b G.T.builtins G.T.nolimit hg (hT0 w) hobj U (qc5 O hn2) hr hF hb (fun H hO hS=>hsp w H a ns O hO hS) fun H e s'=>hCX w H Z e s'
end L2
/- THE LAST THEOREM (shape;LID,My.* are yours):
   My.Adr: a structure of the addresses that your layer names (classes,functions);My.Txt K t: a structure (Prop) of the equations over K;
   My.txt_mk:{K} {implicit addresses ..} (e1:nsIn K qb5 "law"=ς (ς (.ref f))) (e2:K.lookup f=ς ⟨oc,od,.func (fnOf "law" "law" params body scope dV kV doc pm an cdv ct),sl⟩) (e3:codeIn K cdv "law"=θ) ..:∃t,My.Txt K t
(the tactic k_is has no namespace: write k_is) -/
namespace L2
open PySem PySem.Spec PyProof.Rows
def c9(s:J8):qo5:=match s with
 |.FunctionDef _ a _ _ _ _ _ _ _ _=>a
 |_=>{posonlyargs:=[],args:=[],vararg:=ψ,kwonlyargs:=[],kw_defaults:=[],kwarg:=ψ,defaults:=[]}
def bL(s:J8):η J8:=match s with
 |.FunctionDef _ _ b _ _ _ _ _ _ _=>b
 |_=>[]
def ae(s:J8):Ja:=match s with
 |.FunctionDef _ _ _ _ _ _ sc _ _ _=>sc
 |_=>{kind:=.function,names:=[],isGenerator:=false,isCoroutine:=false}
abbrev CX0:CXT:=fun _ _ _ _ _ _=>False
abbrev E0:XK:=fun _ _ _=>False
variable{X:Cx}
theorem Fd:oz CX0 X E0:=fun _ _ _ _ _ _ _ h=>h.elim
structure Fun(K:xA9)(x qual:Str)(st:J8)(f:J5)(fd:qk2):Prop where
 ex:∃(oc:Value)(od:Option J5)(kV doc pm:Value)(an:Option J5)(cdv ct:Value)(osl:Array (Option Value)),fd=xF9 x qual (c9 st) (bL st) (ae st) .none kV doc pm an cdv ct/\K.lookup f=ς ⟨oc,od,.func fd,osl⟩/\xK9 K cdv qual=θ
 kp:xE9 K (.ref f)=θ
variable{x qual:Str}{st:J8}{f:J5}{fd:qk2}{N ps:η Str}{sp:Sp}{oc doc pm cdv:Value}{od an:ζ J5}{osl:Array (ζ Value)}
section
variable{P:qc0}{w:J6}{K:xA9}{mg:Str->ζ Value}{base:Heap}
theorem Fun.ok{k:Nat}(F:Fun K x qual st f fd)(S:FnScope N ps (ae st))(U:∀vs H Q E,sp vs H Q E->vs.length=ps.length)
 (O:∀(cdv:Value)(A:qd8)(outer:η Env)(s:qa4)(H:Hp)(vs:η V)(Q:VK)(E:XK),Room k (A.deeper (qn3 qual (ae st) s.heap.objs.size f cdv))->sp vs H Q E→
 ∃t,PSs (dq CX0 P w K mg base N qual (ae st) f cdv A outer s H E).nox (bL st) t/\t {nx:=fun _ H'=>Q .non H',rt:=Q} (e7 N vs) H):FnOk P w K mg base CX0 (k+1) f fd ps sp:=by
 obtain⟨oc,od,kV,doc,pm,an,cdv,ct,osl,rfl,lk,Z⟩:=F.ex;refine BN lk Z S U fun A outer s H vs Q E hr hsp=>?_
 obtain⟨t,h,q⟩:=O cdv A outer s H vs Q E hr hsp;exact⟨t,h.nox,q⟩
theorem Fun.binds(F:Fun K x qual st f fd)
 (h:∀(kV doc pm:Value)(an:ζ J5)(cdv ct:Value)(us:η Value),us.length=ps.length->ze7 (xF9 x qual (c9 st) (bL st) (ae st) .none kV doc pm an cdv ct) ⟨us,[]⟩=pure (ps.zip us)):Binds K fd ps []:=by
 obtain⟨oc,od,kV,doc,pm,an,cdv,ct,osl,rfl,U,O⟩:=F.ex;exact .all (h kV doc pm an cdv ct)
theorem oI{kV ct:Value}(l:K.lookup f=ς ⟨oc,od,.func (xF9 x qual (c9 st) (bL st) (ae st) .none kV doc pm an cdv ct),osl⟩)(c:xK9 K cdv qual=θ)(k:xE9 K (.ref f)=θ):Fun K x qual st f (xF9 x qual (c9 st) (bL st) (ae st) .none kV doc pm an cdv ct):=⟨⟨oc,od,kV,doc,pm,an,cdv,ct,osl,rfl,l,c⟩,k⟩
end
variable{A:qd8}
theorem m4{k:Nat}(O:Room k A):A.units+1<cLine:=Nat.lt_of_le_of_lt (Nat.add_le_add_left (by decide:1<=64) _) O.units
def Same(H H':Hp):Prop:=∀b o,H b=ς o->H' b=ς o
theorem Same.refl(H:Hp):Same H H:=fun _ _ h=>h
variable{H H1:Hp}
theorem Same.trans{H2:Hp}(a:Same H H1)(b:Same H1 H2):Same H H2:=fun c o h=>b c o (a c o h)
variable{H':Hp}
theorem Same.free(e:Same H H'){l:J5}(h:H' l=Option.none):H l=Option.none:=by
 cases q:H l with
 |none=>rfl
 |some o=>rw[e l o q]at h;cases h
variable{K:xA9}{a:J5}{xs:η V}
theorem Same.seq(e:Same H H')(h:SqL K H a xs):SqL K H' a xs:=by
 rcases h with (h|⟨o,h⟩)|h
 .exact .inl (.inl (e _ _ h))
 .exact .inl (.inr ⟨o,e _ _ h⟩)
 .exact .inr h
set_option maxRecDepth 100000
set_option maxHeartbeats 4000000
open PySem PySem.Spec
abbrev vtl:η Value:=[.type "ValueError",.type "Exception",.type "BaseException",.type "object"]
structure XCl(K:xA9)(C D f:J5):Prop where
 obj:∃dd nm bs ns qn sn sub ab col k0 k1 k2 k3 k5,K.lookup C=ς (zc6 nm qn C ns bs (.ref D::vtl) θ sn sub ab col dd k0 k1 k2 k3 k5 "ValueError.__new__")
 init:xD9 K (.ref C) "__init__"=ς (ς (.ref f))
 fn:PySem.W.isFn K (.ref f)=θ
 sa:xD9 K (.ref C) "__setattr__"=ς (ς (.builtin "object.__setattr__"))
 ga:xD9 K (.ref C) "__getattribute__"=ς (ς (.builtin "BaseException.__getattribute__"))
 gn:xD9 K (.ref C) "__getattr__"=ς ψ
 kp:xE9 K (.ref C)=θ
variable{Q:Unit->qa4->Prop}{R:Result->qa4->Prop}
section
variable{prog:qc0}{w:J6}{M:Model}{A:qd8}{E:Value->qa4->Prop}{h:Heap}{g:Array GenState}{d:Drawn}{t:Nat}{os:OsState}
variable{nm q:Str}{C N D:J5}{bs:η Value}{hdct:Bool}{sn:η Str}{sub:η Value}{ab:Bool}{col:ζ Bool}{dd:ζ J5}{k0 k1 k2 k3 k5:ζ Value}
theorem Fe{rest:η Value}(U:h.get? C=ς (zc6 nm q C N bs (.ref D::vtl) hdct sn sub ab col dd k0 k1 k2 k3 k5 "ValueError.__new__"))
 (hq:Q () ⟨h,g,d,t,os⟩):wpAny M A (checkBuiltinCall "ValueError.__new__" ⟨.ref C::rest,[]⟩) Q E ⟨h,g,d,t,os⟩:=by
 have F:=PySem.F.excBase_ValueError;have O:(qb7 C::.ref D::vtl).contains (.type "ValueError")=θ:=by simp[vtl]
 have Z:=F.noStar;simp only[checkBuiltinCall,F.newKind,F.newSplit,F.newRow]
 repeat (first|refine qj7 U ?_|(refine qp6 U ?_;rw[O])|refine wpAny_staticBase_exc U ?_|refine wpAny_madeBy_exc U ?_|simp only[bne_self_eq_false,qc6,if_false]|wp_step)
 exact hq
theorem Ff{rest:η Value}(hC:h.get? C=ς (zc6 nm q C N bs (.ref D::vtl) hdct sn sub ab col dd k0 k1 k2 k3 k5 "ValueError.__new__"))
 (hq:R (.ok (.ret (.ref (h.objs.size+1)))) ⟨(h.push {cls:=.type "tuple",data:=.seq rest.toArray}).push
 {cls:=.ref C,data:=.fields #[.ref h.objs.size,.none,.none,.none,.bool ξ,.none]},g,d,t,os⟩) (O:rest.length<=qa7) :
  qy4 (model prog w) A (.builtin "ValueError.__new__" ⟨.ref C::rest,[]⟩) R ⟨h,g,d,t,os⟩:=by
 have F:=PySem.F.excBase_ValueError;have U:=F.ends;have hcB:(qb7 C::.ref D::vtl).contains (.type "ValueError")=θ:=by simp[vtl]
 have Z:(qb7 C::.ref D::vtl).contains (.type "AttributeError")=ξ:=by simp[vtl]
 have hcN:(qb7 C::.ref D::vtl).contains (.type "NameError")=ξ:=by simp[vtl]
 refine codeAny_builtinAt F.entry ?_;unfold qn0.«BaseException.__new__»;refine PySem.wpAt_bind ?_;show PySem.wpAt _ _ _ (stack >>= _) _ _ _;refine PySem.wpAt_bind (PySem.wpAt_stack fun p below=>wpAt_of_wpAny ?_);wp_walk;refine wpAt_of_wpAny ?_;rw[F.owner]
 repeat (first|with_reducible refine wpAny_madeHere_exc F.canon hC ?_|with_reducible refine qj7 hC ?_|(with_reducible refine qp6 hC ?_;first|rw[hcB]|rw[Z]|rw[hcN])|wp_step)
 show R _ _;rw[qf8];exact hq
theorem x_tc{rest:η Value}{Q:Fin->qa4->Prop}(X:K.In h)(c:XCl K C D f)
 (hq:∀h' e,h.objs.size<=e->Heap.MadeExcOf h h' e (.ref C) rest→
 wpAny (model prog w) A (call (.ref f) (.ref e::rest)) (fun r s'=>r=.none/\Q (.done (.ret (.ref e))) s') E ⟨h',g,d,t,os⟩) (hrest:rest.length<=qa7) :
  wpAny (model prog w) A (qn0.«type.__call__» ⟨.ref C::rest,[]⟩) Q E ⟨h,g,d,t,os⟩:=by
 obtain⟨dd,nm,bs,N,q,sn,sub,ab,col,k0,k1,k2,k3,k5,lk⟩:=c.obj;have hC:=X _ _ lk;have F:=PySem.F.excBase_ValueError
 repeat (first|with_reducible refine qj7 hC ?_|with_reducible refine wpAny_madeBy_exc hC ?_|wp_step)
 refine codeAny_call_builtin_code (Code.quiet_builtin _ F.quiet) (Fe hC ?_);refine Ff hC ?_ hrest;show wpAny _ _ _ _ _ _
 have kk:∀b o,h.get? b=ς o->((h.push {cls:=.type "tuple",data:=.seq rest.toArray}).push {cls:=.ref C,data:=.fields #[.ref h.objs.size,.none,.none,.none,.bool ξ,.none]}).get? b=ς o:=fun b o e=>gP _ (gP _ e)
 have Z:=kk _ _ hC;have U:=X.keeps kk
 have O:((h.push {cls:=.type "tuple",data:=.seq rest.toArray}).push
     {cls:=.ref C,data:=.fields #[.ref h.objs.size,.none,.none,.none,.bool ξ,.none]}).get? (h.objs.size+1)=ς
     {cls:=.ref C,data:=.fields #[.ref h.objs.size,.none,.none,.none,.bool ξ,.none]}:=by heap_get
 have hcC:(qb7 C::.ref D::vtl).contains (.ref C)=θ:=by simp
 unfold zd7
 repeat (first|with_reducible refine qj7 O ?_|(with_reducible refine qp6 Z ?_;rw[hcC])|wp_step)
 show wpAny _ _ (typeLookup (.ref C) _) _ _ _;refine(xM9 U c.init).at ?_
 refine qi6 (wB ((PySem.W.bind_fn U _ (beq_iff_eq.mp c.fn)).at (wB (qf1 (hq _ (h.objs.size+1) (zc7 _) ⟨kk,qt2 (zc7 _),h.objs.size,O,qt2 (nL _),?_⟩) (fun r s' hr=>?_) fun _ _ x=>x))))
 .exact gP _ (Heap.get?_push_at rfl rfl)
 .obtain⟨rfl,hQ⟩:=hr;wp_walk;exact hQ
theorem C8{rest:η Value}{Q:Value->qa4->Prop}(X:K.In h)(c:XCl K C D f)
 (hq:∀h' e,h.objs.size<=e->Heap.MadeExcOf h h' e (.ref C) rest→
 wpAny (model prog w) (A.under (.builtin "type.__call__" ⟨.ref C::rest,[]⟩)) (call (.ref f) (.ref e::rest)) (fun r s'=>r=.none/\Q (.ref e) s') E ⟨h',g,d,t,os⟩) (O:rest.length<=qa7) :
  wpAny (model prog w) A (call (.ref C) rest) Q E ⟨h,g,d,t,os⟩:=by
 obtain⟨dd,nm,bs,N,q,sn,sub,ab,col,k0,k1,k2,k3,k5,Z⟩:=c.obj;have U:=X _ _ Z;have f1:=tc_lookup;have f2:=tc_bind (.ref C);have hT:(⟨h,g,d,t,os⟩:qa4).TypeIs (.ref C) "type":=⟨_,U,rfl⟩;refine qu5 (codeAny_of_tree ?_);show wpAny _ _ (callAny (.ref C) _) _ _ _
 repeat (any_goals (first|assumption|with_reducible refine qj7 U ?_|wp_step))
 refine⟨rfl,?_⟩;exact codeAny_call_builtin_at (Code.quiet_builtin _ χ) entry_typeCall (wpAny_check_type_call_sub U (x_tc X c hq O))
end
open PySem PySem.Spec Builtin Builtin.ObjectAttr
variable{M:Model}{h:Heap}{b:Bool}{vs:Array Value}{mA:Str->ζ Value}
section
variable{prog:qc0}{w:J6}{A:qd8}{E:Value->qa4->Prop}{s:qa4}{K:xA9}{x C D f:J5}{o:Obj}{name:Str}{v:Value}
theorem XCl.cls(c:XCl K C D f):∃cd,xN9 K C=ς cd/\cd.mro=.ref C::.ref D::vtl/\cd.hasDict=θ:=by obtain⟨dd,nm,bs,N,q,sn,sub,ab,col,k0,k1,k2,k3,k5,O⟩:=c.obj;exact⟨_,by unfold xN9;rw[O],rfl,rfl⟩
theorem XCl.sub(c:XCl K C D f)(X:K.In h)(T:Value):xL9 M h (isSubtype (.ref C) T) ((.ref C::.ref D::vtl:η Value).contains T):=by obtain⟨cd,h1,h2,_⟩:=c.cls;exact PySem.W.looks_mroIn X (by unfold xJ9;rw[h1,qa1,h2];rfl)
theorem XCl.is(c:XCl K C D f)(X:K.In h)(T:Value)(O:(.ref C::.ref D::vtl:η Value).contains T=b):xL9 M h (isSubtype (.ref C) T) b:=O▸c.sub X T
theorem lJ(U:h.get? x=ς o)(O:o.cls=.ref C):xL9 M h (typeOf (.ref x)) (.ref C):=O▸(PySem.W.Looks.ld U).andThen .now
theorem BS{tk:Tok}(X:K.In s.heap)(c:XCl K C D f)(hx:s.heap.get? x=ς o)(hc:o.cls=.ref C)(ht:xD9 K (.ref C) name=ς ψ)
 (h:wpAny (model prog w) A.in1 (storeInOwnDict (.ref x) (.ref C) (.str name tk) name v ξ) (fun U z=>match U with|.done f=>R (.ok f) z|.again c'=>c'.quiet=θ/\qy4 (model prog w) A c' R z) (fun e z=>R (.error e) z) s) :
  qy4 (model prog w) A (.call (.builtin "object.__setattr__") ⟨[.ref x,.str name tk,v],[]⟩) R s:=by
 have O:=PySem.F.store_object;have Z:=lJ (M:=model prog w) hx hc;obtain⟨cd,hd,hm,_⟩:=c.cls;have sb:xL9 (model prog w) s.heap (zd7 (.ref x) (.type "object")) θ:=Z.andThen (c.is X (.type "object") (by simp[vtl]));have L1:xL9 (model prog w) s.heap (mroOf (.ref C)) cd.mro:=(xZ9 X hd).andThen .now;refine qt5 O.slot.plain O.entry (@yA9 (model prog w) _ _ s "object.__setattr__" "object" "__setattr__" (.ref x) [.str name tk,v] [] _ O.kind O.split sb (O.args (.ref x) (.str name tk) v) ?_);rw[PySem.W.osa_eq,refuse_eq];refine wB (wB (Z.here (wB (L1.here ?_))));rw[hm,refuseLoop_ref,refuseLoop_ref,PySem.F.store_ValueError.passes (.ref x)];exact qb1 (wB (Z.here (wB ((xM9 X ht).here (wB (PySem.W.Looks.now.here h))))))
theorem C9(X:K.In s.heap)(c:XCl K C D f)(U:s.heap.get? x=ς o)(Z:o.cls=.ref C)(hd:o.dict=ψ)(hf:o.data=.fields vs)(ht:xD9 K (.ref C) name=ς ψ)
 (h:∀h',h'.get? x=ς {o with dict:=ς s.heap.objs.size}->h'.Ns1 s.heap.objs.size (fun y=>if y=name then ς v else ψ)->(∀b u,b≠x->s.heap.get? b=ς u->h'.get? b=ς u)->Q () {s with heap:=h',toks:=s.toks+2}) :
  wpAny (model prog w) A (setAttr (.ref x) name v) Q E s:=by
 have I:xO9 s.heap x o C ψ:=⟨U,Z,by unfold xR9;rw[hf],by rw[hd];trivial⟩;refine PySem.W.set_plain X I c.sa (BS (s:={s with toks:=s.toks+1}) X c U Z ht ?_);obtain⟨cd,h1,_,h2⟩:=c.cls;obtain⟨oc,od,oda,osl⟩:=o;dsimp only at Z hd hf;subst Z hd hf;refine wB (qb1 (wB (wB (zb9 U (wB (PySem.W.Looks.here (s:={s with toks:=s.toks+1}) (xZ9 X h1) ?_))))));rw[h2];have ne:x≠s.heap.objs.size:=qc8 (qa6 U);have O:=gP {cls:=.type "dict",data:=.dict #[]} U;refine wB (wpAny_alloc' (wB (wpAny_update' O (qb1 (wB (qb1 (wB ?_)))))))
 have gd:((s.heap.push {cls:=.type "dict",data:=.dict #[]}).update x fun o=>{cls:=o.cls,dict:=ς s.heap.objs.size,data:=o.data,slots:=o.slots}).get? s.heap.objs.size=ς {cls:=.type "dict",data:=.dict #[]}:=(Heap.get?_update_ne _ _ _ _ ne.symm).trans (Heap.get?_push_at rfl rfl)
 refine wpAny_nsSet1 (s:={s with heap:=((s.heap.push {cls:=.type "dict",data:=.dict #[]}).update x fun o=>{cls:=o.cls,dict:=ς s.heap.objs.size,data:=o.data,slots:=o.slots}),toks:=s.toks+1}) (Heap.Ns1.of_empty ⟨_,#[],_,gd,rfl,fun e he=>absurd he Ξ,fun _=>rfl⟩) fun h' hn sb=>?_
 obtain⟨oD,esD,epD,g1,g2,g3⟩:=hn.count (PySem.Within.cons name v PySem.Within.nil);refine wB (wpAny_lookBehind g1 (by rw[g2];exact pastItsLine_dict (qc5 g3 (by rw[qc4,qj9,qr7];lia))) (qb1 (h h' ?_ hn fun b u hb e=>?_)))
 .exact(sb.2 x ne).trans (qg0 _ O rfl)
 .exact(sb.2 b (qc8 (qa6 e))).trans ((Heap.get?_update_ne _ _ _ _ hb).trans (gP _ e))
theorem Db{dx:J5}{ns:η Str}(X:K.In s.heap)(c:XCl K C D f)(Z:s.heap.get? x=ς o)(U:o.cls=.ref C)(hd:o.dict=ς dx)(hf:o.data=.fields vs)(ht:xD9 K (.ref C) name=ς ψ)
 (hn:s.heap.Ns1 dx mA) (hne:dx≠x) (hw:PySem.Within mA ns) (hz:ns.length<=1000)
 (h:∀h',h'.get? x=ς o->h'.Ns1 dx (fun y=>if y=name then ς v else mA y)->(∀b u,b≠dx->s.heap.get? b=ς u->h'.get? b=ς u)->Q () {s with heap:=h',toks:=s.toks+2}) :
  wpAny (model prog w) A (setAttr (.ref x) name v) Q E s:=by
 obtain⟨od,hod,_⟩:=iO hn;have I:xO9 s.heap x o C (ς od):=⟨Z,U,by unfold xR9;rw[hf],by rw[hd];exact hod⟩;refine PySem.W.set_plain X I c.sa (BS (s:={s with toks:=s.toks+1}) X c Z U ht ?_);obtain⟨cd,h1,_,h2⟩:=c.cls;have hx':=Z;obtain⟨oc,od',oda,osl⟩:=o;dsimp only at U hd hf;subst U hd hf;refine wB (qb1 (wB (wB (zb9 Z (wB (PySem.W.Looks.here (s:={s with toks:=s.toks+1}) (xZ9 X h1) ?_))))));rw[h2];refine qb1 (a:=ς dx) (wB (qb1 (wB ?_)));refine wpAny_nsSet1 (s:={s with toks:=s.toks+1}) hn fun h' O sb=>?_
 obtain⟨oD,esD,epD,g1,g2,g3⟩:=O.count (PySem.Within.cons name v hw);refine wB (wpAny_lookBehind g1 (by rw[g2];exact pastItsLine_dict (qc5 g3 (by rw[qc4,qr7];lia))) (qb1 (h h' ((sb.2 x hne.symm).trans hx') O fun b u hb e=>(sb.2 b hb).trans e)))
end
section
variable{prog:qc0}{w:J6}{A:qd8}{E:Value->qa4->Prop}{s:qa4}{K:xA9}{x C D f:J5}{o:Obj}{name:Str}{v:Value}
theorem Fh{dx:J5}{Q:Value->qa4->Prop}(X:K.In s.heap)(c:XCl K C D f)(hx:s.heap.get? x=ς o)(hc:o.cls=.ref C)(hd:o.dict=ς dx)(hf:o.data=.fields vs)
 (ht:xD9 K (.ref C) name=ς ψ) (hn:s.heap.Ns1 dx mA) (hv:mA name=ς v) (O:PySem.W.handedIn v=θ) (h:Q v {s with toks:=s.toks+1}):wpAny (model prog w) A (getAttr (.ref x) name b) Q E s:=by
 obtain⟨od,Z,hl⟩:=iO hn;have I:xO9 s.heap x o C (ς od):=⟨hx,hc,by unfold xR9;rw[hf],by rw[hd];exact Z⟩;obtain⟨cd,h1,_,h2⟩:=c.cls;have L:=PySem.W.looks_find (M:=model prog w) X I (PySem.W.findObj_own (K:=K) (C:=C) (name:=name) (od:=od) (v:=v) (attr:=ψ) (by unfold PySem.W.hasDictIn;rw[h1];exact h2) ht rfl (by rw[hl,hv]));have U:=lJ (M:=model prog w) hx hc;have L1:=xM9 (M:=model prog w) X c.ga;have L2:=xM9 (M:=model prog w) X c.gn;have LS:=c.sub (M:=model prog w) X (.type "BaseException");have G:=PySem.F.attr_ValueError;have sb:xL9 (model prog w) s.heap (zd7 (.ref x) (.type "BaseException")) θ:=U.andThen (c.is X (.type "BaseException") (by simp[vtl]))
 have x1:(zf1 (qb7 C)&&qj4 "BaseException.__getattribute__"==qj4 "object.__getattribute__")=ξ:=by rw[show(qj4 "BaseException.__getattribute__"==qj4 "object.__getattribute__")=ξ from by decide +kernel,qo7]
 have x0:(b&&zf1 (qj4 "BaseException.__getattribute__"))=ξ:=by cases b<;>rfl
 unfold getAttr getAttrBy;refine wB (wpAny_mkText (qi6 (wB (U.here (s:={s with toks:=s.toks+1}) (wB (L1.here (s:={s with toks:=s.toks+1}) ?_))))));dsimp only;rw[x1];unfold getAttrByItsOwn callGetattribute boundAndCalled;rw[x0];refine wB (L2.here (s:={s with toks:=s.toks+1}) (wB (qu1 (qi6 (wB ?_)))));rw[G.ga.bind (.ref x)];refine qb1 ?_;show wpAny _ _ (call (.builtin "BaseException.__getattribute__") [.ref x,.str name s.toks]) _ _ _;refine qu5 (qt5 G.ga.plain PySem.F.entry_bexc_ga (@yA9 (model prog w) _ _ {s with toks:=s.toks+1} "BaseException.__getattribute__" "BaseException" "__getattribute__" (.ref x) [.str name s.toks] [] _ χ χ sb (PySem.F.args_bexc_ga (.ref x) (.str name s.toks)) ?_));refine wB (qb1 (wB (qb1 (wB (U.here (s:={s with toks:=s.toks+1}) (wB (L.here (s:={s with toks:=s.toks+1}) (qb1 ?_))))))));show wpAny _ _ (handedOut v) _ _ _;rw[PySem.W.handedOut_of O];exact qb1 h
end
def Fly(B h:Heap)(e C dx:J5):Prop:=B.get? e=ψ/\∃o vs,h.get? e=ς o/\o.cls=.ref C/\o.dict=ς dx/\o.data=.fields vs/\1<vs.size∧(vs[1]?=ς .none∨∃T O ts,vs[1]?=ς (.ref T)/\B.get? T=ψ/\T≠e/\h.get? T=ς O/\O.data=.fields ts/\ts[3]?=ς .none)
def FlyW(B h:Heap)(e C dx:J5):Prop:=B.get? e=ψ/\∃o vs,h.get? e=ς o/\o.cls=.ref C/\o.dict=ς dx/\o.data=.fields vs/\1<vs.size∧(vs[1]?=ς .none∨∃T O ts,vs[1]?=ς (.ref T)/\B.get? T=ψ/\T≠e/\h.get? T=ς O/\O.data=.fields ts/\∃v,ts[3]?=ς v/\(v=.none∨∃f:J5,v=ql4 f))
variable{C:J5}
theorem Fly.w{B:Heap}{e dx:J5}(y:Fly B h e C dx):FlyW B h e C dx:=by
 obtain⟨Z,o,vs,O,hc,U,hd,hz,h1|⟨T,oT,ts,h1,bT,nT,hT,dT,h3⟩⟩:=y
 .exact⟨Z,o,vs,O,hc,U,hd,hz,.inl h1⟩
 .exact⟨Z,o,vs,O,hc,U,hd,hz,.inr ⟨T,oT,ts,h1,bT,nT,hT,dT,_,h3,.inl rfl⟩⟩
structure Left(B:Heap)(l:List Env)(e C dx:J5)(h h':Heap):Prop where
 st:B.StaysIn h'
 fr:h'.FunFrames B l
 fly:Fly B h' e C dx
 up:h.UpToSlots h'
variable{o:Obj}
section
variable{M:Model}{A:qd8}{E:Value->qa4->Prop}{s:qa4}{B:Heap}{env:Env}{outer:η Env}{L e C dx:J5}{Q:Unit->qa4->Prop}
theorem t8{O:Value}{hn:Bool}(hA:A.frames=ς (env::outer))(fr:s.heap.FunFrames B (env::outer))(hL:env.frame=ς L)(st:B.StaysIn s.heap)(hB:B.get? e=ψ)
 (ho:s.heap.get? e=ς o) (hc:o.cls=.ref C) (hx:o.dict=ς dx) (hd:o.data=.fields vs) (hz:1<vs.size)
 (k:∀h',Left B (env::outer) e C dx s.heap h'->Q () {s with heap:=h'}) :
  wpAny M A (do let a <- frameOf env;let U <- entryPlaceOf L hn;let b <- qp7 O a .none (ql4 L) .none U;setField (.ref e) 1 b) (fun _ z=>wpAny M A (qq8 (.ref e) ψ) Q E z) E s:=by
 have nfr:e∉(env::outer).filterMap (·.frame):=fun hm=>by obtain⟨_,o',q,Z⟩:=fr.mem hm;rw[ho]at q;cases q;exact Z vs hd
 refine wB (wpAny_frameOf_fun hA fr hL fun h1 c1=>wB (wpAny_entryPlaceOf fun U hpl=>?_));have e1:h1.get? e=ς o:=(c1.2.1 e nfr).trans ho;have s1:B.StaysIn h1:=fun b u q=>(c1.2.1 b fun hm=>by rw[(fr.mem hm).1]at q;cases q).trans (st b u q)
 unfold qp7 newFields;refine wB (qh3 ?_ (hpl.sizeOk5 _ _ _ _ _));have e2:=gP (h:=h1) {cls:=.type "traceback",dict:=ψ,data:=.fields ([O,.ref L,.none,ql4 L,.none]++(if U.isEmpty then qb2 6 qc7 else U)).toArray} e1;refine qi7 e2 hd hz ?_;have nT:h1.objs.size≠e:=qn5 (qa6 e1);have d3:=qi0 hd (·.setIfInBounds 1 (qb7 h1.objs.size));have e3:=qg0 (qe9 (·.setIfInBounds 1 (qb7 h1.objs.size))) e2 (qi8 d3)
 have t3:=(qd4 (h1.push {cls:=.type "traceback",dict:=ψ,data:=.fields ([O,.ref L,.none,ql4 L,.none]++(if U.isEmpty then qb2 6 qc7 else U)).toArray})
  (qe9 (·.setIfInBounds 1 (qb7 h1.objs.size))) nT.symm).trans (qb6 h1 rfl)
 unfold qq8;refine qq0 (qd7 e3 d3 (x:=.ref h1.objs.size) (by simp[hz]) ?_);rw[if_pos (show(qb7 h1.objs.size != qc7)=θ from by simp)];refine qi7 t3 rfl (by simp only[qb4,qd6,qc4,qj9]<;>lia) (k _ ?_)
 have kp:∀ b u,b≠e->h1.get? b=ς u→
     (((h1.push {cls:=.type "traceback",dict:=ψ,data:=.fields ([O,.ref L,.none,ql4 L,.none]++(if U.isEmpty then qb2 6 qc7 else U)).toArray}).update e (qe9 (·.setIfInBounds 1 (qb7 h1.objs.size)))).update h1.objs.size
      (qe9 (·.setIfInBounds 3 ((ψ:ζ J5).elim qc7 fun f=>ql4 f)))).get? b=ς u:=fun b u hb q=>by
  rw[qd4 _ _ (qn5 (qa6 q)),qd4 _ _ hb.symm];exact gP _ q
 have nr:∀b u,s.heap.get? b=ς u->(∀vs,u.data≠.fields vs)->b≠e:=fun b u q Z z=>by rw[z,ho]at q;cases q;exact Z vs hd
 have up:s.heap.UpToSlots (((h1.push {cls:=.type "traceback",dict:=ψ,data:=.fields ([O,.ref L,.none,ql4 L,.none]++(if U.isEmpty then qb2 6 qc7 else U)).toArray}).update e (qe9 (·.setIfInBounds 1 (qb7 h1.objs.size)))).update h1.objs.size
       (qe9 (·.setIfInBounds 3 ((ψ:ζ J5).elim qc7 fun f=>ql4 f)))):=fun b u q Z=>by
  obtain⟨sl,z⟩:=c1.2.2 b u q;exact⟨sl,kp b _ (nr b u q Z) z⟩
 refine⟨fun b u q=>kp b u (fun z=>by rw[z,hB]at q;cases q) (s1 b u q),fr.of_keeps fun b u q Z=>?_,⟨hB,_,_,?_,(qx5 _ _).trans hc,?_,d3,by simpa using hz,.inr ⟨h1.objs.size,_,_,by simp[hz],s1.fresh,nT,qg0 _ t3 (qi8 (qi0 rfl _)),qi0 rfl _,?_⟩⟩,up⟩
 .obtain⟨sl,z⟩:=up b u q Z;exact⟨_,z,rfl⟩
 .rw[qd4 _ _ nT];exact e3
 .rw[<- hx];obtain⟨_,_,dt,_⟩:=o;cases dt<;>rfl
 .first
   |(simp;done)
   |(rcases hpl with rfl|⟨_,_,_,_,_,_,_,rfl⟩<;>simp)
theorem t9 (hA:A.frames=ς (env::outer)) (fr:s.heap.FunFrames B (env::outer)) (hL:env.frame=ς L) (st:B.StaysIn s.heap) (y:FlyW B s.heap e C dx)
  (k:∀h',Left B (env::outer) e C dx s.heap h'->Q () {s with heap:=h'}):wpAny M A (qn7 (.ref e) env) (fun _ z=>wpAny M A (qq8 (.ref e) ψ) Q E z) E s:=by
 obtain⟨hB,o,vs,Z,hc,hx,hd,hz,h1|⟨T,oT,ts,h1,bT,nT,hT,dT,v,h3,hv⟩⟩:=y
 .unfold qn7;simp only[hL];refine wB (qd7 Z hd h1 ?_);rw[if_neg Ω];exact t8 hA fr hL st hB Z hc hx hd hz k
 .unfold qn7;simp only[hL];refine wB (qd7 Z hd h1 ?_);rw[if_pos (show(qb7 T != qc7)=θ from by simp)];refine wB (qd7 hT dT h3 ?_);have U:∀b,b≠T->(s.heap.update T (qe9 (·.setIfInBounds 3 qc7))).get? b=s.heap.get? b:=fun b hb=>qd4 _ _ hb.symm
  have nr:∀b u,s.heap.get? b=ς u->(∀vs,u.data≠.fields vs)->b≠T:=fun b u q O z=>by rw[z,hT]at q;cases q;exact O ts dT
  have l3:3<ts.size:=(qi3.mp h3).1;by_cases hvL:(v==ql4 L)=θ
  .rw[if_pos hvL];refine qb1 ?_;unfold qq8;refine wB (qd7 Z hd h1 ?_);rw[if_pos (show(qb7 T != qc7)=θ from by simp)];refine qi7 hT dT l3 (k _ ?_);have d3:=qi0 dT (·.setIfInBounds 3 qc7);have e3:=qg0 (qe9 (·.setIfInBounds 3 qc7)) hT (qi8 d3);refine⟨fun b u q=>(U b fun z=>by rw[z,bT]at q;cases q).trans (st b u q),fr.of_keeps fun b u q O=>⟨u,(U b (nr b u q O)).trans q,rfl⟩,⟨hB,o,vs,(U e nT.symm).trans Z,hc,hx,hd,hz,.inr ⟨T,_,_,h1,bT,nT,e3,d3,by simp[l3]⟩⟩,fun b u q O=>⟨u.slots,(U b (nr b u q O)).trans q⟩⟩
  .rw[if_neg hvL];refine wB (qi7 hT dT l3 ?_);refine t8 (s:={s with heap:=s.heap.update T (qe9 (·.setIfInBounds 3 qc7))}) hA (fr.of_keeps fun b u q O=>⟨u,(U b (nr b u q O)).trans q,rfl⟩) hL (fun b u q=>(U b fun z=>by rw[z,bT]at q;cases q).trans (st b u q)) hB ((U e nT.symm).trans Z) hc hx hd hz fun h' z=>k h' ⟨z.st,z.fr,z.fly,fun b u q O=>z.up b u ((U b (nr b u q O)).trans q) O⟩
theorem Dc(O:A.frames=ς (env::outer))(fr:s.heap.FunFrames B (env::outer))(U:env.frame=ς L)(st:B.StaysIn s.heap)(y:Fly B s.heap e C dx)(k:∀h',Left B (env::outer) e C dx s.heap h'->Q () {s with heap:=h'}):wpAny M A (qn7 (.ref e) env) (fun _ z=>wpAny M A (qq8 (.ref e) ψ) Q E z) E s:=t9 O fr U st y.w k
theorem w9 (O:A.frames=ς (env::outer)) (fr:s.heap.FunFrames B (env::outer)) (U:env.frame=ς L) (st:B.StaysIn s.heap) (y:FlyW B s.heap e C dx)
  (k:∀h',Left B (env::outer) e C dx s.heap h'->Q () {s with heap:=h'}):wpAny M A (leaving env (.ref e)) Q E s:=by
 unfold leaving;exact wB (t9 O fr U st y k)
end
def xoP(x C:J5)(od:ζ J5)(h:Heap):Prop:=∃o vs,h.get? x=ς o/\o.cls=.ref C/\o.dict=od/\o.data=.fields vs/\1<vs.size/\vs[1]?=ς .none
def xcP(x C dx:J5)(h:Heap):Prop:=∃o vs,h.get? x=ς o/\o.cls=.ref C/\o.dict=ς dx/\o.data=.fields vs
def xdP(dx:J5)(fs:η (Str×V))(h:Heap):Prop:=∃mA,h.Ns1 dx mA/\(∀f,RelO (fs.lookup f) (mA f))/\PySem.Within mA (fs.map (·.1))
abbrev XO(x C:J5)(od:ζ J5):HO:=.ext (xoP x C od)
abbrev XC(x C dx:J5):HO:=.ext (xcP x C dx)
abbrev XD(dx:J5)(fs:η (Str×V)):HO:=.ext (xdP dx fs)
section
variable{P:qc0}{w:J6}{H:Hp}{h:Heap}{x C dx:J5}{od:ζ J5}{fs:η (Str×V)}
theorem BT(y:xoP x C od h):ObjOk P w H h x (XO x C od):=⟨y,let ⟨o,_,e,_⟩:=y;⟨o,e⟩,fun h1 h2 ⟨o,vs,e,r⟩ k=>⟨o,vs,k _ e,r⟩⟩
theorem ua(y:xcP x C dx h):ObjOk P w H h x (XC x C dx):=⟨y,let ⟨o,_,e,_⟩:=y;⟨o,e⟩,fun h1 h2 ⟨o,vs,e,r⟩ k=>⟨o,vs,k _ e,r⟩⟩
theorem BU(y:xdP dx fs h):ObjOk P w H h dx (XD dx fs):=⟨y,let ⟨_,⟨o,_,_,e,_⟩,_⟩:=y;⟨o,e⟩,fun h1 h2 ⟨mA,⟨o,es,ep,e,c⟩,r⟩ k=>⟨mA,⟨o,es,ep,k _ e,c⟩,r⟩⟩
theorem HOk.xo(k:HOk P w H h)(e:H x=ς (XO x C od)):xoP x C od h:=(k x _ e).1
theorem HOk.xc(k:HOk P w H h)(e:H x=ς (XC x C dx)):xcP x C dx h:=(k x _ e).1
theorem HOk.xd(k:HOk P w H h)(e:H dx=ς (XD dx fs)):xdP dx fs h:=(k dx _ e).1
theorem Fly.xc{B:Heap}(y:Fly B h x C dx):xcP x C dx h:=let ⟨_,o,vs,e,h1,h2,h3,_⟩:=y;⟨o,vs,e,h1,h2,h3⟩
end
variable{P:qc0}
theorem ObjOk.has{w:J6}{o:HO}(x:ObjOk P w H h a o):∃u,h.get? a=ς u:=by
 induction o with
 |e xs=>obtain⟨_,_,_,_,e⟩:=x;exact⟨_,e⟩
 |t xs=>obtain⟨_,_,_,o,e,_⟩:=x;exact⟨_,e⟩
 |dK J3=>obtain⟨_,_,_,_,o,_,_,e,_⟩:=x;exact⟨_,e⟩
 |dT J3=>obtain⟨_,_,_,_,o,_,_,e,_⟩:=x;exact⟨_,e⟩
 |set S n=>obtain⟨o,_,_,_,e,_⟩:=x;exact⟨_,e⟩
 |ins C dx fs=>obtain⟨_,_,_,e,_⟩:=x;exact⟨_,e⟩
 |own y=>exact x
 |xd fs=>obtain⟨_,⟨o,_,_,e,_⟩,_⟩:=x;exact⟨_,e⟩
 |rng lo hi=>obtain⟨_,_,_,e⟩:=x;exact⟨_,e⟩
 |frz o u O=>exact⟨_,x.1⟩
 |tbl ps=>exact⟨_,x⟩
 |code q=>obtain⟨c,o,_,_,e,g,_⟩:=x;cases e;exact⟨_,g⟩
 |ctab qs=>obtain⟨ps,g,_⟩:=x;exact⟨_,g⟩
 |met f y=>exact⟨_,x⟩
 |ext φ=>exact x.2.1
def Cov(B:Heap)(fs:η J5)(x:J5)(O:Heap)(H:Hp)(h:Heap):Prop:=∀b o,h.get? b=ς o->b≠x->(H b≠ψ∨∃u,O.get? b=ς u)->b∉fs->B.get? b=ς o
def CXX(P:qc0)(w:J6):CXT:=fun outer H s E e s'=>∃x C dx H' B,e=.ref x/\s'.os=s.os/\qy2 s'.gens/\Un (frs outer) [] H H' s.heap s'.heap/\HOk P w H' s'.heap/\s.heap.objs.size<=x∧H' x=ς (XC x C dx)/\Fly B s'.heap x C dx/\B.StaysIn s'.heap/\s'.heap.FunFrames B outer/\Cov B (frs outer) x s.heap H' s'.heap/\E (.ref x) (ς dx) H'
section
variable{P:qc0}{w:J6}{K:xA9}{mg:Str->ζ Value}{base:Heap}{N:η Str}{qual:Str}{scope:Ja}{f:J5}{cd:Value}{A:qd8}{outer:η Env}{s s1:qa4}{H H1:Hp}{E:XK}
 {J1:η (J5×Obj)} {σ:St} {x C dx:J5} {B:Heap}
theorem xa (I:Inv (dq (CXX P w) P w K mg base N qual scope f cd A outer s H E) J1 σ H1 s1) (hx:H1 x=ς (XC x C dx)) (sz:s.heap.objs.size<=x) (y:FlyW B s1.heap x C dx) (st:B.StaysIn s1.heap)
  (fr:s1.heap.FunFrames B (qn3 qual scope s.heap.objs.size f cd::outer)) (cov:Cov B (frs (qn3 qual scope s.heap.objs.size f cd::outer)) x s.heap H1 s1.heap) (q:E (.ref x) (ς dx) H1) :
  (dq (CXX P w) P w K mg base N qual scope f cd A outer s H E).xe (.ref x) s1:=by
 have fre:=I.stkFree;have O:Un (frs outer) [] H H1 s.heap s1.heap:=I.base;have hL:(qn3 qual scope s.heap.objs.size f cd).frame=ς s.heap.objs.size:=rfl
 have nst:∀b u,s.heap.get? b=ς u->b∉frs outer->b∉frs (qn3 qual scope s.heap.objs.size f cd::outer):=fun b u e U z=>by
  rcases qa9.mp (show b∈s.heap.objs.size::frs outer from z)with z|z
  .exact absurd z (qc8 (qa6 e))
  .exact U z
 show wpAny _ _ (leaving _ _) _ _ _;refine w9 (outer:=outer) I.ok.frames fr hL st y fun h' l=>?_
 have kB:∀b u,s1.heap.get? b=ς u->b≠x->(H1 b≠ψ∨∃u,s.heap.get? b=ς u)->b∉frs (qn3 qual scope s.heap.objs.size f cd::outer)->h'.get? b=ς u:=fun b u e nx z nf=>l.st b u (cov b u e nx z nf)
 have lt:∀b u,s.heap.get? b=ς u->b≠x:=fun b u e z=>absurd (qa6 e) (by rw[z];exact qx6.mpr sz)
 have slo:∀b u,s1.heap.get? b=ς u->b∈frs outer->∃sl,h'.get? b=ς {u with slots:=sl}:=fun b u e z=>by obtain⟨_,o',q,nf⟩:=fr.mem (qa3 _ z:b∈s.heap.objs.size::frs outer);rw[e]at q;cases q;exact l.up b u e nf
 refine⟨x,C,dx,H1,B,rfl,I.os,I.bare,⟨fun b u e n U _=>?_,fun b u e n U hz=>?_,fun b u e n z=>O.free b u e n z,fun b u e z=>?_,O.tups,O.frzs,O.tbls,O.cts⟩,fun a o e=>?_,sz,hx,l.fly,l.st,l.fr.2.2,fun b o e nx z U=>?_,q⟩
 .exact kB b u (O.keep b u e n U Ξ) (lt b u e) (.inr ⟨u,e⟩) (nst b u e U)
 .obtain⟨sl,e1⟩:=O.slot b u e n U hz;obtain⟨sl',e2⟩:=slo b _ e1 U;exact⟨sl',e2⟩
 .obtain⟨o',e1⟩:=O.there b u e z;by_cases U:b∈frs outer
  .obtain⟨sl,e2⟩:=slo b _ e1 U;exact⟨_,e2⟩
  .exact⟨o',kB b o' e1 (lt b u e) (.inr ⟨u,e⟩) (nst b u e U)⟩
 .by_cases hax:a=x
  .subst hax;rw[hx]at e;cases e;exact ua l.fly.xc
  .refine(I.hok a o e).stay (fun b u z g=>?_) (fun _ z=>z) (fun _ _ z=>z) fun _ _ _ z=>z
   have tr:H1 b≠ψ:=by
    rcases z with rfl|z
    .rw[e];exact fun z=>nomatch z
    .rw[z];exact fun z=>nomatch z
   refine kB b u g (fun Z=>?_) (.inl tr) fun Z=>tr (fre b Z)
   subst Z;rcases z with rfl|z
   .exact hax rfl
   .rw[hx]at z;cases z
 .have ex:∃o',s1.heap.get? b=ς o':=by
   rcases z with z|⟨u,z⟩
   .cases e2:H1 b with
    |none=>exact absurd e2 z
    |some oo=>exact(I.hok b oo e2).has
   .exact O.there b u z Ξ
  obtain⟨o',e1⟩:=ex
  have nf:b∉frs (qn3 qual scope s.heap.objs.size f cd::outer):=fun Z=>by
   rcases qa9.mp (show b∈s.heap.objs.size::frs outer from Z)with z3|z3
   .rcases z with z|⟨u,z⟩
    .exact z (fre b Z)
    .exact absurd z3 (qc8 (qa6 z))
   .exact U z3
  have e2:=cov b o' e1 nx z nf;rw[l.st b o' e2]at e;cases e;exact e2
theorem BV (I:Inv (dq (CXX P w) P w K mg base N qual scope f cd A outer s H E) J1 σ H1 s1) (U:H1 x=ς (XC x C dx)) (sz:s.heap.objs.size<=x) (y:Fly B s1.heap x C dx) (st:B.StaysIn s1.heap)
  (fr:s1.heap.FunFrames B (qn3 qual scope s.heap.objs.size f cd::outer)) (O:Cov B (frs (qn3 qual scope s.heap.objs.size f cd::outer)) x s.heap H1 s1.heap) (q:E (.ref x) (ς dx) H1) :
  (dq (CXX P w) P w K mg base N qual scope f cd A outer s H E).xe (.ref x) s1:=xa I U sz y.w st fr O q
theorem Df:oz (CXX P w) (dq (CXX P w) P w K mg base N qual scope f cd A outer s H E) E:=fun J1 σ H1 s1 e s' I z=>by obtain⟨x,C,dx,H',B,rfl,os,O,un,U,sz,hx,fly,st,fr,Z,q⟩:=z;have I':=I.call' (ch:=[]) os un U O (fun b z=>absurd z Ξ);exact BV I' hx (qc5 I.sz sz) fly st fr (fun b o e nx z nb=>Z b o e nx (z.imp id fun⟨u,e⟩=>I.base.there b u e qb8) nb) q
end
def sX0(K:xA9)(ta tv:TE)(f:Str):TS:=fun D σ H=>tv σ H fun y H1=>ta σ H1 fun v H2=>∃x C Dd O,v=.ref x/\H2 x=ς (XO x C ψ)/\XCl K C Dd O/\dZ K C f∧∀dx,H2 dx=ψ->dx≠x->D.nx σ (upd (upd H2 dx (XD dx [(f,y)])) x (XO x C (ς dx)))
def sX1(K:xA9)(ta tv:TE)(f:Str):TS:=fun D σ H=>tv σ H fun y H1=>ta σ H1 fun v H2=>∃x C Dd O dx fs,v=.ref x/\H2 x=ς (XO x C (ς dx))/\H2 dx=ς (XD dx fs)/\dx≠x/\fs.length<900/\XCl K C Dd O/\dZ K C f∧D.nx σ (upd H2 dx (XD dx (j4 f y fs)))
section
variable{X:Cx}{o value:J9}{ta tv:TE}{f:Str}{pos pos':Pos}
theorem qi(ha:PE X o ta)(hv:PE X value tv)(hs:qf7 value (ς (.Attribute o f pos')) pos.line X.env=pure ξ:=by rfl):PS X (.Assign [.Attribute o f pos'] value pos) (sX0 X.K ta tv f):=by
 intro J1 s σ H D I h;refine qs0 (thn (hv J1 s σ H _ I h) fun u s1 ⟨y,H1,I1,ry,q⟩=>thn (ha J1 s1 σ H1 _ I1 q) fun ov s2 ⟨v,H2,Z,rx,x,C,Dd,fI,ev,ex,c,n,k⟩=>?_) hs;subst ev;obtain rfl:ov=qb7 x:=rx;obtain⟨ob,vs,e1,e2,e3,e4,e5,e6⟩:=Z.hok.xo ex;have fresh:=Z.hok.fresh (nL s2.heap.objs.size);have ne:s2.heap.objs.size≠x:=qn5 (qa6 e1);refine C9 Z.kIn c e1 e2 e3 e4 n fun h' g1 g2 g3=>⟨σ,_,Z.un (h':=h') (t':=s2.toks+2) ⟨fun b u e O _ _=>g3 b u (fun z=>?_) e,fun b u e O _ _=>⟨u.slots,g3 b u (fun z=>?_) e⟩,fun b u e O _=>?_,fun b u e _=>?_,fun b xs e=>?_,fun b ob u e=>?_,fun b ps e=>⟨#[],?_⟩,fun b qs e=>?_⟩ ?_,k _ fresh ne⟩
 .subst z;rw[ex]at O;cases O
 .subst z;rw[ex]at O;cases O
 .rw[ax (fun z=>by subst z;rw[ex]at O;cases O),ax (qc8 (qa6 e))];exact O
 .by_cases z:b=x
  .subst z;exact⟨_,g1⟩
  .exact⟨u,g3 b u z e⟩
 .rw[ax (kL e ex (fun z=>nomatch z)),ax (aP e fresh)];exact e
 .rw[ax (kL e ex (fun z=>nomatch z)),ax (aP e fresh)];exact e
 .rw[ax (kL e ex (fun z=>nomatch z)),ax (aP e fresh),e];simp
 .rw[ax (kL e ex (fun z=>nomatch z)),ax (aP e fresh)];exact e
 .intro b u e;by_cases z:b=x
  .subst z;rw[aC]at e;cases e;exact BT ⟨_,vs,g1,e2,rfl,e4,e5,e6⟩
  .rw[ax z]at e;by_cases z2:b=s2.heap.objs.size
   .subst z2;rw[aC]at e;cases e;refine BU ⟨_,g2,fun g=>?_,PySem.Within.cons f u PySem.Within.nil⟩;by_cases q:g=f
    .subst q;simp only[qf9,beq_self_eq_true,if_true];exact ry
    .simp only[qf9,beq_eq_false_iff_ne.mpr q,if_neg q];trivial
   .rw[ax z2]at e;refine(Z.hok b u e).stay (fun c u2 U g=>g3 c u2 (fun z3=>?_) g) (fun c g=>?_) (fun c xs g=>?_) (fun c oc qc g=>?_)
    .subst z3;rcases U with U|U
     .exact z U.symm
     .rw[ex]at U;cases U
    .rw[ax (kL g ex (fun z=>nomatch z)),ax (aP g fresh)];exact g
    .rw[ax (kL g ex (fun z=>nomatch z)),ax (aP g fresh)];exact g
    .rw[ax (kL g ex (fun z=>nomatch z)),ax (aP g fresh)];exact g
theorem Fi(ha:PE X o ta)(hv:PE X value tv)(hs:qf7 value (ς (.Attribute o f pos')) pos.line X.env=pure ξ:=by rfl):PS X (.Assign [.Attribute o f pos'] value pos) (sX1 X.K ta tv f):=by
 intro J1 s σ H D I h;refine qs0 (thn (hv J1 s σ H _ I h) fun u s1 ⟨y,H1,I1,ry,q⟩=>thn (ha J1 s1 σ H1 _ I1 q) fun Z s2 ⟨v,H2,O,rx,x,C,Dd,fI,dx,fs,ev,ex,U,ne,hl,c,n,k⟩=>?_) hs;subst ev;obtain rfl:Z=qb7 x:=rx;obtain⟨ob,vs,e1,e2,e3,e4,e5,e6⟩:=O.hok.xo ex;obtain⟨mA,n1,r,wi⟩:=O.hok.xd U;refine Db O.kIn c e1 e2 e3 e4 n n1 ne wi (by rw[qa5];lia) fun h' g1 g2 g3=>⟨σ,_,O.write (x:=dx) (e:=dx) (by rw[U];exact qk5) (.inl rfl) (fun b u hb e=>g3 b u hb e) (let ⟨o,_,_,e,_⟩:=g2;⟨o,e⟩) ?_,k⟩
 refine BU ⟨_,g2,fun g=>?_,fun g hg=>?_⟩
 .rw[kM];by_cases q:g=f
  .rw[if_pos q,if_pos q];exact ry
  .rw[if_neg q,if_neg q];exact r g
 .by_cases q:g=f
  .rw[q];exact(j5 f y fs).1
  .refine(j5 f y fs).2 g (wi g fun z=>hg ?_);show(if g=f then ς u else mA g)=ψ;rw[if_neg q];exact z
end
def spI(K:xA9)(O:J5)(ns:η Str):Sp:=fun vs H Q _=>∃x C Dd us,vs=.ref x::us/\us.length=ns.length/\XCl K C Dd O/\(∀f∈ns,dZ K C f)/\H x=ς (XO x C ψ)∧∀dx,H dx=ψ->dx≠x->Q .non (upd (upd H dx (XD dx (ns.zip us))) x (XO x C (ς dx)))
variable{J1:η (J5×Obj)}{σ:St}{s:qa4}
section
variable{X:Cx}{k:Nat}{f C Dd:J5}{fd:qk2}{ps ns:η Str}{x:Str}{p pos:Pos}{e:J9}{es:η J9}{t:TA}
theorem Ak{Q:VK}{us:η Value}{vs:η V}(c:XCl X.K C Dd f)(hn:∀g∈ns,dZ X.K C g)(F:FnOk X.prog X.w X.K X.mg X.base CX0 k f fd ps (spI X.K f ns))(hr:Room (k+1) X.A)(hb:Binds X.K fd ps [])
 (I:Inv X J1 σ H s) (r:Vals vs us) (hl:vs.length=ns.length) (hz:ns.length<=qa7) (h:∀x dx,s.heap.objs.size<=x->H x=ψ->H dx=ψ->dx≠x->Q (.ref x) (upd (upd H dx (XD dx (ns.zip vs))) x (XO x C (ς dx)))) :
  wpAny (model X.prog X.w) X.A (call (.ref C) us) (EP X J1 σ Q) X.xe s:=by
 obtain⟨hh,g,d,t,os⟩:=s;refine C8 I.kIn c (fun h' e sz hm=>?_) (by rw[<- r.length,hl];exact hz);obtain⟨tt,he,_,_⟩:=hm.there;have Z:Inv X J1 σ (upd H e (XO e C ψ)) ⟨h',g,d,t,os⟩:=I.laid (t':=t) hm.keeps sz (BT ⟨_,_,he,rfl,rfl,rfl,Ξ,rfl⟩)
 have hq:spI X.K f ns (V.ref e::vs) (upd H e (XO e C ψ)) (fun v H2=>v=.non/\Q (.ref e) H2) E0:=by
  refine⟨e,C,Dd,vs,rfl,hl,c,hn,aC,fun dx hd ne=>⟨rfl,?_⟩⟩;rw[ax ne]at hd;have:=h e dx sz (I.hok.fresh sz) hd ne
  have ee:upd (upd (upd H e (XO e C ψ)) dx (XD dx (ns.zip vs))) e (XO e C (ς dx))=upd (upd H dx (XD dx (ns.zip vs))) e (XO e C (ς dx)):=by funext b;unfold upd;split<;>rfl
  rw[ee];exact this
 have r2:Vals (V.ref e::vs) (qb7 e::us):=.cons rfl r
 have hl2:(qb7 e::us++[]).length=ps.length:=by have e1:=r2.length;rw[F.len _ _ _ _ hq]at e1;rw[qd2];exact e1.symm
 have U:=hb ⟨h',g,d,t,os⟩ (qb7 e::us) Z.kIn hl2;rw[qd2]at U;refine qu5 (qv8 (F.run _ X.stack _ _ ⟨qb7 e::us,[]⟩ (qb7 e::us) _ _ E0 (hr.make C us []) (Z.env0.make C us []) U r2 hq) fun r s' O=>?_);cases r with
 |error e=>exact qf3 O
 |ok fl=>
  cases fl with
  |ret u=>obtain⟨v,H',I3,rv,ev,q3⟩:=Z.after O;subst ev;exact⟨rv,⟨V.ref e,H',I3,rfl,q3⟩⟩
  |next=>exact qf3 O
  |brk=>exact qf3 O
  |cont=>exact qf3 O
end
variable{pos:Pos}{e:J9}{Ex E:Value->qa4->Prop}{i:Nat}{s1:qa4}
section
variable{X:Cx}{J1:η (J5×Obj)}{σ:St}{H:Hp}{s:qa4}
theorem m5{k:Nat}{p:Pos}{es:η J9}{t:TA}{E:XK}{Q:VK}(F:FnOk X.prog X.w X.K X.mg X.base (CXX X.prog X.w) k f fd ps sp)(hr:Room k X.A)(hg:Gl X x)(hm:X.mg x=ς (.ref f))
 (hk:xE9 X.K (.ref f)=θ) (hb:Binds X.K fd ps []) (ha:PA X.nox (e::es) t) (I:Inv X J1 σ H s) (h:t σ H fun vs H1=>sp vs H1 Q E)
 (hx:∀H1 s1 e s',Inv X J1 σ H1 s1->CXX X.prog X.w X.stack H1 s1 E e s'->Ex e s') (hdb:(x==("__debug__":Str))=ξ:=by decide)
 (he:qa2 (e::es) X.env=(ξ,eval e X.env)::qa2 es X.env:=by rfl) (hpl:(qf2 pos (qa2 es X.env)).any (·.1)=ξ:=by rfl) :
  wpAny (model X.prog X.w) X.A (eval (.Call (.Name x p) (e::es) [] pos) X.env) (EP X J1 σ Q) Ex s:=by
 refine qn2 (jp I hg hm ?_ hdb);refine xX9 (h₀:=X.base) I.ok.mod.kin hk (qf1 (ha pos J1 s σ H _ (I.wish _) h) (fun us s1 ⟨vs,H1,O,r,q⟩=>⟨O.kIn,?_⟩) fun _ _ z=>z.elim) he hpl;have O:=O.unwish;have hl:us.length=ps.length:=by rw[<- r.length];exact F.len _ _ _ _ q
 have U:=hb s1 us O.kIn (by rw[qd2];exact hl);rw[qd2]at U;refine qu5 (qv8 (F.run X.A X.stack s1 H1 ⟨us,[]⟩ us vs Q E hr O.env0 U r q) fun r s' Z=>?_);cases r with
 |error e=>exact hx H1 s1 e s' O Z
 |ok fl=>
  cases fl with
  |ret u=>exact O.after Z
  |next=>exact qf3 Z
  |brk=>exact qf3 Z
  |cont=>exact qf3 Z
abbrev Cx.mark(X:Cx)(e:Value)(E:Value->qa4->Prop):Cx:={X with A:=X.A.mark (ς e),calm:=false,xe:=E}
theorem Inv.mark(I:Inv X J1 σ H s)(e:Value)(E:Value->qa4->Prop):Inv (X.mark e E) J1 σ H s:=⟨⟨I.ok.mod,I.ok.kind,I.ok.glob,I.ok.blt,I.ok.above,I.ok.inj,I.ok.has,I.ok.cab,(fun z=>nomatch z),I.ok.frames,I.ok.stk,I.ok.exf,I.ok.bs,I.ok.bsz,I.ok.noex,I.ok.exfs,I.ok.funs,I.ok.frf,I.ok.tb⟩,I.os,I.bare,I.base,I.loc,I.cell,I.free,I.freeC,I.pin,I.hok,I.len⟩
theorem Inv.unmark{e:Value}(ok:X.Ok)(I:Inv (X.mark e E) J1 σ H s):Inv X J1 σ H s:=⟨ok,I.os,I.bare,I.base,I.loc,I.cell,I.free,I.freeC,I.pin,I.hok,I.len⟩
theorem Al{n:Str}(I:Inv X J1 σ H s)(hN:X.N.Nodup)(hi:X.N[i]?=ς n)(O:X.env.scope.names.lookup n=ς .local)
 (h:∀s',Inv X J1 (σ.set i ψ) H s'->Q () s'):wpAny M A (do bindName X.env n .none;unbindBehindTheSuite X.env n pos) Q E s:=by
 obtain⟨m,hn,hl⟩:=id I.loc;have Z:(X.env.scope.kind==.class||(X.env.scope.kind==.module&&X.env.locals != X.env.globals))=ξ:=by rw[I.ok.kind];rfl
 have cne:=I.cne;refine wpAny_nameGoes_keeps O hn Z fun h' v hn' U=>?_
 obtain⟨oL,_,_,hoL,_⟩:=id hn;have nl:∀b o,X.s₀.heap.get? b=ς o->b≠X.env.locals:=fun b o e=>qc8 (qc3 (qa6 e) I.ok.above)
 refine h _ ⟨I.ok,I.os,I.bare,⟨fun b o e n hb O=>?_,fun b o e n hb O=>?_,I.base.free,fun b o e O=>?_,I.base.tups,I.base.frzs,I.base.tbls,I.base.cts⟩,⟨_,hn',fun j y v' e1 e2 e3=>?_⟩,fun y c e=>?_,I.free,I.freeC,fun p hp=>?_,fun b ob e=>?_,by simpa using I.len⟩
 .exact(U.2 b (nl b o e)).trans (I.base.keep b o e n hb O)
 .obtain⟨sl,e1⟩:=I.base.slot b o e n hb O;exact⟨sl,(U.2 b (nl b o e)).trans e1⟩
 .obtain⟨o',e1⟩:=I.base.there b o e O;exact⟨o',(U.2 b (nl b o e)).trans e1⟩
 .by_cases hj:j=i
  .subst hj;have:j<σ.length:=by rw[I.len];exact(gX hi).1
   rw[qm9 this]at e2;cases e2
  .rw[gN (qe7 hj)]at e2;obtain⟨u',r',q⟩:=hl j y v' e1 e2 e3;refine⟨u',r',?_⟩;rcases q with ⟨k,e⟩|⟨k,c,e,z⟩
   .refine .inl ⟨k,?_⟩;have:y≠n:=fun e=>hj (lD hN e1 (e▸hi))
    simp[this,e]
   .exact .inr ⟨k,c,e,z.sameBut U (cne y c e)⟩
 .obtain⟨w',z⟩:=I.cell y c e;exact⟨w',z.sameBut U (cne y c e)⟩
 .obtain⟨e,n,ne,nf,d⟩:=I.pin p hp;exact⟨(U.2 p.1 ne).trans e,n,ne,nf,d⟩
 .refine(I.hok b ob e).stay (fun c w' hc q=>(U.2 c ?_).trans q) (fun _ q=>q) (fun _ _ q=>q) fun _ _ _ q=>q
  rintro rfl;rcases hc with rfl|hc
  .rw[I.free]at e;cases e
  .rw[I.free]at hc;cases hc
theorem vC{s':qa4}{E:XK}{e:Value}(O:X.stack=X.env::X.outer)(hfr:X.env.frame=ς X.env.locals)(I:Inv X J1 σ H1 s1)(z:CXX X.prog X.w X.stack H1 s1 E e s')
 (k:∀x C dx H' h',e=.ref x->Inv X J1 σ H' {s' with heap:=h'}->H' x=ς (XC x C dx)->E (.ref x) (ς dx) H'->(∃B,Left B X.stack x C dx s'.heap h')->Q () {s' with heap:=h'}) :
  wpAny (model X.prog X.w) X.A (qn7 e X.env) (fun _ z=>wpAny (model X.prog X.w) X.A (qq8 e ψ) Q Ex z) Ex s':=by
 obtain⟨x,C,dx,H',B,rfl,os,Z,un,hok,sz,hx,fly,st,fr,cov,q⟩:=z;have I':=I.call' (ch:=[]) os un hok Z (fun b z=>absurd z Ξ);rw[O]at fr cov;refine Dc (outer:=X.outer) (by rw[I.ok.frames,O]) fr hfr st fly fun h' l=>k x C dx H' h' rfl ?_ hx q ⟨B,by rw[O];exact l⟩
 have fre:=I'.stkFree;rw[O]at fre;have kB:∀b u,s'.heap.get? b=ς u->b≠x->(H' b≠ψ∨∃u,s1.heap.get? b=ς u)->b∉frs (X.env::X.outer)->h'.get? b=ς u:=fun b u e nx z nf=>l.st b u (cov b u e nx z nf)
 refine I.call' (ch:=[]) (s':={s' with heap:=h'}) os ⟨fun b u e n U _=>?_,fun b u e n U hz=>?_,fun b u e n z=>un.free b u e n z,fun b u e z=>?_,un.tups,un.frzs,un.tbls,un.cts⟩ (fun a o e=>?_) Z (fun b z=>absurd z Ξ)
 .rw[O]at U;exact kB b u (un.keep b u e n (by rw[O];exact U) Ξ) (fun z=>absurd (qa6 e) (by rw[z];exact qx6.mpr sz)) (.inr ⟨u,e⟩) U
 .obtain⟨sl,e1⟩:=un.slot b u e n U hz;rw[O]at U;obtain⟨_,o',q2,nf⟩:=fr.mem U;rw[e1]at q2;cases q2;obtain⟨sl',e2⟩:=l.up b _ e1 nf;exact⟨sl',e2⟩
 .obtain⟨o',e1⟩:=un.there b u e z;by_cases U:b∈frs (X.env::X.outer)
  .obtain⟨_,o2,q2,nf⟩:=fr.mem U;rw[e1]at q2;cases q2;obtain⟨sl',e2⟩:=l.up b _ e1 nf;exact⟨_,e2⟩
  .exact⟨o',kB b o' e1 (fun z=>absurd (qa6 e) (by rw[z];exact qx6.mpr sz)) (.inr ⟨u,e⟩) U⟩
 .by_cases hax:a=x
  .subst hax;rw[hx]at e;cases e;exact ua l.fly.xc
  .refine(hok a o e).stay (fun b u z g=>?_) (fun _ z=>z) (fun _ _ z=>z) fun _ _ _ z=>z
   have tr:H' b≠ψ:=by
    rcases z with rfl|z
    .rw[e];exact fun z=>nomatch z
    .rw[z];exact fun z=>nomatch z
   refine kB b u g (fun z2=>?_) (.inl tr) fun z2=>tr (fre b z2)
   subst z2;rcases z with rfl|z
   .exact hax rfl
   .rw[hx]at z;cases z
end
theorem Am{B:Heap}{x dx:J5}(y:Fly B s.heap x C dx)(q:Q () s):wpAny M A (qq8 (.ref x) ψ) Q E s:=by
 obtain⟨hB,o,vs,O,hc,hx,hd,hz,h1|⟨T,Z,ts,h1,bT,nT,U,dT,h3⟩⟩:=y
 .unfold qq8;refine wB (qd7 O hd h1 ?_);rw[if_neg Ω];exact qb1 q
 .unfold qq8;refine wB (qd7 O hd h1 ?_);rw[if_pos (show(qb7 T != qc7)=θ from by simp)];refine qi7 U dT (qi3.mp h3).1 ?_;show Q () {s with heap:=s.heap.update T (qe9 (·.setIfInBounds 3 qc7))};rw[Heap.update_setField_same s.heap T Z ts 3 qc7 U dT h3];exact q
structure XTop(K:xA9)(D:J5):Prop where
 sub:(PySem.W.subIn K (.ref D) (.type "BaseException")==ς θ)=θ
 cls:((xN9 K D).isSome&&xP9 K (.ref D)==ς (.type "type"))=θ
variable{D:J5}
theorem XCl.exm(c:XCl K C D f)(t:XTop K D):PySem.W.exmOne K (.ref C) (.ref D)=ς θ:=by unfold PySem.W.exmOne PySem.W.kitCls;rw[if_pos t.sub];dsimp only;rw[if_pos t.cls];obtain⟨cd,h1,h2,_⟩:=c.cls;show xJ9 K C (.ref D)=ς θ;unfold xJ9;rw[h1,qa1,h2];simp
section
variable{X:Cx}{k:Nat}{f D:J5}{fd:qk2}{ps:η Str}{sp:Sp}{x r n c dn:Str}{p pr pos pc pn pd pa pas ph pcl:Pos}{e:J9}{es:η J9}{t:TA}{ir jn ic:Nat}
def tTry(K:xA9)(D:J5)(sp:Sp)(t:TA)(ir jn ic:Nat):TS:=fun Dd σ H=>t σ H fun vs H1=>sp vs H1 (fun v H2=>Dd.nx (σ.set ir (ς v)) H2)
 fun u _ H2=>∃x C dx f,u=.ref x/\H2 x=ς (XC x C dx)/\XCl K C D f/\Dd.nx ((σ.set jn ψ).set ic (ς (.ref x))) H2
theorem Dg (F:FnOk X.prog X.w X.K X.mg X.base (CXX X.prog X.w) k f fd ps sp) (hr:Room k X.A) (hg:Gl X x) (hm:X.mg x=ς (.ref f)) (hk:xE9 X.K (.ref f)=θ) (hb:Binds X.K fd ps []) (ha:PA X.nox (e::es) t)
  (T:XTop X.K D) (hgD:Gl X dn) (hmD:X.mg dn=ς (.ref D)) (hst:X.stack=X.env::X.outer) (hfr:X.env.frame=ς X.env.locals) (hN:X.N.Nodup)
  (hir:X.N[ir]?=ς r) (lr:Loc X.env.scope r) (fr:X.fn r=θ∨X.env.scope.names.lookup r=ς .local) (U:X.N[jn]?=ς n) (ln:X.env.scope.names.lookup n=ς .local)
  (hic:X.N[ic]?=ς c) (lc:Loc X.env.scope c) (fc:X.fn c=θ∨X.env.scope.names.lookup c=ς .local) (hij:jn≠ic) (hv:∀u E,PE (X.mark u E) (.Name n pn) (gF jn))
  (hs:qf7 (.Call (.Name x p) (e::es) [] pcl) (ς (.Name r pr)) pa.line X.env=pure ξ:=by rfl) (hs2:qf7 (.Name n pn) (ς (.Name c pc)) pas.line X.env=pure ξ:=by rfl)
  (hdb:(x==("__debug__":Str))=ξ:=by decide) (hdb2:(dn==("__debug__":Str))=ξ:=by decide)
  (he:qa2 (e::es) X.env=(ξ,eval e X.env)::qa2 es X.env:=by rfl) (hpl:(qf2 pcl (qa2 es X.env)).any (·.1)=ξ:=by rfl) :
  PS X (.Try [.Assign [.Name r pr] (.Call (.Name x p) (e::es) [] pcl) pa] [.ExceptHandler (ς (.Name dn pd)) (ς n) [.Assign [.Name c pc] (.Name n pn) pas] ph] [] [] pos) (tTry X.K D sp t ir jn ic):=by
 intro J1 s σ H Dd I h;refine wpAny_Try_except (qs5 ?_);refine qw9 (thn (m5 (J1:=J1) (σ:=σ) F hr hg hm hk hb ha I h (fun H1 s1 e s' I1 z=>?_) hdb he hpl) fun v s1 ⟨y,H1,I1,r1,q1⟩=>?_) hs
 .refine vC hst hfr I1 z fun x C dx H' h' ee O hx hE ⟨B,l⟩=>?_
  subst ee;obtain⟨x1,C',dx1,f',ex,hx2,cl,q⟩:=hE;cases ex;have hxc:=O.hok.xc hx2;obtain⟨o,vs,g1,g2,g3,g4⟩:=hxc;refine wpAny_handleBy_cons (codeAny_handlers_test (jp (O.mark (.ref x) (fun _ _=>True)) hgD hmD ((PySem.W.exm_one (O.kIn) (lJ g1 g2) (cl.exm T)).here ?_) hdb2)) (by intro q;cases q);refine codeAny_handlers_suite_as (Am l.fly (gl O hN U (.inl ln) (v:=.ref x) rfl (fun s3 I3=>?_) (.inr ln)));have Q:=fS (wE (X:=X.mark (.ref x) fun _ _=>False) (i:=ic) (pos':=pc) (pos:=pas) hN hic lc (hv (.ref x) fun _ _=>False) hs2 fc) J1 s3 (σ.set jn (ς (.ref x))) H' {nx:=fun Z H2=>Z=(σ.set jn (ς (.ref x))).set ic (ς (.ref x))/\H2=H',rt:=fun _ _=>False} (I3.mark (.ref x) fun _ _=>False) ?_;refine qf1 Q (fun f s4 z=>?_) fun _ _ z=>z.elim
  .cases f with
   |next=>
    obtain⟨Z,H2,I4,rfl,rfl⟩:=z;refine Al (I4.unmark O.ok) hN U ln fun s5 I5=>⟨_,_,I5,?_⟩
    rw[List.set_comm _ _ (qe7 hij)]at*
    rw[List.set_set];exact q
   |brk=>obtain⟨_,_,_,z⟩:=z;exact z.elim
   |cont=>obtain⟨_,_,_,z⟩:=z;exact z.elim
   |ret u=>obtain⟨_,_,_,_,_,z⟩:=z;exact z.elim
  .refine⟨.ref x,?_,rfl,rfl⟩;rw[qm9 (by rw[O.len];exact(gX U).1)]
 .exact gl I1 hN hir lr r1 (fun s2 O=>qq3 (qq3 ⟨_,H1,O,q1⟩)) fr
end
variable{env:Env}
theorem An{x:Sem Value}{Q:Flow->qa4->Prop}(c:XCl K C D f)(hh:A.handled=ψ)
 (h:wpAny M A x (fun v z=>∃e od,v=.ref e/\K.In z.heap/\xoP e C od z.heap/\E (.ref e) z) E s):wpAny M A (raiseStmt env (ς x) ψ) Q E s:=by
 unfold raiseStmt;refine wB (qf1 h (fun v s1 h1=>?_) fun _ _ x=>x);obtain⟨e,od,rfl,X,⟨o,vs,U,O,_,hd,hz,h1⟩,hE⟩:=h1;obtain⟨hp,g,d,tk,os⟩:=s1;obtain⟨dd,nm,bs,N,q,sn,sub,ab,col,k0,k1,k2,k3,k5,lk⟩:=c.obj;have Z:=X _ _ lk;have b1:(qb7 C::.ref D::vtl).contains (.type "BaseException")=θ:=by simp[vtl]
 have b2:(qb7 C::.ref D::vtl).contains (.type "type")=ξ:=by simp[vtl]
 obtain⟨oc,odi,oda,osl⟩:=o;dsimp only at O hd;subst O hd
 repeat (first|with_reducible refine qj7 U ?_|with_reducible refine qj7 Z ?_|(with_reducible refine qp6 Z ?_;first|rw[b1]|rw[b2])|with_reducible refine qd7 U rfl h1 ?_|wp_step)
 exact wpAny_raiseNew_none hh hE
section
variable{X:Cx}{J1:η (J5×Obj)}{σ:St}{H:Hp}{s:qa4}{k:Nat}{f C D:J5}{fd:qk2}{ps ns:η Str}{x:Str}{p pos:Pos}{e:J9}{es:η J9}{t:TA}
theorem xb{Q:VK}{R:η V->Hp->Prop}(c:XCl X.K C D f)(hn:∀g∈ns,dZ X.K C g)(F:FnOk X.prog X.w X.K X.mg X.base CX0 k f fd ps (spI X.K f ns))(hr:Room (k+1) X.A)(hb:Binds X.K fd ps [])(hz:ns.length<=qa7)(hg:Gl X x)(hm:X.mg x=ς (.ref C))
 (ha:PA X.nox (e::es) t) (I:Inv X J1 σ H s) (h:t σ H R) (hR:∀vs H1,R vs H1->vs.length=ns.length/\∀x dx,X.s₀.heap.objs.size<=x->H1 x=ψ->H1 dx=ψ->dx≠x->Q (.ref x) (upd (upd H1 dx (XD dx (ns.zip vs))) x (XO x C (ς dx))))
 (U:(x==("__debug__":Str))=ξ:=by decide) (he:qa2 (e::es) X.env=(ξ,eval e X.env)::qa2 es X.env:=by rfl) (O:(qf2 pos (qa2 es X.env)).any (·.1)=ξ:=by rfl) :
  wpAny (model X.prog X.w) X.A (eval (.Call (.Name x p) (e::es) [] pos) X.env) (EP X J1 σ Q) Ex s:=by
 refine qn2 (jp I hg hm ?_ U);refine xX9 (h₀:=X.base) I.ok.mod.kin c.kp (qf1 (ha pos J1 s σ H _ (I.wish _) h) (fun us s1 ⟨vs,H1,Z,r,hq⟩=>⟨Z.kIn,?_⟩) fun _ _ z=>z.elim) he O;obtain⟨hl,q⟩:=hR vs H1 hq;refine qf1 (Ak (X:=X.nox) (Q:=Q) c hn F hr hb Z r hl hz fun x dx sz h1 h2 h3=>q x dx (qc5 Z.sz sz) h1 h2 h3) (fun u z ⟨v,H',I',r',q'⟩=>⟨v,H',I'.unwish,r',q'⟩) fun _ _ z=>z.elim
theorem Inv.toXC{dx:J5}{fs:η (Str×V)}{x:J5}(I:Inv X J1 σ (upd (upd H1 dx (XD dx fs)) x (XO x C (ς dx))) s):Inv X J1 σ (upd (upd H1 dx (XD dx fs)) x (XC x C dx)) s:=by obtain⟨o,vs,h1,h2,h3,O,_⟩:=I.hok.xo (x:=x) aC;have:=I.write (x:=x) (e:=x) (o:=XC x C dx) (h':=s.heap) (t':=s.toks) (by rw[aC];exact qk5) (.inl rfl) (fun b u _ e=>e) ⟨o,h1⟩ (ua ⟨o,vs,h1,h2,h3,O⟩);rw[zN]at this;exact this
end
section
variable{X:Cx}{P:qc0}{w:J6}{K:xA9}{mg:Str->ζ Value}{base:Heap}{N:η Str}{qual:Str}{scope:Ja}{fa:J5}{cd:Value}{A:qd8}{outer:η Env}{s:qa4}{H:Hp}{E:XK}
 {k:Nat} {f C D:J5} {fd:qk2} {ps ns:η Str} {x:Str} {p pos pos':Pos} {e:J9} {es:η J9} {t:TA}
def tRs(C:J5)(ns:η Str)(E:XK)(t:TA):TS:=fun _ σ H=>t σ H fun vs H1=>vs.length=ns.length/\∀x dx,H1 x=ψ->H1 dx=ψ->dx≠x->E (.ref x) (ς dx) (upd (upd H1 dx (XD dx (ns.zip vs))) x (XC x C dx))
theorem xf (hX:X=dq (CXX P w) P w K mg base N qual scope fa cd A outer s H E) (c:XCl X.K C D f) (hn:∀ g∈ns,dZ X.K C g) (F:FnOk X.prog X.w X.K X.mg X.base CX0 k f fd ps (spI X.K f ns)) (hr:Room (k+1) X.A) (hb:Binds X.K fd ps []) (hz:ns.length<=qa7) (hg:Gl X x) (hm:X.mg x=ς (.ref C))
  (ha:PA X.nox (e::es) t) (hdb:(x==("__debug__":Str))=ξ:=by decide) (Z:qa2 (e::es) X.env=(ξ,eval e X.env)::qa2 es X.env:=by rfl) (O:(qf2 pos (qa2 es X.env)).any (·.1)=ξ:=by rfl) :
  PS X (.Raise (ς (.Call (.Name x p) (e::es) [] pos)) ψ pos') (tRs C ns E t):=by
 intro J1 s1 σ H1 Dd I h;rw[arm_exec_Raise];have hh:X.A.handled=ψ:=I.ok.hd (by rw[hX];rfl);refine wB (qo1 (An c hh (wB (thn (xb (Q:=fun v H'=>∃x dx H1 fs,X.s₀.heap.objs.size<=x/\v=.ref x/\H'=upd (upd H1 dx (XD dx fs)) x (XO x C (ς dx))/\E (.ref x) (ς dx) (upd (upd H1 dx (XD dx fs)) x (XC x C dx))) c hn F hr hb hz hg hm ha I h (fun vs H1 ⟨hl,q⟩=>⟨hl,fun x dx sz h1 h2 h3=>⟨x,dx,H1,_,sz,rfl,rfl,q x dx h1 h2 h3⟩⟩) hdb Z O) fun u s2 ⟨v,H',U,r,x,dx,H2,fs,sz,e1,e2,q⟩=>wB (qo1 (qb1 ?_))))));subst e1 e2;obtain rfl:u=qb7 x:=r;have xo:=U.hok.xo (x:=x) aC;refine⟨x,ς dx,rfl,U.kIn,xo,?_⟩;have I2:=U.toXC;subst hX;obtain⟨o,vs,g1,g2,g3,g4,g5,g6⟩:=xo;have fr:=I2.stack
 have nfr:x∉frs (qn3 qual scope s.heap.objs.size fa cd::outer):=fun z=>by have:=I2.stkFree x z;rw[aC]at this;cases this
 refine BV (B:=PySem.W.hideAll s2.heap (x::frs (qn3 qual scope s.heap.objs.size fa cd::outer))) I2 aC sz ⟨PySem.W.hideAll_none _ (.head _),o,vs,g1,g2,g3,g4,g5,.inl g6⟩ (fun b o e=>PySem.W.of_hideAll _ e) (PySem.W.funFrames_hide fr fun env Z a ha=>.tail _ (qq5.mpr ⟨env,Z,ha⟩)) (fun b o e nx _ nf=>PySem.W.hideAll_get _ e fun z=>?_) q;rcases qa9.mp z with z|z
 .exact nx z
 .exact nf z
end
section
variable{prog:qc0}{w:J6}{A:qd8}{E:Value->qa4->Prop}{s:qa4}{K:xA9}{x C D f:J5}{o:Obj}
structure XIs(K:xA9)(C:J5):Prop where
 ha:xD9 K (.ref C) "__class__"=ς (ς (.builtin "object.__class__"))
 hn:xU9 K (.builtin "object.__class__") "__get__"=ς (ς (.builtin "getset_descriptor.__get__"))
 ht:xV9 K (.builtin "object.__class__")=ς θ
theorem Ao{dx:J5}{Q:ζ Value->qa4->Prop}(X:K.In s.heap)(c:XCl K C D f)(y:XIs K C)(Z:s.heap.get? x=ς o)(hc:o.cls=.ref C)(hd:o.dict=ς dx)(hf:o.data=.fields vs)(hn:s.heap.Ns1 dx mA)
 (h:Q (ς (.ref C)) {s with toks:=s.toks+1}):wpAny (model prog w) A (getAttr? (.ref x) "__class__") Q E s:=by
 obtain⟨od,U,hl⟩:=iO hn;have I:xO9 s.heap x o C (ς od):=⟨Z,hc,by unfold xR9;rw[hf],by rw[hd];exact U⟩;obtain⟨cd,h1,h3,h2⟩:=c.cls;have L:=PySem.W.looks_find (M:=model prog w) X I (PySem.W.findObj_data (by rw[h1];rfl) y.ha y.hn y.ht);have O:=lJ (M:=model prog w) Z hc;have L1:=xM9 (M:=model prog w) X c.ga;have L2:=xM9 (M:=model prog w) X c.gn;have G:=PySem.F.attr_ValueError;have sb:xL9 (model prog w) s.heap (zd7 (.ref x) (.type "BaseException")) θ:=O.andThen (c.is X (.type "BaseException") (by simp[vtl]))
 have x1:(zf1 (qb7 C)&&qj4 "BaseException.__getattribute__"==qj4 "object.__getattribute__")=ξ:=by rw[show(qj4 "BaseException.__getattribute__"==qj4 "object.__getattribute__")=ξ from by decide +kernel,qo7]
 have x0:(ξ&&zf1 (qj4 "BaseException.__getattribute__"))=ξ:=rfl;unfold getAttr? getAttrBy? getAttrBy;refine wB (wpAny_mkText (wB (qu1 (qi6 (wB (O.here (s:={s with toks:=s.toks+1}) (wB (L1.here (s:={s with toks:=s.toks+1}) ?_))))))));dsimp only;rw[x1];unfold getAttrByItsOwn callGetattribute boundAndCalled;rw[x0];refine wB (L2.here (s:={s with toks:=s.toks+1}) (wB (qu1 (qi6 (wB ?_)))));rw[G.ga.bind (.ref x)];refine qb1 ?_;show wpAny _ _ (call (.builtin "BaseException.__getattribute__") [.ref x,.str "__class__" s.toks]) _ _ _;refine qu5 (qt5 G.ga.plain PySem.F.entry_bexc_ga (@yA9 (model prog w) _ _ {s with toks:=s.toks+1} "BaseException.__getattribute__" "BaseException" "__getattribute__" (.ref x) [.str "__class__" s.toks] [] _ χ χ sb (PySem.F.args_bexc_ga (.ref x) (.str "__class__" s.toks)) ?_));refine wB (qb1 (wB (qb1 (wB (O.here (s:={s with toks:=s.toks+1}) (wB (L.here (s:={s with toks:=s.toks+1}) ?_)))))));show wpAny _ _ (za2 [_] (call (.builtin "getset_descriptor.__get__") [.builtin "object.__class__",.ref x,.ref C]) >>= ret) _ _ _;refine wB (qi6 (qu5 (PySem.W.class_get (s:={s with toks:=s.toks+1}) (ox:=o) (od:=ς od) X I ?_ (qb1 ?_))))
 .unfold xJ9;rw[h1,qa1,h3];rfl
 .show wpAny _ _ (handedOut _ ) _ _ _;exact qb1 (qb1 h)
theorem BW{vs:Array Value}{dx:J5}{fs:η (Str×V)}(c:XCl K C D f)(y:XIs K C):PySem.W.KitX K (.ref x) (.ref C) (fun h=>xcP x C dx h/\xdP dx fs h) where
 ty:=fun _ _ _ ⟨⟨o,vs,h1,h2,_⟩,_⟩=>lJ h1 h2
 it:=fun _ _ X _=>by obtain⟨dd,nm,bs,N,q,sn,sub,ab,col,k0,k1,k2,k3,k5,U⟩:=c.obj;intro A' Q' E' s' k q;unfold isType loadHead;exact wB (zb9 (k _ _ (X _ _ U)) (qb1 q))
 ne:=fun h tp dd J4 n sl X O=>by
  obtain⟨dd,nm,bs,N,q,sn,sub,ab,col,k0,k1,k2,k3,k5,U⟩:=c.obj;refine Bool.eq_false_iff.mpr fun q=>?_
  have e:C=tp:=qb7.inj (beq_iff_eq.mp q);subst e;have z:=congrArg Obj.data (qc1 ((X _ _ U).symm.trans O));cases z
 ca:=fun X ⟨⟨o,vs,h1,h2,h3,Z⟩,mA,n,_⟩ k=>Ao X c y h1 h2 h3 Z n k
end
def sm(names:η (Str×qp0))(cells:η (Str×J5)):η (Str×J5):=names.foldl (fun cs O=>if O.2==qh1 then(O.1,(cells.lookup O.1).getD 0)::cs else cs) []
variable{cells:η (Str×J5)}
theorem ub (hc:env.cells=cells):∀ (names:η (Str×qp0)) (O:η (Str×J5)),(∀ x∈names,x.2=.free->∃ c,cells.lookup x.1=ς c)→
  (forIn names O (fun(x:Str×qp0)(r:η (Str×J5))=>if(x.2==qh1)=θ then(do let c <- cellOf env x.1;pure (qn8 ((x.1,c)::r)))else(pure (qn8 r):Sem _)))
   = (pure (names.foldl (fun cs nk=>if nk.2==qh1 then(nk.1,(cells.lookup nk.1).getD 0)::cs else cs) O):Sem (η (Str×J5)))
 |[],O,_=>rfl
 |x::r,O,h=>by
  have ih:=fun O=>ub hc r O fun y hy=>h y (qa3 _ hy)
  simp only[za6,qq7];cases e:(x.2==qh1)with
  |false=>simp only[qc6,if_false];exact ih O
  |true=>
   obtain⟨c,Z⟩:=h x qa8 (by simpa using e);have U:cellOf env x.1=pure c:=by unfold cellOf;rw[hc,Z]
   simp only[if_true,U,Z,Option.getD_some];exact ih _
variable{scope:Ja}
theorem sq{env:Env}(h:∀x∈scope.names,x.2=.free->∃c,env.cells.lookup x.1=ς c):closureFor scope env=pure (sm scope.names env.cells):=by have:=ub (env:=env) rfl scope.names [] h;unfold closureFor sm;rw[<- this];simp only[bind_pure]
theorem m6:∀ {names:η (Str×qp0)} {O:η (Str×J5)} {x:Str} {c:J5},(∀ y∈names,y.2=.free->∃ c,cells.lookup y.1=ς c)→
  (names.foldl (fun cs nk=>if nk.2==qh1 then(nk.1,(cells.lookup nk.1).getD 0)::cs else cs) O).lookup x=ς c->(∀c,O.lookup x=ς c->cells.lookup x=ς c)->cells.lookup x=ς c
 |[],O,x,c,_,h,U=>U c h
 |y::r,O,x,c,hy,h,U=>by
  simp only[qq7]at h;refine m6 (fun z hz=>hy z (qa3 _ hz)) h ?_;intro c' h';split at h'
  .rename_i hf;obtain⟨c0,e0⟩:=hy y qa8 (by simpa using hf);rw[qk7]at h';split at h'
   .rename_i hx;have Z:x=y.1:=by simpa using hx
    rw[e0]at h';subst Z;rw[e0];simpa using h'
   .exact U c' h'
  .exact U c' h'
variable{names:η (Str×qp0)}
theorem kP{c:J5}(O:∀y∈names,y.2=.free->∃c,cells.lookup y.1=ς c)(h:(sm names cells).lookup x=ς c):cells.lookup x=ς c:=m6 O h fun c h=>by simp at h
theorem m7:∀ {names:η (Str×qp0)} {O:η (Str×J5)} {x:Str},((x,qh1)∈names∨(O.lookup x).isSome)→
  ((names.foldl (fun cs U=>if U.2==qh1 then(U.1,(cells.lookup U.1).getD 0)::cs else cs) O).lookup x).isSome
 |[],O,x,h=>by simpa using h
 |y::r,O,x,h=>by
  simp only[qq7];refine m7 ?_;rcases h with h|h
  .rcases qa9.mp h with e|h
   .subst e;right;simp[qk7]
   .exact .inl h
  .right;split
   .rw[qk7];split
    .rfl
    .exact h
   .exact h
theorem qj(h:(x,qh1)∈names):∃c,(sm names cells).lookup x=ς c:=qx3.mp (m7 (.inl h))
structure CmpScope(N:List Str)(outer scope:Ja)(M:List Str)(src:List (Option Nat)):Prop where
 kind:scope.kind=.function
 nocell:∀y∈scope.names,y.2≠.cell
 free:∀y∈scope.names,y.2=.free->outer.names.lookup y.1=ς .cell∨outer.names.lookup y.1=ς .free
 names:∀y∈scope.names,y.2=.local->scope.names.lookup y.1=ς .local
 lf:∀y∈scope.names,y.2=.free->scope.names.lookup y.1=ς .free
 len:M.length=src.length
 nd:M.Nodup
 src:∀p∈M.zip src,∀j∈p.2,N[j]?=ς p.1/\(p.1,qh1)∈scope.names
def stC(src:η (ζ Nat))(σ:St):St:=src.map fun o=>o.bind fun j=>(σ[j]?).join
def cxC(X:Cx)(M:η Str)(scope:Ja)(C:J5)(s:qa4)(H:Hp)(ex:η J5):Cx:={X with N:=M,s₀:=s,H₀:=H,env:=compEnvC scope (sm scope.names X.env.cells) C X.env,outer:=X.stack,ex:=ex,fn:=fun _=>ξ,pn:=[],xe:=fun _ _=>False}
def PTs(X:Cx)(ifs:η J9)(t:TT):Prop:=
 ∀(J1:η (J5×Obj))(s:qa4)(σ:St)(H:Hp)(Q:Bool->Hp->Prop),Inv X J1 σ H s->t σ H Q→
  wpAny (model X.prog X.w) X.A (forIn ifs θ fun c r=>if r=θ then do let ok <- isTrue c X.env (eval c X.env);pure (qn8 ok)else pure (qn8 r)) (TP X J1 σ Q) X.xe s
def tYes:TT:=fun _ H Q=>Q θ H
theorem Ap:PTs X [] tYes:=fun J1 s σ H Q I h=>wpAny_tests_nil ⟨H,I,h⟩
theorem Aq{c:J9}{t:TT}(h:PT X c t):PTs X [c] t:=fun J1 s σ H Q I O=>wpAny_tests_one (h J1 s σ H Q I O)
def Wk(a b:St):Prop:=a.length=b.length/\∀(i:Nat) v,a[i]?=ς (ς v)->b[i]?=ς (ς v)
def jw(src:η (ζ Nat))(wi:TI)(g:TG)(tt:TT)(te:TE):TE:=fun σ H Q=>wi σ H fun J H1=>∀D,H1 D=ψ->∃W:Nat->Nat->Hp->Prop,(∃m,W 0 m (upd H1 D (.e [])))/\∀i m H,W i m H→
 (J.stop i H/\Q (.ref D) H)∨(J.go i H/\∃N:Hp->Prop,(∀H',N H'->∃U,U<m/\W (i+1) U H')/\∀x H',J.yld i H x H'→
  g x (stC src σ) H' fun O H2=>Wk (stC src σ) O/\tt O H2 fun b Z=>if b=θ then te O Z fun v H4=>∃ys,H4 D=ς (.e ys)/\ys.length<qa7/\N (upd H4 D (.e (ys++[v])))else N Z)
theorem sr{prog:qc0}{w:J6}{elt O iter:J9}{ifs:η J9}{it acc:Value}(I:Nat->qa4->Prop)
 (turn:∀n s,I n s->wpAny (model prog w) A (zf3 it) (fun r U=>match r with
 |none=>R (.ok .next) U
 |some v=>wpAny (model prog w) A (qu8 O it v) (fun _ Z=>wpAny (model prog w) A (qw7 O env v) (fun _ s₂ =>
 wpAny (model prog w) A (forIn ifs θ fun c r=>if r=θ then do let ok <- isTrue c env (eval c env);pure (qn8 ok)else pure (qn8 r)) (fun ok s₃ =>
 if ok=θ then wpAny (model prog w) A (eval elt env) (fun x s₄ =>
 wpAny (model prog w) A (call (.builtin "list.append") [acc,x]) (fun _ s₅=>∃m,m<n/\I m s₅) (fun _ _=>False) s₄) (notedBy (model prog w) A env fun e s'=>R (.error e) s') s₃
 else ∃m,m<n/\I m s₃) (fun _ _=>False) s₂) (fun _ _=>False) Z) (fun _ _=>False) U) (fun _ _=>False) s)
 (n:Nat) (h:I n s) :
  qy4 (model prog w) A (.compLoop (.ListComp elt [⟨O,iter,ifs,0⟩] scope pos) 0 it acc env) R s:=by
 refine codeAny_loop rfl I (fun n s hI=>?_) n h;show wpAny _ A ((compTurn (.ListComp elt [⟨O,iter,ifs,0⟩] scope pos) 0 it acc env).onRaise (fun x=>do qn7 x env;theTreesLotGoes x)) _ _ s;refine wpAny_noted ?_;rw[compTurn_list];refine wB (qo1 (wB (qf1 (turn n s hI) (fun r U h₁=>?_) fun _ _ h'=>h'.elim)));cases r with
 |none=>exact qb1 h₁
 |some v=>
  refine wB (qf1 h₁ (fun _ Z h₁'=>?_) fun _ _ h'=>h'.elim);refine wB (qf1 h₁' (fun _ s₂ h₂=>wB (qf1 h₂ (fun ok s₃ h₃=>?_) fun _ _ h'=>h'.elim)) fun _ _ h'=>h'.elim);cases ok with
  |false=>exact qb1 ⟨rfl,h₃⟩
  |true=>exact wB (wB (qf1 h₃ (fun x s₄ h₄=>wB (qf1 h₄ (fun _ s₅ h₅=>qb1 (qb1 ⟨rfl,h₅⟩)) fun _ _ h'=>h'.elim)) fun _ _ h'=>h'))
variable{cpos:Pos}{QQ:Value->qa4->Prop}{use:ζ (Value->Sem Unit)}
section
variable{X:Cx}{elt tg iter:J9}{ifs:η J9}{scope:Ja}{pos:Pos}{M:η Str}{src:η (ζ Nat)}{wi:TI}{g:TG}{tt:TT}{te:TE}
theorem oJ(hn:∀y∈scope.names,y.2≠.cell)(h:(relabel scope env).names.lookup x=ς .cell∨(relabel scope env).names.lookup x=ς .free):(x,qh1)∈scope.names:=by
 have O:∀k,(relabel scope env).names.lookup x=ς k->(k=.cell∨k=.free)->(x,qh1)∈scope.names:=by
  intro k hk U;have hm:=PySem.mem_of_lookup hk;unfold relabel at hm;obtain⟨⟨n,k0⟩,Z,e⟩:=qc9.mp hm;dsimp only at e;split at e
  .rename_i hc;simp only[qb0]at hc;have:k0=.free:=by simpa using hc.1.1
   subst this;cases e;exact Z
  .cases e;rcases U with z|z
   .subst z;exact absurd rfl (hn _ Z)
   .subst z;exact Z
 rcases h with h|h
 .exact O _ h (.inl rfl)
 .exact O _ h (.inr rfl)
theorem xg{fp:η J5}{m1:Str->ζ Value}(S:CmpScope X.N X.env.scope scope M src)(I:Inv X J1 σ H s)(hf:∀b∈fp,f7 X J1 H b)
 (hfl:∀b∈fp,b<s.heap.objs.size) (hn:s1.heap.Ns s.heap.objs.size m1) (hk:∀b o,s.heap.get? b=ς o->s1.heap.get? b=ς o) (hos:s1.os=s.os) (hg:s1.gens=s.gens) :
  Inv (cxC X M scope s.heap.objs.size s H fp) [] (stC src σ) H s1:=by
 have hcells:∀x∈scope.names,x.2=.free->∃c,X.env.cells.lookup x.1=ς c:=fun x hx O=>I.ok.has x.1 (S.free x hx O)
 have sub:∀x c,(sm scope.names X.env.cells).lookup x=ς c->X.env.cells.lookup x=ς c:=fun x c h=>kP hcells h
 have U:∀c v,s.heap.IsCell c v->s1.heap.IsCell c v:=fun c v ⟨o,ho,hd⟩=>⟨o,hk c o ho,hd⟩
 refine⟨⟨I.ok.mod,S.kind,I.ok.glob,I.ok.blt,nL _,fun y z c h1 h2=>I.ok.inj y z c (sub _ _ h1) (sub _ _ h2),fun x hx=>qj (oJ S.nocell hx),fun x c h=>(nomatch h),I.ok.hd,I.ok.frames,.inl rfl,
  fun b hb=>⟨qc8 (hfl b hb),fun x c h=>(hf b hb).2.2.2.2.1 x c (sub _ _ h)⟩,I.bs,qc5 I.ok.bsz I.sz,fun b o e hb=>?_,fun b hb z=>?_,I.stack,I.stkFree,fun p hp=>I.base.cts _ _ (I.ok.tb p hp)⟩,
  hos,(by rw[hg];exact I.bare),Un.kept hk,⟨m1,hn,fun i x v h1 h2 h3=>?_⟩,fun x c h=>?_,I.hok.fresh (qr4 _),fun x c h=>I.freeC x c (sub _ _ h),fun p hp=>absurd hp (by simp[cxC]),I.hok.kept hk,?_⟩
 .rcases(hf b hb).2.2.2.1 with z|z
  .exact I.ok.noex b o e z
  .exact absurd (qc3 (qa6 e) (qc5 I.ok.bsz z)) (qh6 _)
 .rcases qa9.mp (I.stkSub b z)with q|q
  .exact(hf b hb).2.1 q
  .exact(hf b hb).2.2.1 q
 . -- a name taken over
   have h1:M[i]?=ς x:=h1;unfold stC at h2;rw[qd3]at h2;cases hs:src[i]? with
   |none=>rw[hs]at h2;cases h2
   |some o=>
    rw[hs]at h2;simp only[qf6,qo0]at h2;cases o with
    |none=>cases h2
    |some j=>
     simp only[qa1]at h2
     have hmem:(x,ς j)∈M.zip src:=by
      have:(M.zip src)[i]?=ς (x,ς j):=by rw[qw2];exact⟨h1,hs⟩
      exact qo2 this
     obtain⟨hN,O⟩:=S.src _ hmem j rfl
     have hσ:σ[j]?=ς (ς v):=by
      cases e:σ[j]? with
      |none=>rw[e]at h2;cases h2
      |some o=>rw[e]at h2;simp only[qs7]at h2;rw[h2]
     have Z:=S.free _ O rfl;obtain⟨m,hm,hl⟩:=I.loc;obtain⟨u,r,l⟩:=hl j x v hN hσ (.inr Z);refine⟨u,r,?_⟩
     have hloc:X.env.kindOf x≠ς .local:=by show X.env.scope.names.lookup x≠_;rcases Z with q|q<;>rw[q]<;>decide
     rcases l with l|⟨_,c,e,z⟩
     .exact absurd l.1 hloc
     .obtain⟨c',e'⟩:=qj (cells:=X.env.cells) O;have:=sub _ _ e';rw[e]at this;cases this;refine .inr ⟨?_,c,e',U _ _ z⟩;rcases h3 with q|q
      .exact absurd q (by
        -- a name that is free in the block is not local there
        exact(by
         intro q
         have:scope.names.lookup x=ς .local:=by
          have hb:∀(names:η (Str×qp0)),(names.map fun(n,k)=>if(k==qh1&&X.env.scope.kind==.function&&X.env.kindOf n==ς .cell)then(n,qp0.cell)else(n,k)).lookup x=ς .local->names.lookup x=ς .local:=by
           intro names;induction names with
           |nil=>intro h;simp at h
           |cons y r ih=>
            obtain⟨n,k⟩:=y;intro h;simp only[qb3]at h;by_cases hx:x=n
            .subst hx;split at h
             .simp[qk7]at h
             .simpa[qk7] using h
            .have hx':(x==n)=ξ:=by simpa using hx
             split at h
             .simp only[qk7,hx']at h ⊢;exact ih h
             .simp only[qk7,hx']at h ⊢;exact ih h
          exact hb _ q
         rw[S.lf _ O rfl]at this;cases this))
      .exact q
 .obtain⟨v,z⟩:=I.cell x c (sub _ _ h);exact⟨v,U _ _ z⟩
 .show(stC src σ).length=M.length;unfold stC;rw[qa5,S.len]
theorem m8{Q:VK}{use:ζ (Value->Sem Unit)}(S:CmpScope X.N X.env.scope scope M src)(hc:X.calm=θ)(hi:PI X tg iter wi)(hg:M.Nodup->∀C s H ex,PG (cxC X M scope C s H ex) tg g)(ht:∀C s H ex,PTs (cxC X M scope C s H ex) ifs tt)
 (he:∀(O:qa4)(H3:Hp)(fp:η J5)(acc:Value)(pl:η (J5×Obj))(σ8:St)(H9:Hp)(s9:qa4)(Q':VK),Inv X J1 σ H3 O->(∀b∈fp,f7 X J1 H3 b)->Inv (cxC X M scope O.heap.objs.size O H3 fp) pl σ8 H9 s9->te σ8 H9 Q'→
 wpAny (model X.prog X.w) X.A (eval elt (cxC X M scope O.heap.objs.size O H3 fp).env) (EP (cxC X M scope O.heap.objs.size O H3 fp) pl σ8 Q') (notedBy (model X.prog X.w) X.A (cxC X M scope O.heap.objs.size O H3 fp).env (fun e s'=>qy9 (model X.prog X.w) X.A X.xe use QQ acc O.heap.objs.size (.error e) s')) s9) (hs:∀x,qe5 iter X.env x=pure x) (I:Inv X J1 σ H s) (h:jw src wi g tt te σ H Q)
 (hfin:∀(D C:J5)(H':Hp)(s':qa4)(m:Str->ζ Value),Inv X J1 σ H' s'->f7 X J1 H' C->s'.heap.Ns C m->Q (.ref D) H'->qy9 (model X.prog X.w) X.A X.xe use QQ (.ref D) C (.ok .next) s') :
  wpAny (model X.prog X.w) X.A (qu2 (.ListComp elt [⟨tg,iter,ifs,0⟩] scope pos) scope X.env cpos (newList []) ξ (eval iter X.env) use) QQ X.xe s:=by
 have hcells:∀x∈scope.names,x.2=.free->∃c,X.env.cells.lookup x.1=ς c:=fun x hx hfr=>I.ok.has x.1 (S.free x hx hfr)
 refine wpAny_comprehension_free (use:=use) rfl hs (sq hcells) S.kind S.names (thn (hi J1 s σ H _ I h) fun v s1 h1=>thn h1 fun itv s2 h2=>?_);obtain⟨it,fp,tn,J,H2,rfl,I2,T,st2,f2,hq⟩:=h2;refine qh3 ?_;have I3:Inv X J1 σ (upd H2 s2.heap.objs.size (.e [])) {s2 with heap:=s2.heap.push {cls:=.type "list",dict:=ψ,data:=.seq ([]:η Value).toArray},toks:=s2.toks}:=I2.lnew (J4:=[]) (ys:=[]) (t':=s2.toks) .nil Ξ;have hD:H2 s2.heap.objs.size=ψ:=I2.fresh;obtain⟨W,⟨m0,w0⟩,turn⟩:=hq _ hD;generalize hDn:s2.heap.objs.size=D at*
 generalize hs3:({s2 with heap:=s2.heap.push {cls:=.type "list",dict:=ψ,data:=.seq ([]:η Value).toArray},toks:=s2.toks}:qa4)=O at*
 have f3:∀b∈fp,f7 X J1 (upd H2 D (.e [])) b:=fun b Z=>⟨by obtain⟨o,e,_⟩:=T.obj _ _ st2 b Z;rw[ax (by rw[<- hDn];exact qc8 (qa6 e))];exact(f2 b Z).1,(f2 b Z).2⟩
 have k23:∀b o,s2.heap.get? b=ς o->O.heap.get? b=ς o:=fun b o e=>by rw[<- hs3];exact gP _ e
 have st3:tn 0 O.heap:=T.keep _ _ _ st2 fun b _ o e=>k23 b o e
 have fl3:∀b∈fp,b<O.heap.objs.size:=fun b Z=>by obtain⟨o,e,_⟩:=T.obj _ _ st3 b Z;exact qa6 e
 refine wpAny_newFunctionEnv S.nocell (by intro y hy;simp at hy) (fun h₁ hns₁ hsb₁=>?_) S.kind;have k34:∀b o,O.heap.get? b=ς o->h₁.get? b=ς o:=fun b o e=>hsb₁.extBut b o (qc8 (qa6 e)) (gP _ e)
 generalize hs4:({O with heap:=h₁,toks:=O.toks+([]:η (Str×Value)).length}:qa4)=s4
 have I4:Inv (cxC X M scope O.heap.objs.size O (upd H2 D (.e [])) fp) [] (stC src σ) (upd H2 D (.e [])) s4:=by rw[<- hs4];exact xg S I3 f3 fl3 hns₁ k34 rfl rfl
 have st4:tn 0 s4.heap:=T.keep _ _ _ st3 fun b _ o e=>by rw[<- hs4];exact k34 b o e
 generalize U:cxC X M scope O.heap.objs.size O (upd H2 D (.e [])) fp=X' at*
 have hg':PG X' tg g:=by rw[<- U];exact hg S.nd _ _ _ _
 have ht':PTs X' ifs tt:=by rw[<- U];exact ht _ _ _ _
 have eP:X'.prog=X.prog:=by rw[<- U];rfl
 have eW:X'.w=X.w:=by rw[<- U];rfl
 have eK:X'.K=X.K:=by rw[<- U];rfl
 have eA:X'.A=X.A:=by rw[<- U];rfl
 have ex':X'.xe=fun _ _=>False:=by rw[<- U];rfl
 have ec:X'.calm=θ:=by rw[<- U];exact hc
 have eE:X'.env=compEnvC scope (sm scope.names X.env.cells) O.heap.objs.size X.env:=by rw[<- U];rfl
 have stat:∀{H':Hp},(∀b∈fp,H' b=ψ)->∀b∈fp,f7 X' [] H' b:=fun hn b Z=>by
  rw[<- U];refine⟨hn b Z,qc8 (fl3 b Z),fun z=>?_,.inl Z,fun x c h=>(f3 b Z).2.2.2.2.1 x c (kP hcells h),fun p hp=>absurd hp (by simp[cxC])⟩;rcases qa9.mp (I3.stkSub b z)with q|q
  .exact(f3 b Z).2.1 q
  .exact(f3 b Z).2.2.1 q
 -- behind the block
 have fin:∀(H':Hp)(s':qa4),Inv X' [] (stC src σ) H' s'->Q (.ref D) H'->qy9 (model X.prog X.w) X.A X.xe use QQ (.ref D) O.heap.objs.size (.ok .next) s':=by
  intro H' s' J' q;rw[<- U]at J';obtain⟨m,hn,_⟩:=id J'.loc;have hC:H' O.heap.objs.size=ψ:=J'.free;have un:Un (frs X.stack) fp (upd H2 D (.e [])) H' O.heap s'.heap:=J'.base;have IA:Inv X J1 σ H' s':=I3.call' (s':=s') (show s'.os=O.os from J'.os) un J'.hok J'.bare fun b Z=>⟨(f3 b Z).2.2.2.1,(f3 b Z).2.1,(f3 b Z).2.2.2.2.1,(f3 b Z).2.2.2.2.2⟩
  exact hfin D _ H' s' m IA (I3.fpOk (nL _) hC) hn q
 have loop:∀s4':qa4,s4'=s4->qy4 (model X.prog X.w) X.A (.compLoop (.ListComp elt [⟨tg,iter,ifs,0⟩] scope pos) 0 (.ref it) (.ref D) X'.env) (qy9 (model X.prog X.w) X.A X.xe use QQ (.ref D) O.heap.objs.size) s4':=by
  rintro _ rfl;refine sr (fun n s'=>∃i H',Inv X' [] (stC src σ) H' s'/\tn i s'.heap/\(∀b∈fp,H' b=ψ)/\W i n H') ?_ m0 ⟨0,_,I4,st4,fun b Z=>(f3 b Z).1,w0⟩;rintro n s5 ⟨i,H5,I5,st5,fr5,w5⟩;rcases turn i n H5 w5 with ⟨stop,qn⟩|⟨go,N,hN,step⟩
  .have:=T.done X' eP eW eK ec i [] s5 (stC src σ) H5 (fun _ _=>False) I5 (stat fr5) st5 stop;rw[eA]at this;refine thn this fun r s6 ⟨hr,I6⟩=>?_
   subst hr;exact fin H5 s6 I6 qn
  .have:=T.item X' eP eW eK ec i [] s5 (stC src σ) H5 (fun _ _=>False) I5 (stat fr5) st5 go;rw[eA]at this;refine thn this fun r s6 ⟨u,hr,h6⟩=>?_
   subst hr;refine thn h6 fun _ s7 ⟨x,H7,I7,r7,y7,st7,fr7⟩=>?_
   have I7':=I7.pinned (stat fr7) (T.obj _ _ st7);have a1:=hg' _ s7 (stC src σ) H7 x u _ I7' r7 (step x H7 y7);rw[ex',eP,eW,eA]at a1;refine thn a1 fun _ s8 ⟨σ8,H8,I8,wk8,q8⟩=>?_
   have a2:=ht' _ s8 σ8 H8 _ I8 q8;rw[ex',eP,eW,eA]at a2;refine thn a2 fun ok s9 ⟨H9,I9,q9⟩=>?_
   have again:∀{H7':Hp}{s':qa4},Inv X' ([]++j0 fp s7.heap) σ8 H7' s'->N H7'->∃m,m<n/\∃i H',Inv X' [] (stC src σ) H' s'/\tn i s'.heap/\(∀b∈fp,H' b=ψ)/\W i m H':=fun {H7' s'} J7 n7=>by obtain⟨m',hm,w7⟩:=hN H7' n7;refine⟨m',hm,i+1,H7',J7.unpinned.weak wk8.1 wk8.2,T.keep _ _ _ st7 fun b Z o e=>(J7.pin (b,o) (qd0 _ (qd0 _ (gG Z e)))).1,fun b Z=>?_,w7⟩;obtain⟨o,e,d⟩:=T.obj _ _ st7 b Z;exact(J7.pin (b,o) (qd0 _ (qd0 _ (gG Z e)))).2.1
   cases ok with
   |false=>exact again I9 q9
   |true=>
    have I9':Inv (cxC X M scope O.heap.objs.size O (upd H2 D (.e [])) fp) ([]++j0 fp s7.heap) σ8 H9 s9:=by rw[U];exact I9
    have a3:=he O (upd H2 D (.e [])) fp (.ref D) _ σ8 H9 s9 _ I3 f3 I9' q9;rw[U]at a3;refine thn a3 fun v s10 ⟨y,H10,I10,r10,ys,hl,hz,q10⟩=>?_
    have a4:=mY (X:=X') _ s10 σ8 H10 (.ref D) [y] (.ref D) [v] (fun _ H'=>N H') I10 rfl (.cons r10 .nil) ⟨D,ys,y,rfl,rfl,hl,hz,q10⟩;rw[ex',eP,eW,eA]at a4;refine thn a4 fun _ s11 ⟨_,H11,I11,_,q11⟩=>?_
    exact again I11 q11
 have e4:∀c:Env,c=X'.env->qy4 (model X.prog X.w) X.A (.compStart (.ListComp elt [⟨tg,iter,ifs,0⟩] scope pos) 0 (.ref it) (.ref D) c) (qy9 (model X.prog X.w) X.A X.xe use QQ (.ref D) O.heap.objs.size) s4:=by rintro _ rfl;exact codeAny_compStart_list (loop _ rfl) (T.self _ _ _ _ _ st4 (loop _ rfl))
 exact e4 _ (by rw[eE];rfl)
theorem m9{Q:VK}(S:CmpScope X.N X.env.scope scope M src)(hc:X.calm=θ)(hi:PI X tg iter wi)(Z:M.Nodup->∀C s H ex,PG (cxC X M scope C s H ex) tg g)(ht:∀C s H ex,PTs (cxC X M scope C s H ex) ifs tt)
 (he:∀C s H ex,PE (cxC X M scope C s H ex) elt te) (hs:∀x,qe5 iter X.env x=pure x) (I:Inv X J1 σ H s) (h:jw src wi g tt te σ H Q)
 (O:∀(D C:J5)(H':Hp)(s':qa4)(m:Str->ζ Value),Inv X J1 σ H' s'->f7 X J1 H' C->s'.heap.Ns C m->Q (.ref D) H'->qy9 (model X.prog X.w) X.A X.xe use QQ (.ref D) C (.ok .next) s') :
  wpAny (model X.prog X.w) X.A (qu2 (.ListComp elt [⟨tg,iter,ifs,0⟩] scope pos) scope X.env cpos (newList []) ξ (eval iter X.env) use) QQ X.xe s:=
 m8 S hc hi Z ht (fun s3 H3 fp acc pl U H9 s9 Q' _ _ J q=>qf1 (he _ _ _ _ pl s9 U H9 Q' J q) (fun _ _ x=>x) fun _ _ x=>qf3 x) hs I h O
theorem Inv.but{h3:Heap}(I2:Inv X J1 σ H s)(Z:f7 X J1 H C)(sb3:qg6 C s.heap h3):Inv X J1 σ H {s with heap:=h3}:=by
 have kC:∀b o,b≠C->s.heap.get? b=ς o->h3.get? b=ς o:=fun b o O e=>sb3.extBut b o O e
 have nm:∀{b:J5},b∉[C]->b≠C:=fun O z=>O (by rw[z];exact qa8)
 refine I2.call' (s':={s with heap:=h3}) (ch:=[C]) rfl ⟨fun b o e n O U=>kC b o (nm U) e,fun b o e n O U=>⟨o.slots,kC b o (nm U) e⟩,fun b o e n U=>n,fun b o e U=>⟨o,kC b o (nm U) e⟩,fun b xs e=>e,fun b o u e=>e,fun b ps e=>⟨#[],by rw[Array.append_empty];exact e⟩,fun b qs e=>e⟩ ?_ I2.bare fun b O=>?_
 .intro b u e;have nb:b≠C:=fun z=>by rw[z,Z.1]at e;cases e
  refine(I2.hok b u e).stay (fun c v hc' q=>kC c v ?_ q) (fun _ q=>q) (fun _ _ q=>q) fun _ _ _ q=>q
  rcases hc' with z|z
  .rw[z];exact nb
  .intro w;rw[w,Z.1]at z;cases z
 .cases qi1.mp O;exact⟨Z.2.2.2.1,Z.2.1,Z.2.2.2.2.1,Z.2.2.2.2.2⟩
theorem xh (S:CmpScope X.N X.env.scope scope M src) (hc:X.calm=θ) (hi:PI X tg iter wi) (O:M.Nodup->∀ C s H ex,PG (cxC X M scope C s H ex) tg g) (ht:∀ C s H ex,PTs (cxC X M scope C s H ex) ifs tt)
  (Z:∀C s H ex,PE (cxC X M scope C s H ex) elt te) (hs:∀x,qe5 iter X.env x=pure x:=by intro _;rfl) :
  PE X (.ListComp elt [⟨tg,iter,ifs,0⟩] scope pos) (jw src wi g tt te):=by
 intro J1 s σ H Q I h;rw[eval_ListComp];exact m9 (use:=ψ) S hc hi O ht Z hs I h fun D C H' s' m IA hC U q=>⟨m,U,fun h' sb=>⟨.ref D,H',IA.but hC sb,rfl,q⟩⟩
end
def Its(x:Str):It:=⟨fun i _=>i<x.cps.size,fun i H v H'=>H'=H/\∃c,x.cps[i]?=ς c/\v=.str ⟨#[c]⟩,fun i _=>i=x.cps.size⟩
variable{tg:J9}
theorem vD{w:J6}(x:Str)(t:Tok)(it:J5):Turn P w K tg (Its x) [it] it (fun i h=>h.IsStrIter it "str_ascii_iterator" x t i) where
 mem:=by simp
 obj:=fun i h st b U=>by
  have e:b=it:=by simpa using U
  subst e;obtain⟨o,e,c,d⟩:=st;exact⟨o,e,fun v z=>by rw[d]at z;cases z⟩
 keep:=fun i h h' st k=>let ⟨o,ho,r⟩:=st;⟨o,k it Ξ o ho,r⟩
 item:=by
  intro X hP hw hK hc i J1 s σ H E I hf st O;subst hP hw hK;obtain⟨f0,f1,f2,f3,f4,f5⟩:=hf it Ξ;have O:i<x.cps.size:=O;refine wpAny_pyNext_ascii_item st (c:=x.cps[i]) (by simp[O]) fun h' Z sb=>?_
  have I1:Inv X J1 σ H {s with heap:=h',toks:=s.toks+1}:=I.turned (t':=s.toks+1) (fun b o U e=>(sb.2 b U).trans e) f0 f1 f3 f4 f5;obtain⟨o,e,c,d⟩:=id Z;exact⟨_,rfl,p9 (s:={s with heap:=h',toks:=s.toks+1}) e c d Ω ⟨.str ⟨#[x.cps[i]]⟩,H,I1,⟨_,rfl⟩,⟨rfl,x.cps[i],by simp[O],rfl⟩,Z,fun b U=>(hf b U).1⟩⟩
 done:=by intro X hP hw hK hc i J1 s σ H E I hf st O;subst hP hw hK;have O:i=x.cps.size:=O;obtain⟨f0,f1,f2,f3,f4,f5⟩:=hf it Ξ;exact wpAny_pyNext_ascii_end (I.ok.hd hc) st (by simp[O]) fun h' eb=>⟨rfl,I.turned (t':=s.toks) (fun b o U e=>eb b o U e) f0 f1 f3 f4 f5⟩
 self:=fun _ _ _ _ _ st h=>wpAny_pyIter_striter_ascii st h
theorem vE{w:J6}(x:Str)(t:Tok)(it:J5):Turn P w K tg (Its x) [it] it (fun i h=>h.IsStrIter it "str_iterator" x t i) where
 mem:=by simp
 obj:=fun i h st b U=>by
  have e:b=it:=by simpa using U
  subst e;obtain⟨o,e,c,d⟩:=st;exact⟨o,e,fun v z=>by rw[d]at z;cases z⟩
 keep:=fun i h h' st k=>let ⟨o,ho,r⟩:=st;⟨o,k it Ξ o ho,r⟩
 item:=by
  intro X hP hw hK hc i J1 s σ H E I hf st O;subst hP hw hK;obtain⟨f0,f1,f2,f3,f4,f5⟩:=hf it Ξ;have O:i<x.cps.size:=O;refine wpAny_pyNext_wide_item st (c:=x.cps[i]) (by simp[O]) fun h' Z sb=>?_
  have I1:Inv X J1 σ H {s with heap:=h',toks:=s.toks+1}:=I.turned (t':=s.toks+1) (fun b o U e=>(sb.2 b U).trans e) f0 f1 f3 f4 f5;obtain⟨o,e,c,d⟩:=id Z;exact⟨_,rfl,p9 (s:={s with heap:=h',toks:=s.toks+1}) e c d Ω ⟨.str ⟨#[x.cps[i]]⟩,H,I1,⟨_,rfl⟩,⟨rfl,x.cps[i],by simp[O],rfl⟩,Z,fun b U=>(hf b U).1⟩⟩
 done:=by intro X hP hw hK hc i J1 s σ H E I hf st O;subst hP hw hK;have O:i=x.cps.size:=O;obtain⟨f0,f1,f2,f3,f4,f5⟩:=hf it Ξ;exact wpAny_pyNext_wide_end (I.ok.hd hc) st (by simp[O]) fun h' eb=>⟨rfl,I.turned (t':=s.toks) (fun b o U e=>eb b o U e) f0 f1 f3 f4 f5⟩
 self:=fun _ _ _ _ _ st h=>wpAny_pyIter_striter_wide st h
section
variable{X:Cx}{tg:J9}
def iStr(tl:TE):TI:=fun σ H R=>tl σ H fun v H1=>∃x,v=.str x/\R (Its x) H1
theorem xj{l:J9}{tl:TE}(hl:PE X l tl):PI X tg l (iStr tl):=by
 intro J1 s σ H R I h;refine thn (hl J1 s σ H _ I h) fun v s1 ⟨y,H1,U,r1,q1⟩=>?_
 obtain⟨x,e,q⟩:=q1;subst e;obtain⟨t,rfl⟩:=r1
 have O:∀b∈[s1.heap.objs.size],f7 X J1 H1 b:=fun b hb=>by
  have e:b=s1.heap.objs.size:=by simpa using hb
  subst e;exact U.fpOk (nL _) (U.hok.fresh (nL _))
 cases Z:x.cps.all (· < 128)
 .refine wpAny_pyIter_wide Z ?_;exact⟨s1.heap.objs.size,[s1.heap.objs.size],_,_,H1,rfl,U.kept (t':=s1.toks) fun b o e=>gP _ e,vE x t _,⟨_,qb6 _ rfl,rfl,rfl⟩,O,q⟩
 .refine wpAny_pyIter_ascii Z ?_;exact⟨s1.heap.objs.size,[s1.heap.objs.size],_,_,H1,rfl,U.kept (t':=s1.toks) fun b o e=>gP _ e,vD x t _,⟨_,qb6 _ rfl,rfl,rfl⟩,O,q⟩
theorem lK:∀{bs:η Bool}{us:η Value},Vals (bs.map V.bl) us->us=bs.map qr6
 |[],_,.nil=>rfl
 |b::r,_,.cons h t=>by have h:_=qr6 b:=h;rw[h,lK t];rfl
theorem vF{bs:η Bool}:(qm6 bs.length).map (fun i=>bs.getD i ξ)=bs:=by
 apply List.ext_getElem
 .simp
 .intro i h1 h2;simp at h1;simp[h1]
theorem lL(hc:X.calm=θ):CallR X (.builtin "all") (fun xs H Q=>∃(a:J5)(bs:η Bool),xs=[.ref a]/\SqL X.K H a (bs.map V.bl)/\Q (.bl (bs.all id)) H):=by
 intro J1 s σ H xs us Q I r h;obtain⟨a,bs,rfl,hq,q⟩:=h;obtain⟨u,rfl,ru⟩:=jr r;cases ru;obtain⟨J4,rv,p,hz⟩:=I.list hq;have eu:=lK rv;subst eu
 have U:a≠s.heap.objs.size:=by obtain⟨o,n,e,_⟩:=p;exact qc8 (qa6 e)
 refine call_all_walk (qx0 p.isList ⟨s.heap.objs.size,_,_,_,_,_,fun i=>bs.getD i ξ,rfl,Walks.list (A:=X.A.in1) (I.ok.hd hc) _ a U (bs.map qr6).toArray,⟨⟨_,qb6 _ rfl,rfl,rfl⟩,?_⟩,?_,?_⟩)
 .obtain⟨o,ho,hr⟩:=p.isList;exact⟨o,gP _ ho,hr⟩
 .intro i v s' Q' E' O Z;rw[List.getElem?_toArray,qd3]at O;cases e:bs[i]? with
  |none=>rw[e]at O;cases O
  |some b=>rw[e]at O;cases O;refine qg3 ?_;dsimp only at Z;rw[qd9,e]at Z;exact Z
 .intro h' tk hk;refine⟨.bl _,H,I.kept (h':=h') (t':=tk) fun b o e=>hk b o (fun z=>?_) (gP _ e),rfl,?_⟩
  .have z:b=s.heap.objs.size:=by simpa using z
   subst z;exact absurd (qa6 e) (qh6 _)
  .have e:(qm6 (bs.map qr6).toArray.size).all (fun i=>bs.getD i ξ)=bs.all id:=by
    conv=>rhs;rw[<- vF (bs:=bs)]
    rw[ze3];simp
   rw[e];exact q
theorem mH:MtR X "str.startswith" (fun x vs H Q=>∃a b,x=.str a/\vs=[.str b]/\Q (.bl (Txt.startswith a b)) H):=by intro J1 s σ H x vs v us Q I Z O h;obtain⟨a,b,rfl,rfl,q⟩:=h;obtain⟨t,rfl⟩:=Z;obtain⟨u,rfl,U⟩:=O.one;obtain⟨t',rfl⟩:=U;exact SC.startswith ⟨.bl _,H,I,rfl,q⟩
theorem ng:∀{ts:η Str}{us:η Value},Vals (ts.map V.str) us->∃l,us=strValues l/\l.map (·.1)=ts
 |[],_,.nil=>⟨[],rfl,rfl⟩
 |x::r,_,.cons h t=>by obtain⟨tk,rfl⟩:=h;obtain⟨l,e1,e2⟩:=ng t;exact⟨(x,tk)::l,by rw[e1];rfl,by rw[<- e2];rfl⟩
theorem Ar:MtR X "str.join" (fun x vs H Q=>∃(a:Str)(l:J5)(ts:η Str),x=.str a/\vs=[.ref l]/\SqL X.K H l (ts.map V.str)/\zf2 a ts=θ/\Q (.str (Txt.join a ts)) H):=by intro J1 s σ H x vs v us Q I U Z h;obtain⟨a,l,ts,rfl,rfl,hq,hj,q⟩:=h;obtain⟨t,rfl⟩:=U;obtain⟨u,rfl,O⟩:=Z.one;cases O;obtain⟨J4,r,p,hz⟩:=I.list hq;obtain⟨ls,rfl,e2⟩:=ng r;exact SC.join p.isList e2 hj fun t' k=>⟨.str _,H,I.tok _,⟨_,rfl⟩,q⟩
theorem oK:CallR X (.type "int") (fun xs H Q=>∃x n,xs=[.str x]/\PySem.intText? x=ς n/\x.length<=640/\Q (.int n) H):=by intro J1 s σ H xs us Q I r h;obtain⟨x,n,rfl,O,U,q⟩:=h;obtain⟨u,rfl,Z⟩:=jr r;obtain⟨t,rfl⟩:=Z;exact PySem.W.KIN.call_text O U ⟨.int n,H,I.tok _,⟨_,rfl⟩,q⟩
theorem uc{v:Value}{o:ζ Int}(h:ze1 v o):∃p:ζ (Int×Tok),v=partValue p/\o=p.map (·.1):=by
 cases o with
 |none=>exact⟨ψ,by cases h<;>rfl,rfl⟩
 |some i=>cases h;exact⟨ς (i,_),rfl,rfl⟩
def rSlS:V->ζ Int->ζ Int->Hp->VK->Prop:=fun x lo hi H Q=>∃z,x=.str z/\z.length<=qa7/\Q (.str (Txt.slice z lo hi)) H
theorem Dh:SlR X rSlS:=by intro J1 s σ H x v vl vu lo hi sl Q I rx O pl Z h;obtain⟨z,rfl,U,q⟩:=h;obtain⟨t,rfl⟩:=rx;obtain⟨l,rfl,rfl⟩:=uc pl;obtain⟨u,rfl,rfl⟩:=uc Z;refine⟨"str",_,F.slot_str_getitem.lookup,qu6 _ _ _,?_⟩;exact wpAny_getItem_str_slice (l:=l) (u:=u) (st:=ψ) O rfl (post_val_or_str ⟨qc5 (Txt.slice_le z _ _) U,fun t' k=>⟨.str _,H,I.tok _,⟨_,rfl⟩,q⟩⟩)
end
theorem Di:qd5 "len"=ς (.builtin "len"):=by first|exact PySem.boot_len|exact PyProof.Rows.boot_len|decide +kernel
theorem su:qd5 "all"=ς (.builtin "all"):=by first|exact PySem.boot_all|exact PyProof.Rows.boot_all|decide +kernel
theorem f9:qd5 "isinstance"=ς (.builtin "isinstance"):=by first|exact PySem.boot_isinstance|exact PyProof.Rows.boot_isinstance|decide +kernel
theorem sv:qd5 "int"=ς (.type "int"):=by first|exact PySem.boot_int|exact PyProof.Rows.boot_int|decide +kernel
theorem oM:qd5 "str"=ς (.type "str"):=by first|exact PySem.boot_str|exact PyProof.Rows.boot_str|decide +kernel
theorem oN:qd5 "bool"=ς (.type "bool"):=by first|exact PySem.boot_bool|exact PyProof.Rows.boot_bool|decide +kernel
theorem ij:qd5 "tuple"=ς (.type "tuple"):=by first|exact PySem.boot_tuple|exact PyProof.Rows.boot_tuple|decide +kernel
theorem oO:qd5 "enumerate"=ς (.type "enumerate"):=by first|exact PySem.boot_enumerate|exact PyProof.Rows.boot_enumerate|decide +kernel
theorem xk:qd5 "zip"=ς (.type "zip"):=by first|exact PySem.boot_zip|exact PyProof.Rows.boot_zip|decide +kernel
structure OkF(P:qc0)(w:J6)(K:xA9)(mg:Str->Option Value)(base:Heap)(x:Str)(k:Nat)(ps:List Str)(sp:Sp):Prop where
 ex:∃f fd,mg x=ς (.ref f)/\xE9 K (.ref f)=θ/\Binds K fd ps []/\FnOk P w K mg base CX0 k f fd ps sp
structure DefF(K:xA9)(mg:Str->Option Value)(x:Str)(st:J8)(ps:List Str):Prop where
 ex:∃f fd,mg x=ς (.ref f)/\xE9 K (.ref f)=θ/\Binds K fd ps []/\Fun K x x st f fd
section
variable{P:qc0}{w:J6}{K:xA9}{mg:Str->ζ Value}{base:Heap}
theorem DefF.ok{k:Nat}(F:DefF K mg x st ps)(S:FnScope N ps (ae st))(U:∀vs H Q E,sp vs H Q E->vs.length=ps.length)
 (O:∀(f:J5)(cdv:Value)(A:qd8)(outer:η Env)(s:qa4)(H:Hp)(vs:η V)(Q:VK)(E:XK),Room k (A.deeper (qn3 x (ae st) s.heap.objs.size f cdv))->sp vs H Q E→
 ∃t,PSs (dq CX0 P w K mg base N x (ae st) f cdv A outer s H E).nox (bL st) t/\t {nx:=fun _ H'=>Q .non H',rt:=Q} (e7 N vs) H):OkF P w K mg base x (k+1) ps sp:=by
 obtain⟨f,fd,h1,h2,h3,Z⟩:=F.ex;exact⟨f,fd,h1,h2,h3,Z.ok S U (O f)⟩
theorem DefF.mk'{kV ct:Value}(X:K.In h)(G:h.Ns qb5 mg)
 (a:xB9 K qb5 x=ς (ς (.ref f)))
 (l:K.lookup f=ς ⟨oc,od,.func (xF9 x x (c9 st) (bL st) (ae st) .none kV doc pm an cdv ct),osl⟩) (c:xK9 K cdv x=θ) (k:xE9 K (.ref f)=θ)
 (O:∀(kV doc pm:Value)(an:ζ J5)(cdv ct:Value)(us:η Value),us.length=ps.length->ze7 (xF9 x x (c9 st) (bL st) (ae st) .none kV doc pm an cdv ct) ⟨us,[]⟩=pure (ps.zip us)):DefF K mg x st ps:=
 ⟨f,_,xC9 X G a,k,(oI l c k).binds O,oI l c k⟩
end
section
variable{X:Cx}{k:Nat}{ps:η Str}{sp:Sp}{x:Str}{p pos:Pos}{e:J9}{es:η J9}{t:TA}
theorem xl (F:OkF X.prog X.w X.K X.mg X.base x k ps sp) (Z:Room k X.A) (hg:Gl X x) (ha:PA X (e::es) t) (U:(x==("__debug__":Str))=ξ:=by decide)
  (he:qa2 (e::es) X.env=(ξ,eval e X.env)::qa2 es X.env:=by rfl) (O:(qf2 pos (qa2 es X.env)).any (·.1)=ξ:=by rfl):PE X (.Call (.Name x p) (e::es) [] pos) (tV sp [] E0 t):=by
 obtain⟨f,fd,h1,h2,h3,h4⟩:=F.ex;exact tW h4 Z hg h1 h2 h3 .nil Fd ha U he O
end
def xm(N:η Str)(outer scope:Ja)(M:η Str)(src:η (ζ Nat)):Bool:=
 (match scope.kind with|.function=>θ|_=>ξ)&&
 scope.names.all (fun y=>decide (y.2≠.cell))&&
 scope.names.all (fun y=>!decide (y.2=.free)||(decide (outer.names.lookup y.1=ς .cell)||decide (outer.names.lookup y.1=ς .free)))&&
 scope.names.all (fun y=>!decide (y.2=.local)||decide (scope.names.lookup y.1=ς .local))&&
 scope.names.all (fun y=>!decide (y.2=.free)||decide (scope.names.lookup y.1=ς .free))&&
 decide (M.length=src.length)&&decide M.Nodup&&
 (M.zip src).all (fun p=>match p.2 with|none=>θ|some j=>decide (N[j]?=ς p.1)&&decide ((p.1,qh1)∈scope.names))
variable{src:η (ζ Nat)}
theorem CmpScope.of{outer:Ja}{M:η Str}(h:xm N outer scope M src=θ):CmpScope N outer scope M src:=by
 unfold xm at h;simp only[qb0,qg2,qe2,qj8,decide_eq_true_eq,decide_eq_false_iff_not]at h;obtain⟨⟨⟨⟨⟨⟨⟨h1,h2⟩,h3⟩,h4⟩,h5⟩,h6⟩,h7⟩,Z⟩:=h;refine⟨?_,h2,fun y O e=>(h3 y O).resolve_left fun z=>z e,fun y O e=>(h4 y O).resolve_left fun z=>z e,fun y O e=>(h5 y O).resolve_left fun z=>z e,h6,h7,fun p hp j U=>?_⟩
 .revert h1;cases scope.kind<;>simp
 .have:=Z p hp;cases e:p.2 with
  |none=>rw[e]at U;cases U
  |some j'=>rw[e]at U this;cases U;simpa using this
def Plain(J:It)(xs:η V)(ok:Hp->Prop):Prop:=∀i H,ok H->(i<xs.length->J.go i H)/\(i=xs.length->J.stop i H)/\∀x H',i<xs.length->J.yld i H x H'->H'=H/\xs[i]?=ς x
theorem plain_list:Plain (Itl K a) xs (fun H=>SqL K H a xs):=fun i H h=>⟨fun hi=>⟨xs,xs[i],h,by simp[hi]⟩,fun e=>⟨xs,h,Θ⟩,fun x H' _ y=>⟨y.1,y.2 xs h⟩⟩
theorem plain_tup:Plain (Itt K a) xs (fun H=>SqT K H a xs):=fun i H h=>⟨fun hi=>⟨xs,xs[i],h,by simp[hi]⟩,fun e=>⟨xs,h,Θ⟩,fun x H' _ y=>⟨y.1,y.2 xs h⟩⟩
def lM(lo:Int)(n:Nat):η V:=(qm6 n).map fun(i:Nat)=>V.int (lo+i)
theorem plain_range{lo:Int}{n:Nat}:Plain (Itr lo n) (lM lo n) (fun _=>True):=fun i H h=>by
 refine⟨fun hi=>?_,fun e=>?_,fun x H' hi y=>?_⟩
 .show i<n;simpa[lM] using hi
 .show n<=i;simp[lM]at e;lia
 .obtain⟨e,rfl⟩:=y;refine⟨e,?_⟩;unfold lM at hi ⊢;rw[qa5,List.length_range]at hi;rw[qd3,List.getElem?_range hi];rfl
def ud(x:Str):η V:=x.cps.toList.map fun c=>V.str ⟨#[c]⟩
theorem plain_str:Plain (Its x) (ud x) (fun _=>True):=fun i H h=>by
 refine⟨fun hi=>?_,fun e=>?_,fun v H' hi y=>?_⟩
 .show i<x.cps.size;simpa[ud] using hi
 .show i=x.cps.size;simpa[ud] using e
 .obtain⟨e,c,O,rfl⟩:=y;refine⟨e,?_⟩;unfold ud;rw[qd3,za7,O];rfl
def BX(src:η (ζ Nat))(g:TG)(tt:TT)(te:TE)(σ:St)(J:It)(H1:Hp)(Q:VK)(D:J5):Prop:=∃W:Nat->Nat->Hp->Prop,(∃m,W 0 m (upd H1 D (.e [])))/\∀i m H,W i m H→
 (J.stop i H/\Q (.ref D) H)∨(J.go i H/\∃N:Hp->Prop,(∀H',N H'->∃U,U<m/\W (i+1) U H')/\∀x H',J.yld i H x H'→
  g x (stC src σ) H' fun O H2=>Wk (stC src σ) O/\tt O H2 fun b Z=>if b=θ then te O Z fun v H4=>∃ys,H4 D=ς (.e ys)/\ys.length<qa7/\N (upd H4 D (.e (ys++[v])))else N Z)
variable{wi:TI}{g:TG}{te:TE}
theorem qk{tt:TT}{Q:VK}:jw src wi g tt te σ H Q=wi σ H fun J H1=>∀D,H1 D=ψ->BX src g tt te σ J H1 Q D:=rfl
def ForW(g:TG)(tb:TS)(D:Ends)(J:It)(σ:St)(H1:Hp):Prop:=∃W:Nat->Nat->St->Hp->Prop,(∃m,W 0 m σ H1)/\∀i m σ H,W i m σ H→ (J.stop i H/\D.nx σ H)∨(J.go i H/\∃N:St->Hp->Prop,(∀O H',N O H'->∃Z,Z<m/\W (i+1) Z O H')/\∀x H',J.yld i H x H'->g x σ H' fun U H2=>tb {D with nx:=N,ct:=N,bk:=D.nx} U H2)
theorem ue{tb:TS}{D:Ends}:tFor wi g tb D σ H=wi σ H fun J H1=>ForW g tb D J σ H1:=rfl
variable{v:V}
theorem xp(O:Gl X x)(U:∃u,X.mg x=ς u/\RelV v u)(hd:(x==("__debug__":Str))=ξ:=by decide):PE X (.Name x pos) (tC v):=by obtain⟨u,h1,h2⟩:=U;exact zQ O h1 h2 hd
def lN(scope outer:Ja):Ja:={scope with names:=scope.names.map fun(n,k)=>if(k==.free&&outer.kind==.function&&outer.names.lookup n==ς .cell)then(n,.cell)else(n,k)}
def dh(sc:Ja)(N:η Str)(i:Nat)(x:Str):Bool:=decide (N[i]?=ς x)&&(decide (sc.names.lookup x=ς .local)||(decide (sc.names.lookup x=ς .cell)||decide (sc.names.lookup x=ς .free)))&&!(x==("__debug__":Str))&&!(x==("__classdict__":Str))
def g9(sc:Ja)(x:Str):Bool:=decide (sc.names.lookup x=ς .local)||decide (sc.names.lookup x=ς .cell)
def aO(sc:Ja)(x:Str):Bool:=decide (sc.names.lookup x=ς .globalImplicit)&&!(x==("__debug__":Str))&&!decide (x=("__name__":Str))
section
variable{sc:Ja}{N:η Str}{i:Nat}{x:Str}
theorem eV(h:dh sc N i x=θ):N[i]?=ς x:=by unfold dh at h;simp only[qb0,decide_eq_true_eq]at h;exact h.1.1.1
theorem Dj(h:dh sc N i x=θ):Vis sc x:=by unfold dh at h;simp only[qb0,qe2,decide_eq_true_eq]at h;exact h.1.1.2
theorem Dk(h:dh sc N i x=θ):(x==("__debug__":Str))=ξ:=by unfold dh at h;simp only[qb0,qj8]at h;exact h.1.2
theorem Fj(h:dh sc N i x=θ):(x==("__classdict__":Str))=ξ:=by unfold dh at h;simp only[qb0,qj8]at h;exact h.2
theorem gH(h:g9 sc x=θ):Loc sc x:=by unfold g9 at h;simp only[qe2,decide_eq_true_eq]at h;exact h
theorem z100(h:aO sc x=θ):sc.names.lookup x=ς .globalImplicit:=by unfold aO at h;simp only[qb0,decide_eq_true_eq]at h;exact h.1.1
theorem gb(h:aO sc x=θ):(x==("__debug__":Str))=ξ:=by unfold aO at h;simp only[qb0,qj8]at h;exact h.1.2
theorem y84(h:aO sc x=θ):x≠("__name__":Str):=by unfold aO at h;simp only[qb0,qj8,decide_eq_false_iff_not]at h;exact h.2
end
def bU(X:Cx)(sc:Ja):Prop:=X.env.scope=sc
section
variable{X:Cx}{sc:Ja}{N:η Str}{x:Str}{pos p:Pos}
theorem pvD(i:Nat)(h:dh sc N i x=θ)(e1:bU X sc:=by rfl)(e2:X.N=N:=by rfl):PE X (.Name x pos) (gF i):=by have e1:X.env.scope=sc:=e1;subst e1 e2;exact Cs (eV h) (Dj h) (Dk h) (Fj h)
theorem glD(h:aO sc x=θ)(e1:bU X sc:=by rfl):Gl X x:=by have e1:X.env.scope=sc:=e1;subst e1;exact z100 h
theorem ug{pos':Pos}(h:dh sc N i x=θ)(O:g9 sc x=θ)(nd:N.Nodup)(U:PE X e te)(e1:bU X sc:=by rfl)(e2:X.N=N:=by rfl)(hf:X.fn x=θ∨X.env.scope.names.lookup x=ς .local:=by exact .inl rfl)
 (Z:qf7 e (ς (.Name x pos')) pos.line X.env=pure ξ:=by rfl):PS X (.Assign [.Name x pos'] e pos) (vf te (jq i)):=by
 have e1:X.env.scope=sc:=e1;subst e1 e2;exact wE nd (eV h) (gH O) U Z hf
theorem bY(h:dh sc N i x=θ)(U:g9 sc x=θ)(O:N.Nodup)(e1:bU X sc:=by rfl)(e2:X.N=N:=by rfl)(Z:X.fn x=θ∨X.env.scope.names.lookup x=ς .local:=by exact .inl rfl):PG X (.Name x pos) (jq i):=by have e1:X.env.scope=sc:=e1;subst e1 e2;exact tN O (eV h) (gH U) Z
def loOk(sc:Ja)(x:Str):Bool:=decide (sc.names.lookup x=ς .local)
theorem cz(h:dh sc N i x=θ)(O:loOk sc x=θ)(U:X.N.Nodup)(e1:bU X sc)(e2:X.N=N:=by rfl):PG X (.Name x pos) (jq i):=by have e1:X.env.scope=sc:=e1;subst e1 e2;have O:X.env.scope.names.lookup x=ς .local:=of_decide_eq_true O;exact tN U (eV h) (.inl O) (.inr O)
theorem gm(h:aO sc x=θ)(O:∃u,X.mg x=ς u/\RelV v u)(e1:bU X sc:=by rfl):PE X (.Name x pos) (tC v):=xp (glD h e1) O (gb h)
theorem ql{u:Value}(h:aO sc x=θ)(U:X.mg x=ψ)(O:qd5 x=ς u)(r:RelV v u)(e1:bU X sc:=by rfl):PE X (.Name x pos) (tC v):=zR (glD h e1) U O r (y84 h) (gb h)
variable{e:J9}{es:η J9}{t:TA}{id T:String}{r:η V->Hp->VK->Prop}{k:Nat}{ps:η Str}{sp:Sp}
theorem iQ (h:aO sc x=θ) (hc:CallR X (.builtin id) r) (hm:X.mg x=ψ) (hv:qd5 x=ς (.builtin id)) (U:PA X (e::es) t) (e1:bU X sc:=by rfl)
  (Z:qa2 (e::es) X.env=(ξ,eval e X.env)::qa2 es X.env:=by rfl) (O:(qf2 pos (qa2 es X.env)).any (·.1)=ξ:=by rfl):PE X (.Call (.Name x p) (e::es) [] pos) (tCB r t):=
 wP hc (glD h e1) hm hv U (y84 h) (gb h) Z O
theorem sw (h:aO sc x=θ) (hc:CallR X (.type T) r) (hm:X.mg x=ψ) (hv:qd5 x=ς (.type T)) (U:PA X (e::es) t) (e1:bU X sc:=by rfl)
  (Z:qa2 (e::es) X.env=(ξ,eval e X.env)::qa2 es X.env:=by rfl) (O:(qf2 pos (qa2 es X.env)).any (·.1)=ξ:=by rfl):PE X (.Call (.Name x p) (e::es) [] pos) (tCB r t):=
 vo hc (glD h e1) hm hv U (y84 h) (gb h) Z O
theorem vG (h:aO sc x=θ) (F:OkF X.prog X.w X.K X.mg X.base x k ps sp) (U:Room k X.A) (Z:PA X (e::es) t) (e1:bU X sc:=by rfl)
  (he:qa2 (e::es) X.env=(ξ,eval e X.env)::qa2 es X.env:=by rfl) (O:(qf2 pos (qa2 es X.env)).any (·.1)=ξ:=by rfl):PE X (.Call (.Name x p) (e::es) [] pos) (tV sp [] E0 t):=
 xl F U (glD h e1) Z (gb h) he O
variable{tg a b:J9}{ta:TA}
theorem sy(h:aO sc "range"=θ)(U:X.mg "range"=ψ)(O:PA X [a] ta)(e1:bU X sc:=by rfl)(Z:qa2 [a] X.env=[(ξ,eval a X.env)]:=by rfl):PI X tg (.Call (.Name "range" p) [a] [] pos) (BK ta):=vh (glD h e1) U O Z
end
section
variable{X:Cx}{M:η Str}{scope outer:Ja}{C:J5}{s:qa4}{H:Hp}{ex:η J5}{x:Str}{pos p:Pos}
theorem scC(O:bU X outer):bU (cxC X M scope C s H ex) (lN scope outer):=by have O:X.env.scope=outer:=O;subst O;rfl
end
inductive Dt where
 |non|bl (b:Bool)|int (i:Int)|str (x:Str)|t (l:List Dt)|e (l:List Dt)|dct (ks:List Key) (l:List Dt)|dcT (ks:List (List Key)) (l:List Dt)
mutual
def peq:Dt->Dt->Bool
 |.non,.non=>θ
 |.bl a,.bl b=>a==b
 |.bl a,.int j=>(if a then(1:Int)else 0)==j
 |.int i,.bl b=>i==(if b then(1:Int)else 0)
 |.int i,.int j=>i==j
 |.str x,.str y=>x==y
 |.t l,.t m=>peqs l m
 |.e l,.e m=>peqs l m
 |.dct ks l,.dct js m=>decide (ks=js)&&peqs l m
 |.dcT ks l,.dcT js m=>decide (ks=js)&&peqs l m
 |_,_=>ξ
def peqs:η Dt->η Dt->Bool
 |[],[]=>θ
 |d::l,e::m=>peq d e&&peqs l m
 |_,_=>ξ
end
mutual
theorem jx:∀d:Dt,peq d d=θ
 |.non=>by simp[peq]
 |.bl b=>by simp[peq]
 |.int i=>by simp[peq]
 |.str x=>by simp[peq]
 |.t l=>by simp only[peq];exact peqs_self l
 |.e l=>by simp only[peq];exact peqs_self l
 |.dct ks l=>by simp only[peq,decide_true,qk9];exact peqs_self l
 |.dcT ks l=>by simp only[peq,decide_true,qk9];exact peqs_self l
theorem peqs_self:∀l:η Dt,peqs l l=θ
 |[]=>by simp[peqs]
 |d::l=>by simp only[peqs,jx d,peqs_self l,Bool.and_self]
end
mutual
def ji:Dt->Nat
 |.t l=>deeps l+1
 |.e l=>deeps l+1
 |_=>0
def deeps:η Dt->Nat
 |[]=>0
 |d::l=>max (ji d) (deeps l)
end
mutual
def Rep(K:xA9)(H:Hp):Dt->V->Prop
 |.non,v=>v=.non
 |.bl b,v=>v=.bl b
 |.int i,v=>v=.int i
 |.str x,v=>v=.str x
 |.t l,v=>∃a vs,v=.ref a/\SqT K H a vs/\Reps K H l vs
 |.e l,v=>∃a vs,v=.ref a/\SqL K H a vs/\Reps K H l vs
 |.dct ks l,v=>∃a J3,v=.ref a/\Rd H a (.dK J3)/\J3.map (·.1)=ks/\Reps K H l (J3.map (·.2))
 |.dcT ks l,v=>∃a J3,v=.ref a/\Rd H a (.dT J3)/\J3.map (·.1)=ks/\Reps K H l (J3.map (·.2))
def Reps(K:xA9)(H:Hp):η Dt->η V->Prop
 |[],vs=>vs=[]
 |d::l,vs=>∃v ws,vs=v::ws/\Rep K H d v/\Reps K H l ws
end
theorem Same.tup(e:Same H H')(h:SqT K H a xs):SqT K H' a xs:=by
 rcases h with h|h
 .exact .inl (e _ _ h)
 .exact .inr h
theorem Same.rd{u:HO}(e:Same H H')(h:Rd H a u):Rd H' a u:=by
 rcases h with h|⟨o,h⟩
 .exact .inl (e _ _ h)
 .exact .inr ⟨o,e _ _ h⟩
mutual
theorem Rep.same{K:xA9}{H H':Hp}(e:Same H H'):∀{d:Dt}{v:V},Rep K H d v->Rep K H' d v
 |.non,v,h=>h
 |.bl _,v,h=>h
 |.int _,v,h=>h
 |.str _,v,h=>h
 |.t l,v,h=>by unfold Rep at h ⊢;obtain⟨a,vs,h1,h2,h3⟩:=h;exact⟨a,vs,h1,e.tup h2,Reps.same e h3⟩
 |.e l,v,h=>by unfold Rep at h ⊢;obtain⟨a,vs,h1,h2,h3⟩:=h;exact⟨a,vs,h1,e.seq h2,Reps.same e h3⟩
 |.dct ks l,v,h=>by unfold Rep at h ⊢;obtain⟨a,vs,h1,h2,h3,h4⟩:=h;exact⟨a,vs,h1,e.rd h2,h3,Reps.same e h4⟩
 |.dcT ks l,v,h=>by unfold Rep at h ⊢;obtain⟨a,vs,h1,h2,h3,h4⟩:=h;exact⟨a,vs,h1,e.rd h2,h3,Reps.same e h4⟩
theorem Reps.same{K:xA9}{H H':Hp}(e:Same H H'):∀{l:η Dt}{vs:η V},Reps K H l vs->Reps K H' l vs
 |[],vs,h=>h
 |d::l,vs,h=>by unfold Reps at h ⊢;obtain⟨v,ws,h1,h2,h3⟩:=h;exact⟨v,ws,h1,Rep.same e h2,Reps.same e h3⟩
end
theorem Reps.length:∀{l:η Dt}{vs:η V},Reps K H l vs->vs.length=l.length
 |[],vs,h=>by unfold Reps at h;rw[h];rfl
 |d::l,vs,h=>by unfold Reps at h;obtain⟨v,ws,rfl,_,h3⟩:=h;simp[Reps.length h3]
theorem Reps.get:∀{l:η Dt}{vs:η V}{i:Nat}{d:Dt},Reps K H l vs->l[i]?=ς d->∃v,vs[i]?=ς v/\Rep K H d v
 |[],vs,i,d,h,e=>by simp at e
 |d0::l,vs,0,d,h,e=>by unfold Reps at h;obtain⟨v,ws,rfl,h2,_⟩:=h;simp at e;subst e;exact⟨v,rfl,h2⟩
 |d0::l,vs,i+1,d,h,e=>by unfold Reps at h;obtain⟨v,ws,rfl,_,h3⟩:=h;obtain⟨u,e1,e2⟩:=Reps.get (i:=i) h3 (by simpa using e);exact⟨u,by simpa using e1,e2⟩
theorem Reps.append:∀{l m:η Dt}{vs ws:η V},Reps K H l vs->Reps K H m ws->Reps K H (l++m) (vs++ws)
 |[],m,vs,ws,h,h'=>by unfold Reps at h;rw[h];exact h'
 |d::l,m,vs,ws,h,h'=>by unfold Reps at h;obtain⟨v,us,rfl,h2,h3⟩:=h;show Reps K H (d::(l++m)) (v::(us++ws));unfold Reps;exact⟨v,_,rfl,h2,Reps.append h3 h'⟩
theorem Reps.one{d:Dt}(h:Rep K H d v):Reps K H [d] [v]:=by unfold Reps;exact⟨v,[],rfl,h,by unfold Reps;rfl⟩
theorem Reps.take:∀{l:η Dt}{vs:η V}(n:Nat),Reps K H l vs->Reps K H (l.take n) (vs.take n)
 |_,_,0,_=>by simp[Reps]
 |[],vs,n+1,h=>by unfold Reps at h;rw[h];simp[Reps]
 |d::l,vs,n+1,h=>by unfold Reps at h;obtain⟨v,us,rfl,h2,h3⟩:=h;show Reps K H (d::l.take n) (v::us.take n);unfold Reps;exact⟨v,_,rfl,h2,Reps.take n h3⟩
theorem Reps.drop:∀{l:η Dt}{vs:η V}(n:Nat),Reps K H l vs->Reps K H (l.drop n) (vs.drop n)
 |_,_,0,h=>h
 |[],vs,n+1,h=>by unfold Reps at h;rw[h];simp[Reps]
 |d::l,vs,n+1,h=>by unfold Reps at h;obtain⟨v,us,rfl,h2,h3⟩:=h;exact Reps.drop n h3
variable{u:η (Key×V)}
section
variable{X:Cx}{J1:η (J5×Obj)}{σ:St}{H:Hp}{s:qa4}{K:xA9}
theorem Inv.notBoth{ys:η V}(I:Inv X J1 σ H s)(h:SqL X.K H a xs)(h':SqT X.K H a ys):False:=by obtain⟨J4,r,pl,_⟩:=I.list h;obtain⟨its',r',pt,_⟩:=I.tuple h';obtain⟨o,n,e,Z,_⟩:=pl;obtain⟨o',U,O,_⟩:=pt;rw[e]at U;cases U;rw[Z]at O;injection O with z;exact absurd z Ω
theorem Fk{w:η (Key×V)}(h:Rd H a (.dK u))(h':Rd H a (.dK w)):u=w:=by rcases h with h|⟨o,h⟩<;>rcases h' with h'|⟨o',h'⟩<;>rw[h]at h'<;>cases h'<;>rfl
theorem Fl{u w:η (η Key×V)}(h:Rd H a (.dT u))(h':Rd H a (.dT w)):u=w:=by rcases h with h|⟨o,h⟩<;>rcases h' with h'|⟨o',h'⟩<;>rw[h]at h'<;>cases h'<;>rfl
theorem kZ{u:HO}(h:Rd H a u):∃o,H a=ς o:=by
 rcases h with h|⟨o,h⟩
 .exact⟨_,h⟩
 .exact⟨_,h⟩
theorem Inv.kNone(I:Inv X J1 σ H s)(h:X.K.lookup a=ς o):H a=ψ:=(I.bs a o (I.ok.mod.kin a o h)).2
theorem Inv.sqT_dK(I:Inv X J1 σ H s)(h:SqT X.K H a xs)(h':Rd H a (.dK u)):False:=by
 rcases h with h|⟨o,_,_,h,_⟩
 .rcases h' with h'|⟨o',h'⟩<;>rw[h]at h'<;>cases h'
 .obtain⟨o',e⟩:=kZ h';rw[I.kNone h]at e;cases e
theorem Inv.sqT_dT(I:Inv X J1 σ H s){u:η (η Key×V)}(h:SqT X.K H a xs)(h':Rd H a (.dT u)):False:=by
 rcases h with h|⟨o,_,_,h,_⟩
 .rcases h' with h'|⟨o',h'⟩<;>rw[h]at h'<;>cases h'
 .obtain⟨o',e⟩:=kZ h';rw[I.kNone h]at e;cases e
theorem Inv.sqL_dK(I:Inv X J1 σ H s)(h:SqL X.K H a xs)(h':Rd H a (.dK u)):False:=by
 rcases h with h|⟨o,_,_,h,_⟩
 .rcases h with h|⟨o,h⟩<;>rcases h' with h'|⟨o',h'⟩<;>rw[h]at h'<;>cases h'
 .obtain⟨o',e⟩:=kZ h';rw[I.kNone h]at e;cases e
theorem Inv.sqL_dT(I:Inv X J1 σ H s){u:η (η Key×V)}(h:SqL X.K H a xs)(h':Rd H a (.dT u)):False:=by
 rcases h with h|⟨o,_,_,h,_⟩
 .rcases h with h|⟨o,h⟩<;>rcases h' with h'|⟨o',h'⟩<;>rw[h]at h'<;>cases h'
 .obtain⟨o',e⟩:=kZ h';rw[I.kNone h]at e;cases e
theorem xq{w:η (η Key×V)}(h:Rd H a (.dK u))(h':Rd H a (.dT w)):False:=by rcases h with h|⟨o,h⟩<;>rcases h' with h'|⟨o',h'⟩<;>rw[h]at h'<;>cases h'
def db:Dt->Nat
 |.non=>0
 |.bl _=>1
 |.int _=>2
 |.str _=>3
 |.t _=>4
 |.e _=>5
 |.dct _ _=>6
 |.dcT _ _=>7
theorem eJ(I:Inv X J1 σ H s){d e:Dt}(h:Rep X.K H d v)(h':Rep X.K H e v):db d=db e:=by
 cases d<;>cases e<;>first
  |rfl
  |(simp only[Rep]at h h';subst h;cases h';done)
  |(simp only[Rep]at h h';obtain⟨_,_,e,_⟩:=h';rw[h]at e;cases e;done)
  |(simp only[Rep]at h h';obtain⟨_,_,e,_⟩:=h;rw[h']at e;cases e;done)
  | (simp only[Rep]at h h';obtain⟨_,_,rfl,h2,_⟩:=h;obtain⟨_,_,e,O,_⟩:=h';cases e
     first
      |exact(I.sqT_dK h2 O).elim
      |exact(I.sqT_dK O h2).elim
      |exact(I.sqT_dT h2 O).elim
      |exact(I.sqT_dT O h2).elim
      |exact(I.notBoth h2 O).elim
      |exact(I.notBoth O h2).elim
      |exact(I.sqL_dK h2 O).elim
      |exact(I.sqL_dK O h2).elim
      |exact(I.sqL_dT h2 O).elim
      |exact(I.sqL_dT O h2).elim
      |exact(xq h2 O).elim
      |exact(xq O h2).elim)
mutual
theorem k4(I:Inv X J1 σ H s):∀(d e:Dt)(v:V),Rep X.K H d v->Rep X.K H e v->peq d e=θ:=fun d=>by
 match d with
 |.t l=>
  intro e v h h';have hk:=eJ I h h';cases e<;>first|(simp[db]at hk;done)|skip
  simp only[Rep]at h h';obtain⟨a,vs,rfl,h2,h3⟩:=h;obtain⟨b,ws,e,h2',h3'⟩:=h';cases e;have:=I.tuple_inj h2 h2';subst this;simp only[peq];exact reps_inj I l _ _ h3 h3'
 |.e l=>
  intro e v h h';have hk:=eJ I h h';cases e<;>first|(simp[db]at hk;done)|skip
  simp only[Rep]at h h';obtain⟨a,vs,rfl,h2,h3⟩:=h;obtain⟨b,ws,e,h2',h3'⟩:=h';cases e;have:=I.list_inj h2 h2';subst this;simp only[peq];exact reps_inj I l _ _ h3 h3'
 |.dct ks l=>
  intro e v h h';have hk:=eJ I h h';cases e<;>first|(simp[db]at hk;done)|skip
  simp only[Rep]at h h';obtain⟨a,vs,rfl,h2,h3,h4⟩:=h;obtain⟨b,ws,e,h2',h3',h4'⟩:=h';cases e;have:=Fk h2 h2';subst this;subst h3 h3';simp only[peq,decide_true,qk9];exact reps_inj I l _ _ h4 h4'
 |.dcT ks l=>
  intro e v h h';have hk:=eJ I h h';cases e<;>first|(simp[db]at hk;done)|skip
  simp only[Rep]at h h';obtain⟨a,vs,rfl,h2,h3,h4⟩:=h;obtain⟨b,ws,e,h2',h3',h4'⟩:=h';cases e;have:=Fl h2 h2';subst this;subst h3 h3';simp only[peq,decide_true,qk9];exact reps_inj I l _ _ h4 h4'
 |.non=>intro e v h h';have hk:=eJ I h h';cases e<;>first|(simp[db]at hk;done)|simp only[peq]
 |.bl b=>intro e v h h';have hk:=eJ I h h';cases e<;>first|(simp[db]at hk;done)|(simp only[Rep]at h h';rw[h]at h';cases h';exact jx _)
 |.int b=>intro e v h h';have hk:=eJ I h h';cases e<;>first|(simp[db]at hk;done)|(simp only[Rep]at h h';rw[h]at h';cases h';exact jx _)
 |.str b=>intro e v h h';have hk:=eJ I h h';cases e<;>first|(simp[db]at hk;done)|(simp only[Rep]at h h';rw[h]at h';cases h';exact jx _)
theorem reps_inj(I:Inv X J1 σ H s):∀(l m:η Dt)(vs:η V),Reps X.K H l vs->Reps X.K H m vs->peqs l m=θ:=fun l=>by
 match l with
 |[]=>
  intro m vs h h';cases m with
  |nil=>simp only[peqs]
  |cons e m=>unfold Reps at h h';obtain⟨v,ws,e,_⟩:=h';rw[h]at e;cases e
 |d::l=>
  intro m vs h h';cases m with
  |nil=>unfold Reps at h h';obtain⟨v,ws,e,_⟩:=h;rw[h']at e;cases e
  |cons e m=>unfold Reps at h h';obtain⟨v,ws,rfl,h2,h3⟩:=h;obtain⟨v',ws',e',h2',h3'⟩:=h';cases e';simp only[peqs,k4 I d _ _ h2 h2',reps_inj I l _ _ h3 h3',Bool.and_self]
end
end
end L2
namespace L2
open PySem PySem.Spec PyProof.Rows
mutual
def fF:Dt->Dt->Bool
 |.t l,.t m=>cmpbs l m
 |.e l,.e m=>cmpbs l m
 |d,e=>decide (db d<4)&&decide (db e<4)
def cmpbs:η Dt->η Dt->Bool
 |d::l,e::m=>fF d e&&cmpbs l m
 |_,_=>θ
end
theorem gp:∀{l m:η Dt}{j:Nat}{d e:Dt},cmpbs l m=θ->l[j]?=ς d->m[j]?=ς e->fF d e=θ
 |[],_,j,d,e,_,h,_=>by simp at h
 |_::_,[],j,d,e,_,_,h=>by simp at h
 |d0::l,e0::m,0,d,e,h,h1,h2=>by simp only[cmpbs,qb0]at h;simp at h1 h2;subst h1 h2;exact h.1
 |d0::l,e0::m,j+1,d,e,h,h1,h2=>by simp only[cmpbs,qb0]at h;exact gp (j:=j) h.2 (by simpa using h1) (by simpa using h2)
theorem il:∀{l:η Dt}{j:Nat}{d:Dt},l[j]?=ς d->ji d<=deeps l
 |[],j,d,h=>by simp at h
 |d0::l,0,d,h=>by simp at h;subst h;simp only[deeps];exact Nat.le_max_left ..
 |d0::l,j+1,d,h=>by simp only[deeps];exact qc5 (il (j:=j) (by simpa using h)) (Nat.le_max_right ..)
def di(l m:η Dt)(j:Nat):Bool:=peq (l.getD j .non) (m.getD j .non)
theorem fG:∀(l m:η Dt),peqs l m=((qm6 (min l.length m.length)).all (di l m)&&l.length==m.length)
 |[],[]=>by simp[peqs]
 |[],_::_=>by simp[peqs]
 |_::_,[]=>by simp[peqs]
 |d::l,e::m=>by
  have U:=fG l m;simp only[peqs,U,qc4];rw[show min (l.length+1) (m.length+1)=min l.length m.length+1 by lia,qz8,qh9,ze3];have e1:di (d::l) (e::m) 0=peq d e:=rfl
  have e2:(di (d::l) (e::m) ∘ Nat.succ)=di l m:=by funext j;rfl
  have O:(l.length+1==m.length+1)=(l.length==m.length):=by rw[qe1];simp
  rw[e1,e2,O,qw3]
variable{K:xA9}
section
variable{X:Cx}{J1:η (J5×Obj)}{σ:St}{H:Hp}{s:qa4}
theorem cR{l:η Dt}{vs:η V}{J4:η Value}(h:Reps X.K H l vs)(r:Vals vs J4){j:Nat}(Z:j<J4.length):∃d v,l[j]?=ς d/\Rep X.K H d v/\RelV v J4[j]:=by
 have O:j<l.length:=by rw[<- h.length,r.length];exact Z
 obtain⟨v,e1,e2⟩:=h.get (i:=j) (d:=l[j]) (by simp[O]);obtain⟨u,U,e4⟩:=r.get e1
 have:J4[j]=u:=by have:=gQ Z;rw[this]at U;exact qc1 U
 exact⟨l[j],v,by simp[O],e2,by rw[this];exact e4⟩
theorem xr(I:Inv X J1 σ H s):∀(n:Nat){A:qd8}{d e:Dt}{v w:V}{u u':Value},ji d<=n->A.units+n<cLine->fF d e=θ->Rep X.K H d v->Rep X.K H e w->RelV v u->RelV w u'->qf5 A s u u' (peq d e):=by
 intro n;induction n with
 |zero=>
  intro A d e v w u u' hd hu Z h h' r r'
  cases d<;>cases e<;>first
   |(simp only[Rep]at h h';subst h h';exact j7 r r' rfl rfl)
   |(simp only[ji]at hd;lia)
   |(simp[fF,db]at Z)
 |succ n ih=>
  intro A d e v w u u' hd hu Z h h' r r';cases d with
  |t l=>
   cases e with
   |t m=>
    have h0:=h;have h0':=h';simp only[Rep]at h h';obtain⟨a,vs,rfl,h2,h3⟩:=h;obtain⟨b,ws,rfl,O,h3'⟩:=h';cases r;cases r';by_cases hab:a=b
    .subst hab;have:=k4 I _ _ _ h0 h0';rw[this];exact za5 _
    obtain⟨J4,rv,pt,_⟩:=I.tuple h2;obtain⟨its',rv',pt',_⟩:=I.tuple O;have n1:J4.length=l.length:=by rw[<- h3.length,rv.length]
    have n2:its'.length=m.length:=by rw[<- h3'.length,rv'.length]
    simp only[peq];rw[fG,<- n1,<- n2];simp only[ji]at hd;simp only[fF]at Z
    have key:=qx7.tuples (A:=A) (e:=di l m) pt pt' Θ (fun j h1 h2=>by
     have h1':j<J4.length:=by simpa using h1
     have O:j<its'.length:=by simpa using h2
     obtain⟨d,v,g1,g2,g3⟩:=cR h3 rv h1';obtain⟨e,w,g1',g2',g3'⟩:=cR h3' rv' O;have:di l m j=peq d e:=by unfold di;rw[qd9,qd9,g1,g1'];rfl
     rw[this];have:=ih (A:=A.in1) (qc5 (il g1) Θ) (show A.units+1+n<cLine by lia) (gp Z g1 g1') g2 g2' g3 g3';simpa using this)
    have key':qx7 A s (.ref a) (.ref b) ((qm6 (min J4.length its'.length)).all (di l m)&&J4.length==its'.length):=by simpa using key
    exact qw0 hab key'
   |_=>exact absurd Z (by simp[fF,db])
  |e l=>
   cases e with
   |e m=>
    have h0:=h;have h0':=h';simp only[Rep]at h h';obtain⟨a,vs,rfl,h2,h3⟩:=h;obtain⟨b,ws,rfl,O,h3'⟩:=h';cases r;cases r';by_cases hab:a=b
    .subst hab;have:=k4 I _ _ _ h0 h0';rw[this];exact za5 _
    obtain⟨J4,rv,pt,_⟩:=I.list h2;obtain⟨its',rv',pt',_⟩:=I.list O;have n1:J4.length=l.length:=by rw[<- h3.length,rv.length]
    have n2:its'.length=m.length:=by rw[<- h3'.length,rv'.length]
    simp only[peq];rw[fG,<- n1,<- n2];simp only[ji]at hd;simp only[fF]at Z;by_cases U:J4.length=its'.length
    .have key:=qx7.lists (A:=A) (e:=di l m) pt.isList pt'.isList (by simpa using U) Θ (fun j h1 h2=>by
      have h1':j<J4.length:=by simpa using h1
      have O:j<its'.length:=by simpa using h2
      obtain⟨d,v,g1,g2,g3⟩:=cR h3 rv h1';obtain⟨e,w,g1',g2',g3'⟩:=cR h3' rv' O;have:di l m j=peq d e:=by unfold di;rw[qd9,qd9,g1,g1'];rfl
      rw[this];have:=ih (A:=A.in1) (qc5 (il g1) Θ) (show A.units+1+n<cLine by lia) (gp Z g1 g1') g2 g2' g3 g3';simpa using this)
     have e1:(J4.length==its'.length)=θ:=by simpa using U
     rw[e1,qm3,show min J4.length its'.length=J4.length by lia];exact qw0 hab (by simpa using key)
    .have e1:(J4.length==its'.length)=ξ:=by simpa using U
     rw[e1,qo7];exact qw0 hab (qx8 pt.isList pt'.isList (by simpa using U) Θ)
   |_=>exact absurd Z (by simp[fF,db])
  |non=>cases e<;>first|(simp only[Rep]at h h';subst h h';exact j7 r r' rfl rfl)|(simp[fF,db]at Z)
  |bl b=>cases e<;>first|(simp only[Rep]at h h';subst h h';exact j7 r r' rfl rfl)|(simp[fF,db]at Z)
  |int b=>cases e<;>first|(simp only[Rep]at h h';subst h h';exact j7 r r' rfl rfl)|(simp[fF,db]at Z)
  |str b=>cases e<;>first|(simp only[Rep]at h h';subst h h';exact j7 r r' rfl rfl)|(simp[fF,db]at Z)
  |dct ks l=>cases e<;>(simp[fF,db]at Z)
  |dcT ks l=>cases e<;>(simp[fF,db]at Z)
theorem BY (I:Inv X J1 σ H s) {A:qd8} {d e:Dt} {v w:V} {u u':Value} (hq:(∃ l m,d=.t l/\e=.t m)∨∃ l m,d=.e l/\e=.e m) (hu:A.units+ji d<cLine) (hc:fF d e=θ) (h:Rep X.K H d v) (h':Rep X.K H e w) (r:RelV v u) (r':RelV w u') :
  qx7 A s u u' (peq d e)/\za8 A s u u' (!peq d e):=by
 rcases hq with ⟨l,m,rfl,rfl⟩|⟨l,m,rfl,rfl⟩
 .simp only[Rep]at h h';obtain⟨a,vs,rfl,h2,h3⟩:=h;obtain⟨b,ws,rfl,U,h3'⟩:=h';cases r;cases r';obtain⟨J4,rv,pt,_⟩:=I.tuple h2;obtain⟨its',rv',Z,_⟩:=I.tuple U;have n1:J4.length=l.length:=by rw[<- h3.length,rv.length]
  have n2:its'.length=m.length:=by rw[<- h3'.length,rv'.length]
  simp only[peq];rw[fG,<- n1,<- n2];simp only[ji]at hu;simp only[fF]at hc
  have he:∀j (h1:j<J4.toArray.size)(h2:j<its'.toArray.size),qf5 A.in1 s J4.toArray[j] its'.toArray[j] (di l m j):=fun j h1 h2=>by
   have h1':j<J4.length:=by simpa using h1
   have U:j<its'.length:=by simpa using h2
   obtain⟨d,v,g1,g2,g3⟩:=cR h3 rv h1';obtain⟨e,w,g1',g2',g3'⟩:=cR h3' rv' U;have:di l m j=peq d e:=by unfold di;rw[qd9,qd9,g1,g1'];rfl
   rw[this];have:=xr I (deeps l) (A:=A.in1) (il g1) (show A.units+1+deeps l<cLine by lia) (gp hc g1 g1') g2 g2' g3 g3';simpa using this
  exact⟨by simpa using qx7.tuples (A:=A) (e:=di l m) pt Z Θ he,by simpa using za8.tuples (A:=A) (e:=di l m) pt Z Θ he⟩
 .simp only[Rep]at h h';obtain⟨a,vs,rfl,h2,h3⟩:=h;obtain⟨b,ws,rfl,U,h3'⟩:=h';cases r;cases r';obtain⟨J4,rv,pt,_⟩:=I.list h2;obtain⟨its',rv',Z,_⟩:=I.list U;have n1:J4.length=l.length:=by rw[<- h3.length,rv.length]
  have n2:its'.length=m.length:=by rw[<- h3'.length,rv'.length]
  simp only[peq];rw[fG,<- n1,<- n2];simp only[ji]at hu;simp only[fF]at hc;by_cases O:J4.length=its'.length
  .have he:∀j (h1:j<J4.toArray.size)(h2:j<its'.toArray.size),qf5 A.in1 s J4.toArray[j] its'.toArray[j] (di l m j):=fun j h1 h2=>by
    have h1':j<J4.length:=by simpa using h1
    have U:j<its'.length:=by simpa using h2
    obtain⟨d,v,g1,g2,g3⟩:=cR h3 rv h1';obtain⟨e,w,g1',g2',g3'⟩:=cR h3' rv' U;have:di l m j=peq d e:=by unfold di;rw[qd9,qd9,g1,g1'];rfl
    rw[this];have:=xr I (deeps l) (A:=A.in1) (il g1) (show A.units+1+deeps l<cLine by lia) (gp hc g1 g1') g2 g2' g3 g3';simpa using this
   have e1:(J4.length==its'.length)=θ:=by simpa using O
   rw[e1,qm3,show min J4.length its'.length=J4.length by lia];exact⟨by simpa using qx7.lists (A:=A) (e:=di l m) pt.isList Z.isList (by simpa using O) Θ he,by simpa using za8.lists (A:=A) (e:=di l m) pt.isList Z.isList (by simpa using O) Θ he⟩
  .have e1:(J4.length==its'.length)=ξ:=by simpa using O
   rw[e1,qo7];exact⟨qx8 pt.isList Z.isList (by simpa using O) Θ,za8.lists_lengths pt.isList Z.isList (by simpa using O) Θ⟩
def As(K:xA9)(neg:Bool):R2:=fun x y H Q=>∃d e,((∃l m,d=.t l/\e=.t m)∨∃l m,d=.e l/\e=.e m)/\Rep K H d x/\Rep K H e y/\fF d e=θ/\ji d<=60/\Q (.bl (if neg then !peq d e else peq d e)) H
theorem Dl{k:Nat}(hr:Room k X.A)(O:X.K=K):OpR X (qe4 .Eq) (As K ξ):=by subst O;intro J1 s σ H x y v u Q I rx ry h;obtain⟨d,e,hq,hd,Z,hc,U,q⟩:=h;have hu:=hr.units;exact(BY I hq Θ hc hd Z rx ry).1 _ _ _ _ ⟨.bl (peq d e),H,I,rfl,q⟩
theorem Dm{k:Nat}(hr:Room k X.A)(O:X.K=K):OpR X (qe4 .NotEq) (As K θ):=by subst O;intro J1 s σ H x y v u Q I rx ry h;obtain⟨d,e,hq,hd,Z,hc,U,q⟩:=h;have hu:=hr.units;exact(BY I hq Θ hc hd Z rx ry).2 _ _ _ _ ⟨.bl (!peq d e),H,I,rfl,q⟩
end
end L2
namespace L2
open PySem PySem.Spec PyProof.Rows
abbrev NT(o:HO):Prop:=∀vs,o≠.t vs
structure Step(F H F' H':Hp):Prop where
 hh:Same H H'
 ff:Same F F'
 fh:Same F' H'
 nw:∀b o,F' b=ς o->F b=ς o∨H b=ψ∨∃vs,H b=ς (.t vs)
variable{u:HO}
section
variable{F H F' H' F1 H1:Hp}{p:J5}{o:HO}
theorem Step.refl(h:Same F H):Step F H F H:=⟨Same.refl _,Same.refl _,h,fun _ _ e=>.inl e⟩
theorem Step.trans(a:Step F H F1 H1)(b:Step F1 H1 F' H'):Step F H F' H':=
 ⟨a.hh.trans b.hh,a.ff.trans b.ff,b.fh,fun c o e=>by
  rcases b.nw c o e with z|z|⟨vs,z⟩
  .exact a.nw c o z
  .exact .inr (.inl (a.hh.free z))
  .cases q:H c with
   |none=>exact .inr (.inl rfl)
   |some u=>have:=a.hh c u q;rw[z]at this;cases this;exact .inr (.inr ⟨vs,rfl⟩)⟩
theorem Same.upd(O:H p=ψ):Same H (upd H p o):=fun b u e=>by rw[ax (aP e O)];exact e
theorem Step.new(h:Same F H)(U:H p=ψ):Step F H (upd F p o) (upd H p o) where
 hh:=Same.upd U
 ff:=Same.upd (h.free U)
 fh:=fun b u e=>by
  by_cases O:b=p
  .subst O;rw[aC]at e ⊢;exact e
  .rw[ax O]at e ⊢;exact h _ _ e
 nw:=fun b u e=>by
  by_cases O:b=p
  .subst O;exact .inr (.inl U)
  .rw[ax O]at e;exact .inl e
theorem Step.keepN{b:J5}(st:Step F H F' H')(Z:F b=ψ)(O:H b=ς u)(U:NT u:=by intro _ z;cases z):F' b=ψ:=by
 cases q:F' b with
 |none=>rfl
 |some o'=>
  rcases st.nw b o' q with z|z|⟨vs,z⟩
  .rw[Z]at z;cases z
  .rw[O]at z;cases z
  .rw[O]at z;cases z;exact absurd rfl (U vs)
theorem Step.made(h:Same F H)(O:H p=ψ):Step F H F (upd H p o) where
 hh:=Same.upd O
 ff:=Same.refl _
 fh:=h.trans (Same.upd O)
 nw:=fun b u e=>.inl e
end
def cV(K:xA9)(c:Str):ζ J5:=match xB9 K qb5 c with
 |some (ς (.ref C))=>ς C
 |_=>ψ
def RepX(K:xA9)(F:Hp)(c:Str)(l:η (Str×Dt))(v:V):Prop:=∃x C D f dx vs,v=.ref x/\cV K c=ς C/\cV K "DimError"=ς D/\XCl K C D f/\(∀g∈l.map (·.1),dZ K C g)∧F x=ς (XC x C dx)/\F dx=ς (XD dx ((l.map (·.1)).zip vs))/\Reps K F (l.map (·.2)) vs
variable{K:xA9}{F':Hp}{c:Str}{v:V}
theorem RepX.same{F:Hp}{l:η (Str×Dt)}(ff:Same F F')(h:RepX K F c l v):RepX K F' c l v:=by obtain⟨x,C,D,f,dx,vs,e,h1,h2,h3,U,Z,h6,O⟩:=h;exact⟨x,C,D,f,dx,vs,e,h1,h2,h3,U,ff _ _ Z,ff _ _ h6,O.same ff⟩
inductive T where
 |f (d:Dt)|e (l:List Dt)|dct (l:List (Key×Dt))|dcT (l:List (List Key×Dt))|fn (a:J5) (F0:Hp)|exc (c:Str) (l:List (Str×Dt))|rse (c:Str) (l:List (Str×Dt))
def T.d:T->ζ Dt
 |.f d=>ς d
 |.e l=>ς (.e l)
 |.dct l=>ς (.dct (l.map (·.1)) (l.map (·.2)))
 |.dcT l=>ς (.dcT (l.map (·.1)) (l.map (·.2)))
 |.fn _ _|.exc _ _|.rse _ _=>ψ
def T.own:T->Bool
 |.f _|.fn _ _|.exc _ _|.rse _ _=>ξ
 |_=>θ
def Own(K:xA9)(F H:Hp):T->V->(J5->Prop)->Prop
 |.f d,v,_=>Rep K F d v
 |.e l,v,S=>∃a vs,v=.ref a/\S a/\H a=ς (.e vs)/\Reps K F l vs
 |.dct l,v,S=>∃a J3,v=.ref a/\S a/\H a=ς (.dK J3)/\J3.map (·.1)=l.map (·.1)/\Reps K F (l.map (·.2)) (J3.map (·.2))
 |.dcT l,v,S=>∃a J3,v=.ref a/\S a/\H a=ς (.dT J3)/\J3.map (·.1)=l.map (·.1)/\Reps K F (l.map (·.2)) (J3.map (·.2))
 |.fn a F0,v,_=>v=.ref a/\Same F0 F
 |.exc c l,v,_=>RepX K F c l v
 |.rse _ _,_,_=>False
def RepB(K:xA9)(F H:Hp):Dt->V->Prop
 |.e l,v=>∃a vs,v=.ref a/\SqL K H a vs/\Reps K F l vs
 |.dct ks l,v=>∃a J3,v=.ref a/\Rd H a (.dK J3)/\J3.map (·.1)=ks/\Reps K F l (J3.map (·.2))
 |.dcT ks l,v=>∃a J3,v=.ref a/\Rd H a (.dT J3)/\J3.map (·.1)=ks/\Reps K F l (J3.map (·.2))
 |.non,v=>v=.non
 |.bl b,v=>v=.bl b
 |.int i,v=>v=.int i
 |.str x,v=>v=.str x
 |.t l,v=>∃a vs,v=.ref a/\SqT K F a vs/\Reps K F l vs
variable{S':J5->Prop}
section
variable{K:xA9}{F H F' H':Hp}{t:T}{v:V}{d:Dt}{S:J5->Prop}
theorem Own.step(ff:Same F F')(U:∀b o,S b->H b=ς o->H' b=ς o)(h:Own K F H t v S):Own K F' H' t v S:=by
 induction t with
 |f d=>exact Rep.same ff h
 |e l=>obtain⟨a,vs,e,O,h1,h2⟩:=h;exact⟨a,vs,e,O,U _ _ O h1,h2.same ff⟩
 |dct l=>obtain⟨a,vs,e,O,h1,h2,h3⟩:=h;exact⟨a,vs,e,O,U _ _ O h1,h2,h3.same ff⟩
 |dcT l=>obtain⟨a,vs,e,O,h1,h2,h3⟩:=h;exact⟨a,vs,e,O,U _ _ O h1,h2,h3.same ff⟩
 |fn a F0=>exact⟨h.1,h.2.trans ff⟩
 |exc c l=>exact RepX.same ff h
 |rse c l=>exact h
theorem Own.grow(O:∀b,S b->S' b)(h:Own K F H t v S):Own K F H t v S':=by
 induction t with
 |f d=>exact h
 |e l=>obtain⟨a,vs,e,q,h1⟩:=h;exact⟨a,vs,e,O _ q,h1⟩
 |dct l=>obtain⟨a,vs,e,q,h1⟩:=h;exact⟨a,vs,e,O _ q,h1⟩
 |dcT l=>obtain⟨a,vs,e,q,h1⟩:=h;exact⟨a,vs,e,O _ q,h1⟩
 |fn a F0=>exact h
 |exc c l=>exact h
 |rse c l=>exact h
theorem RepB.of(fh:Same F H)(h:Rep K F d v):RepB K F H d v:=by
 cases d with
 |e l=>simp only[Rep]at h;obtain⟨a,vs,e,h1,h2⟩:=h;exact⟨a,vs,e,fh.seq h1,h2⟩
 |dct ks l=>simp only[Rep]at h;obtain⟨a,vs,e,h1,h2⟩:=h;exact⟨a,vs,e,fh.rd h1,h2⟩
 |dcT ks l=>simp only[Rep]at h;obtain⟨a,vs,e,h1,h2⟩:=h;exact⟨a,vs,e,fh.rd h1,h2⟩
 |t l=>simp only[Rep]at h;exact h
 |_=>simp only[Rep]at h;exact h
theorem RepB.rep(fh:Same F H)(h:RepB K F H d v):Rep K H d v:=by
 cases d with
 |e l=>obtain⟨a,vs,e,h1,h2⟩:=h;simp only[Rep];exact⟨a,vs,e,h1,h2.same fh⟩
 |dct ks l=>obtain⟨a,vs,e,h1,h2,h3⟩:=h;simp only[Rep];exact⟨a,vs,e,h1,h2,h3.same fh⟩
 |dcT ks l=>obtain⟨a,vs,e,h1,h2,h3⟩:=h;simp only[Rep];exact⟨a,vs,e,h1,h2,h3.same fh⟩
 |t l=>obtain⟨a,vs,e,h1,h2⟩:=h;simp only[Rep];exact⟨a,vs,e,fh.tup h1,h2.same fh⟩
 |_=>simp only[Rep];exact h
theorem RepB.step(ff:Same F F')(O:Same H H')(h:RepB K F H d v):RepB K F' H' d v:=by
 cases d with
 |e l=>obtain⟨a,vs,e,h1,h2⟩:=h;exact⟨a,vs,e,O.seq h1,h2.same ff⟩
 |dct ks l=>obtain⟨a,vs,e,h1,h2,h3⟩:=h;exact⟨a,vs,e,O.rd h1,h2,h3.same ff⟩
 |dcT ks l=>obtain⟨a,vs,e,h1,h2,h3⟩:=h;exact⟨a,vs,e,O.rd h1,h2,h3.same ff⟩
 |t l=>obtain⟨a,vs,e,h1,h2⟩:=h;exact⟨a,vs,e,ff.tup h1,h2.same ff⟩
 |_=>exact h
theorem Own.repB(fh:Same F H)(h:Own K F H t v S)(hd:t.d=ς d):RepB K F H d v:=by
 cases t with
 |f d=>cases hd;exact RepB.of fh h
 |e l=>cases hd;obtain⟨a,vs,e,_,h1,h2⟩:=h;exact⟨a,vs,e,SqL.of h1,h2⟩
 |dct l=>cases hd;obtain⟨a,vs,e,_,h1,h2⟩:=h;exact⟨a,vs,e,.inl h1,h2⟩
 |dcT l=>cases hd;obtain⟨a,vs,e,_,h1,h2⟩:=h;exact⟨a,vs,e,.inl h1,h2⟩
 |fn a F0=>cases hd
 |exc c l=>cases hd
 |rse c l=>cases hd
open Classical in
def sA(F H:Hp)(S:J5->Prop):Hp:=fun b=>if S b then H b else F b
theorem k6{b:J5}(h:S b):sA F H S b=H b:=if_pos h
theorem im{b:J5}(h:¬ S b):sA F H S b=F b:=if_neg h
theorem oP(O:∀b,S b->F b=ψ):Same F (sA F H S):=fun b o e=>by
 have:¬ S b:=fun z=>by rw[O b z]at e;cases e
 rw[im this];exact e
theorem uh(fh:Same F H):Same (sA F H S) H:=fun b o e=>by
 by_cases h:S b
 .rw[k6 h]at e;exact e
 .rw[im h]at e;exact fh _ _ e
theorem Own.freeze(O:∀b,S b->F b=ψ)(h:Own K F H t v S)(hd:t.d=ς d):Rep K (sA F H S) d v:=by
 have ff:=oP (H:=H) O;cases t with
 |f d=>cases hd;exact Rep.same ff h
 |e l=>cases hd;obtain⟨a,vs,e,q,h1,h2⟩:=h;simp only[Rep];exact⟨a,vs,e,SqL.of (by rw[k6 q];exact h1),h2.same ff⟩
 |dct l=>cases hd;obtain⟨a,vs,e,q,h1,h2,h3⟩:=h;simp only[Rep];exact⟨a,vs,e,.inl (by rw[k6 q];exact h1),h2,h3.same ff⟩
 |dcT l=>cases hd;obtain⟨a,vs,e,q,h1,h2,h3⟩:=h;simp only[Rep];exact⟨a,vs,e,.inl (by rw[k6 q];exact h1),h2,h3.same ff⟩
 |fn a F0=>cases hd
 |exc c l=>cases hd
 |rse c l=>cases hd
end
abbrev Ix:=Nat
abbrev De:=η (ζ T)
structure Sep(K:xA9)(F H:Hp)(B:J5->Prop)(L:Ix->Option (T×V))(S:Ix->J5->Prop):Prop where
 own:∀i t v,L i=ς (t,v)->Own K F H t v (S i)
 out:∀i b,S i b->F b=ψ/\(∃o,H b=ς o/\NT o)/\B b
 dis:∀i j b,S i b->S j b->i=j
def qm(δ:De)(σ:St)(i:Nat):ζ (T×V):=match δ[i]?,σ[i]? with
 |some (ς t),ς (ς v)=>ς (t,v)
 |_,_=>ψ
structure Fm where
 K:xA9
 F0:Hp
 H0:Hp
 S0:J5->Prop
def Fm.B(Φ:Fm)(b:J5):Prop:=Φ.H0 b=ψ∨Φ.S0 b
structure En(Φ:Fm)(δ:De)(σ:St)(F H:Hp):Prop where
 fh:Same F H
 prot:∀b o,Φ.H0 b=ς o->¬ Φ.S0 b->H b=ς o
 old:Same Φ.F0 F
 nw:∀b o,F b=ς o->Φ.F0 b=ς o∨Φ.B b∨∃vs,Φ.H0 b=ς (.t vs)
 len:δ.length=σ.length
 has:∀(i:Nat)(t:T),δ[i]?=ς (ς t)->∃v,σ[i]?=ς (ς v)
 sep:∃S,Sep Φ.K F H Φ.B (qm δ σ) S
variable{i:Nat}{a:J5}
section
variable{Φ:Fm}{δ:De}{σ:St}{F H F' H':Hp}
theorem cc{t:T}(h1:δ[i]?=ς (ς t))(h2:σ[i]?=ς (ς v)):qm δ σ i=ς (t,v):=by unfold qm;rw[h1,h2]
theorem gq{t:T}(h:qm δ σ i=ς (t,v)):δ[i]?=ς (ς t)/\σ[i]?=ς (ς v):=by
 unfold qm at h;split at h
 .rename_i e1 e2;cases h;exact⟨e1,e2⟩
 .cases h
theorem En.fresh(e:En Φ δ σ F H){p:J5}(O:H p=ψ):Φ.B p:=by
 by_cases h:Φ.S0 p
 .exact .inr h
 .left;cases q:Φ.H0 p with
  |none=>rfl
  |some o=>rw[e.prot p o q h]at O;cases O
theorem Sep.step{B:J5->Prop}{L:Ix->ζ (T×V)}{S:Ix->J5->Prop}(s:Sep K F H B L S)(st:Step F H F' H'):Sep K F' H' B L S where
 own:=fun i t v h=>(s.own i t v h).step st.ff fun b o _ e=>st.hh b o e
 out:=fun i b h=>by obtain⟨h1,⟨o,h2,O⟩,h3⟩:=s.out i b h;exact⟨st.keepN h1 h2 O,⟨o,st.hh _ _ h2,O⟩,h3⟩
 dis:=s.dis
theorem En.step(e:En Φ δ σ F H)(st:Step F H F' H'):En Φ δ σ F' H' where
 fh:=st.fh
 prot:=fun b o h1 h2=>st.hh _ _ (e.prot b o h1 h2)
 old:=e.old.trans st.ff
 nw:=fun b o h=>by
  rcases st.nw b o h with z|z|⟨vs,z⟩
  .exact e.nw b o z
  .exact .inr (.inl (e.fresh z))
  .cases q:Φ.H0 b with
   |none=>exact .inr (.inl (.inl q))
   |some u=>
    by_cases O:Φ.S0 b
    .exact .inr (.inl (.inr O))
    .rw[e.prot b u q O]at z;cases z;exact .inr (.inr ⟨vs,rfl⟩)
 len:=e.len
 has:=e.has
 sep:=let ⟨S,s⟩:=e.sep;⟨S,s.step st⟩
theorem En.slot(e:En Φ δ σ F H){t:T}{d:Dt}(h:δ[i]?=ς (ς t))(hd:t.d=ς d):∃v,σ[i]?=ς (ς v)/\RepB Φ.K F H d v:=by obtain⟨v,O⟩:=e.has i t h;obtain⟨S,s⟩:=e.sep;exact⟨v,O,(s.own i t v (cc h O)).repB e.fh hd⟩
theorem En.leaf(e:En Φ δ σ F H){d:Dt}(h:δ[i]?=ς (ς (.f d))):∃v,σ[i]?=ς (ς v)/\Rep Φ.K F d v:=by obtain⟨v,O⟩:=e.has i _ h;obtain⟨S,s⟩:=e.sep;exact⟨v,O,s.own i _ v (cc h O)⟩
theorem fT{α:Type}{l:η (ζ α)}{j:Nat}{x y:ζ α}(h:(l.set i x)[j]?=ς y):(i=j/\y=x)∨(i≠j/\l[j]?=ς y):=by
 by_cases O:i=j
 .subst O;left;rw[List.getElem?_set]at h;simp only[if_true]at h;split at h
  .cases h;exact⟨rfl,rfl⟩
  .cases h
 .right;rw[gN O]at h;exact⟨O,h⟩
theorem En.put(e:En Φ δ σ F H){t:T}(st:Step F H F' H')(ho:Own Φ.K F' H' t v S')(hs:∀b,S' b->F' b=ψ/\H b=ψ/\∃o,H' b=ς o/\NT o)(i:Nat):En Φ (δ.set i (ς t)) (σ.set i (ς v)) F' H':=by
 have e':=e.step st;obtain⟨S,s⟩:=e.sep;have s':=s.step st;refine⟨e'.fh,e'.prot,e'.old,e'.nw,by simp[e.len],fun j u h=>?_,fun j b=>if j=i then S' b else S j b,?_,?_,?_⟩
 .rcases fT h with ⟨rfl,z⟩|⟨Z,z⟩
  .have hi:i<σ.length:=by rw[<- e.len];have:=(gX h).1;simpa using this
   exact⟨v,by simp[hi]⟩
  .obtain⟨w,hw⟩:=e.has j u z;exact⟨w,by rw[gN Z];exact hw⟩
 .intro j u w h;obtain⟨h1,h2⟩:=gq h;rcases fT h1 with ⟨rfl,z⟩|⟨Z,z⟩
  .rcases fT h2 with ⟨_,U⟩|⟨hn2,_⟩
   .cases z;cases U;show Own _ _ _ _ _ (fun b=>if i=i then S' b else S i b);simp only[if_true];exact ho
   .exact absurd rfl hn2
  .rcases fT h2 with ⟨U,_⟩|⟨_,U⟩
   .exact absurd U Z
   .have:¬ j=i:=fun q=>Z q.symm
    show Own _ _ _ _ _ (fun b=>if j=i then S' b else S j b);simp only[if_neg this];exact s'.own j u w (cc z U)
 .intro j b h;split at h
  .obtain⟨h1,h2,h3⟩:=hs b h;exact⟨h1,h3,e.fresh h2⟩
  .exact s'.out _ b h
 .have O:∀j b,S j b->¬ S' b:=fun j b h z=>by obtain⟨_,⟨o,h2,_⟩,_⟩:=s.out j b h;rw[(hs b z).2.1]at h2;cases h2
  intro j k b hj hk;split at hj<;>split at hk
  .rename_i q1 q2;rw[q1,q2]
  .exact absurd hj (O _ b hk)
  .exact absurd hk (O _ b hj)
  .exact s.dis _ _ b hj hk
theorem vH{t:T}{S:J5->Prop}(O:t.own=θ)(h:Own K F H t (.ref a) S):S a:=by
 cases t with
 |f d=>cases O
 |e l=>obtain⟨b,_,e,q,_⟩:=h;cases e;exact q
 |dct l=>obtain⟨b,_,e,q,_⟩:=h;cases e;exact q
 |dcT l=>obtain⟨b,_,e,q,_⟩:=h;cases e;exact q
 |fn b F0=>cases O
 |exc c l=>cases O
 |rse c l=>cases O
theorem En.poke (e:En Φ δ σ F H) {t t':T} {o:HO} (h:δ[i]?=ς (ς t)) (U:σ[i]?=ς (ς (.ref a))) (ht:t.own=θ) (ho:∀ S:J5->Prop,S a->Own Φ.K F (upd H a o) t' (.ref a) S) (nt:NT o:=by intro _ z;cases z) :
  En Φ (δ.set i (ς t')) σ F (upd H a o):=by
 obtain⟨S,s⟩:=e.sep;have Z:S i a:=vH ht (s.own i t _ (cc h U));obtain⟨fa,⟨oa,ha,_⟩,ba⟩:=s.out _ a Z;have hi:i<δ.length:=(gX h).1;refine⟨fun b u z=>?_,fun b u h1 h2=>?_,e.old,e.nw,by simp[e.len],fun j u z=>?_,S,fun j u w z=>?_,fun j b z=>?_,s.dis⟩
 .have:b≠a:=fun q=>by rw[q,fa]at z;cases z
  rw[ax this];exact e.fh _ _ z
 .have:b≠a:=fun q=>by
   subst q;rcases ba with z|z
   .rw[z]at h1;cases h1
   .exact h2 z
  rw[ax this];exact e.prot b u h1 h2
 .rcases fT z with ⟨rfl,_⟩|⟨hn,z⟩
  .exact⟨_,U⟩
  .exact e.has j u z
 .obtain⟨h1,h2⟩:=gq z;rcases fT h1 with ⟨rfl,O⟩|⟨hn,O⟩
  .cases O;rw[U]at h2;cases h2;exact ho _ Z
  .refine(s.own j u w (cc O h2)).step (Same.refl _) fun b q hb hq=>?_
   have:b≠a:=fun y=>by subst y;exact hn (s.dis _ _ _ hb Z).symm
   rw[ax this];exact hq
 .obtain⟨h1,⟨q,h2,n2⟩,h3⟩:=s.out j b z;refine⟨h1,?_,h3⟩;by_cases y:b=a
  .subst y;exact⟨o,aC,nt⟩
  .exact⟨q,by rw[ax y];exact h2,n2⟩
theorem En.freeze(e:En Φ δ σ F H){t:T}{d:Dt}(h:δ[i]?=ς (ς t))(hd:t.d=ς d):∃F',En Φ (δ.set i (ς (.f d))) σ F' H:=by
 obtain⟨S,s⟩:=e.sep;obtain⟨v,U⟩:=e.has i t h;have so:=s.own i t v (cc h U);have sn:∀b,S i b->F b=ψ:=fun b z=>(s.out _ b z).1
 have ff:=oP (H:=H) sn;refine⟨sA F H (S i),uh e.fh,e.prot,e.old.trans ff,fun b o z=>?_,by simp[e.len],fun j u z=>?_,fun j b=>S j b/\j≠i,fun j u w z=>?_,fun j b z=>?_,fun j k b h1 h2=>s.dis _ _ b h1.1 h2.1⟩
 .by_cases hb:S i b
  .exact .inr (.inl (s.out _ b hb).2.2)
  .rw[im hb]at z;exact e.nw b o z
 .rcases fT z with ⟨rfl,_⟩|⟨Z,z⟩
  .exact⟨_,U⟩
  .exact e.has j u z
 .obtain⟨h1,h2⟩:=gq z;rcases fT h1 with ⟨rfl,O⟩|⟨Z,O⟩
  .cases O;rw[U]at h2;cases h2;exact so.freeze sn hd
  .refine((s.own j u w (cc O h2)).step ff fun _ _ _ q=>q).grow fun b q=>⟨q,fun y=>Z y.symm⟩
 .obtain⟨h1,h2,h3⟩:=s.out j b z.1;refine⟨?_,h2,h3⟩;rw[im fun y=>z.2 (s.dis _ _ b z.1 y)];exact h1
end
def KO(K:xA9)(F H:Hp)(t:T)(Q:VK):Prop:=∀v H' F' S,Step F H F' H'->Own K F' H' t v S->(∀b,S b->F' b=ψ/\H b=ψ/\∃o,H' b=ς o/\NT o)->Q v H'
def KL(K:xA9)(F H:Hp)(d:Dt)(Q:VK):Prop:=∀v H' F',Step F H F' H'->Rep K F' d v->Q v H'
def KB(K:xA9)(F H:Hp)(d:Dt)(Q:VK):Prop:=∀v H' F',Step F H F' H'->RepB K F' H' d v->Q v H'
section
variable{K:xA9}{F H F1 H1:Hp}{t:T}{d:Dt}{Q:VK}
theorem KO.step(k:KO K F H t Q)(st:Step F H F1 H1):KO K F1 H1 t Q:=fun v H' F' S s o O=>k v H' F' S (st.trans s) o fun b z=>⟨(O b z).1,st.hh.free (O b z).2.1,(O b z).2.2⟩
theorem KO.leaf(k:KO K F H (.f d) Q):KL K F H d Q:=fun v H' F' st r=>k v H' F' (fun _=>False) st r fun _ z=>z.elim
theorem KL.here(k:KL K F H d Q)(fh:Same F H)(r:Rep K F d v):Q v H:=k v H F (Step.refl fh) r
theorem KB.to(k:KB K F H d Q):KL K F H d Q:=fun v H' F' st r=>k v H' F' st (RepB.of st.fh r)
theorem KL.to(hd:t.d=ς d)(k:KL K F H d Q):KO K F H t Q:=fun v H' F' S st o O=>by
 refine k v H' (sA F' H' S) ⟨st.hh,st.ff.trans (oP fun b z=>(O b z).1),uh st.fh,fun b u z=>?_⟩ (o.freeze (fun b z=>(O b z).1) hd);by_cases U:S b
 .exact .inr (.inl (O b U).2.1)
 .rw[im U]at z;exact st.nw b u z
theorem KB.toO(hd:t.d=ς d)(k:KB K F H d Q):KO K F H t Q:=fun v H' F' S st o O=>k v H' F' st (o.repB st.fh hd)
end
def tO(K:xA9)(f:De->ζ T):TE:=fun σ H Q=>∃ Φ δ F t,Fm.K Φ=K/\En Φ δ σ F H/\f δ=ς t/\KO K F H t Q
def tL(K:xA9)(f:De->ζ Dt):TE:=fun σ H Q=>∃ Φ δ F d,Fm.K Φ=K/\En Φ δ σ F H/\f δ=ς d/\KL K F H d Q
def tBd(K:xA9)(f:De->ζ Dt):TE:=fun σ H Q=>∃ Φ δ F d,Fm.K Φ=K/\En Φ δ σ F H/\f δ=ς d/\KB K F H d Q
def tTr(K:xA9)(f:De->ζ Bool):TT:=fun σ H Q=>∃ Φ δ F b,Fm.K Φ=K/\En Φ δ σ F H/\f δ=ς b/\∀H' F',Step F H F' H'->Q b H'
def DO(X:Cx)(e:J9)(f:De->ζ T):Prop:=PE X e (tO X.K f)
def DL(X:Cx)(e:J9)(f:De->ζ Dt):Prop:=PE X e (tL X.K f)
def DB(X:Cx)(e:J9)(f:De->ζ Dt):Prop:=PE X e (tBd X.K f)
def DT(X:Cx)(e:J9)(f:De->ζ Bool):Prop:=PT X e (tTr X.K f)
def DW(X:Cx)(e:J9)(f:De->ζ Bool):Prop:=PW X e (tTr X.K f)
variable{X:Cx}{e:J9}
theorem PE.mono{t t':TE}(h:PE X e t)(m:∀ σ H Q,t' σ H Q->t σ H Q):PE X e t':=fun J1 s σ H Q I q=>h J1 s σ H Q I (m _ _ _ q)
variable{t':TT}
theorem PT.mono{t:TT}(h:PT X e t)(m:∀ σ H Q,t' σ H Q->t σ H Q):PT X e t':=fun J1 s σ H Q I q=>h J1 s σ H Q I (m _ _ _ q)
theorem PW.mono{t:TT}(h:PW X e t)(m:∀ σ H Q,t' σ H Q->t σ H Q):PW X e t':=fun O J1 s σ H Q I q=>h O J1 s σ H Q I (m _ _ _ q)
theorem PA.mono{e:η J9}{t t':TA}(h:PA X e t)(m:∀ σ H Q,t' σ H Q->t σ H Q):PA X e t':=fun pos J1 s σ H Q I q=>h pos J1 s σ H Q I (m _ _ _ q)
variable{tg:J9}
theorem PI.mono{t t':TI}(h:PI X tg e t)(m:∀ σ H Q,t' σ H Q->t σ H Q):PI X tg e t':=fun J1 s σ H Q I q=>h J1 s σ H Q I (m _ _ _ q)
theorem PG.mono{t t':TG}(h:PG X e t)(m:∀v σ H Q,t' v σ H Q->t v σ H Q):PG X e t':=fun J1 s σ H v u Q I r q=>h J1 s σ H v u Q I r (m _ _ _ _ q)
theorem PS.mono{e:J8}{t t':TS}(h:PS X e t)(m:∀D σ H,t' D σ H->t D σ H):PS X e t':=fun J1 s σ H Q I q=>h J1 s σ H Q I (m _ _ _ q)
theorem PSs.mono{e:η J8}{t t':TS}(h:PSs X e t)(m:∀D σ H,t' D σ H->t D σ H):PSs X e t':=fun J1 s σ H Q I q=>h J1 s σ H Q I (m _ _ _ q)
theorem PE.or{t t':TE}(h:PE X e t)(h':PE X e t'):PE X e (fun σ H Q=>t σ H Q∨t' σ H Q):=fun J1 s σ H Q I q=>q.elim (h J1 s σ H Q I) (h' J1 s σ H Q I)
theorem PI.or{t t':TI}(h:PI X tg e t)(h':PI X tg e t'):PI X tg e (fun σ H Q=>t σ H Q∨t' σ H Q):=fun J1 s σ H Q I q=>q.elim (h J1 s σ H Q I) (h' J1 s σ H Q I)
variable{x:Str}{r:R2}{σ:St}{H:Hp}{Q:VK}{op:CmpOp}{l ds:η Dt}{vs:η V}{n:Nat}{ps:η Str}
section
variable{X:Cx}{e a b c:J9}{f:De->ζ T}{g fa fb fc:De->ζ Dt}{pos:Pos}
def toD(f:De->ζ T):De->ζ Dt:=fun δ=>(f δ).bind T.d
def toT(f:De->ζ Dt):De->ζ T:=fun δ=>(f δ).map T.f
theorem DO.toL(h:DO X e f):DL X e (toD f):=PE.mono h fun σ H Q ⟨Φ,δ,F,d,O,en,U,k⟩=>by obtain⟨t,Z,hd⟩:=bS U;exact⟨Φ,δ,F,t,O,en,Z,KL.to hd k⟩
theorem DO.toB(h:DO X e f):DB X e (toD f):=PE.mono h fun σ H Q ⟨Φ,δ,F,d,O,en,U,k⟩=>by obtain⟨t,Z,hd⟩:=bS U;exact⟨Φ,δ,F,t,O,en,Z,KB.toO hd k⟩
theorem DL.toB(h:DL X e g):DB X e g:=PE.mono h fun σ H Q ⟨Φ,δ,F,d,O,Z,U,k⟩=>⟨Φ,δ,F,d,O,Z,U,k.to⟩
theorem DL.toO(h:DL X e g):DO X e (toT g):=PE.mono h fun σ H Q ⟨Φ,δ,F,t,U,Z,O,k⟩=>by
 unfold toT at O;cases hd:g δ with
 |none=>rw[hd]at O;cases O
 |some d=>rw[hd]at O;cases O;exact⟨Φ,δ,F,d,U,Z,hd,k.leaf⟩
def vL(i:Nat):De->ζ Dt:=fun δ=>match δ[i]? with
 |some (ς (.f d))=>ς d
 |_=>ψ
def vB(i:Nat):De->ζ Dt:=fun δ=>match δ[i]? with
 |some (ς t)=>t.d
 |_=>ψ
theorem aR(h:PE X e (gF i)):DL X e (vL i):=PE.mono h fun σ H Q ⟨Φ,δ,F,d,Z,U,O,k⟩=>by
 unfold vL at O;split at O
 .rename_i q;cases O;obtain⟨v,h1,h2⟩:=U.leaf q;exact⟨v,h1,k.here U.fh (Z▸h2)⟩
 .cases O
theorem aj(h:PE X e (gF i)):DB X e (vB i):=PE.mono h fun σ H Q ⟨Φ,δ,F,d,Z,U,O,k⟩=>by
 unfold vB at O;split at O
 .rename_i q;obtain⟨v,h1,h2⟩:=U.slot q O;exact⟨v,h1,k v H F (Step.refl U.fh) (Z▸h2)⟩
 .cases O
def kD(d:Dt):De->ζ Dt:=fun _=>ς d
theorem xt{d:Dt}(h:PE X e (tC v))(r:∀F,Rep X.K F d v):DL X e (kD d):=PE.mono h fun σ H Q ⟨Φ,δ,F,d',Z,U,O,k⟩=>by cases O;exact k.here U.fh (r F)
theorem aY{i:Int}{j}:DL X (.Constant (.int i) j pos) (kD (.int i)):=xt Cu fun F=>by simp only[Rep]
theorem jy{i:Bool}{j}:DL X (.Constant (.bool i) j pos) (kD (.bl i)):=xt EQ fun F=>by simp only[Rep]
theorem cS{j}:DL X (.Constant .none j pos) (kD .non):=xt wx fun F=>by simp only[Rep]
theorem av{j}:DL X (.Constant (.str x) j pos) (kD (.str x)):=xt Cv fun F=>by simp only[Rep]
def R2D(K:xA9)(r:R2)(g:Dt->Dt->ζ T):Prop:=∀F H x y vx vy (Q:VK) t,Same F H->RepB K F H x vx->RepB K F H y vy->g x y=ς t->KO K F H t Q->r vx vy H Q
def d2(g:Dt->Dt->ζ T)(fa fb:De->ζ Dt):De->ζ T:=fun δ=>(fa δ).bind fun x=>(fb δ).bind fun y=>g x y
theorem nh{g:Dt->Dt->ζ T}(hr:R2D K r g)(h:tO K (d2 g fa fb) σ H Q):tOp r (tBd K fa) (tBd K fb) σ H Q:=by obtain⟨Φ,δ,F,t,hK,en,U,k⟩:=h;unfold d2 at U;obtain⟨x,hx,U⟩:=bS U;obtain⟨y,hy,U⟩:=bS U;exact⟨Φ,δ,F,x,hK,en,hx,fun v H1 F1 st rv=>⟨Φ,δ,F1,y,hK,en.step st,hy,fun v2 H2 F2 O Z=>hr F2 H2 x y v v2 Q t O.fh (rv.step O.ff O.hh) Z U (k.step (st.trans O))⟩⟩
theorem aH{op:Operator}{g:Dt->Dt->ζ T}(Z:OpR X (qk8 op) r)(O:R2D X.K r g)(U:DB X a fa)(hb:DB X b fb):DO X (.BinOp a op b pos) (d2 g fa fb):=PE.mono (EZ Z U hb) fun σ H Q h=>nh O h
theorem io{g:Dt->Dt->ζ T}(Z:OpR X (qe4 op) r)(O:R2D X.K r g)(U:DB X a fa)(hb:DB X b fb)(hm:qh7 op b=ξ):DO X (.Compare a [op] [b] pos) (d2 g fa fb):=PE.mono (tU Z U hb hm) fun σ H Q h=>nh O h
def asB:T->ζ Bool
 |.f (.bl b)=>ς b
 |_=>ψ
def tB2(g:Dt->Dt->ζ T)(fa fb:De->ζ Dt):De->ζ Bool:=fun δ=>(d2 g fa fb δ).bind asB
theorem k7{F:Hp}{t:T}{S:J5->Prop}{b:Bool}(h:asB t=ς b)(o:Own K F H t v S):v=.bl b:=by
 unfold asB at h;split at h
 .cases h;have o:Rep K F (.bl b) v:=o;simp only[Rep]at o;exact o
 .cases h
theorem bA{g:Dt->Dt->ζ T}(ho:OpR X (qe4 op) r)(hr:R2D X.K r g)(Z:DB X a fa)(hb:DB X b fb)(hm:qh7 op b=ξ):DT X (.Compare a [op] [b] pos) (tB2 g fa fb):=PT.mono (kY ho Z hb hm) fun σ H Q ⟨Φ,δ,F,t,U,en,O,k⟩=>by unfold tB2 at O;obtain⟨z,hz,O⟩:=bS O;refine nh hr ⟨Φ,δ,F,z,U,en,hz,fun v H' F' S st o hs=>?_⟩;exact⟨t,k7 O o,k H' F' st⟩
def Dn:Dt->ζ Bool
 |.non=>ς ξ
 |.bl b=>ς b
 |.int i=>ς (i != 0)
 |.str x=>if x.length<=qa7 then ς ((x.length:Int) != 0)else ψ
 |.t l=>ς (!l.isEmpty)
 |.e l=>ς (!l.isEmpty)
 |_=>ψ
def dG(f:De->ζ Dt):De->ζ Bool:=fun δ=>(f δ).bind Dn
theorem jz{F:Hp}(h:Reps K F l vs):l.isEmpty=vs.isEmpty:=by
 cases l with
 |nil=>unfold Reps at h;rw[h];rfl
 |cons d l=>unfold Reps at h;obtain⟨v,ws,rfl,_⟩:=h;rfl
theorem At{F:Hp}{d:Dt}{b:Bool}(fh:Same F H)(h:RepB K F H d v)(O:Dn d=ς b):CU K v H b:=by
 cases d with
 |non=>cases h;cases O;rfl
 |bl x=>cases h;cases O;rfl
 |int x=>cases h;cases O;rfl
 |str x=>
  cases h;simp only[Dn]at O;split at O
  .cases O;exact⟨by assumption,rfl⟩
  .cases O
 |t l=>obtain⟨a,vs,rfl,h1,h2⟩:=h;cases O;exact .inr (.inl ⟨vs,fh.tup h1,by rw[jz h2]⟩)
 |e l=>obtain⟨a,vs,rfl,h1,h2⟩:=h;cases O;exact .inl ⟨vs,h1,by rw[jz h2]⟩
 |dct ks l=>cases O
 |dcT ks l=>cases O
theorem dI(ha:DB X a fa)(he:∀O,isTrue a X.env O=(do let v <- O;standAt a.pos;za2 [v] (truthy v))):DT X a (dG fa):=PT.mono (wM ha he) fun σ H Q ⟨Φ,δ,F,b,Z,en,U,k⟩=>by unfold dG at U;obtain⟨d,hd,U⟩:=bS U;exact⟨Φ,δ,F,d,Z,en,hd,fun v H' F' st r=>⟨b,At st.fh r U,k H' F' st⟩⟩
def ip(f:De->ζ Bool):De->ζ Bool:=fun δ=>(f δ).map (!·)
def cN(f g:De->ζ Bool):De->ζ Bool:=fun δ=>(f δ).bind fun b=>if b then g δ else ς ξ
def fOr(f g:De->ζ Bool):De->ζ Bool:=fun δ=>(f δ).bind fun b=>if b then ς θ else g δ
variable{ta tb tc:De->ζ Bool}{rest:η J9}
theorem lO(h:DT X a ta):DT X (.UnaryOp .Not a pos) (ip ta):=PT.mono (CA h) fun σ H Q ⟨Φ,δ,F,b,U,Z,O,k⟩=>by
 unfold ip at O;cases q:ta δ with
 |none=>rw[q]at O;cases O
 |some c=>rw[q]at O;cases O;exact⟨Φ,δ,F,c,U,Z,q,fun H' F' st=>k H' F' st⟩
theorem e8(h:DT X a ta):DW X (.BoolOp .And [a] pos) ta:=zS h
theorem oQ(h:DT X a ta):DW X (.BoolOp .Or [a] pos) ta:=Cy h
theorem gc(h:DT X a ta)(h':DW X (.BoolOp .And (b::rest) pos) tb):DW X (.BoolOp .And (a::b::rest) pos) (cN ta tb):=PW.mono (Cz h h') fun σ H Q ⟨Φ,δ,F,t,U,Z,O,k⟩=>by
 unfold cN at O;obtain⟨c,hc,O⟩:=bS O;refine⟨Φ,δ,F,c,U,Z,hc,fun H' F' st=>?_⟩;split at O
 .rename_i q;rw[if_pos q];exact⟨Φ,δ,F',t,U,Z.step st,O,fun H2 F2 s2=>k H2 F2 (st.trans s2)⟩
 .rename_i q;rw[if_neg q];cases O;exact k H' F' st
theorem qo(h:DT X a ta)(h':DW X (.BoolOp .Or (b::rest) pos) tb):DW X (.BoolOp .Or (a::b::rest) pos) (fOr ta tb):=PW.mono (ER h h') fun σ H Q ⟨Φ,δ,F,t,U,Z,O,k⟩=>by
 unfold fOr at O;obtain⟨c,hc,O⟩:=bS O;refine⟨Φ,δ,F,c,U,Z,hc,fun H' F' st=>?_⟩;split at O
 .rename_i q;rw[if_pos q];cases O;exact k H' F' st
 .rename_i q;rw[if_neg q];exact⟨Φ,δ,F',t,U,Z.step st,O,fun H2 F2 s2=>k H2 F2 (st.trans s2)⟩
theorem DW.t(h:DW X a ta):DT X a ta:=h.pt
def oR:Dt->ζ Bool
 |.bl b=>ς b
 |_=>ψ
def Au(f:De->ζ Dt):De->ζ T:=fun δ=>(f δ).bind fun x=>(oR x).map fun b=>.f (.bl (!b))
def iZ(f:De->ζ Dt)(g:De->ζ T):De->ζ T:=fun δ=>(f δ).bind fun x=>(oR x).bind fun b=>if b then g δ else ς (.f (.bl ξ))
def vOr(f:De->ζ Dt)(g:De->ζ T):De->ζ T:=fun δ=>(f δ).bind fun x=>(oR x).bind fun b=>if b then ς (.f (.bl θ))else g δ
def vIf(c:De->ζ Bool)(f g:De->ζ T):De->ζ T:=fun δ=>(c δ).bind fun b=>if b then f δ else g δ
theorem oS{F:Hp}{x:Dt}{b:Bool}(h:oR x=ς b)(r:RepB K F H x v):v=.bl b:=by
 unfold oR at h;split at h
 .cases h;exact r
 .cases h
theorem oU{F:Hp}{b:Bool}:Rep K F (.bl b) (.bl b):=by simp only[Rep]
theorem iR{F:Hp}{b:Int}:Rep K F (.int b) (.int b):=by simp only[Rep]
theorem gI{F:Hp}{b:Str}:Rep K F (.str b) (.str b):=by simp only[Rep]
theorem jA{F:Hp}:Rep K F .non .non:=by simp only[Rep]
variable{oa ob:De->ζ T}
theorem xu(h:DB X a fa):DO X (.UnaryOp .Not a pos) (Au fa):=PE.mono (CD h) fun σ H Q ⟨Φ,δ,F,t,U,en,O,k⟩=>by
 unfold Au at O;obtain⟨x,Z,O⟩:=bS O;cases q:oR x with
 |none=>rw[q]at O;cases O
 |some b=>rw[q]at O;cases O;exact⟨Φ,δ,F,x,U,en,Z,fun v H' F' st r=>⟨b,oS q r,(k.step st).leaf.here st.fh oU⟩⟩
theorem j9{op}(h:DO X a oa):DO X (.BoolOp op [a] pos) oa:=CB h
theorem jj(h:DB X a fa)(h':DO X (.BoolOp .And (b::rest) pos) ob):DO X (.BoolOp .And (a::b::rest) pos) (iZ fa ob):=PE.mono (CC h h') fun σ H Q ⟨Φ,δ,F,t,U,Z,O,k⟩=>by
 unfold iZ at O;obtain⟨x,hx,O⟩:=bS O;obtain⟨b,hb,O⟩:=bS O;refine⟨Φ,δ,F,x,U,Z,hx,fun v H' F' st r=>⟨b,oS hb r,?_⟩⟩;split at O
 .rename_i q;rw[if_pos q];exact⟨Φ,δ,F',t,U,Z.step st,O,k.step st⟩
 .rename_i q;rw[if_neg q];cases O;exact(k.step st).leaf.here st.fh oU
theorem Fn(h:DB X a fa)(h':DO X (.BoolOp .Or (b::rest) pos) ob):DO X (.BoolOp .Or (a::b::rest) pos) (vOr fa ob):=PE.mono (EU h h') fun σ H Q ⟨Φ,δ,F,t,U,Z,O,k⟩=>by
 unfold vOr at O;obtain⟨x,hx,O⟩:=bS O;obtain⟨b,hb,O⟩:=bS O;refine⟨Φ,δ,F,x,U,Z,hx,fun v H' F' st r=>⟨b,oS hb r,?_⟩⟩;split at O
 .rename_i q;rw[if_pos q];cases O;exact(k.step st).leaf.here st.fh oU
 .rename_i q;rw[if_neg q];exact⟨Φ,δ,F',t,U,Z.step st,O,k.step st⟩
theorem xv(hc:DT X c tc)(h:DO X a oa)(h':DO X b ob):DO X (.IfExp c a b pos) (vIf tc oa ob):=PE.mono (wy hc h h') fun σ H Q ⟨Φ,δ,F,t,U,Z,O,k⟩=>by
 unfold vIf at O;obtain⟨x,hx,O⟩:=bS O;refine⟨Φ,δ,F,x,U,Z,hx,fun H' F' st=>?_⟩;split at O
 .rename_i q;rw[if_pos q];exact⟨Φ,δ,F',t,U,Z.step st,O,k.step st⟩
 .rename_i q;rw[if_neg q];exact⟨Φ,δ,F',t,U,Z.step st,O,k.step st⟩
def qp(K:xA9)(F H:Hp):η Dt->η V->Prop
 |[],vs=>vs=[]
 |d::l,vs=>∃v ws,vs=v::ws/\RepB K F H d v/\qp K F H l ws
def tAL(K:xA9)(f:De->ζ (η Dt)):TA:=fun σ H Q=>∃ Φ δ F ds,Fm.K Φ=K/\En Φ δ σ F H/\f δ=ς ds/\∀vs H' F',Step F H F' H'->Reps K F' ds vs->Q vs H'
def tAB(K:xA9)(f:De->ζ (η Dt)):TA:=fun σ H Q=>∃ Φ δ F ds,Fm.K Φ=K/\En Φ δ σ F H/\f δ=ς ds/\∀vs H' F',Step F H F' H'->qp K F' H' ds vs->Q vs H'
structure DA(X:Cx)(es:List J9)(f:De->Option (List Dt)):Prop where
 len:∀ δ ds,f δ=ς ds->ds.length=es.length
 pa:PA X es (tAL X.K f)
structure DAB(X:Cx)(es:List J9)(f:De->Option (List Dt)):Prop where
 len:∀ δ ds,f δ=ς ds->ds.length=es.length
 pa:PA X es (tAB X.K f)
def af:De->ζ (η Dt):=fun _=>ς []
def aa(f:De->ζ Dt)(g:De->ζ (η Dt)):De->ζ (η Dt):=fun δ=>(f δ).bind fun d=>(g δ).bind fun ds=>ς (d::ds)
variable{es:η J9}{fs:De->ζ (η Dt)}
theorem ni{f:De->ζ Dt}(h:∀ δ ds,fs δ=ς ds->ds.length=n):∀ δ ds,aa f fs δ=ς ds->ds.length=n+1:=fun δ ds O=>by unfold aa at O;obtain⟨x,Z,O⟩:=bS O;obtain⟨y,U,O⟩:=bS O;cases O;simp[h δ y U]
theorem aL:DA X [] af:=⟨fun _ _ h=>by cases h;rfl,PA.mono ia fun σ H Q ⟨Φ,δ,F,ds,Z,U,O,k⟩=>by cases O;exact k [] H F (Step.refl U.fh) (by simp only[Reps])⟩
theorem cu:DAB X [] af:=⟨fun _ _ h=>by cases h;rfl,PA.mono ia fun σ H Q ⟨Φ,δ,F,ds,Z,U,O,k⟩=>by cases O;exact k [] H F (Step.refl U.fh) rfl⟩
theorem ar(h:DL X e g)(h':DA X es fs)(hs:qa2 (e::es) X.env=(ξ,eval e X.env)::qa2 es X.env:=by rfl):DA X (e::es) (aa g fs):=⟨ni h'.len,PA.mono (c8 h h'.pa hs) fun σ H Q ⟨Φ,δ,F,ds,U,Z,O,k⟩=>by unfold aa at O;obtain⟨x,hx,O⟩:=bS O;obtain⟨y,hy,O⟩:=bS O;cases O;exact⟨Φ,δ,F,x,U,Z,hx,fun v H1 F1 st r=>⟨Φ,δ,F1,y,U,Z.step st,hy,fun vs H2 F2 s2 r2=>k (v::vs) H2 F2 (st.trans s2) (by simp only[Reps];exact⟨v,vs,rfl,r.same s2.ff,r2⟩)⟩⟩⟩
theorem bP(h:DB X e g)(h':DAB X es fs)(hs:qa2 (e::es) X.env=(ξ,eval e X.env)::qa2 es X.env:=by rfl):DAB X (e::es) (aa g fs):=⟨ni h'.len,PA.mono (c8 h h'.pa hs) fun σ H Q ⟨Φ,δ,F,ds,U,Z,O,k⟩=>by unfold aa at O;obtain⟨x,hx,O⟩:=bS O;obtain⟨y,hy,O⟩:=bS O;cases O;exact⟨Φ,δ,F,x,U,Z,hx,fun v H1 F1 st r=>⟨Φ,δ,F1,y,U,Z.step st,hy,fun vs H2 F2 s2 r2=>k (v::vs) H2 F2 (st.trans s2) ⟨v,vs,rfl,r.step s2.ff s2.hh,r2⟩⟩⟩⟩
def cT(f:De->ζ (η Dt)):De->ζ T:=fun δ=>(f δ).bind fun ds=>if ds.length<=qa7 then ς (.f (.t ds))else ψ
def aZ(f:De->ζ (η Dt)):De->ζ T:=fun δ=>(f δ).bind fun ds=>if ds.length<=qa7 then ς (.e ds)else ψ
theorem oV{x1}(h:DA X es fs):DO X (.Tuple es x1 pos) (cT fs):=PE.mono (wO h.pa) fun σ H Q ⟨Φ,δ,F,t,Z,en,O,k⟩=>by
 unfold cT at O;obtain⟨ds,hd,O⟩:=bS O;split at O
 .rename_i hl;cases O;refine⟨Φ,δ,F,ds,Z,en,hd,fun vs H1 F1 st r=>⟨by rw[r.length];exact hl,fun p U=>?_⟩⟩;refine(k.step st).leaf _ _ _ (Step.new st.fh U) ?_;simp only[Rep];exact⟨p,vs,rfl,SqT.of aC,r.same (Same.upd (st.fh.free U))⟩
 .cases O
theorem jB{F:Hp}{p:J5}(k:KO K F H (.e ds) Q)(fh:Same F H)(r:Reps K F ds vs)(O:H p=ψ):Q (.ref p) (upd H p (.e vs)):=by
 refine k _ _ F (fun b=>b=p) (Step.made fh O) ⟨p,vs,rfl,rfl,aC,r⟩ fun b z=>?_
 subst z;exact⟨fh.free O,O,_,aC,nofun⟩
theorem bZ(h:DA X es fs):DO X (.List es pos) (aZ fs):=PE.mono (CW h.pa) fun σ H Q ⟨Φ,δ,F,t,U,en,O,k⟩=>by
 unfold aZ at O;obtain⟨ds,hd,O⟩:=bS O;split at O
 .rename_i Z;cases O;exact⟨Φ,δ,F,ds,U,en,hd,fun vs H1 F1 st r=>⟨by rw[r.length];exact Z,fun p hp=>jB (k.step st) st.fh r hp⟩⟩
 .cases O
def CRD(K:xA9)(r:η V->Hp->VK->Prop)(g:η Dt->ζ T):Prop:=∀F H ds vs (Q:VK) t,Same F H->qp K F H ds vs->g ds=ς t->KO K F H t Q->r vs H Q
def ag(g:η Dt->ζ T)(f:De->ζ (η Dt)):De->ζ T:=fun δ=>(f δ).bind g
theorem xy{r:η V->Hp->VK->Prop}{g:η Dt->ζ T}(hr:CRD K r g)(h:tO K (ag g fs) σ H Q):tCB r (tAB K fs) σ H Q:=by obtain⟨Φ,δ,F,t,U,Z,O,k⟩:=h;unfold ag at O;obtain⟨ds,hd,O⟩:=bS O;exact⟨Φ,δ,F,ds,U,Z,hd,fun vs H1 F1 st r=>hr F1 H1 ds vs Q t st.fh r O (k.step st)⟩
variable{x:Str}{p:Pos}{id Ty:String}{sc:Ja}{r:η V->Hp->VK->Prop}{gg:η Dt->ζ T}
theorem lP (h:aO sc x=θ) (hc:CallR X (.builtin id) r) (U:CRD X.K r gg) (hm:X.mg x=ψ) (hv:qd5 x=ς (.builtin id)) (Z:DAB X (e::es) fs) (e1:bU X sc:=by rfl)
  (he:qa2 (e::es) X.env=(ξ,eval e X.env)::qa2 es X.env:=by rfl) (O:(qf2 pos (qa2 es X.env)).any (·.1)=ξ:=by rfl):DO X (.Call (.Name x p) (e::es) [] pos) (ag gg fs):=
 PE.mono (iQ h hc hm hv Z.pa e1 he O) fun σ H Q q=>xy U q
theorem gr (h:aO sc x=θ) (hc:CallR X (.type Ty) r) (U:CRD X.K r gg) (hm:X.mg x=ψ) (hv:qd5 x=ς (.type Ty)) (Z:DAB X (e::es) fs) (e1:bU X sc:=by rfl)
  (he:qa2 (e::es) X.env=(ξ,eval e X.env)::qa2 es X.env:=by rfl) (O:(qf2 pos (qa2 es X.env)).any (·.1)=ξ:=by rfl):DO X (.Call (.Name x p) (e::es) [] pos) (ag gg fs):=
 PE.mono (sw h hc hm hv Z.pa e1 he O) fun σ H Q q=>xy U q
def spD(K:xA9)(n:Nat)(f:η Dt->ζ T):Sp:=fun vs H Q _=>∃F ds t,Same F H/\ds.length=n/\Reps K F ds vs/\f ds=ς t/\KO K F H t Q
theorem ce{k:Nat}{ff:η Dt->ζ T}(h:aO sc x=θ)(F:OkF X.prog X.w X.K X.mg X.base x k ps (spD X.K n ff))(hr:Room k X.A)(Z:DA X (e::es) fs)(hn:(e::es).length=n:=by rfl)(e1:bU X sc:=by rfl)
 (he:qa2 (e::es) X.env=(ξ,eval e X.env)::qa2 es X.env:=by rfl) (U:(qf2 pos (qa2 es X.env)).any (·.1)=ξ:=by rfl):DO X (.Call (.Name x p) (e::es) [] pos) (ag ff fs):=
 PE.mono (vG h F hr Z.pa e1 he U) fun σ H Q ⟨Φ,δ,Fz,t,hK,en,O,k⟩=>by unfold ag at O;obtain⟨ds,hd,O⟩:=bS O;refine⟨Φ,δ,Fz,ds,hK,en,hd,fun vs H1 F1 st r=>?_⟩;show spD X.K n ff (vs++[]) H1 Q E0;rw[qd2];exact⟨F1,ds,t,st.fh,(Z.len δ ds hd).trans hn,r,O,k.step st⟩
end
inductive Out where
 |nx (δ:De)|rt (t:T)|bk (δ:De)|ct (δ:De)
structure Rt(Φ:Fm)(t:T)(v:V)(F H:Hp):Prop where
 fh:Same F H
 prot:∀b o,Φ.H0 b=ς o->¬ Φ.S0 b->H b=ς o
 old:Same Φ.F0 F
 nw:∀b o,F b=ς o->Φ.F0 b=ς o∨Φ.B b∨∃vs,Φ.H0 b=ς (.t vs)
 own:∃S,Own Φ.K F H t v S/\∀b,S b->F b=ψ/\(∃o,H b=ς o/\NT o)/\Φ.B b
def Post(Φ:Fm)(D:Ends):Out->Prop
 |.nx δ=>∀ σ F H,En Φ δ σ F H->D.nx σ H
 |.rt t=>∀v F H,Rt Φ t v F H->D.rt v H
 |.bk δ=>∀ σ F H,En Φ δ σ F H->D.bk σ H
 |.ct δ=>∀ σ F H,En Φ δ σ F H->D.ct σ H
def tS(K:xA9)(g:De->ζ Out):TS:=fun D σ H=>∃ Φ δ F o,Fm.K Φ=K/\En Φ δ σ F H/\g δ=ς o/\Post Φ D o
def DS1(X:Cx)(st:J8)(g:De->ζ Out):Prop:=PS X st (tS X.K g)
def DS(X:Cx)(ss:η J8)(g:De->ζ Out):Prop:=PSs X ss (tS X.K g)
variable{Φ:Fm}{δ:De}{H':Hp}{N:η Str}{pos':Pos}{D:Ends}{es:η J9}{ts:η Nat}{bb:Dt->De->ζ De}{J:It}{xs:η V}
section
variable{X:Cx}{st:J8}{rest a b body:η J8}{g g1 g2:De->ζ Out}{e c tg iter:J9}{pos:Pos}{f:De->ζ T}{fd:De->ζ Dt}{tc:De->ζ Bool}{i:Nat}
def bg:De->ζ Out:=fun δ=>ς (.nx δ)
def ao(g1 g2:De->ζ Out):De->ζ Out:=fun δ=>(g1 δ).bind fun o=>match o with
 |.nx O=>g2 O
 |o=>ς o
theorem aI:DS X [] bg:=PSs.mono zT fun D σ H ⟨Φ,δ,F,o,Z,U,O,k⟩=>by cases O;exact k σ F H U
theorem am(h:DS1 X st g):DS X [st] g:=fS h
theorem ai(h1:DS1 X st g1)(h2:DS X rest g2):DS X (st::rest) (ao g1 g2):=PSs.mono (lE h1 h2) fun D σ H ⟨Φ,δ,F,o,hK,en,O,k⟩=>by
 unfold ao at O;obtain⟨o1,h1,O⟩:=bS O;refine⟨Φ,δ,F,o1,hK,en,h1,?_⟩;cases o1 with
 |nx U=>exact fun σ' F' H' Z=>⟨Φ,U,F',o,hK,Z,O,k⟩
 |rt t=>cases O;exact k
 |bk U=>cases O;exact k
 |ct U=>cases O;exact k
def aQ(f:De->ζ T):De->ζ Out:=fun δ=>(f δ).map .rt
theorem En.rt{F:Hp}{t:T}{S:J5->Prop}(Z:En Φ δ σ F H)(st:Step F H F' H')(o:Own Φ.K F' H' t v S)(U:∀b,S b->F' b=ψ/\H b=ψ/\∃o,H' b=ς o/\NT o):Rt Φ t v F' H':=by have O:=Z.step st;exact⟨O.fh,O.prot,O.old,O.nw,S,o,fun b z=>⟨(U b z).1,(U b z).2.2,Z.fresh (U b z).2.1⟩⟩
theorem az(h:DO X e f):DS1 X (.Return (ς e) pos) (aQ f):=PS.mono (wA h) fun D σ H ⟨Φ,δ,F,o,U,Z,O,k⟩=>by unfold aQ at O;obtain⟨t,ht,O⟩:=mS O;cases O;exact⟨Φ,δ,F,t,U,Z,ht,fun v H' F' S st o hs=>k v F' H' (Z.rt st (U▸o) hs)⟩
def jC(i:Nat):De->ζ Out:=fun δ=>match δ[i]? with
 |some (ς t)=>ς (.rt t)
 |_=>ψ
theorem iS(h:PE X e (gF i)):DS1 X (.Return (ς e) pos) (jC i):=PS.mono (wA h) fun D σ H ⟨Φ,δ,F,o,hK,O,U,k⟩=>by
 unfold jC at U;split at U
 .rename_i t q;cases U;obtain⟨v,Z⟩:=O.has i t q;obtain⟨S,s⟩:=O.sep;exact⟨v,Z,k v F H ⟨O.fh,O.prot,O.old,O.nw,S i,s.own i t v (cc q Z),fun b z=>s.out i b z⟩⟩
 .cases U
def sIf(c:De->ζ Bool)(g1 g2:De->ζ Out):De->ζ Out:=fun δ=>(c δ).bind fun b=>if b then g1 δ else g2 δ
theorem aS(hc:DT X c tc)(h1:DS X a g1)(h2:DS X b g2):DS1 X (.If c a b pos) (sIf tc g1 g2):=PS.mono (BJ hc h1 h2) fun D σ H ⟨Φ,δ,F,o,U,Z,O,k⟩=>by
 unfold sIf at O;obtain⟨x,hx,O⟩:=bS O;refine⟨Φ,δ,F,x,U,Z,hx,fun H' F' st=>?_⟩;split at O
 .rename_i q;rw[if_pos q];exact⟨Φ,δ,F',o,U,Z.step st,O,k⟩
 .rename_i q;rw[if_neg q];exact⟨Φ,δ,F',o,U,Z.step st,O,k⟩
def aF(i:Nat)(f:De->ζ T):De->ζ Out:=fun δ=>(f δ).map fun t=>.nx (δ.set i (ς t))
theorem Do{sc:Ja}(h:dh sc N i x=θ)(hl:g9 sc x=θ)(nd:N.Nodup)(he:DO X e f)(e1:bU X sc:=by rfl)(e2:X.N=N:=by rfl)(hf:X.fn x=θ∨X.env.scope.names.lookup x=ς .local:=by exact .inl rfl)
 (U:qf7 e (ς (.Name x pos')) pos.line X.env=pure ξ:=by rfl):DS1 X (.Assign [.Name x pos'] e pos) (aF i f):=PS.mono (ug h hl nd he e1 e2 hf U) fun D σ H ⟨Φ,δ,F,o,Z,en,O,k⟩=>by
 unfold aF at O;obtain⟨t,ht,O⟩:=mS O;cases O;exact⟨Φ,δ,F,t,Z,en,ht,fun v H' F' S st o U=>k _ F' H' (en.put st (Z▸o) U i)⟩
def gt(i:Nat)(g:De->ζ Out):De->ζ Out:=fun δ=>match δ[i]? with
 |some (ς t)=>t.d.bind fun d=>g (δ.set i (ς (.f d)))
 |_=>ψ
theorem Dp(h:tS K (gt i g) D σ H):tS K g D σ H:=by
 obtain⟨Φ,δ,F,o,Z,en,O,k⟩:=h;unfold gt at O;split at O
 .rename_i t q;obtain⟨d,hd,O⟩:=bS O;obtain⟨F',U⟩:=en.freeze q hd;exact⟨Φ,_,F',o,Z,U,O,k⟩
 .cases O
theorem gJ(h:DS1 X st g):DS1 X st (gt i g):=PS.mono h fun D σ H q=>Dp q
def gD(K:xA9)(ts:η Nat)(st:Dt->De->ζ De):TG:=fun v σ H Q=>∃ Φ δ F d U,Fm.K Φ=K/\En Φ δ σ F H/\Rep K F d v/\st d δ=ς U/\∀O,O.length=σ.length->(∀j,j∉ts->O[j]?=σ[j]?)->En Φ U O F H->Q O H
def gsD(K:xA9)(ts:η Nat)(st:η Dt->De->ζ De):TGs:=fun vs σ H Q=>∃ Φ δ F ds U,Fm.K Φ=K/\En Φ δ σ F H/\Reps K F ds vs/\st ds δ=ς U/\∀O,O.length=σ.length->(∀j,j∉ts->O[j]?=σ[j]?)->En Φ U O F H->Q O H
def DG(X:Cx)(tg:J9)(ts:η Nat)(bb:Dt->De->ζ De):Prop:=PG X tg (gD X.K ts bb)
def DGs(X:Cx)(tg:η J9)(ts:η Nat)(bb:η Dt->De->ζ De):Prop:=PGs X tg (gsD X.K ts bb)
def ak(i:Nat):Dt->De->ζ De:=fun d δ=>ς (δ.set i (ς (.f d)))
theorem En.name{F:Hp}(O:En Φ δ σ F H){d:Dt}(r:Rep Φ.K F d v)(i:Nat):En Φ (δ.set i (ς (.f d))) (σ.set i (ς v)) F H:=O.put (Step.refl O.fh) (S':=fun _=>False) (t:=.f d) r (fun _ z=>z.elim) i
theorem bj(h:PG X tg (jq i)):DG X tg [i] (ak i):=PG.mono h fun v σ H Q ⟨Φ,δ,F,d,U,O,en,r,hd,k⟩=>by cases hd;refine k _ Ξ (fun j Z=>?_) (en.name (O▸r) i);rw[List.getElem?_set_ne fun z=>Z (by simp[z])]
def cE:η Dt->De->ζ De:=fun ds δ=>if ds.isEmpty then ς δ else ψ
def aJ(b:Dt->De->ζ De)(bs:η Dt->De->ζ De):η Dt->De->ζ De:=fun ds δ=>match ds with
 |d::r=>(b d δ).bind fun O=>bs r O
 |[]=>ψ
def gK(n:Nat)(bs:η Dt->De->ζ De):Dt->De->ζ De:=fun d δ=>match d with
 |.t ds=>if ds.length=n then bs ds δ else ψ
 |_=>ψ
theorem e9:DGs X [] [] cE:=fun J1 s σ H vs us Q I r q=>zU J1 s σ H vs us Q I r (by
 obtain⟨Φ,δ,F,ds,U,hK,Z,O,hd,k⟩:=q;unfold cE at hd;cases ds with
 |nil=>cases hd;simp only[Reps]at O;exact⟨O,k σ rfl (fun _ _=>rfl) Z⟩
 |cons d l=>cases hd)
theorem bF{O:η Nat}{bs:η Dt->De->ζ De}(h1:DG X e ts bb)(h2:DGs X es O bs)
 (hs:(qi4 (e::es) X.env).map (·.2)=qw7 e X.env::(qi4 es X.env).map (·.2):=by rfl):DGs X (e::es) (ts++O) (aJ bb bs):=fun J1 s σ H vs us Q I r q=>wC h1 h2 hs J1 s σ H vs us Q I r (by
 obtain⟨Φ,δ,F,ds,Z,hK,en,rs,hd,k⟩:=q;unfold aJ at hd;cases ds with
 |nil=>cases hd
 |cons d l=>simp only[Reps]at rs;obtain⟨v,ws,e,r1,r2⟩:=rs;dsimp only at hd;obtain⟨U,hb,hd⟩:=bS hd;refine⟨v,ws,e,Φ,δ,F,d,U,hK,en,r1,hb,fun σ1 l1 k1 en1=>⟨Φ,U,F,l,Z,hK,en1,r2,hd,fun σ2 l2 k2 en2=>k σ2 (l2.trans l1) (fun j hj=>?_) en2⟩⟩;rw[k2 j fun z=>hj (qd0 _ z),k1 j fun z=>hj (qj2 _ z)])
theorem oW{k:Nat}{bs:η Dt->De->ζ De}(hc:X.calm=θ)(h:DGs X es ts bs)
 (hn:(qi4 es X.env).length=n:=by rfl) (U:(qi4 es X.env).findIdx? (·.1)=ψ:=by rfl):DG X (.Tuple es k pos) ts (gK n bs):=PG.mono (CH hc h hn U) fun v σ H Q ⟨Φ,δ,F,d,O,hK,Z,r,hd,q⟩=>by
 unfold gK at hd;split at hd
 .rename_i ds;split at hd
  .rename_i hl;simp only[Rep]at r;obtain⟨a,vs,e,h1,h2⟩:=r;exact⟨a,vs,e,Z.fh.tup h1,by rw[h2.length];exact hl,Φ,δ,F,ds,O,hK,Z,h2,hd,q⟩
  .cases hd
 .cases hd
def nj(K:xA9)(F':Hp)(J:It)(ds:η Dt)(ok:Hp->Prop):Prop:=∀(i:Nat)(H F:Hp),ok H->Same F H->Same F' F->(i<ds.length->J.go i H)/\(i=ds.length->J.stop i H)/\∀x H',i<ds.length->J.yld i H x H'->∃d O,ds[i]?=ς d/\Step F H O H'/\Rep K O d x
theorem Plain.walk{ok:Hp->Prop}(pl:Plain J xs ok)(r:Reps K F' ds xs):nj K F' J ds ok:=fun i H F O fh ff=>by
 obtain⟨p1,p2,p3⟩:=pl i H O;have hl:=r.length;refine⟨fun h=>p1 Θ,fun h=>p2 Θ,fun x H' hi Z=>?_⟩;obtain⟨rfl,U⟩:=p3 x H' Θ Z;have hd:ds[i]?=ς ds[i]:=by simp[hi]
 obtain⟨v,e,rv⟩:=r.get hd;rw[U]at e;cases e;exact⟨_,F,hd,Step.refl fh,rv.same ff⟩
def tIF(K:xA9)(f:De->ζ (η Dt)):TI:=fun σ H R=>∃ Φ δ F ds,Fm.K Φ=K/\En Φ δ σ F H/\f δ=ς ds/\∀J ok H' F',Step F H F' H'->nj K F' J ds ok->(∀H2,Same F' H2->ok H2)->R J H'
def tIB(K:xA9)(f:De->ζ (η Dt)):TI:=fun σ H R=>∃ Φ δ F ds,Fm.K Φ=K/\En Φ δ σ F H/\f δ=ς ds/\∀J ok H' F',Step F H F' H'->nj K F' J ds ok->(∀H2,Same H' H2->ok H2)->R J H'
def DIF(X:Cx)(tg iter:J9)(f:De->ζ (η Dt)):Prop:=PI X tg iter (tIF X.K f)
def DIB(X:Cx)(tg iter:J9)(f:De->ζ (η Dt)):Prop:=PI X tg iter (tIB X.K f)
theorem DIF.toB{fi:De->ζ (η Dt)}(h:DIF X tg iter fi):DIB X tg iter fi:=PI.mono h fun σ H R ⟨Φ,δ,F,ds,O,en,hf,k⟩=>⟨Φ,δ,F,ds,O,en,hf,fun J ok H' F' st Z U=>k J ok H' F' st Z fun H2 s=>U H2 (st.fh.trans s)⟩
end
variable{F1 H1:Hp}{o:Out}{j:Int}
section
variable{X:Cx}{st:J8}{rest a b body:η J8}{g g1 g2:De->ζ Out}{e c tg iter l:J9}{pos:Pos}{f:De->ζ T}{fd:De->ζ Dt}{tc:De->ζ Bool}{i:Nat}{fi:De->ζ (η Dt)}
def cW(bb:Dt->De->ζ De)(g:De->ζ Out):η Dt->De->ζ Out
 |[],δ=>ς (.nx δ)
 |d::r,δ=>(bb d δ).bind fun U=>(g U).bind fun o=>match o with
  |.nx O=>cW bb g r O
  |.ct O=>cW bb g r O
  |.bk O=>ς (.nx O)
  |.rt t=>ς (.rt t)
def dP(fi:De->ζ (η Dt))(bb:Dt->De->ζ De)(g:De->ζ Out):De->ζ Out:=fun δ=>(fi δ).bind fun ds=>cW bb g ds δ
theorem Reps.same_get{F:Hp}(r:Reps K F ds xs){x:V}(h:xs[i]?=ς x):∃d,ds[i]?=ς d/\Rep K F d x:=by
 have U:=r.length;have hi:i<xs.length:=(gX h).1;have hd:ds[i]?=ς ds[i]:=by simp[show i<ds.length by lia]
 obtain⟨v,e,O⟩:=r.get hd;rw[h]at e;cases e;exact⟨_,hd,O⟩
theorem k8{α:Type}{l:η α}{d:α}(h:l[i]?=ς d):l.drop i=d::l.drop (i+1):=by have hi:i<l.length:=(gX h).1;rw[qo8 hi];congr 1;have:=(gX h).2;exact this
def Fm.at(Φ:Fm)(F1:Hp):Fm:={Φ with F0:=F1}
theorem En.back{δ':De}{O:St}{F:Hp}(U:En Φ δ σ F1 H1)(e:En (Φ.at F1) δ' O F H):En Φ δ' O F H:=⟨e.fh,e.prot,U.old.trans e.old,fun b o h=>(e.nw b o h).elim (fun z=>U.nw b o z) .inr,e.len,e.has,e.sep⟩
theorem Rt.back{F:Hp}{t:T}(O:En Φ δ σ F1 H1)(e:Rt (Φ.at F1) t v F H):Rt Φ t v F H:=⟨e.fh,e.prot,O.old.trans e.old,fun b o h=>(e.nw b o h).elim (fun z=>O.nw b o z) .inr,e.own⟩
theorem En.at(O:En Φ δ σ F1 H1):En (Φ.at F1) δ σ F1 H1:=⟨O.fh,O.prot,Same.refl _,fun b o h=>.inl h,O.len,O.has,O.sep⟩
theorem Post.at(Z:En Φ δ σ F1 H1)(k:Post Φ D o):Post (Φ.at F1) D o:=by
 cases o with
 |nx U=>exact fun O F H e=>k O F H (Z.back e)
 |bk U=>exact fun O F H e=>k O F H (Z.back e)
 |ct U=>exact fun O F H e=>k O F H (Z.back e)
 |rt t=>exact fun v F H e=>k v F H (Rt.back Z e)
theorem qq{g:TG}{tb:TS}(Pv:Nat->St->Hp->Prop)(h0:Pv 0 σ H1)(Z:∀i σ H,Pv i σ H->(i<n->J.go i H)/\(i=n->J.stop i H))
 (hs:∀i x σ H H',i<n->Pv i σ H->J.yld i H x H'->g x σ H' fun U H2=>tb {D with nx:=Pv (i+1),ct:=Pv (i+1),bk:=D.nx} U H2) (hd:∀ σ H,Pv n σ H->D.nx σ H):ForW g tb D J σ H1:=by
 refine⟨fun i m σ H=>m=n-i/\i<=n/\Pv i σ H,⟨n,Ξ,qy8 _,h0⟩,?_⟩;rintro i m σ H ⟨rfl,hi,p⟩;obtain⟨p1,p2⟩:=Z i σ H p;by_cases O:i<n
 .exact .inr ⟨p1 O,Pv (i+1),fun σ' H' p'=>⟨n-(i+1),Θ,rfl,O,p'⟩,fun x H' y=>hs i x σ H H' O p y⟩
 .have e:i=n:=by lia
  subst e;exact .inl ⟨p2 rfl,hd σ H p⟩
theorem iq(hp:zd1 (model X.prog X.w) X.A X.env X.xe)(hc:X.calm=θ)(hi:DIF X tg iter fi)(hg:DG X tg ts bb)(hb:DS X body g)
 (hs:∀x,qe5 iter X.env x=pure x:=by intro _;rfl):DS1 X (.For tg iter body [] pos) (dP fi bb g):=PS.mono (wH hp hc hi hg hb hs) fun D σ H ⟨Φ,δ,F,o,hK,en,hg,k⟩=>by
 unfold dP at hg;obtain⟨ds,hd,hg⟩:=bS hg;rw[ue];refine⟨Φ,δ,F,ds,hK,en,hd,fun J ok H1 F1 st1 wd ho=>?_⟩;have en1:=en.step st1;have k1:=Post.at en1 k;refine qq (n:=ds.length) (fun i σ' H'=>∃Z F',En (Φ.at F1) Z σ' F' H'/\cW bb g (ds.drop i) Z=ς o) ⟨δ,F1,en1.at,by simpa using hg⟩ (fun i σ' H' ⟨Z,F',U,_⟩=>?_) ?_ ?_
 .obtain⟨p1,p2,_⟩:=wd i H' F' (ho H' (U.old.trans U.fh)) U.fh U.old;exact⟨p1,p2⟩
 .rintro i x σ' H' H'' hi ⟨Z,F',U,O⟩ hy;obtain⟨_,_,p3⟩:=wd i H' F' (ho H' (U.old.trans U.fh)) U.fh U.old;obtain⟨d,F2,hd',st2,rd⟩:=p3 x H'' hi hy;rw[k8 hd']at O;unfold cW at O;obtain⟨δ1,h1,O⟩:=bS O;obtain⟨o1,h2,O⟩:=bS O;refine⟨Φ.at F1,Z,F2,d,δ1,hK,U.step st2,rd,h1,fun σ1 _ _ en1=>⟨Φ.at F1,δ1,F2,o1,hK,en1,h2,?_⟩⟩;cases o1 with
  |nx δ2=>exact fun σ2 F2 H2 en2=>⟨δ2,F2,en2,O⟩
  |ct δ2=>exact fun σ2 F2 H2 en2=>⟨δ2,F2,en2,O⟩
  |bk δ2=>cases O;exact fun σ2 F2 H2 en2=>k1 σ2 F2 H2 en2
  |rt t=>cases O;exact fun v F2 H2 q=>k1 v F2 H2 q
 .rintro σ' H' ⟨Z,F',U,O⟩;rw[qs8]at O;cases O;exact k1 σ' F' H' U
def np(x:Str):η Dt:=x.cps.toList.map fun c=>.str ⟨#[c]⟩
def bB(lo:Int)(n:Nat):η Dt:=(qm6 n).map fun(i:Nat)=>.int (lo+i)
theorem Reps.map{F:Hp}{α:Type}{f:α->Dt}{g:α->V}(h:∀x,Rep K F (f x) (g x)):∀l:η α,Reps K F (l.map f) (l.map g)
 |[]=>by simp[Reps]
 |x::l=>by simp only[qb3,Reps];exact⟨_,_,rfl,h x,Reps.map h l⟩
def itD:Dt->ζ (η Dt)
 |.e l=>ς l
 |.t l=>ς l
 |.str x=>ς (np x)
 |_=>ψ
def fIt(f:De->ζ Dt):De->ζ (η Dt):=fun δ=>(f δ).bind itD
theorem lQ(h:DL X l fd):DIF X tg l (fIt fd):=PI.mono (PI.or (tP h) (PI.or (wF h) (xj h))) fun σ H R ⟨Φ,δ,F,ds,U,Z,O,k⟩=>by
 unfold fIt at O;obtain⟨d,hd,O⟩:=bS O;cases d with
 |e l=>cases O;refine .inl ⟨Φ,δ,F,_,U,Z,hd,fun v H' F' st r=>?_⟩;simp only[Rep]at r;obtain⟨a,vs,rfl,h1,h2⟩:=r;exact⟨a,rfl,⟨vs,st.fh.seq h1⟩,k _ _ H' F' st (plain_list.walk h2) fun H2 s=>s.seq h1⟩
 |t l=>cases O;refine .inr (.inl ⟨Φ,δ,F,_,U,Z,hd,fun v H' F' st r=>?_⟩);simp only[Rep]at r;obtain⟨a,vs,rfl,h1,h2⟩:=r;exact⟨a,rfl,⟨vs,st.fh.tup h1⟩,k _ _ H' F' st (plain_tup.walk h2) fun H2 s=>s.tup h1⟩
 |str x=>cases O;refine .inr (.inr ⟨Φ,δ,F,_,U,Z,hd,fun v H' F' st r=>?_⟩);simp only[Rep]at r;exact⟨x,r,k _ _ H' F' st (plain_str.walk (Reps.map (fun c=>gI) _)) fun _ _=>trivial⟩
 |_=>cases O
theorem dJ(h:DB X l fd):DIB X tg l (fIt fd):=PI.mono (PI.or (tP h) (PI.or (wF h) (xj h))) fun σ H R ⟨Φ,δ,F,ds,U,Z,O,k⟩=>by
 unfold fIt at O;obtain⟨d,hd,O⟩:=bS O;cases d with
 |e l=>cases O;refine .inl ⟨Φ,δ,F,_,U,Z,hd,fun v H' F' st r=>?_⟩;obtain⟨a,vs,rfl,h1,h2⟩:=r;exact⟨a,rfl,⟨vs,h1⟩,k _ _ H' F' st (plain_list.walk h2) fun H2 s=>s.seq h1⟩
 |t l=>cases O;refine .inr (.inl ⟨Φ,δ,F,_,U,Z,hd,fun v H' F' st r=>?_⟩);obtain⟨a,vs,rfl,h1,h2⟩:=r;exact⟨a,rfl,⟨vs,st.fh.tup h1⟩,k _ _ H' F' st (plain_tup.walk h2) fun H2 s=>s.tup (st.fh.tup h1)⟩
 |str x=>cases O;refine .inr (.inr ⟨Φ,δ,F,_,U,Z,hd,fun v H' F' st r=>?_⟩);exact⟨x,r,k _ _ H' F' st (plain_str.walk (Reps.map (fun c=>gI) _)) fun _ _=>trivial⟩
 |_=>cases O
def nq(j:Int):Bool:=decide (-(2^62)<=j)&&decide (j<2^62)
def iu:η Dt->ζ (η Dt)
 |[.int j]=>if nq j then ς (bB 0 j.toNat)else ψ
 |_=>ψ
def dj(r:η Dt->ζ (η Dt))(f:De->ζ (η Dt)):De->ζ (η Dt):=fun δ=>(f δ).bind r
variable{p:Pos}{sc:Ja}{x y:J9}{fs:De->ζ (η Dt)}
theorem nu(h:nq j=θ):-(2^62)<=j/\j<2^62:=by unfold nq at h;simpa using h
theorem sB{F:Hp}(lo:Int)(n:Nat):Reps K F (bB lo n) (lM lo n):=Reps.map (fun _=>iR) _
theorem dy(h:aO sc "range"=θ)(hm:X.mg "range"=ψ)(ha:DA X [x] fs)(e1:bU X sc:=by rfl)(hs:qa2 [x] X.env=[(ξ,eval x X.env)]:=by rfl):DIF X tg (.Call (.Name "range" p) [x] [] pos) (dj iu fs):=
 PI.mono (sy h hm ha.pa e1 hs) fun σ H R ⟨Φ,δ,F,ds,Z,en,O,k⟩=>by
  unfold dj at O;obtain⟨as,hd,O⟩:=bS O;refine⟨Φ,δ,F,as,Z,en,hd,fun vs H' F' st r=>?_⟩;unfold iu at O;split at O
  .rename_i j;split at O
   .rename_i U;cases O;simp only[Reps,Rep]at r;obtain⟨v,ws,rfl,rfl,rfl⟩:=r;exact⟨j,rfl,(nu U).1,(nu U).2,k _ _ H' F' st (plain_range.walk (sB _ _)) fun _ _=>trivial⟩
   .cases O
  .cases O
end
def dC(src:η (ζ Nat))(δ:De):De:=src.map fun o=>o.bind fun j=>(δ[j]?).join
def bJ(bb:Dt->De->ζ De)(ft:De->ζ Bool)(fe:De->ζ Dt)(δ:De):η Dt->ζ (η Dt)
 |[]=>ς []
 |d::r=>(bb d δ).bind fun O=>(ft O).bind fun b=>if b then(fe O).bind fun y=>(bJ bb ft fe δ r).bind fun ys=>ς (y::ys)else bJ bb ft fe δ r
def bu(src:η (ζ Nat))(fi:De->ζ (η Dt))(bb:Dt->De->ζ De)(ft:De->ζ Bool)(fe:De->ζ Dt):De->ζ T:=fun δ =>(fi δ).bind fun ds=>(bJ bb ft fe (dC src δ) ds).bind fun ys=>if ys.length<=qa7 then ς (.e ys)else ψ
def bQ:De->ζ Bool:=fun _=>ς θ
def DTs(X:Cx)(ifs:η J9)(f:De->ζ Bool):Prop:=PTs X ifs (tTr X.K f)
theorem fU:DTs X [] bQ:=fun J1 s σ H Q I h=>Ap J1 s σ H Q I (by obtain⟨Φ,δ,F,b,Z,U,O,k⟩:=h;cases O;exact k H F (Step.refl U.fh))
theorem eI{c:J9}{f:De->ζ Bool}(h:DT X c f):DTs X [c] f:=Aq h
section
variable{X:Cx}{elt tg iter:J9}{ifs:η J9}{scope:Ja}{pos:Pos}{M:η Str}{src:η (ζ Nat)}{fi:De->ζ (η Dt)}{ft:De->ζ Bool}{fe:De->ζ Dt}
theorem Av(S:CmpScope X.N X.env.scope scope M src){k l j:Nat}(hk:src[k]?=ς (ς j))(hl:src[l]?=ς (ς j)):k=l:=by
 have nm:∀k,src[k]?=ς (ς j)->∃x,M[k]?=ς x/\X.N[j]?=ς x:=fun k h=>by
  have O:k<M.length:=by rw[S.len];exact(gX h).1
  have Z:M[k]?=ς M[k]:=by simp[O]
  have hz:(M.zip src)[k]?=ς (M[k],ς j):=by rw[qw2];exact⟨Z,h⟩
  exact⟨_,Z,(S.src _ (qo2 hz) j rfl).1⟩
 obtain⟨x,h1,h2⟩:=nm k hk;obtain⟨y,h3,U⟩:=nm l hl;rw[h2]at U;cases U;exact(List.getElem?_inj (gX h1).1 S.nd).mp (h1.trans h3.symm)
theorem xz{k:Nat}{t:T}(h:(dC src δ)[k]?=ς (ς t)):∃j,src[k]?=ς (ς j)/\δ[j]?=ς (ς t):=by
 unfold dC at h;rw[qd3]at h;cases e:src[k]? with
 |none=>rw[e]at h;cases h
 |some o=>
  rw[e]at h;cases o with
  |none=>cases h
  |some j=>
   simp only[qf6,qa1,qo0]at h;refine⟨j,rfl,?_⟩;cases q:δ[j]? with
   |none=>rw[q]at h;cases h
   |some u=>rw[q]at h;simp only[qs7]at h;rw[h]
theorem Aw{k j:Nat}(h1:src[k]?=ς (ς j))(h2:σ[j]?=ς (ς v)):(stC src σ)[k]?=ς (ς v):=by unfold stC;rw[qd3,h1];simp[h2]
theorem sC{k:Nat}(h:(stC src σ)[k]?=ς (ς v)):∃j,src[k]?=ς (ς j)/\σ[j]?=ς (ς v):=by
 unfold stC at h;rw[qd3]at h;cases e:src[k]? with
 |none=>rw[e]at h;cases h
 |some o=>
  rw[e]at h;cases o with
  |none=>cases h
  |some j=>
   simp only[qf6,qa1,qo0]at h;refine⟨j,rfl,?_⟩;cases q:σ[j]? with
   |none=>rw[q]at h;cases h
   |some u=>rw[q]at h;simp only[qs7]at h;rw[h]
theorem En.comp{F:Hp}(S:CmpScope X.N X.env.scope scope M src)(O:En Φ δ σ F H):En Φ (dC src δ) (stC src σ) F H:=by
 refine⟨O.fh,O.prot,O.old,O.nw,by simp[dC,stC],fun k t h=>?_,?_⟩
 .obtain⟨j,h1,h2⟩:=xz h;obtain⟨v,hv⟩:=O.has j t h2;exact⟨v,Aw h1 hv⟩
 .obtain⟨Z,s⟩:=O.sep;refine⟨fun k b=>∃j,src[k]?=ς (ς j)/\Z j b,fun k t v h=>?_,fun k b ⟨j,_,z⟩=>s.out j b z,fun k l b ⟨j,h1,z⟩⟨j',h2,z'⟩=>?_⟩
  .obtain⟨h1,h2⟩:=gq h;obtain⟨j,e1,e2⟩:=xz h1;obtain⟨j',U,e4⟩:=sC h2;rw[e1]at U;cases U;exact(s.own j t v (cc e2 e4)).grow fun b z=>⟨j,e1,z⟩
  .have:=s.dis _ _ b z z';subst this;exact Av S h1 h2
theorem nv{g:TG}{tt:TT}{te:TE}{D:J5}(Pv:Nat->Hp->Prop)(h0:Pv 0 (upd H1 D (.e [])))(Z:∀i H,Pv i H->(i<n->J.go i H)/\(i=n->J.stop i H))
 (hs:∀i x H H',i<n->Pv i H->J.yld i H x H'->g x (stC src σ) H' fun O H2=>Wk (stC src σ) O/\tt O H2 fun b H3=>if b=θ then te O H3 fun v H4=>∃ys,H4 D=ς (.e ys)/\ys.length<qa7/\Pv (i+1) (upd H4 D (.e (ys++[v])))else Pv (i+1) H3)
 (hd:∀H,Pv n H->Q (.ref D) H):BX src g tt te σ J H1 Q D:=by
 refine⟨fun i m H=>m=n-i/\i<=n/\Pv i H,⟨n,Ξ,qy8 _,h0⟩,?_⟩;rintro i m H ⟨rfl,hi,p⟩;obtain⟨p1,p2⟩:=Z i H p;by_cases U:i<n
 .exact .inr ⟨p1 U,Pv (i+1),fun H' p'=>⟨n-(i+1),Θ,rfl,U,p'⟩,fun x H' y=>hs i x H H' U p y⟩
 .have e:i=n:=by lia
  subst e;exact .inl ⟨p2 rfl,hd H p⟩
theorem oX(S:CmpScope X.N X.env.scope scope M src)(hts:(ts.all fun k=>decide (src[k]?=ς ψ))=θ):∀(σ:St)(H:Hp)(Q:VK),tO X.K (bu src fi bb ft fe) σ H Q->jw src (tIB X.K fi) (gD X.K ts bb) (tTr X.K ft) (tL X.K fe) σ H Q:=fun σ H Q ⟨Φ,δ,F,t,hK,en,hf,k⟩=>by
 unfold bu at hf;obtain⟨ds,hd,hf⟩:=bS hf;obtain⟨all,ha,hf⟩:=bS hf;split at hf
 case isFalse=>cases hf
 rename_i hz;cases hf;rw[qk];refine⟨Φ,δ,F,ds,hK,en,hd,fun J ok H1 F1 st1 wd ho D hD=>?_⟩;have en1:=en.step st1;have k1:=k.step st1
 have wk:∀{σ2:St},σ2.length=(stC src σ).length->(∀j,j∉ts->σ2[j]?=(stC src σ)[j]?)->Wk (stC src σ) σ2:=fun {σ2} h1 h2=>by
  refine⟨h1.symm,fun j v hj=>?_⟩;by_cases hm:j∈ts
  .have:=qg2.mp hts j hm;have hn:src[j]?=ς ψ:=of_decide_eq_true this;obtain⟨i,e,_⟩:=sC hj;rw[hn]at e;cases e
  .rw[h2 j hm];exact hj
 have ok':∀{F H:Hp},Step F1 H1 F H->ok H:=fun st=>ho _ st.hh
 refine nv (n:=ds.length) (fun i H=>∃F ys done U,Step F1 H1 F H/\H D=ς (.e ys)/\F D=ψ/\Reps X.K F done ys/\bJ bb ft fe (dC src δ) (ds.drop i)=ς U/\done++U=all) ?_ ?_ ?_ ?_
 .exact⟨F1,[],[],all,Step.made st1.fh hD,aC,st1.fh.free hD,by simp[Reps],by simpa using ha,rfl⟩
 .rintro i H' ⟨F',ys,done,U,st,_⟩;obtain⟨p1,p2,_⟩:=wd i H' F' (ok' st) st.fh st.ff;exact⟨p1,p2⟩
 .rintro i x H0' H' hi ⟨F0',ys,done,U,st0,hD0,hFD0,rys0,O,Z⟩ hy0;obtain⟨_,_,p3⟩:=wd i H0' F0' (ok' st0) st0.fh st0.ff;obtain⟨d,F',hd',stw,rd⟩:=p3 x H' hi hy0;have st:=st0.trans stw;have hD':H' D=ς (.e ys):=stw.hh _ _ hD0;have hFD:F' D=ψ:=stw.keepN hFD0 hD0;have rys:=rys0.same stw.ff;rw[k8 hd']at O;unfold bJ at O;obtain⟨δ1,h1,O⟩:=bS O;obtain⟨b,h2,O⟩:=bS O;refine⟨Φ,dC src δ,F',d,δ1,hK,(en1.step st).comp S,rd,h1,fun σ2 l2 k2 en2=>⟨wk l2 k2,Φ,δ1,F',b,hK,en2,h2,fun H3 F3 st3=>?_⟩⟩;have hD3:H3 D=ς (.e ys):=st3.hh _ _ hD';have hF3:F3 D=ψ:=st3.keepN hFD hD';dsimp only;split at O
  .rename_i q;rw[if_pos q];obtain⟨y,hy,O⟩:=bS O;obtain⟨zs,hzs,O⟩:=bS O;cases O;refine⟨Φ,δ1,F3,y,hK,en2.step st3,hy,fun v H4 F4 st4 rv=>?_⟩;have hD4:H4 D=ς (.e ys):=st4.hh _ _ hD3;have hF4:F4 D=ψ:=st4.keepN hF3 hD3;have s14:=(st.trans st3).trans st4;refine⟨ys,hD4,?_,F4,ys++[v],done++[y],zs,?_,aC,hF4,(rys.same (st3.ff.trans st4.ff)).append (Reps.one rv),hzs,by rw[<- Z];simp⟩
   .have e1:=rys.length;have e2:all.length=done.length+(zs.length+1):=by rw[<- Z];simp
    lia
   .refine⟨fun c o e=>?_,s14.ff,fun c o e=>?_,s14.nw⟩
    .rw[ax (aP e hD)];exact s14.hh _ _ e
    .rw[ax (aP e hF4)];exact s14.fh _ _ e
  .rename_i q;rw[if_neg q];exact⟨F3,ys,done,U,st.trans st3,hD3,hF3,rys.same st3.ff,O,Z⟩
 .rintro H' ⟨F',ys,done,U,st,hD',hFD,rys,O,Z⟩;rw[qs8]at O;cases O;rw[qd2]at Z;subst Z
  exact k1 (.ref D) H' F' (fun b=>b=D) st ⟨D,ys,rfl,rfl,hD',rys⟩ fun b z=>by subst z;exact⟨hFD,hD,_,hD',nofun⟩
theorem Ax(S:CmpScope X.N X.env.scope scope M src)(hc:X.calm=θ)(hi:DIB X tg iter fi)(U:M.Nodup->∀C s H ex,DG (cxC X M scope C s H ex) tg ts bb)
 (ht:∀C s H ex,DTs (cxC X M scope C s H ex) ifs ft) (Z:∀C s H ex,DL (cxC X M scope C s H ex) elt fe) (O:(ts.all fun k=>decide (src[k]?=ς ψ))=θ) (hs:∀x,qe5 iter X.env x=pure x:=by intro _;rfl) :
  DO X (.ListComp elt [⟨tg,iter,ifs,0⟩] scope pos) (bu src fi bb ft fe):=PE.mono (xh (g:=gD X.K ts bb) (tt:=tTr X.K ft) (te:=tL X.K fe) S hc hi (fun nd C s H ex=>U nd C s H ex) (fun C s H ex=>ht C s H ex) (fun C s H ex=>Z C s H ex) hs) (oX S O)
end
def bX(m:Nat)(g:De->ζ Out):η Dt->ζ T:=fun ds=>match g (ds.map (fun d=>ς (T.f d))++qb2 (m-ds.length) ψ)with
 |some (.rt t)=>ς t
 |some (.nx _)=>ς (.f .non)
 |_=>ψ
theorem eM {F:Hp} (fh:Same F H) (r:Reps K F ds vs) :
  En ⟨K,F,H,fun _=>False⟩ (ds.map (fun d=>ς (T.f d))++qb2 (N.length-ds.length) ψ) (e7 N vs) F H:=by
 have hl:=r.length
 have O:∀(i:Nat)(t:T),(ds.map (fun d=>ς (T.f d))++qb2 (N.length-ds.length) ψ)[i]?=ς (ς t)->∃d v,t=T.f d/\vs[i]?=ς v/\Rep K F d v/\(e7 N vs)[i]?=ς (ς v):=fun i t h=>by
  by_cases hi:i<ds.length
  .rw[qo4 (by simpa using hi),qd3]at h;have hd:ds[i]?=ς ds[i]:=by simp[hi]
   rw[hd]at h;cases h;obtain⟨v,Z,U⟩:=r.get hd;refine⟨_,v,rfl,Z,U,?_⟩;unfold e7;rw[qo4 (by simp;lia),qd3,Z];rfl
  .rw[qv5 (by simpa using hi)]at h;rw[qy5]at h;split at h<;>cases h
 refine⟨fh,fun b o h _=>h,Same.refl _,fun b o h=>.inl h,by simp[e7,hl],fun i t h=>?_,fun _ _=>False,fun i t v h=>?_,fun _ _ z=>z.elim,fun _ _ _ z=>z.elim⟩
 .obtain⟨d,v,_,_,_,e⟩:=O i t h;exact⟨v,e⟩
 .obtain⟨h1,h2⟩:=gq h;obtain⟨d,w,rfl,_,U,e⟩:=O i t h1;rw[h2]at e;cases e;exact U
variable{st:J8}
section
variable{P:qc0}{w:J6}{K:xA9}{mg:Str->ζ Value}{base:Heap}
theorem Rt.step{F:Hp}{t:T}(h:Rt ⟨K,F,H,fun _=>False⟩ t v F' H')(k:KO K F H t Q):Q v H':=by
 obtain⟨fh,O,U,nw,S,o,Z⟩:=h;refine k v H' F' S ⟨fun b u e=>O b u e id,U,fh,fun b u e=>(nw b u e).elim .inl fun z=>.inr (z.imp (fun y=>y.elim id qf3) id)⟩ o fun b z=>?_
 obtain⟨h1,h2,h3⟩:=Z b z;exact⟨h1,h3.elim id qf3,h2⟩
theorem b6{k:Nat}{g:De->ζ Out}(D:DefF K mg x st ps)(S:FnScope N ps (ae st))(hn:ps.length=n)
 (O:∀(f:J5)(cdv:Value)(A:qd8)(outer:η Env)(s:qa4)(H:Hp)(E:XK),Room k (A.deeper (qn3 x (ae st) s.heap.objs.size f cdv))->DS (dq CX0 P w K mg base N x (ae st) f cdv A outer s H E).nox (bL st) g) :
  OkF P w K mg base x (k+1) ps (spD K n (bX N.length g)):=by
 refine D.ok S (fun vs H Q E h=>?_) (fun f cdv A outer s H vs Q E hr h=>?_)
 .obtain⟨F,ds,t,_,Z,r,_⟩:=h;rw[r.length,Z,hn]
 .obtain⟨F,ds,t,fh,Z,r,U,kq⟩:=h;refine⟨_,O f cdv A outer s H E hr,?_⟩;unfold bX at U;split at U
  .rename_i t' q;cases U;exact⟨⟨K,F,H,fun _=>False⟩,_,F,_,rfl,eM fh r,q,fun v F' H' z=>z.step kq⟩
  .rename_i δ' q;cases U;exact⟨⟨K,F,H,fun _=>False⟩,_,F,_,rfl,eM fh r,q,fun σ' F' H' z=>(z.rt (Step.refl z.fh) (t:=.f .non) (S:=fun _=>False) (jA (K:=K) (F:=F')) fun _ y=>y.elim).step kq⟩
  .cases U
theorem Fo{k:Nat}{g:De->ζ Out}{f:J5}{fd:qk2}(D:Fun K x x st f fd)(S:FnScope N ps (ae st))(hn:ps.length=n)
 (O:∀(cdv:Value)(A:qd8)(outer:η Env)(s:qa4)(H:Hp)(E:XK),Room k (A.deeper (qn3 x (ae st) s.heap.objs.size f cdv))->DS (dq CX0 P w K mg base N x (ae st) f cdv A outer s H E).nox (bL st) g) :
  FnOk P w K mg base CX0 (k+1) f fd ps (spD K n (bX N.length g)):=by
 refine D.ok S (fun vs H Q E h=>?_) (fun cdv A outer s H vs Q E hr h=>?_)
 .obtain⟨F,ds,t,_,Z,r,_⟩:=h;rw[r.length,Z,hn]
 .obtain⟨F,ds,t,fh,Z,r,U,kq⟩:=h;refine⟨_,O cdv A outer s H E hr,?_⟩;unfold bX at U;split at U
  .rename_i t' q;cases U;exact⟨⟨K,F,H,fun _=>False⟩,_,F,_,rfl,eM fh r,q,fun v F' H' z=>z.step kq⟩
  .rename_i δ' q;cases U;exact⟨⟨K,F,H,fun _=>False⟩,_,F,_,rfl,eM fh r,q,fun σ' F' H' z=>(z.rt (Step.refl z.fh) (t:=.f .non) (S:=fun _=>False) (jA (K:=K) (F:=F')) fun _ y=>y.elim).step kq⟩
  .cases U
end
section
variable{K:xA9}{F H:Hp}{Q:VK}
theorem KO.int{i:Int}(k:KO K F H (.f (.int i)) Q)(fh:Same F H):Q (.int i) H:=k.leaf.here fh iR
theorem KO.bl{i:Bool}(k:KO K F H (.f (.bl i)) Q)(fh:Same F H):Q (.bl i) H:=k.leaf.here fh oU
theorem KO.str{i:Str}(k:KO K F H (.f (.str i)) Q)(fh:Same F H):Q (.str i) H:=k.leaf.here fh gI
theorem KO.non(k:KO K F H (.f .non) Q)(fh:Same F H):Q .non H:=k.leaf.here fh jA
theorem KO.tup{p:J5}(k:KO K F H (.f (.t l)) Q)(fh:Same F H)(r:Reps K F l vs)(O:H p=ψ):Q (.ref p) (upd H p (.t vs)):=by refine k.leaf _ _ _ (Step.new fh O) ?_;simp only[Rep];exact⟨p,vs,rfl,SqT.of aC,r.same (Same.upd (fh.free O))⟩
end
def i8(i j:Int):Bool:=(decide (-(2^64)<i)&&decide (i<2^64))||(decide (-(2^64)<j)&&decide (j<2^64))
theorem Ay{i:Int}(h:i8 i j=θ):CMul i j:=by unfold i8 at h;simp only[qe2,qb0,decide_eq_true_eq]at h;exact h
theorem Az{i:Int}(h1:-1000000000000000000<i)(h2:i<1000000000000000000):i8 i j=θ:=by unfold i8;simp only[qe2,qb0,decide_eq_true_eq];left;lia
theorem oY{i:Int}(h1:-1000000000000000000<j)(h2:j<1000000000000000000):i8 i j=θ:=by unfold i8;simp only[qe2,qb0,decide_eq_true_eq];right;lia
def qr(i j:Int):Bool:=decide (0<=j)&&decide (j<=1000000)&&decide (i.natAbs<2^64)
theorem AA{i:Int}(h:qr i j=θ):CO i j:=by unfold qr at h;simp only[qb0,decide_eq_true_eq]at h;exact⟨h.1.1,h.1.2,h.2⟩
def aB:Dt->Dt->ζ T
 |.int i,.int j=>ς (.f (.int (i+j)))
 |.str a,.str b=>if a.length+b.length<=qa7 then ς (.f (.str (a++b)))else ψ
 |.e l,.e m=>if l.length+m.length<=qa7 then ς (.e (l++m))else ψ
 |.t l,.t m=>if l.length+m.length<=qa7/\l≠[]/\m≠[]then ς (.f (.t (l++m)))else ψ
 |_,_=>ψ
def lR:Dt->Dt->ζ T
 |.int i,.int j=>ς (.f (.int (i-j)))
 |_,_=>ψ
def i3:Dt->Dt->ζ T
 |.int i,.int j=>if i8 i j then ς (.f (.int (i*j)))else ψ
 |_,_=>ψ
def fQ:Dt->Dt->ζ T
 |.int i,.int j=>if 0<j then ς (.f (.int (i%j)))else ψ
 |_,_=>ψ
def kW:Dt->Dt->ζ T
 |.int i,.int j=>if qr i j then ς (.f (.int (i^j.toNat)))else ψ
 |_,_=>ψ
def bG(f:Int->Int->Bool):Dt->Dt->ζ T
 |.int i,.int j=>ς (.f (.bl (f i j)))
 |_,_=>ψ
variable{b:Bool}{r':R2}{g g':Dt->Dt->ζ T}{op':CmpOp}{f:De->ζ Dt}{p2:Pos}
section
variable{X:Cx}
theorem AB:OpR X (qk8 .Add) (fun x y H Q=>∃l b xs zs,x=.ref l/\y=.ref b/\SqL X.K H l xs/\SqL X.K H b zs/\xs.length+zs.length<=qa7/\∀p,H p=ψ->Q (.ref p) (upd H p (.e (xs++zs)))):=by
 intro J1 s σ H x y v u Q I rx ry h;obtain⟨l,b,xs,zs,rfl,rfl,hH,hB,hz,q⟩:=h;cases rx;cases ry;obtain⟨J4,r,pl,_⟩:=I.list hH;obtain⟨O,r2,pl2,_⟩:=I.list hB;obtain⟨⟨cls,dd,data,sl⟩,n,ho,hc,hd0,hd⟩:=pl;obtain⟨⟨cls2,dd2,data2,sl2⟩,n2,Z,U,hd02,hd2⟩:=pl2;simp only at hc hd U hd2;subst hc hd U hd2;have e:J4.toArray++O.toArray=(J4++O).toArray:=by simp
 refine qv9 ⟨_,ho,rfl⟩ ⟨_,Z,rfl⟩ noFill_list_add seq_list_add PySem.F.slot_list_add PySem.F.entry_list_add (PySem.F.args_list_add_2 _ _) (list_addW l b J4.toArray O.toArray n n2 dd dd2 sl sl2 (by rw[qb4,qb4,<- r.length,<- r2.length];exact hz)) ⟨ho,Z,?_⟩;rw[e];exact⟨.ref _,_,I.lnew (t':=s.toks) (r.append r2) (by rw[qd6];exact hz),rfl,q _ I.fresh⟩
abbrev ny(K:xA9):R2:=fun x y H Q=>(rI0 (fun i j=>.int (i+j)) x y H Q)∨(∃i j,x=.str i/\y=.str j/\i.length+j.length<=qa7/\Q (.str (i++j)) H)∨(∃l b xs zs,x=.ref l/\y=.ref b/\SqL K H l xs/\SqL K H b zs/\xs.length+zs.length<=qa7/\∀p,H p=ψ->Q (.ref p) (upd H p (.e (xs++zs))))∨BO K x y H Q
theorem aN:OpR X (qk8 .Add) (ny X.K):=OpR.or CP (OpR.or se (OpR.or AB Aa))
theorem bz:R2D K (ny K) aB:=by
 intro F H x y vx vy Q t fh rx ry O k;unfold aB at O;split at O<;>first|(cases O;done)|skip
 .cases O;cases rx;cases ry;exact .inl ⟨_,_,rfl,rfl,k.int fh⟩
 .split at O
  .cases O;cases rx;cases ry;exact .inr (.inl ⟨_,_,rfl,rfl,by assumption,k.str fh⟩)
  .cases O
 .split at O
  .rename_i Z;cases O;obtain⟨a,vs,rfl,h1,h2⟩:=rx;obtain⟨b,ws,rfl,h3,U⟩:=ry;exact .inr (.inr (.inl ⟨a,b,vs,ws,rfl,rfl,h1,h3,by rw[h2.length,U.length];exact Z,fun p hp=>jB k fh (h2.append U) hp⟩))
  .cases O
 .split at O
  .rename_i Z;cases O;obtain⟨a,vs,rfl,h1,h2⟩:=rx;obtain⟨b,ws,rfl,h3,U⟩:=ry;obtain⟨Z,n1,n2⟩:=Z;refine .inr (.inr (.inr ⟨a,b,vs,ws,rfl,rfl,fh.tup h1,fh.tup h3,fun z=>?_,by rw[h2.length,U.length];exact Z,fun z=>?_,fun _ p hp=>k.tup fh (h2.append U) hp⟩))
   .subst z;have:=h2.length;exact n1 (qs9 this.symm)
   .subst z;have:=U.length;exact absurd (qs9 this.symm) n2
  .cases O
theorem BZ:R2D K (rI0 fun i j=>.int (i-j)) lR:=by
 intro F H x y vx vy Q t fh Z U O k;unfold lR at O;split at O<;>first|(cases O;done)|skip
 cases O;cases Z;cases U;exact⟨_,_,rfl,rfl,k.int fh⟩
theorem xA:R2D K (rI CMul fun i j=>.int (i*j)) i3:=by
 intro F H x y vx vy Q t fh Z U O k;unfold i3 at O;split at O<;>first|(cases O;done)|skip
 split at O
 .cases O;cases Z;cases U;exact⟨_,_,rfl,rfl,Ay (by assumption),k.int fh⟩
 .cases O
theorem xB:R2D K (rI (fun _ j=>0<j) fun i j=>.int (i%j)) fQ:=by
 intro F H x y vx vy Q t fh Z U O k;unfold fQ at O;split at O<;>first|(cases O;done)|skip
 split at O
 .cases O;cases Z;cases U;exact⟨_,_,rfl,rfl,by assumption,k.int fh⟩
 .cases O
theorem xC:R2D K (rI CO fun i j=>.int (i^j.toNat)) kW:=by
 intro F H x y vx vy Q t fh Z U O k;unfold kW at O;split at O<;>first|(cases O;done)|skip
 split at O
 .cases O;cases Z;cases U;exact⟨_,_,rfl,rfl,AA (by assumption),k.int fh⟩
 .cases O
theorem cO{f:Int->Int->Bool}:R2D K (rI0 fun i j=>.bl (f i j)) (bG f):=by
 intro F H x y vx vy Q t fh Z U O k;unfold bG at O;split at O<;>first|(cases O;done)|skip
 cases O;cases Z;cases U;exact⟨_,_,rfl,rfl,k.bl fh⟩
def eqD:Dt->Dt->ζ Bool
 |.non,.non=>ς θ
 |.non,.int _=>ς ξ
 |.non,.bl _=>ς ξ
 |.non,.str _=>ς ξ
 |.int _,.non=>ς ξ
 |.bl _,.non=>ς ξ
 |.str _,.non=>ς ξ
 |.int i,.int j=>ς (decide (i=j))
 |.bl i,.bl j=>ς (decide (i=j))
 |.str i,.str j=>ς (decide (i=j))
 |.int _,.str _=>ς ξ
 |.str _,.int _=>ς ξ
 |.bl _,.str _=>ς ξ
 |.str _,.bl _=>ς ξ
 |.t l,.t m=>if cmpbs l m&&decide (deeps l<=59)then ς (peqs l m)else ψ
 |.e l,.e m=>if cmpbs l m&&decide (deeps l<=59)then ς (peqs l m)else ψ
 |_,_=>ψ
def gEq(neg:Bool)(x y:Dt):ζ T:=(eqD x y).map fun b=>.f (.bl (if neg then !b else b))
abbrev rEqA(K:xA9):R2:=fun x y H Q=>rEq x y H Q∨As K ξ x y H Q
abbrev rNeA(K:xA9):R2:=fun x y H Q=>rNe x y H Q∨As K θ x y H Q
theorem du{k:Nat}(O:Room k X.A):OpR X (qe4 .Eq) (rEqA X.K):=OpR.or E2 (Dl O rfl)
theorem oZ{k:Nat}(O:Room k X.A):OpR X (qe4 .NotEq) (rNeA X.K):=OpR.or E3 (Dm O rfl)
theorem xD {F:Hp} {x y:Dt} {U O:V} (fh:Same F H) (rx:RepB K F H x U) (Z:RepB K F H y O) (h:eqD x y=ς b) :
  (CT U O=θ/\b=decide (U=O))∨(((∃l m,x=.t l/\y=.t m)∨∃l m,x=.e l/\y=.e m)/\fF x y=θ/\ji x<=60/\b=peq x y):=by
 unfold eqD at h
 split at h<;>first
  |(cases h;done)
  |(cases h;cases rx;cases Z;left;refine⟨rfl,?_⟩;simp;done)
  |skip
 .right;split at h
  .rename_i q;simp only[qb0,decide_eq_true_eq]at q;cases h;exact⟨.inl ⟨_,_,rfl,rfl⟩,by simp only[fF];exact q.1,by simp only[ji];lia,by simp only[peq]⟩
  .cases h
 .right;split at h
  .rename_i q;simp only[qb0,decide_eq_true_eq]at q;cases h;exact⟨.inr ⟨_,_,rfl,rfl⟩,by simp only[fF];exact q.1,by simp only[ji];lia,by simp only[peq]⟩
  .cases h
theorem jk:R2D K (rEqA K) (gEq ξ):=by
 intro F H x y vx vy Q t fh Z U O k;unfold gEq at O;obtain⟨b,hb,O⟩:=mS O;cases O;have kk:Q (.bl b) H:=k.bl fh;rcases xD fh Z U hb with ⟨h1,rfl⟩|⟨h1,h2,h3,rfl⟩
 .exact .inl ⟨h1,kk⟩
 .exact .inr ⟨x,y,h1,Z.rep fh,U.rep fh,h2,h3,kk⟩
theorem AC:R2D K (rNeA K) (gEq θ):=by
 intro F H x y vx vy Q t fh Z U O k;unfold gEq at O;obtain⟨b,hb,O⟩:=mS O;cases O;have kk:Q (.bl (!b)) H:=k.bl fh;rcases xD fh Z U hb with ⟨h1,rfl⟩|⟨h1,h2,h3,rfl⟩
 .exact .inl ⟨h1,kk⟩
 .exact .inr ⟨x,y,h1,Z.rep fh,U.rep fh,h2,h3,kk⟩
def de:Dt->Bool
 |.non=>θ
 |_=>ξ
def gIs(neg:Bool)(x y:Dt):ζ T:=match y with
 |.non=>ς (.f (.bl (if neg then !de x else de x)))
 |_=>ψ
theorem qt{F:Hp}{x:Dt}(r:RepB K F H x v):de x=decide (v=.non):=by
 cases x<;>first
  |(cases r;rfl)
  |(obtain⟨a,vs,rfl,_⟩:=r;rfl)
  |(simp only[RepB,Rep]at r;obtain⟨a,C,dx,fs,rfl,_⟩:=r;rfl)
theorem Dq:R2D K (fun x y H Q=>y=.non/\Q (.bl (decide (x=.non))) H) (gIs ξ):=by
 intro F H x y vx vy Q t fh Z U O k;cases y<;>first|cases O;done|skip
 cases O;cases U;refine⟨rfl,?_⟩;rw[<- qt Z];exact k.bl fh
theorem o0:R2D K (fun x y H Q=>y=.non/\Q (.bl (!decide (x=.non))) H) (gIs θ):=by
 intro F H x y vx vy Q t fh Z U O k;cases y<;>first|cases O;done|skip
 cases O;cases U;refine⟨rfl,?_⟩;rw[<- qt Z];exact k.bl fh
def cG:Dt->Bool
 |.non=>θ
 |.bl _=>θ
 |.int _=>θ
 |.str _=>θ
 |_=>ξ
def eqF:Dt->Dt->Bool
 |.non,.non=>θ
 |.bl a,.bl b=>a==b
 |.bl a,.int b=>(if a then 1 else 0)==b
 |.int a,.bl b=>a==(if b then 1 else 0)
 |.int a,.int b=>a==b
 |.str a,.str b=>a==b
 |_,_=>ξ
def inS(j i:Str):Bool:=!(qg4 j i 0 j.length 1).isEmpty
def inD:Dt->Dt->ζ Bool
 |.str i,.str j=>ς (inS j i)
 |x,.e l=>if cG x&&l.all cG then ς (l.any fun y=>eqF y x)else ψ
 |x,.t l=>if cG x&&l.all cG then ς (l.any fun y=>eqF y x)else ψ
 |_,_=>ψ
def gIn(neg:Bool)(x y:Dt):ζ T:=(inD x y).map fun b=>.f (.bl (if neg then !b else b))
theorem o3{F:Hp}{d:Dt}(r:Rep K F d v)(h:cG d=θ):i6 v=θ:=by
 cases d<;>simp only[Rep]at r<;>first
  |(subst r;rfl)
  |cases h
theorem Dr{F:Hp}{d e:Dt}{w:V}(r:Rep K F d v)(r':Rep K F' e w)(h:cG d=θ)(h':cG e=θ):eqF d e=eqV v w:=by
 cases d<;>first|cases h;done|skip
 all_goals cases e<;>first|cases h';done|skip
 all_goals simp only[Rep]at r r';subst r r';rfl
theorem lS{F:Hp}:∀{l:η Dt}{vs:η V},Reps K F l vs->l.all cG=θ->vs.all i6=θ
 |[],vs,r,_=>by simp only[Reps]at r;subst r;rfl
 |d::l,vs,r,h=>by simp only[Reps]at r;obtain⟨v,ws,rfl,h1,h2⟩:=r;rw[qh9,qb0]at h ⊢;exact⟨o3 h1 h.1,lS h2 h.2⟩
theorem sE{F:Hp}{x:Dt}{w:V}(r':Rep K F' x w)(O:cG x=θ):∀{l:η Dt}{vs:η V},Reps K F l vs->l.all cG=θ->(l.any fun y=>eqF y x)=inV w vs
 |[],vs,r,_=>by simp only[Reps]at r;subst r;rfl
 |d::l,vs,r,h=>by simp only[Reps]at r;obtain⟨v,ws,rfl,h1,h2⟩:=r;rw[qh9,qb0]at h;unfold inV;rw[qe6,qe6,Dr h1 r' h.1 O,sE r' O h2 h.2];rfl
abbrev xE(K:xA9)(neg:Bool):R2:=fun x y H Q=>(∃i j,x=.str i/\y=.str j/\Q (.bl (if neg then !inS j i else inS j i)) H)∨rIn K neg x y H Q
theorem xF:OpR X (qe4 .In) (xE X.K ξ):=OpR.or vj vp
theorem vI:OpR X (qe4 .NotIn) (xE X.K θ):=OpR.or oF oE
theorem r_in(neg:Bool):R2D K (xE K neg) (gIn neg):=by
 intro F H x y vx vy Q t fh rx ry Z k;unfold gIn at Z;obtain⟨b,U,Z⟩:=mS Z;cases Z;have kk:=k.bl fh;unfold inD at U;split at U<;>first|(cases U;done)|skip
 .cases U;cases rx;cases ry;exact .inl ⟨_,_,rfl,rfl,kk⟩
 .split at U
  .rename_i q;rw[qb0]at q;cases U;obtain⟨a,vs,rfl,h1,h2⟩:=ry;have O:=rx.rep fh;rw[sE O q.1 h2 q.2]at kk;exact .inr ⟨a,vs,rfl,.inl h1,o3 O q.1,lS h2 q.2,kk⟩
  .cases U
 .split at U
  .rename_i q;rw[qb0]at q;cases U;obtain⟨a,vs,rfl,h1,h2⟩:=ry;have O:=rx.rep fh;rw[sE O q.1 h2 q.2]at kk;exact .inr ⟨a,vs,rfl,.inr (fh.tup h1),o3 O q.1,lS h2 q.2,kk⟩
  .cases U
theorem qu{F:Hp}{i:Int}{d:Dt}(r:Reps K F l vs)(h:atI l i=ς d):∃v,atI vs i=ς v/\Rep K F d v:=by unfold atI at h ⊢;rw[r.length];obtain⟨j,O,h⟩:=bS h;obtain⟨v,e,U⟩:=r.get h;exact⟨v,by rw[O];exact e,U⟩
def gIx:Dt->Dt->ζ T
 |.e l,.int i=>(atI l i).map .f
 |.t l,.int i=>(atI l i).map .f
 |.str x,.int i=>if x.length<=qa7 then(atI x.cps.toList i).map fun c=>.f (.str ⟨#[c]⟩)else ψ
 |_,_=>ψ
theorem r_ix:R2D K (rIx K) gIx:=by
 intro F H x y vx vy Q t fh Z U O k;unfold gIx at O;split at O<;>first|(cases O;done)|skip
 .obtain⟨d,hd,O⟩:=mS O;cases O;cases U;obtain⟨a,vs,rfl,h1,h2⟩:=Z;obtain⟨v,e,rv⟩:=qu h2 hd;exact .inl ⟨a,vs,_,v,rfl,rfl,h1,e,k.leaf.here fh rv⟩
 .obtain⟨d,hd,O⟩:=mS O;cases O;cases U;obtain⟨a,vs,rfl,h1,h2⟩:=Z;obtain⟨v,e,rv⟩:=qu h2 hd;exact .inr (.inl ⟨a,vs,_,v,rfl,rfl,fh.tup h1,e,k.leaf.here fh rv⟩)
 .split at O
  .rename_i hl;obtain⟨c,hc,O⟩:=mS O;cases O;cases Z;cases U;exact .inr (.inr ⟨_,_,c,rfl,rfl,hl,hc,k.str fh⟩)
  .cases O
variable{a b c:J9}{fa fb fc:De->ζ Dt}{pos:Pos}
def ck(g g':Dt->Dt->ζ T)(fa fb fc:De->ζ Dt):De->ζ T:=fun δ=>(fa δ).bind fun x=>(fb δ).bind fun y=>(g x y).bind fun z=>(asB z).bind fun k=>if k then(fc δ).bind fun w=>g' y w else ς (.f (.bl ξ))
theorem qv(hr:R2D K r g)(hr':R2D K r' g')(h:tO K (ck g g' fa fb fc) σ H Q):r9 r r' (tBd K fa) (tBd K fb) (tBd K fc) σ H Q:=by
 obtain⟨Φ,δ,F,t,hK,en,O,k⟩:=h;unfold ck at O;obtain⟨x,hx,O⟩:=bS O;obtain⟨y,hy,O⟩:=bS O;obtain⟨z,hz,O⟩:=bS O;obtain⟨b,hb,O⟩:=bS O;refine⟨Φ,δ,F,x,hK,en,hx,fun v H1 F1 st rv=>⟨Φ,δ,F1,y,hK,en.step st,hy,fun v2 H2 F2 Z rv2=>hr F2 H2 x y v v2 _ z Z.fh (rv.step Z.ff Z.hh) rv2 hz fun v3 H3 F3 S U o hs=>⟨b,k7 hb o,?_⟩⟩⟩;have s3:=(st.trans Z).trans U;split at O
 .rename_i q;rw[if_pos q];obtain⟨w,hw,O⟩:=bS O;exact⟨Φ,δ,F3,w,hK,en.step s3,hw,fun v4 H4 F4 st4 rv4=>hr' F4 H4 y w v2 v4 Q t st4.fh (rv2.step (U.ff.trans st4.ff) (U.hh.trans st4.hh)) rv4 O (k.step (s3.trans st4))⟩
 .rename_i q;rw[if_neg q];cases O;exact(k.step s3).bl U.fh
theorem xG(ho:OpR X (qe4 op) r)(Z:R2D X.K r g)(O:OpR X (qe4 op') r')(U:R2D X.K r' g')(ha:DB X a fa)(hb:DB X b fb)(hc:DB X c fc)(hm:ze9 [op,op'] [b,c]=ξ:=by with_unfolding_all rfl):DO X (.Compare a [op,op'] [b,c] pos) (ck g g' fa fb fc):=PE.mono (wK ho O ha hb hc hm) fun σ H Q h=>qv Z U h
def hG(f:De->ζ T):De->ζ Bool:=fun δ=>(f δ).bind asB
theorem gu(ho:OpR X (qe4 op) r)(hr:R2D X.K r g)(U:OpR X (qe4 op') r')(Z:R2D X.K r' g')(ha:DB X a fa)(hb:DB X b fb)(hc:DB X c fc)
 (hm:ze9 [op,op'] [b,c]=ξ:=by with_unfolding_all rfl):DT X (.Compare a [op,op'] [b,c] pos) (hG (ck g g' fa fb fc)):=PT.mono (wL ho U ha hb hc hm) fun σ H Q ⟨Φ,δ,F,t,hK,en,O,k⟩=>by
 unfold hG at O;obtain⟨z,hz,O⟩:=bS O;exact qv hr Z ⟨Φ,δ,F,z,hK,en,hz,fun v H' F' S st o hs=>⟨t,k7 O o,k H' F' st⟩⟩
def fg(l:η Dt)(lo hi:ζ Int):η Dt:=(l.drop (HT.sIx l.length 0 lo)).take (HT.sIx l.length l.length hi-HT.sIx l.length 0 lo)
def gSl:Dt->ζ Int->ζ Int->ζ T
 |.str x,lo,hi=>if x.length<=qa7 then ς (.f (.str (Txt.slice x lo hi)))else ψ
 |.e l,lo,hi=>ς (.e (fg l lo hi))
 |.t l,lo,hi=>if HT.sIx l.length 0 lo=0/\HT.sIx l.length l.length hi=l.length then ψ else ς (.f (.t (fg l lo hi)))
 |_,_,_=>ψ
abbrev rSlA(K:xA9):V->ζ Int->ζ Int->Hp->VK->Prop:=fun x lo hi H Q=>rSlS x lo hi H Q∨rSlL K x lo hi H Q∨rSlT K x lo hi H Q
theorem Ds:SlR X (rSlA X.K):=SlR.or Dh (SlR.or Ac C0)
theorem qw{F:Hp}(r:Reps K F l vs)(lo hi:ζ Int):Reps K F (fg l lo hi) (qe vs lo hi):=by unfold fg qe;rw[r.length];exact(r.drop _).take _
theorem r_sl{F:Hp}{x:Dt}{lo hi:ζ Int}{t:T}(fh:Same F H)(Z:RepB K F H x v)(O:gSl x lo hi=ς t)(k:KO K F H t Q):rSlA K v lo hi H Q:=by
 unfold gSl at O;split at O<;>first|(cases O;done)|skip
 .split at O
  .cases O;cases Z;exact .inl ⟨_,rfl,by assumption,k.str fh⟩
  .cases O
 .obtain⟨a,vs,rfl,h1,h2⟩:=Z;cases O;exact .inr (.inl ⟨a,vs,rfl,h1,fun p U=>jB k fh (qw h2 _ _) U⟩)
 .obtain⟨a,vs,rfl,h1,h2⟩:=Z;split at O
  .cases O
  .rename_i hn;cases O;rw[<- h2.length]at hn;exact .inr (.inr ⟨a,vs,rfl,fh.tup h1,hn,fun p U=>k.tup fh (qw h2 _ _) U⟩)
def tOD(K:xA9)(f:De->ζ (ζ Int)):TO:=fun σ H Q=>∃ Φ δ F d,Fm.K Φ=K/\En Φ δ σ F H/\f δ=ς d/\∀H' F',Step F H F' H'->Q d H'
def cH:De->ζ (ζ Int):=fun _=>ς ψ
def asI:Dt->ζ Int
 |.int i=>ς i
 |_=>ψ
def a0(f:De->ζ Dt):De->ζ (ζ Int):=fun δ=>(f δ).bind fun d=>(asI d).map ς
theorem jD{F:Hp}{x:Dt}{b:Int}(h:asI x=ς b)(r:RepB K F H x v):v=.int b:=by
 cases x<;>first|cases h;done|skip
 cases h;exact r
def DP(X:Cx)(e:ζ J9)(f:De->ζ (ζ Int)):Prop:=PO X e (tOD X.K f)
theorem o4:DP X ψ cH:=fun J1 s σ H Q I h=>zY J1 s σ H Q I (by obtain⟨Φ,δ,F,d,Z,U,O,k⟩:=h;cases O;exact k H F (Step.refl U.fh))
theorem o5(h:DB X e f):DP X (ς e) (a0 f):=fun J1 s σ H Q I q=>zZ h J1 s σ H Q I (by obtain⟨Φ,δ,F,d,U,en,O,k⟩:=q;unfold a0 at O;obtain⟨x,Z,O⟩:=bS O;obtain⟨i,hi,O⟩:=mS O;cases O;exact⟨Φ,δ,F,x,U,en,Z,fun v H' F' st r=>⟨i,jD hi r,k H' F' st⟩⟩)
def vSl(fa:De->ζ Dt)(fl fh:De->ζ (ζ Int)):De->ζ T:=fun δ=>(fa δ).bind fun x=>(fl δ).bind fun l=>(fh δ).bind fun h=>gSl x l h
theorem lT{lo hi:ζ J9}{fl fh:De->ζ (ζ Int)}(he:DB X e f)(hl:DP X lo fl)(hh:DP X hi fh):DO X (.Subscript e (.Slice lo hi ψ p2) pos) (vSl f fl fh):=PE.mono (wR Ds he hl hh) fun σ H Q ⟨Φ,δ,F,t,Z,en,O,k⟩=>by unfold vSl at O;obtain⟨x,hx,O⟩:=bS O;obtain⟨l,hl,O⟩:=bS O;obtain⟨h,hh,O⟩:=bS O;exact⟨Φ,δ,F,x,Z,en,hx,fun v H1 F1 s1 r1=>⟨Φ,δ,F1,l,Z,en.step s1,hl,fun H2 F2 s2=>⟨Φ,δ,F2,h,Z,en.step (s1.trans s2),hh,fun H3 F3 U=>r_sl U.fh (r1.step (s2.ff.trans U.ff) (s2.hh.trans U.hh)) O (k.step ((s1.trans s2).trans U))⟩⟩⟩
def hJ(f:De->ζ Dt):De->ζ T:=fun δ=>(f δ).bind fun d=>(asI d).map fun i=>.f (.int (-i))
theorem xH(h:DB X a fa):DO X (.UnaryOp .USub a pos) (hJ fa):=PE.mono (E1 CQ h) fun σ H Q ⟨Φ,δ,F,t,U,en,O,k⟩=>by unfold hJ at O;obtain⟨x,Z,O⟩:=bS O;obtain⟨i,hi,O⟩:=mS O;cases O;exact⟨Φ,δ,F,x,U,en,Z,fun v H' F' st r=>⟨i,jD hi r,(k.step st).int st.fh⟩⟩
def br:η Dt->ζ T
 |[.str x]=>if x.length<=qa7 then ς (.f (.int x.length))else ψ
 |[.t l]=>ς (.f (.int l.length))
 |[.e l]=>ς (.f (.int l.length))
 |_=>ψ
theorem dL{F:Hp}{d:Dt}(r:qp K F H [d] vs):∃v,vs=[v]/\RepB K F H d v:=by obtain⟨v,ws,rfl,h1,h2⟩:=r;cases h2;exact⟨v,rfl,h1⟩
theorem Fp:CRD K (fun xs H Q=>∃x n,xs=[x]/\LenV K x H n/\Q (.int n) H) br:=by
 intro F H ds vs Q t fh r O k;unfold br at O;split at O<;>first|(cases O;done)|skip
 .split at O
  .rename_i Z;cases O;obtain⟨v,rfl,U⟩:=dL r;cases U;exact⟨_,_,rfl,⟨Z,rfl⟩,k.int fh⟩
  .cases O
 .cases O;obtain⟨v,rfl,U⟩:=dL r;obtain⟨a,vs,rfl,h1,h2⟩:=U;rw[<- h2.length]at k;exact⟨_,_,rfl,.inr ⟨vs,fh.tup h1,rfl⟩,k.int fh⟩
 .cases O;obtain⟨v,rfl,U⟩:=dL r;obtain⟨a,vs,rfl,h1,h2⟩:=U;rw[<- h2.length]at k;exact⟨_,_,rfl,.inl ⟨vs,h1,rfl⟩,k.int fh⟩
def jE:η Dt->ζ (η Bool)
 |[]=>ς []
 |.bl b::r=>(jE r).map (b::·)
 |_=>ψ
theorem qx{F:Hp}:∀{l:η Dt}{vs:η V}{bs:η Bool},Reps K F l vs->jE l=ς bs->vs=bs.map V.bl
 |[],vs,bs,r,h=>by cases h;simp only[Reps]at r;exact r
 |d::l,vs,bs,r,h=>by
  cases d<;>first|cases h;done|skip
  simp only[jE]at h;obtain⟨cs,O,h⟩:=mS h;cases h;simp only[Reps,Rep]at r;obtain⟨v,ws,rfl,rfl,U⟩:=r;rw[qx U O];rfl
def xI(f:η Bool->Bool):η Dt->ζ T
 |[.e l]=>(jE l).map fun bs=>.f (.bl (f bs))
 |_=>ψ
theorem xJ{f:η Bool->Bool}:CRD K (fun xs H Q=>∃(a:J5)(bs:η Bool),xs=[.ref a]/\SqL K H a (bs.map V.bl)/\Q (.bl (f bs)) H) (xI f):=by
 intro F H ds vs Q t fh r O k;unfold xI at O;split at O<;>first|(cases O;done)|skip
 obtain⟨bs,U,O⟩:=mS O;cases O;obtain⟨v,rfl,Z⟩:=dL r;obtain⟨a,vs,rfl,h1,h2⟩:=Z;have:=qx h2 U;subst this;exact⟨a,bs,rfl,h1,k.bl fh⟩
def xK(i:Int):Bool:=decide (i.natAbs.log2<1920)
def AD:η Dt->ζ T
 |[.int i]=>if xK i then ς (.f (.str (qy3 i)))else ψ
 |_=>ψ
theorem Fq:CRD K (fun xs H Q=>∃i,xs=[.int i]/\i.natAbs.log2<1920/\Q (.str (qy3 i)) H) AD:=by
 intro F H ds vs Q t fh r O k;unfold AD at O;split at O<;>first|(cases O;done)|skip
 split at O
 .rename_i h;cases O;obtain⟨v,rfl,U⟩:=dL r;cases U;exact⟨_,rfl,of_decide_eq_true h,k.str fh⟩
 .cases O
def fR:η Dt->ζ T
 |[.int i]=>ς (.f (.int i))
 |[.bl b]=>ς (.f (.int (if b then 1 else 0)))
 |[.str x]=>(PySem.intText? x).bind fun n=>if x.length<=640 then ς (.f (.int n))else ψ
 |_=>ψ
abbrev B0:η V->Hp->VK->Prop:=fun xs H Q=>((∃i,xs=[.int i]/\Q (.int i) H)∨∃k,xs=[.bl k]/\Q (.int (if k then 1 else 0)) H)∨∃x n,xs=[.str x]/\PySem.intText? x=ς n/\x.length<=640/\Q (.int n) H
theorem vJ:CallR X (.type "int") B0:=CallR.or vk oK
theorem Fs:CRD K B0 fR:=by
 intro F H ds vs Q t fh r O k;unfold fR at O;split at O<;>first|(cases O;done)|skip
 .cases O;obtain⟨v,rfl,U⟩:=dL r;cases U;exact .inl (.inl ⟨_,rfl,k.int fh⟩)
 .cases O;obtain⟨v,rfl,U⟩:=dL r;cases U;exact .inl (.inr ⟨_,rfl,k.int fh⟩)
 .obtain⟨n,Z,O⟩:=bS O;split at O
  .cases O;obtain⟨v,rfl,U⟩:=dL r;cases U;exact .inr ⟨_,n,rfl,Z,by assumption,k.int fh⟩
  .cases O
def ge:η Dt->ζ T
 |[.e l]=>ς (.f (.t l))
 |[.t l]=>ς (.f (.t l))
 |_=>ψ
theorem o6:CRD K (fun xs H Q=>∃p ys,xs=[.ref p]/\((SqL K H p ys/\∀l,H l=ψ->Q (.ref l) (upd H l (.t ys)))∨(SqT K H p ys/\Q (.ref p) H))) ge:=by
 intro F H ds vs Q t fh r O k;unfold ge at O;split at O<;>first|(cases O;done)|skip
 .cases O;obtain⟨v,rfl,U⟩:=dL r;obtain⟨a,vs,rfl,h1,h2⟩:=U;exact⟨a,vs,rfl,.inl ⟨h1,fun p hp=>k.tup fh h2 hp⟩⟩
 .cases O;obtain⟨v,rfl,U⟩:=dL r;rename_i l;have Z:Rep K F (.t l) v:=by simp only[Rep];exact U
  obtain⟨a,vs,rfl,h1,h2⟩:=U;exact⟨a,vs,rfl,.inr ⟨fh.tup h1,k.leaf.here fh Z⟩⟩
end
variable{mg:Str->ζ Value}{s:qa4}{A:qd8}
section
variable{X:Cx}{o a b e c:J9}{es:η J9}{fa fb fo fe:De->ζ Dt}{fs:De->ζ (η Dt)}{pos apos cpos p:Pos}{x:Str}{sc:Ja}{i:Nat}
def eN(K:xA9)(mg:Str->ζ Value)(x:Str)(d:Dt):Prop:=∃v,(∃u,mg x=ς u/\RelV v u)/\∀F,Rep K F d v
theorem jF{d:Dt}(h:aO sc x=θ)(O:eN X.K X.mg x d)(e1:bU X sc:=by rfl):DL X (.Name x pos) (kD d):=by obtain⟨v,h1,h2⟩:=O;exact xt (gm h h1 e1) h2
theorem iw{i:Int}(h:∃u,mg x=ς u/\RelV (.int i) u):eN K mg x (.int i):=⟨_,h,fun _=>iR⟩
theorem qy{i:Str}(h:∃u,mg x=ς u/\RelV (.str i) u):eN K mg x (.str i):=⟨_,h,fun _=>gI⟩
def qz:Dt->Bool
 |_=>ξ
def tyD:Dt->String
 |.non=>"NoneType"
 |.bl _=>"bool"
 |.int _=>"int"
 |.str _=>"str"
 |.t _=>"tuple"
 |.e _=>"list"
 |.dct _ _=>"dict"
 |.dcT _ _=>"dict"
def B1(c:String):Dt->Bool
 |.non=>c=="NoneType"
 |.bl _=>c=="bool"||c=="int"
 |.int _=>c=="int"
 |.str _=>c=="str"
 |.t _=>c=="tuple"
 |.e _=>c=="list"
 |.dct _ _=>c=="dict"
 |.dcT _ _=>c=="dict"
theorem sF {J1:η (J5×Obj)} {E:Value->qa4->Prop} {Q:Value->qa4->Prop} {c:Value} {b:Bool} {u:Value} {d:Dt} (I:Inv X J1 σ H s) (O:RelV v u) (r:Rep X.K H d v) (hi:qz d=ξ) (e:xI9 X.K (.type (tyD d)) c=ς b) (h:∀ tk,Q (.bool b) {s with toks:=tk}) :
  wpAny (model X.prog X.w) A (call (.builtin "isinstance") [u,c]) Q E s:=by
 cases d with
 |non=>simp only[Rep]at r;subst r;exact iP I O .non e h
 |bl y=>simp only[Rep]at r;subst r;exact iP I O (.bl y) e h
 |int y=>simp only[Rep]at r;subst r;exact iP I O (.int y) e h
 |str y=>simp only[Rep]at r;subst r;exact iP I O (.str y) e h
 |t l=>simp only[Rep]at r;obtain⟨a,vs,rfl,h1,h2⟩:=r;cases O;obtain⟨J4,_,U,_⟩:=I.tuple h1;obtain⟨o,e1,e2,_⟩:=U;exact xG9 PySem.W.kitx_tuple I.kIn ⟨o,e1,e2⟩ e (fun z=>nomatch z) h
 |e l=>simp only[Rep]at r;obtain⟨a,vs,rfl,h1,h2⟩:=r;cases O;obtain⟨J4,_,U,_⟩:=I.list h1;obtain⟨o,n,e1,e2,_⟩:=U;exact xG9 xW9 I.kIn ⟨o,e1,e2⟩ e (fun z=>nomatch z) h
 |dct ks l=>simp only[Rep]at r;obtain⟨a,J3,rfl,h1,_⟩:=r;cases O;obtain⟨_,_,vs,_,p⟩:=kO I.hok h1;obtain⟨o,es,ep,e1,e2,_⟩:=p;exact xG9 xQ9 I.kIn ⟨o,e1,e2.1⟩ e (fun z=>nomatch z) h
 |dcT ks l=>simp only[Rep]at r;obtain⟨a,J3,rfl,h1,_⟩:=r;cases O;obtain⟨_,_,xs,_,o,es,ep,e1,e2,_⟩:=(show ObjOk X.prog X.w H s.heap a (.dT J3)from h1.ok I.hok);exact xG9 xQ9 I.kIn ⟨o,e1,e2.1⟩ e (fun z=>nomatch z) h
def gL(K:xA9)(c:String):Prop:=∀d:Dt,qz d=ξ->xI9 K (.type (tyD d)) (.type c)=ς (B1 c d)
theorem sG:CallR X (.builtin "isinstance") (fun xs H Q=>∃v c d b,xs=[v,.ty c]/\Rep X.K H d v/\qz d=ξ/\xI9 X.K (.type (tyD d)) (.type c)=ς b/\Q (.bl b) H):=by intro J1 s σ H xs us Q I r h;obtain⟨v,c,d,b,rfl,rd,hi,e,q⟩:=h;obtain⟨u,Z,rfl,U,O⟩:=qb r;cases O;exact sF I U rd hi e fun tk=>⟨.bl b,H,I.tok _,rfl,q⟩
def i9(c:String)(f:De->ζ Dt):De->ζ T:=fun δ=>(f δ).bind fun d=>if qz d then ψ else ς (.f (.bl (B1 c d)))
theorem dz{O:Str}{cs:String}{p1:Pos}(h:aO sc "isinstance"=θ)(hcn:aO sc O=θ)(hm:X.mg "isinstance"=ψ)(hmc:X.mg O=ψ)(hv:qd5 O=ς (.type cs))(hk:gL X.K cs)(ha:DB X a fa)(e1:bU X sc:=by rfl)
 (he:qa2 [a,.Name O p2] X.env=(ξ,eval a X.env)::qa2 [.Name O p2] X.env:=by rfl) (he2:qa2 [.Name O p2] X.env=(ξ,eval (.Name O p2) X.env)::qa2 [] X.env:=by rfl) (Z:(qf2 pos (qa2 [.Name O p2] X.env)).any (·.1)=ξ:=by rfl) :
  DO X (.Call (.Name "isinstance" p1) [a,.Name O p2] [] pos) (i9 cs fa):=
 PE.mono (iQ h sG hm f9 (c8 ha (c8 (ql (v:=.ty cs) hcn hmc hv rfl e1) ia he2) he) e1 he Z) fun σ H Q ⟨Φ,δ,F,t,hK,en,U,k⟩=>by
  unfold i9 at U;obtain⟨d,hd,U⟩:=bS U;cases hi:qz d with
  |true=>rw[hi]at U;cases U
  |false=>rw[hi]at U;cases U;exact⟨Φ,δ,F,d,hK,en,hd,fun v H' F' st r=>⟨v,cs,d,_,rfl,r.rep st.fh,hi,hk d hi,(k.step st).bl st.fh⟩⟩
def MRD(K:xA9)(r:V->η V->Hp->VK->Prop)(g:Dt->η Dt->ζ T):Prop:=∀F H d v ds vs (Q:VK) t,Same F H->RepB K F H d v->qp K F H ds vs->g d ds=ς t->KO K F H t Q->r v vs H Q
def bR(g:Dt->η Dt->ζ T)(fo:De->ζ Dt)(fs:De->ζ (η Dt)):De->ζ T:=fun δ=>(fo δ).bind fun d=>(fs δ).bind fun ds=>g d ds
theorem sH {name:Str} {id:String} {r:V->η V->Hp->VK->Prop} {g:Dt->η Dt->ζ T} (slot:Slot "str" name id) (hty:typeOf (.builtin id)=pure (.type "method_descriptor")) (hm:MtR X id r) (hr:MRD X.K r g) (hg:∀ d ds t,g d ds=ς t->∃ z,d=.str z)
  (ho:DB X o fo) (ha:DAB X (e::es) fs)
  (hbase:qg5 o name X.env (eval o X.env)=eval o X.env:=by rfl)
  (hfew:((qf2 cpos (qa2 (e::es) X.env)).all (fun x=>!x.1)&&(qs1 cpos (ql2 [] X.env)).all (fun x=>x.1.isSome)
   && decide ((e::es).length+([]:η qk3).length+(if([]:η qk3).isEmpty then 0 else 1)<30))=θ:=by rfl)
  (Z:(apos.endLine==cpos.line)=θ:=by rfl) (hs:qa2 (e::es) X.env=(ξ,eval e X.env)::qa2 es X.env:=by rfl) (U:(qf2 cpos (qa2 es X.env)).any (·.1)=ξ:=by rfl) :
  DO X (.Call (.Attribute o name apos) (e::es) [] cpos) (bR g fo fs):=PE.mono (wU PySem.F.plainAttrs_str slot hty hm ho ha.pa hbase hfew Z hs U) fun σ H Q ⟨Φ,δ,F,t,hK,en,hf,k⟩=>by
 unfold bR at hf;obtain⟨d,hd,hf⟩:=bS hf;obtain⟨ds,hds,hf⟩:=bS hf;refine⟨Φ,δ,F,d,hK,en,hd,fun v H1 F1 st rv=>⟨?_,Φ,δ,F1,ds,hK,en.step st,hds,fun vs H2 F2 O rvs=>hr F2 H2 d v ds vs Q t O.fh (rv.step O.ff O.hh) rvs hf (k.step (st.trans O))⟩⟩;obtain⟨z,rfl⟩:=hg d ds t hf;cases rv;rfl
def iy:η Dt->ζ (η Str)
 |[]=>ς []
 |.str b::r=>(iy r).map (b::·)
 |_=>ψ
theorem nz{F:Hp}:∀{l:η Dt}{vs:η V}{bs:η Str},Reps K F l vs->iy l=ς bs->vs=bs.map V.str
 |[],vs,bs,r,h=>by cases h;simp only[Reps]at r;exact r
 |d::l,vs,bs,r,h=>by
  cases d<;>first|cases h;done|skip
  simp only[iy]at h;obtain⟨cs,O,h⟩:=mS h;cases h;simp only[Reps,Rep]at r;obtain⟨v,ws,rfl,rfl,U⟩:=r;rw[nz U O];rfl
def cA:Dt->η Dt->ζ T
 |.str a,[.e l]=>(iy l).bind fun ts=>if zf2 a ts then ς (.f (.str (Txt.join a ts)))else ψ
 |_,_=>ψ
theorem AE:MRD K (fun x vs H Q=>∃(a:Str)(l:J5)(ts:η Str),x=.str a/\vs=[.ref l]/\SqL K H l (ts.map V.str)/\zf2 a ts=θ/\Q (.str (Txt.join a ts)) H) cA:=by
 intro F H d v ds vs Q t fh rd rs O k;unfold cA at O;split at O<;>first|cases O;done|skip
 obtain⟨ts,Z,O⟩:=bS O;split at O
 .rename_i U;cases O;cases rd;obtain⟨v,rfl,rv⟩:=dL rs;obtain⟨a,vs,rfl,h1,h2⟩:=rv;have:=nz h2 Z;subst this;exact⟨_,a,ts,rfl,rfl,h1,U,k.str fh⟩
 .cases O
theorem sI:∀d ds t,cA d ds=ς t->∃z,d=.str z:=fun d ds t h=>by
 unfold cA at h;split at h
 .exact⟨_,rfl⟩
 .cases h
theorem jG (ho:DB X o fo) (ha:DAB X (e::es) fs)
  (Z:qg5 o "join" X.env (eval o X.env)=eval o X.env:=by rfl)
  (hfew:((qf2 cpos (qa2 (e::es) X.env)).all (fun x=>!x.1)&&(qs1 cpos (ql2 [] X.env)).all (fun x=>x.1.isSome)
   && decide ((e::es).length+([]:η qk3).length+(if([]:η qk3).isEmpty then 0 else 1)<30))=θ:=by rfl)
  (U:(apos.endLine==cpos.line)=θ:=by rfl) (hs:qa2 (e::es) X.env=(ξ,eval e X.env)::qa2 es X.env:=by rfl) (O:(qf2 cpos (qa2 es X.env)).any (·.1)=ξ:=by rfl) :
  DO X (.Call (.Attribute o "join" apos) (e::es) [] cpos) (bR cA fo fs):=sH PySem.F.slot_str_join PySem.F.type_str_join Ar AE sI ho ha Z hfew U hs O
def cI:Dt->η Dt->ζ T
 |.str a,[.str b]=>ς (.f (.bl (Txt.startswith a b)))
 |_,_=>ψ
theorem mI:MRD K (fun x vs H Q=>∃a b,x=.str a/\vs=[.str b]/\Q (.bl (Txt.startswith a b)) H) cI:=by
 intro F H d v ds vs Q t fh rd Z O k;unfold cI at O;split at O<;>first|cases O;done|skip
 cases O;cases rd;obtain⟨v,rfl,U⟩:=dL Z;cases U;exact⟨_,_,rfl,rfl,k.bl fh⟩
theorem kb:∀d ds t,cI d ds=ς t->∃z,d=.str z:=fun d ds t h=>by
 unfold cI at h;split at h
 .exact⟨_,rfl⟩
 .cases h
theorem mJ (ho:DB X o fo) (ha:DAB X (e::es) fs)
  (Z:qg5 o "startswith" X.env (eval o X.env)=eval o X.env:=by rfl)
  (hfew:((qf2 cpos (qa2 (e::es) X.env)).all (fun x=>!x.1)&&(qs1 cpos (ql2 [] X.env)).all (fun x=>x.1.isSome)
   && decide ((e::es).length+([]:η qk3).length+(if([]:η qk3).isEmpty then 0 else 1)<30))=θ:=by rfl)
  (U:(apos.endLine==cpos.line)=θ:=by rfl) (hs:qa2 (e::es) X.env=(ξ,eval e X.env)::qa2 es X.env:=by rfl) (O:(qf2 cpos (qa2 es X.env)).any (·.1)=ξ:=by rfl) :
  DO X (.Call (.Attribute o "startswith" apos) (e::es) [] cpos) (bR cI fo fs):=sH PySem.F.slot_str_startswith PySem.F.type_str_startswith mH mI kb ho ha Z hfew U hs O
def y17(i:Nat)(f:De->ζ Dt):De->ζ Out:=fun δ=>match δ[i]? with
 |some (ς (.e l))=>(f δ).bind fun d=>if l.length<qa7 then ς (.nx (δ.set i (ς (.e (l++[d])))))else ψ
 |_=>ψ
theorem En.ownL{F:Hp}(U:En Φ δ σ F H)(h:δ[i]?=ς (ς (.e l))):∃a vs,σ[i]?=ς (ς (.ref a))/\H a=ς (.e vs)/\Reps Φ.K F l vs:=by obtain⟨v,O⟩:=U.has i _ h;obtain⟨S,s⟩:=U.sep;obtain⟨a,vs,rfl,_,h1,h2⟩:=s.own i _ v (cc h O);exact⟨a,vs,O,h1,h2⟩
theorem fD (hx:PE X o (gF i)) (he:DL X e fe)
  (hbase:qg5 o "append" X.env (eval o X.env)=eval o X.env:=by rfl)
  (hfew:((qf2 cpos (qa2 [e] X.env)).all (fun x=>!x.1)&&(qs1 cpos (ql2 [] X.env)).all (fun x=>x.1.isSome)
   && decide ([e].length+([]:η qk3).length+(if([]:η qk3).isEmpty then 0 else 1)<30))=θ:=by rfl)
  (Z:(apos.endLine==cpos.line)=θ:=by rfl) (hs:qa2 [e] X.env=(ξ,eval e X.env)::qa2 [] X.env:=by rfl) (O:(qf2 cpos (qa2 [] X.env)).any (·.1)=ξ:=by rfl)
  (hsw:qf7 (.Call (.Attribute o "append" apos) [e] [] cpos) ψ pos.line X.env=pure ξ:=by rfl) :
  DS1 X (.Expr (.Call (.Attribute o "append" apos) [e] [] cpos) pos) (y17 i fe):=
 PS.mono (oq (wU PySem.F.plainAttrs_list PySem.F.slot_list_append PySem.F.type_list_append mY hx (c8 he ia hs) hbase hfew Z hs O) hsw) fun D σ H ⟨Φ,δ,F,ot,hK,en,U,k⟩=>by
  unfold y17 at U;split at U<;>first|cases U;done|skip
  rename_i l hl;obtain⟨d,hd,U⟩:=bS U;split at U<;>first|cases U;done|skip
  rename_i hz;cases U;obtain⟨a,vs,hv,h1,h2⟩:=en.ownL hl;refine⟨.ref a,hv,.inl ⟨rfl,vs,.inl (.inl h1)⟩,Φ,δ,F,d,hK,en,hd,fun v H1 F1 st rv=>?_⟩;have en1:=en.step st;have h1':=st.hh _ _ h1;refine⟨a,vs,v,rfl,rfl,h1',by rw[h2.length];exact hz,?_⟩;refine k σ F1 _ (en1.poke hl hv rfl fun S sa=>⟨a,vs++[v],rfl,sa,aC,(h2.same st.ff).append (Reps.one (hK▸rv))⟩)
def sPutL(i:Nat)(fk fe:De->ζ Dt):De->ζ Out:=fun δ=>(fe δ).bind fun d=>(fk δ).bind fun k=>match δ[i]?,k with
 |some (ς (.e l)),.int n=>(ixN l.length n).map fun j=>.nx (δ.set i (ς (.e (l.set j d))))
 |_,_=>ψ
theorem Reps.set{F:Hp}{d:Dt}(h:Rep K F d v):∀{l:η Dt}{vs:η V}(j:Nat),Reps K F l vs->Reps K F (l.set j d) (vs.set j v)
 |[],vs,j,r=>by simp only[Reps]at r;subst r;simp[Reps]
 |e::l,vs,0,r=>by simp only[Reps]at r;obtain⟨w,ws,rfl,_,O⟩:=r;simp only[List.set_cons_zero,Reps];exact⟨v,ws,rfl,h,O⟩
 |e::l,vs,j+1,r=>by simp only[Reps]at r;obtain⟨w,ws,rfl,U,O⟩:=r;simp only[List.set_cons_succ,Reps];exact⟨w,_,rfl,U,Reps.set h j O⟩
def AF(f:Int->Int->Int)(i:Nat)(fe:De->ζ Dt):De->ζ Out:=fun δ=>match δ[i]? with
 |some (ς (.f (.int n)))=>(fe δ).bind fun d=>(asI d).map fun m=>.nx (δ.set i (ς (.f (.int (f n m)))))
 |_=>ψ
theorem Du{f:Int->Int->Int}(h:tS K (AF f i fe) D σ H):tAug i (tBd K fe) (ipI f) D σ H:=by
 obtain⟨Φ,δ,F,ot,hK,U,O,k⟩:=h;unfold AF at O;split at O<;>first|cases O;done|skip
 rename_i n hn;obtain⟨d,hd,O⟩:=bS O;obtain⟨m,hm,O⟩:=mS O;cases O;obtain⟨v,hv,Z⟩:=U.leaf hn;simp only[Rep]at Z;subst Z;exact⟨_,hv,Φ,δ,F,d,hK,U,hd,fun w H1 F1 st r=>⟨n,m,rfl,jD hm r,k _ F1 H1 ((U.step st).name iR i)⟩⟩
theorem sJ (h:dh sc N i x=θ) (O:g9 sc x=θ) (nd:N.Nodup) (U:DB X e fe) (e1:bU X sc:=by rfl) (e2:X.N=N:=by rfl) (Z:X.fn x=θ∨X.env.scope.names.lookup x=ς .local:=by exact .inl rfl) :
  DS1 X (.AugAssign (.Name x pos') .Add e pos) (AF (fun i j=>i+j) i fe):=by
 have e1:X.env.scope=sc:=e1;subst e1 e2;exact PS.mono (CK nd (eV h) (gH O) U CL Z) fun D σ H q=>Du q
end
def KX(K:xA9)(F H:Hp)(c:Str)(l:η (Str×Dt))(E:XK):Prop:=∀x H' F',Step F H F' H'->RepX K F' c l (.ref x)->∀dx,E (.ref x) dx H'
def KOX(K:xA9)(F H:Hp)(Q:VK)(E:XK):T->Prop
 |.rse c l=>KX K F H c l E
 |t=>KO K F H t Q
def spX(K:xA9)(n:Nat)(f:η Dt->ζ T):Sp:=fun vs H Q E=>∃F ds t,Same F H/\ds.length=n/\Reps K F ds vs/\f ds=ς t/\KOX K F H Q E t
structure OkFX(P:qc0)(w:J6)(K:xA9)(mg:Str->Option Value)(base:Heap)(x:Str)(k:Nat)(ps:List Str)(sp:Sp):Prop where
 ex:∃f fd,mg x=ς (.ref f)/\xE9 K (.ref f)=θ/\Binds K fd ps []/\FnOk P w K mg base (CXX P w) k f fd ps sp
structure OkX(P:qc0)(w:J6)(K:xA9)(mg:Str->Option Value)(base:Heap)(c:Str)(k:Nat)(ns:List Str):Prop where
 ex:∃C D f fd ps,mg c=ς (.ref C)/\cV K c=ς C/\cV K "DimError"=ς D/\XCl K C D f/\(∀g∈ns,dZ K C g)/\ns.length<=qa7/\Binds K fd ps []/\FnOk P w K mg base CX0 k f fd ps (spI K f ns)
structure RtX(Φ:Fm)(c:Str)(l:List (Str×Dt))(x:J5)(F H:Hp):Prop where
 fh:Same F H
 prot:∀b o,Φ.H0 b=ς o->¬ Φ.S0 b->H b=ς o
 old:Same Φ.F0 F
 nw:∀b o,F b=ς o->Φ.F0 b=ς o∨Φ.B b∨∃vs,Φ.H0 b=ς (.t vs)
 rep:RepX Φ.K F c l (.ref x)
def Ft(Φ:Fm)(D:Ends)(E:XK):T->Prop
 |.rse c l=>∀x F H,RtX Φ c l x F H->∀dx,E (.ref x) dx H
 |t=>Post Φ D (.rt t)
def PostX(Φ:Fm)(D:Ends)(E:XK):Out->Prop
 |.rt t=>Ft Φ D E t
 |o=>Post Φ D o
def tSX(K:xA9)(E:XK)(g:De->ζ Out):TS:=fun D σ H=>∃ Φ δ F o,Fm.K Φ=K/\En Φ δ σ F H/\g δ=ς o/\PostX Φ D E o
def DX1(X:Cx)(E:XK)(st:J8)(g:De->ζ Out):Prop:=PS X st (tSX X.K E g)
def DX(X:Cx)(E:XK)(ss:η J8)(g:De->ζ Out):Prop:=PSs X ss (tSX X.K E g)
variable{E:XK}
theorem PostX.post(k:PostX Φ D E o):Post Φ D o:=by
 cases o with
 |rt t=>
  cases t with
  |rse c l=>exact fun v F H ⟨_,_,_,_,S,z,_⟩=>(show False from z).elim
  |_=>exact k
 |_=>exact k
theorem PostX.rtE{O:Ends}{t:T}(e:D.rt=O.rt)(k:PostX Φ D E (.rt t)):PostX Φ O E (.rt t):=by
 cases t with
 |rse c l=>exact k
 |_=>exact fun v F H z=>e▸k v F H z
section
variable{X:Cx}{E:XK}{st:J8}{rest a b body:η J8}{g g1 g2:De->ζ Out}{e c tg iter:J9}{pos:Pos}{tc:De->ζ Bool}{fi:De->ζ (η Dt)}
theorem eB(h:DS1 X st g):DX1 X E st g:=PS.mono h fun D σ H ⟨Φ,δ,F,o,O,Z,U,k⟩=>⟨Φ,δ,F,o,O,Z,U,k.post⟩
theorem xL(h:DS X a g):DX X E a g:=PSs.mono h fun D σ H ⟨Φ,δ,F,o,O,Z,U,k⟩=>⟨Φ,δ,F,o,O,Z,U,k.post⟩
theorem gM(h:DX1 X E st g):DX X E [st] g:=fS h
theorem cv(h1:DX1 X E st g1)(h2:DX X E rest g2):DX X E (st::rest) (ao g1 g2):=PSs.mono (lE h1 h2) fun D σ H ⟨Φ,δ,F,o,hK,en,O,k⟩=>by
 unfold ao at O;obtain⟨o1,h1,O⟩:=bS O;refine⟨Φ,δ,F,o1,hK,en,h1,?_⟩;cases o1 with
 |nx U=>exact fun σ' F' H' Z=>⟨Φ,U,F',o,hK,Z,O,k⟩
 |rt t=>cases O;exact PostX.rtE rfl k
 |bk U=>cases O;exact k
 |ct U=>cases O;exact k
theorem xM(hc:DT X c tc)(h1:DX X E a g1)(h2:DX X E b g2):DX1 X E (.If c a b pos) (sIf tc g1 g2):=PS.mono (BJ hc h1 h2) fun D σ H ⟨Φ,δ,F,o,U,Z,O,k⟩=>by
 unfold sIf at O;obtain⟨x,hx,O⟩:=bS O;refine⟨Φ,δ,F,x,U,Z,hx,fun H' F' st=>?_⟩;split at O
 .rename_i q;rw[if_pos q];exact⟨Φ,δ,F',o,U,Z.step st,O,k⟩
 .rename_i q;rw[if_neg q];exact⟨Φ,δ,F',o,U,Z.step st,O,k⟩
theorem PostX.at{o:Out}(U:En Φ δ σ F1 H1)(k:PostX Φ D E o):PostX (Φ.at F1) D E o:=by
 cases o with
 |rt t=>
  cases t with
  |rse c l=>exact fun x F H e=>k x F H ⟨e.fh,e.prot,U.old.trans e.old,fun b o h=>(e.nw b o h).elim (fun z=>U.nw b o z) .inr,e.rep⟩
  |_=>exact fun v F H e=>k v F H (Rt.back U e)
 |nx O=>exact Post.at (o:=.nx O) U k
 |bk O=>exact Post.at (o:=.bk O) U k
 |ct O=>exact Post.at (o:=.ct O) U k
theorem xN(hp:zd1 (model X.prog X.w) X.A X.env X.xe)(hc:X.calm=θ)(hi:DIF X tg iter fi)(hg:DG X tg ts bb)(hb:DX X E body g)
 (hs:∀x,qe5 iter X.env x=pure x:=by intro _;rfl):DX1 X E (.For tg iter body [] pos) (dP fi bb g):=PS.mono (wH hp hc hi hg hb hs) fun D σ H ⟨Φ,δ,F,o,hK,en,hg,k⟩=>by
 unfold dP at hg;obtain⟨ds,hd,hg⟩:=bS hg;rw[ue];refine⟨Φ,δ,F,ds,hK,en,hd,fun J ok H1 F1 st1 wd ho=>?_⟩;have en1:=en.step st1;have k1:=PostX.at en1 k;refine qq (n:=ds.length) (fun i σ' H'=>∃Z F',En (Φ.at F1) Z σ' F' H'/\cW bb g (ds.drop i) Z=ς o) ⟨δ,F1,en1.at,by simpa using hg⟩ (fun i σ' H' ⟨Z,F',U,_⟩=>?_) ?_ ?_
 .obtain⟨p1,p2,_⟩:=wd i H' F' (ho H' (U.old.trans U.fh)) U.fh U.old;exact⟨p1,p2⟩
 .rintro i x σ' H' H'' hi ⟨Z,F',U,O⟩ hy;obtain⟨_,_,p3⟩:=wd i H' F' (ho H' (U.old.trans U.fh)) U.fh U.old;obtain⟨d,F2,hd',st2,rd⟩:=p3 x H'' hi hy;rw[k8 hd']at O;unfold cW at O;obtain⟨δ1,h1,O⟩:=bS O;obtain⟨o1,h2,O⟩:=bS O;refine⟨Φ.at F1,Z,F2,d,δ1,hK,U.step st2,rd,h1,fun σ1 _ _ en1=>⟨Φ.at F1,δ1,F2,o1,hK,en1,h2,?_⟩⟩;cases o1 with
  |nx δ2=>exact fun σ2 F2 H2 en2=>⟨δ2,F2,en2,O⟩
  |ct δ2=>exact fun σ2 F2 H2 en2=>⟨δ2,F2,en2,O⟩
  |bk δ2=>cases O;exact fun σ2 F2 H2 en2=>k1 σ2 F2 H2 en2
  |rt t=>cases O;exact PostX.rtE rfl k1
 .rintro σ' H' ⟨Z,F',U,O⟩;rw[qs8]at O;cases O;exact k1 σ' F' H' U
end
section
variable{P:qc0}{w:J6}{K:xA9}{mg:Str->ζ Value}{base:Heap}
theorem RtX.step{F:Hp}{l:η (Str×Dt)}{x:J5}(h:RtX ⟨K,F,H,fun _=>False⟩ c l x F' H')(k:KX K F H c l E)(dx:ζ J5):E (.ref x) dx H':=k x H' F' ⟨fun b u e=>h.prot b u e id,h.old,h.fh,fun b u e=>(h.nw b u e).elim .inl fun z=>.inr (z.imp (fun y=>y.elim id qf3) id)⟩ h.rep dx
theorem o7{k:Nat}{g:De->ζ Out}(D:DefF K mg x st ps)(S:FnScope N ps (ae st))(hn:ps.length=n)
 (O:∀(f:J5)(cdv:Value)(A:qd8)(outer:η Env)(s:qa4)(H:Hp)(E:XK),Room k (A.deeper (qn3 x (ae st) s.heap.objs.size f cdv))->DX (dq (CXX P w) P w K mg base N x (ae st) f cdv A outer s H E) E (bL st) g) :
  OkFX P w K mg base x (k+1) ps (spX K n (bX N.length g)):=by
 obtain⟨f,fd,h1,h2,h3,h4⟩:=D.ex;refine⟨f,fd,h1,h2,h3,?_⟩;obtain⟨oc,od,kV,doc,pm,an,cdv,ct,osl,rfl,lk,Z⟩:=h4.ex;refine BN lk Z S (fun vs H Q E h=>?_) fun A outer s H vs Q E hr h=>?_
 .obtain⟨F,ds,t,_,hl,r,_⟩:=h;rw[r.length,hl,hn]
 .obtain⟨F,ds,t,fh,hl,r,U,kq⟩:=h;refine⟨_,O f cdv A outer s H E hr,?_⟩;unfold bX at U;split at U
  .rename_i t' q;cases U;refine⟨⟨K,F,H,fun _=>False⟩,_,F,_,rfl,eM fh r,q,?_⟩;cases t with
   |rse c l=>exact fun x F' H' z dx=>z.step kq dx
   |_=>exact fun v F' H' z=>z.step kq
  .rename_i δ' q;cases U;exact⟨⟨K,F,H,fun _=>False⟩,_,F,_,rfl,eM fh r,q,fun σ' F' H' z=>(z.rt (Step.refl z.fh) (t:=.f .non) (S:=fun _=>False) (jA (K:=K) (F:=F')) fun _ y=>y.elim).step kq⟩
  .cases U
end
def b7{κ:Type}[DecidableEq κ]:η κ->η Dt->κ->ζ Dt
 |k'::ks,d::l,k=>if k'=k then ς d else b7 ks l k
 |_,_,_=>ψ
theorem gv{κ:Type}[DecidableEq κ]{F:Hp}{k:κ}:∀{J3:η (κ×V)}{l:η Dt}{d:Dt},Reps K F l (J3.map (·.2))->b7 (J3.map (·.1)) l k=ς d->∃v,fP J3 k=ς v/\Rep K F d v
 |[],l,d,r,h=>by cases l<;>cases h
 |p::J3,[],d,r,h=>by cases h
 |p::J3,e::l,d,r,h=>by
  simp only[qb3,Reps]at r;obtain⟨v,ws,Z,U,r2⟩:=r;cases Z;simp only[qb3,b7]at h;by_cases O:p.1=k
  .rw[if_pos O]at h;cases h;exact⟨p.2,ju O,U⟩
  .rw[if_neg O]at h;rw[ie O];exact gv r2 h
theorem nA{κ:Type}[DecidableEq κ]{F:Hp}{k:κ}:∀{J3:η (κ×V)}{l:η Dt},Reps K F l (J3.map (·.2))->b7 (J3.map (·.1)) l k=ψ->fP J3 k=ψ
 |[],l,r,h=>rfl
 |p::J3,[],r,h=>by simp only[qb3,Reps]at r;cases r
 |p::J3,e::l,r,h=>by
  simp only[qb3,Reps]at r;obtain⟨v,ws,U,r1,Z⟩:=r;cases U;simp only[qb3,b7]at h;by_cases O:p.1=k
  .rw[if_pos O]at h;cases h
  .rw[if_neg O]at h;rw[ie O];exact nA Z h
def lU:Dt->ζ Key
 |.int i=>ς (.inl i)
 |.str x=>ς (.inr x)
 |_=>ψ
theorem fV{F:Hp}{d:Dt}{k:Key}(r:RepB K F H d v)(h:lU d=ς k):v=kV k:=by
 unfold lU at h;split at h<;>first|(cases h;done)|skip
 .cases h;exact r
 .cases h;exact r
def au:Dt->Dt->ζ T
 |.dct ks l,k=>(lU k).bind fun k=>(b7 ks l k).map .f
 |x,y=>gIx x y
section
variable{X:Cx}{o a b e c:J9}{es:η J9}{fa fb fo fe fk:De->ζ Dt}{fs:De->ζ (η Dt)}{pos apos cpos p:Pos}{x:Str}{sc:Ja}{i:Nat}
theorem cX{k:Nat}(hr:Room k X.A)(ha:DB X a fa)(hb:DB X b fb)(hs:t4 b:=by exact fun _ _=>rfl)(hn:wX b:=by exact fun _ _=>rfl):DO X (.Subscript a b pos) (d2 au fa fb):=
 PE.mono (PE.or (E7 C2 ha hb hs) (Af (m4 hr) ha hb hn)) fun σ H Q ⟨Φ,δ,F,t,Z,en,O,k⟩=>by
  unfold d2 at O;obtain⟨x,hx,O⟩:=bS O;obtain⟨y,hy,O⟩:=bS O;unfold au at O;split at O
  .rename_i ks l _;obtain⟨kk,hk,O⟩:=bS O;obtain⟨d,hd,O⟩:=mS O;cases O;refine .inr ⟨Φ,δ,F,_,Z,en,hx,fun v H1 F1 st rv=>⟨Φ,δ,F1,y,Z,en.step st,hy,fun v2 H2 F2 U rv2=>?_⟩⟩;obtain⟨ad,J3,rfl,h1,h2,h3⟩:=rv;subst h2;obtain⟨w,hw,rw'⟩:=gv h3 hd;have:=fV rv2 hk;subst this;exact⟨ad,w,rfl,.inl ⟨J3,kk,U.hh.rd h1,rfl,hw.symm⟩,(k.step (st.trans U)).leaf.here U.fh (rw'.same U.ff)⟩
  .exact .inl (nh r_ix ⟨Φ,δ,F,t,Z,en,by unfold d2;rw[hx,hy];exact O,k⟩)
def bv(neg:Bool):Dt->Dt->ζ T
 |k,.dct ks l=>(lU k).map fun k=>.f (.bl (if neg then !(b7 ks l k).isSome else(b7 ks l k).isSome))
 |x,y=>gIn neg x y
theorem k9{κ:Type}[DecidableEq κ]{F:Hp}{k:κ}{J3:η (κ×V)}(r:Reps K F l (J3.map (·.2))):(b7 (J3.map (·.1)) l k).isSome=(fP J3 k).isSome:=by
 cases h:b7 (J3.map (·.1)) l k with
 |none=>rw[nA r h];rfl
 |some d=>obtain⟨v,e,_⟩:=gv r h;rw[e];rfl
theorem B2(h:tO K (d2 (bv ξ) fa fb) σ H Q):tOp (xE K ξ) (tBd K fa) (tBd K fb) σ H Q∨tDIn (tBd K fa) (tBd K fb) σ H Q:=by
 obtain⟨Φ,δ,F,t,Z,en,O,k⟩:=h;unfold d2 at O;obtain⟨x,hx,O⟩:=bS O;obtain⟨y,hy,O⟩:=bS O;unfold bv at O;split at O
 .rename_i ks l;obtain⟨kk,hk,O⟩:=mS O;cases O;refine .inr ⟨Φ,δ,F,x,Z,en,hx,fun v H1 F1 st rv=>⟨Φ,δ,F1,_,Z,en.step st,hy,fun v2 H2 F2 U rv2=>?_⟩⟩;obtain⟨ad,J3,rfl,h1,h2,h3⟩:=rv2;subst h2;have:=fV rv hk;subst this;refine⟨ad,_,rfl,.inl ⟨J3,kk,h1,rfl,rfl⟩,?_⟩;rw[<- k9 h3];exact(k.step (st.trans U)).bl U.fh
 .exact .inl (nh (r_in ξ) ⟨Φ,δ,F,t,Z,en,by unfold d2;rw[hx,hy];exact O,k⟩)
theorem xO(h:tO K (d2 (bv θ) fa fb) σ H Q):tOp (xE K θ) (tBd K fa) (tBd K fb) σ H Q∨t7 (tBd K fa) (tBd K fb) σ H Q:=by
 obtain⟨Φ,δ,F,t,Z,en,O,k⟩:=h;unfold d2 at O;obtain⟨x,hx,O⟩:=bS O;obtain⟨y,hy,O⟩:=bS O;unfold bv at O;split at O
 .rename_i ks l;obtain⟨kk,hk,O⟩:=mS O;cases O;refine .inr ⟨Φ,δ,F,x,Z,en,hx,fun v H1 F1 st rv=>⟨Φ,δ,F1,_,Z,en.step st,hy,fun v2 H2 F2 U rv2=>?_⟩⟩;obtain⟨ad,J3,rfl,h1,h2,h3⟩:=rv2;subst h2;have:=fV rv hk;subst this;refine⟨ad,_,rfl,.inl ⟨J3,kk,h1,rfl,rfl⟩,?_⟩;rw[<- k9 h3];exact(k.step (st.trans U)).bl U.fh
 .exact .inl (nh (r_in θ) ⟨Φ,δ,F,t,Z,en,by unfold d2;rw[hx,hy];exact O,k⟩)
theorem xP{k:Nat}(hr:Room k X.A)(O:DB X a fa)(Z:DB X b fb)(U:qh7 .In b=ξ:=by with_unfolding_all rfl):DO X (.Compare a [.In] [b] pos) (d2 (bv ξ) fa fb):=PE.mono (PE.or (tU xF O Z U) (Cw (wY (m4 hr) O Z) U)) fun σ H Q h=>B2 h
theorem PT.or{t:TT}(h:PT X e t)(h':PT X e t'):PT X e (fun σ H Q=>t σ H Q∨t' σ H Q):=fun J1 s σ H Q I q=>q.elim (h J1 s σ H Q I) (h' J1 s σ H Q I)
theorem B3{Q:Bool->Hp->Prop}(h:tTr K (tB2 g fa fb) σ H Q):tO K (d2 g fa fb) σ H (fun v H'=>∃c,v=.bl c/\Q c H'):=by obtain⟨Φ,δ,F,t,U,Z,O,k⟩:=h;unfold tB2 at O;obtain⟨z,hz,O⟩:=bS O;exact⟨Φ,δ,F,z,U,Z,hz,fun v H' F' S st o hs=>⟨t,k7 O o,k H' F' st⟩⟩
theorem qA{k:Nat}(hr:Room k X.A)(O:DB X a fa)(Z:DB X b fb)(U:qh7 .In b=ξ:=by with_unfolding_all rfl):DT X (.Compare a [.In] [b] pos) (tB2 (bv ξ) fa fb):=PT.mono (PT.or (kY xF O Z U) (rW (wY (m4 hr) O Z) U)) fun σ H Q h=>B2 (B3 h)
theorem gw{k:Nat}(hr:Room k X.A)(O:DB X a fa)(Z:DB X b fb)(U:qh7 .NotIn b=ξ:=by with_unfolding_all rfl):DT X (.Compare a [.NotIn] [b] pos) (tB2 (bv θ) fa fb):=PT.mono (PT.or (kY vI O Z U) (rW (vv (m4 hr) O Z) U)) fun σ H Q h=>xO (B3 h)
def qB:De->ζ T:=fun _=>ς (.dct [])
theorem o8:DO X (.Dict [] [] pos) qB:=PE.mono wZ fun σ H Q ⟨Φ,δ,F,t,hK,U,Z,k⟩=>by
 cases Z;intro p O;refine k _ _ F (fun b=>b=p) (Step.made U.fh O) ⟨p,[],rfl,rfl,aC,rfl,by simp[Reps]⟩ fun b z=>?_
 subst z;exact⟨U.fh.free O,O,_,aC,nofun⟩
def qC{κ:Type}[DecidableEq κ]:η (κ×Dt)->κ->Dt->η (κ×Dt)
 |[],k,d=>[(k,d)]
 |p::l,k,d=>if p.1=k then(p.1,d)::l else p::qC l k d
def kc(i:Nat)(fk fe:De->ζ Dt):De->ζ Out:=fun δ=>(fe δ).bind fun d=>(fk δ).bind fun k=>match δ[i]? with
 |some (ς (.e l))=>(asI k).bind fun n=>(ixN l.length n).map fun j=>.nx (δ.set i (ς (.e (l.set j d))))
 |some (ς (.dct l))=>(lU k).bind fun k=>if l.length<qa7/\(l.map (·.1)).Nodup then ς (.nx (δ.set i (ς (.dct (qC l k d)))))else ψ
 |_=>ψ
theorem AG {κ:Type} [DecidableEq κ] (k:κ) (v:V):∀ (J3:η (κ×V)) (l:η (κ×Dt)) (d:Dt),(J3.map (·.1)).Nodup->J3.map (·.1)=l.map (·.1)->(eU J3 k v).map (·.1)=(qC l k d).map (·.1)∧
  ∀(K:xA9)(F:Hp),Rep K F d v->Reps K F (l.map (·.2)) (J3.map (·.2))->Reps K F ((qC l k d).map (·.2)) ((eU J3 k v).map (·.2)):=by
 have key:∀(J3:η (κ×V)),(J3.map (·.1)).Nodup->eU J3 k v=match J3 with|[]=>[(k,v)]|p::r=>if p.1=k then(p.1,v)::r else p::eU r k v:=fun J3 Z=>by
  cases J3 with
  |nil=>rfl
  |cons p r=>
   dsimp only;by_cases O:p.1=k
   .rw[if_pos O];unfold eU;rw[if_pos (by simp[O])];simp only[qb3,if_pos O];congr 1
    have hk:∀q∈r,¬ q.1=k:=fun q hq z=>by have:=(qg9.mp Z).1;exact this (show p.1∈r.map (·.1)by rw[O,<- z];exact qv1 hq)
    exact(qp8 fun q hq=>if_neg (hk q hq)).trans (List.map_id' r)
   .rw[if_neg O];unfold eU;have e:(p::r).any (fun kv=>decide (kv.1=k))=r.any fun kv=>decide (kv.1=k):=by simp[O]
    rw[e];split
    .simp only[qb3,if_neg O]
    .rfl
 intro J3;induction J3 with
 |nil=>
  intro l d Z U;cases l with
  |nil=>exact⟨rfl,fun K F r _=>by simpa[qC,eU] using Reps.one r⟩
  |cons q l=>cases U
 |cons p r ih=>
  intro l d Z U;cases l with
  |nil=>cases U
  |cons q l=>
   simp only[qb3,za9]at U;have hn':=(qg9.mp Z).2;rw[key _ Z];simp only[qC];rw[<- U.1];by_cases O:p.1=k
   .rw[if_pos O,if_pos O];refine⟨by simp[U.2],fun K F rd rs=>?_⟩;simp only[qb3,Reps]at rs ⊢;obtain⟨w,ws,hw,r1,r2⟩:=rs;cases hw;exact⟨_,_,rfl,rd,r2⟩
   .rw[if_neg O,if_neg O];obtain⟨i1,i2⟩:=ih l d hn' U.2;refine⟨by simp[U.1,i1],fun K F rd rs=>?_⟩;simp only[qb3,Reps]at rs ⊢;obtain⟨w,ws,hw,r1,r2⟩:=rs;cases hw;exact⟨_,_,rfl,r1,i2 K F rd r2⟩
theorem PS.or{e:J8}{t t':TS}(h:PS X e t)(h':PS X e t'):PS X e (fun σ H Q=>t σ H Q∨t' σ H Q):=fun J1 s σ H Q I q=>q.elim (h J1 s σ H Q I) (h' J1 s σ H Q I)
theorem En.ownD{F:Hp}(O:En Φ δ σ F H){l:η (Key×Dt)}(h:δ[i]?=ς (ς (.dct l))):∃a J3,σ[i]?=ς (ς (.ref a))/\H a=ς (.dK J3)/\J3.map (·.1)=l.map (·.1)/\Reps Φ.K F (l.map (·.2)) (J3.map (·.2)):=by obtain⟨v,U⟩:=O.has i _ h;obtain⟨S,s⟩:=O.sep;obtain⟨a,vs,rfl,_,h1,h2,h3⟩:=s.own i _ v (cc h U);exact⟨a,vs,U,h1,h2,h3⟩
theorem kh {k:Nat} {ox ik:J9} (hr:Room k X.A) (hx:PE X ox (gF i)) (hk:DB X ik fk) (he:DL X e fe)
  (hs:qf7 e (ς (.Subscript ox ik apos)) pos.line X.env=pure ξ:=by rfl)
  (hs1:swapsWithSole [.Subscript ox ik apos] e pos.line X.env=pure ξ:=by rfl) (hw:swappedStores [.Subscript ox ik apos] e X.env=pure ψ:=by rfl)
  (h1:(qi4 [.Subscript ox ik apos] X.env).map (·.2)=[qw7 (.Subscript ox ik apos) X.env]:=by rfl)
  (ha:∀v,qw7 (.Subscript ox ik apos) X.env v=(do
   let ov <- za2 [v] (eval ox X.env);let iv <- za2 [v,ov] (eval ik X.env)
   standAt apos
   za2 [v,ov,iv] (setItem ov iv v)
   release [v,ov,iv] []):=by intro _;rfl):DS1 X (.Assign [.Subscript ox ik apos] e pos) (kc i fk fe):=
 PS.mono (PS.or (CJ he (CI hx hk wS ha) hs1 hw h1) (Ag (m4 hr) hx hk he hs)) fun D σ H ⟨Φ,δ,F,ot,hK,en,U,k⟩=>by
  unfold kc at U;obtain⟨d,hd,U⟩:=bS U;obtain⟨kd,hkd,U⟩:=bS U;split at U<;>first|(cases U;done)|skip
  .rename_i l hl;obtain⟨n,hn,U⟩:=bS U;obtain⟨j,hj,U⟩:=mS U;cases U;refine .inl ⟨Φ,δ,F,d,hK,en,hd,fun v H1 F1 st rv=>?_⟩;have Z:=en.step st;obtain⟨a,vs,hv,h1,h2⟩:=Z.ownL hl;refine⟨.ref a,hv,Φ,δ,F1,kd,hK,Z,hkd,fun w H2 F2 O rw'=>?_⟩;have en2:=Z.step O;refine⟨a,vs,n,j,rfl,jD hn rw',O.hh _ _ h1,by rw[h2.length];exact hj,?_⟩;exact k σ F2 _ (en2.poke hl hv rfl fun S sa=>⟨a,_,rfl,sa,aC,Reps.set (hK▸rv.same O.ff) j (h2.same O.ff)⟩)
  .rename_i l hl;obtain⟨kk,hkk,U⟩:=bS U;split at U<;>first|(cases U;done)|skip
   rename_i hc;cases U;refine .inr ⟨Φ,δ,F,d,hK,en,hd,fun v H1 F1 st rv=>?_⟩;have Z:=en.step st;obtain⟨a,J3,hv,h1,h2,h3⟩:=Z.ownD hl;refine⟨.ref a,hv,Φ,δ,F1,kd,hK,Z,hkd,fun w H2 F2 O rw'=>?_⟩;have en2:=Z.step O;have:=fV rw' hkk;subst this;have hlen:J3.length=l.length:=by simpa using congrArg zc2 h2
   refine⟨a,_,rfl,.inl ⟨J3,kk,O.hh _ _ h1,rfl,by rw[hlen];exact hc.1,rfl⟩,?_⟩;obtain⟨p1,p2⟩:=AG kk v J3 l d (by rw[h2];exact hc.2) h2;exact k σ F2 _ (en2.poke hl hv rfl fun S sa=>⟨a,_,rfl,sa,aC,p1,p2 _ _ (hK▸rv.same O.ff) (h3.same O.ff)⟩)
def jH:η Dt->ζ T
 |[.str x]=>ς (.f (.str x))
 |ds=>AD ds
theorem o9:CallR X (.type "str") (fun xs H Q=>∃x,xs=[.str x]/\Q (.str x) H):=by intro J1 s σ H xs us Q I r h;obtain⟨y,rfl,q⟩:=h;obtain⟨u,rfl,O⟩:=jr r;obtain⟨t,rfl⟩:=O;exact PySem.P.str_of_str ⟨.str y,H,I,⟨_,rfl⟩,q⟩
abbrev B4:η V->Hp->VK->Prop:=fun xs H Q=>(∃x,xs=[.str x]/\Q (.str x) H)∨∃i,xs=[.int i]/\i.natAbs.log2<1920/\Q (.str (qy3 i)) H
theorem ki:CallR X (.type "str") B4:=CallR.or o9 oy
theorem sK:CRD K B4 jH:=by
 intro F H ds vs Q t fh r O k;unfold jH at O;split at O
 .cases O;obtain⟨v,rfl,U⟩:=dL r;cases U;exact .inl ⟨_,rfl,k.str fh⟩
 .exact .inr (Fq F H ds vs Q t fh r O k)
end
section
variable{prog:qc0}{w:J6}{A:qd8}{E:Value->qa4->Prop}{s:qa4}{I t:J5}{j:Nat}{vs:Array Value}
theorem sL {y:Value} {Q:Value->qa4->Prop} (hI:s.heap.IsTupleIter I t j) (hv:s.heap.IsTuple t vs) (hy:vs[j]?=ς y)
  (q:∀h',h'.IsTupleIter I t (j+1)->qg6 I s.heap h'->Q y {s with heap:=h'}):wpAny (model prog w) A (qf0 (.ref I)) Q E s:=by
 obtain⟨oi,U,hci,O⟩:=id hI;obtain⟨ot,Z,_,nt,hdt⟩:=hv;unfold qf0;refine wB (qj3 (name:=qa0 "__next__") hI.typeIs qk4 (qp1 qk4 hI.typeIs qv2 ?_ (qu3 _)));show wpAny _ _ (field (.ref I) 0 >>= _) _ _ s;refine wB (qd7 U O (x:=.ref t) rfl ?_);show wpAny _ _ (if(qb7 t==qc7)=θ then _ else _) _ _ s;rw[if_neg (show ¬ (qb7 t==qc7)=θ by exact qc2)];show wpAny _ _ (field (.ref I) 1 >>= _) _ _ s;refine wB (qd7 U O (x:=.int j 0) rfl ?_);show wpAny _ _ (seqItems? (.ref t) >>= _) _ _ s;refine wB (ql3 Z hdt ?_);simp only[qr8,hy];refine qq0 (qi7 U O Ξ (qb1 ⟨y,rfl,qb1 (q _ ?_ (qg6.update ..))⟩));exact⟨_,qg0 _ U (qi8 (qi0 O _)),(qx5 ..).trans hci,by rw[qi0 O];simp[ql4]⟩
theorem vK {Q:Value->qa4->Prop} (hh:A.handled=ψ) (hI:s.heap.IsTupleIter I t j) (hv:s.heap.IsTuple t vs) (hy:vs[j]?=ψ)
  (q:∀h' e,Heap.ExtBut I s.heap h'->(∃o,h'.get? e=ς o/\o.cls=.type "StopIteration")->E (.ref e) {s with heap:=h'}):wpAny (model prog w) A (qf0 (.ref I)) Q E s:=by
 obtain⟨oi,U,hci,O⟩:=id hI;obtain⟨ot,Z,_,nt,hdt⟩:=hv;unfold qf0;refine wB (qj3 (name:=qa0 "__next__") hI.typeIs qk4 (qp1 qk4 hI.typeIs qv2 ?_ (qu3 _)));show wpAny _ _ (field (.ref I) 0 >>= _) _ _ s;refine wB (qd7 U O (x:=.ref t) rfl ?_);show wpAny _ _ (if(qb7 t==qc7)=θ then _ else _) _ _ s;rw[if_neg (show ¬ (qb7 t==qc7)=θ by exact qc2)];show wpAny _ _ (field (.ref I) 1 >>= _) _ _ s;refine wB (qd7 U O (x:=.int j 0) rfl ?_);show wpAny _ _ (seqItems? (.ref t) >>= _) _ _ s;refine wB (ql3 Z hdt ?_);simp only[qr8,hy];refine qq0 (wpAny_rule (qq0 (qi7 U O Ξ ?_)));show wpAny _ _ (newExc (.type "StopIteration") [] >>= _) _ _ _;refine wB ?_;simp only[newExc,newTuple];refine wB (qh3 ?_ (by first|size_fits|decide));refine qq0 (m:=firstArgMember _ _) (wpAny_of_eq (a:=qc7) (by first|rfl|(simp only[firstArgMember]<;>rfl)) ?_);refine qh3 ?_ (by first|size_fits|decide);simp only[raiseNew];refine wB (wpAny_handled ?_)
 first|rw[hh]|rw[show A.in1.handled=ψ by exact hh]
 refine wB (qb1 (wpAny_throw ?_));exact q _ _ (((qg6.update ..).extBut.push _).push _) ⟨_,qb6 _ rfl,rfl⟩
end
variable{prog:qc0}
theorem qD{w:J6}(hh:A.handled=ψ)(I t:J5)(O:t≠I)(vs:Array Value):Draws prog w A I [I,t] vs.size (fun i v=>vs[i]?=ς v) (fun i h=>h.IsTupleIter I t i/\h.IsTuple t vs) where
 live:=fun _ _ st=>let ⟨o,ho,_⟩:=st.1;⟨o,ho⟩
 frame:=fun _ _ _ st U=>⟨let ⟨o,ho,r⟩:=st.1;⟨o,U I Ξ o ho,r⟩,let ⟨o,ho,r⟩:=st.2;⟨o,U t Ξ o ho,r⟩⟩
 item:=fun i s Q E hi st Z=>sL st.1 st.2 (y:=vs[i]) (by simp[hi]) fun h' a b=>Z _ h' s.toks (by simp[hi]) ⟨a,let ⟨o,ho,r⟩:=st.2;⟨o,b.extBut _ _ O ho,r⟩⟩ b
 done:=fun s Q E st hE=>vK hh st.1 st.2 Ξ hE
def SqB(b:Bool)(K:xA9)(H:Hp)(a:J5)(xs:η V):Prop:=match b with
 |true=>SqL K H a xs
 |false=>SqT K H a xs
def ItB(b:Bool)(h:Heap)(I a:J5)(i:Nat):Prop:=match b with
 |true=>h.IsListIter I a i
 |false=>h.IsTupleIter I a i
def CoB(b:Bool)(h:Heap)(a:J5)(vs:Array Value):Prop:=match b with
 |true=>h.IsList a vs
 |false=>h.IsTuple a vs
variable{h:Heap}{I:J5}
theorem ItB.obj(x:ItB b h I a i):∃o,h.get? I=ς o/\(o.cls=.type "list_iterator"∨o.cls=.type "tuple_iterator")/\∀v,o.data≠.cell v:=by
 cases b with
 |true=>obtain⟨o,e,c,d⟩:=x;exact⟨o,e,.inl c,fun v z=>by rw[d]at z;cases z⟩
 |false=>obtain⟨o,e,c,d⟩:=x;exact⟨o,e,.inr c,fun v z=>by rw[d]at z;cases z⟩
variable{h':Heap}
theorem ItB.at(x:ItB b h I a i)(k:∀o,h.get? I=ς o->h'.get? I=ς o):ItB b h' I a i:=by
 cases b with
 |true=>obtain⟨o,e,r⟩:=x;exact⟨o,k o e,r⟩
 |false=>obtain⟨o,e,r⟩:=x;exact⟨o,k o e,r⟩
theorem CoB.obj{vs:Array Value}(x:CoB b h a vs):∃o,h.get? a=ς o/\(o.cls=.type "list"∨o.cls=.type "tuple"):=by
 cases b with
 |true=>obtain⟨o,e,c,_⟩:=x;exact⟨o,e,.inl c⟩
 |false=>obtain⟨o,e,c,_⟩:=x;exact⟨o,e,.inr c⟩
theorem B5{x y:String}(h:x≠y):qu4 x≠qu4 y:=fun z=>h (by cases z;rfl)
theorem iz{c:Bool}{l:J5}{vs:Array Value}(x:ItB b h I a i)(y:CoB c h l vs):l≠I:=by obtain⟨o,e1,U,_⟩:=x.obj;obtain⟨o',e2,O⟩:=y.obj;rintro rfl;rw[e1]at e2;cases e2;rcases U with U|U<;>rcases O with O|O<;>rw[U]at O<;>exact absurd O (B5 Ω)
variable{ys:η V}{fp:η J5}
section
variable{X:Cx}{J1:η (J5×Obj)}{σ:St}{H:Hp}{s:qa4}{a I:J5}{xs:η V}{b:Bool}
theorem Inv.seqB(J:Inv X J1 σ H s)(h:SqB b X.K H a xs):∃J4:η Value,Vals xs J4/\CoB b s.heap a J4.toArray:=by
 cases b with
 |true=>obtain⟨J4,r,p,_⟩:=J.list h;exact⟨J4,r,p.isList⟩
 |false=>obtain⟨J4,r,p,_⟩:=J.tuple h;exact⟨J4,r,p⟩
theorem Inv.seqB_inj(J:Inv X J1 σ H s)(h:SqB b X.K H a xs)(h':SqB b X.K H a ys):xs=ys:=by
 cases b with
 |true=>exact J.list_inj h h'
 |false=>exact J.tuple_inj h h'
theorem iA{w:J6}(U:A.handled=ψ)(O:a≠I)(vs:Array Value):Draws prog w A I [I,a] vs.size (fun i v=>vs[i]?=ς v) (fun i h=>ItB b h I a i/\CoB b h a vs):=by
 cases b with
 |true=>exact Draws.list U I a O vs
 |false=>exact qD U I a O vs
theorem Inv.turnedL{t':Nat}(J:Inv X J1 σ H s)(k:∀b o,b∉fp->s.heap.get? b=ς o->h'.get? b=ς o)(U:∀b∈fp,f7 X J1 H b):Inv X J1 σ H {s with heap:=h',toks:=t'}:=by
 have Z:∀b u,H b=ς u->b∉fp:=fun b u e z=>by rw[(U b z).1]at e;cases e
 refine J.step (g':=s.gens) (d':=s.drawn) (ch:=fp) (fun b hb=>?_) (fun b o _ _ O e _=>k b o O e) (fun b o _ _ O e _=>⟨o.slots,k b o O e⟩) (fun _ _ _ _ n=>n)
  (fun b o O e=>⟨o,k b o O e⟩) (fun _ _ e=>e) (fun _ _ _ e=>e) (fun b ps e=>⟨#[],by rw[e];simp⟩) (fun _ _ e=>e) (fun m hm=>?_) (fun b u e=>?_) J.bare
 .exact⟨(U b hb).2.2.2.1,(U b hb).2.1,(U b hb).2.2.2.2.1,(U b hb).2.2.2.2.2⟩
 .obtain⟨o,es,ep,ho,r⟩:=hm;exact⟨o,es,ep,k _ o (fun z=>(U _ z).2.1 rfl) ho,r⟩
 .refine(J.hok b u e).stay (fun c v O q=>k c v ?_ q) (fun _ q=>q) (fun _ _ q=>q) fun _ _ _ q=>q
  rcases O with z|z
  .rw[z];exact Z b u e
  .exact Z c _ z
end
section
variable{X:Cx}{J1:η (J5×Obj)}{σ:St}{H:Hp}{s:qa4}
theorem Inv.turnedT {t':Nat} {t:J5} (J:Inv X J1 σ H s) (k:∀ b o,b∉fp->s.heap.get? b=ς o->h'.get? b=ς o) (hf:∀ b∈fp,f7 X J1 H b) (ht:s.heap.objs.size<=t) (new:ObjOk X.prog X.w (upd H t u) h' t u) :
  Inv X J1 σ (upd H t u) {s with heap:=h',toks:=t'}:=by
 have nit:∀b u,H b=ς u->b∉fp:=fun b u e z=>by rw[(hf b z).1]at e;cases e
 have hn:H t=ψ:=J.hok.fresh ht;have O:∀b v,H b=ς v->b≠t:=fun b v e=>aP e hn
 have nlt:∀b o,s.heap.get? b=ς o->b≠t:=fun b o e z=>by subst z;exact absurd (qa6 e) (qx6.mpr ht)
 refine J.step (g':=s.gens) (d':=s.drawn) (ch:=fp) (fun b Z=>?_) (fun b o _ _ U e _=>k b o U e) (fun b o _ _ U e _=>⟨o.slots,k b o U e⟩) (fun b o _ e n=>by rw[ax (nlt b o e)];exact n)
  (fun b o U e=>⟨o,k b o U e⟩) (fun b xs e=>by rw[ax (O b _ e)];exact e) (fun b o v e=>by rw[ax (O b _ e)];exact e) (fun b ps e=>⟨#[],by rw[ax (O b _ e),e];simp⟩) (fun b xs e=>by rw[ax (O b _ e)];exact e) (fun m hm=>?_) (fun b v e=>?_) J.bare
 .exact⟨(hf b Z).2.2.2.1,(hf b Z).2.1,(hf b Z).2.2.2.2.1,(hf b Z).2.2.2.2.2⟩
 .obtain⟨o,es,ep,ho,r⟩:=hm;exact⟨o,es,ep,k _ o (fun z=>(hf _ z).2.1 rfl) ho,r⟩
 .by_cases Z:b=t
  .subst Z;rw[aC]at e;cases e;exact new
  .rw[ax Z]at e;refine(J.hok b v e).stay (fun c ob U q=>k c ob ?_ q) (fun c q=>by rw[ax (O c _ q)];exact q) (fun c ys q=>by rw[ax (O c _ q)];exact q) fun c ob ys q=>by rw[ax (O c _ q)];exact q
   rcases U with z|z
   .rw[z];exact nit b v e
   .exact nit c _ z
end
def Ite(b:Bool)(K:xA9)(a:J5):It:=⟨fun i H=>∃xs x,SqB b K H a xs/\xs[i]?=ς x,fun i H x H'=>∃t v,H t=ψ/\x=.ref t/\H'=upd H t (.t [.int i,v])/\∀xs,SqB b K H a xs->xs[i]?=ς v,fun i H=>∃xs,SqB b K H a xs/\xs.length=i⟩
variable{P:qc0}{elts:η J9}{pos:Pos}
theorem vM {w:J6} (b:Bool) (a e I:J5) (hne:e≠I) :
  Turn P w K (.Tuple elts n pos) (Ite b K a) [e,I] e (fun i h=>(∃old,IsEnum h e I i old)/\ItB b h I a i) where
 mem:=by simp
 obj:=fun i h st c hc=>by
  obtain⟨⟨old,Z⟩,U⟩:=st;simp only[qa9,qb8,or_false]at hc;rcases hc with rfl|rfl
  .exact⟨_,Z,fun v z=>nomatch z⟩
  .obtain⟨o,q,_,d⟩:=U.obj;exact⟨o,q,d⟩
 keep:=fun i h h' st k=>by obtain⟨⟨old,Z⟩,U⟩:=st;exact⟨⟨old,k e Ξ _ Z⟩,U.at fun o q=>k I Ξ o q⟩
 item:=by
  intro X hP hw hK hc i J1 s σ H E J hf st hg;subst hP hw hK;obtain⟨⟨old,Z⟩,U⟩:=st;obtain⟨xs,x,hq,hx⟩:=hg;obtain⟨J4,rv,co⟩:=J.seqB hq;obtain⟨u,hu,ru⟩:=rv.get hx;have hi:i<J4.toArray.size:=by simpa using (gX hu).1
  have hae:e∉[I,a]:=by simp only[qa9,qb8,or_false,not_or];refine⟨hne,fun z=>?_⟩;obtain⟨o,q,c⟩:=co.obj;rw[<- z,Z]at q;cases q;rcases c with c|c<;>exact absurd c (B5 Ω)
  refine wpAny_pyNext_enum_itemD (iA (A:=X.A.in1) (b:=b) (I:=I) (a:=a) (show X.A.in1.handled=ψ from J.ok.hd hc) (iz U co) J4.toArray) Z ⟨U,co⟩ hi hne hae fun y h1 tk hy ho hs1 hT hsz hk=>⟨_,rfl,?_⟩
  have ey:y=u:=by rw[show J4.toArray[i]?=J4[i]? by simp,hu]at hy;exact(qc1 hy).symm
  subst ey;refine wpAny_letOwnedTupleGo_enum ho fun h2 he2 sb2=>?_
  have kk:∀c o,c∉[e,I]->s.heap.get? c=ς o->h2.get? c=ς o:=fun c o O q=>by simp only[qa9,qb8,or_false,not_or]at O;exact(sb2.2 c O.1).trans (hk c o O.1 O.2 q)
  have lt:∀c∈[e,I],c<s.heap.objs.size:=fun c O=>by
   simp only[qa9,qb8,or_false]at O;rcases O with rfl|rfl
   .exact qa6 Z
   .obtain⟨o,q,_⟩:=U.obj;exact qa6 q
  -- first the records,then the pair
  have hT2:h2.get? s.heap.objs.size=ς {cls:=.type "tuple",data:=.seq #[.int i tk,y]}:=(sb2.2 _ (fun z=>qh6 _ (z▸lt e Ξ))).trans hT
  have J2:Inv X J1 σ (upd H s.heap.objs.size (.t [.int i,x])) {s with heap:=h2,toks:=tk+1}:=by refine J.turnedT kk hf (nL _) ⟨by show 2<=qa7;decide,[.int i tk,y],.cons ⟨_,rfl⟩ (.cons ru .nil),?_⟩;exact⟨_,hT2,rfl,_,rfl⟩
  refine⟨.ref s.heap.objs.size,_,J2,rfl,⟨_,x,J.hok.fresh (qr4 _),rfl,rfl,fun ys hy=>by rw[J.seqB_inj hy hq];exact hx⟩,⟨⟨_,by simpa using he2⟩,hs1.1.at fun o q=>(sb2.2 I (qe7 hne)).trans q⟩,fun c O=>?_⟩;rw[ax (qc8 (lt c O))];exact(hf c O).1
 done:=by
  intro X hP hw hK hc i J1 s σ H E J hf st hg;subst hP hw hK;obtain⟨⟨old,Z⟩,U⟩:=st;obtain⟨xs,hq,hx⟩:=hg;obtain⟨J4,rv,co⟩:=J.seqB hq;have hi:i=J4.toArray.size:=by rw[<- hx];simpa using rv.length
  refine wpAny_pyNext_enum_endD (iA (A:=X.A.in1) (b:=b) (I:=I) (a:=a) (show X.A.in1.handled=ψ from J.ok.hd hc) (iz U co) J4.toArray) Z (show ItB b s.heap I a J4.toArray.size/\CoB b s.heap a J4.toArray from⟨hi▸U,co⟩) fun h' eb=>⟨rfl,?_⟩
  exact J.turnedL (t':=s.toks) (fun c o O q=>eb c o (fun z=>O (by simp[z])) q) hf
 self:=fun A i s Q E st h=>by obtain⟨⟨old,Z⟩,U⟩:=st;exact wpAny_pyIter_enum Z h
theorem qE (t:J5) (vs:Array Value) (n:Nat) (dd:ζ J5) (sl:Array (ζ Value)) :
  Meets (qn0.«enumerate.__new__» ⟨[.type "enumerate",.ref t],[]⟩) (fun _ R s=>s.heap.get? t=ς {cls:=.type "tuple",dict:=dd,data:=.seq vs n,slots:=sl}∧
   R (.ok (.ret (.ref (s.heap.push {cls:=.type "tuple_iterator",data:=.fields #[.ref t,.int 0 0]}).objs.size)))
    {s with heap:=(s.heap.push {cls:=.type "tuple_iterator",data:=.fields #[.ref t,.int 0 0]}).push {cls:=.type "enumerate",data:=.fields #[.none,.bool ξ,.ref s.heap.objs.size,ql4 0,.none,.none]}}):=
 .of_wp fun prog w A R s h=>by
  obtain⟨hp,g,d,tk,os⟩:=s;obtain⟨O,h⟩:=h;have Z:=sub_enumerate;have U:Heap.IsTuple (zc8 ⟨hp,g,d,tk,os⟩) t vs:=⟨_,O,rfl,n,rfl⟩;wp_walk using qq2 O;refine wpAny_stack_any fun st=>qb1 ?_
  split
  .rename_i c _ _ _ _ _;cases (c==qu4 "enumerate")<;>(wp_walk using qq2 O,qq4 U)<;>exact⟨_,rfl,h⟩
  . (wp_walk using qq2 O,qq4 U)<;>exact⟨_,rfl,h⟩
section
variable{prog:qc0}{w:J6}{A:qd8}{E:Value->qa4->Prop}{s:qa4}
theorem sM {t:J5} {vs:Array Value} {Q:Value->qa4->Prop} (hT:s.heap.IsTuple t vs)
  (h:∀h',IsEnum h' (s.heap.objs.size+1) s.heap.objs.size 0 .none->h'.IsTupleIter s.heap.objs.size t 0->h'.objs.size=s.heap.objs.size+2→
   (∀c u,s.heap.get? c=ς u->h'.get? c=ς u)->Q (.ref (s.heap.objs.size+1)) {s with heap:=h'}) :
  wpAny (model prog w) A (call (.type "enumerate") [.ref t]) Q E s:=by
 obtain⟨⟨c,dct,dt,sl⟩,hl,Z,n,hd⟩:=hT;have Z:c=.type "tuple":=Z;have hd:dt=.seq vs n:=hd;subst Z hd;refine ze4 F.called_enumerate Ω (F.typeCall_enumerate_1 _) (F.newCall_enumerate_1 _) (fun obj=>F.args_object_init_2 obj _) F.entry_enumerate_new (qE t vs n dct sl) ⟨hl,?_⟩;have hz:(s.heap.push {cls:=.type "tuple_iterator",data:=.fields #[.ref t,.int 0 0]}).objs.size=s.heap.objs.size+1:=qf8 ..;have U:((s.heap.push {cls:=.type "tuple_iterator",data:=.fields #[.ref t,.int 0 0]}).push {cls:=.type "enumerate",data:=.fields #[.none,.bool ξ,.ref s.heap.objs.size,ql4 0,.none,.none]}).objs.size=s.heap.objs.size+2:=by rw[qf8,hz]
 rw[hz];have O:=qb6 (s.heap.push {cls:=.type "tuple_iterator",data:=.fields #[.ref t,.int 0 0]}) (o:={cls:=.type "enumerate",data:=.fields #[.none,.bool ξ,.ref s.heap.objs.size,ql4 0,.none,.none]}) rfl;rw[hz]at O;exact⟨⟨_,O,rfl⟩,h _ O ⟨_,gP _ (qb6 _ rfl),rfl,rfl⟩ U fun c u z=>gP _ (gP _ z)⟩
theorem sN{t:J5}{vs:Array Value}{Q:Value->qa4->Prop}(O:CoB b s.heap t vs)
 (h:∀h',IsEnum h' (s.heap.objs.size+1) s.heap.objs.size 0 .none->ItB b h' s.heap.objs.size t 0->h'.objs.size=s.heap.objs.size+2→
 (∀c u,s.heap.get? c=ς u->h'.get? c=ς u)->Q (.ref (s.heap.objs.size+1)) {s with heap:=h'}) :
  wpAny (model prog w) A (call (.type "enumerate") [.ref t]) Q E s:=by
 cases b with
 |true=>exact call_enumerate_list O h
 |false=>exact sM O h
end
variable{ta:TA}
section
variable{X:Cx}{x:J9}{p pos tpos:Pos}{sc:Ja}{fs:De->ζ (η Dt)}{elts:η J9}{n:Nat}
def Fu(K:xA9)(ta:TA):TI:=fun σ H R=>ta σ H fun vs H1=>∃b a xs,vs=[.ref a]/\SqB b K H1 a xs/\R (Ite b K a) H1
theorem AH (h:aO sc "enumerate"=θ) (hm:X.mg "enumerate"=ψ) (ha:PA X [x] ta) (e1:bU X sc:=by rfl) (hs:qa2 [x] X.env=[(ξ,eval x X.env)]:=by rfl) :
  PI X (.Tuple elts n tpos) (.Call (.Name "enumerate" p) [x] [] pos) (Fu X.K ta):=by
 intro J1 s σ H R I h';refine Call_ (jh I (glD h e1) hm oO (qh8 (thn (ha pos J1 s σ H _ I h') fun us s1 ⟨vs,H1,U,r1,q1⟩=>?_) hs rfl));obtain⟨b,a,xs,rfl,hq,q⟩:=q1;obtain⟨u,rfl,ru⟩:=jr r1;cases ru;obtain⟨J4,rv,co⟩:=U.seqB hq;refine sN co fun h2 Z hi hz hk=>wpAny_pyIter_enum Z ?_
 have I2:Inv X J1 σ H1 {s1 with heap:=h2}:=U.kept (t':=s1.toks) hk;refine⟨s1.heap.objs.size+1,[s1.heap.objs.size+1,s1.heap.objs.size],_,_,H1,rfl,I2,vM b a _ _ (qn5 (Nat.lt_succ_self _)),⟨⟨_,Z⟩,hi⟩,fun c hc=>?_,q⟩
 have O:s1.heap.objs.size<=c:=by
  simp only[qa9,qb8,or_false]at hc;rcases hc with rfl|rfl
  .exact zc7 _
  .exact nL _
 exact U.fpOk O (U.hok.fresh O)
def dD(i:Nat):η Dt->η Dt
 |[]=>[]
 |d::r=>.t [.int i,d]::dD (i+1) r
theorem nC:∀(l:η Dt)(i:Nat),(dD i l).length=l.length
 |[],_=>rfl
 |_::r,i=>by simp[dD,nC r]
theorem nD:∀(l:η Dt)(i k:Nat),(dD i l)[k]?=l[k]?.map fun d=>.t [.int ((i+k:Nat):Int),d]
 |[],i,k=>by simp[dD]
 |d::r,i,0=>by simp[dD]
 |d::r,i,k+1=>by simp[dD,nD r,Nat.add_assoc,Nat.add_comm 1]
def jI:η Dt->ζ (η Dt)
 |[.e l]=>ς (dD 0 l)
 |[.t l]=>ς (dD 0 l)
 |_=>ψ
theorem lV{F:Hp}{d e:Dt}{w:V}{t:J5}(h:F t=ς (.t [v,w]))(r:Rep K F d v)(r':Rep K F e w):Rep K F (.t [d,e]) (.ref t):=by simp only[Rep,Reps];exact⟨t,_,rfl,SqT.of h,v,[w],rfl,r,w,[],rfl,r',rfl⟩
theorem nE{F:Hp}(r:Reps K F l xs):nj K F (Ite b K a) (dD 0 l) (fun H=>SqB b K H a xs):=fun i H F2 O fh ff=>by have hl:=r.length;rw[nC];refine⟨fun h=>⟨xs,xs[i],O,by simp[show i<xs.length by lia]⟩,fun h=>⟨xs,O,Θ⟩,fun x H' hi hy=>?_⟩;obtain⟨t,v,U,rfl,rfl,hv⟩:=hy;have Z:=hv xs O;obtain⟨d,hd,rd⟩:=r.same_get Z;refine⟨_,upd F2 t (.t [.int i,v]),?_,Step.new fh U,lV aC iR ((rd.same ff).same (Same.upd (fh.free U)))⟩;rw[nD,hd];simp
theorem jJ (h:aO sc "enumerate"=θ) (hm:X.mg "enumerate"=ψ) (Z:DA X [x] fs) (e1:bU X sc:=by rfl) (hs:qa2 [x] X.env=[(ξ,eval x X.env)]:=by rfl) :
  DIF X (.Tuple elts n tpos) (.Call (.Name "enumerate" p) [x] [] pos) (dj jI fs):=PI.mono (AH h hm Z.pa e1 hs) fun σ H R ⟨Φ,δ,F,ds,U,en,O,k⟩=>by
 unfold dj at O;obtain⟨as,hd,O⟩:=bS O;refine⟨Φ,δ,F,as,U,en,hd,fun vs H' F' st r=>?_⟩;unfold jI at O;split at O<;>first|(cases O;done)|skip
 .cases O;simp only[Reps,Rep]at r;obtain⟨v,ws,rfl,⟨a,xs,rfl,h1,h2⟩,rfl⟩:=r;exact⟨θ,a,xs,rfl,st.fh.seq h1,k _ _ H' F' st (nE (b:=true) h2) fun H2 s=>s.seq h1⟩
 .cases O;simp only[Reps,Rep]at r;obtain⟨v,ws,rfl,⟨a,xs,rfl,h1,h2⟩,rfl⟩:=r;exact⟨ξ,a,xs,rfl,st.fh.tup h1,k _ _ H' F' st (nE (b:=false) h2) fun H2 s=>s.tup h1⟩
end
structure ZApart(z ti tO i1 i2:J5)(fp1 fp2:List J5):Prop where
 zt:ti≠z
 zo:tO≠z
 to:ti≠tO
 m1:i1∈fp1
 m2:i2∈fp2
 z1:z∉fp1
 z2:z∉fp2
 o1:tO∉fp1
 o2:tO∉fp2
 t1:ti≠i1
 t2:ti≠i2
 x12:i1∉fp2
 x21:i2∉fp1
section
variable{prog:qc0}{w:J6}{A:qd8}{E:Value->qa4->Prop}{s:qa4}{z ti tO i1 i2:J5}{fp1 fp2:η J5}{n1 n2 k:Nat}{P1 P2:Nat->Value->Prop}{S1 S2:Nat->Heap->Prop}{va vb:Value}
theorem bd{x y:J5}{l:η J5}(h:x∈l)(h':y∉l):x≠y:=fun e=>h' (e▸h)
theorem vN {Q:Value->qa4->Prop} (D1:Draws prog w A i1 fp1 n1 P1 S1) (D2:Draws prog w A i2 fp2 n2 P2 S2) (D:ZApart z ti tO i1 i2 fp1 fp2)
  (hz:IsZip s.heap z ti tO .none) (hI:qm4 s.heap ti (.ref i1) (.ref i2)) (hO:qm4 s.heap tO va vb) (h1:S1 k s.heap) (h2:S2 k s.heap) (l1:k<n1) (l2:k<n2)
  (q:∀x y h' tk,P1 k x->P2 k y->IsZip h' z ti tO (ql4 s.heap.objs.size)->qm4 h' tO x y->S1 (k+1) h'->S2 (k+1) h'->qm4 h' s.heap.objs.size x y->h'.objs.size=s.heap.objs.size+1→
   (∀c o,c≠z->c≠tO->c≠i1->c≠i2->s.heap.get? c=ς o->h'.get? c=ς o)->Q (.ref s.heap.objs.size) {s with heap:=h',toks:=tk}) :
  wpAny (model prog w) A (qn0.«zip.__next__» ⟨[.ref z],[]⟩) (fun fin s'=>∃v,fin=.done (.ret v)/\Q v s') E s:=by
 obtain⟨hp,gn,dr,tk0,os⟩:=s;have e1:i1≠z:=bd D.m1 D.z1;have e2:i2≠z:=bd D.m2 D.z2;have e3:tO≠i1:=(bd D.m1 D.o1).symm;have e4:tO≠i2:=(bd D.m2 D.o2).symm;have e5:i1≠i2:=(bd D.m2 D.x12).symm;show wpAny _ _ (field (.ref z) 2 >>= _) _ _ ⟨hp,gn,dr,tk0,os⟩;refine wB (qd7 hz rfl (x:=.bool ξ) rfl ?_);show wpAny _ _ (field (.ref z) 3 >>= _) _ _ ⟨hp,gn,dr,tk0,os⟩;refine wB (qd7 hz rfl (x:=.ref ti) rfl ?_);refine wB (ql3 hI rfl ?_);show wpAny _ _ (qh2 (.ref z) >>= _) _ _ ⟨hp,gn,dr,tk0,os⟩;refine wB ?_;unfold qh2;refine wB (qd7 hz rfl (x:=.none) rfl (qb1 ?_));simp only[if_true];refine wB (wpAny_rule (wB (qd7 hz rfl (x:=.ref tO) rfl ?_)));refine qq0 (ql0 hz Ξ fun ha hza hsa=>?_)
 replace hza:IsZip ha z ti tO .ellipsis:=hza
 replace hsa:qg6 z hp ha:=hsa
 refine wB ?_;simp only[List.zipIdx_cons,List.zipIdx_nil,za6,List.forIn_nil];refine wB (wB (qz0 ?_));show wpAny _ _ (qf0 (.ref i1) >>= _) _ _ ⟨ha,gn,dr,tk0,os⟩;have h1a:S1 k ha:=D1.frame _ _ _ h1 fun b hb o y=>hsa.extBut b o (bd hb D.z1) y
 have h2a:S2 k ha:=D2.frame _ _ _ h2 fun b hb o y=>hsa.extBut b o (bd hb D.z2) y
 refine wB (D1.item k _ _ _ l1 h1a fun x hb tk1 px h1b U=>qb1 ?_)
 replace U:qg6 i1 ha hb:=U
 have hOb:qm4 hb tO va vb:=U.extBut _ _ e3 (hsa.extBut _ _ D.zo hO);refine wB (ql3 hOb rfl (wB (qt6 hOb fun hc hOc Z=>?_)))
 replace hOc:qm4 hc tO x vb:=hOc
 replace Z:qg6 tO hb hc:=Z
 refine wB (wpAny_letGo (qb1 (wB (wB (qz0 ?_)))));show wpAny _ _ (qf0 (.ref i2) >>= _) _ _ ⟨hc,gn,dr,tk1,os⟩;have h2c:S2 k hc:=D2.frame _ _ _ h2a fun b O o y=>Z.extBut b o (bd O D.o2) (U.extBut b o (bd O D.x12) y)
 refine wB (D2.item k _ _ _ l2 h2c fun y hd tk2 py h2d hsd=>qb1 ?_)
 replace hsd:qg6 i2 hc hd:=hsd
 have hOd:qm4 hd tO x vb:=hsd.extBut _ _ e4 hOc;refine wB (ql3 hOd rfl (wB (qt6 hOd fun he hOe hse=>?_)))
 replace hOe:qm4 he tO x y:=hOe
 replace hse:qg6 tO hd he:=hse
 refine wB (wpAny_letGo (qb1 (qb1 ?_)));refine wB (ql3 hOe rfl (wB (wpAny_newTuple ?_)));have sz:he.objs.size=hp.objs.size:=by rw[hse.1,hsd.1,Z.1,U.1,hsa.1]
 have hze:IsZip he z ti tO .ellipsis:=hse.extBut _ _ D.zo.symm (hsd.extBut _ _ e2.symm (Z.extBut _ _ D.zo.symm (U.extBut _ _ e1.symm hza)))
 have ke:∀c o,c≠z->c≠tO->c≠i1->c≠i2->hp.get? c=ς o->he.get? c=ς o:=fun c o c1 c2 c3 c4 y=>hse.extBut _ _ c2 (hsd.extBut _ _ c4 (Z.extBut _ _ c2 (U.extBut _ _ c3 (hsa.extBut _ _ c1 y))))
 have h1e:S1 (k+1) he:=D1.frame _ _ _ h1b fun b O o y=>hse.extBut b o (bd O D.o1) (hsd.extBut b o (bd O D.x21) (Z.extBut b o (bd O D.o1) y))
 have h2e:S2 (k+1) he:=D2.frame _ _ _ h2d fun b O o y=>hse.extBut b o (bd O D.o2) y
 have zl:z<he.objs.size:=qa6 hze;show wpAny _ _ (qo9 (.ref z) (.ref he.objs.size) >>= _) _ _ _;refine wB ?_;unfold qo9;have hzf:IsZip (he.push {cls:=.type "tuple",data:=.seq #[x,y]}) z ti tO .ellipsis:=gP _ hze;refine qq0 (ql0 hzf Ξ fun hg hzg hsg=>?_)
 replace hzg:IsZip hg z ti tO (ql4 he.objs.size):=hzg
 refine ql0 hzg Ξ fun hh hzh hsh=>?_
 replace hzh:IsZip hh z ti tO (ql4 he.objs.size):=hzh
 have up:∀c o,c≠z->he.get? c=ς o->hh.get? c=ς o:=fun c o c1 y=>hsh.extBut _ _ c1 (hsg.extBut _ _ c1 (gP _ y))
 have hTh:qm4 hh he.objs.size x y:=hsh.extBut _ _ (qn5 zl) (hsg.extBut _ _ (qn5 zl) (qb6 _ rfl));have szh:hh.objs.size=he.objs.size+1:=by rw[hsh.1,hsg.1,qf8]
 rw[sz]at hzh hTh szh;refine qb1 ⟨_,rfl,?_⟩;show Q (.ref he.objs.size) _;rw[sz];exact q x y hh tk2 px py hzh (up _ _ D.zo hOe) (D1.frame _ _ _ h1e fun b O o y=>up b o (bd O D.z1) y) (D2.frame _ _ _ h2e fun b O o y=>up b o (bd O D.z2) y) hTh szh fun c o c1 c2 c3 c4 y=>up c o c1 (ke c o c1 c2 c3 c4 y)
theorem xQ {Q:Fin->qa4->Prop} (D1:Draws prog w A i1 fp1 n1 P1 S1) (D2:Draws prog w A i2 fp2 n2 P2 S2) (D:ZApart z ti tO i1 i2 fp1 fp2)
  (hz:IsZip s.heap z ti tO .none) (hI:qm4 s.heap ti (.ref i1) (.ref i2)) (hO:qm4 s.heap tO va vb) (h1:S1 k s.heap) (h2:S2 k s.heap) (l1:k=n1∨(k<n1/\k=n2))
  (q:∀h' e,(∀c o,c≠z->c≠tO->c≠i1->c≠i2->s.heap.get? c=ς o->h'.get? c=ς o)->(∃o,h'.get? e=ς o/\o.cls=.type "StopIteration")->∀tk,E (.ref e) {s with heap:=h',toks:=tk}) :
  wpAny (model prog w) A (qn0.«zip.__next__» ⟨[.ref z],[]⟩) Q E s:=by
 obtain⟨hp,gn,dr,tk0,os⟩:=s;have e1:i1≠z:=bd D.m1 D.z1;have e2:i2≠z:=bd D.m2 D.z2;have e3:tO≠i1:=(bd D.m1 D.o1).symm;show wpAny _ _ (field (.ref z) 2 >>= _) _ _ ⟨hp,gn,dr,tk0,os⟩;refine wB (qd7 hz rfl (x:=.bool ξ) rfl ?_);show wpAny _ _ (field (.ref z) 3 >>= _) _ _ ⟨hp,gn,dr,tk0,os⟩;refine wB (qd7 hz rfl (x:=.ref ti) rfl ?_);refine wB (ql3 hI rfl ?_);show wpAny _ _ (qh2 (.ref z) >>= _) _ _ ⟨hp,gn,dr,tk0,os⟩;refine wB ?_;unfold qh2;refine wB (qd7 hz rfl (x:=.none) rfl (qb1 ?_));simp only[if_true];refine wB (wpAny_rule (wB (qd7 hz rfl (x:=.ref tO) rfl ?_)));refine qq0 (ql0 hz Ξ fun ha hza hsa=>?_)
 replace hza:IsZip ha z ti tO .ellipsis:=hza
 replace hsa:qg6 z hp ha:=hsa
 refine wB ?_;simp only[List.zipIdx_cons,List.zipIdx_nil,za6,List.forIn_nil];refine wB (wB (qz0 ?_));show wpAny _ _ (qf0 (.ref i1) >>= _) _ _ ⟨ha,gn,dr,tk0,os⟩;have h1a:S1 k ha:=D1.frame _ _ _ h1 fun b hb o y=>hsa.extBut b o (bd hb D.z1) y
 have h2a:S2 k ha:=D2.frame _ _ _ h2 fun b hb o y=>hsa.extBut b o (bd hb D.z2) y
 rcases l1 with l1|⟨l1,l2⟩
 .subst l1;refine wB (D1.done _ _ _ h1a fun hb e O he=>?_);obtain⟨oe,Z,hce⟩:=he;have hzb:IsZip hb z ti tO .ellipsis:=O _ _ e1.symm hza;have ez:e≠z:=fun y=>by subst y;rw[hzb]at Z;cases Z;simp at hce
  refine ql0 hzb Ξ fun hc _ U=>q hc e (fun c o c1 _ c3 _ y=>U.extBut _ _ c1 (O _ _ c3 (hsa.extBut _ _ c1 y))) ⟨oe,U.extBut _ _ ez Z,hce⟩ tk0
 .subst l2;refine wB (D1.item k _ _ _ l1 h1a fun x hb tk1 px h1b O=>qb1 ?_)
  replace O:qg6 i1 ha hb:=O
  have hOb:qm4 hb tO va vb:=O.extBut _ _ e3 (hsa.extBut _ _ D.zo hO);refine wB (ql3 hOb rfl (wB (qt6 hOb fun hc hOc U=>?_)))
  replace U:qg6 tO hb hc:=U
  refine wB (wpAny_letGo (qb1 (wB (wB (qz0 ?_)))));show wpAny _ _ (qf0 (.ref i2) >>= _) _ _ ⟨hc,gn,dr,tk1,os⟩;have h2c:S2 k hc:=D2.frame _ _ _ h2a fun b hb' o y=>U.extBut b o (bd hb' D.o2) (O.extBut b o (bd hb' D.x12) y)
  refine wB (D2.done _ _ _ h2c fun hd e hsd he=>?_);obtain⟨oe,Z,hce⟩:=he;have hzd:IsZip hd z ti tO .ellipsis:=hsd _ _ e2.symm (U.extBut _ _ D.zo.symm (O.extBut _ _ e1.symm hza));have ez:e≠z:=fun y=>by subst y;rw[hzd]at Z;cases Z;simp at hce
  refine ql0 hzd Ξ fun hf _ hsf=>q hf e (fun c o c1 c2 c3 c4 y=>hsf.extBut _ _ c1 (hsd _ _ c4 (U.extBut _ _ c2 (O.extBut _ _ c3 (hsa.extBut _ _ c1 y))))) ⟨oe,hsf.extBut _ _ ez Z,hce⟩ tk1
theorem lW {Q:ζ Value->qa4->Prop} (D1:Draws prog w A.in1 i1 fp1 n1 P1 S1) (D2:Draws prog w A.in1 i2 fp2 n2 P2 S2) (D:ZApart z ti tO i1 i2 fp1 fp2)
  (O:IsZip s.heap z ti tO .none) (hI:qm4 s.heap ti (.ref i1) (.ref i2)) (Z:qm4 s.heap tO va vb) (h1:S1 k s.heap) (h2:S2 k s.heap) (l1:k<n1) (l2:k<n2)
  (q:∀x y h' tk,P1 k x->P2 k y->IsZip h' z ti tO (ql4 s.heap.objs.size)->qm4 h' tO x y->S1 (k+1) h'->S2 (k+1) h'->qm4 h' s.heap.objs.size x y->h'.objs.size=s.heap.objs.size+1→
   (∀c o,c≠z->c≠tO->c≠i1->c≠i2->s.heap.get? c=ς o->h'.get? c=ς o)->Q (ς (.ref s.heap.objs.size)) {s with heap:=h',toks:=tk}):wpAny (model prog w) A (zf3 (.ref z)) Q E s:=by
 have U:s.TypeIs (.ref z) "zip":=⟨_,O,rfl⟩;unfold zf3;exact wB (qu1 (qj3 (name:=qa0 "__next__") U qv3 (qp1 qv3 U F.entry_zip_next (vN D1 D2 D O hI Z h1 h2 l1 l2 fun x y h' tk a b c d e f g i j=>qb1 (q x y h' tk a b c d e f g i j)) (F.args_zip_next_1 _))))
theorem nF {Q:ζ Value->qa4->Prop} (D1:Draws prog w A.in1 i1 fp1 n1 P1 S1) (D2:Draws prog w A.in1 i2 fp2 n2 P2 S2) (D:ZApart z ti tO i1 i2 fp1 fp2)
  (O:IsZip s.heap z ti tO .none) (hI:qm4 s.heap ti (.ref i1) (.ref i2)) (Z:qm4 s.heap tO va vb) (h1:S1 k s.heap) (h2:S2 k s.heap) (l1:k=n1∨(k<n1/\k=n2))
  (q:∀h' tk,(∀c o,c≠z->c≠tO->c≠i1->c≠i2->s.heap.get? c=ς o->h'.get? c=ς o)->Q ψ {s with heap:=h',toks:=tk}):wpAny (model prog w) A (zf3 (.ref z)) Q E s:=by
 have U:s.TypeIs (.ref z) "zip":=⟨_,O,rfl⟩;unfold zf3;refine wB (qu1 (qj3 (name:=qa0 "__next__") U qv3 (qp1 qv3 U F.entry_zip_next (xQ D1 D2 D O hI Z h1 h2 l1 fun h' e hk he tk=>?_) (F.args_zip_next_1 _))));obtain⟨o,ho,hc⟩:=he;exact wB (wpAny_isInstance (T:="StopIteration") (b:=true) ⟨o,ho,hc⟩ isSubtype_stop (qb1 (q _ tk hk)))
end
abbrev itN(b:Bool):String:=match b with
 |true=>"list_iterator"
 |false=>"tuple_iterator"
abbrev zq1(h:Heap)(b:Bool)(l:J5):Heap:=h.push {cls:=.type (itN b),data:=.fields #[.ref l,.int 0 0]}
abbrev zq2(h:Heap)(b c:Bool)(l m:J5):Heap:=(zq1 h b l).push {cls:=.type (itN c),data:=.fields #[.ref m,.int 0 0]}
abbrev zq3(h:Heap)(b c:Bool)(l m:J5):Heap:=(zq2 h b c l m).push {cls:=.type "tuple",data:=.seq #[.ref h.objs.size,.ref (zq1 h b l).objs.size]}
abbrev zq4(h:Heap)(b c:Bool)(l m:J5):Heap:=(zq3 h b c l m).push {cls:=.type "tuple",data:=.seq #[.none,.none]}
abbrev zq5(h:Heap)(b c:Bool)(l m:J5):Heap:=(zq4 h b c l m).push {cls:=.type "zip",data:=.fields #[.none,.bool ξ,.bool ξ,.ref (zq2 h b c l m).objs.size,.ref (zq3 h b c l m).objs.size]}
variable{m:J5}
section
variable{prog:qc0}{w:J6}{A:qd8}{E:Value->qa4->Prop}{s:qa4}
theorem pb{vs:Array Value}{Q:Value->qa4->Prop}(h:CoB b s.heap a vs)(q:Q (.ref s.heap.objs.size) {s with heap:=s.heap.push {cls:=.type (itN b),data:=.fields #[.ref a,.int 0 0]}}):wpAny (model prog w) A (pyIter (.ref a)) Q E s:=by
 cases b with
 |true=>exact qx0 h q
 |false=>exact qq4 h q
theorem CoB.push{vs:Array Value}(x:CoB b h a vs)(o:Obj):CoB b (h.push o) a vs:=by
 cases b with
 |true=>obtain⟨u,e,r⟩:=x;exact⟨u,gP _ e,r⟩
 |false=>obtain⟨u,e,r⟩:=x;exact⟨u,gP _ e,r⟩
theorem sP (b c:Bool) (l m:J5) (xs ys:Array Value):Meets (qn0.«zip.__new__» ⟨[.type "zip",.ref l,.ref m],[]⟩) (fun _ R s=>CoB b s.heap l xs/\CoB c s.heap m ys∧
      R (.ok (.ret (.ref (zq4 s.heap b c l m).objs.size))) {s with heap:=zq5 s.heap b c l m}):=
 .of_wp fun prog w A R s h=>by obtain⟨O,g,d,tk,os⟩:=s;obtain⟨Z,hm,h⟩:=h;have U:=sub_zip;have hL:CoB b (zc8 ⟨O,g,d,tk,os⟩) l xs:=Z;have hM:CoB c (zc8 ⟨O.push {cls:=.type (itN b),data:=.fields #[.ref l,.int 0 0]},g,d,tk,os⟩) m ys:=hm.push _;wp_walk using pb hL,pb hM;exact⟨_,rfl,h⟩
theorem vP{c:Bool}{l:J5}{xs ys:Array Value}{Q:Value->qa4->Prop}(hl:CoB b s.heap l xs)(hm:CoB c s.heap m ys)
 (q:∀h',IsZip h' (s.heap.objs.size+4) (s.heap.objs.size+2) (s.heap.objs.size+3) .none->qm4 h' (s.heap.objs.size+2) (.ref s.heap.objs.size) (.ref (s.heap.objs.size+1))→
 qm4 h' (s.heap.objs.size+3) .none .none->ItB b h' s.heap.objs.size l 0->ItB c h' (s.heap.objs.size+1) m 0->h'.objs.size=s.heap.objs.size+5→
 (∀a o,s.heap.get? a=ς o->h'.get? a=ς o)->Q (.ref (s.heap.objs.size+4)) {s with heap:=h'}):wpAny (model prog w) A (call (.type "zip") [.ref l,.ref m]) Q E s:=by
 refine ze4 F.called_zip Ω (F.typeCall_zip_2 _ _) (F.newCall_zip_2 _ _) (fun obj=>F.args_object_init_3 obj _ _) F.entry_zip_new (sP b c l m xs ys) ⟨hl,hm,?_⟩;have O:(zq1 s.heap b l).objs.size=s.heap.objs.size+1:=qf8 ..;have z2:(zq2 s.heap b c l m).objs.size=s.heap.objs.size+2:=by rw[show zq2 s.heap b c l m=(zq1 s.heap b l).push _ from rfl,qf8,O]
 have z3:(zq3 s.heap b c l m).objs.size=s.heap.objs.size+3:=by rw[show zq3 s.heap b c l m=(zq2 s.heap b c l m).push _ from rfl,qf8,z2]
 have Z:(zq4 s.heap b c l m).objs.size=s.heap.objs.size+4:=by rw[show zq4 s.heap b c l m=(zq3 s.heap b c l m).push _ from rfl,qf8,z3]
 have z5:(zq5 s.heap b c l m).objs.size=s.heap.objs.size+5:=by rw[show zq5 s.heap b c l m=(zq4 s.heap b c l m).push _ from rfl,qf8,Z]
 have u5:(zq5 s.heap b c l m).get? (zq4 s.heap b c l m).objs.size=ς _:=qb6 _ rfl;have u4:(zq5 s.heap b c l m).get? (zq3 s.heap b c l m).objs.size=ς _:=gP _ (qb6 _ rfl);have u3:(zq5 s.heap b c l m).get? (zq2 s.heap b c l m).objs.size=ς _:=gP _ (gP _ (qb6 _ rfl));have U:(zq5 s.heap b c l m).get? (zq1 s.heap b l).objs.size=ς _:=gP _ (gP _ (gP _ (qb6 _ rfl)));have v1:(zq5 s.heap b c l m).get? s.heap.objs.size=ς _:=gP _ (gP _ (gP _ (gP _ (qb6 _ rfl))));show _/\_;rw[z2,z3,Z]at u5;rw[O,z2]at u3;rw[z3]at u4;rw[O]at U;rw[Z];refine⟨⟨_,u5,rfl⟩,q _ u5 u3 u4 ?_ ?_ z5 fun a o e=>gP _ (gP _ (gP _ (gP _ (gP _ e))))⟩
 .cases b with
  |true=>exact⟨_,v1,rfl,rfl⟩
  |false=>exact⟨_,v1,rfl,rfl⟩
 .cases c with
  |true=>exact⟨_,U,rfl,rfl⟩
  |false=>exact⟨_,U,rfl,rfl⟩
end
section
variable{X:Cx}{J1:η (J5×Obj)}{σ:St}{H:Hp}{s:qa4}{a:J5}{xs ys:η V}{b c:Bool}
theorem xR(J:Inv X J1 σ H s)(U:SqB b X.K H a xs){r:J5}(Z:f7 X J1 H r):a≠r:=by
 have O:(∃o,H a=ς o)∨∃o,X.K.lookup a=ς o:=by
  cases b with
  |true=>
   rcases U with (h|⟨o,h⟩)|⟨o,_,_,h,_⟩
   .exact .inl ⟨_,h⟩
   .exact .inl ⟨_,h⟩
   .exact .inr ⟨_,h⟩
  |false=>
   rcases U with h|⟨o,_,_,h,_⟩
   .exact .inl ⟨_,h⟩
   .exact .inr ⟨_,h⟩
 rintro rfl;rcases O with ⟨o,h⟩|⟨o,h⟩
 .rw[Z.1]at h;cases h
 .have hb:=J.ok.mod.kin a o h;rcases Z.2.2.2.1 with z|z
  .exact J.ok.noex a o hb z
  .exact absurd (qc3 (qa6 hb) (qc5 J.ok.bsz z)) (qh6 _)
theorem xS{l z ti tO i1 i2:J5}(J:Inv X J1 σ H s)(hd:[z,ti,tO,i1,i2].Nodup)(Z:∀r∈[z,ti,tO,i1,i2],f7 X J1 H r)(h1:SqB b X.K H l xs)(h2:SqB c X.K H m ys):ZApart z ti tO i1 i2 [i1,l] [i2,m]:=by
 have n1:∀r∈[z,ti,tO,i1,i2],l≠r:=fun r U=>xR J h1 (Z r U)
 have n2:∀r∈[z,ti,tO,i1,i2],m≠r:=fun r U=>xR J h2 (Z r U)
 simp only[qa9,qb8,or_false,forall_eq_or_imp,forall_eq]at n1 n2;simp only[qg9,qa9,qb8,or_false,not_or,not_false_eq_true,qm7,and_true]at hd;obtain⟨⟨d1,d2,d3,d4⟩,⟨d5,d6,d7⟩,⟨d8,d9⟩,O⟩:=hd;refine⟨qe7 d1,qe7 d2,d5,Ξ,Ξ,?_,?_,?_,?_,d6,d7,?_,?_⟩<;>simp only[qa9,qb8,or_false,not_or]
 .exact⟨d3,qe7 n1.1⟩
 .exact⟨d4,qe7 n2.1⟩
 .exact⟨d8,qe7 n1.2.2.1⟩
 .exact⟨d9,qe7 n2.2.2.1⟩
 .exact⟨O,qe7 n2.2.2.2.1⟩
 .exact⟨qe7 O,qe7 n1.2.2.2.2⟩
end
def Itz(b c:Bool)(K:xA9)(l m:J5):It:=⟨fun i H=>∃xs ys x y,SqB b K H l xs/\SqB c K H m ys/\xs[i]?=ς x/\ys[i]?=ς y,fun i H x H'=>∃t v u,H t=ψ/\x=.ref t/\H'=upd H t (.t [v,u])/\∀xs ys,SqB b K H l xs->SqB c K H m ys->xs[i]?=ς v/\ys[i]?=ς u,fun i H=>∃xs ys,SqB b K H l xs/\SqB c K H m ys/\min xs.length ys.length=i⟩
theorem xT {w:J6} (b c:Bool) (l m z ti tO i1 i2:J5) (hd:[z,ti,tO,i1,i2].Nodup) :
  Turn P w K (.Tuple elts n pos) (Itz b c K l m) [z,ti,tO,i1,i2] z (fun i h=>IsZip h z ti tO .none/\qm4 h ti (.ref i1) (.ref i2)/\(∃va vb,qm4 h tO va vb)/\ItB b h i1 l i/\ItB c h i2 m i) where
 mem:=by simp
 obj:=fun i h st a U=>by
  obtain⟨s1,s2,⟨va,vb,s3⟩,s4,s5⟩:=st;simp only[qa9,qb8,or_false]at U;rcases U with rfl|rfl|rfl|rfl|rfl
  .exact⟨_,s1,fun v y=>nomatch y⟩
  .exact⟨_,s2,fun v y=>nomatch y⟩
  .exact⟨_,s3,fun v y=>nomatch y⟩
  .obtain⟨o,q,_,d⟩:=s4.obj;exact⟨o,q,d⟩
  .obtain⟨o,q,_,d⟩:=s5.obj;exact⟨o,q,d⟩
 keep:=fun i h h' st k=>by obtain⟨s1,s2,⟨va,vb,s3⟩,s4,s5⟩:=st;exact⟨k z Ξ _ s1,k ti Ξ _ s2,⟨va,vb,k tO Ξ _ s3⟩,s4.at fun o q=>k i1 Ξ o q,s5.at fun o q=>k i2 Ξ o q⟩
 item:=by
  intro X hP hw hK hc i J1 s σ H E J hf st hg;subst hP hw hK;obtain⟨s1,s2,⟨va,vb,s3⟩,s4,s5⟩:=st;obtain⟨xs,ys,x,y,hq,hr,hx,hy⟩:=hg;obtain⟨J4,rv,co⟩:=J.seqB hq;obtain⟨O,rv2,co2⟩:=J.seqB hr;obtain⟨u,hu,ru⟩:=rv.get hx;obtain⟨u2,hu2,ru2⟩:=rv2.get hy;have l1:i<J4.toArray.size:=by simpa using (gX hu).1
  have l2:i<O.toArray.size:=by simpa using (gX hu2).1
  refine lW (iA (A:=X.A.in1) (b:=b) (I:=i1) (a:=l) (show X.A.in1.handled=ψ from J.ok.hd hc) (iz s4 co) J4.toArray) (iA (A:=X.A.in1) (b:=c) (I:=i2) (a:=m) (show X.A.in1.handled=ψ from J.ok.hd hc) (iz s5 co2) O.toArray)
   (xS J hd hf hq hr) s1 s2 s3 ⟨s4,co⟩ ⟨s5,co2⟩ l1 l2 fun x' y' h1 tk p1 p2 hz hO t1 t2 hT hsz hk=>⟨_,rfl,?_⟩
  have ex:x'=u:=by rw[show J4.toArray[i]?=J4[i]? by simp,hu]at p1;exact(qc1 p1).symm
  have ey:y'=u2:=by rw[show O.toArray[i]?=O[i]? by simp,hu2]at p2;exact(qc1 p2).symm
  subst ex ey;refine qw4 hz fun h2 hz2 Z=>?_
  have nd:=hd;simp only[qg9,qa9,qb8,or_false,not_or,not_false_eq_true,qm7,and_true]at nd;obtain⟨⟨d1,d2,d3,d4⟩,⟨d5,d6,d7⟩,⟨d8,d9⟩,d10⟩:=nd
  have lt:∀a∈[z,ti,tO,i1,i2],a<s.heap.objs.size:=fun a U=>by
   simp only[qa9,qb8,or_false]at U;rcases U with rfl|rfl|rfl|rfl|rfl
   .exact qa6 s1
   .exact qa6 s2
   .exact qa6 s3
   .obtain⟨o,q,_⟩:=s4.obj;exact qa6 q
   .obtain⟨o,q,_⟩:=s5.obj;exact qa6 q
  have zn:s.heap.objs.size≠z:=fun y=>qh6 _ (y▸lt z Ξ)
  have kk:∀a o,a∉[z,ti,tO,i1,i2]->s.heap.get? a=ς o->h2.get? a=ς o:=fun a o U q=>by simp only[qa9,qb8,or_false,not_or]at U;exact(Z.2 a U.1).trans (hk a o U.1 U.2.2.1 U.2.2.2.1 U.2.2.2.2 q)
  have hT2:h2.get? s.heap.objs.size=ς {cls:=.type "tuple",data:=.seq #[x',y']}:=(Z.2 _ zn).trans hT
  have J2:Inv X J1 σ (upd H s.heap.objs.size (.t [x,y])) {s with heap:=h2,toks:=tk}:=J.turnedT kk hf (nL _) ⟨by show 2<=qa7;decide,[x',y'],.cons ru (.cons ru2 .nil),⟨_,hT2,rfl,_,rfl⟩⟩
  refine⟨.ref s.heap.objs.size,_,J2,rfl,⟨_,x,y,J.hok.fresh (nL _),rfl,rfl,fun us ws hu hw=>⟨by rw[J.seqB_inj hu hq];exact hx,by rw[J.seqB_inj hw hr];exact hy⟩⟩,⟨hz2,(Z.2 ti (qe7 d1)).trans (hk ti _ (qe7 d1) d5 d6 d7 s2),⟨_,_,(Z.2 tO (qe7 d2)).trans hO⟩,t1.1.at fun o q=>(Z.2 i1 (qe7 d3)).trans q,t2.1.at fun o q=>(Z.2 i2 (qe7 d4)).trans q⟩,fun a U=>?_⟩;rw[ax (qc8 (lt a U))];exact(hf a U).1
 done:=by
  intro X hP hw hK hc i J1 s σ H E J hf st hg;subst hP hw hK;obtain⟨s1,s2,⟨va,vb,s3⟩,s4,s5⟩:=st;obtain⟨xs,ys,hq,hr,hx⟩:=hg;obtain⟨J4,rv,co⟩:=J.seqB hq;obtain⟨O,rv2,co2⟩:=J.seqB hr;have e1:=rv.length;have e2:=rv2.length
  refine nF (iA (A:=X.A.in1) (b:=b) (I:=i1) (a:=l) (show X.A.in1.handled=ψ from J.ok.hd hc) (iz s4 co) J4.toArray) (iA (A:=X.A.in1) (b:=c) (I:=i2) (a:=m) (show X.A.in1.handled=ψ from J.ok.hd hc) (iz s5 co2) O.toArray)
   (xS J hd hf hq hr) s1 s2 s3 ⟨s4,co⟩ ⟨s5,co2⟩ (by simp only[qb4];lia) fun h' tk hk=>⟨rfl,?_⟩
  exact J.turnedL (t':=tk) (fun a o U q=>hk a o (fun y=>U (by simp[y])) (fun y=>U (by simp[y])) (fun y=>U (by simp[y])) (fun y=>U (by simp[y])) q) hf
 self:=fun A i s Q E st h=>qt0 st.1 h
section
variable{X:Cx}{x y:J9}{p pos tpos:Pos}{sc:Ja}{fs:De->ζ (η Dt)}{elts:η J9}{n:Nat}
def iZip(K:xA9)(ta:TA):TI:=fun σ H R=>ta σ H fun vs H1=>∃b c l m xs ys,vs=[.ref l,.ref m]/\SqB b K H1 l xs/\SqB c K H1 m ys/\R (Itz b c K l m) H1
theorem Dv (h:aO sc "zip"=θ) (hm:X.mg "zip"=ψ) (ha:PA X [x,y] ta) (e1:bU X sc:=by rfl) (hs:qa2 [x,y] X.env=[(ξ,eval x X.env),(ξ,eval y X.env)]:=by rfl) (O:qa2 [y] X.env=[(ξ,eval y X.env)]:=by rfl) :
  PI X (.Tuple elts n tpos) (.Call (.Name "zip" p) [x,y] [] pos) (iZip X.K ta):=by
 intro J1 s σ H R I h';refine Call_ (jh I (glD h e1) hm xk (qh8 (thn (ha pos J1 s σ H _ I h') fun us s1 ⟨vs,H1,Z,r1,q1⟩=>?_) (by rw[hs,O]) (by rw[O];rfl)));obtain⟨b,c,l,m,xs,ys,rfl,hq,hr,q⟩:=q1;obtain⟨u,w',rfl,ru,rw'⟩:=qb r1;cases ru;cases rw';obtain⟨J4,rv,co⟩:=Z.seqB hq;obtain⟨its2,rv2,co2⟩:=Z.seqB hr;refine vP co co2 fun h2 hz hI hO hi1 hi2 hsz hk=>qt0 hz ?_
 have I2:Inv X J1 σ H1 {s1 with heap:=h2}:=Z.kept (t':=s1.toks) hk;refine⟨s1.heap.objs.size+4,[s1.heap.objs.size+4,s1.heap.objs.size+2,s1.heap.objs.size+3,s1.heap.objs.size,s1.heap.objs.size+1],_,_,H1,rfl,I2,xT b c l m _ _ _ _ _ Ξ,⟨hz,hI,⟨_,_,hO⟩,hi1,hi2⟩,fun a ha=>?_,q⟩
 have U:s1.heap.objs.size<=a:=by simp only[qa9,qb8,or_false]at ha;rcases ha with rfl|rfl|rfl|rfl|rfl<;>first|exact Nat.le_add_right _ _|exact nL _
 exact Z.fpOk U (Z.hok.fresh U)
def gx:η Dt->η Dt->η Dt
 |d::l,e::m=>.t [d,e]::gx l m
 |_,_=>[]
theorem lX:∀(l m:η Dt),(gx l m).length=min l.length m.length
 |[],m=>by simp[gx]
 |_::_,[]=>by simp[gx]
 |d::l,e::m=>by simp[gx,lX l m]
theorem lY:∀{l m:η Dt}{k:Nat}{d e:Dt},l[k]?=ς d->m[k]?=ς e->(gx l m)[k]?=ς (.t [d,e])
 |[],m,k,d,e,h,_=>by simp at h
 |_::_,[],k,d,e,_,h=>by simp at h
 |a::l,b::m,0,d,e,h,h'=>by simp at h h';simp[gx,h,h']
 |a::l,b::m,k+1,d,e,h,h'=>by simp only[gx,qz1];exact lY (by simpa using h) (by simpa using h')
def xU:Dt->ζ (Bool×η Dt)
 |.e l=>ς (θ,l)
 |.t l=>ς (ξ,l)
 |_=>ψ
def Dw:η Dt->ζ (η Dt)
 |[d,e]=>(xU d).bind fun p=>(xU e).map fun q=>gx p.2 q.2
 |_=>ψ
theorem pe{F:Hp}{d:Dt}{p:Bool×η Dt}(r:Rep K F d v)(h:xU d=ς p):∃a xs,v=.ref a/\Reps K F p.2 xs/\∀H,Same F H->SqB p.1 K H a xs:=by
 unfold xU at h;split at h<;>first|(cases h;done)|skip
 .cases h;simp only[Rep]at r;obtain⟨a,xs,rfl,h1,h2⟩:=r;exact⟨a,xs,rfl,h2,fun H s=>s.seq h1⟩
 .cases h;simp only[Rep]at r;obtain⟨a,xs,rfl,h1,h2⟩:=r;exact⟨a,xs,rfl,h2,fun H s=>s.tup h1⟩
theorem xV{F:Hp}{c:Bool}{a':J5}{m:η Dt}(r:Reps K F l xs)(r':Reps K F m ys):nj K F (Itz b c K a a') (gx l m) (fun H=>SqB b K H a xs/\SqB c K H a' ys):=fun i H F2 O fh ff=>by have hl:=r.length;have hm:=r'.length;rw[lX];refine⟨fun h=>⟨xs,ys,xs[i],ys[i],O.1,O.2,by simp[show i<xs.length by lia],by simp[show i<ys.length by lia]⟩,fun h=>⟨xs,ys,O.1,O.2,Θ⟩,fun x H' hi U=>?_⟩;obtain⟨t,v,u,ht,rfl,rfl,hv⟩:=U;obtain⟨hx,U⟩:=hv xs ys O.1 O.2;obtain⟨d,hd,rd⟩:=r.same_get hx;obtain⟨e,he,re⟩:=r'.same_get U;have Z:=Same.upd (o:=.t [v,u]) (fh.free ht);exact⟨_,upd F2 t (.t [v,u]),lY hd he,Step.new fh ht,lV aC ((rd.same ff).same Z) ((re.same ff).same Z)⟩
theorem Dx (h:aO sc "zip"=θ) (hm:X.mg "zip"=ψ) (ha:DA X [x,y] fs) (e1:bU X sc:=by rfl) (hs:qa2 [x,y] X.env=[(ξ,eval x X.env),(ξ,eval y X.env)]:=by rfl) (hs2:qa2 [y] X.env=[(ξ,eval y X.env)]:=by rfl) :
  DIF X (.Tuple elts n tpos) (.Call (.Name "zip" p) [x,y] [] pos) (dj Dw fs):=PI.mono (Dv h hm ha.pa e1 hs hs2) fun σ H R ⟨Φ,δ,F,ds,hK,en,O,k⟩=>by
 unfold dj at O;obtain⟨as,hd,O⟩:=bS O;refine⟨Φ,δ,F,as,hK,en,hd,fun vs H' F' st r=>?_⟩;unfold Dw at O;split at O<;>first|(cases O;done)|skip
 obtain⟨p1,U,O⟩:=bS O;obtain⟨p2,Z,O⟩:=mS O;cases O;simp only[Reps]at r;obtain⟨v,ws,rfl,r1,w',us,rfl,r2,rfl⟩:=r;obtain⟨a,xs,rfl,q1,s1⟩:=pe r1 U;obtain⟨a',ys,rfl,q2,s2⟩:=pe r2 Z;exact⟨p1.1,p2.1,a,a',xs,ys,rfl,s1 _ st.fh,s2 _ st.fh,k _ _ H' F' st (xV q1 q2) fun H2 s=>⟨s1 _ s,s2 _ s⟩⟩
end
theorem iB:∀l:η (Str×Tok),Vals ((l.map (·.1)).map V.str) (strValues l)
 |[]=>.nil
 |p::r=>.cons ⟨p.2,rfl⟩ (iB r)
variable{y:Str}
section
variable{X:Cx}{o a b e c:J9}{es:η J9}{fa fb fo fe:De->ζ Dt}{fs:De->ζ (η Dt)}{pos apos cpos p:Pos}{i:Nat}
theorem Dy{w:J6}{E:Value->qa4->Prop}{t u:Tok}{Q:Value->qa4->Prop}(U:(y.length==0)=ξ)(hsz:x.length+2<=qa7)
 (q:∀l k,l.map (·.1)=Txt.split x y->Q (.ref s.heap.objs.size) {s with heap:=s.heap.push {cls:=.type "list",data:=.seq (strValues l).toArray},toks:=k}):wpAny (model prog w) A (call (.builtin "str.split") [.str x t,.str y u]) Q E s:=by
 have Z:(qx9 x (qg4 x y 0 x.length (x.length+1)) y.length).length<=qa7:=by have:=zb0 x y 0 x.length (x.length+1);rw[length_partsBetween];lia
 cases h1:(decide (x.length<y.length)||decide (qn0.Str.strKind x<qn0.Str.strKind y))with
 |true=>exact qu7 qz5 (qu6 _ _ _) qy0 (qw1 _ _) (meets_str_split_cannot_occur x y t u h1) (q [(x,t)] s.toks (if_pos h1).symm)
 |false=>
  cases O:(qg4 x y 0 x.length (x.length+1)).isEmpty with
  |true=>exact qu7 qz5 (qu6 _ _ _) qy0 (qw1 _ _) (meets_str_split_not_found x y t u h1 U O) (q [(x,t)] s.toks ((if_neg (ne_true_of_eq_false h1)).trans (if_pos O)).symm)
  |false=>refine qu7 qz5 (qu6 _ _ _) qy0 (qw1 _ _) (meets_str_split_sep x y t u h1 U O Θ Z) ?_;show wants Q E _ {s with toks:=_,heap:=s.heap.push {cls:=qu4 "list",data:=.seq (strsFrom s.toks (qx9 x (qg4 x y 0 x.length (x.length+1)) y.length)).toArray}};rw[strsFrom_eq];exact q (numbered s.toks _) _ ((numbered_texts _ _).trans ((if_neg (ne_true_of_eq_false h1)).trans (if_neg (ne_true_of_eq_false O))).symm)
theorem vQ(h:x.length+2<=qa7):(Txt.split x y).length<=qa7:=by
 unfold Txt.split;split
 .show 1<=qa7;lia
 .split
  .show 1<=qa7;lia
  .have:=zb0 x y 0 x.length (x.length+1);rw[length_partsBetween];lia
theorem xW:MtR X "str.split" (fun v vs H Q=>∃x y,v=.str x/\vs=[.str y]/\(y.length==0)=ξ/\x.length+2<=qa7/\∀p,H p=ψ->Q (.ref p) (upd H p (.e ((Txt.split x y).map V.str)))):=by
 intro J1 s σ H v vs u us Q I rx rv h;obtain⟨x,y,rfl,rfl,hy,O,q⟩:=h;obtain⟨t,rfl⟩:=rx;obtain⟨u,rfl,Z⟩:=rv.one;obtain⟨t',rfl⟩:=Z;refine Dy hy O fun l k el=>?_
 have U:=iB l;rw[el]at U;exact⟨.ref _,_,I.lnew (t':=k) U (by rw[qa5];exact vQ O),rfl,q _ I.fresh⟩
def dl:Dt->η Dt->ζ T
 |.str x,[.str y]=>if(y.length==0)=ξ/\x.length+2<=qa7 then ς (.e ((Txt.split x y).map .str))else ψ
 |_,_=>ψ
theorem xX:MRD K (fun v vs H Q=>∃x y,v=.str x/\vs=[.str y]/\(y.length==0)=ξ/\x.length+2<=qa7/\∀p,H p=ψ->Q (.ref p) (upd H p (.e ((Txt.split x y).map V.str)))) dl:=by
 intro F H d v ds vs Q t fh rd rs O k;unfold dl at O;split at O<;>first|(cases O;done)|skip
 split at O<;>first|(cases O;done)|skip
 rename_i U;cases O;cases rd;obtain⟨v,rfl,rv⟩:=dL rs;cases rv;exact⟨_,_,rfl,rfl,U.1,U.2,fun p Z=>jB k fh (Reps.map (fun _=>gI) _) Z⟩
theorem qF:∀d ds t,dl d ds=ς t->∃z,d=.str z:=fun d ds t h=>by
 unfold dl at h;split at h
 .exact⟨_,rfl⟩
 .cases h
theorem jK (ho:DB X o fo) (ha:DAB X (e::es) fs)
  (Z:qg5 o "split" X.env (eval o X.env)=eval o X.env:=by rfl)
  (hfew:((qf2 cpos (qa2 (e::es) X.env)).all (fun x=>!x.1)&&(qs1 cpos (ql2 [] X.env)).all (fun x=>x.1.isSome)
   && decide ((e::es).length+([]:η qk3).length+(if([]:η qk3).isEmpty then 0 else 1)<30))=θ:=by rfl)
  (U:(apos.endLine==cpos.line)=θ:=by rfl) (hs:qa2 (e::es) X.env=(ξ,eval e X.env)::qa2 es X.env:=by rfl) (O:(qf2 cpos (qa2 es X.env)).any (·.1)=ξ:=by rfl) :
  DO X (.Call (.Attribute o "split" apos) (e::es) [] cpos) (bR dl fo fs):=sH PySem.F.slot_str_split PySem.F.type_str_split xW xX qF ho ha Z hfew U hs O
end
variable{C fa:J5}{base:Heap}{qual:Str}{scope:Ja}{cd:Value}{outer:η Env}{s0:qa4}{H0:Hp}{py:Pos}
section
variable{X:Cx}{E:XK}{k n:Nat}{ps ns:η Str}{ff:η Dt->ζ T}{x c:Str}{sc:Ja}{p pos pos':Pos}{e:J9}{es:η J9}{fs:De->ζ (η Dt)}{i:Nat}
theorem DA.nox(O:DA X.nox es fs):PA X.nox es (tAL X.K fs):=O.pa
theorem xY {F:Hp} {D f:J5} {x dx:J5} (h1:cV K c=ς C) (h2:cV K "DimError"=ς D) (h3:XCl K C D f) (Z:∀ g∈ns,dZ K C g) (hl:ds.length=ns.length) (r:Reps K F ds vs) (hd:F dx=ψ) (O:F x=ψ) (U:dx≠x) :
  RepX K (upd (upd F dx (XD dx (ns.zip vs))) x (XC x C dx)) c (ns.zip ds) (.ref x):=by
 have e1:(ns.zip ds).map (·.1)=ns:=List.map_fst_zip Θ;have e2:(ns.zip ds).map (·.2)=ds:=List.map_snd_zip Θ;refine⟨x,C,D,f,dx,vs,rfl,h1,h2,h3,by rw[e1];exact Z,aC,by rw[ax U,aC,e1],?_⟩;rw[e2];refine r.same fun b o q=>?_
 rw[ax (aP q O),ax (aP q hd)];exact q
def sRs(c:Str)(ns:η Str)(fs:De->ζ (η Dt)):De->ζ Out:=fun δ=>(fs δ).bind fun ds=>if ds.length=ns.length then ς (.rt (.rse c (ns.zip ds)))else ψ
theorem lZ{w:J6}(h:aO sc c=θ)(F:OkX X.prog X.w X.K X.mg X.base c k ns)(hr:Room (k+1) X.A)(ha:DA X.nox (e::es) fs)
 (hX:X=dq (CXX P w) P w K mg base N qual scope fa cd A outer s0 H0 E:=by rfl) (e1:bU X sc:=by rfl)
 (he:qa2 (e::es) X.env=(ξ,eval e X.env)::qa2 es X.env:=by rfl) (hpl:(qf2 pos (qa2 es X.env)).any (·.1)=ξ:=by rfl):DX1 X E (.Raise (ς (.Call (.Name c p) (e::es) [] pos)) ψ pos') (sRs c ns fs):=by
 obtain⟨C,D,f,fd,ps,h1,h2,h3,h4,h5,h6,h7,h8⟩:=F.ex;refine PS.mono (xf hX h4 h5 h8 hr h7 h6 (glD h e1) h1 ha.nox (gb h) he hpl) fun Dd σ H ⟨Φ,δ,Fz,o,hK,en,U,k⟩=>?_
 unfold sRs at U;obtain⟨ds,hd,U⟩:=bS U;split at U
 .rename_i hl;cases U;refine⟨Φ,δ,Fz,ds,hK,en,hd,fun vs H1 F1 st r=>⟨by rw[r.length];exact hl,fun x dx hx Z ne=>?_⟩⟩;have s1:=Step.new (o:=XD dx (ns.zip vs)) st.fh Z;have s2:=Step.new (o:=XC x C dx) s1.fh (p:=x) (by rw[ax (qe7 ne)];exact hx);have O:=en.step (st.trans (s1.trans s2));exact k x _ _ ⟨O.fh,O.prot,O.old,O.nw,hK▸xY h2 h3 h4 h5 hl r (st.fh.free Z) (st.fh.free hx) ne⟩ (ς dx)
 .cases U
def sCX(ff:η Dt->ζ T)(fs:De->ζ (η Dt)):De->ζ Out:=fun δ=>((fs δ).bind ff).map fun t=>match t with
 |.rse c l=>.rt (.rse c l)
 |_=>.nx δ
def sSX(i:Nat)(ff:η Dt->ζ T)(fs:De->ζ (η Dt)):De->ζ Out:=fun δ=>((fs δ).bind ff).map fun t=>match t with
 |.rse c l=>.rt (.rse c l)
 |t=>.nx (δ.set i (ς t))
theorem qG{w:J6}{sp:Sp}{t:TA}(h:aO sc x=θ)(F:OkFX X.prog X.w X.K X.mg X.base x k ps sp)(U:Room k X.A)(Z:PA X (e::es) t)
 (hX:X=dq (CXX P w) P w K mg base N qual scope fa cd A outer s0 H0 E) (e1:bU X sc)
 (he:qa2 (e::es) X.env=(ξ,eval e X.env)::qa2 es X.env) (O:(qf2 pos (qa2 es X.env)).any (·.1)=ξ):PE X (.Call (.Name x p) (e::es) [] pos) (tV sp [] E t):=by
 obtain⟨f,fd,h1,h2,h3,h4⟩:=F.ex;exact tW h4 U (glD h e1) h1 h2 h3 .nil (by rw[hX];exact Df) Z (gb h) he O
theorem En.rtX{F:Hp}{l:η (Str×Dt)}(O:En Φ δ σ F H)(k:PostX Φ D E (.rt (.rse c l))):KX Φ.K F H c l E:=fun x H' F' st r dx=>by have e2:=O.step st;exact k x F' H' ⟨e2.fh,e2.prot,e2.old,e2.nw,r⟩ dx
theorem ui{w:J6}(h:aO sc x=θ)(F:OkFX X.prog X.w X.K X.mg X.base x k ps (spX X.K n ff))(hr:Room k X.A)(ha:DA X (e::es) fs)(hn:(e::es).length=n:=by rfl)
 (hX:X=dq (CXX P w) P w K mg base N qual scope fa cd A outer s0 H0 E:=by rfl) (e1:bU X sc:=by rfl)
 (he:qa2 (e::es) X.env=(ξ,eval e X.env)::qa2 es X.env:=by rfl) (Z:(qf2 pos (qa2 es X.env)).any (·.1)=ξ:=by rfl) (hs:qf7 (.Call (.Name x p) (e::es) [] pos) ψ pos'.line X.env=pure ξ:=by rfl) :
  DX1 X E (.Expr (.Call (.Name x p) (e::es) [] pos) pos') (sCX ff fs):=PS.mono (oq (qG h F hr ha.pa hX e1 he Z) hs) fun D σ H ⟨Φ,δ,Fz,o,hK,en,U,k⟩=>by
 unfold sCX at U;obtain⟨t,ht,U⟩:=mS U;obtain⟨ds,hd,ht⟩:=bS ht;refine⟨Φ,δ,Fz,ds,hK,en,hd,fun vs H1 F1 st r=>?_⟩;show spX X.K n ff (vs++[]) H1 _ E;rw[qd2];refine⟨F1,ds,t,st.fh,(ha.len δ ds hd).trans hn,r,ht,?_⟩;have O:=en.step st;cases t with
 |rse c l=>cases U;exact hK▸O.rtX k
 |_=>cases U;exact fun v H' F' S st' _ _=>k σ F' H' (O.step st')
theorem Dz{w:J6}{N':η Str}(hy:dh sc N' i y=θ)(hl:g9 sc y=θ)(nd:N'.Nodup)(h:aO sc x=θ)(F:OkFX X.prog X.w X.K X.mg X.base x k ps (spX X.K n ff))(hr:Room k X.A)(ha:DA X (e::es) fs)(hn:(e::es).length=n:=by rfl)
 (hX:X=dq (CXX P w) P w K mg base N qual scope fa cd A outer s0 H0 E:=by rfl) (e1:bU X sc:=by rfl) (e2:X.N=N':=by rfl) (O:X.fn y=θ∨X.env.scope.names.lookup y=ς .local:=by exact .inl rfl)
 (he:qa2 (e::es) X.env=(ξ,eval e X.env)::qa2 es X.env:=by rfl) (hpl:(qf2 pos (qa2 es X.env)).any (·.1)=ξ:=by rfl) (hs:qf7 (.Call (.Name x p) (e::es) [] pos) (ς (.Name y py)) pos'.line X.env=pure ξ:=by rfl) :
  DX1 X E (.Assign [.Name y py] (.Call (.Name x p) (e::es) [] pos) pos') (sSX i ff fs):=PS.mono (ug hy hl nd (qG h F hr ha.pa hX e1 he hpl) e1 e2 O hs) fun D σ H ⟨Φ,δ,Fz,o,Z,en,O,k⟩=>by
 unfold sSX at O;obtain⟨t,ht,O⟩:=mS O;obtain⟨ds,hd,ht⟩:=bS ht;refine⟨Φ,δ,Fz,ds,Z,en,hd,fun vs H1 F1 st r=>?_⟩;show spX X.K n ff (vs++[]) H1 _ E;rw[qd2];refine⟨F1,ds,t,st.fh,(ha.len δ ds hd).trans hn,r,ht,?_⟩;have U:=en.step st;cases t with
 |rse c l=>cases O;exact Z▸U.rtX k
 |_=>cases O;exact fun v H' F' S st' o hs=>k _ F' H' (U.put st' (Z▸o) hs i)
def sQ(ff:η Dt->ζ T)(fs:De->ζ (η Dt))(ir jn ic:Nat):De->ζ Out:=fun δ=>((fs δ).bind ff).map fun t=>match t with
 |.rse c l=>.nx ((δ.set jn ψ).set ic (ς (.exc c l)))
 |t=>.nx (δ.set ir (ς t))
theorem En.clearN{F:Hp}(e:En Φ δ σ F H)(i:Nat):En Φ (δ.set i ψ) (σ.set i ψ) F H:=by
 obtain⟨S,s⟩:=e.sep
 have U:∀(j:Nat)(t:T),(δ.set i ψ)[j]?=ς (ς t)->j≠i/\δ[j]?=ς (ς t):=fun j t h=>by
  by_cases O:j=i
  .subst O;rw[List.getElem?_set]at h;simp only[if_true]at h;split at h<;>cases h
  .rw[gN (qe7 O)]at h;exact⟨O,h⟩
 refine⟨e.fh,e.prot,e.old,e.nw,by simp[e.len],fun j t h=>?_,S,fun j t v h=>?_,s.out,s.dis⟩
 .obtain⟨O,h⟩:=U j t h;obtain⟨v,Z⟩:=e.has j t h;exact⟨v,by rw[gN (qe7 O)];exact Z⟩
 .obtain⟨h1,h2⟩:=gq h;obtain⟨O,h1⟩:=U j t h1;rw[gN (qe7 O)]at h2;exact s.own j t v (cc h1 h2)
theorem DC{m z dn:Str}{ir jn ic:Nat}{D:J5}{pa pd pz pm pas ph pt:Pos}(h:aO sc x=θ)(F:OkFX X.prog X.w X.K X.mg X.base x k ps (spX X.K n ff))(hr:Room k X.A)(ha:DA X.nox (e::es) fs)
 (T:XTop X.K D) (hD:cV X.K "DimError"=ς D) (hmD:X.mg dn=ς (.ref D)) (U:aO sc dn=θ) (nd:N.Nodup) (hy:dh sc N ir y=θ) (ly:g9 sc y=θ) (hm:dh sc N jn m=θ) (lm:sc.names.lookup m=ς .local) (hz:dh sc N ic z=θ) (lz:g9 sc z=θ) (hij:jn≠ic)
 (hn:(e::es).length=n:=by rfl) (e1:bU X sc:=by rfl) (e2:X.N=N:=by rfl) (hst:X.stack=X.env::X.outer:=by rfl) (hfr:X.env.frame=ς X.env.locals:=by rfl)
 (fy:X.fn y=θ∨X.env.scope.names.lookup y=ς .local:=by exact .inl rfl) (fz:X.fn z=θ∨X.env.scope.names.lookup z=ς .local:=by exact .inl rfl)
 (hs:qf7 (.Call (.Name x p) (e::es) [] pos) (ς (.Name y py)) pa.line X.env=pure ξ:=by rfl) (hs2:qf7 (.Name m pm) (ς (.Name z pz)) pas.line X.env=pure ξ:=by rfl)
 (he:qa2 (e::es) X.env=(ξ,eval e X.env)::qa2 es X.env:=by rfl) (hpl:(qf2 pos (qa2 es X.env)).any (·.1)=ξ:=by rfl) :
  DS1 X (.Try [.Assign [.Name y py] (.Call (.Name x p) (e::es) [] pos) pa] [.ExceptHandler (ς (.Name dn pd)) (ς m) [.Assign [.Name z pz] (.Name m pm) pas] ph] [] [] pt) (sQ ff fs ir jn ic):=by
 obtain⟨f,fd,h1,h2,h3,h4⟩:=F.ex;have e1':X.env.scope=sc:=e1;subst e1' e2;refine PS.mono (Dg h4 hr (glD h e1) h1 h2 h3 ha.nox T (glD U e1) hmD hst hfr nd (eV hy) (gH ly) fy (eV hm) lm (eV hz) (gH lz) fz hij (fun u E=>pvD jn hm rfl rfl) hs hs2 (gb h) (gb U) he hpl) fun Dd σ H ⟨Φ,δ,Fz,o,hK,en,hf,k⟩=>?_
 unfold sQ at hf;obtain⟨t,ht,hf⟩:=mS hf;obtain⟨ds,hd,ht⟩:=bS ht;refine⟨Φ,δ,Fz,ds,hK,en,hd,fun vs H1 F1 st r=>⟨F1,ds,t,st.fh,(ha.len δ ds hd).trans hn,r,ht,?_⟩⟩;have Z:=en.step st;cases t with
 |rse c l=>cases hf;intro x H' F' O rx dx;obtain⟨x',C,D',f',dx',vs',ee,g1,g2,g3,g4,g5,g6,g7⟩:=id rx;cases ee;rw[hD]at g2;cases g2;refine⟨x,C,dx',f',rfl,O.fh _ _ g5,g3,k _ F' H' ?_⟩;exact(Z.clearN jn).put (t:=.exc c l) (S':=fun _=>False) O (hK▸rx) (fun _ z=>z.elim) ic
 |_=>cases hf;exact fun v H' F' S O o hs=>k _ F' H' (Z.put O (hK▸o) hs ir)
end
section
variable{X:Cx}{i:Nat}{sc:Ja}{x:Str}{p pos:Pos}{e:J9}{f:Str}{fe:De->ζ T}
def tXat(K:xA9)(ta:TE)(f:Str):TE:=fun σ H Q=>ta σ H fun v H1=>∃x C D O dx fs y,v=.ref x/\H1 x=ς (XC x C dx)/\H1 dx=ς (XD dx fs)/\XCl K C D O/\dZ K C f/\fs.lookup f=ς y/\Q y H1
theorem DD{ta:TE}(ha:PE X e ta)(hb:qg5 e f X.env (eval e X.env)=eval e X.env:=by rfl):PE X (.Attribute e f pos) (tXat X.K ta f):=by intro J1 s σ H Q I h;refine zW hb (thn (ha J1 s σ H _ I h) fun o s1 ⟨v,H1,O,r,x,C,D,fI,dx,fs,y,ev,h1,h2,h3,h4,h5,q⟩=>?_);subst ev;obtain rfl:o=qb7 x:=r;obtain⟨ob,vs,g1,g2,Z,g4⟩:=O.hok.xc h1;obtain⟨mA,n1,r1,_⟩:=O.hok.xd h2;obtain⟨u,hu,U⟩:=RelO.some_of (v:=y) (o:=mA f) (by rw[<- h5];exact r1 f);exact Fh O.kIn h3 g1 g2 Z g4 h4 n1 hu (vm U) ⟨y,H1,O.tok _,U,q⟩
def Fv(f:Str):T->ζ Dt
 |.exc _ l=>l.lookup f
 |_=>ψ
def sR(f:Str)(fe:De->ζ T):De->ζ Dt:=fun δ=>(fe δ).bind (Fv f)
theorem qH{F:Hp}{f:Str}{d:Dt}:∀{l:η (Str×Dt)}{vs:η V},Reps K F (l.map (·.2)) vs->l.lookup f=ς d->∃y,((l.map (·.1)).zip vs).lookup f=ς y/\Rep K F d y
 |[],_,_,h=>by cases h
 |(g,d0)::l,vs,r,h=>by
  simp only[qb3,Reps]at r;obtain⟨v,ws,rfl,O,U⟩:=r;simp only[qb3,List.zip_cons_cons,qf9]at h ⊢;cases q:f==g with
  |true=>rw[q]at h;cases h;exact⟨v,rfl,O⟩
  |false=>rw[q]at h;exact qH U h
theorem nG{f:Str}{d:Dt}:∀{l:η (Str×Dt)},l.lookup f=ς d->f∈l.map (·.1)
 |[],h=>by cases h
 |(g,d0)::l,h=>by
  simp only[qf9]at h;cases q:f==g with
  |true=>rw[beq_iff_eq.mp q];simp
  |false=>rw[q]at h;exact qa3 _ (nG h)
theorem xZ(he:DO X e fe)(hb:qg5 e f X.env (eval e X.env)=eval e X.env:=by rfl):DL X (.Attribute e f pos) (sR f fe):=PE.mono (DD he hb) fun σ H Q ⟨Φ,δ,F,d,U,en,O,k⟩=>by
 unfold sR at O;obtain⟨t,ht,O⟩:=bS O;cases t with
 |exc c l=>refine⟨Φ,δ,F,_,U,en,ht,fun v H' F' S st o hs=>?_⟩;obtain⟨x,C,D,fI,dx,vs,rfl,h1,h2,h3,h4,h5,h6,Z⟩:=(show RepX X.K F' c l v from o);obtain⟨y,hy,ry⟩:=qH Z O;exact⟨x,C,D,fI,dx,_,y,rfl,st.fh _ _ h5,st.fh _ _ h6,h3,h4 f (nG O),hy,k y H' F' st ry⟩
 |_=>cases O
def vX(i:Nat):De->ζ T:=fun δ=>match δ[i]? with
 |some (ς (.exc c l))=>ς (.exc c l)
 |_=>ψ
theorem gO(h:PE X e (gF i)):DO X e (vX i):=PE.mono h fun σ H Q ⟨Φ,δ,F,t,hK,U,O,k⟩=>by
 unfold vX at O;split at O
 .rename_i c l q;cases O;obtain⟨v,Z⟩:=U.has i _ q;obtain⟨S,s⟩:=U.sep;exact⟨v,Z,k v H F (fun _=>False) (Step.refl U.fh) (hK▸(show RepX Φ.K F c l v from s.own i _ v (cc q Z))) fun _ z=>z.elim⟩
 .cases O
def tXn(i:Nat):De->ζ Bool:=fun δ=>match δ[i]? with
 |some (ς (.exc _ _))=>ς ξ
 |some (ς (.f d))=>ς (match d with|.non=>θ|_=>ξ)
 |_=>ψ
theorem ya{j:Nat}{pn:Pos}(h:PE X e (gF i)):DT X (.Compare e [.Is] [.Constant .none j pn] pos) (tXn i):=PT.mono (kY ou h wx rfl) fun σ H Q ⟨Φ,δ,F,b,hK,O,U,k⟩=>by
 unfold tXn at U;split at U
 .rename_i c l q;cases U;obtain⟨v,Z⟩:=O.has i _ q;obtain⟨S,s⟩:=O.sep;obtain⟨x,_,_,_,_,_,rfl,_⟩:=(show RepX Φ.K F c l v from s.own i _ v (cc q Z));exact⟨_,Z,rfl,⟨ξ,rfl,k H F (Step.refl O.fh)⟩⟩
 .rename_i d q;cases U;obtain⟨v,Z,r⟩:=O.leaf q;refine⟨v,Z,rfl,⟨_,?_,k H F (Step.refl O.fh)⟩⟩;cases d with
  |non=>simp only[Rep]at r;subst r;rfl
  |bl b=>simp only[Rep]at r;subst r;rfl
  |int b=>simp only[Rep]at r;subst r;rfl
  |str b=>simp only[Rep]at r;subst r;rfl
  |t l=>simp only[Rep]at r;obtain⟨a,vs,rfl,_⟩:=r;rfl
  |e l=>simp only[Rep]at r;obtain⟨a,vs,rfl,_⟩:=r;rfl
  |dct ks l=>simp only[Rep]at r;obtain⟨a,vs,rfl,_⟩:=r;rfl
  |dcT ks l=>simp only[Rep]at r;obtain⟨a,vs,rfl,_⟩:=r;rfl
 .cases U
theorem sT:CallR X (.builtin "isinstance") (fun xs H Q=>∃x C D U dx fs v b,xs=[.ref x,v]/\H x=ς (XC x C dx)/\H dx=ς (XD dx fs)/\XCl X.K C D U/\XIs X.K C/\(∀u,RelV v u->xI9 X.K (.ref C) u=ς b)/\Q (.bl b) H):=by intro J1 s σ H xs us Q I r h;obtain⟨x,C,D,U,dx,fs,v,b,rfl,h1,h2,h3,Z,h5,q⟩:=h;obtain⟨u,w',rfl,ru,O⟩:=qb r;cases ru;exact xG9 (BW (vs:=#[]) h3 Z) I.kIn ⟨I.hok.xc h1,I.hok.xd h2⟩ (h5 w' O) (fun z=>nomatch z) fun tk=>⟨.bl b,H,I.tok _,rfl,q⟩
theorem qI:CallR X (.builtin "isinstance") (fun xs H Q=>∃x C D Z dx fs a vs b,xs=[.ref x,.ref a]/\H x=ς (XC x C dx)/\H dx=ς (XD dx fs)/\XCl X.K C D Z/\XIs X.K C/\H a=ς (.t vs)/\(∀us,Vals vs us->PySem.W.kitAny X.K (.ref C) us=ς b)/\Q (.bl b) H):=by intro J1 s σ H xs us Q I r h;obtain⟨x,C,D,Z,dx,fs,a,vs,b,rfl,h1,h2,h3,h4,h5,h6,q⟩:=h;obtain⟨u,w',rfl,ru,O⟩:=qb r;cases ru;cases O;obtain⟨_,J4,r2,o,e1,e2,n,U⟩:=(show ObjOk X.prog X.w H s.heap a (.t vs)from I.hok a _ h5);obtain⟨oc,od,oda,osl⟩:=o;dsimp only at e2 U;subst e2 U;exact PySem.W.kia_tup (BW (vs:=#[]) h3 h4) I.kIn ⟨I.hok.xc h1,I.hok.xd h2⟩ e1 (h6 J4 r2) (fun z=>nomatch z) fun tk=>⟨.bl b,H,I.tok _,rfl,q⟩
end
def kcl(K:xA9)(C:J5):Bool:=(xN9 K C).isSome&&xP9 K (.ref C)==ς (.type "type")
structure XW(K:xA9)(mg:Str->Option Value)(cs:List Str):Prop where
 ex:∃D,cV K "DimError"=ς D/\mg "DimError"=ς (.ref D)/\XTop K D/\∀c∈cs,∃C,cV K c=ς C/\mg c=ς (.ref C)/\XIs K C/\kcl K C=θ/\C≠D
 inj:∀c∈cs,∀c'∈cs,cV K c=cV K c'->c=c'
section
variable{K:xA9}{mg:Str->ζ Value}{cs:η Str}{C D f Y:J5}{c y:Str}
theorem XCl.mro(x:XCl K C D f)(T:Value):xJ9 K C T=ς ((.ref C::.ref D::vtl:η Value).contains T):=by obtain⟨cd,h1,h2,_⟩:=x.cls;unfold xJ9;rw[h1,qa1,h2];rfl
theorem XW.own(W:XW K mg cs)(x:XCl K C D f)(hD:cV K "DimError"=ς D)(hc:c∈cs)(hC:cV K c=ς C)(Z:y∈cs)(U:cV K y=ς Y):xI9 K (.ref C) (.ref Y)=ς (c==y):=by
 obtain⟨D',e1,_,_,all⟩:=W.ex;rw[hD]at e1;cases e1;obtain⟨Y',e2,_,_,ky,nd⟩:=all y Z;rw[U]at e2;cases e2;unfold xI9;by_cases O:c=y
 .subst O;rw[hC]at U;cases U;rw[if_pos (beq_self_eq_true _),beq_self_eq_true]
 .have ne:C≠Y:=fun z=>O (W.inj c hc y Z (by rw[hC,U,z]))
  rw[if_neg (by simpa using ne),beq_eq_false_iff_ne.mpr O];unfold PySem.W.kitCls;dsimp only;rw[if_pos (show((xN9 K Y).isSome&&xP9 K (.ref Y)==ς (.type "type"))=θ from ky)];show xJ9 K C (.ref Y)=_;rw[x.mro];simp[vtl,qe7 ne,nd]
theorem XW.val(x:XCl K C D f):xI9 K (.ref C) (.type "ValueError")=ς θ:=by unfold xI9;rw[if_neg Ξ];unfold PySem.W.kitCls;dsimp only;rw[if_pos (show PySem.W.kitMeta "ValueError"=θ by decide +kernel)];show xJ9 K C (.type "ValueError")=_;rw[x.mro];simp[vtl]
end
section
variable{X:Cx}{cs:η Str}{sc:Ja}{p1 p2 pos:Pos}{a:J9}{fa:De->ζ T}{y:Str}
def isX(cs:η Str)(b:Str->Bool):T->ζ T
 |.exc c _=>if c∈cs then ς (.f (.bl (b c)))else ψ
 |_=>ψ
def hU(cs:η Str)(b:Str->Bool)(fa:De->ζ T):De->ζ T:=fun δ=>(fa δ).bind (isX cs b)
theorem yb{b:Str->Bool}(W:XW X.K X.mg cs)(h:aO sc "isinstance"=θ)(hm:X.mg "isinstance"=ψ)(ha:DO X a fa)(hv:PE X e (tC v))
 (hk:∀c C D f u,c∈cs->cV X.K c=ς C->cV X.K "DimError"=ς D->XCl X.K C D f->RelV v u->xI9 X.K (.ref C) u=ς (b c)) (e1:bU X sc:=by rfl)
 (he:qa2 [a,e] X.env=(ξ,eval a X.env)::qa2 [e] X.env:=by rfl) (Z:qa2 [e] X.env=(ξ,eval e X.env)::qa2 [] X.env:=by rfl) (U:(qf2 pos (qa2 [e] X.env)).any (·.1)=ξ:=by rfl) :
  DO X (.Call (.Name "isinstance" p1) [a,e] [] pos) (hU cs b fa):=
 PE.mono (iQ h sT hm f9 (c8 ha (c8 hv ia Z) he) e1 he U) fun σ H Q ⟨Φ,δ,F,t,hK,en,O,k⟩=>by
  unfold hU at O;obtain⟨u,hu,O⟩:=bS O;cases u with
  |exc c l=>
   simp only[isX]at O;split at O
   .rename_i hc;cases O;refine⟨Φ,δ,F,_,hK,en,hu,fun w H' F' S st o hs=>?_⟩;obtain⟨x,C,D,fI,dx,vs,rfl,h1,h2,h3,h4,h5,h6,h7⟩:=(show RepX X.K F' c l w from o);obtain⟨D',g1,_,_,all⟩:=W.ex;obtain⟨C',g2,_,xi,_⟩:=all c hc;rw[h1]at g2;cases g2;exact⟨x,C,D,fI,dx,_,v,b c,rfl,st.fh _ _ h5,st.fh _ _ h6,h3,xi,fun u ru=>hk c C D fI u hc h1 h2 h3 ru,(k.step st).bl st.fh⟩
   .cases O
  |_=>cases O
theorem pf (W:XW X.K X.mg cs) (h:aO sc "isinstance"=θ) (hm:X.mg "isinstance"=ψ) (hy:aO sc y=θ) (hc:y∈cs) (ha:DO X a fa) (e1:bU X sc:=by rfl)
  (he:qa2 [a,.Name y p2] X.env=(ξ,eval a X.env)::qa2 [.Name y p2] X.env:=by rfl) (O:qa2 [.Name y p2] X.env=(ξ,eval (.Name y p2) X.env)::qa2 [] X.env:=by rfl) (U:(qf2 pos (qa2 [.Name y p2] X.env)).any (·.1)=ξ:=by rfl) :
  DO X (.Call (.Name "isinstance" p1) [a,.Name y p2] [] pos) (hU cs (· == y) fa):=by
 obtain⟨D,g1,_,_,all⟩:=W.ex;obtain⟨Y,g2,g3,_⟩:=all y hc;exact yb (v:=.ref Y) W h hm ha (gm hy ⟨_,g3,rfl⟩ e1) (fun c C D f u Z h1 h2 h3 ru=>by cases ru;exact W.own h3 h2 Z h1 hc g2) e1 he O U
theorem AI (W:XW X.K X.mg cs) (h:aO sc "isinstance"=θ) (hm:X.mg "isinstance"=ψ) (hy:aO sc "ValueError"=θ) (Z:X.mg "ValueError"=ψ) (hv:qd5 "ValueError"=ς (.type "ValueError")) (ha:DO X a fa) (e1:bU X sc:=by rfl)
  (he:qa2 [a,.Name "ValueError" p2] X.env=(ξ,eval a X.env)::qa2 [.Name "ValueError" p2] X.env:=by rfl) (O:qa2 [.Name "ValueError" p2] X.env=(ξ,eval (.Name "ValueError" p2) X.env)::qa2 [] X.env:=by rfl) (U:(qf2 pos (qa2 [.Name "ValueError" p2] X.env)).any (·.1)=ξ:=by rfl) :
  DO X (.Call (.Name "isinstance" p1) [a,.Name "ValueError" p2] [] pos) (hU cs (fun _=>θ) fa):=
 yb (v:=.ty "ValueError") W h hm ha (ql hy Z hv rfl e1) (fun c C D' f u hc' h1 h2 h3 ru=>by cases ru;exact XW.val h3) e1 he O U
theorem l6{D f:J5}(W:XW K mg cs)(x:XCl K C D f)(Z:cV K "DimError"=ς D)(U:c∈cs)(hC:cV K c=ς C):∀(ys:η Str)(O:η Value),(∀y∈ys,y∈cs)->Paired (fun y u=>∃Y,cV K y=ς Y/\u=qb7 Y) ys O->PySem.W.kitAny K (.ref C) O=ς (ys.contains c)
 |_,_,_,.nil=>rfl
 |y::ys,u::us,h,.cons ⟨Y,h1,h2⟩ r=>by
  subst h2;simp only[PySem.W.kitAny,W.own x Z U hC (h y (.head _)) h1,List.contains_cons];cases q:c==y with
  |true=>simp
  |false=>simpa using l6 W x Z U hC ys us (fun y hy=>h y (.tail _ hy)) r
theorem AJ{ys:η Str}{U:Nat}{t:TA}{pt:Pos}(W:XW X.K X.mg cs)(h:aO sc "isinstance"=θ)(hm:X.mg "isinstance"=ψ)(hys:∀y∈ys,y∈cs)(hz:ys.length<=qa7)(ha:DO X a fa)(hp:PA X es t)
 (ht:∀ σ H Q,(∀vs,(∀us,Vals vs us->Paired (fun y u=>∃Y,cV X.K y=ς Y/\u=qb7 Y) ys us)->vs.length=ys.length->Q vs H)->t σ H Q) (e1:bU X sc:=by rfl)
 (he:qa2 [a,.Tuple es U pt] X.env=(ξ,eval a X.env)::qa2 [.Tuple es U pt] X.env:=by rfl) (he2:qa2 [.Tuple es U pt] X.env=(ξ,eval (.Tuple es U pt) X.env)::qa2 [] X.env:=by rfl) (Z:(qf2 pos (qa2 [.Tuple es U pt] X.env)).any (·.1)=ξ:=by rfl) :
  DO X (.Call (.Name "isinstance" p1) [a,.Tuple es U pt] [] pos) (hU cs (fun c=>ys.contains c) fa):=
 PE.mono (iQ h qI hm f9 (c8 ha (c8 (wO hp) ia he2) he) e1 he Z) fun σ H Q ⟨Φ,δ,F,t,hK,en,O,k⟩=>by
  unfold hU at O;obtain⟨u,hu,O⟩:=bS O;cases u with
  |exc c l=>
   simp only[isX]at O;split at O
   .rename_i hc;cases O;refine⟨Φ,δ,F,_,hK,en,hu,fun w H' F' S st o hs=>ht _ _ _ fun vs hvs hl=>⟨by rw[hl];exact hz,fun b hb=>?_⟩⟩;obtain⟨x,C,D,fI,dx,vs',rfl,h1,h2,h3,h4,h5,h6,h7⟩:=(show RepX X.K F' c l w from o);obtain⟨D',g1,_,_,all⟩:=W.ex;obtain⟨C',g2,_,xi,_⟩:=all c hc;rw[h1]at g2;cases g2;have s2:=Step.made (o:=.t vs) st.fh hb;have k2:=(k.step (st.trans s2)).bl s2.fh;exact⟨x,C,D,fI,dx,_,b,vs,_,rfl,s2.hh _ _ (st.fh _ _ h5),s2.hh _ _ (st.fh _ _ h6),h3,xi,aC,fun us ru=>l6 W h3 h2 hc h1 ys us hys (hvs us ru),k2⟩
   .cases O
  |_=>cases O
end
structure DefX(K:xA9)(mg:Str->Option Value)(c:Str)(st:J8)(ps ns:List Str):Prop where
 ex:∃C D f fd,mg c=ς (.ref C)/\cV K c=ς C/\cV K "DimError"=ς D/\XCl K C D f/\(∀g∈ns,dZ K C g)/\Binds K fd ps []/\Fun K "__init__" (c++".__init__") st f fd
section
variable{P:qc0}{w:J6}{K:xA9}{mg:Str->ζ Value}{base:Heap}{c:Str}{st:J8}{ps N:η Str}{k:Nat}
theorem uj {g:Str} (D:DefX K mg c st ps [g]) (S:FnScope N ps (ae st)) (hp:ps.length=2)
  (hb:∀(f:J5)(cdv:Value)(A:qd8)(outer:η Env)(s:qa4)(H:Hp)(E:XK),PSs (dq CX0 P w K mg base N (c++".__init__") (ae st) f cdv A outer s H E).nox (bL st) (sX0 K (gF 0) (gF 1) g)):OkX P w K mg base c (k+1) [g]:=by
 obtain⟨C,Dd,f,fd,h1,h2,h3,h4,h5,h6,Z⟩:=D.ex;refine⟨C,Dd,f,fd,ps,h1,h2,h3,h4,h5,show 1<=qa7 by decide,h6,Z.ok S (fun vs H Q E h=>?_) fun cdv A outer s H vs Q E hr h=>⟨_,hb f cdv A outer s H E,?_⟩⟩
 .obtain⟨x,C,Dd,us,rfl,O,_⟩:=h;rw[hp,qc4,O];rfl
 .obtain⟨x,C',U,us,rfl,O,c1,c2,hx,q⟩:=h
  match us,O with
  |[u],_=>exact⟨u,rfl,.ref x,rfl,x,C',U,f,rfl,hx,c1,c2 g (.head _),fun dx hd ne=>q dx hd ne⟩
theorem Fw {g g':Str} (hg:g≠g') (D:DefX K mg c st ps [g,g']) (S:FnScope N ps (ae st)) (hp:ps.length=3)
  (hb:∀(f:J5)(cdv:Value)(A:qd8)(outer:η Env)(s:qa4)(H:Hp)(E:XK),PSs (dq CX0 P w K mg base N (c++".__init__") (ae st) f cdv A outer s H E).nox (bL st) (CF (sX0 K (gF 0) (gF 1) g) (sX1 K (gF 0) (gF 2) g'))):OkX P w K mg base c (k+1) [g,g']:=by
 obtain⟨C,Dd,f,fd,h1,h2,h3,h4,h5,h6,h7⟩:=D.ex;refine⟨C,Dd,f,fd,ps,h1,h2,h3,h4,h5,show 2<=qa7 by decide,h6,h7.ok S (fun vs H Q E h=>?_) fun cdv A outer s H vs Q E hr h=>⟨_,hb f cdv A outer s H E,?_⟩⟩
 .obtain⟨x,C,Dd,us,rfl,hl,_⟩:=h;rw[hp,qc4,hl];rfl
 .obtain⟨x,C',Z,us,rfl,hl,c1,c2,hx,q⟩:=h
  match us,hl with
  |[u,u'],_=>
   refine⟨u,rfl,.ref x,rfl,x,C',Z,f,rfl,hx,c1,c2 g (.head _),fun dx hd ne=>⟨u',rfl,.ref x,rfl,x,C',Z,f,dx,[(g,u)],rfl,aC,by rw[ax ne,aC],ne,show 1<900 by decide,c1,c2 g' (.tail _ (.head _)),?_⟩⟩;have:=q dx hd ne
   have e:upd (upd (upd H dx (XD dx [(g,u)])) x (XO x C' (ς dx))) dx (XD dx (j4 g' u' [(g,u)]))=upd (upd H dx (XD dx ([g,g'].zip [u,u']))) x (XO x C' (ς dx)):=by
    funext b;have:j4 g' u' [(g,u)]=[(g,u),(g',u')]:=by unfold j4;rw[if_neg hg];rfl
    rw[this];by_cases O:b=dx
    .subst O;rw[aC,ax ne,aC];rfl
    .rw[ax O];by_cases U:b=x
     .subst U;rw[aC,aC]
     .rw[ax U,ax U,ax O,ax O]
   show Q .non _;rw[e];exact this
end
def SameX(F F':Hp):Prop:=∀b o,F b=ς o->(∀ob φ,o≠.frz ob (.ext φ))->F' b=ς o
section
variable{K:xA9}{F F':Hp}
theorem SameX.rd(e:SameX F F')(h:Rd F a u)(h1:∀ob φ,u≠.frz ob (.ext φ))(h2:∀ φ,u≠.ext φ):Rd F' a u:=by
 rcases h with h|⟨o,h⟩
 .exact .inl (e _ _ h h1)
 .exact .inr ⟨o,e _ _ h fun ob φ z=>h2 φ (by cases z;rfl)⟩
end
def AK(P:qc0)(w:J6)(K:xA9)(mg:Str->ζ Value)(x:Str)(ks:η Key)(l:η Dt):Prop:=∃(a:J5)(J3:η (Key×V))(vs:η (Key×Value)),mg x=ς (.ref a)/\(a==qj1)=ξ/\J3.map (·.1)=ks/\(∀F,Reps K F l (J3.map (·.2)))/\KV J3 vs/\∀h:Heap,K.In h->h.DictOf (bE P w) a vs
def gSg(ks:η Key)(l:η Dt):Dt->ζ T:=fun k=>(lU k).bind fun k=>(b7 ks l k).map .f
def vSg(ks:η Key)(l:η Dt)(f:De->ζ Dt):De->ζ T:=fun δ=>(f δ).bind (gSg ks l)
def gSi(neg:Bool)(ks:η Key)(l:η Dt):Dt->ζ Bool:=fun k=>(lU k).map fun k=>if neg then !(b7 ks l k).isSome else(b7 ks l k).isSome
def fSi(neg:Bool)(ks:η Key)(l:η Dt)(f:De->ζ Dt):De->ζ Bool:=fun δ=>(f δ).bind (gSi neg ks l)
variable{J3:η (Key×V)}
section
variable{X:Cx}{b:J9}{fb:De->ζ Dt}{pos p:Pos}{x:Str}{sc:Ja}{ks:η Key}{l:η Dt}
def tSg(J3:η (Key×V))(ty:TE):TE:=fun σ H Q=>ty σ H fun y H1=>∃k v,y=kV k/\fP J3 k=ς v/\Q v H1
def tSi(neg:Bool)(J3:η (Key×V))(ty:TE):TE:=fun σ H Q=>ty σ H fun y H1=>∃k,y=kV k/\Q (.bl (if neg then !(fP J3 k).isSome else(fP J3 k).isSome)) H1
theorem Fx {vs:η (Key×Value)} {ty:TE} (h:aO sc x=θ) (hg:X.mg x=ς (.ref a)) (O:KV J3 vs) (hD:∀ h:Heap,X.K.In h->h.DictOf (bE X.prog X.w) a vs) (hb:PE X b ty) (hn:wX b) (e1:bU X sc:=by rfl) :
  PE X (.Subscript (.Name x p) b pos) (tSg J3 ty):=by
 intro J1 s σ H Q I q;have hx:PE X (.Name x p) (tC (.ref a)):=gm h ⟨_,hg,rfl⟩ e1;refine t6 PySem.F.slot_dict_getitem.lookup hn (thn (hx J1 s σ H (fun y H1=>y=.ref a/\tSg J3 ty σ H1 Q) I ⟨rfl,q⟩) fun u s1 ⟨y0,H1,I1,rx,e0,q1⟩=>thn (hb J1 s1 σ H1 _ I1 q1) fun iv s2 ⟨y,H2,Z,ry,k,v,ey,hv,q2⟩=>?_);subst e0 ey;obtain rfl:u=qb7 a:=rx;have dd:=hD _ Z.kIn;obtain⟨w',hw,U⟩:=RelO.some_of (v:=v) (o:=zc5 vs k) (by rw[<- hv];exact O.val k);exact⟨dd.typeIs,wpAny_getItem_of (jv ry) dd.mapOf hw ⟨v,H2,Z.tok _,U,q2⟩⟩
theorem DE {vs:η (Key×Value)} {ty:TE} (h:aO sc x=θ) (hg:X.mg x=ς (.ref a)) (hs:(a==qj1)=ξ) (O:KV J3 vs) (hD:∀ h:Heap,X.K.In h->h.DictOf (bE X.prog X.w) a vs) (hb:PE X b ty) (e1:bU X sc:=by rfl) :
  PC X .NotIn b (.Name x p) (tSi θ J3 ty):=by
 intro J1 s σ H Q I q;have hx:PE X (.Name x p) (tC (.ref a)):=gm h ⟨_,hg,rfl⟩ e1;refine thn (hb J1 s σ H _ I q) fun iv s1 ⟨y,H1,I1,ry,k,ey,q1⟩=>thn (hx J1 s1 σ H1 (fun y H2=>y=.ref a/\Q (.bl (!(fP J3 k).isSome)) H2) I1 ⟨rfl,q1⟩) fun u s2 ⟨y0,H2,U,Z,e0,q2⟩=>?_
 subst e0 ey;obtain rfl:u=qb7 a:=Z;have dd:=hD _ U.kIn;refine wpAny_notIn_of (jv ry) hs dd.mapOf ?_;rw[<- (O.val k).isSome_eq];exact⟨.bl (!(fP J3 k).isSome),H2,U.tok _,rfl,q2⟩
theorem Fy(h:aO sc x=θ)(hm:AK X.prog X.w X.K X.mg x ks l)(hb:DB X b fb)(e1:bU X sc:=by rfl)(hn:wX b:=by exact fun _ _=>rfl):DO X (.Subscript (.Name x p) b pos) (vSg ks l fb):=by
 obtain⟨a,J3,vs,hg,hs,rfl,hR,U,hD⟩:=hm;refine PE.mono (Fx h hg U hD hb hn e1) fun σ H Q ⟨Φ,δ,F,t,hK,en,O,k⟩=>?_
 unfold vSg at O;obtain⟨y,hy,O⟩:=bS O;obtain⟨kk,hk,O⟩:=bS O;obtain⟨d,hd,O⟩:=mS O;cases O;refine⟨Φ,δ,F,y,hK,en,hy,fun v H1 F1 st rv=>?_⟩;obtain⟨w,hw,Z⟩:=gv (hR F1) hd;exact⟨kk,w,fV rv hk,hw,(k.step st).leaf.here st.fh Z⟩
theorem FA{neg:Bool}(Z:∀F,Reps K F l (J3.map (·.2))){Q:Bool->Hp->Prop}(h:tTr K (fSi neg (J3.map (·.1)) l fb) σ H Q):tSi neg J3 (tBd K fb) σ H (fun v H'=>∃c,v=.bl c/\Q c H'):=by obtain⟨Φ,δ,F,t,U,en,O,k⟩:=h;unfold fSi at O;obtain⟨y,hy,O⟩:=bS O;obtain⟨kk,hk,O⟩:=mS O;subst O;refine⟨Φ,δ,F,y,U,en,hy,fun v H1 F1 st rv=>⟨kk,fV rv hk,_,rfl,?_⟩⟩;rw[<- k9 (Z F1)];exact k H1 F1 st
theorem DF(h:aO sc x=θ)(hm:AK X.prog X.w X.K X.mg x ks l)(hb:DB X b fb)(e1:bU X sc:=by rfl)(hk:qh7 .NotIn (.Name x p)=ξ:=by with_unfolding_all rfl):DT X (.Compare b [.NotIn] [.Name x p] pos) (fSi θ ks l fb):=by obtain⟨a,J3,vs,U,Z,rfl,hR,O,hD⟩:=hm;exact PT.mono (rW (DE h U Z O hD hb e1) hk) fun σ H Q q=>FA hR q
end
def sEnt(p:Params)(q:Str×Tok×V×Value):DictEntry:=⟨qf4 p q.1,.str q.1 q.2.1,q.2.2.2⟩
theorem AL{w:J6}{o:Obj}{ep:Nat}(O:η (Str×Tok×V×Value))(hm:mg x=ς (.ref a))(hl:K.lookup a=ς o)(hc:o.ExactDict)(hd:o.data=.dict (O.map (sEnt w.params)).toArray ep)
 (hs:(a==qj1)=ξ) (U:(O.map (·.1)).Nodup) (hv:∀r∈O,RelV r.2.2.1 r.2.2.2) (hR:∀F,Reps K F l (O.map (·.2.2.1))):AK P w K mg x (O.map fun r=>.inr r.1) l:=by
 refine⟨a,O.map fun r=>(.inr r.1,r.2.2.1),O.map fun r=>(.inr r.1,r.2.2.2),hm,hs,by rw[qj6];rfl,fun F=>by rw[qj6];exact hR F,?_,fun h X=>⟨o,_,ep,X a o hl,hc,hd,?_,?_,?_⟩⟩
 .clear hd U hR;induction O with
  |nil=>exact .nil
  |cons r O Z=>exact .cons ⟨rfl,hv r qa8⟩ (Z fun r hr=>hv r (qa3 _ hr))
 .intro e he;obtain⟨r,_,rfl⟩:=qc9.mp (List.mem_toArray.mp he);exact⟨.inr r.1,hZ P w r.1 r.2.1,rfl⟩
 .show Pairs (bE P w) (O.map (sEnt w.params)) _;clear hd U hR hv;induction O with
  |nil=>exact .nil
  |cons r O Z=>exact .cons (hZ P w r.1 r.2.1) rfl Z
 .rw[qj6];have:(O.map ((fun x:Key×Value=>x.1) ∘ fun r=>((qm8 r.1:Key),r.2.2.2)))=(O.map (·.1)).map qm8:=by rw[qj6];rfl
  rw[this];exact zd3.map _ (fun a b h q=>h (qr5 q)) U
variable{J4:Array Value}
theorem b0{o:Obj}(Z:K.lookup a=ς o)(hc:o.cls=.type "tuple")(hd:o.data=.seq J4 n)(O:Vals xs J4.toList)(U:xs.length<=qa7){F:Hp}(hx:Reps K F ds xs):Rep K F (.t ds) (.ref a):=by simp only[Rep];exact⟨a,xs,rfl,.inr ⟨o,J4,n,Z,hc,hd,by rw[<- qp5,<- O.length];exact U,O⟩,hx⟩
theorem iC{o:Obj}(hm:mg x=ς (.ref a))(Z:K.lookup a=ς o)(hc:o.cls=.type "tuple")(hd:o.data=.seq J4 n)(O:Vals xs J4.toList)(U:xs.length<=qa7)(hx:∀F,Reps K F ds xs):eN K mg x (.t ds):=⟨.ref a,⟨_,hm,rfl⟩,fun F=>b0 Z hc hd O U (hx F)⟩
theorem FB{ss:η J8}:DS X ss (fun _=>ψ):=fun J1 s σ H D I h=>by obtain⟨_,_,_,_,_,_,O,_⟩:=h;cases O
inductive RepsI(K:xA9)(F:Hp):List Dt->List V->Prop
 |nil:RepsI K F [] []
 |cons {d:Dt} {v:V} {l:List Dt} {vs:List V}:Rep K F d v->RepsI K F l vs->RepsI K F (d::l) (v::vs)
theorem AM{F:Hp}(h:RepsI K F l vs):Reps K F l vs:=by
 induction h with
 |nil=>simp[Reps]
 |cons h _ O=>simp only[Reps];exact⟨_,_,rfl,h,O⟩
variable{spos:Pos}
section
variable{X:Cx}{elt tg iter:J9}{ifs:η J9}{scope:Ja}{pos:Pos}{M:η Str}{src:η (ζ Nat)}{wi:TI}{g:TG}{tt:TT}{te:TE}
theorem uk(hN:X.N.Nodup)(Z:X.N[i]?=ς y)(hx:Loc X.env.scope y)(hf:X.fn y=θ∨X.env.scope.names.lookup y=ς .local)
 (S:CmpScope X.N X.env.scope scope M src) (hc:X.calm=θ) (hi:PI X tg iter wi) (hg:M.Nodup->∀C s H ex,PG (cxC X M scope C s H ex) tg g) (ht:∀C s H ex,PTs (cxC X M scope C s H ex) ifs tt)
 (he:∀C s H ex,PE (cxC X M scope C s H ex) elt te) (hs:∀x,qe5 iter X.env x=pure x)
 (hsw:qf7 (.ListComp elt [⟨tg,iter,ifs,0⟩] scope pos) (ς (.Name y py)) spos.line X.env=pure θ) :
  PS X (.Assign [.Name y py] (.ListComp elt [⟨tg,iter,ifs,0⟩] scope pos) spos) (vf (jw src wi g tt te) (jq i)):=by
 intro J1 s σ H D I h;rw[zb1 _ _ _ _ hsw];refine wB (qo1 (wB ?_));show wpAny _ X.A (do let _ <- qu2 (.ListComp elt [⟨tg,iter,ifs,0⟩] scope pos) scope X.env _ (newList []) ξ (eval iter X.env) (ς (qw7 (.Name y py) X.env))) _ _ s;refine wB (qf1 (m9 (use:=ς (qw7 (.Name y py) X.env)) (QQ:=fun _ s'=>∃O H',Inv X J1 O H' s'/\D.nx O H') S hc hi hg ht he hs I h ?_) (fun _ s' hq=>qb1 (qb1 hq)) fun _ _ e=>e);intro Dd C H' s' m IA U hn q;show wpAny _ X.A (qw7 (.Name y py) X.env (.ref Dd)) _ _ s';refine qw8 (jZ IA hN Z hx (v:=.ref Dd) rfl (fun s2 I2 hsb=>?_) hf);obtain⟨a,sb,ha⟩:=hsb
 have ne:C≠a:=by
  rcases ha with rfl|ha
  .exact U.2.1
  .exact qe7 (U.2.2.2.2.1 y a ha)
 exact⟨m,hn.sameBut sb ne,fun h3 sb3=>⟨_,H',I2.but U sb3,q⟩⟩
end
section
variable{X:Cx}{elt tg iter:J9}{ifs:η J9}{scope:Ja}{pos:Pos}{M:η Str}{src:η (ζ Nat)}{fi:De->ζ (η Dt)}{ft:De->ζ Bool}{fe:De->ζ Dt}{i:Nat}
theorem ul{sc:Ja}(h:dh sc N i y=θ)(hl:g9 sc y=θ)(U:N.Nodup)(S:CmpScope X.N X.env.scope scope M src)(hc:X.calm=θ)(hi:DIB X tg iter fi)(hg:M.Nodup->∀C s H ex,DG (cxC X M scope C s H ex) tg ts bb)
 (ht:∀C s H ex,DTs (cxC X M scope C s H ex) ifs ft) (he:∀C s H ex,DL (cxC X M scope C s H ex) elt fe) (hts:(ts.all fun k=>decide (src[k]?=ς ψ))=θ) (Z:∀x,qe5 iter X.env x=pure x:=by intro _;rfl)
 (e1:bU X sc:=by rfl) (e2:X.N=N:=by rfl) (hf:X.fn y=θ∨X.env.scope.names.lookup y=ς .local:=by exact .inl rfl) (hsw:qf7 (.ListComp elt [⟨tg,iter,ifs,0⟩] scope pos) (ς (.Name y py)) spos.line X.env=pure θ:=by rfl) :
  DS1 X (.Assign [.Name y py] (.ListComp elt [⟨tg,iter,ifs,0⟩] scope pos) spos) (aF i (bu src fi bb ft fe)):=by
 have e1:X.env.scope=sc:=e1;subst e1 e2;refine PS.mono (uk (g:=gD X.K ts bb) (tt:=tTr X.K ft) (te:=tL X.K fe) U (eV h) (gH hl) hf S hc hi (fun U C s H ex=>hg U C s H ex) (fun C s H ex=>ht C s H ex) (fun C s H ex=>he C s H ex) Z hsw) fun D σ H ⟨Φ,δ,F,o,hK,en,O,k⟩=>?_
 unfold aF at O;obtain⟨t,ht',O⟩:=mS O;cases O;exact oX S hts σ H _ ⟨Φ,δ,F,t,hK,en,ht',fun v H' F' S st o Z=>k _ F' H' (en.put st (hK▸o) Z i)⟩
theorem DH{f:De->ζ T}(h:tO K (toT (toD f)) σ H Q):tO K f σ H Q:=by obtain⟨Φ,δ,F,t,O,en,U,k⟩:=h;obtain⟨d,hd,rfl⟩:=mS U;obtain⟨u,Z,hd⟩:=bS hd;exact⟨Φ,δ,F,u,O,en,Z,KL.to hd k.leaf⟩
theorem iD{sc:Ja}(h:dh sc N i y=θ)(hl:g9 sc y=θ)(U:N.Nodup)(S:CmpScope X.N X.env.scope scope M src)(hc:X.calm=θ)(hi:DIB X tg iter fi)(hg:M.Nodup->∀C s H ex,DG (cxC X M scope C s H ex) tg ts bb)
 (ht:∀C s H ex,DTs (cxC X M scope C s H ex) ifs ft) (he:∀C s H ex,DL (cxC X M scope C s H ex) elt fe) (hts:(ts.all fun k=>decide (src[k]?=ς ψ))=θ) (Z:∀x,qe5 iter X.env x=pure x:=by intro _;rfl)
 (e1:bU X sc:=by rfl) (e2:X.N=N:=by rfl) (hf:X.fn y=θ∨X.env.scope.names.lookup y=ς .local:=by exact .inl rfl) (hsw:qf7 (.ListComp elt [⟨tg,iter,ifs,0⟩] scope pos) (ς (.Name y py)) spos.line X.env=pure θ:=by rfl) :
  DS1 X (.Assign [.Name y py] (.ListComp elt [⟨tg,iter,ifs,0⟩] scope pos) spos) (aF i (toT (toD (bu src fi bb ft fe)))):=by
 have e1:X.env.scope=sc:=e1;subst e1 e2;refine PS.mono (uk (g:=gD X.K ts bb) (tt:=tTr X.K ft) (te:=tL X.K fe) U (eV h) (gH hl) hf S hc hi (fun U C s H ex=>hg U C s H ex) (fun C s H ex=>ht C s H ex) (fun C s H ex=>he C s H ex) Z hsw) fun D σ H ⟨Φ,δ,F,o,hK,en,O,k⟩=>?_
 unfold aF at O;obtain⟨t,ht',O⟩:=mS O;cases O;exact oX S hts σ H _ (DH ⟨Φ,δ,F,t,hK,en,ht',fun v H' F' S st o Z=>k _ F' H' (en.put st (hK▸o) Z i)⟩)
end
def yc(x:Str)(n:Int):Str:=if n<1 then ql5 else if(n==1||x.length==0)=θ then x else⟨(qb2 n.toNat x.cps).foldl (· ++ ·) #[]⟩
def qJ:Dt->Dt->ζ T
 |.str x,.int n=>if n<1∨n=1 then(if 0<=n then ς (.f (.str (yc x n)))else ψ)else ψ
 |_,_=>ψ
def B6:R2:=fun x y H Q=>∃z n,x=.str z/\y=.int n/\(n=0∨n=1)/\Q (.str (yc z n)) H
theorem AN:OpR X (qk8 .Mult) B6:=by
 intro J1 s σ H x y v u Q I U O h;obtain⟨z,n,rfl,rfl,Z,q⟩:=h;obtain⟨t,rfl⟩:=U;obtain⟨t',rfl⟩:=O;rcases Z with rfl|rfl
 .exact PySem.P.mul_str_none Ω Ω ⟨.str (yc z 0),H,I.tok _,⟨_,rfl⟩,q⟩
 .refine PySem.P.mul_str Ω (fun _ h=>by cases h) (fun _ h=>by cases h) ?_;rw[if_neg Ω,if_pos (by rfl)];exact⟨.str (yc z 1),H,I,⟨t,by unfold yc;rw[if_neg Ω,if_pos (by rfl)]⟩,q⟩
theorem DI:R2D K B6 qJ:=by
 intro F H x y vx vy Q t fh Z U O k;unfold qJ at O;split at O<;>first|(cases O;done)|skip
 rename_i x n;split at O
 .split at O
  .cases O;cases Z;cases U;exact⟨_,_,rfl,rfl,Θ,k.str fh⟩
  .cases O
 .cases O
section
variable{X:Cx}
def qK(K:xA9):R2:=fun x y H Q=>∃a b ys,x=.ref a/\y=.ref b/\SqT K H a []/\SqT K H b ys/\Q (.ref b) H
theorem AO:OpR X (qk8 .Add) (qK X.K):=by
 intro J1 s σ H x y v u Q I rx ry h;obtain⟨a,b,ys,rfl,rfl,ha,hb,q⟩:=h;cases rx;cases ry;obtain⟨J4,r1,p1,_⟩:=I.tuple ha;obtain⟨Z,r2,p2,_⟩:=I.tuple hb;cases r1;obtain⟨⟨cls,dd,data,sl⟩,ho,hc,n,hd⟩:=id p1;obtain⟨⟨cls2,dd2,data2,sl2⟩,U,O,n2,hd2⟩:=id p2;simp only at hc hd O hd2;subst hc hd O hd2
 exact qv9 ⟨_,ho,rfl⟩ ⟨_,U,rfl⟩ qs6 qy6 PySem.F.slot_tuple_add PySem.F.entry_tuple_add (PySem.F.args_tuple_add_2 _ _)
  (tuple_addW0 a b #[] Z.toArray n n2 dd dd2 sl sl2 rfl) ⟨ho,U,⟨.ref b,H,I,rfl,q⟩⟩
def nH:Dt->Dt->ζ T
 |.t [],.t m=>ς (.f (.t m))
 |.t (d::l),.t (e::m)=>aB (.t (d::l)) (.t (e::m))
 |_,_=>ψ
theorem pi:OpR X (qk8 .Add) (fun x y H Q=>qK X.K x y H Q∨ny X.K x y H Q):=OpR.or AO aN
theorem sU:R2D K (fun x y H Q=>qK K x y H Q∨ny K x y H Q) nH:=by
 intro F H x y vx vy Q t fh Z U O k;unfold nH at O;split at O<;>first|(cases O;done)|skip
 .rename_i m;cases O;obtain⟨a,vs,rfl,h1,h2⟩:=Z;obtain⟨b,ws,rfl,h3,h4⟩:=U;simp only[Reps]at h2;subst h2;refine .inl ⟨a,b,ws,rfl,rfl,fh.tup h1,fh.tup h3,k.leaf.here fh ?_⟩;simp only[Rep];exact⟨b,ws,rfl,h3,h4⟩
 .exact .inr (bz F H _ _ vx vy Q t fh Z U O k)
end
def nI:De->ζ (η (Key×Dt)):=fun _=>ς []
def b9(fk fv:De->ζ Dt)(g:De->ζ (η (Key×Dt))):De->ζ (η (Key×Dt)):=fun δ=>(fk δ).bind fun k=>(lU k).bind fun k=>(fv δ).bind fun v=>(g δ).map fun l=>(k,v)::l
def jL(g:De->ζ (η (Key×Dt))):De->ζ T:=fun δ=>(g δ).bind fun l=>if l.length<=15/\(l.map (·.1)).Nodup then ς (.dct l)else ψ
theorem nJ:∀(O U:η (Key×V)),((U++O).map (·.1)).Nodup->ii U O=U++O
 |[],U,_=>by simp[ii]
 |p::O,U,h=>by
  have hp:eU U p.1 p.2=U++[(p.1,p.2)]:=by unfold eU;rw[if_neg];rw[qd1,ql9]at h;intro z;obtain⟨q,Z,e⟩:=qt1.mp z;exact h.2.2 q.1 (qv1 Z) p.1 Ξ (of_decide_eq_true e)
  show ii (eU U p.1 p.2) O=_;rw[hp,nJ O (U++[(p.1,p.2)]) (by simpa using h)];simp
def tPP(K:xA9)(g:De->ζ (η (Key×Dt)))(σ:St)(H:Hp)(Q:η (V×V)->Hp->Prop):Prop:=∃ Φ δ F l,Fm.K Φ=K/\En Φ δ σ F H/\g δ=ς l∧∀(J3:η (Key×V)) H' F',Step F H F' H'->J3.map (·.1)=l.map (·.1)->Reps K F' (l.map (·.2)) (J3.map (·.2))->Q (J3.map fun kv=>(kV kv.1,kv.2)) H'
structure DPPs(X:Cx)(pos:Pos)(keys:List (Option J9))(values:List J9)(g:De->Option (List (Key×Dt))):Prop where
 ex:∃trs,PPs X pos keys values trs/\∀ σ H Q,tPP X.K g σ H Q->oH trs σ H Q
section
variable{X:Cx}{pos:Pos}{k v:J9}{ks:η (ζ J9)}{vs:η J9}{fk fv:De->ζ Dt}{g:De->ζ (η (Key×Dt))}
theorem um:DPPs X pos [] [] nI:=⟨[],Ah,fun σ H Q ⟨Φ,δ,F,l,Z,U,O,q⟩=>by cases O;exact q [] H F (Step.refl U.fh) rfl (by simp[Reps])⟩
theorem cY(hk:DL X k fk)(hv:DL X v fv)(h:DPPs X pos ks vs g):DPPs X pos (ς k::ks) (v::vs) (b9 fk fv g):=by obtain⟨trs,h1,h2⟩:=h.ex;refine⟨_,w4 hk hv h1,fun σ H Q ⟨Φ,δ,F,l,Z,en,hg,q⟩=>?_⟩;unfold b9 at hg;obtain⟨kd,hkd,hg1⟩:=bS hg;obtain⟨kk,hkk,hg2⟩:=bS hg1;obtain⟨d,hd,hg3⟩:=bS hg2;obtain⟨r,hr,hg4⟩:=mS hg3;subst hg4;refine⟨Φ,δ,F,kd,Z,en,hkd,fun x H1 F1 st rx=>⟨Φ,δ,F1,d,Z,en.step st,hd,fun y H2 F2 U ry=>h2 _ _ _ ⟨Φ,δ,F2,r,Z,(en.step st).step U,hr,fun J3 H3 F3 O e1 r3=>?_⟩⟩⟩;have:=fV (RepB.of st.fh rx) hkk;subst this;refine q ((kk,y)::J3) H3 F3 ((st.trans U).trans O) (by simp[e1]) ?_;simp only[qb3,Reps];exact⟨y,_,rfl,ry.same O.ff,r3⟩
theorem uo(h:DPPs X pos ks vs g)(hall:ks.all (·.isSome)=θ)(hl:ks.length=vs.length)(h0:ks≠[])(h15:ks.length<=15):DO X (.Dict ks vs pos) (jL g):=by
 obtain⟨trs,h1,h2⟩:=h.ex;refine PE.mono (Ai h1 hall hl h0 h15) fun σ H Q ⟨Φ,δ,F,t,hK,en,hg,q⟩ p U=>h2 _ _ _ ?_
 unfold jL at hg;obtain⟨l,hl,O⟩:=bS hg;split at O<;>first|(cases O;done)|skip
 rename_i hc;cases O;have st0:=Step.made (o:=.dK []) en.fh U;refine⟨Φ,δ,F,l,hK,en.step st0,hl,fun J3 H2 F2 st e1 r=>?_⟩;have hp2:H2 p=ς (.dK []):=st.hh _ _ aC;have len:J3.length=l.length:=by simpa using congrArg zc2 e1
 have fp:F2 p=ψ:=st.keepN (en.fh.free U) aC;refine⟨hp2,J3,rfl,Θ,?_⟩;rw[nJ J3 [] (by rw[qk0,e1];exact hc.2),qk0];refine q _ _ F2 (fun b=>b=p) ⟨fun b o e=>?_,st.ff,fun b o e=>?_,fun b o e=>?_⟩ ⟨p,J3,rfl,rfl,aC,e1,r⟩ fun b z=>?_
 .have Z:=aP e U;rw[ax Z];exact st.hh _ _ (by rw[ax Z];exact e)
 .rw[ax (aP e fp)];exact st.fh _ _ e
 .rcases st.nw b o e with y|y
  .exact .inl y
  .by_cases Z:b=p
   .subst Z;exact .inr (.inl U)
   .rw[ax Z]at y;exact .inr y
 .subst z;exact⟨fp,U,_,aC,nofun⟩
end
section
variable{X:Cx}
def FC(K:xA9)(n:Nat)(t:TGs):TG:=fun v σ H Q=>∃a xs,v=.ref a/\SqL K H a xs/\xs.length=n/\t xs σ H Q
theorem DJ{k:Nat}{t:TGs}(hc:X.calm=θ)(h:PGs X es t)
 (hn:(qi4 es X.env).length=n:=by rfl) (U:(qi4 es X.env).findIdx? (·.1)=ψ:=by rfl):PG X (.Tuple es k pos) (FC X.K n t):=by
 intro J1 s σ H v u Q I r O;obtain⟨a,xs,e1,hq,hl,O⟩:=O;subst e1;cases r;obtain⟨J4,Z,ht,hz⟩:=I.list hq;rw[assign_Tuple];refine wB (qo1 ?_);unfold unpack;rw[show(qi4 es X.env).length=J4.toArray.size by simp[hn,<- hl,Z.length],U];refine wB (qi6 (PySem.W.kun_itemsOf (I.ok.hd hc) ht.isList fun h' hx=>?_));have I1:Inv X J1 σ H {s with heap:=h'}:=I.kept (t':=s.toks) fun b o e=>hx b o (qc8 (qa6 e)) e
 exact h J1 _ σ H xs _ Q I1 (by simpa using Z) O
def fH(n:Nat)(bs:η Dt->De->ζ De):Dt->De->ζ De:=fun d δ=>match d with
 |.e ds=>if ds.length=n then bs ds δ else ψ
 |_=>ψ
theorem l7{k:Nat}{bs:η Dt->De->ζ De}(hc:X.calm=θ)(h:DGs X es ts bs)
 (hn:(qi4 es X.env).length=n:=by rfl) (U:(qi4 es X.env).findIdx? (·.1)=ψ:=by rfl):DG X (.Tuple es k pos) ts (fH n bs):=PG.mono (DJ hc h hn U) fun v σ H Q ⟨Φ,δ,F,d,O,hK,Z,r,hd,q⟩=>by
 unfold fH at hd;split at hd
 .rename_i ds;split at hd
  .rename_i hl;simp only[Rep]at r;obtain⟨a,vs,e,h1,h2⟩:=r;exact⟨a,vs,e,Same.seq Z.fh h1,by rw[h2.length];exact hl,Φ,δ,F,ds,O,hK,Z,h2,hd,q⟩
  .cases hd
 .cases hd
end
def cB(sc:Ja)(N:η Str):Bool:=(qm6 N.length).all fun i=>match N[i]? with
 |some x=>dh sc N i x&&g9 sc x
 |none=>ξ
theorem nsB{sc:Ja}(h:cB sc N=θ)(e:N[i]?=ς x):dh sc N i x=θ/\g9 sc x=θ:=by have h1:=qg2.mp h i (zb7.mpr (gX e).1);rw[e]at h1;exact qt7.mp h1
theorem nsN{sc:Ja}(h:cB sc N=θ)(i:Nat)(e:N[i]?=ς x:=by rfl):dh sc N i x=θ:=(nsB h e).1
theorem nsL{sc:Ja}(h:cB sc N=θ)(i:Nat)(e:N[i]?=ς x:=by rfl):g9 sc x=θ:=(nsB h e).2
theorem pvN{sc:Ja}(i:Nat)(h:cB sc N=θ)(e:N[i]?=ς x:=by rfl)(e1:bU X sc:=by rfl)(e2:X.N=N:=by rfl):PE X (.Name x pos) (gF i):=pvD i (nsN h i e) e1 e2
abbrev Orc:=J5->Hp->η Dt->ζ T
set_option maxRecDepth 20000
def Rs(xs:Array Nat):Prop:=xs.toList.Pairwise (· < ·)
def once{K:Type}[DecidableEq K](O:η K)(k:K):η K:=if k∈O then O else O++[k]
def met{K:Type}[DecidableEq K](val:Nat->K)(i:Nat):η K:=((qm6 i).map val).foldl once []
set_option maxHeartbeats 400000
end L2
namespace HT
open PySem PySem.Spec PyProof.Rows
end HT
namespace L2
open PySem PySem.Spec PyProof.Rows
def AtF(K:xA9)(x:Str)(st:J8):Prop:=∃(f:J5)(oc:Value)(od an:ζ J5)(sl:Array (ζ Value))(kV O pm cd ct:Value),xB9 K qb5 x=ς (ς (.ref f))/\K.lookup f=ς ⟨oc,od,.func (xF9 x x (c9 st) (bL st) (ae st) .none kV O pm an cd ct),sl⟩/\xK9 K cd x=θ/\xE9 K (.ref f)=θ
section
variable{K:xA9}{mg:Str->ζ Value}{h:Heap}{x:Str}{st:J8}{ps:η Str}{c P:J5}
theorem AtF.mk{f:J5}{oc:Value}{od an:ζ J5}{sl:Array (ζ Value)}{kV O pm cd ct:Value}(a:xB9 K qb5 x=ς (ς (.ref f)))(l:K.lookup f=ς ⟨oc,od,.func (xF9 x x (c9 st) (bL st) (ae st) .none kV O pm an cd ct),sl⟩)(c:xK9 K cd x=θ)(k:xE9 K (.ref f)=θ):AtF K x st:=⟨f,oc,od,an,sl,kV,O,pm,cd,ct,a,l,c,k⟩
theorem AtF.df(A:AtF K x st)(X:K.In h)(G:h.Ns qb5 mg)(O:∀(kV doc pm:Value)(an:ζ J5)(cdv ct:Value)(us:η Value),us.length=ps.length->ze7 (xF9 x x (c9 st) (bL st) (ae st) .none kV doc pm an cdv ct) ⟨us,[]⟩=pure (ps.zip us)):DefF K mg x st ps:=by obtain⟨f,oc,od,an,sl,kV,U,pm,cd,ct,a,l,c,k⟩:=A;exact DefF.mk' X G a l c k O
end
variable{r:η V->Hp->VK->Prop}{gg:η Dt->ζ T}
section
variable{X:Cx}{e:J9}{es:η J9}{x:Str}{p pos:Pos}{fs:De->ζ (η Dt)}{i:Nat}
theorem pvX(h:dh X.env.scope X.N i x=θ):PE X (.Name x pos) (gF i):=pvD i h rfl rfl
theorem dbX(h:dh X.env.scope X.N i x=θ):DB X (.Name x pos) (vB i):=aj (pvX h)
theorem dlX(h:dh X.env.scope X.N i x=θ):DL X (.Name x pos) (vL i):=aR (pvX h)
theorem doF{k m n:Nat}{ps:η Str}{ff:η Dt->ζ T}(h:aO X.env.scope x=θ)(F:OkF X.prog X.w X.K X.mg X.base x k ps (spD X.K n ff))(U:Room m X.A)(hk:k<=m)(Z:DA X (e::es) fs)(hn:(e::es).length=n:=by rfl)(he:qa2 (e::es) X.env=(ξ,eval e X.env)::qa2 es X.env:=by rfl)(O:(qf2 pos (qa2 es X.env)).any (·.1)=ξ:=by rfl):DO X (.Call (.Name x p) (e::es) [] pos) (ag ff fs):=ce h F (U.mono hk) Z hn rfl he O
theorem doB{id:String}(h:aO X.env.scope x=θ)(hc:CallR X (.builtin id) r)(U:CRD X.K r gg)(hm:X.mg x=ψ)(hv:qd5 x=ς (.builtin id))(Z:DAB X (e::es) fs)(he:qa2 (e::es) X.env=(ξ,eval e X.env)::qa2 es X.env:=by rfl)(O:(qf2 pos (qa2 es X.env)).any (·.1)=ξ:=by rfl):DO X (.Call (.Name x p) (e::es) [] pos) (ag gg fs):=lP h hc U hm hv Z rfl he O
theorem doT{Ty:String}(h:aO X.env.scope x=θ)(hc:CallR X (.type Ty) r)(U:CRD X.K r gg)(hm:X.mg x=ψ)(hv:qd5 x=ς (.type Ty))(Z:DAB X (e::es) fs)(he:qa2 (e::es) X.env=(ξ,eval e X.env)::qa2 es X.env:=by rfl)(O:(qf2 pos (qa2 es X.env)).any (·.1)=ξ:=by rfl):DO X (.Call (.Name x p) (e::es) [] pos) (ag gg fs):=gr h hc U hm hv Z rfl he O
theorem dlG{d:Dt}(h:aO X.env.scope x=θ)(O:eN X.K X.mg x d):DL X (.Name x pos) (kD d):=jF h O rfl
end
end L2
namespace HT
open PySem PySem.Spec PyProof.Rows
end HT
namespace L2
open PySem PySem.Spec PyProof.Rows
variable{K:xA9}
section
variable{X:Cx}
def gSlW:Dt->ζ Int->ζ Int->ζ T
 |.t l,lo,hi=>if HT.sIx l.length 0 lo=0/\HT.sIx l.length l.length hi=l.length then ς (.f (.t l))else ς (.f (.t (fg l lo hi)))
 |x,lo,hi=>gSl x lo hi
def yd(K:xA9):R2:=fun x y H Q=>∃a b z xs,x=.ref a/\y=.ref b/\SqT K H a (z::xs)/\SqT K H b []/\Q (.ref a) H
theorem AQ:OpR X (qk8 .Add) (yd X.K):=by
 intro J1 s σ H x y v u Q I rx ry h;obtain⟨a,b,z,xs,rfl,rfl,ha,hb,q⟩:=h;cases rx;cases ry;obtain⟨J4,r1,p1,_⟩:=I.tuple ha;obtain⟨its2,r2,p2,_⟩:=I.tuple hb;cases r2;obtain⟨⟨cls,dd,data,sl⟩,ho,hc,n,hd⟩:=id p1;obtain⟨⟨cls2,dd2,data2,sl2⟩,U,O,n2,Z⟩:=id p2;simp only at hc hd O Z;subst hc hd O Z
 exact qv9 ⟨_,ho,rfl⟩ ⟨_,U,rfl⟩ qs6 qy6 PySem.F.slot_tuple_add PySem.F.entry_tuple_add (PySem.F.args_tuple_add_2 _ _)
  (tuple_addW1 a b J4.toArray #[] n n2 dd dd2 sl sl2 (by cases r1;simp) rfl) ⟨ho,U,⟨.ref a,H,I,rfl,q⟩⟩
def nK:Dt->Dt->ζ T
 |.t (d::l),.t []=>ς (.f (.t (d::l)))
 |x,y=>nH x y
theorem le:OpR X (qk8 .Add) (fun x y H Q=>(qK X.K x y H Q∨ny X.K x y H Q)∨yd X.K x y H Q):=OpR.or pi AQ
theorem pj:R2D K (fun x y H Q=>(qK K x y H Q∨ny K x y H Q)∨yd K x y H Q) nK:=by
 intro F H x y vx vy Q t fh rx ry U k;unfold nK at U;split at U
 .rename_i d l;cases U;obtain⟨a,vs,rfl,h1,h2⟩:=rx;obtain⟨b,ws,rfl,h3,Z⟩:=ry;simp only[Reps]at Z;subst Z;have O:=h2;simp only[Reps]at O;obtain⟨v,us,rfl,_,_⟩:=O;refine .inr ⟨a,b,v,us,rfl,rfl,fh.tup h1,fh.tup h3,k.leaf.here fh ?_⟩;simp only[Rep];exact⟨a,_,rfl,h1,h2⟩
 .exact .inl (sU F H _ _ vx vy Q t fh rx ry U k)
end
abbrev Hk3:=Str×Int×Bool
def h3(k:Hk3):Dt:=.t [.str k.1,.int k.2.1,.bl k.2.2]
open PySem
def qL:Dt->Dt->ζ T
 |.e l,.int n=>if 0<=n/\n<=1000/\l.length<=1000 then ς (.e (qb2 n.toNat l).flatten)else ψ
 |_,_=>ψ
theorem FD (a:Int) (t:Tok) (l:J5) (J4:Array Value) (n:Nat) (sl:Array (ζ Value)) :
  Meets (qn0.«int.__rmul__» ⟨[.int a t,.ref l],[]⟩) (fun _ R s=>s.heap.get? l=ς {cls:=.type "list",dict:=ψ,data:=.seq J4 n,slots:=sl}/\R (.ok (.ret Value.notImplemented)) s):=
 .of_wp fun prog w A R s h=>by obtain⟨U,g,d,tk,os⟩:=s;obtain⟨O,h⟩:=h;wp_walk;exact⟨_,rfl,h⟩
theorem mulL (l:J5) (J4:Array Value) (n:Nat) (sl:Array (ζ Value)) (x:Int) (u:Tok) (h0:¬(!Builtin.List.listFitsIndex x)=θ) (h1:¬J4.size*x.toNat > (2^63-1)/8) (h2:¬qq1 (J4.size*x.toNat)=θ) (hsz:(zb4 (fun U O=>U++O) #[] (qb2 (if J4.isEmpty=θ then 0 else x.toNat) J4)).size<=qa7) :
  Meets (qn0.«list.__mul__» ⟨[.ref l,.int x u],[]⟩) (fun _ R s=>s.heap.get? l=ς {cls:=.type "list",dict:=ψ,data:=.seq J4 n,slots:=sl}/\R (.ok (.ret (qb7 s.heap.objs.size))) {s with heap:=s.heap.push {cls:=qu4 "list",data:=Data.seq (zb4 (fun U O=>U++O) #[] (qb2 (if J4.isEmpty=θ then 0 else x.toNat) J4))},toks:=s.toks}):=
 .of_wp fun prog w A R s h=>by obtain⟨hp,g,d,tk,os⟩:=s;obtain⟨Z,h⟩:=h;wp_walk;refine wpAny_ite_false (decide_eq_false (qx6.mpr hsz)) ?_;wp_walk;exact⟨_,rfl,h⟩
def B7(K:xA9):R2:=fun x y H Q=>∃l k xs,x=.ref l/\y=.int k/\SqL K H l xs/\(0<=k/\k<=1000/\xs.length<=1000)∧∀p,H p=ψ->Q (.ref p) (upd H p (.e (qb2 k.toNat xs).flatten))
variable{X:Cx}
theorem AR:OpR X (qk8 .Mult) (B7 X.K):=by
 intro J1 s σ H x y v u Q I rx ry h;obtain⟨l,k,xs,rfl,rfl,hH,⟨h0,h1,hx⟩,q⟩:=h;cases rx;obtain⟨t,rfl⟩:=ry;obtain⟨J4,r,pl,_⟩:=I.list hH;obtain⟨⟨cls,dd,data,sl⟩,n,Z,hc,hd0,hd⟩:=pl;simp only at hc hd hd0;subst hc hd hd0;have hl:=r.length;have hk:k.toNat<=1000:=by lia
 have hm:J4.length*k.toNat<=1000*1000:=Nat.mul_le_mul Θ hk;have hs:qa7=16777216:=qr7;have hlen:J4.toArray.size*k.toNat<=qa7:=by rw[qb4];lia
 have O:zb4 (fun x1 x2=>x1++x2) #[] (qb2 (if J4.toArray.isEmpty=θ then 0 else k.toNat) J4.toArray)=(qb2 k.toNat J4).flatten.toArray:=by
  have f0:∀m:Nat,zb4 (fun x1 x2=>x1++x2) #[] (qb2 m J4.toArray)=(qb2 m J4).flatten.toArray:=fun m=>by have:=mX J4 m [];rw[qk0]at this;exact this
  rw[f0];cases J4 with
  |nil=>simp
  |cons a r'=>rw[if_neg Ξ]
 refine wpAny_binaryOp_repeat_ref (T:="list") (U:="int") Ω ⟨_,Z,rfl⟩ (fun s'=>typeIs_int s' k t) noFill_list_mul F.fills_int_mul F.slot_int_rmul repeat_list F.slot_int_index.lookup
  (qu7 F.slot_int_rmul (typeIs_int s k t) F.entry_int_rmul (F.args_int_rmul_2 _ _) (FD k t l J4.toArray n sl)
   ⟨Z,rfl,⟨_,Z,rfl⟩,qu7 F.slot_list_mul ⟨_,Z,rfl⟩ F.entry_list_mul (F.args_list_mul_2 _ _) (mulL l J4.toArray n sl k t (by
    rw[fitsIndex_both Θ Θ];exact qc2) (by
    have:(qa7:Nat)<=(2^63-1)/8:=by decide
    lia) (by
    rw[wV hlen];exact qc2) (by
    rw[O,qb4,t5,Nat.mul_comm];lia)) ⟨Z,?_⟩⟩)
 rw[O];exact⟨.ref _,_,I.lnew (t':=s.toks) (r.rep k.toNat) (by rw[t5,Nat.mul_comm,hl];lia),rfl,q _ I.fresh⟩
variable{l:η Dt}{vs:η V}
theorem Reps.rep{F:Hp}(h:Reps K F l vs):∀n:Nat,Reps K F (qb2 n l).flatten (qb2 n vs).flatten
 |0=>by simp[Reps]
 |n+1=>by rw[qi5,qi5,ql8,ql8];exact h.append (Reps.rep h n)
theorem DK:R2D K (B7 K) qL:=by
 intro F H x y vx vy Q t fh rx ry O k;unfold qL at O;split at O<;>first|(cases O;done)|skip
 split at O<;>cases O
 rename_i U;obtain⟨a,vs,rfl,h1,h2⟩:=rx;cases ry;exact⟨a,_,vs,rfl,rfl,h1,⟨U.1,U.2.1,by rw[h2.length];exact U.2.2⟩,fun p Z=>jB k fh (Reps.rep h2 _) Z⟩
variable{n:Nat}{ps N:η Str}{x y:Str}{pos py:Pos}{e:J9}
theorem AS{k:Nat}{ff:η Dt->ζ T}{sc:Ja}{p:Pos}{es:η J9}{fs:De->ζ (η Dt)}{cs:η Str}{m z:Str}{ir jn ic:Nat}{pa pd pz pm pas ph pt:Pos}(W:XW X.K X.mg cs)(h:aO sc x=θ)(F:OkFX X.prog X.w X.K X.mg X.base x k ps (spX X.K n ff))(hr:Room k X.A)(ha:DA X.nox (e::es) fs)
 (U:aO sc "DimError"=θ) (nd:N.Nodup) (hy:dh sc N ir y=θ) (ly:g9 sc y=θ) (hm:dh sc N jn m=θ) (lm:sc.names.lookup m=ς .local) (hz:dh sc N ic z=θ) (lz:g9 sc z=θ) (hij:jn≠ic)
 (hn:(e::es).length=n:=by rfl) (e1:bU X sc:=by rfl) (e2:X.N=N:=by rfl) (hst:X.stack=X.env::X.outer:=by rfl) (Z:X.env.frame=ς X.env.locals:=by rfl)
 (fy:X.fn y=θ∨X.env.scope.names.lookup y=ς .local:=by exact .inl rfl) (fz:X.fn z=θ∨X.env.scope.names.lookup z=ς .local:=by exact .inl rfl)
 (hs:qf7 (.Call (.Name x p) (e::es) [] pos) (ς (.Name y py)) pa.line X.env=pure ξ:=by rfl) (hs2:qf7 (.Name m pm) (ς (.Name z pz)) pas.line X.env=pure ξ:=by rfl)
 (he:qa2 (e::es) X.env=(ξ,eval e X.env)::qa2 es X.env:=by rfl) (O:(qf2 pos (qa2 es X.env)).any (·.1)=ξ:=by rfl) :
  DS1 X (.Try [.Assign [.Name y py] (.Call (.Name x p) (e::es) [] pos) pa] [.ExceptHandler (ς (.Name "DimError" pd)) (ς m) [.Assign [.Name z pz] (.Name m pm) pas] ph] [] [] pt) (sQ ff fs ir jn ic):=by
 obtain⟨D,h1,h2,t,_⟩:=W.ex;exact DC h F hr ha t h1 h2 U nd hy ly hm lm hz lz hij hn e1 e2 hst Z fy fz hs hs2 he O
def AtX(K:xA9)(c:Str)(st:J8)(ns:η Str)(C D:J5):Prop:=xB9 K qb5 c=ς (ς (.ref C))/\XIs K C/\(∀g∈ns,dZ K C g)∧∃(f:J5)(oc:Value)(od an:ζ J5)(sl:Array (ζ Value))(kV O pm cd ct:Value),XCl K C D f/\K.lookup f=ς ⟨oc,od,.func (xF9 "__init__" (c++".__init__") (c9 st) (bL st) (ae st) .none kV O pm an cd ct),sl⟩/\xK9 K cd (c++".__init__")=θ/\xE9 K (.ref f)=θ
variable{f:J5}{oc pm:Value}{od an:ζ J5}
section
variable{K:xA9}{mg:Str->ζ Value}{h:Heap}{c:Str}{st:J8}{ps ns:η Str}{C D:J5}
theorem AtX.mk{sl:Array (ζ Value)}{kV O cd ct:Value}{dd:ζ J5}{nm U:Str}{bs:η Value}{N:J5}{sn:η Str}{sub:η Value}{ab:Bool}{col:ζ Bool}{k0 k1 k2 k3 k5:ζ Value}(hq:q=c++".__init__")(a:xB9 K qb5 c=ς (ς (.ref C)))
 (l:K.lookup C=ς (zc6 nm U C N bs (.ref D::vtl) θ sn sub ab col dd k0 k1 k2 k3 k5 "ValueError.__new__")) (i:xD9 K (.ref C) "__init__"=ς (ς (.ref f))) (fn:PySem.W.isFn K (.ref f)=θ)
 (sa:xD9 K (.ref C) "__setattr__"=ς (ς (.builtin "object.__setattr__"))) (ga:xD9 K (.ref C) "__getattribute__"=ς (ς (.builtin "BaseException.__getattribute__"))) (gn:xD9 K (.ref C) "__getattr__"=ς ψ) (kp:xE9 K (.ref C)=θ)
 (ha:xD9 K (.ref C) "__class__"=ς (ς (.builtin "object.__class__"))) (Z:xU9 K (.builtin "object.__class__") "__get__"=ς (ς (.builtin "getset_descriptor.__get__"))) (ht:xV9 K (.builtin "object.__class__")=ς θ)
 (lf:K.lookup f=ς ⟨oc,od,.func (xF9 "__init__" q (c9 st) (bL st) (ae st) .none kV O pm an cd ct),sl⟩) (cf:xK9 K cd q=θ) (kf:xE9 K (.ref f)=θ) (na:∀g∈ns,dZ K C g):AtX K c st ns C D:=by
 subst hq;exact⟨a,⟨ha,Z,ht⟩,na,f,oc,od,an,sl,kV,O,pm,cd,ct,⟨⟨dd,nm,bs,N,U,sn,sub,ab,col,k0,k1,k2,k3,k5,l⟩,i,fn,sa,ga,gn,kp⟩,lf,cf,kf⟩
theorem gy(a:xB9 K qb5 c=ς (ς (.ref C))):cV K c=ς C:=by unfold cV;rw[a]
theorem XCl.kcl(x:XCl K C D f):L2.kcl K C=θ:=by
 obtain⟨dd,nm,bs,N,q,sn,sub,ab,col,k0,k1,k2,k3,k5,O⟩:=x.obj
 have h2:xP9 K (.ref C)=ς (.type "type"):=by show(K.lookup C).map (·.cls)=_;rw[O];rfl
 obtain⟨cd,h1,_⟩:=x.cls;unfold L2.kcl;rw[h1,h2];simp
theorem AtX.dx (A:AtX K c st ns C D) (X:K.In h) (G:h.Ns qb5 mg) (Z:xB9 K qb5 "DimError"=ς (ς (.ref D)))
  (hb:∀(kV doc pm:Value)(an:ζ J5)(cdv ct:Value)(us:η Value),us.length=ps.length->ze7 (xF9 "__init__" (c++".__init__") (c9 st) (bL st) (ae st) .none kV doc pm an cdv ct) ⟨us,[]⟩=pure (ps.zip us)):DefX K mg c st ps ns:=by
 obtain⟨a,xi,na,f,oc,od,an,sl,kV,dc,pm,cd,ct,x,O,U,kf⟩:=A;have F:=oI (st:=st) O U kf;exact⟨C,D,f,_,xC9 X G a,gy a,gy Z,x,na,F.binds hb,F⟩
theorem AtX.w(A:AtX K c st ns C D):xB9 K qb5 c=ς (ς (.ref C))/\XIs K C/\L2.kcl K C=θ:=by obtain⟨a,O,na,f,oc,od,an,sl,kV,Z,pm,cd,ct,x,U,cf,kf⟩:=A;exact⟨a,O,x.kcl⟩
theorem XW.of{L:η (Str×J5)}(X:K.In h)(G:h.Ns qb5 mg)(ad:xB9 K qb5 "DimError"=ς (ς (.ref D)))(t:XTop K D)(nd:(D::L.map (·.2)).Nodup)(w:∀p∈L,xB9 K qb5 p.1=ς (ς (.ref p.2))/\XIs K p.2/\L2.kcl K p.2=θ):XW K mg (L.map (·.1)):=by
 obtain⟨n1,n2⟩:=qg9.mp nd;refine⟨⟨D,gy ad,xC9 X G ad,t,fun c Z=>?_⟩,fun c Z c' hc' e=>?_⟩
 .obtain⟨p,O,rfl⟩:=qc9.mp Z;obtain⟨h1,h2,h3⟩:=w p O;exact⟨p.2,gy h1,xC9 X G h1,h2,h3,fun z=>n1 (z▸qc9.mpr ⟨p,O,rfl⟩)⟩
 .obtain⟨p,O,rfl⟩:=qc9.mp Z;obtain⟨p',U,rfl⟩:=qc9.mp hc';rw[gy (w p O).1,gy (w p' U).1]at e;have e2:p.2=p'.2:=qc1 e;obtain⟨i,hi,e3⟩:=qp9 O;obtain⟨j,hj,e4⟩:=qp9 U;have:i=j:=(List.getElem_inj (h₀:=by simpa using hi) (h₁:=by simpa using hj) n2).mp (by simp[e3,e4,e2]);subst this;rw[<- e3,<- e4]
end
theorem mK:qd5 "ValueError"=ς (.type "ValueError"):=χ
section
variable{X:Cx}
def AT:V->η V->Hp->VK->Prop:=fun x vs H Q=>∃(l:J5)(xs:η V)(i:Int)(k:Nat)(y:V),i=k/\x=.ref l/\vs=[.int i,y]/\H l=ς (.e xs)/\k<=xs.length/\xs.length<qa7/\Q .non (upd H l (.e (xs.take k++y::xs.drop k)))
theorem nM:∀{xs:η V}{us:η Value}(k:Nat),Vals xs us->Vals (xs.take k) (us.take k)
 |_,_,0,_=>by simp;exact .nil
 |_,_,k+1,.nil=>by simp;exact .nil
 |_,_,k+1,.cons a r=>by simp;exact .cons a (nM k r)
theorem nN:∀{xs:η V}{us:η Value}(k:Nat),Vals xs us->Vals (xs.drop k) (us.drop k)
 |_,_,0,h=>by simpa using h
 |_,_,k+1,.nil=>by simp;exact .nil
 |_,_,k+1,.cons a r=>by simp;exact nN k r
theorem vR:MtM X "list.insert" AT:=by
 intro J1 s σ H x vs v us Q I rx O h;obtain⟨l,xs,i,k,y,hi,rfl,rfl,hH,hk,Z,q⟩:=h;cases rx;cases O with
 |cons r1 O=>
 cases O with
 |cons ru O=>
 cases O;obtain⟨t,rfl⟩:=r1;obtain⟨z,J4,n,r,hl,e⟩:=I.lstM hH;rename_i u
 have U:¬(!Builtin.List.listFitsIndex i)=θ:=by unfold qn0.List.listFitsIndex;unfold qa7 at Z;simp;lia
 have sz:J4.toArray.size<=qa7:=by rw[qb4,<- hl];exact qs2 Z
 have mm:=PySem.AutoSeq1.list_insert_list_int_val_1 l J4.toArray n i t u U sz;refine qu7 F.slot_list_insert ⟨_,e,rfl⟩ F.entry_list_insert (F.args_list_insert_3 _ _ _) mm ⟨e,?_⟩;refine⟨.non,_,I.lset (its':=J4.take k++u::J4.drop k) hH e ?_ ((nM k r).append (.cons ru (nN k r))) ?_,rfl,q⟩
 .have hm:(if i<0 then(i+((J4.toArray.size:Nat):Int)).toNat else min i.toNat J4.toArray.size)=k:=by rw[if_neg Θ,qb4];lia
  dsimp only;rw[hm];apply Array.ext';simp;exact qg8 Ξ
 .simp;lia
end
section
variable{X:Cx}{o e1 e2:J9}{i:Nat}{fk fe:De->ζ Dt}{apos cpos pos:Pos}
def q58(i:Nat)(fk fe:De->ζ Dt):De->ζ Out:=fun δ=>match δ[i]? with
 |some (ς (.e l))=>(fk δ).bind fun k=>(fe δ).bind fun d=>match k with
  |.int j=>if 0<=j/\j.toNat<=l.length/\l.length<qa7 then ς (.nx (δ.set i (ς (.e (l.take j.toNat++d::l.drop j.toNat)))))else ψ
  |_=>ψ
 |_=>ψ
theorem Reps.takeK{F:Hp}:∀{l:η Dt}{vs:η V}(k:Nat),Reps K F l vs->Reps K F (l.take k) (vs.take k)
 |[],_,k,h=>by cases h;simp[Reps]
 |d::l,vs,0,h=>by simp[Reps]
 |d::l,vs,k+1,h=>by simp only[Reps]at h;obtain⟨v,ws,rfl,a,b⟩:=h;simp only[List.take_succ_cons,Reps];exact⟨v,_,rfl,a,Reps.takeK k b⟩
theorem Reps.dropK{F:Hp}:∀{l:η Dt}{vs:η V}(k:Nat),Reps K F l vs->Reps K F (l.drop k) (vs.drop k)
 |[],_,k,h=>by cases h;simp[Reps]
 |d::l,vs,0,h=>by simpa using h
 |d::l,vs,k+1,h=>by simp only[Reps]at h;obtain⟨v,ws,rfl,a,b⟩:=h;simpa using Reps.dropK k b
theorem vS (hx:PE X o (gF i)) (hk:DL X e1 fk) (he:DL X e2 fe)
  (hbase:qg5 o "insert" X.env (eval o X.env)=eval o X.env:=by rfl)
  (hfew:((qf2 cpos (qa2 [e1,e2] X.env)).all (fun x=>!x.1)&&(qs1 cpos (ql2 [] X.env)).all (fun x=>x.1.isSome)
   && decide ([e1,e2].length+([]:η qk3).length+(if([]:η qk3).isEmpty then 0 else 1)<30))=θ:=by rfl)
  (Z:(apos.endLine==cpos.line)=θ:=by rfl) (hs:qa2 [e1,e2] X.env=(ξ,eval e1 X.env)::qa2 [e2] X.env:=by rfl) (hs2:qa2 [e2] X.env=(ξ,eval e2 X.env)::qa2 [] X.env:=by rfl) (U:(qf2 cpos (qa2 [e2] X.env)).any (·.1)=ξ:=by rfl)
  (hsw:qf7 (.Call (.Attribute o "insert" apos) [e1,e2] [] cpos) ψ pos.line X.env=pure ξ:=by rfl) :
  DS1 X (.Expr (.Call (.Attribute o "insert" apos) [e1,e2] [] cpos) pos) (q58 i fk fe):=
 PS.mono (oq (wU PySem.F.plainAttrs_list PySem.F.slot_list_insert PySem.F.type_list_insert vR hx (c8 hk (c8 he ia hs2) hs) hbase hfew Z hs U) hsw) fun D σ H ⟨Φ,δ,F,ot,hK,en,O,k⟩=>by
  unfold q58 at O;split at O<;>first|cases O;done|skip
  rename_i l hl;obtain⟨dk,hdk,O⟩:=bS O;obtain⟨d,hd,O⟩:=bS O;cases dk with
  |int j=>
   dsimp only at O;split at O<;>first|cases O;done|skip
   rename_i hz;obtain⟨z0,z1,z2⟩:=hz;cases O;obtain⟨a,vs,hv,h1,h2⟩:=en.ownL hl;refine⟨.ref a,hv,.inl ⟨rfl,vs,.inl (.inl h1)⟩,Φ,δ,F,.int j,hK,en,hdk,fun v H1 F1 st rv=>?_⟩;have en1:=en.step st;refine⟨Φ,δ,F1,d,hK,en1,hd,fun v2 H2 F2 st2 rv2=>?_⟩;have en2:=en1.step st2;have h1':=st2.hh _ _ (st.hh _ _ h1);have ej:v=.int j:=rv;subst ej;refine⟨a,vs,j,j.toNat,v2,Θ,rfl,rfl,h1',by rw[h2.length];exact z1,by rw[h2.length];exact z2,?_⟩;refine k σ F2 _ (en2.poke hl hv rfl fun S sa=>⟨a,vs.take j.toNat++v2::vs.drop j.toNat,rfl,sa,aC,?_⟩);have h2':=(h2.same st.ff).same st2.ff;have:=(Reps.takeK j.toNat h2').append ((Reps.one (hK▸rv2)).append (Reps.dropK j.toNat h2'));simpa using this
  |_=>cases O
end
section
variable{X:Cx}{o:J9}{fk:De->ζ Dt}{apos cpos:Pos}
def AU:Dt->Dt->Dt->ζ T
 |.dct ks l,k,x=>(lU k).map fun k=>.f ((b7 ks l k).getD x)
 |_,_,_=>ψ
def vT(fo fk O:De->ζ Dt):De->ζ T:=fun δ=>(fo δ).bind fun d=>(fk δ).bind fun k=>(O δ).bind fun x=>AU d k x
theorem AV {m:Nat} {a b:J9} {fo fx:De->ζ Dt} (hr:Room m X.A) (ho:DB X o fo) (ha:DB X a fk) (hb:DL X b fx)
  (base:qg5 o "get" X.env (eval o X.env)=eval o X.env:=by rfl)
  (few:((qf2 cpos (qa2 [a,b] X.env)).all (fun x=>!x.1)&&(qs1 cpos (ql2 [] X.env)).all (fun x=>x.1.isSome)
   && decide (([a,b]:η J9).length+([]:η qk3).length+(if([]:η qk3).isEmpty then 0 else 1)<30))=θ:=by rfl)
  (line:(apos.endLine==cpos.line)=θ:=by rfl) (trees:qf2 cpos (qa2 [a,b] X.env)=[(ξ,eval a X.env),(ξ,eval b X.env)]:=by rfl) :
  DO X (.Call (.Attribute o "get" apos) [a,b] [] cpos) (vT fo fk fx):=PE.mono (w6 (m4 hr) ho ha hb ⟨base,few,line,trees⟩) fun σ H Q ⟨Φ,δ,F,t,hK,en,hg,k⟩=>by
 unfold vT at hg;obtain⟨d,hd,hg1⟩:=bS hg;clear hg;obtain⟨kd,hkd,hg2⟩:=bS hg1;clear hg1;obtain⟨x,hx,O⟩:=bS hg2;clear hg2;unfold AU at O;split at O<;>first|(cases O;done)|skip
 rename_i ks l;obtain⟨kk,hkk,hg4⟩:=mS O;clear O;subst hg4;refine⟨Φ,δ,F,_,hK,en,hd,fun v H1 F1 st rv=>?_⟩;obtain⟨a,J3,rfl,r1,r2,r3⟩:=rv;subst r2;refine⟨a,rfl,.inl ⟨J3,r1⟩,Φ,δ,F1,kd,hK,en.step st,hkd,fun y H2 F2 st2 ry=>⟨Φ,δ,F2,x,hK,(en.step st).step st2,hx,fun z H3 F3 U rz=>?_⟩⟩;have:=fV ry hkk;subst this;refine⟨fP J3 kk,.inl ⟨J3,kk,(st2.trans U).hh.rd r1,rfl,rfl⟩,?_⟩;have s3:=(st.trans st2).trans U;cases Z:b7 (J3.map (·.1)) l kk with
 |none=>
  have e:fP J3 kk=ψ:=by
   have:=k9 (k:=kk) r3;rw[Z]at this;cases q:fP J3 kk with
   |none=>rfl
   |some _=>rw[q]at this;cases this
  rw[e];exact((k.step s3).leaf).here U.fh (by rw[Z];exact rz)
 |some d'=>obtain⟨u,hu,ru⟩:=gv r3 Z;rw[hu];exact((k.step s3).leaf).here U.fh (by rw[Z];exact ru.same (st2.trans U).ff)
end
section
variable{X:Cx}{cs:η Str}{sc:Ja}{p1 pos:Pos}{a:J9}{fa:De->ζ T}
theorem AW {U O:Str} {q1 q2 pt:Pos} {x1:Nat} (W:XW X.K X.mg cs) (h:aO sc "isinstance"=θ) (hm:X.mg "isinstance"=ψ) (h1:aO sc U=θ) (h2:aO sc O=θ) (Z:∀ y∈[U,O],y∈cs) (ha:DO X a fa) (e1:bU X sc:=by rfl)
  (s1:qa2 [.Name U q1,.Name O q2] X.env=(ξ,eval (.Name U q1) X.env)::qa2 [.Name O q2] X.env:=by rfl) (s2:qa2 [.Name O q2] X.env=(ξ,eval (.Name O q2) X.env)::qa2 [] X.env:=by rfl)
  (he:qa2 [a,.Tuple [.Name U q1,.Name O q2] x1 pt] X.env=(ξ,eval a X.env)::qa2 [.Tuple [.Name U q1,.Name O q2] x1 pt] X.env:=by rfl) (he2:qa2 [.Tuple [.Name U q1,.Name O q2] x1 pt] X.env=(ξ,eval (.Tuple [.Name U q1,.Name O q2] x1 pt) X.env)::qa2 [] X.env:=by rfl) (hpl:(qf2 pos (qa2 [.Tuple [.Name U q1,.Name O q2] x1 pt] X.env)).any (·.1)=ξ:=by rfl) :
  DO X (.Call (.Name "isinstance" p1) [a,.Tuple [.Name U q1,.Name O q2] x1 pt] [] pos) (hU cs (fun c=>[U,O].contains c) fa):=by
 obtain⟨D,_,_,_,all⟩:=W.ex;obtain⟨Y1,a1,b1,_⟩:=all U (Z _ (.head _));obtain⟨Y2,a2,b2,_⟩:=all O (Z _ (.tail _ (.head _)));refine AJ W h hm Z (show 2<=qa7 by decide) ha (c8 (gm (v:=.ref Y1) h1 ⟨_,b1,rfl⟩ e1) (c8 (gm (v:=.ref Y2) h2 ⟨_,b2,rfl⟩ e1) ia s2) s1) (fun σ H Q k=>?_) e1 he he2 hpl;refine k [.ref Y1,.ref Y2] (fun us r=>?_) rfl;cases r with
 |cons r1 r=>cases r with
  |cons r2 r=>cases r;exact .cons ⟨Y1,a1,r1⟩ (.cons ⟨Y2,a2,r2⟩ .nil)
end
def fE:Dt->η Dt->ζ T
 |.str x,[.str y,.str z]=>if x.length+(x.length+1)*z.length<=16777216 then ς (.f (.str (Txt.replace x y z)))else ψ
 |_,_=>ψ
def ja(bb:Dt->De->ζ De)(ft:De->ζ Bool)(ff:η Dt->ζ T)(fs:De->ζ (η Dt))(δ:De):η Dt->ζ (η Dt ⊕ T)
 |[]=>ς (.inl [])
 | d::r=>(bb d δ).bind fun O=>(ft O).bind fun b=>if b then((fs O).bind ff).bind fun t=>match t with
     |.rse c l=>ς (.inr (.rse c l))
     |t=>t.d.bind fun y=>(ja bb ft ff fs δ r).map fun q=>match q with
      |.inl ys=>.inl (y::ys)
      |.inr t=>.inr t
  else ja bb ft ff fs δ r
def sXC(i:Nat)(src:η (ζ Nat))(fi:De->ζ (η Dt))(bb:Dt->De->ζ De)(ft:De->ζ Bool)(ff:η Dt->ζ T)(fs:De->ζ (η Dt)):De->ζ Out:=fun δ =>
 (fi δ).bind fun ds=>if ds.length<=qa7 then(ja bb ft ff fs (dC src δ) ds).bind fun q=>match q with
  |.inl ys=>ς (.nx (δ.set i (ς (.e ys))))
  |.inr t=>ς (.rt t)
 else ψ
abbrev pDt(p:Bool×Str):Dt:=.e [.bl p.1,.str p.2]
def asP:Dt->ζ (Bool×Str)
 |.e [.bl b,.str s]=>ς (b,s)
 |_=>ψ
def sV:η Dt->ζ (η (Bool×Str))
 |[]=>ς []
 |d::l=>(asP d).bind fun p=>(sV l).map fun r=>p::r
theorem ye{d:Dt}{p:Bool×Str}(h:asP d=ς p):d=pDt p:=by
 unfold asP at h;split at h
 .cases h;rfl
 .cases h
theorem uq:∀{l:η Dt}{ps:η (Bool×Str)},sV l=ς ps->l=ps.map pDt
 |[],ps,h=>by cases h;rfl
 |d::l,ps,h=>by rw[sV]at h;obtain⟨p,U,h⟩:=bS h;obtain⟨r,O,rfl⟩:=mS h;rw[ye U,uq O];rfl
theorem B8(a b:Bool×Str):peq (pDt a) (pDt b)=decide (a=b):=by obtain⟨a1,U⟩:=a;obtain⟨Z,O⟩:=b;rw[qe1];simp[pDt,peq,peqs]
theorem DM(a b:Bool×Str):fF (pDt a) (pDt b)=θ:=by simp[pDt,fF,cmpbs,db]
theorem DN(a:Bool×Str):ji (pDt a)<=1:=by simp[pDt,ji,deeps]
def rInP(K:xA9)(neg:Bool):R2:=fun x y H Q=>∃(a:J5)(vs:η V)(ps:η (Bool×Str))(p:Bool×Str),y=.ref a/\SqL K H a vs/\Reps K H (ps.map pDt) vs/\Rep K H (pDt p) x/\Q (.bl (if neg then !decide (p∈ps)else decide (p∈ps))) H
section
variable{X:Cx}{J1:η (J5×Obj)}{s:qa4}{σ:St}{H:Hp}
open Classical in
theorem yf {A:qd8} {J4:η Value} {ps:η (Bool×Str)} {p:Bool×Str} {x:V} {u:Value} (I:Inv X J1 σ H s) (hu:A.units+1<cLine) (r:Vals vs J4) (hr:Reps X.K H (ps.map pDt) vs) (hx:Rep X.K H (pDt p) x) (rx:RelV x u) :
  ∃e:Value->Bool,(∀y,y∈J4.toArray->qf5 A s y u (e y))/\J4.toArray.any e=decide (p∈ps):=by
 have at':∀y∈J4,∃(k:Bool×Str)(v:V),k∈ps/\Rep X.K H (pDt k) v/\RelV v y:=fun y O=>by obtain⟨j,Z,rfl⟩:=qp9 O;obtain⟨d,v,h1,h2,h3⟩:=cR hr r Z;rw[qd3]at h1;obtain⟨k,hk,rfl⟩:=mS h1;exact⟨k,v,qo2 hk,h2,h3⟩
 have one:∀{y:Value}{k k':Bool×Str}{v U:V},Rep X.K H (pDt k) v->RelV v y->Rep X.K H (pDt k') U->RelV U y->k=k':=fun {y k k' v U} a1 a2 b1 b2=>by have:=a2.inj b2;subst this;have:=k4 I _ _ _ a1 b1;rw[B8]at this;exact of_decide_eq_true this
 refine⟨fun y=>decide (∃v,Rep X.K H (pDt p) v/\RelV v y/\p∈ps/\y∈J4),fun y O=>?_,?_⟩
 .have O:y∈J4:=by simpa using O
  obtain⟨k,v,hk,h1,h2⟩:=at' y O
  have e:=xr I 1 (A:=A) (d:=pDt k) (e:=pDt p) (DN k) hu (DM k p) h1 hx h2 rx;rw[B8]at e
  have:decide (k=p)=decide (∃v,Rep X.K H (pDt p) v/\RelV v y/\p∈ps/\y∈J4):=by
   rw[decide_eq_decide];constructor
   .intro z;subst z;exact⟨v,h1,h2,hk,O⟩
   .rintro⟨U,g1,g2,_,_⟩;exact one h1 h2 g1 g2
  rw[this]at e;exact e
 .rw[qe1];simp only[List.any_toArray,qt1,decide_eq_true_eq];constructor
  .rintro⟨y,_,v,_,_,h,_⟩;exact h
  .intro h;obtain⟨j,Z,e⟩:=qp9 h
   have hl:j<J4.length:=by rw[<- r.length,hr.length,qa5];exact Z
   obtain⟨d,v,h1,h2,h3⟩:=cR hr r hl;rw[qd3,gQ Z,e]at h1;cases h1;exact⟨J4[j],qm5 hl,v,h2,h3,h,qm5 hl⟩
theorem DQ{k:Nat}(hr:Room k X.A)(O:X.K=K):OpR X (qe4 .In) (rInP K ξ):=by subst O;intro J1 s σ H x y v u Q I rx ry h;obtain⟨p,vs,kss,ks,rfl,hq,h1,h2,q⟩:=h;cases ry;obtain⟨J4,r,U,hz⟩:=I.list hq;have hu:=hr.units;obtain⟨e,h3,Z⟩:=yf (A:=X.A.in1) I (show X.A.in1.units+1<cLine by have:X.A.in1.units<=X.A.units+1:=(by first|exact nL _|exact zc7 _);lia) r h1 h2 rx;refine SeqAt.in_listAt e U.isList h3 ⟨.bl _,H,I,rfl,?_⟩;rw[Z];exact q
end
def yg:Dt->Dt->ζ T
 |x,.e l=>(asP x).bind fun p=>(sV l).map fun ps=>.f (.bl (decide (p∈ps)))
 |_,_=>ψ
theorem FE:R2D K (rInP K ξ) yg:=by
 intro F H x y vx vy Q t fh rx ry O k;unfold yg at O;split at O<;>first|(cases O;done)|skip
 rename_i l;obtain⟨p,Z,O⟩:=bS O;obtain⟨ps,U,O⟩:=mS O;cases O;have e1:=ye Z;have e2:=uq U;subst e1 e2;obtain⟨a,vs,rfl,h1,h2⟩:=ry;exact⟨a,vs,ps,p,rfl,h1,h2.same fh,rx.rep fh,k.bl fh⟩
abbrev sIt(x:Str)(t:Tok):Obj:={cls:=.type "str_ascii_iterator",data:=.fields #[.str x t,.int 0 0]}
abbrev ys2(h:Heap)(b:Bool)(l:J5)(x:Str)(t:Tok):Heap:=(zq1 h b l).push (sIt x t)
abbrev ys3(h:Heap)(b:Bool)(l:J5)(x:Str)(t:Tok):Heap:=(ys2 h b l x t).push {cls:=.type "tuple",data:=.seq #[.ref h.objs.size,.ref (zq1 h b l).objs.size]}
abbrev ys4(h:Heap)(b:Bool)(l:J5)(x:Str)(t:Tok):Heap:=(ys3 h b l x t).push {cls:=.type "tuple",data:=.seq #[.none,.none]}
abbrev ys5(h:Heap)(b:Bool)(l:J5)(x:Str)(t:Tok):Heap:=(ys4 h b l x t).push {cls:=.type "zip",data:=.fields #[.none,.bool ξ,.bool ξ,.ref (ys2 h b l x t).objs.size,.ref (ys3 h b l x t).objs.size]}
section
variable{prog:qc0}{w:J6}{A:qd8}{E:Value->qa4->Prop}{s:qa4}
theorem sW (b:Bool) (l:J5) (x:Str) (t:Tok) (xs:Array Value) (U:x.cps.all (· < 128)=θ):Meets (qn0.«zip.__new__» ⟨[.type "zip",.ref l,.str x t],[]⟩) (fun _ R s=>CoB b s.heap l xs∧
      R (.ok (.ret (.ref (ys4 s.heap b l x t).objs.size))) {s with heap:=ys5 s.heap b l x t}):=
 .of_wp fun prog w A R s h=>by obtain⟨hp,g,d,tk,os⟩:=s;obtain⟨Z,h⟩:=h;have O:=sub_zip;have hL:CoB b (zc8 ⟨hp,g,d,tk,os⟩) l xs:=Z;wp_walk using pb hL,wpAny_pyIter_ascii U;exact⟨_,rfl,h⟩
theorem vU{b:Bool}{l:J5}{t:Tok}{xs:Array Value}{Q:Value->qa4->Prop}(ha:x.cps.all (· < 128)=θ)(hl:CoB b s.heap l xs)
 (q:∀h',IsZip h' (s.heap.objs.size+4) (s.heap.objs.size+2) (s.heap.objs.size+3) .none->qm4 h' (s.heap.objs.size+2) (.ref s.heap.objs.size) (.ref (s.heap.objs.size+1))→
 qm4 h' (s.heap.objs.size+3) .none .none->ItB b h' s.heap.objs.size l 0->h'.IsStrIter (s.heap.objs.size+1) "str_ascii_iterator" x t 0->h'.objs.size=s.heap.objs.size+5→
 (∀a o,s.heap.get? a=ς o->h'.get? a=ς o)->Q (.ref (s.heap.objs.size+4)) {s with heap:=h'}):wpAny (model prog w) A (call (.type "zip") [.ref l,.str x t]) Q E s:=by
 refine ze4 F.called_zip Ω (F.typeCall_zip_2 _ _) (F.newCall_zip_2 _ _) (fun obj=>F.args_object_init_3 obj _ _) F.entry_zip_new (sW b l x t xs ha) ⟨hl,?_⟩;have O:(zq1 s.heap b l).objs.size=s.heap.objs.size+1:=qf8 ..;have z2:(ys2 s.heap b l x t).objs.size=s.heap.objs.size+2:=by rw[show ys2 s.heap b l x t=(zq1 s.heap b l).push _ from rfl,qf8,O]
 have z3:(ys3 s.heap b l x t).objs.size=s.heap.objs.size+3:=by rw[show ys3 s.heap b l x t=(ys2 s.heap b l x t).push _ from rfl,qf8,z2]
 have U:(ys4 s.heap b l x t).objs.size=s.heap.objs.size+4:=by rw[show ys4 s.heap b l x t=(ys3 s.heap b l x t).push _ from rfl,qf8,z3]
 have z5:(ys5 s.heap b l x t).objs.size=s.heap.objs.size+5:=by rw[show ys5 s.heap b l x t=(ys4 s.heap b l x t).push _ from rfl,qf8,U]
 have Z:(ys5 s.heap b l x t).get? (ys4 s.heap b l x t).objs.size=ς _:=qb6 _ rfl;have u4:(ys5 s.heap b l x t).get? (ys3 s.heap b l x t).objs.size=ς _:=gP _ (qb6 _ rfl);have u3:(ys5 s.heap b l x t).get? (ys2 s.heap b l x t).objs.size=ς _:=gP _ (gP _ (qb6 _ rfl));have v2:(ys5 s.heap b l x t).get? (zq1 s.heap b l).objs.size=ς _:=gP _ (gP _ (gP _ (qb6 _ rfl)));have v1:(ys5 s.heap b l x t).get? s.heap.objs.size=ς _:=gP _ (gP _ (gP _ (gP _ (qb6 _ rfl))));show _/\_;rw[z2,z3,U]at Z;rw[O,z2]at u3;rw[z3]at u4;rw[O]at v2;rw[U];refine⟨⟨_,Z,rfl⟩,q _ Z u3 u4 ?_ ⟨_,v2,rfl,rfl⟩ z5 fun a o e=>gP _ (gP _ (gP _ (gP _ (gP _ e))))⟩;cases b with
 |true=>exact⟨_,v1,rfl,rfl⟩
 |false=>exact⟨_,v1,rfl,rfl⟩
end
section
variable{X:Cx}{J1:η (J5×Obj)}{σ:St}{H:Hp}{s:qa4}{a:J5}{xs:η V}{b:Bool}
theorem ur{l z ti tO i1 i2:J5}(J:Inv X J1 σ H s)(hd:[z,ti,tO,i1,i2].Nodup)(hf:∀r∈[z,ti,tO,i1,i2],f7 X J1 H r)(h1:SqB b X.K H l xs):ZApart z ti tO i1 i2 [i1,l] [i2]:=by
 have n1:∀r∈[z,ti,tO,i1,i2],l≠r:=fun r hr=>xR J h1 (hf r hr)
 simp only[qa9,qb8,or_false,forall_eq_or_imp,forall_eq]at n1;simp only[qg9,qa9,qb8,or_false,not_or,not_false_eq_true,qm7,and_true]at hd;obtain⟨⟨U,d2,d3,d4⟩,⟨d5,d6,Z⟩,⟨d8,d9⟩,O⟩:=hd;refine⟨qe7 U,qe7 d2,d5,Ξ,Ξ,?_,?_,?_,?_,d6,Z,?_,?_⟩<;>simp only[qa9,qb8,or_false,not_or]
 .exact⟨d3,qe7 n1.1⟩
 .exact d4
 .exact⟨d8,qe7 n1.2.2.1⟩
 .exact d9
 .exact O
 .exact⟨qe7 O,qe7 n1.2.2.2.2⟩
end
def Ity(b:Bool)(K:xA9)(l:J5)(x:Str):It:=⟨fun i H=>∃xs v c,SqB b K H l xs/\xs[i]?=ς v/\x.cps[i]?=ς c,fun i H z H'=>∃t v c,H t=ψ/\z=.ref t/\H'=upd H t (.t [v,.str ⟨#[c]⟩])/\x.cps[i]?=ς c/\∀xs,SqB b K H l xs->xs[i]?=ς v,fun i H=>∃xs,SqB b K H l xs/\min xs.length x.cps.size=i⟩
variable{P:qc0}
theorem vV {w:J6} {elts:η J9} (b:Bool) (l:J5) (x:Str) (t:Tok) (z ti tO i1 i2:J5) (hd:[z,ti,tO,i1,i2].Nodup) :
  Turn P w K (.Tuple elts n pos) (Ity b K l x) [z,ti,tO,i1,i2] z (fun i h=>IsZip h z ti tO .none/\qm4 h ti (.ref i1) (.ref i2)/\(∃va vb,qm4 h tO va vb)/\ItB b h i1 l i/\h.IsStrIter i2 "str_ascii_iterator" x t i) where
 mem:=by simp
 obj:=fun i h st a O=>by
  obtain⟨s1,s2,⟨va,vb,s3⟩,Z,s5⟩:=st;simp only[qa9,qb8,or_false]at O;rcases O with rfl|rfl|rfl|rfl|rfl
  .exact⟨_,s1,fun v y=>nomatch y⟩
  .exact⟨_,s2,fun v y=>nomatch y⟩
  .exact⟨_,s3,fun v y=>nomatch y⟩
  .obtain⟨o,q,_,d⟩:=Z.obj;exact⟨o,q,d⟩
  .obtain⟨o,q,_,d⟩:=s5;exact⟨o,q,fun v y=>by rw[d]at y;cases y⟩
 keep:=fun i h h' st k=>by obtain⟨s1,s2,⟨va,vb,s3⟩,Z,s5⟩:=st;exact⟨k z Ξ _ s1,k ti Ξ _ s2,⟨va,vb,k tO Ξ _ s3⟩,Z.at fun o q=>k i1 Ξ o q,let ⟨o,q,r⟩:=s5;⟨o,k i2 Ξ o q,r⟩⟩
 item:=by
  intro X hP hw hK hc i J1 s σ H E J hf st hg;subst hP hw hK;obtain⟨s1,s2,⟨va,vb,s3⟩,Z,s5⟩:=st;obtain⟨xs,v,c,hq,hx,hy⟩:=hg;obtain⟨J4,rv,co⟩:=J.seqB hq;obtain⟨u,hu,ru⟩:=rv.get hx;have l1:i<J4.toArray.size:=by simpa using (gX hu).1
  have l2:i<x.cps.size:=(qi3.mp hy).1
  refine lW (iA (A:=X.A.in1) (b:=b) (I:=i1) (a:=l) (show X.A.in1.handled=ψ from J.ok.hd hc) (iz Z co) J4.toArray) (Draws.strAscii (A:=X.A.in1) (show X.A.in1.handled=ψ from J.ok.hd hc) i2 x t)
   (ur J hd hf hq) s1 s2 s3 ⟨Z,co⟩ s5 l1 l2 fun x' y' h1 tk p1 p2 hz hO t1 t2 hT hsz hk=>⟨_,rfl,?_⟩
  have ex:x'=u:=by rw[show J4.toArray[i]?=J4[i]? by simp,hu]at p1;exact(qc1 p1).symm
  subst ex;obtain⟨c',u2,hc',rfl⟩:=p2;have ec:c'=c:=by rw[hy]at hc';exact(qc1 hc').symm
  subst ec;refine qw4 hz fun h2 hz2 U=>?_
  have nd:=hd;simp only[qg9,qa9,qb8,or_false,not_or,not_false_eq_true,qm7,and_true]at nd;obtain⟨⟨d1,d2,d3,d4⟩,⟨d5,d6,d7⟩,⟨d8,d9⟩,d10⟩:=nd
  have lt:∀a∈[z,ti,tO,i1,i2],a<s.heap.objs.size:=fun a O=>by
   simp only[qa9,qb8,or_false]at O;rcases O with rfl|rfl|rfl|rfl|rfl
   .exact qa6 s1
   .exact qa6 s2
   .exact qa6 s3
   .obtain⟨o,q,_⟩:=Z.obj;exact qa6 q
   .obtain⟨o,q,_⟩:=s5;exact qa6 q
  have zn:s.heap.objs.size≠z:=fun y=>qh6 _ (y▸lt z Ξ)
  have kk:∀a o,a∉[z,ti,tO,i1,i2]->s.heap.get? a=ς o->h2.get? a=ς o:=fun a o O q=>by simp only[qa9,qb8,or_false,not_or]at O;exact(U.2 a O.1).trans (hk a o O.1 O.2.2.1 O.2.2.2.1 O.2.2.2.2 q)
  have hT2:h2.get? s.heap.objs.size=ς {cls:=.type "tuple",data:=.seq #[x',.str ⟨#[c']⟩ u2]}:=(U.2 _ zn).trans hT
  have J2:Inv X J1 σ (upd H s.heap.objs.size (.t [v,.str ⟨#[c']⟩])) {s with heap:=h2,toks:=tk}:=J.turnedT kk hf (nL _) ⟨by show 2<=qa7;decide,[x',.str ⟨#[c']⟩ u2],.cons ru (.cons ⟨u2,rfl⟩ .nil),⟨_,hT2,rfl,_,rfl⟩⟩
  refine⟨.ref s.heap.objs.size,_,J2,rfl,⟨_,v,c',J.hok.fresh (nL _),rfl,rfl,hy,fun us hu=>by rw[J.seqB_inj hu hq];exact hx⟩,⟨hz2,(U.2 ti (qe7 d1)).trans (hk ti _ (qe7 d1) d5 d6 d7 s2),⟨_,_,(U.2 tO (qe7 d2)).trans hO⟩,t1.1.at fun o q=>(U.2 i1 (qe7 d3)).trans q,let ⟨o,q,r⟩:=t2;⟨o,(U.2 i2 (qe7 d4)).trans q,r⟩⟩,fun a O=>?_⟩;rw[ax (qc8 (lt a O))];exact(hf a O).1
 done:=by
  intro X hP hw hK hc i J1 s σ H E J hf st hg;subst hP hw hK;obtain⟨s1,s2,⟨va,vb,s3⟩,Z,s5⟩:=st;obtain⟨xs,hq,hx⟩:=hg;obtain⟨J4,rv,co⟩:=J.seqB hq;have e1:=rv.length
  refine nF (iA (A:=X.A.in1) (b:=b) (I:=i1) (a:=l) (show X.A.in1.handled=ψ from J.ok.hd hc) (iz Z co) J4.toArray) (Draws.strAscii (A:=X.A.in1) (show X.A.in1.handled=ψ from J.ok.hd hc) i2 x t)
   (ur J hd hf hq) s1 s2 s3 ⟨Z,co⟩ s5 (by simp only[qb4];lia) fun h' tk hk=>⟨rfl,?_⟩
  exact J.turnedL (t':=tk) (fun a o O q=>hk a o (fun y=>O (by simp[y])) (fun y=>O (by simp[y])) (fun y=>O (by simp[y])) (fun y=>O (by simp[y])) q) hf
 self:=fun A i s Q E st h=>qt0 st.1 h
variable{i:Nat}
section
variable{X:Cx}{x y:J9}{p pos tpos:Pos}{sc:Ja}{fs:De->ζ (η Dt)}{elts:η J9}{n:Nat}
def FF(K:xA9)(ta:TA):TI:=fun σ H R=>ta σ H fun vs H1=>∃b l x xs,vs=[.ref l,.str x]/\x.cps.all (· < 128)=θ/\SqB b K H1 l xs/\R (Ity b K l x) H1
theorem AX {ta:TA} (h:aO sc "zip"=θ) (hm:X.mg "zip"=ψ) (Z:PA X [x,y] ta) (e1:bU X sc:=by rfl) (hs:qa2 [x,y] X.env=[(ξ,eval x X.env),(ξ,eval y X.env)]:=by rfl) (O:qa2 [y] X.env=[(ξ,eval y X.env)]:=by rfl) :
  PI X (.Tuple elts n tpos) (.Call (.Name "zip" p) [x,y] [] pos) (FF X.K ta):=by
 intro J1 s σ H R I h';refine Call_ (jh I (glD h e1) hm xk (qh8 (thn (Z pos J1 s σ H _ I h') fun us s1 ⟨vs,H1,I1,r1,q1⟩=>?_) (by rw[hs,O]) (by rw[O];rfl)));obtain⟨b,l,x,xs,rfl,ac,hq,q⟩:=q1;obtain⟨u,w',rfl,ru,rw'⟩:=qb r1;cases ru;obtain⟨t,rfl⟩:=rw';obtain⟨J4,rv,co⟩:=I1.seqB hq;refine vU ac co fun h2 hz hI hO hi1 hi2 hsz hk=>qt0 hz ?_
 have I2:Inv X J1 σ H1 {s1 with heap:=h2}:=I1.kept (t':=s1.toks) hk;refine⟨s1.heap.objs.size+4,[s1.heap.objs.size+4,s1.heap.objs.size+2,s1.heap.objs.size+3,s1.heap.objs.size,s1.heap.objs.size+1],_,_,H1,rfl,I2,vV b l x t _ _ _ _ _ Ξ,⟨hz,hI,⟨_,_,hO⟩,hi1,hi2⟩,fun a Z=>?_,q⟩
 have U:s1.heap.objs.size<=a:=by simp only[qa9,qb8,or_false]at Z;rcases Z with rfl|rfl|rfl|rfl|rfl<;>first|exact Nat.le_add_right _ _|exact nL _
 exact I1.fpOk U (I1.hok.fresh U)
def chs(x:Str):η Dt:=x.cps.toList.map fun c=>.str ⟨#[c]⟩
theorem AY{x:Str}{c:Nat}(h:x.cps[i]?=ς c):(chs x)[i]?=ς (.str ⟨#[c]⟩):=by unfold chs;rw[qd3,za7,h];rfl
theorem AZ{x:Str}:(chs x).length=x.cps.size:=by simp[chs]
def A0:η Dt->ζ (η Dt)
 |[d,.str x]=>if x.cps.all (· < 128)then(xU d).map fun p=>gx p.2 (chs x)else ψ
 |_=>ψ
theorem vW{F:Hp}{b:Bool}{a:J5}{x:Str}{xs:η V}(r:Reps K F l xs):nj K F (Ity b K a x) (gx l (chs x)) (fun H=>SqB b K H a xs):=fun i H F2 O fh ff=>by have hl:=r.length;have hm:=AZ (x:=x);rw[lX,hm];refine⟨fun h=>⟨xs,xs[i],x.cps[i],O,by simp[show i<xs.length by lia],by simp[show i<x.cps.size by lia]⟩,fun h=>⟨xs,O,Θ⟩,fun z H' hi hy=>?_⟩;obtain⟨t,v,c,U,rfl,rfl,Z,hv⟩:=hy;have hx:=hv xs O;obtain⟨d,hd,rd⟩:=r.same_get hx;have up:=Same.upd (o:=.t [v,.str ⟨#[c]⟩]) (fh.free U);exact⟨_,upd F2 t (.t [v,.str ⟨#[c]⟩]),lY hd (AY Z),Step.new fh U,lV aC ((rd.same ff).same up) gI⟩
theorem A1 (h:aO sc "zip"=θ) (hm:X.mg "zip"=ψ) (ha:DA X [x,y] fs) (e1:bU X sc:=by rfl) (hs:qa2 [x,y] X.env=[(ξ,eval x X.env),(ξ,eval y X.env)]:=by rfl) (Z:qa2 [y] X.env=[(ξ,eval y X.env)]:=by rfl) :
  DIF X (.Tuple elts n tpos) (.Call (.Name "zip" p) [x,y] [] pos) (dj A0 fs):=PI.mono (AX h hm ha.pa e1 hs Z) fun σ H R ⟨Φ,δ,F,ds,hK,en,O,k⟩=>by
 unfold dj at O;obtain⟨as,hd,O⟩:=bS O;refine⟨Φ,δ,F,as,hK,en,hd,fun vs H' F' st r=>?_⟩;unfold A0 at O;split at O<;>first|(cases O;done)|skip
 split at O<;>first|(cases O;done)|skip
 rename_i ac;obtain⟨p1,U,O⟩:=mS O;cases O;simp only[Reps,Rep]at r;obtain⟨v,ws,rfl,r1,w',us,rfl,rfl,rfl⟩:=r;obtain⟨a,xs,rfl,q1,s1⟩:=pe r1 U;exact⟨p1.1,a,_,xs,rfl,ac,s1 _ st.fh,k _ _ H' F' st (vW q1) fun H2 s=>s1 _ s⟩
end
def PEP(X:Cx)(e:J9)(t:TE):Prop:=∀(J1:η (J5×Obj))(s:qa4)(σ:St)(H:Hp)(Q:VK),Inv X J1 σ H s->1<=s.toks->t σ H Q->wpAny (model X.prog X.w) X.A (eval e X.env) (EP X J1 σ Q) X.xe s
theorem PE.pep{t:TE}(h:PE X e t):PEP X e t:=fun J1 s σ H Q I _ q=>h J1 s σ H Q I q
def FG(y z:Str)(to:TE):TE:=fun σ H Q=>to σ H fun v H1=>∃x,v=.str x/\x.length+(x.length+1)*z.length<=16777216/\Q (.str (Txt.replace x y z)) H1
section
variable{X:Cx}{o:J9}{to:TE}{y z:Str}{j1 j2:Nat}{p1 p2 apos cpos:Pos}
theorem qM (ho:PEP X o to) (hyz:(y==z)=ξ)
  (U:qg5 o "replace" X.env (eval o X.env)=eval o X.env:=by rfl)
  (Z:((qf2 cpos (qa2 [.Constant (.str y) j1 p1,.Constant (.str z) j2 p2] X.env)).all (fun x=>!x.1)&&(qs1 cpos (ql2 [] X.env)).all (fun x=>x.1.isSome)
   && decide (([.Constant (.str y) j1 p1,.Constant (.str z) j2 p2]:η J9).length+([]:η qk3).length+(if([]:η qk3).isEmpty then 0 else 1)<30))=θ:=by rfl)
  (O:(apos.endLine==cpos.line)=θ:=by rfl)
  (htr:qf2 cpos (qa2 [.Constant (.str y) j1 p1,.Constant (.str z) j2 p2] X.env)=[(ξ,eval (.Constant (.str y) j1 p1) X.env),(ξ,eval (.Constant (.str z) j2 p2) X.env)]:=by rfl) :
  PEP X (.Call (.Attribute o "replace" apos) [.Constant (.str y) j1 p1,.Constant (.str z) j2 p2] [] cpos) (FG y z to):=by
 intro J1 s σ H Q I hp h;refine qz7 U Z O rfl (wpAny_with_toks hp (qf1 (ho J1 s σ H _ I hp h) (fun v s1 ⟨x0,H1,I1,r1,q1⟩ ht=>?_) fun _ _ q _=>q));obtain⟨x,rfl,hb,q⟩:=q1;obtain⟨t,rfl⟩:=r1;refine⟨"str","str.replace",PySem.F.plainAttrs_str,PySem.F.slot_str_replace,PySem.F.type_str_replace,qu6 _ _ _,(fun a e=>by cases e),?_⟩;rw[htr];refine qr2 rfl (qt4 (qn1 (qv7 (qn1 (qv7 (qx1 ?_))))));refine SC.replace (by show s1.toks≠0;lia) (by show s1.toks+1≠0;lia) (by show s1.toks≠s1.toks+1;lia) hyz hb fun t' k=>⟨.str (Txt.replace x y z),H1,I1.tok k,⟨t',rfl⟩,q⟩
end
theorem qN:∀(ns:η (Str×qp0))(n:Nat)(O:η (Str×J5)),(∀x∈ns,x.2≠.cell)->qx2 n ns O=O
 |[],_,_,_=>rfl
 |(x,k)::r,n,O,h=>by have Z:k≠.cell:=h (x,k) (.head _);rw[qx2,if_neg (by simpa using Z)];exact qN r n O fun y U=>h y (.tail _ U)
theorem nO{O:Str->ζ qp0}:∀(bs:η (Str×Value))(m:Str->ζ Value),(∀x∈bs,O x.1=ς .local)->bindL O bs m=fun x=>(bs.reverse.lookup x).or (m x)
 |[],m,_=>by funext x;simp[bindL]
 |(n,v)::r,m,h=>by
  rw[bindL,if_pos (h (n,v) (.head _)),nO r _ fun x U=>h x (.tail _ U)];funext x;rw[List.reverse_cons,List.lookup_append];by_cases e:x=n
  .subst e;simp[qf9]
  .have Z:(x==n)=ξ:=by simpa using e
   simp[qf9,e,Z]
variable{A:qd8}{s:qa4}{scope:Ja}{qual:Str}
theorem A2{M:Model}{E:Value->qa4->Prop}{U:J5}{binds:η (Str×Value)}{Z:ζ J5}{code:Value}{O:J5}{Q:Env->qa4->Prop}(hk:scope.kind=.function)
 (hc:∀x∈scope.names,x.2≠.cell) (hl:∀x∈binds,scope.names.lookup x.1=ς .local) (hb:binds≠[])
 (hQ:∀env,env=newEnv scope s.heap.objs.size U (qx2 (s.heap.objs.size+1) scope.names []) qual Z code ψ O→
 ∀s',InCallC s env.locals (bindL env.kindOf binds fun _=>ψ) env.cells (bindC env.kindOf binds fun _=>ψ) s'->1<=s'.toks->Q env s') :
  wpAny M A (newFunctionEnv scope U [] binds qual Z code ψ O) Q E s:=by
 refine wpAny_newFunctionEnv hc hl (fun h' ns sb=>?_) hk;have hcl:qx2 (s.heap.objs.size+1) scope.names []=[]:=qN _ _ _ hc
 have hbl:bindL (fun n=>scope.names.lookup n) binds (fun _=>ψ)=fun x=>binds.reverse.lookup x:=by rw[nO binds _ hl];funext x;simp
 refine hQ _ (by rw[hcl]) _ ⟨⟨⟨_,_,rfl⟩,?_,fun b o e=>?_,nL _⟩,(fun n c z=>by cases z),zd3.nil,(fun n c z=>by cases z)⟩ ?_
 .show h'.Ns s.heap.objs.size (bindL (fun n=>scope.names.lookup n) binds fun _=>ψ);rw[hbl];exact ns
 .exact sb.extBut b o (qc8 (qa6 e)) (gP _ e)
 .show 1<=s.toks+binds.length;cases binds with
  |nil=>exact absurd rfl hb
  |cons x r=>simp only[qc4];lia
def PSP(X:Cx)(st:J8)(t:TS):Prop:=∀(J1:η (J5×Obj))(s:qa4)(σ:St)(H:Hp)(D:Ends),Inv X J1 σ H s->1<=s.toks->t D σ H->wpAny (model X.prog X.w) X.A (exec st X.env) (SP X J1 D) X.xe s
def PSsP(X:Cx)(st:η J8)(t:TS):Prop:=∀(J1:η (J5×Obj))(s:qa4)(σ:St)(H:Hp)(D:Ends),Inv X J1 σ H s->1<=s.toks->t D σ H->wpAny (model X.prog X.w) X.A (execs st X.env) (SP X J1 D) X.xe s
variable{t':TS}{pos':Pos}
section
variable{X:Cx}{st:J8}{rest:η J8}{t u:TS}
theorem PS.psp(h:PS X st t):PSP X st t:=fun J1 s σ H D I _ q=>h J1 s σ H D I q
theorem PSs.pssp(h:PSs X rest t):PSsP X rest t:=fun J1 s σ H D I _ q=>h J1 s σ H D I q
theorem PSsP.nox(h:PSsP X.nox rest t):PSsP X rest t:=fun J1 s σ H D I U O=>qf1 (h J1 s σ H D (I.wish _) U O) (fun _ _ q=>q.unwish) fun _ _ z=>qf3 z
theorem PSP.mono(h:PSP X st t)(i:∀D σ H,t' D σ H->t D σ H):PSP X st t':=fun J1 s σ H D I O q=>h J1 s σ H D I O (i _ _ _ q)
theorem PSsP.mono(h:PSsP X rest t)(i:∀D σ H,t' D σ H->t D σ H):PSsP X rest t':=fun J1 s σ H D I O q=>h J1 s σ H D I O (i _ _ _ q)
theorem vY(h1:PSP X st t)(h2:PSsP X rest u):PSsP X (st::rest) (CF t u):=by
 intro J1 s σ H D I U h;refine qs5 (wpAny_with_toks U (qf1 (h1 J1 s σ H {D with nx:=u D} I U h) (fun f s1 q ht=>?_) fun _ _ q _=>q));cases f with
 |next=>obtain⟨O,H',Z,q⟩:=q;exact h2 J1 s1 O H' D Z ht q
 |ret v=>exact q
 |brk=>exact q
 |cont=>exact q
theorem A3 {te:TE} (Z:X.N.Nodup) (hi:X.N[i]?=ς x) (hx:Loc X.env.scope x) (O:PEP X e te) (U:qf7 e (ς (.Name x pos')) pos.line X.env=pure ξ:=by rfl) (hf:X.fn x=θ∨X.env.scope.names.lookup x=ς .local:=by first | exact .inl rfl | exact .inr rfl | assumption) :
  PSP X (.Assign [.Name x pos'] e pos) (vf te (jq i)):=by
 intro J1 s σ H D I hp h;refine qw9 (thn (O J1 s σ H _ I hp h) fun v s1 ⟨y,H1,I1,r1,q1⟩=>?_) U;exact gl I1 Z hi hx r1 (fun s2 I2=>⟨_,H1,I2,q1⟩) hf
end
theorem DR{CX:CXT}{w:J6}{mg:Str->ζ Value}{base:Heap}{k:Nat}{name:Str}{params:qo5}{body:η J8}{dV kV doc cdv ct:Value} 
 {osl:Array (ζ Value)} {sp:Sp} (lk:K.lookup f=ς ⟨oc,od,.func (xF9 name qual params body scope dV kV doc pm an cdv ct),osl⟩) (hcd:xK9 K cdv qual=θ) (S:FnScope N ps scope)
 (len:∀vs H Q E,sp vs H Q E->vs.length=ps.length) (hc:∀x∈scope.names,x.2≠.cell) (hps:ps≠[])
 (Z:∀(A:qd8)(outer:η Env)(s:qa4)(H:Hp)(vs:η V)(Q:VK)(E:XK),Room k (A.deeper (qn3 qual scope s.heap.objs.size f cdv))->sp vs H Q E→
 ∃t,PSsP (dq CX P w K mg base N qual scope f cdv A outer s H E) body t/\t {nx:=fun _ H'=>Q .non H',rt:=Q} (e7 N vs) H) :
  FnOk P w K mg base CX (k+1) f (xF9 name qual params body scope dV kV doc pm an cdv ct) ps sp:=by
 refine⟨len,fun A outer s H args us vs Q E hr e0 hb r hsp=>?_⟩;have hl:=len _ _ _ _ hsp;have KX:K.In s.heap:=e0.mod.kin.keeps fun b o e=>(e0.bs b o e).1
 have lim:s.heap.NoLimit:=e0.mod.nolimit.keeps fun b o e=>(e0.bs b o e).1
 have O:∀{l:η (Str×qp0)}{n:Str}{k:qp0},l.lookup n=ς k->(n,k)∈l:=fun h=>PySem.mem_of_lookup h
 have hloc:∀y∈ps.zip us,scope.names.lookup y.1=ς .local:=fun⟨n,v⟩ hy=>by
  rcases S.par n (qu9 hy).1 with q|q
  .exact q
  .exact absurd rfl (hc _ (O q))
 have hne:ps.zip us≠[]:=fun z=>by
  have h1:us.length=ps.length:=by rw[<- r.length];exact hl
  cases ps with
  |nil=>exact hps rfl
  |cons p ps=>
   cases us with
   |nil=>simp at h1
   |cons u us=>simp at z
 refine za4 hr.depth (KX _ _ lk) rfl S.co S.gen rfl (PySem.W.codeRec_of KX hcd) (hb _ _ _ _ ?_);refine A2 S.kind hc hloc hne fun env he s1 x hp=>?_
 subst he;refine⟨lim.keeps x.toInCall.keep,codeAny_func ?_⟩;obtain⟨t,ht,hq⟩:=Z A outer s H vs Q E (hr.deeper _) hsp;have I:Inv (dq CX P w K mg base N qual scope f cdv A outer s H E) [] (e7 N vs) H s1:=mW S hr.hd e0 hl r x;refine qf1 (ht [] s1 (e7 N vs) H _ I hp hq) (fun fl s' hs=>?_) fun e s' hs=>hs
 have fin:∀{U:St}{H':Hp}{v:V}{u:Value},Inv (dq CX P w K mg base N qual scope f cdv A outer s H E) [] U H' s'->RelV v u->Q v H'->CE outer P w H s Q u s':=fun {U H' v u} J rv q=>⟨v,H',J.os,J.bare,J.base,J.hok,rv,q⟩
 cases fl with
 |ret u=>obtain⟨v,U,H',J,rv,q⟩:=hs;exact fin J rv q
 |next=>obtain⟨U,H',J,q⟩:=hs;exact fin (v:=V.non) (u:=qc7) J rfl q
 |brk=>obtain⟨_,_,_,q⟩:=hs;exact qf3 q
 |cont=>obtain⟨_,_,_,q⟩:=hs;exact qf3 q
def DOP(X:Cx)(e:J9)(f:De->ζ T):Prop:=PEP X e (tO X.K f)
def DBP(X:Cx)(e:J9)(f:De->ζ Dt):Prop:=PEP X e (tBd X.K f)
def DU(X:Cx)(st:J8)(g:De->ζ Out):Prop:=PSP X st (tS X.K g)
def DSP(X:Cx)(ss:η J8)(g:De->ζ Out):Prop:=PSsP X ss (tS X.K g)
theorem PEP.mono{t t':TE}(h:PEP X e t)(m:∀ σ H Q,t' σ H Q->t σ H Q):PEP X e t':=fun J1 s σ H Q I O q=>h J1 s σ H Q I O (m _ _ _ q)
section
variable{X:Cx}{e o:J9}{f:De->ζ T}{fo:De->ζ Dt}{st:J8}{rest:η J8}{g1 g2 g:De->ζ Out}{y z:Str}{j1 j2 i:Nat}{p1 p2 apos cpos pos:Pos}
theorem DB.p{fb:De->ζ Dt}(h:DB X e fb):DBP X e fb:=PE.pep h
theorem DOP.toB(h:DOP X e f):DBP X e (toD f):=PEP.mono h fun σ H Q ⟨Φ,δ,F,d,O,en,U,k⟩=>by obtain⟨t,Z,hd⟩:=bS U;exact⟨Φ,δ,F,t,O,en,Z,KB.toO hd k⟩
theorem DOP.toTD(h:DOP X e f):DOP X e (toT (toD f)):=PEP.mono h fun σ H Q ⟨Φ,δ,F,t,U,en,O,k⟩=>by unfold toT at O;obtain⟨d,hd,O⟩:=mS O;cases O;obtain⟨t,Z,hd⟩:=bS hd;exact⟨Φ,δ,F,t,U,en,Z,KL.to hd k.leaf⟩
theorem DS1.p(h:DS1 X st g):DU X st g:=PS.psp h
theorem DS.p(h:DS X rest g):DSP X rest g:=PSs.pssp h
theorem qO(h1:DU X st g1)(h2:DSP X rest g2):DSP X (st::rest) (ao g1 g2):=PSsP.mono (vY h1 h2) fun D σ H ⟨Φ,δ,F,o,hK,en,O,k⟩=>by
 unfold ao at O;obtain⟨o1,h1,O⟩:=bS O;refine⟨Φ,δ,F,o1,hK,en,h1,?_⟩;cases o1 with
 |nx U=>exact fun σ' F' H' Z=>⟨Φ,U,F',o,hK,Z,O,k⟩
 |rt t=>cases O;exact k
 |bk U=>cases O;exact k
 |ct U=>cases O;exact k
theorem kQ (ho:DBP X o fo) (hyz:(y==z)=ξ)
  (Z:qg5 o "replace" X.env (eval o X.env)=eval o X.env:=by rfl)
  (hfew:((qf2 cpos (qa2 [.Constant (.str y) j1 p1,.Constant (.str z) j2 p2] X.env)).all (fun x=>!x.1)&&(qs1 cpos (ql2 [] X.env)).all (fun x=>x.1.isSome)
   && decide (([.Constant (.str y) j1 p1,.Constant (.str z) j2 p2]:η J9).length+([]:η qk3).length+(if([]:η qk3).isEmpty then 0 else 1)<30))=θ:=by rfl)
  (U:(apos.endLine==cpos.line)=θ:=by rfl)
  (htr:qf2 cpos (qa2 [.Constant (.str y) j1 p1,.Constant (.str z) j2 p2] X.env)=[(ξ,eval (.Constant (.str y) j1 p1) X.env),(ξ,eval (.Constant (.str z) j2 p2) X.env)]:=by rfl) :
  DOP X (.Call (.Attribute o "replace" apos) [.Constant (.str y) j1 p1,.Constant (.str z) j2 p2] [] cpos) (bR fE fo (aa (kD (.str y)) (aa (kD (.str z)) af))):=
 PEP.mono (qM ho hyz Z hfew U htr) fun σ H Q ⟨Φ,δ,F,t,hK,en,O,k⟩=>by
  unfold bR at O;obtain⟨d,hd,O⟩:=bS O;obtain⟨ds,hds,O⟩:=bS O
  have e0:ds=[.str y,.str z]:=by have:aa (kD (.str y)) (aa (kD (.str z)) af) δ=ς [.str y,.str z]:=rfl;rw[this]at hds;exact(qc1 hds).symm
  subst e0;cases d with
  |str x=>
   have O:(if x.length+(x.length+1)*z.length<=16777216 then ς (T.f (.str (Txt.replace x y z)))else ψ)=ς t:=O;by_cases hb:x.length+(x.length+1)*z.length<=16777216
   .rw[if_pos hb]at O;cases O;refine⟨Φ,δ,F,.str x,hK,en,hd,fun v H1 F1 st rv=>?_⟩;obtain rfl:v=.str x:=rv;exact⟨x,rfl,hb,(k.step st).leaf.here st.fh gI⟩
   .rw[if_neg hb]at O;cases O
  |_=>cases O
theorem A4{sc:Ja}(h:dh sc N i x=θ)(hl:g9 sc x=θ)(nd:N.Nodup)(he:DOP X e f)(e1:bU X sc:=by rfl)(e2:X.N=N:=by rfl)(hf:X.fn x=θ∨X.env.scope.names.lookup x=ς .local:=by exact .inl rfl)
 (U:qf7 e (ς (.Name x pos')) pos.line X.env=pure ξ:=by rfl):DU X (.Assign [.Name x pos'] e pos) (aF i f):=by
 have e1:X.env.scope=sc:=e1;subst e1 e2;refine PSP.mono (A3 nd (eV h) (gH hl) he U hf) fun D σ H ⟨Φ,δ,F,o,Z,en,O,k⟩=>?_
 unfold aF at O;obtain⟨t,ht,O⟩:=mS O;cases O;exact⟨Φ,δ,F,t,Z,en,ht,fun v H' F' S st o U=>k _ F' H' (en.put st (Z▸o) U i)⟩
end
section
variable{P:qc0}{w:J6}{K:xA9}{mg:Str->ζ Value}{base:Heap}
theorem DV{st:J8}{k:Nat}{g:De->ζ Out}(D:DefF K mg x st ps)(S:FnScope N ps (ae st))(hn:ps.length=n)(hc:((ae st).names.all fun y=>y.2 != .cell)=θ)(hps:ps≠[])
 (O:∀(f:J5)(cdv:Value)(A:qd8)(outer:η Env)(s:qa4)(H:Hp)(E:XK),Room k (A.deeper (qn3 x (ae st) s.heap.objs.size f cdv))->DSP (dq CX0 P w K mg base N x (ae st) f cdv A outer s H E).nox (bL st) g) :
  OkF P w K mg base x (k+1) ps (spD K n (bX N.length g)):=by
 obtain⟨f,fd,h1,h2,h3,h4⟩:=D.ex;refine⟨f,fd,h1,h2,h3,?_⟩;obtain⟨oc,od,kV,doc,pm,an,cdv,ct,osl,rfl,lk,Z⟩:=h4.ex;refine DR lk Z S (fun vs H Q E h=>?_) (fun y hy=>by simpa using qg2.mp hc y hy) hps fun A outer s H vs Q E hr h=>?_
 .obtain⟨F,ds,t,_,hl,r,_⟩:=h;rw[r.length,hl,hn]
 .obtain⟨F,ds,t,fh,hl,r,U,kq⟩:=h;refine⟨_,PSsP.nox (O f cdv A outer s H E hr),?_⟩;unfold bX at U;split at U
  .rename_i t' q;cases U;exact⟨⟨K,F,H,fun _=>False⟩,_,F,_,rfl,eM fh r,q,fun v F' H' z=>z.step kq⟩
  .rename_i δ' q;cases U;exact⟨⟨K,F,H,fun _=>False⟩,_,F,_,rfl,eM fh r,q,fun σ' F' H' z=>(z.rt (Step.refl z.fh) (t:=.f .non) (S:=fun _=>False) (jA (K:=K) (F:=F')) fun _ y=>y.elim).step kq⟩
  .cases U
end
open PySem PySem.Spec
theorem vZ{e:Value}{env env':Env}(h:env'.frame=env.frame):qn7 e env'=qn7 e env:=by unfold qn7 PySem.frameOf;rw[h]
structure LeftW(B:Heap)(l:List Env)(e C dx:J5)(h h':Heap):Prop where
 st:B.StaysIn h'
 fr:h'.FunFrames B l
 fly:FlyW B h' e C dx
 up:h.UpToSlots h'
 no:∃(o:Obj)(vs:Array Value)(T:J5),h'.get? e=ς o/\o.data=.fields vs/\vs[1]?=ς (.ref T)
variable{o:Obj}
section
variable{M:Model}{A:qd8}{E:Value->qa4->Prop}{s:qa4}{B:Heap}{env:Env}{outer:η Env}{L e C dx:J5}{Q:Unit->qa4->Prop}
theorem qP{vs:Array Value}{O:Value}{hn:Bool}(hA:A.frames=ς (env::outer))(fr:s.heap.FunFrames B (env::outer))(hL:env.frame=ς L)(st:B.StaysIn s.heap)(hB:B.get? e=ψ)
 (ho:s.heap.get? e=ς o) (hc:o.cls=.ref C) (hx:o.dict=ς dx) (hd:o.data=.fields vs) (hz:1<vs.size)
 (k:∀h',LeftW B (env::outer) e C dx s.heap h'->Q () {s with heap:=h'}) :
  wpAny M A (do let a <- frameOf env;let U <- entryPlaceOf L hn;let b <- qp7 O a .none (ql4 L) .none U;setField (.ref e) 1 b) Q E s:=by
 have nfr:e∉(env::outer).filterMap (·.frame):=fun hm=>by obtain⟨_,o',q,Z⟩:=fr.mem hm;rw[ho]at q;cases q;exact Z vs hd
 refine wB (wpAny_frameOf_fun hA fr hL fun h1 c1=>wB (wpAny_entryPlaceOf fun U hpl=>?_));have e1:h1.get? e=ς o:=(c1.2.1 e nfr).trans ho;have s1:B.StaysIn h1:=fun b u q=>(c1.2.1 b fun hm=>by rw[(fr.mem hm).1]at q;cases q).trans (st b u q)
 unfold qp7 newFields;refine wB (qh3 ?_ (hpl.sizeOk5 _ _ _ _ _));have e2:=gP (h:=h1) {cls:=.type "traceback",dict:=ψ,data:=.fields ([O,.ref L,.none,ql4 L,.none]++(if U.isEmpty then qb2 6 qc7 else U)).toArray} e1;have nT:h1.objs.size≠e:=qn5 (qa6 e1);have d3:=qi0 hd (·.setIfInBounds 1 (qb7 h1.objs.size));have e3:=qg0 (qe9 (·.setIfInBounds 1 (qb7 h1.objs.size))) e2 (qi8 d3)
 have t3:=(qd4 (h1.push {cls:=.type "traceback",dict:=ψ,data:=.fields ([O,.ref L,.none,ql4 L,.none]++(if U.isEmpty then qb2 6 qc7 else U)).toArray})
  (qe9 (·.setIfInBounds 1 (qb7 h1.objs.size))) nT.symm).trans (qb6 h1 rfl)
 refine qi7 e2 hd hz (k _ ?_)
 have kp:∀ b u,b≠e->h1.get? b=ς u→
     ((h1.push {cls:=.type "traceback",dict:=ψ,data:=.fields ([O,.ref L,.none,ql4 L,.none]++(if U.isEmpty then qb2 6 qc7 else U)).toArray}).update e (qe9 (·.setIfInBounds 1 (qb7 h1.objs.size)))).get? b=ς u:=fun b u hb q=>by
  rw[qd4 _ _ hb.symm];exact gP _ q
 have nr:∀b u,s.heap.get? b=ς u->(∀vs,u.data≠.fields vs)->b≠e:=fun b u q Z z=>by rw[z,ho]at q;cases q;exact Z vs hd
 have up:s.heap.UpToSlots ((h1.push {cls:=.type "traceback",dict:=ψ,data:=.fields ([O,.ref L,.none,ql4 L,.none]++(if U.isEmpty then qb2 6 qc7 else U)).toArray}).update e (qe9 (·.setIfInBounds 1 (qb7 h1.objs.size)))):=fun b u q Z=>by obtain⟨sl,z⟩:=c1.2.2 b u q;exact⟨sl,kp b _ (nr b u q Z) z⟩
 refine⟨fun b u q=>kp b u (fun z=>by rw[z,hB]at q;cases q) (s1 b u q),fr.of_keeps fun b u q Z=>?_,⟨hB,_,_,e3,(qx5 _ _).trans hc,?_,d3,by simpa using hz,.inr ⟨h1.objs.size,_,_,by simp[hz],s1.fresh,nT,t3,rfl,ql4 L,?_,.inr ⟨L,rfl⟩⟩⟩,up,_,_,h1.objs.size,e3,d3,by simp[hz]⟩
 .obtain⟨sl,z⟩:=up b u q Z;exact⟨_,z,rfl⟩
 .rw[<- hx];obtain⟨_,_,dt,_⟩:=o;cases dt<;>rfl
 .simp
theorem A5 (hA:A.frames=ς (env::outer)) (fr:s.heap.FunFrames B (env::outer)) (hL:env.frame=ς L) (st:B.StaysIn s.heap) (y:FlyW B s.heap e C dx)
  (k:∀h',LeftW B (env::outer) e C dx s.heap h'->Q () {s with heap:=h'}):wpAny M A (qn7 (.ref e) env) Q E s:=by
 obtain⟨hB,o,vs,U,hc,hx,hd,hz,h1|⟨T,oT,ts,h1,bT,nT,hT,dT,v,h3,hv⟩⟩:=id y
 .unfold qn7;simp only[hL];refine wB (qd7 U hd h1 ?_);rw[if_neg Ω];exact qP hA fr hL st hB U hc hx hd hz k
 .unfold qn7;simp only[hL];refine wB (qd7 U hd h1 ?_);rw[if_pos (show(qb7 T != qc7)=θ from by simp)];refine wB (qd7 hT dT h3 ?_);by_cases Z:(v==ql4 L)=θ
  .rw[if_pos Z];exact qb1 (k s.heap ⟨st,fr,y,fun b u q _=>⟨u.slots,q⟩,o,vs,T,U,hd,h1⟩)
  .rw[if_neg Z];have ot:∀b,b≠T->(s.heap.update T (qe9 (·.setIfInBounds 3 qc7))).get? b=s.heap.get? b:=fun b hb=>qd4 _ _ hb.symm
   have nr:∀b u,s.heap.get? b=ς u->(∀vs,u.data≠.fields vs)->b≠T:=fun b u q O z=>by rw[z,hT]at q;cases q;exact O ts dT
   refine wB (qi7 hT dT (qi3.mp h3).1 ?_);refine qP (s:={s with heap:=s.heap.update T (qe9 (·.setIfInBounds 3 qc7))}) hA (fr.of_keeps fun b u q O=>⟨u,(ot b (nr b u q O)).trans q,rfl⟩) hL (fun b u q=>(ot b fun z=>by rw[z,bT]at q;cases q).trans (st b u q)) hB ((ot e nT.symm).trans U) hc hx hd hz fun h' z=>k h' ⟨z.st,z.fr,z.fly,fun b u q O=>z.up b u ((ot b (nr b u q O)).trans q) O,z.no⟩
theorem DY {α:Type} {what:String} {Qa:α->qa4->Prop} {O:Env} {l:η Env} (fr:s.heap.FunFrames B l) (st:B.StaysIn s.heap) (y:FlyW B s.heap e C dx) (no:∃ (o:Obj) (vs:Array Value) (T:J5),s.heap.get? e=ς o/\o.data=.fields vs/\vs[1]?=ς (.ref T))
  (k:∀h',LeftW B l e C dx s.heap h'->E (.ref e) {s with heap:=h'}):wpAny M A (passOn what (.ref e) O:Sem α) Qa E s:=by
 obtain⟨hB,o,vs,U,hc,hx,hd,hz,h1|⟨T,oT,ts,h1,bT,nT,hT,dT,v,h3,hv⟩⟩:=id y
 .obtain⟨o',vs',T,e1,e2,e3⟩:=no;rw[U]at e1;cases e1;rw[hd]at e2;cases e2;rw[h1]at e3;cases e3
 .unfold PySem.passOn;refine wB (qd7 U hd h1 ?_);rw[if_neg (show ¬ ((qb7 T==qc7)=θ)from by simp)];unfold qq8;refine wB (wB (qd7 U hd h1 ?_));rw[if_pos (show(qb7 T != qc7)=θ from by simp)];have l3:3<ts.size:=(qi3.mp h3).1;refine qi7 hT dT l3 (wpAny_throw (k _ ?_));have ot:∀b,b≠T->(s.heap.update T (qe9 (·.setIfInBounds 3 (O.frame.elim qc7 fun f=>ql4 f)))).get? b=s.heap.get? b:=fun b hb=>qd4 _ _ hb.symm
  have nr:∀b u,s.heap.get? b=ς u->(∀vs,u.data≠.fields vs)->b≠T:=fun b u q Z z=>by rw[z,hT]at q;cases q;exact Z ts dT
  have d3:=qi0 dT (·.setIfInBounds 3 (O.frame.elim qc7 fun f=>ql4 f));have e3:=qg0 (qe9 (·.setIfInBounds 3 (O.frame.elim qc7 fun f=>ql4 f))) hT (qi8 d3);refine⟨fun b u q=>(ot b fun z=>by rw[z,bT]at q;cases q).trans (st b u q),fr.of_keeps fun b u q Z=>⟨u,(ot b (nr b u q Z)).trans q,rfl⟩,⟨hB,o,vs,(ot e nT.symm).trans U,hc,hx,hd,hz,.inr ⟨T,_,_,h1,bT,nT,e3,d3,_,by simp[l3];rfl,?_⟩⟩,fun b u q Z=>⟨u.slots,(ot b (nr b u q Z)).trans q⟩,o,vs,T,(ot e nT.symm).trans U,hd,h1⟩;cases O.frame with
  |none=>exact .inl rfl
  |some f=>exact .inr ⟨f,rfl⟩
end
def jb(B:Heap)(c:J5):Heap:=B.update c fun o=>{o with data:=.freed}
variable{c:J5}
theorem nP{B:Heap}:(jb B c).get? c=ψ:=by obtain⟨O,l⟩:=B;simp only[jb,Heap.update,Heap.get?,Array.getElem?_modify,if_true];cases O[c]?<;>rfl
variable{b:J5}
theorem li{B:Heap}(h:b≠c):(jb B c).get? b=B.get? b:=qd4 _ _ (qe7 h)
theorem kj{B:Heap}(h:B.get? b=ψ):(jb B c).get? b=ψ:=by
 by_cases z:b=c
 .subst z;exact nP
 .rw[li z];exact h
theorem v5{B:Heap}(h:(jb B c).get? b=ς o):b≠c/\B.get? b=ς o:=by
 by_cases z:b=c
 .subst z;rw[nP]at h;cases h
 .rw[li z]at h;exact⟨z,h⟩
variable{h h':Heap}
theorem nQ{B:Heap}:∀{l:η Env},(∀b∈frs l,h'.get? b=h.get? b)->h.FunFrames B l->h'.FunFrames (jb B c) l
 |[],_,_=>trivial
 |env::l,k,⟨h1,⟨L,o,h2,h3,O,U⟩,Z⟩=>by
  have e:frs (env::l)=L::frs l:=by unfold frs;rw[qb9,h2]
  rw[e]at k;exact⟨h1,⟨L,o,h2,kj h3,(k L qa8).trans O,U⟩,nQ (fun b hb=>k b (qa3 _ hb)) Z⟩
variable{C:J5}
theorem v6{B:Heap}{e dx:J5}(hc:B.get? c≠ψ)(U:∀b,b≠c->h'.get? b=h.get? b)(y:FlyW B h e C dx):FlyW (jb B c) h' e C dx:=by
 obtain⟨Z,o,vs,ho,r1,r2,r3,r4,O⟩:=y;have ne:∀b,B.get? b=ψ->b≠c:=fun b q z=>hc (z▸q)
 refine⟨kj Z,o,vs,(U e (ne e Z)).trans ho,r1,r2,r3,r4,?_⟩;rcases O with O|⟨T,oT,ts,h1,bT,nT,hT,q⟩
 .exact .inl O
 .exact .inr ⟨T,oT,ts,h1,kj bT,nT,(U T (ne T bT)).trans hT,q⟩
theorem FlyW.xc{B:Heap}{x dx:J5}(y:FlyW B h x C dx):xcP x C dx h:=let ⟨_,o,vs,e,h1,h2,h3,_⟩:=y;⟨o,vs,e,h1,h2,h3⟩
variable{J1:η (J5×Obj)}{σ:St}{use:ζ (Value->Sem Unit)}{QQ:Value->qa4->Prop}
section
variable{P:qc0}{w:J6}{K:xA9}{mg:Str->ζ Value}{base:Heap}{N:η Str}{qual:Str}{scf:Ja}{fa:J5}{cd:Value}{A:qd8}{outer:η Env}{s0:qa4}{H0:Hp}{E:XK}
theorem yh{M:η Str}{pl:η (J5×Obj)}{σ8:St}{H3 H1:Hp}{O s1 s':qa4}{fp:η J5}{e acc:Value}
 (hX:X=dq (CXX P w) P w K mg base N qual scf fa cd A outer s0 H0 E) (I3:Inv X J1 σ H3 O) (f3:∀b∈fp,f7 X J1 H3 b)
 (J:Inv (cxC X M scope O.heap.objs.size O H3 fp) pl σ8 H1 s1) (z:CXX X.prog X.w X.stack H1 s1 E e s') :
  notedBy (model X.prog X.w) X.A (cxC X M scope O.heap.objs.size O H3 fp).env (fun e s'=>qy9 (model X.prog X.w) X.A X.xe use QQ acc O.heap.objs.size (.error e) s') e s':=by
 subst hX;generalize hXX:dq (CXX P w) P w K mg base N qual scf fa cd A outer s0 H0 E=X at*
 have hst:X.stack=X.env::X.outer:=by rw[<- hXX];rfl
 have hfr:X.env.frame=ς X.env.locals:=by rw[<- hXX];rfl
 have hex:X.ex=[]:=by rw[<- hXX];rfl
 obtain⟨x,C,dx,H',B,rfl,os,bare,un,hok,sz,hx,fly,st,fr,cov,q⟩:=z;have J':=J.call' (ch:=[]) os un hok bare (fun b z=>absurd z Ξ);have fre:∀b∈frs X.stack,H' b=ψ:=J'.stkFree;have Z:Un (frs X.stack) fp H3 H1 O.heap s1.heap:=J.base;have U:Un (frs X.stack) fp H3 H' O.heap s'.heap:=J'.base;have sz3:O.heap.objs.size<=s1.heap.objs.size:=J.sz;have hC:H' O.heap.objs.size=ψ:=J'.free
 have nfC:O.heap.objs.size∉frs X.stack:=fun hm=>by obtain⟨_,o,ho,_⟩:=I3.stack.mem hm;exact absurd (qa6 ho) (qh6 _)
 obtain⟨m,hn,_⟩:=id J'.loc;obtain⟨m1,hn1,_⟩:=id J.loc;have hn:s'.heap.Ns O.heap.objs.size m:=hn;have hn1:s1.heap.Ns O.heap.objs.size m1:=hn1;obtain⟨oC,esC,epC,goC,rC⟩:=id hn;obtain⟨oC1,_,_,goC1,_⟩:=id hn1;have ltC:O.heap.objs.size<s1.heap.objs.size:=qa6 goC1;have nCx:O.heap.objs.size≠x:=qc8 (qc3 ltC sz);have bC:B.get? O.heap.objs.size=ς oC:=cov _ _ goC nCx (.inr ⟨_,goC1⟩) nfC;generalize hCC:O.heap.objs.size=c at*
 rw[hst]at fr cov nfC;unfold notedBy;rw[vZ (env:=X.env) (env':=(cxC X M scope c O H3 fp).env) rfl];refine A5 (outer:=X.outer) (by rw[I3.ok.frames,hst]) fr hfr st fly.w fun h1 l1=>?_
 have n1:h1.Ns c m:=⟨oC,esC,epC,l1.st _ _ bC,rC⟩;refine⟨m,n1,fun h2 sb cenv _=>?_⟩;have sb2:∀b,b≠c->h2.get? b=h1.get? b:=sb.2;obtain⟨on,vn,Tn,gn1,gn2,gn3⟩:=l1.no
 refine DY (B:=jb B c) (l:=X.env::X.outer) (s:={s' with heap:=h2}) (nQ (fun b hb=>sb2 b fun z=>nfC (z▸hb)) l1.fr)
  (fun b u q=>let ⟨z1,z2⟩:=v5 q;(sb2 b z1).trans (l1.st b u z2)) (v6 (by rw[bC];exact fun z=>nomatch z) sb2 l1.fly) ⟨on,vn,Tn,(sb2 x nCx.symm).trans gn1,gn2,gn3⟩ fun h3 l3=>?_
 have kB:∀b u,s'.heap.get? b=ς u->b≠x->b≠c->(H' b≠ψ∨∃u,s1.heap.get? b=ς u)->b∉frs (X.env::X.outer)->h3.get? b=ς u:=fun b u e nx nc z nf=>l3.st b u ((li nc).trans (cov b u e nx z nf))
 have slo:∀b u,s'.heap.get? b=ς u->b∈frs (X.env::X.outer)->∃sl,h3.get? b=ς {u with slots:=sl}:=fun b u e z=>by obtain⟨_,o',q,nf⟩:=fr.mem z;rw[e]at q;cases q;obtain⟨sl,e1⟩:=l1.up b u e nf;obtain⟨sl',e2⟩:=l3.up b _ ((sb2 b fun z2=>nfC (z2▸z)).trans e1) nf;exact⟨sl',e2⟩
 have lt:∀b u,O.heap.get? b=ς u->b≠x/\b≠c:=fun b u e=>by have:=qa6 e;rw[hCC]at this;exact⟨qc8 (qc3 this (qc5 (qs2 ltC) sz)),qc8 this⟩
 have un3:Un (frs X.stack) fp H3 H' O.heap h3:=by
  refine⟨fun b u e n nb hz=>?_,fun b u e n nb hz=>?_,fun b u e n z=>U.free b u e n z,fun b u e z=>?_,U.tups,U.frzs,U.tbls,U.cts⟩
  .exact kB b u (U.keep b u e n nb hz) (lt b u e).1 (lt b u e).2 (.inr (Z.there b u e hz)) (by rw[<- hst];exact nb)
  .obtain⟨sl,e1⟩:=U.slot b u e n nb hz;obtain⟨sl',e2⟩:=slo b _ e1 (by rw[<- hst];exact nb);exact⟨sl',e2⟩
  .obtain⟨o',e1⟩:=U.there b u e z;by_cases nb:b∈frs (X.env::X.outer)
   .obtain⟨sl,e2⟩:=slo b _ e1 nb;exact⟨_,e2⟩
   .exact⟨o',kB b o' e1 (lt b u e).1 (lt b u e).2 (.inr (Z.there b u e z)) nb⟩
 have hok3:HOk X.prog X.w H' h3:=fun a o e=>by
  by_cases hax:a=x
  .subst hax;rw[hx]at e;cases e;exact ua l3.fly.xc
  .refine(hok a o e).stay (fun b u z g=>?_) (fun _ z=>z) (fun _ _ z=>z) fun _ _ _ z=>z
   have tr:H' b≠ψ:=by
    rcases z with rfl|z
    .rw[e];exact fun z=>nomatch z
    .rw[z];exact fun z=>nomatch z
   refine kB b u g (fun z2=>?_) (fun z2=>tr (z2▸hC)) (.inl tr) fun z2=>tr (fre b (by rw[hst];exact z2))
   subst z2;rcases z with rfl|z
   .exact hax rfl
   .rw[hx]at z;cases z
 have I5:Inv X J1 σ H' {s' with heap:=h3}:=I3.call' (ch:=fp) (s':={s' with heap:=h3}) (show s'.os=O.os from J'.os) un3 hok3 bare fun b hb=>⟨(f3 b hb).2.2.2.1,(f3 b hb).2.1,(f3 b hb).2.2.2.2.1,(f3 b hb).2.2.2.2.2⟩
 have cov3:Cov (jb B c) (frs (X.env::X.outer)) x X.s₀.heap H' h3:=fun b o e nx z nb=>by
  have in0:∀u,X.s₀.heap.get? b=ς u->b≠c/\(∃u,s1.heap.get? b=ς u)/\∃u,s'.heap.get? b=ς u:=fun u e0=>by
   have l0:=qa6 e0
   have nfp:b∉fp:=fun hb=>by
    rcases(f3 b hb).2.2.2.1 with z|z
    .rw[hex]at z;cases z
    .exact absurd l0 (qx6.mpr z)
   obtain⟨u3,e3⟩:=I3.base.there b u e0 (by rw[hex];simp);exact⟨(lt b u3 e3).2,Z.there b u3 e3 nfp,U.there b u3 e3 nfp⟩
  have key:b≠c/\(H' b≠ψ∨∃u,s1.heap.get? b=ς u)/\∃u,s'.heap.get? b=ς u:=by
   rcases z with z|⟨u,z⟩
   .cases e2:H' b with
    |none=>exact absurd e2 z
    |some oo=>exact⟨fun z2=>z (z2▸hC),.inl (by rw[<- e2];exact z),(hok b oo e2).has⟩
   .exact⟨(in0 u z).1,.inr (in0 u z).2.1,(in0 u z).2.2⟩
  obtain⟨nc,k2,o',e1⟩:=key;have e2:=cov b o' e1 nx k2 nb;have e3:(jb B c).get? b=ς o':=(li nc).trans e2;rw[l3.st b o' e3]at e;cases e;exact e3
 have sz0:X.s₀.heap.objs.size<=x:=qc5 I3.sz (qc5 (by rw[hCC];exact qs2 ltC) sz);have l3f:=l3.fly;have l3s:=l3.st;have l3r:=l3.fr;clear l3 kB slo l1 n1;subst hXX;exact xa I5 hx sz0 l3f l3s l3r cov3 q
end
variable{spos:Pos}
section
variable{X:Cx}{tg iter:J9}{ifs:η J9}{scope:Ja}{pos:Pos}{M:η Str}{src:η (ζ Nat)}{wi:TI}{g:TG}{tt:TT}{ta:TA}{sp:Sp}{k:Nat}{f:J5}{fd:qk2}{ps:η Str}{xn:Str}{cp cpos':Pos}{ea:J9}{es:η J9}
variable{P:qc0}{w:J6}{K:xA9}{mg:Str->ζ Value}{base:Heap}{N:η Str}{qual:Str}{scf:Ja}{fa:J5}{cd:Value}{A:qd8}{outer:η Env}{s0:qa4}{H0:Hp}{E:XK}
def tEx(ta:TA)(sp:Sp)(E:XK):TE:=fun σ H Q=>ta σ H fun vs H1=>sp vs H1 Q E
theorem sX{H:Hp}{Q:VK}{cpos:Pos}(S:CmpScope X.N X.env.scope scope M src)(hc:X.calm=θ)(hi:PI X tg iter wi)(hg:M.Nodup->∀C s H ex,PG (cxC X M scope C s H ex) tg g)(ht:∀C s H ex,PTs (cxC X M scope C s H ex) ifs tt)
 (hX:X=dq (CXX P w) P w K mg base N qual scf fa cd A outer s0 H0 E) (F:FnOk X.prog X.w X.K X.mg X.base (CXX X.prog X.w) k f fd ps sp) (hr:Room k X.A) (Z:∀C s H ex,Gl (cxC X M scope C s H ex) xn) (hm:X.mg xn=ς (.ref f)) (hk:xE9 X.K (.ref f)=θ) (hb:Binds X.K fd ps [])
 (ha:∀C s H ex,PA (cxC X M scope C s H ex) (ea::es) ta) (hdb:(xn==("__debug__":Str))=ξ) (hst:∀C s H ex,qa2 (ea::es) (cxC X M scope C s H ex).env=(ξ,eval ea (cxC X M scope C s H ex).env)::qa2 es (cxC X M scope C s H ex).env) (U:∀C s H ex,(qf2 cpos' (qa2 es (cxC X M scope C s H ex).env)).any (·.1)=ξ) (hs:∀x,qe5 iter X.env x=pure x) (I:Inv X J1 σ H s) (h:jw src wi g tt (tEx ta sp E) σ H Q)
 (O:∀(D C:J5)(H':Hp)(s':qa4)(m:Str->ζ Value),Inv X J1 σ H' s'->f7 X J1 H' C->s'.heap.Ns C m->Q (.ref D) H'->qy9 (model X.prog X.w) X.A X.xe use QQ (.ref D) C (.ok .next) s') :
  wpAny (model X.prog X.w) X.A (qu2 (.ListComp (.Call (.Name xn cp) (ea::es) [] cpos') [⟨tg,iter,ifs,0⟩] scope pos) scope X.env cpos (newList []) ξ (eval iter X.env) use) QQ X.xe s:=
 m8 S hc hi hg ht (fun s3 H3 fp acc pl σ8 H9 s9 Q' I3 f3 J q=>m5 (X:=cxC X M scope s3.heap.objs.size s3 H3 fp) (p:=cp) (pos:=cpos') F hr (Z _ _ _ _) hm hk hb (ha _ _ _ _) J q (fun H1 s1 e s' J z=>yh hX I3 f3 J z) hdb (hst _ _ _ _) (U _ _ _ _)) hs I h O
theorem yi(hN:X.N.Nodup)(hi':X.N[i]?=ς y)(hx:Loc X.env.scope y)(hf:X.fn y=θ∨X.env.scope.names.lookup y=ς .local)
 (S:CmpScope X.N X.env.scope scope M src) (hc:X.calm=θ) (hi:PI X tg iter wi) (hg:M.Nodup->∀C s H ex,PG (cxC X M scope C s H ex) tg g) (ht:∀C s H ex,PTs (cxC X M scope C s H ex) ifs tt)
 (hX:X=dq (CXX P w) P w K mg base N qual scf fa cd A outer s0 H0 E) (F:FnOk X.prog X.w X.K X.mg X.base (CXX X.prog X.w) k f fd ps sp) (hr:Room k X.A) (hgl:∀C s H ex,Gl (cxC X M scope C s H ex) xn) (hm:X.mg xn=ς (.ref f)) (hk:xE9 X.K (.ref f)=θ) (hb:Binds X.K fd ps [])
 (U:∀C s H ex,PA (cxC X M scope C s H ex) (ea::es) ta) (hdb:(xn==("__debug__":Str))=ξ) (hst:∀C s H ex,qa2 (ea::es) (cxC X M scope C s H ex).env=(ξ,eval ea (cxC X M scope C s H ex).env)::qa2 es (cxC X M scope C s H ex).env) (Z:∀C s H ex,(qf2 cpos' (qa2 es (cxC X M scope C s H ex).env)).any (·.1)=ξ)
 (hs:∀x,qe5 iter X.env x=pure x)
 (hsw:qf7 (.ListComp (.Call (.Name xn cp) (ea::es) [] cpos') [⟨tg,iter,ifs,0⟩] scope pos) (ς (.Name y py)) spos.line X.env=pure θ) :
  PS X (.Assign [.Name y py] (.ListComp (.Call (.Name xn cp) (ea::es) [] cpos') [⟨tg,iter,ifs,0⟩] scope pos) spos) (vf (jw src wi g tt (tEx ta sp E)) (jq i)):=by
 intro J1 s σ H D I h;rw[zb1 _ _ _ _ hsw];refine wB (qo1 (wB ?_));show wpAny _ X.A (do let _ <- qu2 (.ListComp (.Call (.Name xn cp) (ea::es) [] cpos') [⟨tg,iter,ifs,0⟩] scope pos) scope X.env _ (newList []) ξ (eval iter X.env) (ς (qw7 (.Name y py) X.env))) _ _ s;refine wB (qf1 (sX (use:=ς (qw7 (.Name y py) X.env)) (QQ:=fun _ s'=>∃O H',Inv X J1 O H' s'/\D.nx O H') S hc hi hg ht hX F hr hgl hm hk hb U hdb hst Z hs I h ?_) (fun _ s' hq=>qb1 (qb1 hq)) fun _ _ e=>e);intro Dd C H' s' m IA hC hn q;show wpAny _ X.A (qw7 (.Name y py) X.env (.ref Dd)) _ _ s';refine qw8 (jZ IA hN hi' hx (v:=.ref Dd) rfl (fun s2 I2 hsb=>?_) hf);obtain⟨a,sb,U⟩:=hsb
 have ne:C≠a:=by
  rcases U with rfl|U
  .exact hC.2.1
  .exact qe7 (hC.2.2.2.2.1 y a U)
 exact⟨m,hn.sameBut sb ne,fun h3 sb3=>⟨_,H',I2.but hC sb3,q⟩⟩
end
variable{ts:η Nat}{bb:Dt->De->ζ De}
section
variable{X:Cx}{E:XK}{tg iter:J9}{ifs:η J9}{scope:Ja}{pos cp cpos':Pos}{M:η Str}{src:η (ζ Nat)}{fi:De->ζ (η Dt)}{ft:De->ζ Bool}{ff:η Dt->ζ T}{fs:De->ζ (η Dt)}{i k n:Nat}{x:Str}{e:J9}{es:η J9}{ps:η Str}
variable{P:qc0}{w:J6}{K:xA9}{mg:Str->ζ Value}{base:Heap}{N:η Str}{qual:Str}{scf:Ja}{fa:J5}{cd:Value}{A:qd8}{outer:η Env}{s0:qa4}{H0:Hp}
def qQ(done:η Dt):η Dt ⊕ T->η Dt ⊕ T
 |.inl ys=>.inl (done++ys)
 |.inr t=>.inr t
theorem yj {D:Ends} (S:CmpScope X.N X.env.scope scope M src) (hts:(ts.all fun k=>decide (src[k]?=ς ψ))=θ) (hlen:∀ δ ds,fs δ=ς ds->ds.length=n) :
  ∀(σ:St)(H:Hp),tSX X.K E (sXC i src fi bb ft ff fs) D σ H->jw src (tIB X.K fi) (gD X.K ts bb) (tTr X.K ft) (tEx (tAL X.K fs) (spX X.K n ff) E) σ H fun v H'=>D.nx (σ.set i (ς v)) H':=fun σ H ⟨Φ,δ,F,o,hK,en,hf,k⟩=>by
 unfold sXC at hf;obtain⟨ds,hd,hf⟩:=bS hf;split at hf
 case isFalse=>cases hf
 rename_i hdsz;obtain⟨all,ha,hf⟩:=bS hf;rw[qk];refine⟨Φ,δ,F,ds,hK,en,hd,fun J ok H1 F1 st1 wd ho Z hD=>?_⟩;have en1:=en.step st1
 have wk:∀{σ2:St},σ2.length=(stC src σ).length->(∀j,j∉ts->σ2[j]?=(stC src σ)[j]?)->Wk (stC src σ) σ2:=fun {σ2} h1 h2=>by
  refine⟨h1.symm,fun j v hj=>?_⟩;by_cases hm:j∈ts
  .have:=qg2.mp hts j hm;have hn:src[j]?=ς ψ:=of_decide_eq_true this;obtain⟨i,e,_⟩:=sC hj;rw[hn]at e;cases e
  .rw[h2 j hm];exact hj
 have ok':∀{F H:Hp},Step F1 H1 F H->ok H:=fun st=>ho _ st.hh
 refine nv (n:=ds.length) (fun j H=>∃F ys done rest',Step F1 H1 F H/\H Z=ς (.e ys)/\F Z=ψ/\Reps X.K F done ys/\ja bb ft ff fs (dC src δ) (ds.drop j)=ς rest'/\qQ done rest'=all/\done.length<=j) ?_ ?_ ?_ ?_
 .refine⟨F1,[],[],all,Step.made st1.fh hD,aC,st1.fh.free hD,by simp[Reps],by simpa using ha,?_,qr4 _⟩;cases all<;>rfl
 .rintro j H' ⟨F',ys,done,rest',st,_⟩;obtain⟨p1,p2,_⟩:=wd j H' F' (ok' st) st.fh st.ff;exact⟨p1,p2⟩
 .rintro j xx H0' H' hj ⟨F0',ys,done,rest',st0,hD0,hFD0,rys0,O,U,hdl⟩ hy0;obtain⟨_,_,p3⟩:=wd j H0' F0' (ok' st0) st0.fh st0.ff;obtain⟨d,F',hd',stw,rd⟩:=p3 xx H' hj hy0;have st:=st0.trans stw;have hD':H' Z=ς (.e ys):=stw.hh _ _ hD0;have hFD:F' Z=ψ:=stw.keepN hFD0 hD0;have rys:=rys0.same stw.ff;rw[k8 hd']at O;unfold ja at O;obtain⟨δ1,h1,O⟩:=bS O;obtain⟨b,h2,O⟩:=bS O;refine⟨Φ,dC src δ,F',d,δ1,hK,(en1.step st).comp S,rd,h1,fun σ2 l2 k2 en2=>⟨wk l2 k2,Φ,δ1,F',b,hK,en2,h2,fun H3 F3 st3=>?_⟩⟩;have hD3:H3 Z=ς (.e ys):=st3.hh _ _ hD';have hF3:F3 Z=ψ:=st3.keepN hFD hD';dsimp only;split at O
  .rename_i q;rw[if_pos q];obtain⟨t,ht,O⟩:=bS O;obtain⟨as,has,ht⟩:=bS ht;refine⟨Φ,δ1,F3,as,hK,en2.step st3,has,fun vs H4 F4 st4 rv=>?_⟩;refine⟨F4,as,t,st4.fh,hlen _ _ has,rv,ht,?_⟩;have hD4:H4 Z=ς (.e ys):=st4.hh _ _ hD3;have hF4:F4 Z=ψ:=st4.keepN hF3 hD3;have s14:=(st.trans st3).trans st4;by_cases hr:∃c l,t=.rse c l
   .obtain⟨c,l,rfl⟩:=hr;cases O;subst U;cases hf;exact hK▸(en1.step s14).rtX k
   .have O:(t.d.bind fun y=>(ja bb ft ff fs (dC src δ) (ds.drop (j+1))).map fun q=>match q with
        |.inl ys=>.inl (y::ys)
        |.inr t=>.inr t)=ς rest':=by
     cases t with
     |rse c l=>exact absurd ⟨c,l,rfl⟩ hr
     |_=>exact O
    obtain⟨y,hy,O⟩:=bS O;obtain⟨q',hq',O⟩:=mS O;have hj2:done.length+1<=j+1:=by lia
    have hl:ys.length=done.length:=rys.length
    have key:KL X.K F4 H4 y fun v H5=>∃ys,H5 Z=ς (.e ys)/\ys.length<qa7/\∃F ys' done' rest',Step F1 H1 F (upd H5 Z (.e (ys++[v])))/\(upd H5 Z (.e (ys++[v]))) Z=ς (.e ys')/\F Z=ψ/\Reps X.K F done' ys'/\ja bb ft ff fs (dC src δ) (ds.drop (j+1))=ς rest'/\qQ done' rest'=all/\done'.length<=j+1:=by
     intro v H5 F5 st5 rv5;have hD5:H5 Z=ς (.e ys):=st5.hh _ _ hD4;have hF5:F5 Z=ψ:=st5.keepN hF4 hD4;have s15:=s14.trans st5
     have hall':qQ (done++[y]) q'=all:=by
      rw[<- U,<- O];cases q' with
      |inl zs=>simp[qQ]
      |inr t=>rfl
     refine⟨ys,hD5,?_,F5,ys++[v],done++[y],q',?_,aC,hF5,(rys.same ((st3.ff.trans st4.ff).trans st5.ff)).append (Reps.one rv5),hq',hall',by simp;lia⟩
     .lia
     .refine⟨fun c o e=>?_,s15.ff,fun c o e=>?_,s15.nw⟩
      .rw[ax (aP e hD)];exact s15.hh _ _ e
      .rw[ax (aP e hF5)];exact s15.fh _ _ e
    have kk:=KL.to hy key;cases t with
    |rse c l=>exact absurd ⟨c,l,rfl⟩ hr
    |_=>exact kk
  .rename_i q;rw[if_neg q];exact⟨F3,ys,done,rest',st.trans st3,hD3,hF3,rys.same st3.ff,O,U,Θ⟩
 .rintro H' ⟨F',ys,done,rest',st,hD',hFD,rys,O,U,hdl⟩;rw[qs8]at O;cases O;simp only[qQ,qd2]at U;subst U;dsimp only at hf;cases hf;have k:Post Φ D (.nx (δ.set i (ς (.e done)))):=k
  exact k _ F' H' (en1.put (t:=.e done) (S':=fun b=>b=Z) st ⟨Z,ys,rfl,rfl,hD',hK▸rys⟩ (fun b z=>by subst z;exact⟨hFD,hD,_,hD',nofun⟩) i)
theorem A6{sc sc':Ja}{N':η Str}(hy:dh sc N' i y=θ)(hl:g9 sc y=θ)(U:N'.Nodup)(S:CmpScope X.N X.env.scope scope M src)(hc:X.calm=θ)(hi:DIB X tg iter fi)(hg:M.Nodup->∀C s H ex,DG (cxC X M scope C s H ex) tg ts bb)
 (ht:∀C s H ex,DTs (cxC X M scope C s H ex) ifs ft) (h:aO sc' x=θ) (F:OkFX X.prog X.w X.K X.mg X.base x k ps (spX X.K n ff)) (hr:Room k X.A) (ha:∀C s H ex,DA (cxC X M scope C s H ex) (e::es) fs) (hts:(ts.all fun k=>decide (src[k]?=ς ψ))=θ) (hn:(e::es).length=n:=by rfl)
 (hX:X=dq (CXX P w) P w K mg base N qual scf fa cd A outer s0 H0 E:=by rfl) (e1:bU X sc:=by rfl) (e2:X.N=N':=by rfl) (e3:∀C s H ex,bU (cxC X M scope C s H ex) sc':=by intros;rfl) (hf:X.fn y=θ∨X.env.scope.names.lookup y=ς .local:=by exact .inl rfl)
 (Z:∀C s H ex,qa2 (e::es) (cxC X M scope C s H ex).env=(ξ,eval e (cxC X M scope C s H ex).env)::qa2 es (cxC X M scope C s H ex).env:=by intros;rfl) (O:∀C s H ex,(qf2 cpos' (qa2 es (cxC X M scope C s H ex).env)).any (·.1)=ξ:=by intros;rfl)
 (hs:∀x,qe5 iter X.env x=pure x:=by intro _;rfl) (hsw:qf7 (.ListComp (.Call (.Name x cp) (e::es) [] cpos') [⟨tg,iter,ifs,0⟩] scope pos) (ς (.Name y py)) spos.line X.env=pure θ:=by rfl) :
  DX1 X E (.Assign [.Name y py] (.ListComp (.Call (.Name x cp) (e::es) [] cpos') [⟨tg,iter,ifs,0⟩] scope pos) spos) (sXC i src fi bb ft ff fs):=by
 have e1:X.env.scope=sc:=e1;subst e1 e2;obtain⟨f,fd,h1,h2,h3,h4⟩:=F.ex;refine PS.mono (yi (g:=gD X.K ts bb) (tt:=tTr X.K ft) (ta:=tAL X.K fs) (sp:=spX X.K n ff) U (eV hy) (gH hl) hf S hc hi (fun U C s H ex=>hg U C s H ex) (fun C s H ex=>ht C s H ex) hX h4 hr (fun C s H ex=>glD h (e3 C s H ex)) h1 h2 h3 (fun C s H ex=>(ha C s H ex).pa) (gb h) Z O hs hsw) fun D σ H z=>?_
 exact yj S hts (fun δ ds q=>((ha 0 s0 H0 []).len δ ds q).trans hn) σ H z
end
theorem el1{α:Type}{p:η α->Prop}(h:∀a,p [a]):∀us:η α,us.length=1->p us
 |[a],_=>h a
theorem el2{α:Type}{p:η α->Prop}(h:∀a b,p [a,b]):∀us:η α,us.length=2->p us
 |[a,b],_=>h a b
theorem el3{α:Type}{p:η α->Prop}(h:∀a b c,p [a,b,c]):∀us:η α,us.length=3->p us
 |[a,b,c],_=>h a b c
theorem el4{α:Type}{p:η α->Prop}(h:∀a b c d,p [a,b,c,d]):∀us:η α,us.length=4->p us
 |[a,b,c,d],_=>h a b c d
theorem el5{α:Type}{p:η α->Prop}(h:∀a b c d e,p [a,b,c,d,e]):∀us:η α,us.length=5->p us
 |[a,b,c,d,e],_=>h a b c d e
end L2
namespace P13
open PySem L2
seal L2.PE L2.PS L2.PSs L2.PT L2.PW L2.PA L2.PI L2.PG L2.PTs L2.PO L2.PGs L2.CallR L2.OpR L2.IxR L2.SlR L2.MtR L2.UnR L2.DO L2.DL L2.DB L2.DT L2.DW L2.DS L2.DS1 L2.R2D L2.CRD L2.MRD L2.DG L2.DGs L2.DIF L2.DIB L2.DTs L2.DP
def top(i:Nat):J8:=PySem.Challenge.pw_dimhouse_k13_read_or_refused.main.body.getD i (.Pass ⟨0,0,0,0⟩)
def yk(i j:Nat):J8:=match top i with
 |.ClassDef _ _ _ body _ _ _ _ _ _ _=>body.getD j (.Pass ⟨0,0,0,0⟩)
 |_=>.Pass ⟨0,0,0,0⟩
def pk:Dt:=(.t [(.str "cell"),(.str "twin")])
def iT:Dt:=(.str "0123456789")
def bO:Dt:=(.t [(.str "cell"),(.str "twin"),(.str "shelf"),(.str "twins")])
def gz:Dt:=(.t [(.str "if"),(.str "go")])
def kl:Dt:=(.str "abcdefghijklmnopqrstuvwxyz")
def gY:Dt:=(.int 8)
def iE:Dt:=(.int 6)
def iF:Dt:=(.int 8)
def eX:Dt:=(.int 13)
def km:Dt:=(.t [(.str "shelf"),(.str "twins")])
def lj:Dt:=(.t [(.str "+"),(.str "-"),(.str "*"),(.str "<"),(.str "="),(.str "&"),(.str "|"),(.str "^")])
def k_I:η Key:=[.inr "cell",.inr "twin",.inr "shelf",.inr "twins",.inr "at",.inr "load",.inr "store",.inr "take",.inr "lay",.inr "hear",.inr "say",.inr "if",.inr "go",.inr "end"]
def fJ:η Dt:=[(.t [(.str "name"),(.str "value")]),(.t [(.str "name"),(.str "value")]),(.t [(.str "name"),(.str "size")]),(.t [(.str "name"),(.str "size")]),(.t [(.str "label")]),(.t [(.str "name"),(.str "name")]),(.t [(.str "name"),(.str "atom")]),(.t [(.str "name"),(.str "name"),(.str "atom")]),(.t [(.str "name"),(.str "atom"),(.str "atom")]),(.t [(.str "name")]),(.t [(.str "atom")]),(.t [(.str "atom"),(.str "label")]),(.t [(.str "label")]),(.t [(.str "atom")])]
def yl:Dt:=(.int 1099511627776)
abbrev CS:η Str:=["BadLine","Falls","NoLabel","Twice","Unknown"]
def z13:η Dt->ζ T:=bX 3 ((ao (sIf (tB2 (bG fun i j=>decide (i<j)) (vB 1) (toD (ag br (aa (vB 0) af)))) (aQ (d2 au (vB 0) (vB 1))) bg)
  (ao (aF 2 (toT (kD (.int 7))))
  (ao (sIf (tB2 (bG fun i j=>decide (j<i)) (toD (ag br (aa (vB 0) af))) (kD (.int 0))) (aF 2 (toT (toD (d2 fQ (toD (d2 au (vB 0) (toD (d2 fQ (vB 1) (toD (ag br (aa (vB 0) af))))))) (kD (.int 999983)))))) bg)
  (aQ (d2 fQ (toD (d2 i3 (toD (d2 aB (toD (d2 aB (vB 2) (toD (d2 i3 (kD (.int 613)) (vB 1))))) (kD (.int 29)))) (toD (d2 aB (toD (d2 aB (vB 2) (toD (d2 i3 (kD (.int 71)) (vB 1))))) (kD (.int 5)))))) (kD (.int 1000003))))))))
def q35:η Dt->ζ T:=bX 2 ((ao (sIf (fOr (tB2 (gEq ξ) (vB 1) (kD (.str "v"))) (tB2 (gEq ξ) (vB 1) (kD (.str "w")))) (aQ (ag fR (aa (vB 0) af))) bg) (jC 0)))
def q27:De->ζ Out:=(ao (aF 7 (toT (toD (d2 au (toD (jL (b9 (kD (.str "n")) (kD (.str "n")) (b9 (kD (.str ".")) (kD (.str "nvw")) (b9 (kD (.str "l")) (kD (.str "nvl")) nI))))) (toD (d2 au (vB 5) (vB 6))))))) (sIf (tB2 (bv θ) (toD (d2 au (vB 1) (toD (d2 aB (vB 6) (kD (.int 1)))))) (vB 7)) (aQ (toT (kD .non))) bg))
def q36:De->ζ Dt:=(toD (ag q35 (aa (vL 0) (aa (vL 1) af))))
def q37:η Dt->ζ T:=bX 8 ((ao (aF 2 (toT (toD (bu [ψ,ψ] (dj A0 (aa (vL 0) (aa (vL 1) af))) (gK 2 (aJ (ak 0) (aJ (ak 1) cE))) bQ q36))))
  (ao (aF 3 (toT (toD (bR fE (toD (bR fE (vB 1) (aa (kD (.str "v")) (aa (kD (.str "n")) af)))) (aa (kD (.str "w")) (aa (kD (.str "n")) af))))))
  (ao (sIf (cN (tB2 (gEq ξ) (toD (vSl (vB 1) (a0 (kD (.int 1))) (a0 (kD (.int 2))))) (kD (.str "="))) (tB2 (bG fun i j=>decide (j<i)) (toD (ag br (aa (vB 1) af))) (kD (.int 2)))) (ao (sIf (cN (tB2 (gEq ξ) (toD (d2 au (vB 1) (kD (.int 0)))) (kD (.str "n"))) (tB2 (gEq ξ) (toD (vSl (vB 3) (a0 (kD (.int 2))) cH)) (kD (.str "n")))) (aQ (cT (aa (kD (.str "copy")) (aa (toD (d2 au (vB 0) (kD (.int 0)))) (aa (toD (d2 au (vB 2) (kD (.int 2)))) af))))) bg)
  (ao (sIf (cN (tB2 (gEq ξ) (toD (d2 au (vB 1) (kD (.int 0)))) (kD (.str "n"))) (tB2 (bv ξ) (toD (vSl (vB 3) (a0 (kD (.int 2))) cH)) (toD (cT (aa (kD (.str "nsn")) (aa (kD (.str "n=n")) af)))))) (aQ (cT (aa (kD (.str "op")) (aa (toD (d2 au (vB 0) (kD (.int 0)))) (aa (toD (d2 au (vB 0) (kD (.int 3)))) (aa (toD (d2 au (vB 2) (kD (.int 2)))) (aa (toD (d2 au (vB 2) (kD (.int 4)))) af))))))) bg)
  (aQ (toT (kD .non))))) bg)
  (ao (aF 4 (toT (toD (jL (b9 (kD (.str "load")) (kD (.str "nn")) (b9 (kD (.str "store")) (kD (.str "n.")) (b9 (kD (.str "take")) (kD (.str "nn.")) (b9 (kD (.str "lay")) (kD (.str "n..")) (b9 (kD (.str "hear")) (kD (.str "n")) (b9 (kD (.str "say")) (kD (.str ".")) (b9 (kD (.str "end")) (kD (.str ".")) (b9 (kD (.str "go")) (kD (.str "l")) nI))))))))))))
  (ao (aF 5 (toT (toD (d2 aB (toD (vT (vB 4) (toD (d2 au (vB 0) (kD (.int 0)))) (kD (.str "")))) (toD (d2 qJ (kD (.str ".l")) (toD (ag fR (aa (toD (d2 (gEq ξ) (toD (d2 au (vB 0) (kD (.int 0)))) (kD (.str "if")))) af)))))))))
  (ao (sIf (fOr (tB2 (gEq ξ) (vB 5) (kD (.str ""))) (tB2 (gEq θ) (toD (ag br (aa (vB 1) af))) (toD (d2 aB (toD (ag br (aa (vB 5) af))) (kD (.int 1)))))) (aQ (toT (kD .non))) bg)
  (ao (dP (dj iu (aa (toD (ag br (aa (vB 5) af))) af)) (ak 6) q27)
  (ao (sIf (tB2 (gEq ξ) (toD (d2 au (vB 5) (toD (hJ (kD (.int 1)))))) (kD (.str "l"))) (aQ (d2 nK (toD (d2 nK (toD (cT (aa (toD (d2 au (vB 0) (kD (.int 0)))) af))) (toD (ag ge (aa (toD (vSl (vB 2) (a0 (kD (.int 1))) (a0 (toD (hJ (kD (.int 1))))))) af))))) (toD (cT (aa (toD (d2 au (vB 0) (toD (hJ (kD (.int 1)))))) af))))) bg)
  (aQ (d2 nK (toD (cT (aa (toD (d2 au (vB 0) (kD (.int 0)))) af))) (toD (ag ge (aa (toD (vSl (vB 2) (a0 (kD (.int 1))) cH)) af))))))))))))))
def q25:η Dt->ζ T:=bX 5 ((ao (sIf (fOr (tB2 (gEq θ) (toD (vSl (vB 1) (a0 (kD (.int 1))) (a0 (kD (.int 2))))) (kD (.str "="))) (tB2 (bG fun i j=>decide (i<j)) (toD (ag br (aa (vB 1) af))) (kD (.int 3)))) (ao (sIf (tB2 (gEq ξ) (toD (d2 au (vB 0) (kD (.int 0)))) (kD (.str "at"))) (ao (aF 3 (toT (toD (iZ (toD (d2 (gEq ξ) (toD (ag br (aa (vB 1) af))) (kD (.int 2)))) (d2 (bv ξ) (toD (d2 au (vB 1) (kD (.int 1)))) (kD (.str "nvl")))))))
  (aQ (vIf (dG (vB 3)) (aZ (aa (kD (.str "at")) (aa (toD (d2 au (vB 0) (toD (hJ (kD (.int 1)))))) af))) (toT (kD .non))))) bg)
  (sIf (tB2 (bv ξ) (toD (d2 au (vB 0) (kD (.int 0)))) (toD (cT (aa (kD (.str "cell")) (aa (kD (.str "twin")) (aa (kD (.str "shelf")) (aa (kD (.str "twins")) af))))))) (ao (sIf (fOr (dG (vB 2)) (fOr (tB2 (gEq θ) (toD (ag br (aa (vB 1) af))) (kD (.int 3))) (fOr (tB2 (gEq θ) (toD (d2 au (vB 1) (kD (.int 1)))) (kD (.str "n"))) (tB2 (bv θ) (toD (d2 au (vB 1) (kD (.int 2)))) (kD (.str "vw")))))) (aQ (toT (kD .non))) bg)
  (ao (sIf (cN (tB2 (bv ξ) (toD (d2 au (vB 0) (kD (.int 0)))) (toD (cT (aa (kD (.str "shelf")) (aa (kD (.str "twins")) af))))) (ip (hG (ck (bG fun i j=>decide (i<=j)) (bG fun i j=>decide (i<=j)) (kD (.int 1)) (toD (ag fR (aa (toD (d2 au (vB 0) (kD (.int 2)))) af))) (kD (.int 8)))))) (aQ (toT (kD .non))) bg)
  (aQ (aZ (aa (toD (d2 au (vB 0) (kD (.int 0)))) (aa (toD (cT (aa (toD (d2 au (vB 0) (kD (.int 1)))) (aa (toD (ag fR (aa (toD (d2 au (vB 0) (kD (.int 2)))) af))) (aa (toD (d2 (gEq ξ) (toD (vSl (toD (d2 au (vB 0) (kD (.int 0)))) cH (a0 (kD (.int 2))))) (kD (.str "tw")))) af))))) af)))))) bg)) bg)
  (ao (aF 4 (toT (toD (ag q37 (aa (vL 0) (aa (vL 1) af))))))
  (aQ (vIf (tB2 (gIs θ) (vB 4) (kD .non)) (aZ (aa (kD (.str "row")) (aa (vL 4) af))) (toT (kD .non)))))))
def z21:De->ζ Out:=(ao (sIf (tB2 (gEq ξ) (vB 3) (kD (.str "at"))) (kc 1 (vB 4) (vL 2)) bg) (aF 2 (toT (toD (d2 aB (vB 2) (toD (ag fR (aa (toD (d2 (gEq ξ) (vB 3) (kD (.str "row")))) af))))))))
def y12:De->ζ Out:=(ao (sIf (cN (tB2 (gEq ξ) (vB 3) (kD (.str "row"))) (tB2 (bv ξ) (toD (d2 au (vB 4) (kD (.int 0)))) (toD (cT (aa (kD (.str "go")) (aa (kD (.str "if")) af)))))) (ao (sIf (tB2 (bv θ) (toD (d2 au (vB 4) (toD (hJ (kD (.int 1)))))) (vB 1)) (aQ (aZ (aa (kD (.str "label")) (aa (toD (d2 au (vB 4) (toD (hJ (kD (.int 1)))))) af)))) bg)
  (aF 4 (toT (toD (d2 nH (toD (vSl (vB 4) cH (a0 (toD (hJ (kD (.int 1))))))) (toD (cT (aa (toD (d2 au (vB 1) (toD (d2 au (vB 4) (toD (hJ (kD (.int 1)))))))) af)))))))) bg)
  (sIf (tB2 (gEq ξ) (vB 3) (kD (.str "row"))) (y17 5 (vL 4)) bg))
def q92:De->ζ Bool:=(tB2 (bv ξ) (vB 0) (toD (cT (aa (kD (.str "cell")) (aa (kD (.str "twin")) af)))))
def y91:De->ζ Bool:=(tB2 (bv ξ) (vB 0) (toD (cT (aa (kD (.str "shelf")) (aa (kD (.str "twins")) af)))))
def z37:η Dt->ζ T:=bX 8 ((ao (aF 1 qB)
  (ao (aF 2 (toT (kD (.int 0))))
  (ao (dP (fIt (vL 0)) (fH 2 (aJ (ak 3) (aJ (ak 4) cE))) z21)
  (ao (aF 5 (aZ af))
  (ao (dP (fIt (vL 0)) (fH 2 (aJ (ak 3) (aJ (ak 4) cE))) y12)
  (ao (aF 6 (toT (toD (bu [ψ,ψ] (fIt (vB 0)) (fH 2 (aJ (ak 0) (aJ (ak 1) cE))) q92 (vL 1)))))
  (ao (aF 7 (toT (toD (bu [ψ,ψ] (fIt (vB 0)) (fH 2 (aJ (ak 0) (aJ (ak 1) cE))) y91 (vL 1)))))
  (aQ (aZ (aa (kD (.str "good")) (aa (toD (cT (aa (toD (ag ge (aa (vB 6) af))) (aa (toD (ag ge (aa (vB 7) af))) (aa (toD (ag ge (aa (vB 5) af))) af))))) af))))))))))))
def y67:De->ζ Bool:=(tB2 (bv θ) (vB 0) (kD (.str "abcdefghijklmnopqrstuvwxyz")))
def q53:De->ζ Bool:=(tB2 (bv θ) (vB 0) (kD (.str "0123456789")))
def z40:De->ζ Bool:=(tB2 (bv θ) (vB 0) (kD (.str "0123456789")))
def q40:η Dt->ζ T:=bX 2 ((ao (sIf (tB2 (gEq ξ) (vB 0) (kD (.str "="))) (aQ (toT (kD (.str "=")))) bg)
  (ao (sIf (cN (tB2 (gEq ξ) (toD (ag br (aa (vB 0) af))) (kD (.int 1))) (tB2 (bv ξ) (vB 0) (kD (.str "+-*<&|^")))) (aQ (toT (kD (.str "s")))) bg)
  (ao (aF 1 (toT (toD (bu [ψ] (fIt (vB 0)) (ak 0) y67 (vL 0)))))
  (ao (sIf (cN (tB2 (gEq ξ) (vB 1) (toD (aZ af))) (hG (ck (bG fun i j=>decide (i<=j)) (bG fun i j=>decide (i<=j)) (kD (.int 1)) (toD (ag br (aa (vB 0) af))) (kD (.int 6))))) (aQ (toT (kD (.str "n")))) bg)
  (ao (sIf (cN (tB2 (gEq ξ) (vB 1) (toD (aZ af))) (hG (ck (bG fun i j=>decide (i<=j)) (bG fun i j=>decide (i<=j)) (kD (.int 1)) (toD (ag br (aa (vB 0) af))) (kD (.int 8))))) (aQ (toT (kD (.str "l")))) bg)
  (ao (sIf (cN (tB2 (gEq ξ) (toD (bu [ψ] (fIt (vB 0)) (ak 0) q53 (vL 0))) (toD (aZ af))) (hG (ck (bG fun i j=>decide (i<=j)) (bG fun i j=>decide (i<=j)) (kD (.int 1)) (toD (ag br (aa (vB 0) af))) (kD (.int 13))))) (sIf (fOr (tB2 (gEq ξ) (vB 0) (kD (.str "0"))) (cN (tB2 (gEq θ) (toD (d2 au (vB 0) (kD (.int 0)))) (kD (.str "0"))) (tB2 (bG fun i j=>decide (i<j)) (toD (ag fR (aa (vB 0) af))) (toD (d2 kW (kD (.int 2)) (kD (.int 40))))))) (aQ (d2 au (toD (aZ (aa (kD (.str "v")) (aa (kD (.str "w")) af)))) (toD (ag fR (aa (toD (d2 (bG fun i j=>decide (j<i)) (toD (ag br (aa (vB 0) af))) (kD (.int 8)))) af))))) bg) bg)
  (ao (sIf (cN (tB2 (gEq ξ) (toD (bu [ψ] (fIt (vB 1)) (ak 0) z40 (vL 0))) (toD (aZ af))) (hG (ck (bG fun i j=>decide (i<=j)) (bG fun i j=>decide (i<=j)) (kD (.int 1)) (toD (ag br (aa (vB 0) af))) (kD (.int 8))))) (aQ (toT (kD (.str "l")))) bg)
  (aQ (toT (kD (.str "?"))))))))))))
def q22:De->ζ Dt:=(toD (ag q40 (aa (vL 0) af)))
def z17:De->ζ Out:=(ao (aF 5 (toT (toD (bR dl (vB 4) (aa (kD (.str " ")) af)))))
  (ao (aF 6 (toT (toD (ag q25 (aa (vL 5) (aa (toD (bR cA (kD (.str "")) (aa (toD (bu [ψ] (fIt (vB 5)) (ak 0) bQ q22)) af))) (aa (vL 2) af)))))))
  (ao (sIf (tB2 (gIs ξ) (vB 6) (kD .non)) (aQ (aZ (aa (kD (.str "line")) (aa (vL 3) af)))) bg)
  (ao (aF 2 (toT (toD (vOr (vB 2) (d2 (bv ξ) (toD (d2 au (vB 6) (kD (.int 0)))) (toD (cT (aa (kD (.str "at")) (aa (kD (.str "row")) af)))))))))
  (y17 1 (vL 6))))))
def y15:De->ζ Out:=(sIf (tB2 (gEq θ) (vB 8) (kD (.str "row"))) (ao (aF 10 (toT (toD (aZ (aa (toD (d2 (gEq ξ) (vB 8) (kD (.str "at")))) (aa (toD (d2 au (toD (aZ (aa (vL 9) (aa (toD (d2 au (vB 9) (kD (.int 0)))) af)))) (toD (ag fR (aa (toD (d2 (gEq θ) (vB 8) (kD (.str "at")))) af))))) af))))))
  (ao (sIf (tB2 yg (vB 10) (vB 7)) (aQ (aZ (aa (kD (.str "twice")) (aa (toD (d2 au (vB 10) (kD (.int 1)))) af)))) bg)
  (y17 7 (vL 10)))) bg)
def z20:η Dt->ζ T:=bX 11 ((ao (aF 1 (aZ af))
  (ao (aF 2 (toT (kD (.bl ξ))))
  (ao (dP (dj jI (aa (vL 0) af)) (gK 2 (aJ (ak 3) (aJ (ak 4) cE))) z17)
  (ao (aF 7 (aZ af))
  (ao (gt 1 (dP (fIt (vL 1)) (fH 2 (aJ (ak 8) (aJ (ak 9) cE))) y15))
  (gt 1 (aQ (ag z37 (aa (vL 1) af))))))))))
def z9:η Dt->ζ T:=bX 4 ((ao (aF 3 (toT (toD (cT (aa (kD (.int 10007)) (aa (kD (.int 10009)) (aa (kD (.int 10037)) (aa (kD (.int 10039)) (aa (kD (.int 10061)) (aa (kD (.int 10067)) (aa (kD (.int 10069)) (aa (kD (.int 10079)) af)))))))))))) (aQ (d2 fQ (toD (d2 fQ (toD (d2 aB (toD (d2 i3 (vB 0) (kD (.int 48271)))) (toD (d2 i3 (kD (.int 7919)) (vB 1))))) (toD (d2 au (vB 3) (toD (d2 fQ (vB 1) (kD (.int 8)))))))) (vB 2)))))
def y52:De->ζ Dt:=(toD (d2 au (vB 2) (toD (ag z9 (aa (vL 1) (aa (vL 0) (aa (kD (.int 26)) af)))))))
def z16:η Dt->ζ T:=bX 5 ((ao (aF 2 (toT (kD (.str "abcdefghijklmnopqrstuvwxyz"))))
  (ao (aF 3 (toT (toD (d2 aB (kD (.int 1)) (toD (ag z9 (aa (vL 0) (aa (kD (.int 7)) (aa (kD (.int 6)) af)))))))))
  (ao (aF 4 (bu [ψ,ς 0,ς 2] (dj iu (aa (vL 3) af)) (ak 0) bQ y52))
  (ao (kc 4 (toD (ag z9 (aa (vL 0) (aa (kD (.int 3)) (aa (vL 3) af))))) (toD (d2 au (vB 2) (toD (d2 fQ (toD (d2 aB (toD (ag z9 (aa (vL 0) (aa (kD (.int 4)) (aa (kD (.int 26)) af))))) (vB 1))) (kD (.int 26)))))))
  (aQ (bR cA (kD (.str "")) (aa (vB 4) af))))))))
def q31:η Dt->ζ T:=bX 3 ((ao (sIf (tB2 (gEq ξ) (toD (ag z9 (aa (vL 0) (aa (vL 1) (aa (kD (.int 3)) af))))) (kD (.int 0))) (aQ (ag jH (aa (toD (d2 au (toD (aZ (aa (toD (d2 fQ (toD (d2 i3 (vB 0) (kD (.int 94906267)))) (toD (d2 kW (kD (.int 2)) (kD (.int 40)))))) (aa (toD (ag z9 (aa (vL 0) (aa (toD (d2 aB (vB 1) (kD (.int 1)))) (aa (kD (.int 12)) af))))) af)))) (toD (ag z9 (aa (vL 0) (aa (toD (d2 aB (vB 1) (kD (.int 2)))) (aa (kD (.int 2)) af))))))) af))) bg) (aQ (ag z16 (aa (vL 2) (aa (toD (ag z9 (aa (vL 0) (aa (toD (d2 aB (vB 1) (kD (.int 1)))) (aa (kD (.int 7)) af))))) af))))))
def y47:De->ζ Dt:=(toD (d2 au (vB 2) (toD (ag z9 (aa (vL 1) (aa (toD (d2 aB (vB 0) (kD (.int 1)))) (aa (kD (.int 36)) af)))))))
def y16:η Dt->ζ T:=bX 5 ((ao (aF 2 (toT (kD (.str "abcdefghijklmnopqrstuvwxyz0123456789"))))
  (ao (aF 3 (toT (toD (d2 aB (kD (.int 1)) (toD (ag z9 (aa (vL 0) (aa (kD (.int 6)) (aa (kD (.int 8)) af)))))))))
  (ao (aF 4 (bu [ψ,ς 0,ς 2] (dj iu (aa (vL 3) af)) (ak 0) bQ y47))
  (ao (kc 4 (toD (ag z9 (aa (vL 0) (aa (kD (.int 2)) (aa (vL 3) af))))) (toD (d2 au (vB 2) (toD (d2 fQ (toD (d2 aB (toD (ag z9 (aa (vL 0) (aa (kD (.int 5)) (aa (kD (.int 36)) af))))) (vB 1))) (kD (.int 36)))))))
  (aQ (bR cA (kD (.str "")) (aa (vB 4) af))))))))
def y39:η Dt->ζ T:=bX 8 ((ao (aF 2 (toT (toD (ag z16 (aa (vL 1) (aa (toD (ag z9 (aa (vL 0) (aa (kD (.int 2)) (aa (kD (.int 7)) af))))) af))))))
  (ao (aF 3 (toT (toD (ag q31 (aa (vL 0) (aa (kD (.int 3)) (aa (vL 1) af)))))))
  (ao (aF 4 (toT (toD (ag q31 (aa (toD (d2 aB (vB 0) (kD (.int 11)))) (aa (kD (.int 4)) (aa (vL 1) af)))))))
  (ao (aF 5 (toT (toD (ag z16 (aa (vL 1) (aa (toD (ag z9 (aa (vL 0) (aa (kD (.int 6)) (aa (kD (.int 7)) af))))) af))))))
  (ao (aF 6 (toT (toD (ag y16 (aa (vL 1) (aa (toD (ag z9 (aa (vL 0) (aa (kD (.int 7)) (aa (kD (.int 6)) af))))) af))))))
  (ao (aF 7 (toT (toD (aZ (aa (toD (d2 aB (toD (d2 aB (vB 2) (kD (.str " = ")))) (vB 3))) (aa (toD (d2 aB (toD (d2 aB (toD (d2 aB (toD (d2 aB (toD (d2 aB (toD (d2 aB (vB 2) (kD (.str " = ")))) (vB 3))) (kD (.str " ")))) (toD (d2 au (kD (.str "+-*<=&|^")) (toD (ag z9 (aa (vL 0) (aa (kD (.int 1)) (aa (kD (.int 8)) af))))))))) (kD (.str " ")))) (vB 4))) (aa (toD (d2 aB (toD (d2 aB (toD (d2 aB (kD (.str "load ")) (vB 2))) (kD (.str " ")))) (vB 5))) af)))))))
  (ao (aF 7 (toT (toD (d2 aB (vB 7) (toD (aZ (aa (toD (d2 aB (toD (d2 aB (toD (d2 aB (kD (.str "store ")) (vB 5))) (kD (.str " ")))) (vB 3))) (aa (toD (d2 aB (toD (d2 aB (toD (d2 aB (toD (d2 aB (toD (d2 aB (kD (.str "take ")) (vB 2))) (kD (.str " ")))) (vB 5))) (kD (.str " ")))) (vB 3))) (aa (toD (d2 aB (toD (d2 aB (toD (d2 aB (toD (d2 aB (toD (d2 aB (kD (.str "lay ")) (vB 5))) (kD (.str " ")))) (vB 3))) (kD (.str " ")))) (vB 4))) af)))))))))
  (ao (aF 7 (toT (toD (d2 aB (vB 7) (toD (aZ (aa (toD (d2 aB (kD (.str "hear ")) (vB 2))) (aa (toD (d2 aB (kD (.str "say ")) (vB 3))) (aa (toD (d2 aB (kD (.str "end ")) (vB 3))) (aa (toD (d2 aB (toD (d2 aB (toD (d2 aB (kD (.str "if ")) (vB 3))) (kD (.str " ")))) (vB 6))) (aa (toD (d2 aB (kD (.str "go ")) (vB 6))) af)))))))))))
  (aQ (d2 au (toD (d2 aB (vB 7) (toD (aZ (aa (toD (d2 aB (kD (.str "at ")) (vB 6))) (aa (toD (d2 aB (kD (.str "at ")) (vB 6))) (aa (toD (d2 aB (kD (.str "at ")) (vB 6))) af))))))) (toD (ag z9 (aa (vL 0) (aa (kD (.int 0)) (aa (kD (.int 14)) af))))))))))))))))
def q28:De->ζ Out:=(ao (aF 6 (toT (toD (ag z13 (aa (vL 0) (aa (toD (d2 aB (kD (.int 4)) (vB 5))) af))))))
  (ao (aF 7 (toT (toD (ag z16 (aa (vL 1) (aa (toD (d2 au (toD (aZ (aa (toD (ag z9 (aa (vL 6) (aa (kD (.int 2)) (aa (kD (.int 20)) af))))) (aa (vL 5) af)))) (toD (ag fR (aa (vB 3) af))))) af))))))
  (ao (aF 8 (toT (toD (ag z9 (aa (vL 6) (aa (kD (.int 0)) (aa (kD (.int 4)) af)))))))
  (sIf (cN (tB2 (bG fun i j=>decide (j<i)) (vB 8) (kD (.int 1))) (tB2 (bG fun i j=>decide (i<j)) (vB 5) (kD (.int 4)))) (y17 4 (toD (d2 aB (toD (d2 aB (toD (d2 aB (toD (d2 au (toD (aZ (aa (kD (.str "shelf ")) (aa (kD (.str "twins ")) af)))) (toD (d2 lR (vB 8) (kD (.int 2)))))) (vB 7))) (kD (.str " ")))) (toD (ag jH (aa (toD (d2 aB (kD (.int 1)) (toD (ag z9 (aa (vL 6) (aa (kD (.int 1)) (aa (kD (.int 8)) af))))))) af)))))) (y17 4 (toD (d2 aB (toD (d2 aB (toD (d2 aB (toD (d2 au (toD (aZ (aa (kD (.str "cell ")) (aa (kD (.str "twin ")) af)))) (toD (d2 fQ (vB 8) (kD (.int 2)))))) (vB 7))) (kD (.str " ")))) (toD (ag jH (aa (toD (d2 fQ (toD (d2 i3 (vB 6) (kD (.int 94906267)))) (toD (d2 kW (kD (.int 2)) (kD (.int 40)))))) af))))))))))
def z35:η Dt->ζ T:=bX 9 ((ao (aF 3 (toT (toD (d2 (gEq ξ) (toD (ag z9 (aa (vL 1) (aa (kD (.int 1)) (aa (kD (.int 3)) af))))) (kD (.int 1))))))
  (ao (aF 4 (aZ af))
  (ao (dP (dj iu (aa (vL 2) af)) (ak 5) q28)
  (jC 4)))))
def y61:De->ζ Dt:=(toD (ag y39 (aa (toD (ag z13 (aa (vL 1) (aa (toD (d2 aB (kD (.int 8)) (vB 0))) af)))) (aa (vL 2) af))))
def q47:De->ζ Bool:=(tB2 (bv θ) (toD (d2 aB (kD (.str "at ")) (toD (ag y16 (aa (vL 1) (aa (vL 0) af)))))) (vB 2))
def y37:De->ζ Dt:=(toD (d2 aB (kD (.str "at ")) (toD (ag y16 (aa (vL 1) (aa (vL 0) af))))))
def q33:η Dt->ζ T:=bX 6 ((ao (aF 1 (toT (toD (ag z13 (aa (vL 0) (aa (kD (.int 0)) af))))))
  (ao (aF 2 (toT (toD (ag z13 (aa (vL 0) (aa (kD (.int 1)) af))))))
  (ao (aF 3 (toT (toD (ag z35 (aa (vL 0) (aa (vL 2) (aa (toD (ag z9 (aa (vL 1) (aa (kD (.int 0)) (aa (kD (.int 7)) af))))) af)))))))
  (ao (aF 4 (toT (toD (d2 aB (kD (.int 1)) (toD (ag z9 (aa (vL 1) (aa (kD (.int 1)) (aa (kD (.int 10)) af)))))))))
  (ao (sIf (tB2 (gEq ξ) (toD (ag z9 (aa (vL 1) (aa (kD (.int 2)) (aa (kD (.int 8)) af))))) (kD (.int 1))) (aF 4 (toT (toD (d2 aB (kD (.int 1)) (toD (ag z9 (aa (vL 1) (aa (kD (.int 3)) (aa (kD (.int 40)) af))))))))) bg)
  (ao (aF 5 (d2 aB (vB 3) (toD (bu [ψ,ς 0,ς 2] (dj iu (aa (vL 4) af)) (ak 0) bQ y61))))
  (ao (sIf (tB2 (bG fun i j=>decide (j<i)) (toD (ag z9 (aa (vL 1) (aa (kD (.int 4)) (aa (kD (.int 3)) af))))) (kD (.int 0))) (aF 5 (d2 aB (vB 5) (toD (bu [ψ,ς 2,ς 5] (dj iu (aa (kD (.int 6)) af)) (ak 0) q47 y37)))) bg)
  (jC 5)))))))))
def y46(F:η Dt->ζ T):De->ζ Dt:=(toD (ag F (aa (toD (d2 au (vB 1) (vB 0))) (aa (toD (d2 au (vB 2) (vB 0))) af))))
def z15 (F:η Dt->ζ T):η Dt->ζ T:=bX 2 ((ao (sIf (dG (toD (i9 "tuple" (vB 1)))) (ao (sIf (fOr (ip (dG (toD (i9 "tuple" (vB 0))))) (tB2 (gEq θ) (toD (ag br (aa (vB 0) af))) (toD (ag br (aa (vB 1) af))))) (aQ (toT (kD (.bl ξ)))) bg)
  (aQ (ag (xI fun bs=>bs.all id) (aa (toD (bu [ψ,ς 0,ς 1] (dj iu (aa (toD (ag br (aa (vB 1) af))) af)) (ak 0) bQ (y46 F))) af)))) bg)
  (ao (sIf (dG (toD (i9 "bool" (vB 1)))) (aQ (iZ (toD (i9 "bool" (vB 0))) (d2 (gEq ξ) (vB 0) (vB 1)))) bg)
  (ao (sIf (dG (toD (i9 "int" (vB 1)))) (aQ (iZ (toD (i9 "int" (vB 0))) (iZ (toD (Au (toD (i9 "bool" (vB 0))))) (d2 (gEq ξ) (vB 0) (vB 1))))) bg)
  (aQ (iZ (toD (i9 "str" (vB 0))) (d2 (gEq ξ) (vB 0) (vB 1))))))))
def z10:Nat->η Dt->ζ T
 |0=>bX 2 fun _=>ψ
 |n+1=>z15 (z10 n)
def q61:De->ζ Bool:=(tB2 (bv ξ) (toD (d2 au (vB 0) (kD (.int 0)))) (vB 1))
def q48:De->ζ Dt:=(toD (cT (aa (toD (d2 au (vB 0) (kD (.int 1)))) (aa (toD (d2 au (vB 0) (kD (.int 2)))) (aa (toD (d2 (gEq ξ) (toD (d2 au (vB 0) (kD (.int 0)))) (toD (d2 au (vB 1) (kD (.int 1)))))) af)))))
def y28:η Dt->ζ T:=bX 2 ((aQ (ag ge (aa (toD (bu [ψ,ς 1] (fIt (vB 0)) (ak 0) q61 q48)) af))))
def y21:De->ζ Out:=(sIf (tB2 (gEq ξ) (toD (d2 au (vB 3) (kD (.int 0)))) (kD (.str "at"))) (kc 1 (toD (d2 au (vB 3) (kD (.int 1)))) (vL 2)) (sIf (tB2 (bv θ) (toD (d2 au (vB 3) (kD (.int 0)))) (kD bO)) (AF (fun i j=>i+j) 2 (kD (.int 1))) bg))
def q19:η Dt->ζ T:=bX 4 ((ao (aF 1 qB)
  (ao (aF 2 (toT (kD (.int 0))))
  (ao (dP (fIt (vL 0)) (ak 3) y21)
  (jC 1)))))
def z47:De->ζ Dt:=(toD (d2 (bv ξ) (vB 0) (vB 1)))
def q16:η Dt->ζ T:=bX 3 ((aQ (iZ (toD (ck (bG fun i j=>decide (i<=j)) (bG fun i j=>decide (i<=j)) (kD (.int 1)) (toD (ag br (aa (vB 0) af))) (vB 2))) (ag (xI fun bs=>bs.all id) (aa (toD (bu [ψ,ς 1] (fIt (vB 0)) (ak 0) bQ z47)) af)))))
def z34:η Dt->ζ T:=bX 1 ((aQ (ag q16 (aa (vL 0) (aa (kD kl) (aa (kD iE) af))))))
def q20:η Dt->ζ T:=bX 2 ((ao (sIf (ip (dG (toD (ag q16 (aa (vL 0) (aa (kD iT) (aa (kD eX) af))))))) (aQ (toT (kD .non))) bg)
  (ao (sIf (cN (dG (toD (bR cI (vB 0) (aa (kD (.str "0")) af)))) (tB2 (gEq θ) (vB 0) (kD (.str "0")))) (aQ (toT (kD .non))) bg)
  (ao (aF 1 (toT (toD (ag fR (aa (vB 0) af)))))
  (aQ (vIf (tB2 (bG fun i j=>decide (i<j)) (vB 1) (kD yl)) (toT (vL 1)) (toT (kD .non))))))))
def q51:η Dt->ζ T:=bX 1 ((aQ (vIf (dG (toD (ag z34 (aa (vL 0) af)))) (toT (vL 0)) (ag q20 (aa (vL 0) af)))))
def y42:η Dt->ζ T:=bX 1 ((aQ (ag q16 (aa (vL 0) (aa (toD (d2 aB (kD kl) (kD iT))) (aa (kD gY) af))))))
def y51:η Dt->ζ T:=bX 2 ((ao (aF 1 (toT (toD (ag q20 (aa (vL 0) af))))) (aQ (vIf (cN (tB2 (gIs θ) (vB 1) (kD .non)) (hG (ck (bG fun i j=>decide (i<=j)) (bG fun i j=>decide (i<=j)) (kD (.int 1)) (vB 1) (kD iF)))) (toT (vL 1)) (toT (kD .non))))))
def q52:η Dt->ζ T:=bX 3 ((ao (sIf (tB2 (gEq ξ) (vB 0) (kD (.str "atom"))) (aQ (ag q51 (aa (vL 1) af))) bg)
  (ao (sIf (tB2 (gEq ξ) (vB 0) (kD (.str "value"))) (aQ (ag q20 (aa (vL 1) af))) bg)
  (ao (sIf (tB2 (gEq ξ) (vB 0) (kD (.str "size"))) (aQ (ag y51 (aa (vL 1) af))) bg)
  (ao (sIf (tB2 (gEq ξ) (vB 0) (kD (.str "name"))) (aF 2 (toT (toD (ag z34 (aa (vL 1) af))))) (sIf (tB2 (gEq ξ) (vB 0) (kD (.str "label"))) (aF 2 (toT (toD (ag y42 (aa (vL 1) af))))) (aF 2 (toT (toD (d2 (bv ξ) (vB 1) (kD lj)))))))
  (aQ (vIf (dG (vB 2)) (toT (vL 1)) (toT (kD .non)))))))))
def z45:De->ζ Dt:=(toD (ag q52 (aa (vL 0) (aa (vL 1) af))))
def y35:η Dt->ζ T:=bX 4 ((ao (sIf (tB2 (gEq θ) (toD (ag br (aa (vB 2) af))) (toD (ag br (aa (vB 1) af)))) (aQ (toT (kD .non))) bg)
  (ao (aF 3 (toT (toD (bu [ψ,ψ] (dj Dw (aa (vL 1) (aa (vL 2) af))) (gK 2 (aJ (ak 0) (aJ (ak 1) cE))) bQ z45))))
  (aQ (vIf (tB2 (bv ξ) (kD .non) (vB 3)) (toT (kD .non)) (ag ge (aa (toD (d2 aB (toD (aZ (aa (vL 0) af))) (vB 3))) af)))))))
def y32:η Dt->ζ T:=bX 1 ((ao (sIf (tB2 (gEq ξ) (toD (ag br (aa (vB 0) af))) (kD (.int 3))) (aQ (ag y35 (aa (kD (.str "copy")) (aa (toD (cT (aa (kD (.str "name")) (aa (kD (.str "atom")) af)))) (aa (toD (aZ (aa (toD (d2 au (vB 0) (kD (.int 0)))) (aa (toD (d2 au (vB 0) (kD (.int 2)))) af)))) af))))) bg)
  (ao (sIf (tB2 (gEq ξ) (toD (ag br (aa (vB 0) af))) (kD (.int 5))) (aQ (ag y35 (aa (kD (.str "op")) (aa (toD (cT (aa (kD (.str "name")) (aa (kD (.str "sign")) (aa (kD (.str "atom")) (aa (kD (.str "atom")) af)))))) (aa (toD (aZ (aa (toD (d2 au (vB 0) (kD (.int 0)))) (aa (toD (d2 au (vB 0) (kD (.int 3)))) (aa (toD (d2 au (vB 0) (kD (.int 2)))) (aa (toD (d2 au (vB 0) (kD (.int 4)))) af)))))) af))))) bg)
  (aQ (toT (kD .non))))))
def z51:η Dt->ζ T:=bX 2 ((ao (aF 1 (toT (toD (bR dl (vB 0) (aa (kD (.str " ")) af)))))
  (ao (sIf (cN (tB2 (bG fun i j=>decide (j<i)) (toD (ag br (aa (vB 1) af))) (kD (.int 1))) (tB2 (gEq ξ) (toD (d2 au (vB 1) (kD (.int 1)))) (kD (.str "=")))) (aQ (ag y32 (aa (vL 1) af))) bg)
  (ao (sIf (fSi θ k_I fJ (toD (d2 au (vB 1) (kD (.int 0))))) (aQ (toT (kD .non))) bg)
  (aQ (ag y35 (aa (toD (d2 au (vB 1) (kD (.int 0)))) (aa (toD (vSg k_I fJ (toD (d2 au (vB 1) (kD (.int 0)))))) (aa (toD (vSl (vB 1) (a0 (kD (.int 1))) cH)) af)))))))))
def z27:De->ζ Out:=(ao (aF 5 (toT (toD (ag z51 (aa (vL 4) af)))))
  (ao (sIf (fOr (tB2 (gIs ξ) (vB 5) (kD .non)) (cN (tB2 (bv ξ) (toD (d2 au (vB 5) (kD (.int 0)))) (kD bO)) (ip (dG (vB 2))))) (sRs "BadLine" ["at"] (aa (vL 3) af)) bg)
  (ao (aF 2 (toT (toD (d2 (bv ξ) (toD (d2 au (vB 5) (kD (.int 0)))) (kD bO)))))
  (y17 1 (vL 5)))))
def z19:η Dt->ζ T:=bX 6 ((ao (aF 1 (aZ af))
  (ao (aF 2 (toT (kD (.bl θ))))
  (ao (dP (dj jI (aa (toD (bR dl (vB 0) (aa (kD (.str "\n")) af))) af)) (gK 2 (aJ (ak 3) (aJ (ak 4) cE))) z27)
  (jC 1)))))
def y18:De->ζ Out:=(ao (sIf (tB2 (bv ξ) (vB 2) (vB 1)) (sRs "Twice" ["word"] (aa (vL 2) af)) bg) (kc 1 (vB 2) (kD (.bl θ))))
def y13:η Dt->ζ T:=bX 3 ((ao (aF 1 qB) (dP (fIt (vL 0)) (ak 2) y18)))
def q18:η Dt->ζ T:=bX 3 ((ao (sIf (tB2 (bv θ) (toD (d2 au (vB 0) (kD (.int 0)))) (kD gz)) (jC 0) bg)
  (ao (aF 2 (toT (toD (d2 au (vB 0) (toD (hJ (kD (.int 1))))))))
  (ao (sIf (tB2 (bv θ) (vB 2) (vB 1)) (sRs "NoLabel" ["word"] (aa (vL 2) af)) bg)
  (aQ (d2 nH (toD (vSl (vB 0) cH (a0 (toD (hJ (kD (.int 1))))))) (toD (cT (aa (toD (d2 au (vB 1) (vB 2))) af)))))))))
def z41:De->ζ Bool:=(tB2 (bv ξ) (toD (d2 au (vB 0) (kD (.int 0)))) (kD bO))
def q56:De->ζ Dt:=(toD (d2 au (vB 0) (kD (.int 1))))
def y41:De->ζ Bool:=(tB2 (gEq ξ) (toD (d2 au (vB 0) (kD (.int 0)))) (kD (.str "at")))
def q57:De->ζ Dt:=(toD (d2 au (vB 0) (kD (.int 1))))
def z57:De->ζ Bool:=(cN (tB2 (bv θ) (toD (d2 au (vB 0) (kD (.int 0)))) (kD bO)) (tB2 (gEq θ) (toD (d2 au (vB 0) (kD (.int 0)))) (kD (.str "at"))))
def iG:De->ζ (η Dt):=(aa (vL 0) (aa (vL 1) af))
def jl:η Dt->ζ T:=bX 4 ((ao (sSX 1 z19 (aa (vL 0) af))
  (ao (sCX y13 (aa (toD (bu [ψ] (fIt (vB 1)) (ak 0) z41 q56)) af))
  (ao (sCX y13 (aa (toD (bu [ψ] (fIt (vB 1)) (ak 0) y41 q57)) af))
  (ao (gt 1 (aF 2 (toT (toD (ag q19 (aa (vL 1) af))))))
  (ao (sXC 3 [ψ,ς 2] (fIt (vB 1)) (ak 0) z57 q18 iG)
  (gt 1 (aQ (cT (aa (toD (ag y28 (aa (vL 1) (aa (kD pk) af)))) (aa (toD (ag y28 (aa (vL 1) (aa (kD km) af)))) (aa (toD (ag ge (aa (vB 3) af))) af))))))))))))
def q12:η Dt->ζ T:=bX 6 ((ao (aF 1 (toT (toD (ag z20 (aa (vL 0) af)))))
  (ao (aF 2 (toT (kD .non)))
  (ao (aF 3 (toT (kD .non)))
  (ao (sQ jl (aa (toD (bR cA (kD (.str "\n")) (aa (vB 0) af))) af) 3 4 2)
  (ao (sIf (tXn 2) (aQ (iZ (toD (d2 (gEq ξ) (toD (d2 au (vB 1) (kD (.int 0)))) (kD (.str "good")))) (ag (z10 6) (aa (vL 3) (aa (toD (d2 au (vB 1) (kD (.int 1)))) af))))) bg)
  (ao (sIf (fOr (ip (dG (toD (hU CS (fun _=>θ) (vX 2))))) (dG (toD (hU CS (fun c=>(["Unknown","Falls"]:η Str).contains c) (vX 2))))) (aQ (toT (kD (.bl ξ)))) bg)
  (ao (aF 5 (toT (toD (aZ (aa (toD (hU CS (· == "BadLine") (vX 2))) (aa (toD (hU CS (· == "Twice") (vX 2))) (aa (toD (hU CS (· == "NoLabel") (vX 2))) af)))))))
  (ao (sIf (tB2 (gEq θ) (vB 5) (toD (aZ (aa (toD (d2 (gEq ξ) (toD (d2 au (vB 1) (kD (.int 0)))) (kD (.str "line")))) (aa (toD (d2 (gEq ξ) (toD (d2 au (vB 1) (kD (.int 0)))) (kD (.str "twice")))) (aa (toD (d2 (gEq ξ) (toD (d2 au (vB 1) (kD (.int 0)))) (kD (.str "label")))) af)))))) (aQ (toT (kD (.bl ξ)))) bg)
  (ao (sIf (tB2 (gEq ξ) (toD (d2 au (vB 1) (kD (.int 0)))) (kD (.str "line"))) (aQ (ag (z10 6) (aa (sR "at" (vX 2)) (aa (toD (d2 au (vB 1) (kD (.int 1)))) af)))) bg)
  (aQ (ag (z10 6) (aa (sR "word" (vX 2)) (aa (toD (d2 au (vB 1) (kD (.int 1)))) af))))))))))))))
def y45:η Dt->ζ T:=bX 2 ((ao (aF 1 (toT (toD (aZ (aa (kD (.str "")) (aa (kD (.str " ")) (aa (kD (.str "cell")) (aa (kD (.str "cell a")) (aa (kD (.str "cell a b")) (aa (kD (.str "cell a 01")) (aa (kD (.str "cell a 1099511627776")) (aa (kD (.str "cell A 1")) (aa (kD (.str "cell abcdefg 1")) af)))))))))))))
  (ao (aF 1 (toT (toD (d2 aB (vB 1) (toD (aZ (aa (kD (.str "twin a 5 5")) (aa (kD (.str "shelf a 0")) (aa (kD (.str "shelf a 9")) (aa (kD (.str "twins a 10")) (aa (kD (.str "shelf a b")) (aa (kD (.str "at")) (aa (kD (.str "at a b")) (aa (kD (.str "at A")) af))))))))))))))
  (ao (aF 1 (toT (toD (d2 aB (vB 1) (toD (aZ (aa (kD (.str "load a")) (aa (kD (.str "load a 1")) (aa (kD (.str "load 1 a")) (aa (kD (.str "load a b c")) (aa (kD (.str "store a")) (aa (kD (.str "store 1 a")) (aa (kD (.str "take a b")) (aa (kD (.str "take a 1 b")) af))))))))))))))
  (ao (aF 1 (toT (toD (d2 aB (vB 1) (toD (aZ (aa (kD (.str "lay 1 2 3")) (aa (kD (.str "hear")) (aa (kD (.str "hear 1")) (aa (kD (.str "say")) (aa (kD (.str "say a b")) (aa (kD (.str "end")) (aa (kD (.str "end -1")) (aa (kD (.str "if a")) (aa (kD (.str "if a b c")) (aa (kD (.str "go")) (aa (kD (.str "go a b")) af)))))))))))))))))
  (ao (aF 1 (toT (toD (d2 aB (vB 1) (toD (aZ (aa (kD (.str "a = b c")) (aa (kD (.str "a = b / c")) (aa (kD (.str "a = 1 + 02")) (aa (kD (.str "1 = a")) (aa (kD (.str "a = b + c d")) (aa (kD (.str "at abcdefghi")) (aa (kD (.str "lay a b")) (aa (kD (.str "a =")) af))))))))))))))
  (aQ (d2 au (vB 1) (toD (d2 fQ (vB 0) (kD (.int 44))))))))))))
def y29:η Dt->ζ T:=bX 10 ((ao (aF 2 (toT (kD (.str " !\"#$&'()*+,-./:;<=>?@ABCDEFGHIJKLMNOPQRSTUVWXYZ[\\]^_`{|}~abcxyz0123456789"))))
  (ao (aF 3 (toT (toD (ag z9 (aa (vL 1) (aa (kD (.int 0)) (aa (kD (.int 10)) af)))))))
  (ao (aF 4 (toT (toD (ag z9 (aa (vL 1) (aa (kD (.int 1)) (aa (toD (d2 aB (toD (ag br (aa (vB 0) af))) (kD (.int 1)))) af)))))))
  (ao (aF 5 (toT (toD (d2 au (vB 2) (toD (ag z9 (aa (vL 1) (aa (kD (.int 2)) (aa (toD (ag br (aa (vB 2) af))) af)))))))))
  (ao (sIf (tB2 (bG fun i j=>decide (i<j)) (vB 3) (kD (.int 3))) (aQ (d2 aB (toD (d2 aB (toD (vSl (vB 0) cH (a0 (vB 4)))) (toD (d2 au (toD (aZ (aa (vL 5) (aa (kD (.str "")) (aa (kD (.str " ")) af))))) (vB 3))))) (toD (vSl (vB 0) (a0 (toD (d2 aB (vB 4) (toD (ag z9 (aa (vL 1) (aa (kD (.int 3)) (aa (kD (.int 2)) af)))))))) cH)))) bg)
  (ao (sIf (tB2 (bG fun i j=>decide (i<j)) (vB 3) (kD (.int 5))) (aQ (ag y45 (aa (toD (ag z9 (aa (vL 1) (aa (kD (.int 3)) (aa (kD (.int 44)) af))))) af))) bg)
  (ao (aF 6 (toT (toD (bR dl (vB 0) (aa (kD (.str " ")) af)))))
  (ao (aF 7 (toT (toD (ag z9 (aa (vL 1) (aa (kD (.int 4)) (aa (toD (ag br (aa (vB 6) af))) af)))))))
  (ao (aF 8 (toT (toD (d2 au (toD (aZ (aa (kD (.str "cell")) (aa (kD (.str "at")) (aa (kD (.str "a")) (aa (kD (.str "7")) (aa (kD (.str "=")) (aa (kD (.str "+")) (aa (kD (.str "go")) (aa (kD (.str "1099511627775")) af)))))))))) (toD (ag z9 (aa (vL 1) (aa (kD (.int 5)) (aa (kD (.int 8)) af)))))))))
  (ao (aF 9 (toT (toD (d2 au (toD (aZ (aa (toD (aZ af)) (aa (toD (d2 qL (toD (vSl (vB 6) (a0 (vB 7)) (a0 (toD (d2 aB (vB 7) (kD (.int 1))))))) (kD (.int 2)))) (aa (toD (aZ (aa (vL 8) af))) (aa (toD (d2 aB (toD (aZ (aa (vL 8) af))) (toD (vSl (vB 6) (a0 (vB 7)) (a0 (toD (d2 aB (vB 7) (kD (.int 1))))))))) (aa (toD (d2 aB (toD (vSl (vB 6) (a0 (vB 7)) (a0 (toD (d2 aB (vB 7) (kD (.int 1))))))) (toD (aZ (aa (vL 8) af))))) af))))))) (toD (d2 lR (vB 3) (kD (.int 5))))))))
  (aQ (vSl (toD (bR cA (kD (.str " ")) (aa (toD (d2 aB (toD (d2 aB (toD (vSl (vB 6) cH (a0 (vB 7)))) (vB 9))) (toD (vSl (vB 6) (a0 (toD (d2 aB (vB 7) (kD (.int 1))))) cH)))) af))) cH (a0 (kD (.int 100))))))))))))))))
def y63:De->ζ Out:=(ao (aF 4 (toT (toD (ag z13 (aa (vL 0) (aa (toD (d2 aB (kD (.int 2)) (vB 3))) af))))))
  (ao (aF 5 (toT (toD (ag z9 (aa (vL 4) (aa (kD (.int 6)) (aa (toD (ag br (aa (vB 1) af))) af)))))))
  (sIf (tB2 (gEq ξ) (toD (ag z9 (aa (vL 4) (aa (kD (.int 7)) (aa (kD (.int 5)) af))))) (kD (.int 1))) (ao (aF 1 (d2 aB (toD (vSl (vB 1) cH (a0 (vB 5)))) (toD (vSl (vB 1) (a0 (toD (d2 aB (vB 5) (kD (.int 1))))) cH))))
  (q58 1 (toD (ag z9 (aa (vL 4) (aa (kD (.int 5)) (aa (toD (d2 aB (toD (ag br (aa (vB 1) af))) (kD (.int 1)))) af))))) (kD (.str "cell q 5")))) (kc 1 (vB 5) (toD (ag y29 (aa (toD (d2 au (vB 1) (vB 5))) (aa (vL 4) af))))))))
def ut:η Dt->ζ T:=bX 7 ((ao (aF 1 (ag q33 (aa (vL 0) af)))
  (ao (aF 2 (toT (toD (ag z13 (aa (vL 0) (aa (kD (.int 0)) af))))))
  (ao (dP (dj iu (aa (toD (d2 au (toD (aZ (aa (kD (.int 0)) (aa (kD (.int 1)) (aa (kD (.int 2)) af))))) (toD (ag z9 (aa (vL 2) (aa (kD (.int 5)) (aa (kD (.int 3)) af))))))) af)) (ak 3) y63)
  (ao (sIf (tB2 (gEq ξ) (toD (ag z9 (aa (vL 2) (aa (kD (.int 6)) (aa (kD (.int 16)) af))))) (kD (.int 1))) (aF 1 (aZ (aa (kD (.str "")) af))) bg)
  (ao (gt 1 (sIf (ip (dG (toD (ag q12 (aa (vL 1) af))))) (aQ (toT (kD (.bl ξ)))) bg))
  (ao (gt 1 (aF 6 (toT (toD (ag z20 (aa (vL 1) af))))))
  (ao (sIf (cN (tB2 (gEq ξ) (toD (d2 au (vB 6) (kD (.int 0)))) (kD (.str "line"))) (cN (tB2 (bG fun i j=>decide (j<i)) (toD (d2 au (vB 6) (kD (.int 1)))) (kD (.int 0))) (ip (dG (toD (ag q12 (aa (toD (vSl (vB 1) cH (a0 (toD (d2 au (vB 6) (kD (.int 1))))))) af))))))) (aQ (toT (kD (.bl ξ)))) bg)
  (gt 1 (aQ (ag q12 (aa (vL 1) af))))))))))))
structure Txt(P:qc0)(w:J6)(K:xA9)(mg:Str->Option Value):Prop where
 n_ValueError:mg "ValueError"=ψ
 n_all:mg "all"=ψ
 n_bool:mg "bool"=ψ
 n_enumerate:mg "enumerate"=ψ
 n_int:mg "int"=ψ
 n_isinstance:mg "isinstance"=ψ
 n_len:mg "len"=ψ
 n_range:mg "range"=ψ
 n_str:mg "str"=ψ
 n_tuple:mg "tuple"=ψ
 n_zip:mg "zip"=ψ
 g_J:eN K mg "CELLS" pk
 g_F:eN K mg "FIGURES" iT
 g_K:eN K mg "HEADS" bO
 g_G:eN K mg "LEADING" gz
 g_E:eN K mg "LETTERS" kl
 g_B:eN K mg "MOST_OF_LABEL" gY
 g_D:eN K mg "MOST_OF_NAME" iE
 g_C:eN K mg "MOST_OF_SIZE" iF
 g_A:eN K mg "MOST_OF_VALUE" eX
 g_H:eN K mg "SHELVES" km
 g_L:eN K mg "SIGNS" lj
 g_I:AK P w K mg "WANTED" k_I fJ
 g_M:eN K mg "WIDE" yl
 xw:XW K mg CS
 k_tuple:gL K "tuple"
 k_bool:gL K "bool"
 k_int:gL K "int"
 k_str:gL K "str"
local macro_rules | `(tactic| walk_at "x") => `(tactic| (repeat' (first | ((with_reducible show DB _ _ _); first | refine DO.toB ?_ | exact dbX (by kernel_rfl) | refine DL.toB ?_) | ((with_reducible show DL _ _ _); first | refine DO.toL ?_ | exact dlX (by kernel_rfl) | exact aY | exact av | exact jy | exact cS | exact dlG (by kernel_rfl) ‹Txt _ _ _ _›.g_J | exact dlG (by kernel_rfl) ‹Txt _ _ _ _›.g_F | exact dlG (by kernel_rfl) ‹Txt _ _ _ _›.g_K | exact dlG (by kernel_rfl) ‹Txt _ _ _ _›.g_G | exact dlG (by kernel_rfl) ‹Txt _ _ _ _›.g_E | exact dlG (by kernel_rfl) ‹Txt _ _ _ _›.g_B | exact dlG (by kernel_rfl) ‹Txt _ _ _ _›.g_D | exact dlG (by kernel_rfl) ‹Txt _ _ _ _›.g_C | exact dlG (by kernel_rfl) ‹Txt _ _ _ _›.g_A | exact dlG (by kernel_rfl) ‹Txt _ _ _ _›.g_H | exact dlG (by kernel_rfl) ‹Txt _ _ _ _›.g_L | exact dlG (by kernel_rfl) ‹Txt _ _ _ _›.g_M) | ((with_reducible show DO _ _ _); first | refine cX ‹Room _ _› ?_ ?_ | refine DL.toO ?_ | refine oV ?_ | refine bZ ?_ | refine doF (by kernel_rfl) ‹_› ‹Room _ _› Ω ?_ | refine aH aN bz ?_ ?_ | refine aH wI BZ ?_ ?_ | refine aH rZ xA ?_ ?_ | refine aH op_fdivW r_divW ?_ ?_ | refine aH r6 xB ?_ ?_ | refine doB (by kernel_rfl) (lL rfl) (xJ (f := fun bs => bs.all id)) ‹Txt _ _ _ _›.n_all su ?_ | refine doT (by kernel_rfl) vJ Fs ‹Txt _ _ _ _›.n_int sv ?_ | refine doB (by kernel_rfl) wN Fp ‹Txt _ _ _ _›.n_len Di ?_ | refine doT (by kernel_rfl) f8 o6 ‹Txt _ _ _ _›.n_tuple ij ?_ | refine io (du ‹Room _ _›) jk ?_ ?_ (bi _) | refine io (oZ ‹Room _ _›) AC ?_ ?_ (bi _) | refine io qa cO ?_ ?_ (bi _) | refine io eZ cO ?_ ?_ (bi _) | refine io BL cO ?_ ?_ (bi _) | refine io op_ge cO ?_ ?_ (bi _) | refine io ou Dq ?_ ?_ (bi _) | refine io ow o0 ?_ ?_ (bi _) | refine xP ‹Room _ _› ?_ ?_ | refine do_notin ‹Room _ _› ?_ ?_ | refine lT ?_ ?_ ?_ | refine xv ?_ ?_ ?_ | refine xu ?_ | refine xH ?_ | refine jj ?_ ?_ | refine Fn ?_ ?_ | refine j9 ?_ | refine aH le pj ?_ ?_ | refine aH AR DK ?_ ?_) | ((with_reducible show DT _ _ _); first | refine bA (du ‹Room _ _›) jk ?_ ?_ (bi _) | refine bA (oZ ‹Room _ _›) AC ?_ ?_ (bi _) | refine bA qa cO ?_ ?_ (bi _) | refine bA eZ cO ?_ ?_ (bi _) | refine bA BL cO ?_ ?_ (bi _) | refine bA op_ge cO ?_ ?_ (bi _) | refine bA ou Dq ?_ ?_ (bi _) | refine bA ow o0 ?_ ?_ (bi _) | refine qA ‹Room _ _› ?_ ?_ | refine gw ‹Room _ _› ?_ ?_ | refine DW.t (gc ?_ ?_) | refine DW.t (qo ?_ ?_) | refine lO ?_ | refine dI ?_ (fun _ => rfl)) | ((with_reducible show DA _ _ _); first | refine ar ?_ ?_ | exact aL) | ((with_reducible show DAB _ _ _); first | refine bP ?_ ?_ | exact cu) | refine gc ?_ ?_ | refine qo ?_ ?_ | refine e8 ?_ | refine oQ ?_ | exact o4 | refine o5 ?_)))
seal toD toT vB vL kD d2 cT aZ ag aa af tB2 cN fOr ip dG vSl a0 cH vIf Au hJ iZ vOr
variable{X:Cx}{pos:Pos}{N:η Str}{x:Str}
theorem dsN{e:J9}{f:De->ζ T}{i:Nat}{sc:Ja}{pos':Pos}(h:cB sc N=θ)(nd:N.Nodup)(O:DO X e f)(e0:N[i]?=ς x:=by rfl)(e1:bU X sc:=by rfl)(e2:X.N=N:=by rfl)(Z:X.fn x=θ∨X.env.scope.names.lookup x=ς .local:=by exact .inl rfl)(U:qf7 e (ς (.Name x pos')) pos.line X.env=pure ξ:=by rfl):DS1 X (.Assign [.Name x pos'] e pos) (aF i f):=Do (nsN h i e0) (nsL h i e0) nd O e1 e2 Z U
theorem doC{p:Pos}{iter elt:J9}{ifs:η J9}{scope:Ja}{src:η (ζ Nat)}{fi:De->ζ (η Dt)}{ft:De->ζ Bool}{fe:De->ζ Dt}(M:η Str)(h:(xm X.N X.env.scope scope M src&&dh (lN scope X.env.scope) M 0 x&&loOk (lN scope X.env.scope) x&&decide (src[0]?=ς ψ))=θ)(hi:DIB X (.Name x p) iter fi)(ht:∀C s H ex,DTs (cxC X M scope C s H ex) ifs ft)(O:∀C s H ex,DL (cxC X M scope C s H ex) elt fe)(Z:X.calm=θ:=by rfl)(U:∀x,qe5 iter X.env x=pure x:=by intro _;rfl):DO X (.ListComp elt [⟨.Name x p,iter,ifs,0⟩] scope pos) (bu src fi (ak 0) ft fe):=by simp only[qb0]at h;exact Ax (ts:=[0]) (CmpScope.of h.1.1.1) Z hi (fun nd C s H ex=>bj (cz h.1.1.2 h.1.2 nd (scC rfl))) ht O (by simp only[qh9,List.all_nil,qm3];exact h.2) U
theorem fnS{P:η Str}{sc:Ja}(h:N.Nodup/\N.take P.length=P/\(∀x∈P,sc.names.lookup x=ς .local∨sc.names.lookup x=ς .cell)/\∀y∈sc.names,y.2≠.free)(a:sc.kind=.function:=by rfl)(b:sc.isCoroutine=ξ:=by rfl)(c:sc.isGenerator=ξ:=by rfl):FnScope N P sc:=⟨a,b,c,h.1,h.2.1,h.2.2.1,h.2.2.2⟩
section
variable{P:qc0}{w:J6}{K:xA9}{mg:Str->ζ Value}{base:Heap}
abbrev y25:J8:=yk 6 0
theorem y72:FnScope ["self","row"] ["self","row"] (ae y25):=fnS χ
theorem fK:cB (ae y25) ["self","row"]=θ:=χ
theorem y73(D:DefX K mg "Falls" y25 ["self","row"] ["row"]):OkX P w K mg base "Falls" 1 ["row"]:=uj D y72 rfl fun f cdv A outer s H E=>(fS (qi (pvN 0 fK) (pvN 1 fK)))
abbrev y22:J8:=yk 5 0
theorem y65:FnScope ["self","word","row"] ["self","word","row"] (ae y22):=fnS χ
theorem ci:cB (ae y22) ["self","word","row"]=θ:=χ
theorem z65(D:DefX K mg "Unknown" y22 ["self","word","row"] ["word","row"]):OkX P w K mg base "Unknown" 1 ["word","row"]:=Fw χ D y65 rfl fun f cdv A outer s H E=>(lE (qi (pvN 0 ci) (pvN 1 ci)) (fS (Fi (pvN 0 ci) (pvN 2 ci))))
abbrev y49:J8:=top 39
theorem y55:FnScope ["_law_script","_law_k","_law_seed"] ["_law_script","_law_k"] (ae y49):=fnS χ
theorem fq:cB (ae y49) ["_law_script","_law_k","_law_seed"]=θ:=χ
theorem z93(T:Txt P w K mg)(D:DefF K mg "_law_cell" y49 ["_law_script","_law_k"]):OkF P w K mg base "_law_cell" 1 ["_law_script","_law_k"] (spD K 2 z13):=
 b6 D y55 rfl fun f cdv A outer s H E O=>(ai (aS Ψ (am (az (cX O (aj (pvN 0 fq)) (aj (pvN 1 fq))))) aI)
     (ai (dsN fq y55.nd (DL.toO aY))
     (ai (aS Ψ (am (dsN fq y55.nd (DL.toO Ψ))) aI)
     (am (az Ψ)))))
abbrev y44:J8:=top 49
theorem y87:FnScope ["_law_word","_law_sort_here"] ["_law_word","_law_sort_here"] (ae y44):=fnS χ
theorem mL:cB (ae y44) ["_law_word","_law_sort_here"]=θ:=χ
theorem y88(T:Txt P w K mg)(D:DefF K mg "_law_worth" y44 ["_law_word","_law_sort_here"]):OkF P w K mg base "_law_worth" 1 ["_law_word","_law_sort_here"] (spD K 2 q35):=
 b6 D y87 rfl fun f cdv A outer s H E O=>(ai (aS Ψ (am (az Ψ)) aI)
     (am (iS (pvN 0 mL))))
abbrev y23:J8:=top 50
theorem y24:FnScope ["_law_words","_law_sorts","_law_atoms","_law_loose","_law_form","_law_want","_law_k","_law_fits"] ["_law_words","_law_sorts"] (ae y23):=fnS χ
theorem bh:cB (ae y23) ["_law_words","_law_sorts","_law_atoms","_law_loose","_law_form","_law_want","_law_k","_law_fits"]=θ:=χ
theorem y76:aO (ae y23) "range"=θ:=χ
theorem z83:aO (ae y23) "zip"=θ:=χ
theorem z95(T:Txt P w K mg)(D:DefF K mg "_law_row" y23 ["_law_words","_law_sorts"])(Z:OkF P w K mg base "_law_worth" 1 ["_law_word","_law_sort_here"] (spD K 2 (q35))):OkF P w K mg base "_law_row" 2 ["_law_words","_law_sorts"] (spD K 2 q37):=
 DV D y24 rfl χ Ω fun f cdv A outer s H E O=>(qO (DS1.p (iD (nsN bh 2) (nsL bh 2) y24.nd (M:=["_law_word","_law_sort_here"]) (src:=[ψ,ψ]) (ts:=[0,1]) (CmpScope.of (by kernel_rfl)) rfl (DIF.toB (A1 z83 T.n_zip (ar (aR (pvN 0 bh)) (ar (aR (pvN 1 bh)) aL)))) (fun U _ _ _ _=>(oW rfl (bF (bj (cz (N:=["_law_word","_law_sort_here"]) (i:=0) χ χ U (scC (outer:=ae y23) (by exact rfl)))) (bF (bj (cz (N:=["_law_word","_law_sort_here"]) (i:=1) χ χ U (scC (outer:=ae y23) (by exact rfl)))) e9)))) (fun _ _ _ _=>fU) (fun _ _ _ _=>Ψ) χ))
     (qO (A4 (nsN bh 3) (nsL bh 3) y24.nd (DOP.toTD (kQ (DOP.toB (kQ (DB.p (aj (pvN 1 bh))) Ω)) Ω)))
     (DS.p (ai (aS Ψ (ai (aS Ψ (am (az Ψ)) aI)
     (ai (aS Ψ (am (az Ψ)) aI)
     (am (az (DL.toO cS))))) aI)
     (ai (dsN bh y24.nd (DL.toO (DO.toL (uo (cY av av (cY av av (cY av av (cY av av (cY av av (cY av av (cY av av (cY av av um)))))))) rfl rfl Ω Ω))))
     (ai (dsN bh y24.nd (DL.toO (DO.toL (aH aN bz (DO.toB (AV O (aj (pvN 4 bh)) (DO.toB (cX O (aj (pvN 0 bh)) (DL.toB aY))) av)) (DO.toB (aH AN DI (DL.toB av) Ψ))))))
     (ai (aS Ψ (am (az (DL.toO cS))) aI)
     (ai (iq qk1 rfl (dy y76 T.n_range Ψ) (bj (bY (nsN bh 6) (nsL bh 6) y24.nd)) (ai (dsN bh y24.nd (DL.toO (DO.toL (cX O (DO.toB (uo (cY av av (cY av av (cY av av um))) rfl rfl Ω Ω)) (DO.toB (cX O (aj (pvN 5 bh)) (aj (pvN 6 bh))))))))
     (am (aS Ψ (am (az (DL.toO cS))) aI))))
     (ai (aS Ψ (am (az (aH le pj (DO.toB (aH le pj Ψ Ψ)) Ψ))) aI)
     (am (az (aH le pj Ψ Ψ))))))))))))
abbrev y48:J8:=top 51
theorem z58:FnScope ["_law_words","_law_sorts","_law_begun","_law_good_here","_law_row_here"] ["_law_words","_law_sorts","_law_begun"] (ae y48):=fnS χ
theorem jM:cB (ae y48) ["_law_words","_law_sorts","_law_begun","_law_good_here","_law_row_here"]=θ:=χ
theorem y94(T:Txt P w K mg)(D:DefF K mg "_law_item" y48 ["_law_words","_law_sorts","_law_begun"])(O:OkF P w K mg base "_law_row" 2 ["_law_words","_law_sorts"] (spD K 2 (q37))):OkF P w K mg base "_law_item" 3 ["_law_words","_law_sorts","_law_begun"] (spD K 3 q25):=
 b6 D z58 rfl fun f cdv A outer s H E U=>(ai (aS Ψ (ai (aS Ψ (ai (dsN jM z58.nd (DL.toO Ψ))
     (am (az Ψ))) aI)
     (am (aS Ψ (ai (aS Ψ (am (az (DL.toO cS))) aI)
     (ai (aS (DW.t (gc Ψ (e8 (lO (gu eZ cO eZ cO (DL.toB aY) Ψ (DL.toB aY)))))) (am (az (DL.toO cS))) aI)
     (am (az Ψ)))) aI))) aI)
     (ai (dsN jM z58.nd (DL.toO Ψ))
     (am (az Ψ))))
abbrev q24:J8:=top 53
theorem y14:FnScope ["_law_items","_law_seats","_law_many","_law_kind","_law_told","_law_rows","_law_cells","_law_shelves"] ["_law_items"] (ae q24):=fnS χ
theorem aE:cB (ae q24) ["_law_items","_law_seats","_law_many","_law_kind","_law_told","_law_rows","_law_cells","_law_shelves"]=θ:=χ
theorem z97(T:Txt P w K mg)(D:DefF K mg "_law_led" q24 ["_law_items"]):OkF P w K mg base "_law_led" 1 ["_law_items"] (spD K 1 z37):=
 b6 D y14 rfl fun f cdv A outer s H E O=>(ai (dsN aE y14.nd o8)
     (ai (dsN aE y14.nd (DL.toO aY))
     (ai (iq qk1 rfl (lQ (aR (pvN 0 aE))) (l7 rfl (bF (bj (bY (nsN aE 3) (nsL aE 3) y14.nd)) (bF (bj (bY (nsN aE 4) (nsL aE 4) y14.nd)) e9))) (ai (aS (bA (du O) jk (aj (pvN 3 aE)) (DL.toB av) (bi _)) (am (kh O (pvN 1 aE) (aj (pvN 4 aE)) (aR (pvN 2 aE)))) aI)
     (am (dsN aE y14.nd (DL.toO Ψ)))))
     (ai (dsN aE y14.nd (bZ aL))
     (ai (iq qk1 rfl (lQ (aR (pvN 0 aE))) (l7 rfl (bF (bj (bY (nsN aE 3) (nsL aE 3) y14.nd)) (bF (bj (bY (nsN aE 4) (nsL aE 4) y14.nd)) e9))) (ai (aS Ψ (ai (aS Ψ (am (az Ψ)) aI)
     (am (dsN aE y14.nd (DL.toO (DO.toL (aH pi sU Ψ Ψ)))))) aI)
     (am (aS (bA (du O) jk (aj (pvN 3 aE)) (DL.toB av) (bi _)) (am (fD (pvN 5 aE) (aR (pvN 4 aE)))) aI))))
     (ai (iD (nsN aE 6) (nsL aE 6) y14.nd (M:=["_law_kind","_law_told"]) (src:=[ψ,ψ]) (ts:=[0,1]) (CmpScope.of (by kernel_rfl)) rfl (dJ (aj (pvN 0 aE))) (fun U _ _ _ _=>(l7 rfl (bF (bj (cz (N:=["_law_kind","_law_told"]) (i:=0) χ χ U (scC (outer:=ae q24) (by exact rfl)))) (bF (bj (cz (N:=["_law_kind","_law_told"]) (i:=1) χ χ U (scC (outer:=ae q24) (by exact rfl)))) e9)))) (fun _ _ _ _=>eI (qA O (aj (pvX (by kernel_rfl))) (DO.toB (oV (ar av (ar av aL)))))) (fun _ _ _ _=>(aR (pvX (by kernel_rfl)))) χ)
     (ai (iD (nsN aE 7) (nsL aE 7) y14.nd (M:=["_law_kind","_law_told"]) (src:=[ψ,ψ]) (ts:=[0,1]) (CmpScope.of (by kernel_rfl)) rfl (dJ (aj (pvN 0 aE))) (fun U _ _ _ _=>(l7 rfl (bF (bj (cz (N:=["_law_kind","_law_told"]) (i:=0) χ χ U (scC (outer:=ae q24) (by exact rfl)))) (bF (bj (cz (N:=["_law_kind","_law_told"]) (i:=1) χ χ U (scC (outer:=ae q24) (by exact rfl)))) e9)))) (fun _ _ _ _=>eI (qA O (aj (pvX (by kernel_rfl))) (DO.toB (oV (ar av (ar av aL)))))) (fun _ _ _ _=>(aR (pvX (by kernel_rfl)))) χ)
     (am (az Ψ)))))))))
abbrev q39:J8:=top 48
theorem y74:FnScope ["_law_word","_law_strange"] ["_law_word"] (ae q39):=fnS χ
theorem bV:cB (ae q39) ["_law_word","_law_strange"]=θ:=χ
theorem q93(T:Txt P w K mg)(D:DefF K mg "_law_sort" q39 ["_law_word"]):OkF P w K mg base "_law_sort" 1 ["_law_word"] (spD K 1 q40):=
 b6 D y74 rfl fun f cdv A outer s H E O=>(ai (aS (bA (du O) jk (aj (pvN 0 bV)) (DL.toB av) (bi _)) (am (az (DL.toO av))) aI)
     (ai (aS Ψ (am (az (DL.toO av))) aI)
     (ai (iD (nsN bV 1) (nsL bV 1) y74.nd (M:=["_law_one"]) (src:=[ψ]) (ts:=[0]) (CmpScope.of (by kernel_rfl)) rfl (dJ (aj (pvN 0 bV))) (fun U _ _ _ _=>(bj (cz (N:=["_law_one"]) (i:=0) χ χ U (scC (outer:=ae q39) (by exact rfl))))) (fun _ _ _ _=>eI (gw O (aj (pvX (by kernel_rfl))) (DL.toB av))) (fun _ _ _ _=>(aR (pvX (by kernel_rfl)))) χ)
     (ai (aS (DW.t (gc (bA (du O) jk (aj (pvN 1 bV)) (DO.toB (bZ aL)) (bi _)) (e8 (gu eZ cO eZ cO (DL.toB aY) Ψ (DL.toB aY))))) (am (az (DL.toO av))) aI)
     (ai (aS (DW.t (gc (bA (du O) jk (aj (pvN 1 bV)) (DO.toB (bZ aL)) (bi _)) (e8 (gu eZ cO eZ cO (DL.toB aY) Ψ (DL.toB aY))))) (am (az (DL.toO av))) aI)
     (ai (aS (DW.t (gc (bA (du O) jk (DO.toB (doC ["_law_one"] (by kernel_rfl) (dJ (aj (pvN 0 bV))) (fun _ _ _ _=>eI (gw O (aj (pvX (by kernel_rfl))) (DL.toB av))) (fun _ _ _ _=>(aR (pvX (by kernel_rfl)))))) (DO.toB (bZ aL)) (bi _)) (e8 (gu eZ cO eZ cO (DL.toB aY) Ψ (DL.toB aY))))) (am (aS (DW.t (qo (bA (du O) jk (aj (pvN 0 bV)) (DL.toB av) (bi _)) (oQ (DW.t (gc Ψ (e8 (bA qa cO Ψ (DO.toB (aH r8 xC (DL.toB aY) (DL.toB aY))) (bi _)))))))) (am (az Ψ)) aI)) aI)
     (ai (aS (DW.t (gc (bA (du O) jk (DO.toB (doC ["_law_one"] (by kernel_rfl) (dJ (aj (pvN 1 bV))) (fun _ _ _ _=>eI (gw O (aj (pvX (by kernel_rfl))) (DL.toB av))) (fun _ _ _ _=>(aR (pvX (by kernel_rfl)))))) (DO.toB (bZ aL)) (bi _)) (e8 (gu eZ cO eZ cO (DL.toB aY) Ψ (DL.toB aY))))) (am (az (DL.toO av))) aI)
     (am (az (DL.toO av))))))))))
abbrev q29:J8:=top 52
theorem z14:FnScope ["_law_lines_here","_law_items","_law_begun","_law_at","_law_told_row","_law_words","_law_item_here","_law_seen","_law_kind","_law_told","_law_key"] ["_law_lines_here"] (ae q29):=fnS χ
theorem aA:cB (ae q29) ["_law_lines_here","_law_items","_law_begun","_law_at","_law_told_row","_law_words","_law_item_here","_law_seen","_law_kind","_law_told","_law_key"]=θ:=χ
theorem y60:aO (ae q29) "enumerate"=θ:=χ
theorem z61:aO (ae q29) "_law_item"=θ:=χ
theorem z66:aO (ae q29) "_law_led"=θ:=χ
theorem q97(T:Txt P w K mg)(D:DefF K mg "_law_due" q29 ["_law_lines_here"])(U:OkF P w K mg base "_law_item" 3 ["_law_words","_law_sorts","_law_begun"] (spD K 3 (q25)))(Z:OkF P w K mg base "_law_led" 1 ["_law_items"] (spD K 1 (z37)))(y78:OkF P w K mg base "_law_sort" 1 ["_law_word"] (spD K 1 (q40))):OkF P w K mg base "_law_due" 4 ["_law_lines_here"] (spD K 1 z20):=
 b6 D z14 rfl fun f cdv A outer s H E O=>(ai (dsN aA z14.nd (bZ aL))
     (ai (dsN aA z14.nd (DL.toO jy))
     (ai (iq qk1 rfl (jJ y60 T.n_enumerate (ar (aR (pvN 0 aA)) aL)) (oW rfl (bF (bj (bY (nsN aA 3) (nsL aA 3) z14.nd)) (bF (bj (bY (nsN aA 4) (nsL aA 4) z14.nd)) e9))) (ai (dsN aA z14.nd (DL.toO (DO.toL (jK (aj (pvN 4 aA)) (bP (DL.toB av) cu)))))
     (ai (dsN aA z14.nd (DL.toO (DO.toL (ce z61 U (O.mono Ω) (ar (aR (pvN 5 aA)) (ar (DO.toL (jG (DL.toB av) (bP (DO.toB (doC ["_law_word"] (by kernel_rfl) (dJ (aj (pvN 5 aA))) (fun _ _ _ _=>fU) (fun _ _ _ _=>Ψ))) cu))) (ar (aR (pvN 2 aA)) aL)))))))
     (ai (aS (bA ou Dq (aj (pvN 6 aA)) (DL.toB cS) (bi _)) (am (az (bZ (ar av (ar (aR (pvN 3 aA)) aL))))) aI)
     (ai (dsN aA z14.nd (DL.toO Ψ))
     (am (fD (pvN 1 aA) (aR (pvN 6 aA)))))))))
     (ai (dsN aA z14.nd (bZ aL))
     (ai (gJ (i:=1) (iq qk1 rfl (lQ (aR (pvN 1 aA))) (l7 rfl (bF (bj (bY (nsN aA 8) (nsL aA 8) z14.nd)) (bF (bj (bY (nsN aA 9) (nsL aA 9) z14.nd)) e9))) (am (aS (bA (oZ O) AC (aj (pvN 8 aA)) (DL.toB av) (bi _)) (ai (dsN aA z14.nd (DL.toO Ψ))
     (ai (aS (bA (DQ O rfl) FE (aj (pvN 10 aA)) (aj (pvN 7 aA)) (by with_unfolding_all rfl)) (am (az Ψ)) aI)
     (am (fD (pvN 7 aA) (aR (pvN 10 aA)))))) aI))))
     (am (gJ (i:=1) (az (ce z66 Z (O.mono Ω) (ar (aR (pvN 1 aA)) aL))))))))))
abbrev z49:J8:=top 40
theorem q72:FnScope ["_law_cell_here","_law_j","_law_many","_law_primes"] ["_law_cell_here","_law_j","_law_many"] (ae z49):=fnS χ
theorem pp:cB (ae z49) ["_law_cell_here","_law_j","_law_many","_law_primes"]=θ:=χ
theorem z91(T:Txt P w K mg)(D:DefF K mg "_law_part" z49 ["_law_cell_here","_law_j","_law_many"]):OkF P w K mg base "_law_part" 1 ["_law_cell_here","_law_j","_law_many"] (spD K 3 z9):=
 b6 D q72 rfl fun f cdv A outer s H E O=>(ai (dsN pp q72.nd (DL.toO Ψ))
     (am (az Ψ)))
abbrev z31:J8:=top 41
theorem z42:FnScope ["_law_base","_law_k","_law_letters","_law_size","_law_some"] ["_law_base","_law_k"] (ae z31):=fnS χ
theorem cJ:cB (ae z31) ["_law_base","_law_k","_law_letters","_law_size","_law_some"]=θ:=χ
theorem q74:aO (ae z31) "range"=θ:=χ
theorem q94(T:Txt P w K mg)(D:DefF K mg "_law_name" z31 ["_law_base","_law_k"])(Z:OkF P w K mg base "_law_part" 1 ["_law_cell_here","_law_j","_law_many"] (spD K 3 (z9))):OkF P w K mg base "_law_name" 2 ["_law_base","_law_k"] (spD K 2 z16):=
 b6 D z42 rfl fun f cdv A outer s H E O=>(ai (dsN cJ z42.nd (DL.toO av))
     (ai (dsN cJ z42.nd (DL.toO Ψ))
     (ai (ul (nsN cJ 4) (nsL cJ 4) z42.nd (M:=["_law_j","_law_base","_law_letters"]) (src:=[ψ,ς 0,ς 2]) (ts:=[0]) (CmpScope.of (by kernel_rfl)) rfl (DIF.toB (dy q74 T.n_range (ar (aR (pvN 3 cJ)) aL))) (fun U _ _ _ _=>(bj (cz (N:=["_law_j","_law_base","_law_letters"]) (i:=0) χ χ U (scC (outer:=ae z31) (by exact rfl))))) (fun _ _ _ _=>fU) (fun _ _ _ _=>Ψ) χ)
     (ai (kh O (pvN 4 cJ) Ψ Ψ)
     (am (az (jG (DL.toB av) (bP (aj (pvN 4 cJ)) cu))))))))
abbrev z39:J8:=top 43
theorem z92:FnScope ["_law_cell_here","_law_j","_law_base"] ["_law_cell_here","_law_j","_law_base"] (ae z39):=fnS χ
theorem pq:cB (ae z39) ["_law_cell_here","_law_j","_law_base"]=θ:=χ
theorem y79:aO (ae z39) "str"=θ:=χ
theorem y92(T:Txt P w K mg)(D:DefF K mg "_law_atom" z39 ["_law_cell_here","_law_j","_law_base"])(U:OkF P w K mg base "_law_name" 2 ["_law_base","_law_k"] (spD K 2 (z16)))(Z:OkF P w K mg base "_law_part" 1 ["_law_cell_here","_law_j","_law_many"] (spD K 3 (z9))):OkF P w K mg base "_law_atom" 3 ["_law_cell_here","_law_j","_law_base"] (spD K 3 q31):=
 b6 D z92 rfl fun f cdv A outer s H E O=>(ai (aS Ψ (am (az (gr y79 ki sK T.n_str oM (bP (DO.toB (cX O (DO.toB (bZ (ar (DO.toL (aH r6 xB (DO.toB (aH rZ xA (aj (pvN 0 pq)) (DL.toB aY))) (DO.toB (aH r8 xC (DL.toB aY) (DL.toB aY))))) (ar Ψ aL)))) Ψ)) cu)))) aI)
     (am (az Ψ)))
abbrev z26:J8:=top 42
theorem y40:FnScope ["_law_base","_law_k","_law_signs","_law_size","_law_some"] ["_law_base","_law_k"] (ae z26):=fnS χ
theorem cq:cB (ae z26) ["_law_base","_law_k","_law_signs","_law_size","_law_some"]=θ:=χ
theorem q70:aO (ae z26) "range"=θ:=χ
theorem z88(T:Txt P w K mg)(D:DefF K mg "_law_label" z26 ["_law_base","_law_k"])(Z:OkF P w K mg base "_law_part" 1 ["_law_cell_here","_law_j","_law_many"] (spD K 3 (z9))):OkF P w K mg base "_law_label" 2 ["_law_base","_law_k"] (spD K 2 y16):=
 b6 D y40 rfl fun f cdv A outer s H E O=>(ai (dsN cq y40.nd (DL.toO av))
     (ai (dsN cq y40.nd (DL.toO Ψ))
     (ai (ul (nsN cq 4) (nsL cq 4) y40.nd (M:=["_law_j","_law_base","_law_signs"]) (src:=[ψ,ς 0,ς 2]) (ts:=[0]) (CmpScope.of (by kernel_rfl)) rfl (DIF.toB (dy q70 T.n_range (ar (aR (pvN 3 cq)) aL))) (fun U _ _ _ _=>(bj (cz (N:=["_law_j","_law_base","_law_signs"]) (i:=0) χ χ U (scC (outer:=ae z26) (by exact rfl))))) (fun _ _ _ _=>fU) (fun _ _ _ _=>Ψ) χ)
     (ai (kh O (pvN 4 cq) Ψ Ψ)
     (am (az (jG (DL.toB av) (bP (aj (pvN 4 cq)) cu))))))))
abbrev q49:J8:=top 44
theorem q17:FnScope ["_law_cell_here","_law_base","_law_x","_law_a","_law_b","_law_c","_law_goal","_law_some"] ["_law_cell_here","_law_base"] (ae q49):=fnS χ
theorem ay:cB (ae q49) ["_law_cell_here","_law_base","_law_x","_law_a","_law_b","_law_c","_law_goal","_law_some"]=θ:=χ
theorem y93(T:Txt P w K mg)(D:DefF K mg "_law_good" q49 ["_law_cell_here","_law_base"])(O:OkF P w K mg base "_law_atom" 3 ["_law_cell_here","_law_j","_law_base"] (spD K 3 (q31)))(Z:OkF P w K mg base "_law_label" 2 ["_law_base","_law_k"] (spD K 2 (y16)))(q30:OkF P w K mg base "_law_name" 2 ["_law_base","_law_k"] (spD K 2 (z16)))(y11:OkF P w K mg base "_law_part" 1 ["_law_cell_here","_law_j","_law_many"] (spD K 3 (z9))):OkF P w K mg base "_law_good" 4 ["_law_cell_here","_law_base"] (spD K 2 y39):=
 b6 D q17 rfl fun f cdv A outer s H E U=>(ai (dsN ay q17.nd (DL.toO Ψ))
     (ai (dsN ay q17.nd (DL.toO Ψ))
     (ai (dsN ay q17.nd (DL.toO Ψ))
     (ai (dsN ay q17.nd (DL.toO Ψ))
     (ai (dsN ay q17.nd (DL.toO Ψ))
     (ai (dsN ay q17.nd (DL.toO (DO.toL (bZ (ar Ψ (ar Ψ (ar (DO.toL (aH aN bz (DO.toB (aH aN bz (DO.toB (aH aN bz (DL.toB av) (aj (pvN 2 ay)))) (DL.toB av))) (aj (pvN 5 ay)))) aL)))))))
     (ai (dsN ay q17.nd (DL.toO (DO.toL (aH aN bz (aj (pvN 7 ay)) (DO.toB (bZ (ar (DO.toL (aH aN bz (DO.toB (aH aN bz (DO.toB (aH aN bz (DL.toB av) (aj (pvN 5 ay)))) (DL.toB av))) (aj (pvN 3 ay)))) (ar (DO.toL (aH aN bz (DO.toB (aH aN bz (DO.toB (aH aN bz (DO.toB (aH aN bz (DO.toB (aH aN bz (DL.toB av) (aj (pvN 2 ay)))) (DL.toB av))) (aj (pvN 5 ay)))) (DL.toB av))) (aj (pvN 3 ay)))) (ar (DO.toL (aH aN bz (DO.toB (aH aN bz (DO.toB (aH aN bz (DO.toB (aH aN bz (DO.toB (aH aN bz (DL.toB av) (aj (pvN 5 ay)))) (DL.toB av))) (aj (pvN 3 ay)))) (DL.toB av))) (aj (pvN 4 ay)))) aL)))))))))
     (ai (dsN ay q17.nd (DL.toO (DO.toL (aH aN bz (aj (pvN 7 ay)) (DO.toB (bZ (ar (DO.toL (aH aN bz (DL.toB av) (aj (pvN 2 ay)))) (ar (DO.toL (aH aN bz (DL.toB av) (aj (pvN 3 ay)))) (ar (DO.toL (aH aN bz (DL.toB av) (aj (pvN 3 ay)))) (ar (DO.toL (aH aN bz (DO.toB (aH aN bz (DO.toB (aH aN bz (DL.toB av) (aj (pvN 3 ay)))) (DL.toB av))) (aj (pvN 6 ay)))) (ar (DO.toL (aH aN bz (DL.toB av) (aj (pvN 6 ay)))) aL)))))))))))
     (am (az (cX U (DO.toB (aH aN bz (aj (pvN 7 ay)) (DO.toB (bZ (ar (DO.toL (aH aN bz (DL.toB av) (aj (pvN 6 ay)))) (ar (DO.toL (aH aN bz (DL.toB av) (aj (pvN 6 ay)))) (ar (DO.toL (aH aN bz (DL.toB av) (aj (pvN 6 ay)))) aL))))))) Ψ)))))))))))
abbrev y26:J8:=top 45
theorem y19:FnScope ["_law_script","_law_base","_law_many","_law_unlike","_law_heads_here","_law_k","_law_cell_here","_law_name_here","_law_kind"] ["_law_script","_law_base","_law_many"] (ae y26):=fnS χ
theorem bo:cB (ae y26) ["_law_script","_law_base","_law_many","_law_unlike","_law_heads_here","_law_k","_law_cell_here","_law_name_here","_law_kind"]=θ:=χ
theorem q71:aO (ae y26) "range"=θ:=χ
theorem z53:aO (ae y26) "str"=θ:=χ
theorem q90(T:Txt P w K mg)(D:DefF K mg "_law_heads" y26 ["_law_script","_law_base","_law_many"])(O:OkF P w K mg base "_law_cell" 1 ["_law_script","_law_k"] (spD K 2 (z13)))(U:OkF P w K mg base "_law_name" 2 ["_law_base","_law_k"] (spD K 2 (z16)))(Z:OkF P w K mg base "_law_part" 1 ["_law_cell_here","_law_j","_law_many"] (spD K 3 (z9))):OkF P w K mg base "_law_heads" 3 ["_law_script","_law_base","_law_many"] (spD K 3 z35):=
 b6 D y19 rfl fun f cdv A outer s H E hr=>(ai (dsN bo y19.nd (DL.toO Ψ))
     (ai (dsN bo y19.nd (bZ aL))
     (ai (iq qk1 rfl (dy q71 T.n_range (ar (aR (pvN 2 bo)) aL)) (bj (bY (nsN bo 5) (nsL bo 5) y19.nd)) (ai (dsN bo y19.nd (DL.toO Ψ))
     (ai (dsN bo y19.nd (DL.toO Ψ))
     (ai (dsN bo y19.nd (DL.toO Ψ))
     (am (aS Ψ (am (fD (pvN 4 bo) (DO.toL (aH aN bz Ψ (DO.toB (gr z53 ki sK T.n_str oM Ψ)))))) (am (fD (pvN 4 bo) (DO.toL (aH aN bz Ψ (DO.toB (gr z53 ki sK T.n_str oM (bP (DO.toB (aH r6 xB (DO.toB (aH rZ xA (aj (pvN 6 bo)) (DL.toB aY))) (DO.toB (aH r8 xC (DL.toB aY) (DL.toB aY))))) cu)))))))))))))
     (am (iS (pvN 4 bo))))))
abbrev z33:J8:=top 56
theorem z18:FnScope ["_law_script","_law_cell_here","_law_base","_law_heads_here","_law_many","_law_lines_here"] ["_law_script"] (ae z33):=fnS χ
theorem bq:cB (ae z33) ["_law_script","_law_cell_here","_law_base","_law_heads_here","_law_many","_law_lines_here"]=θ:=χ
theorem z46:aO (ae z33) "range"=θ:=χ
theorem y90(T:Txt P w K mg)(D:DefF K mg "_law_lines" z33 ["_law_script"])(z30:OkF P w K mg base "_law_cell" 1 ["_law_script","_law_k"] (spD K 2 (z13)))(Z:OkF P w K mg base "_law_good" 4 ["_law_cell_here","_law_base"] (spD K 2 (y39)))(y75:OkF P w K mg base "_law_heads" 3 ["_law_script","_law_base","_law_many"] (spD K 3 (z35)))(O:OkF P w K mg base "_law_label" 2 ["_law_base","_law_k"] (spD K 2 (y16)))(U:OkF P w K mg base "_law_part" 1 ["_law_cell_here","_law_j","_law_many"] (spD K 3 (z9))):OkF P w K mg base "_law_lines" 5 ["_law_script"] (spD K 1 q33):=
 b6 D z18 rfl fun f cdv A outer s H E hr=>(ai (dsN bq z18.nd (DL.toO Ψ))
     (ai (dsN bq z18.nd (DL.toO Ψ))
     (ai (dsN bq z18.nd (DL.toO Ψ))
     (ai (dsN bq z18.nd (DL.toO Ψ))
     (ai (aS Ψ (am (dsN bq z18.nd (DL.toO Ψ))) aI)
     (ai (dsN bq z18.nd (aH aN bz (aj (pvN 3 bq)) (DO.toB (doC ["_law_k","_law_script","_law_base"] (by kernel_rfl) (DIF.toB (dy z46 T.n_range (ar (aR (pvN 4 bq)) aL))) (fun _ _ _ _=>fU) (fun _ _ _ _=>Ψ)))))
     (ai (aS Ψ (am (dsN bq z18.nd (aH aN bz (aj (pvN 5 bq)) (DO.toB (doC ["_law_k","_law_base","_law_lines_here"] (by kernel_rfl) (DIF.toB (dy z46 T.n_range (ar aY aL))) (fun _ _ _ _=>eI (gw hr (DO.toB (aH aN bz (DL.toB av) Ψ)) (aj (pvX (by kernel_rfl))))) (fun _ _ _ _=>(DO.toL (aH aN bz (DL.toB av) Ψ)))))))) aI)
     (am (iS (pvN 5 bq))))))))))
abbrev q13:J8:=top 54
theorem z68:FnScope ["_law_found","_law_due_here"] ["_law_found","_law_due_here"] (ae q13):=fnS χ
theorem bW:cB (ae q13) ["_law_found","_law_due_here"]=θ:=χ
theorem z11:aO (ae q13) "isinstance"=θ:=χ
theorem q46:aO (ae q13) "tuple"=θ:=χ
theorem y69:aO (ae q13) "range"=θ:=χ
theorem z76:aO (ae q13) "all"=θ:=χ
theorem y34:aO (ae q13) "bool"=θ:=χ
theorem q54:aO (ae q13) "int"=θ:=χ
theorem y77:aO (ae q13) "str"=θ:=χ
theorem y68(T:Txt P w K mg)(D:DefF K mg "_law_alike" q13 ["_law_found","_law_due_here"]):∀n:Nat,OkF P w K mg base "_law_alike" (1+n) ["_law_found","_law_due_here"] (spD K 2 (z10 n))
 |0=>b6 (k:=0) D z68 rfl fun f cdv A outer s H E U=>FB
 |n+1=>by
  have O:=y68 T D  n
  exact(show OkF P w K mg base "_law_alike" (1+n+1) ["_law_found","_law_due_here"] (spD K 2 (z15 (z10 n)))from b6 D z68 rfl fun f cdv A outer s H E U=>(ai (aS (dI (DO.toB (dz z11 q46 T.n_isinstance T.n_tuple ij T.k_tuple (aj (pvN 1 bW)))) (fun _=>rfl)) (ai (aS (DW.t (qo (lO (dI (DO.toB (dz z11 q46 T.n_isinstance T.n_tuple ij T.k_tuple (aj (pvN 0 bW)))) (fun _=>rfl))) (oQ Ψ))) (am (az (DL.toO jy))) aI)
   (am (az (lP z76 (lL rfl) (xJ (f:=fun bs=>bs.all id)) T.n_all su (bP (DO.toB (doC ["_law_k","_law_found","_law_due_here"] (by kernel_rfl) (DIF.toB (dy y69 T.n_range Ψ)) (fun _ _ _ _=>fU) (fun _ _ _ _=>(DO.toL (ce χ O (U.mono Θ) Ψ (e1:=(scC (outer:=ae q13) rfl))))))) cu))))) aI)
   (ai (aS (dI (DO.toB (dz z11 y34 T.n_isinstance T.n_bool oN T.k_bool (aj (pvN 1 bW)))) (fun _=>rfl)) (am (az (jj (DO.toB (dz z11 y34 T.n_isinstance T.n_bool oN T.k_bool (aj (pvN 0 bW)))) (j9 Ψ)))) aI)
   (ai (aS (dI (DO.toB (dz z11 q54 T.n_isinstance T.n_int sv T.k_int (aj (pvN 1 bW)))) (fun _=>rfl)) (am (az (jj (DO.toB (dz z11 q54 T.n_isinstance T.n_int sv T.k_int (aj (pvN 0 bW)))) (jj (DO.toB (xu (DO.toB (dz z11 y34 T.n_isinstance T.n_bool oN T.k_bool (aj (pvN 0 bW)))))) (j9 Ψ))))) aI)
   (am (az (jj (DO.toB (dz z11 y77 T.n_isinstance T.n_str oM T.k_str (aj (pvN 0 bW)))) (j9 Ψ))))))))
abbrev q34:J8:=top 36
theorem q89:FnScope ["lines","words"] ["lines","words"] (ae q34):=fnS χ
theorem mM:cB (ae q34) ["lines","words"]=θ:=χ
theorem z70:aO (ae q34) "tuple"=θ:=χ
theorem z89(T:Txt P w K mg)(D:DefF K mg "heads_read" q34 ["lines","words"]):OkF P w K mg base "heads_read" 1 ["lines","words"] (spD K 2 y28):=b6 D q89 rfl fun f cdv A outer s H E O=>(am (az (gr z70 f8 o6 T.n_tuple ij (bP (DO.toB (doC ["line","words"] (by kernel_rfl) (dJ (aj (pvN 0 mM))) (fun _ _ _ _=>eI Ψ) (fun _ _ _ _=>Ψ))) cu))))
abbrev y36:J8:=top 34
theorem z24:FnScope ["lines","places","count","line"] ["lines"] (ae y36):=fnS χ
theorem bf:cB (ae y36) ["lines","places","count","line"]=θ:=χ
theorem y83(T:Txt P w K mg)(D:DefF K mg "label_places" y36 ["lines"]):OkF P w K mg base "label_places" 1 ["lines"] (spD K 1 q19):=
 b6 D z24 rfl fun f cdv A outer s H E O=>(ai (dsN bf z24.nd o8)
     (ai (dsN bf z24.nd (DL.toO aY))
     (ai (iq qk1 rfl (lQ (aR (pvN 0 bf))) (bj (bY (nsN bf 3) (nsL bf 3) z24.nd)) (am (aS Ψ (am (kh O (pvN 1 bf) (DO.toB (cX O (aj (pvN 3 bf)) (DL.toB aY))) (aR (pvN 2 bf)))) (am (aS Ψ (am (sJ (nsN bf 2) (nsL bf 2) z24.nd (DL.toB aY))) aI)))))
     (am (iS (pvN 1 bf))))))
abbrev z22:J8:=yk 2 0
theorem z67:FnScope ["self","at"] ["self","at"] (ae z22):=fnS χ
theorem eO:cB (ae z22) ["self","at"]=θ:=χ
theorem q66(D:DefX K mg "BadLine" z22 ["self","at"] ["at"]):OkX P w K mg base "BadLine" 1 ["at"]:=uj D z67 rfl fun f cdv A outer s H E=>(fS (qi (pvN 0 eO) (pvN 1 eO)))
abbrev y33:J8:=top 14
theorem y89:FnScope ["text","signs","most"] ["text","signs","most"] (ae y33):=fnS χ
theorem jc:cB (ae y33) ["text","signs","most"]=θ:=χ
theorem q77:aO (ae y33) "all"=θ:=χ
theorem q91(T:Txt P w K mg)(D:DefF K mg "is_made_of" y33 ["text","signs","most"]):OkF P w K mg base "is_made_of" 1 ["text","signs","most"] (spD K 3 q16):=b6 D y89 rfl fun f cdv A outer s H E O=>(am (az (jj (DO.toB (xG eZ cO eZ cO (DL.toB aY) Ψ (aj (pvN 2 jc)))) (j9 (lP q77 (lL rfl) (xJ (f:=fun bs=>bs.all id)) T.n_all su (bP (DO.toB (doC ["sign","signs"] (by kernel_rfl) (dJ (aj (pvN 0 jc))) (fun _ _ _ _=>fU) (fun _ _ _ _=>(DO.toL (xP O (aj (pvX (by kernel_rfl))) (aj (pvX (by kernel_rfl)))))))) cu))))))
abbrev z72:J8:=top 15
theorem y99:FnScope ["text"] ["text"] (ae z72):=fnS χ
theorem q99(T:Txt P w K mg)(D:DefF K mg "is_name" z72 ["text"])(O:OkF P w K mg base "is_made_of" 1 ["text","signs","most"] (spD K 3 (q16))):OkF P w K mg base "is_name" 2 ["text"] (spD K 1 z34):=b6 D y99 rfl fun f cdv A outer s H E U=>(am (az Ψ))
abbrev z55:J8:=top 17
theorem q78:FnScope ["word","number"] ["word"] (ae z55):=fnS χ
theorem iH:cB (ae z55) ["word","number"]=θ:=χ
theorem q95(T:Txt P w K mg)(D:DefF K mg "value_of" z55 ["word"])(U:OkF P w K mg base "is_made_of" 1 ["text","signs","most"] (spD K 3 (q16))):OkF P w K mg base "value_of" 2 ["word"] (spD K 1 q20):=
 b6 D q78 rfl fun f cdv A outer s H E O=>(ai (aS Ψ (am (az (DL.toO cS))) aI)
     (ai (aS (DW.t (gc (dI (DO.toB (mJ (aj (pvN 0 iH)) (bP (DL.toB av) cu))) (fun _=>rfl)) (e8 (bA (oZ O) AC (aj (pvN 0 iH)) (DL.toB av) (bi _))))) (am (az (DL.toO cS))) aI)
     (ai (dsN iH q78.nd (DL.toO Ψ))
     (am (az Ψ)))))
abbrev z75:J8:=top 18
theorem z99:FnScope ["word"] ["word"] (ae z75):=fnS χ
theorem z98(T:Txt P w K mg)(D:DefF K mg "atom_of" z75 ["word"])(U:OkF P w K mg base "is_name" 2 ["text"] (spD K 1 (z34)))(O:OkF P w K mg base "value_of" 2 ["word"] (spD K 1 (q20))):OkF P w K mg base "atom_of" 3 ["word"] (spD K 1 q51):=b6 D z99 rfl fun f cdv A outer s H E Z=>(am (az Ψ))
abbrev q67:J8:=top 16
theorem y95:FnScope ["text"] ["text"] (ae q67):=fnS χ
theorem q96(T:Txt P w K mg)(D:DefF K mg "is_label" q67 ["text"])(O:OkF P w K mg base "is_made_of" 1 ["text","signs","most"] (spD K 3 (q16))):OkF P w K mg base "is_label" 2 ["text"] (spD K 1 y42):=b6 D y95 rfl fun f cdv A outer s H E U=>(am (az Ψ))
abbrev y50:J8:=top 27
theorem z82:FnScope ["word","size"] ["word"] (ae y50):=fnS χ
theorem gR:cB (ae y50) ["word","size"]=θ:=χ
theorem y58:aO (ae y50) "MOST_OF_SIZE"=θ:=χ
theorem y97(T:Txt P w K mg)(D:DefF K mg "size_of" y50 ["word"])(O:OkF P w K mg base "value_of" 2 ["word"] (spD K 1 (q20))):OkF P w K mg base "size_of" 3 ["word"] (spD K 1 y51):=
 b6 D z82 rfl fun f cdv A outer s H E U=>(ai (dsN gR z82.nd (DL.toO Ψ))
     (am (az (xv (DW.t (gc (bA ow o0 (aj (pvN 1 gR)) (DL.toB cS) (bi _)) (e8 (gu eZ cO eZ cO (DL.toB aY) (aj (pvN 1 gR)) (DL.toB (jF y58 T.g_C)))))) (DL.toO (aR (pvN 1 gR))) (DL.toO cS)))))
abbrev z50:J8:=top 28
theorem y54:FnScope ["want","word","fits"] ["want","word"] (ae z50):=fnS χ
theorem cK:cB (ae z50) ["want","word","fits"]=θ:=χ
theorem q80:aO (ae z50) "SIGNS"=θ:=χ
theorem q98(T:Txt P w K mg)(D:DefF K mg "part_of" z50 ["want","word"])(z86:OkF P w K mg base "atom_of" 3 ["word"] (spD K 1 (q51)))(q82:OkF P w K mg base "is_label" 2 ["text"] (spD K 1 (y42)))(q59:OkF P w K mg base "is_name" 2 ["text"] (spD K 1 (z34)))(U:OkF P w K mg base "size_of" 3 ["word"] (spD K 1 (y51)))(Z:OkF P w K mg base "value_of" 2 ["word"] (spD K 1 (q20))):OkF P w K mg base "part_of" 4 ["want","word"] (spD K 2 q52):=
 b6 D y54 rfl fun f cdv A outer s H E O=>(ai (aS (bA (du O) jk (aj (pvN 0 cK)) (DL.toB av) (bi _)) (am (az Ψ)) aI)
     (ai (aS (bA (du O) jk (aj (pvN 0 cK)) (DL.toB av) (bi _)) (am (az Ψ)) aI)
     (ai (aS (bA (du O) jk (aj (pvN 0 cK)) (DL.toB av) (bi _)) (am (az Ψ)) aI)
     (ai (aS (bA (du O) jk (aj (pvN 0 cK)) (DL.toB av) (bi _)) (am (dsN cK y54.nd (DL.toO Ψ))) (am (aS (bA (du O) jk (aj (pvN 0 cK)) (DL.toB av) (bi _)) (am (dsN cK y54.nd (DL.toO Ψ))) (am (dsN cK y54.nd (DL.toO (DO.toL (xP O (aj (pvN 1 cK)) (DL.toB (jF q80 T.g_L))))))))))
     (am (az Ψ))))))
abbrev z32:J8:=top 29
theorem q85:FnScope ["kind","wants","words","parts"] ["kind","wants","words"] (ae z32):=fnS χ
theorem eC:cB (ae z32) ["kind","wants","words","parts"]=θ:=χ
theorem q87:aO (ae z32) "zip"=θ:=χ
theorem y81:aO (ae z32) "tuple"=θ:=χ
theorem q100(T:Txt P w K mg)(D:DefF K mg "filled" z32 ["kind","wants","words"])(Z:OkF P w K mg base "part_of" 4 ["want","word"] (spD K 2 (q52))):OkF P w K mg base "filled" 5 ["kind","wants","words"] (spD K 3 y35):=
 b6 D q85 rfl fun f cdv A outer s H E U=>(ai (aS Ψ (am (az (DL.toO cS))) aI)
     (ai (iD (nsN eC 3) (nsL eC 3) q85.nd (M:=["want","word"]) (src:=[ψ,ψ]) (ts:=[0,1]) (CmpScope.of (by kernel_rfl)) rfl (DIF.toB (Dx q87 T.n_zip (ar (aR (pvN 1 eC)) (ar (aR (pvN 2 eC)) aL)))) (fun O _ _ _ _=>(oW rfl (bF (bj (cz (N:=["want","word"]) (i:=0) χ χ O (scC (outer:=ae z32) (by exact rfl)))) (bF (bj (cz (N:=["want","word"]) (i:=1) χ χ O (scC (outer:=ae z32) (by exact rfl)))) e9)))) (fun _ _ _ _=>fU) (fun _ _ _ _=>Ψ) χ)
     (am (az (xv (qA U (DL.toB cS) (aj (pvN 3 eC))) (DL.toO cS) (gr y81 f8 o6 T.n_tuple ij (bP (DO.toB (aH aN bz (DO.toB (bZ (ar (aR (pvN 0 eC)) aL))) (aj (pvN 3 eC)))) cu)))))))
abbrev z56:J8:=top 30
theorem q88:FnScope ["words"] ["words"] (ae z56):=fnS χ
theorem z90(T:Txt P w K mg)(D:DefF K mg "setting_of" z56 ["words"])(O:OkF P w K mg base "filled" 5 ["kind","wants","words"] (spD K 3 (y35))):OkF P w K mg base "setting_of" 6 ["words"] (spD K 1 y32):=
 b6 D q88 rfl fun f cdv A outer s H E U=>(ai (aS Ψ (am (az Ψ)) aI)
     (ai (aS Ψ (am (az Ψ)) aI)
     (am (az (DL.toO cS)))))
abbrev q42:J8:=top 31
theorem q81:FnScope ["line","words"] ["line"] (ae q42):=fnS χ
theorem eD:cB (ae q42) ["line","words"]=θ:=χ
theorem z54:aO (ae q42) "WANTED"=θ:=χ
theorem z77:aO (ae q42) "filled"=θ:=χ
theorem y98(T:Txt P w K mg)(D:DefF K mg "line_of" q42 ["line"])(U:OkF P w K mg base "filled" 5 ["kind","wants","words"] (spD K 3 (y35)))(Z:OkF P w K mg base "setting_of" 6 ["words"] (spD K 1 (y32))):OkF P w K mg base "line_of" 7 ["line"] (spD K 1 z51):=
 b6 D q81 rfl fun f cdv A outer s H E O=>(ai (dsN eD q81.nd (DL.toO (DO.toL (jK (aj (pvN 0 eD)) (bP (DL.toB av) cu)))))
     (ai (aS Ψ (am (az Ψ)) aI)
     (ai (aS (DF z54 T.g_I (DO.toB (cX O (aj (pvN 1 eD)) (DL.toB aY)))) (am (az (DL.toO cS))) aI)
     (am (az (ce z77 U (O.mono Ω) (ar (DO.toL (cX O (aj (pvN 1 eD)) (DL.toB aY))) (ar (DO.toL (Fy z54 T.g_I (DO.toB (cX O (aj (pvN 1 eD)) (DL.toB aY))))) (ar (DO.toL (lT (aj (pvN 1 eD)) (o5 (DL.toB aY)) o4)) aL)))))))))
abbrev z36:J8:=top 32
theorem z25:FnScope ["text","lines","only_heads","number","row","line"] ["text"] (ae z36):=fnS χ
theorem bw:cB (ae z36) ["text","lines","only_heads","number","row","line"]=θ:=χ
theorem q62:aO (ae z36) "enumerate"=θ:=χ
theorem y70:aO (ae z36) "BadLine"=θ:=χ
theorem z96(T:Txt P w K mg)(D:DefF K mg "lines_of" z36 ["text"])(O:OkX P w K mg base "BadLine" 1 ["at"])(Z:OkF P w K mg base "line_of" 7 ["line"] (spD K 1 (z51))):OkFX P w K mg base "lines_of" 8 ["text"] (spX K 1 z19):=
 o7 D z25 rfl fun f cdv A outer s H E U=>(cv (eB (dsN bw z25.nd (bZ aL)))
     (cv (eB (dsN bw z25.nd (DL.toO jy)))
     (cv (xN zd1.leaving rfl (jJ q62 T.n_enumerate (ar (DO.toL (jK (aj (pvN 0 bw)) (bP (DL.toB av) cu))) aL)) (oW rfl (bF (bj (bY (nsN bw 3) (nsL bw 3) z25.nd)) (bF (bj (bY (nsN bw 4) (nsL bw 4) z25.nd)) e9))) (cv (eB (dsN bw z25.nd (DL.toO Ψ)))
     (cv (xM Ψ (gM (lZ y70 O (U.mono Ω) (ar (aR (pvN 3 bw)) aL))) (xL aI))
     (cv (eB (dsN bw z25.nd (DL.toO Ψ)))
     (gM (eB (fD (pvN 1 bw) (aR (pvN 5 bw)))))))))
     (gM (eB (iS (pvN 1 bw)))))))
abbrev q26:J8:=yk 3 0
theorem z74:FnScope ["self","word"] ["self","word"] (ae q26):=fnS χ
theorem fL:cB (ae q26) ["self","word"]=θ:=χ
theorem q73(D:DefX K mg "Twice" q26 ["self","word"] ["word"]):OkX P w K mg base "Twice" 1 ["word"]:=uj D z74 rfl fun f cdv A outer s H E=>(fS (qi (pvN 0 fL) (pvN 1 fL)))
abbrev y27:J8:=top 33
theorem q44:FnScope ["words","seen","word"] ["words"] (ae y27):=fnS χ
theorem bt:cB (ae y27) ["words","seen","word"]=θ:=χ
theorem z60:aO (ae y27) "Twice"=θ:=χ
theorem z81(T:Txt P w K mg)(D:DefF K mg "refuse_twice" y27 ["words"])(U:OkX P w K mg base "Twice" 1 ["word"]):OkFX P w K mg base "refuse_twice" 3 ["words"] (spX K 1 y13):=
 o7 D q44 rfl fun f cdv A outer s H E O=>(cv (eB (dsN bt q44.nd o8))
     (gM (xN zd1.leaving rfl (lQ (aR (pvN 0 bt))) (bj (bY (nsN bt 2) (nsL bt 2) q44.nd)) (cv (xM (qA O (aj (pvN 2 bt)) (aj (pvN 1 bt))) (gM (lZ z60 U (O.mono Ω) (ar (aR (pvN 2 bt)) aL))) (xL aI))
     (gM (eB (kh O (pvN 1 bt) (aj (pvN 2 bt)) jy)))))))
abbrev q23:J8:=yk 4 0
theorem y64:FnScope ["self","word"] ["self","word"] (ae q23):=fnS χ
theorem eQ:cB (ae q23) ["self","word"]=θ:=χ
theorem z64(D:DefX K mg "NoLabel" q23 ["self","word"] ["word"]):OkX P w K mg base "NoLabel" 1 ["word"]:=uj D y64 rfl fun f cdv A outer s H E=>(fS (qi (pvN 0 eQ) (pvN 1 eQ)))
abbrev z29:J8:=top 35
theorem y62:FnScope ["row","places","label"] ["row","places"] (ae z29):=fnS χ
theorem cC:cB (ae z29) ["row","places","label"]=θ:=χ
theorem z59:aO (ae z29) "NoLabel"=θ:=χ
theorem z84(T:Txt P w K mg)(D:DefF K mg "with_number" z29 ["row","places"])(U:OkX P w K mg base "NoLabel" 1 ["word"]):OkFX P w K mg base "with_number" 3 ["row","places"] (spX K 2 q18):=
 o7 D y62 rfl fun f cdv A outer s H E O=>(cv (eB (aS Ψ (am (iS (pvN 0 cC))) aI))
     (cv (eB (dsN cC y62.nd (DL.toO (DO.toL (cX O (aj (pvN 0 cC)) (DO.toB (xH (DL.toB aY))))))))
     (cv (xM (gw O (aj (pvN 2 cC)) (aj (pvN 1 cC))) (gM (lZ z59 U (O.mono Ω) (ar (aR (pvN 2 cC)) aL))) (xL aI))
     (gM (eB (az (aH pi sU Ψ Ψ)))))))
abbrev eY:J8:=top 37
theorem q76:FnScope ["text","lines","places","rows"] ["text"] (ae eY):=fnS χ
theorem dm:cB (ae eY) ["text","lines","places","rows"]=θ:=χ
theorem z79:aO (ae eY) "lines_of"=θ:=χ
theorem y43:aO (ae eY) "refuse_twice"=θ:=χ
theorem q65:aO (ae eY) "label_places"=θ:=χ
theorem y80:aO (ae eY) "SHELVES"=θ:=χ
theorem q50:aO (ae eY) "heads_read"=θ:=χ
theorem z87:aO (ae eY) "CELLS"=θ:=χ
theorem y100(T:Txt P w K mg)(D:DefF K mg "read" eY ["text"])(Z:OkF P w K mg base "heads_read" 1 ["lines","words"] (spD K 2 (y28)))(z48:OkF P w K mg base "label_places" 1 ["lines"] (spD K 1 (q19)))(y66:OkFX P w K mg base "lines_of" 8 ["text"] (spX K 1 z19))(U:OkFX P w K mg base "refuse_twice" 3 ["words"] (spX K 1 y13))(z52:OkFX P w K mg base "with_number" 3 ["row","places"] (spX K 2 q18)):OkFX P w K mg base "read" 9 ["text"] (spX K 1 jl):=
 o7 D q76 rfl fun f cdv A outer s H E O=>(cv (Dz (nsN dm 1) (nsL dm 1) q76.nd z79 y66 (O.mono Ω) (ar (aR (pvN 0 dm)) aL))
     (cv (ui y43 U (O.mono Ω) (ar (DO.toL (doC ["line"] (by kernel_rfl) (dJ (aj (pvN 1 dm))) (fun _ _ _ _=>eI Ψ) (fun _ _ _ _=>(DO.toL (cX O (aj (pvX (by kernel_rfl))) (DL.toB aY)))))) aL))
     (cv (ui y43 U (O.mono Ω) (ar (DO.toL (doC ["line"] (by kernel_rfl) (dJ (aj (pvN 1 dm))) (fun _ _ _ _=>eI Ψ) (fun _ _ _ _=>(DO.toL (cX O (aj (pvX (by kernel_rfl))) (DL.toB aY)))))) aL))
     (cv (eB (gJ (i:=1) (dsN dm q76.nd (DL.toO (DO.toL (ce q65 z48 (O.mono Ω) (ar (aR (pvN 1 dm)) aL)))))))
     (cv (A6 (nsN dm 3) (nsL dm 3) q76.nd (M:=["line","places"]) (src:=[ψ,ς 2]) (ts:=[0]) (CmpScope.of (by kernel_rfl)) rfl (dJ (aj (pvN 1 dm))) (fun nd _ _ _ _=>(bj (cz (N:=["line","places"]) (i:=0) χ χ nd (scC (outer:=ae eY) (by exact rfl))))) (fun _ _ _ _=>eI Ψ) χ z52 (O.mono Ω) (fun _ _ _ _=>(ar (aR (pvX (by kernel_rfl))) (ar (aR (pvX (by kernel_rfl))) aL))) χ (e3:=fun _ _ _ _=>(scC (outer:=ae eY) rfl)))
     (gM (eB (gJ (i:=1) (az (oV (ar (DO.toL (ce q50 Z (O.mono Ω) (ar (aR (pvN 1 dm)) (ar (jF z87 T.g_J) aL)))) (ar (DO.toL (ce q50 Z (O.mono Ω) (ar (aR (pvN 1 dm)) (ar (jF y80 T.g_H) aL)))) (ar Ψ aL)))))))))))))
abbrev z12:J8:=top 55
theorem z23:FnScope ["_law_lines_here","_law_due_here","_law_caught","_law_found","e","_law_kinds"] ["_law_lines_here"] (ae z12):=fnS χ
theorem aK:cB (ae z12) ["_law_lines_here","_law_due_here","_law_caught","_law_found","e","_law_kinds"]=θ:=χ
theorem y71:aO (ae z12) "read"=θ:=χ
theorem y59:aO (ae z12) "DimError"=θ:=χ
theorem q21:aO (ae z12) "_law_alike"=θ:=χ
theorem q14:aO (ae z12) "isinstance"=θ:=χ
theorem z62:aO (ae z12) "Unknown"=θ:=χ
theorem q69:aO (ae z12) "Falls"=θ:=χ
theorem y56:aO (ae z12) "ValueError"=θ:=χ
theorem q63:aO (ae z12) "NoLabel"=θ:=χ
theorem z69:aO (ae z12) "Twice"=θ:=χ
theorem z63:aO (ae z12) "BadLine"=θ:=χ
theorem y86(T:Txt P w K mg)(D:DefF K mg "_law_right" z12 ["_law_lines_here"])(U:OkF P w K mg base "_law_alike" 7 ["_law_found","_law_due_here"] (spD K 2 (z10 6)))(z44:OkF P w K mg base "_law_due" 4 ["_law_lines_here"] (spD K 1 (z20)))(O:OkFX P w K mg base "read" 9 ["text"] (spX K 1 jl)):OkF P w K mg base "_law_right" 10 ["_law_lines_here"] (spD K 1 q12):=
 b6 D z23 rfl fun f cdv A outer s H E Z=>(ai (dsN aK z23.nd (DL.toO Ψ))
     (ai (dsN aK z23.nd (DL.toO cS))
     (ai (dsN aK z23.nd (DL.toO cS))
     (ai (AS T.xw y71 O (Z.mono Ω) (ar (DO.toL (jG (DL.toB av) (bP (aj (pvN 0 aK)) cu))) aL) y59 z23.nd (nsN aK 3) (nsL aK 3) (nsN aK 4) χ (nsN aK 2) (nsL aK 2) Ω)
     (ai (aS (ya (pvN 2 aK)) (am (az (jj Ψ (j9 (ce q21 U (Z.mono Ω) Ψ))))) aI)
     (ai (aS (DW.t (qo (lO (dI (DO.toB (AI T.xw q14 T.n_isinstance y56 T.n_ValueError mK (gO (pvN 2 aK)))) (fun _=>rfl))) (oQ (dI (DO.toB (AW T.xw q14 T.n_isinstance z62 q69 χ (gO (pvN 2 aK)))) (fun _=>rfl))))) (am (az (DL.toO jy))) aI)
     (ai (dsN aK z23.nd (DL.toO (DO.toL (bZ (ar (DO.toL (pf T.xw q14 T.n_isinstance z63 χ (gO (pvN 2 aK)))) (ar (DO.toL (pf T.xw q14 T.n_isinstance z69 χ (gO (pvN 2 aK)))) (ar (DO.toL (pf T.xw q14 T.n_isinstance q63 χ (gO (pvN 2 aK)))) aL)))))))
     (ai (aS Ψ (am (az (DL.toO jy))) aI)
     (ai (aS Ψ (am (az (ce q21 U (Z.mono Ω) (ar (xZ (gO (pvN 2 aK))) (ar (DO.toL (cX Z (aj (pvN 1 aK)) (DL.toB aY))) aL))))) aI)
     (am (az (ce q21 U (Z.mono Ω) (ar (xZ (gO (pvN 2 aK))) (ar (DO.toL (cX Z (aj (pvN 1 aK)) (DL.toB aY))) aL))))))))))))))
abbrev q55:J8:=top 46
theorem y30:FnScope ["_law_k","_law_some"] ["_law_k"] (ae q55):=fnS χ
theorem eR:cB (ae q55) ["_law_k","_law_some"]=θ:=χ
theorem y96(T:Txt P w K mg)(D:DefF K mg "_law_odd" q55 ["_law_k"]):OkF P w K mg base "_law_odd" 1 ["_law_k"] (spD K 1 y45):=
 b6 D y30 rfl fun f cdv A outer s H E O=>(ai (dsN eR y30.nd (DL.toO Ψ))
     (ai (dsN eR y30.nd (DL.toO Ψ))
     (ai (dsN eR y30.nd (DL.toO Ψ))
     (ai (dsN eR y30.nd (DL.toO Ψ))
     (ai (dsN eR y30.nd (DL.toO Ψ))
     (am (az Ψ)))))))
abbrev q41:J8:=top 47
theorem q15:FnScope ["_law_told_row","_law_cell_here","_law_some","_law_way","_law_spot","_law_sign","_law_words","_law_at","_law_other","_law_middle"] ["_law_told_row","_law_cell_here"] (ae q41):=fnS χ
theorem aU:cB (ae q41) ["_law_told_row","_law_cell_here","_law_some","_law_way","_law_spot","_law_sign","_law_words","_law_at","_law_other","_law_middle"]=θ:=χ
theorem q84(T:Txt P w K mg)(D:DefF K mg "_law_spoilt" q41 ["_law_told_row","_law_cell_here"])(Z:OkF P w K mg base "_law_odd" 1 ["_law_k"] (spD K 1 (y45)))(U:OkF P w K mg base "_law_part" 1 ["_law_cell_here","_law_j","_law_many"] (spD K 3 (z9))):OkF P w K mg base "_law_spoilt" 2 ["_law_told_row","_law_cell_here"] (spD K 2 y29):=
 b6 D q15 rfl fun f cdv A outer s H E O=>(ai (dsN aU q15.nd (DL.toO av))
     (ai (dsN aU q15.nd (DL.toO Ψ))
     (ai (dsN aU q15.nd (DL.toO Ψ))
     (ai (dsN aU q15.nd (DL.toO Ψ))
     (ai (aS (bA qa cO (aj (pvN 3 aU)) (DL.toB aY) (bi _)) (am (az Ψ)) aI)
     (ai (aS (bA qa cO (aj (pvN 3 aU)) (DL.toB aY) (bi _)) (am (az Ψ)) aI)
     (ai (dsN aU q15.nd (DL.toO (DO.toL (jK (aj (pvN 0 aU)) (bP (DL.toB av) cu)))))
     (ai (dsN aU q15.nd (DL.toO Ψ))
     (ai (dsN aU q15.nd (DL.toO Ψ))
     (ai (dsN aU q15.nd (DL.toO (DO.toL (cX O (DO.toB (bZ (ar (DO.toL (bZ aL)) (ar Ψ (ar (DO.toL (bZ (ar (aR (pvN 8 aU)) aL))) (ar (DO.toL (aH aN bz (DO.toB (bZ (ar (aR (pvN 8 aU)) aL))) Ψ)) (ar Ψ aL))))))) (DO.toB (aH wI BZ (aj (pvN 3 aU)) (DL.toB aY)))))))
     (am (az (lT (DO.toB (jG (DL.toB av) Ψ)) o4 (o5 (DL.toB aY)))))))))))))))
abbrev iI:J8:=top 57
theorem sc_law:FnScope ["_law_script","_law_lines_here","_law_cell_here","_law_k","_law_other","_law_spot","_law_due_here"] ["_law_script"] (ae iI):=fnS χ
theorem dv:cB (ae iI) ["_law_script","_law_lines_here","_law_cell_here","_law_k","_law_other","_law_spot","_law_due_here"]=θ:=χ
theorem z94:aO (ae iI) "range"=θ:=χ
theorem y53:aO (ae iI) "_law_right"=θ:=χ
theorem q83:aO (ae iI) "_law_due"=θ:=χ
theorem DZ{f:J5}{fd:qk2}(T:Txt P w K mg)(D:Fun K "law" "law" iI f fd)(z30:OkF P w K mg base "_law_cell" 1 ["_law_script","_law_k"] (spD K 2 (z13)))(Z:OkF P w K mg base "_law_due" 4 ["_law_lines_here"] (spD K 1 (z20)))(z71:OkF P w K mg base "_law_lines" 5 ["_law_script"] (spD K 1 (q33)))(y11:OkF P w K mg base "_law_part" 1 ["_law_cell_here","_law_j","_law_many"] (spD K 3 (z9)))(O:OkF P w K mg base "_law_right" 10 ["_law_lines_here"] (spD K 1 (q12)))(q68:OkF P w K mg base "_law_spoilt" 2 ["_law_told_row","_law_cell_here"] (spD K 2 (y29))):FnOk P w K mg base CX0 11 f fd ["_law_script"] (spD K 1 ut):=
 Fo D sc_law rfl fun cdv A outer s H E U=>(ai (dsN dv sc_law.nd Ψ)
     (ai (dsN dv sc_law.nd (DL.toO Ψ))
     (ai (iq qk1 rfl (dy z94 T.n_range Ψ) (bj (bY (nsN dv 3) (nsL dv 3) sc_law.nd)) (ai (dsN dv sc_law.nd (DL.toO Ψ))
     (ai (dsN dv sc_law.nd (DL.toO Ψ))
     (am (aS Ψ (ai (dsN dv sc_law.nd Ψ)
     (am (vS (pvN 1 dv) Ψ av))) (am (kh U (pvN 1 dv) (aj (pvN 5 dv)) Ψ)))))))
     (ai (aS Ψ (am (dsN dv sc_law.nd (bZ (ar av aL)))) aI)
     (ai (gJ (i:=1) (aS (lO (dI (DO.toB (ce y53 O (U.mono Ω) (ar (aR (pvN 1 dv)) aL))) (fun _=>rfl))) (am (az (DL.toO jy))) aI))
     (ai (gJ (i:=1) (dsN dv sc_law.nd (DL.toO (DO.toL (ce q83 Z (U.mono Ω) (ar (aR (pvN 1 dv)) aL))))))
     (ai (aS Ψ (am (az (DL.toO jy))) aI)
     (am (gJ (i:=1) (az (ce y53 O (U.mono Ω) (ar (aR (pvN 1 dv)) aL))))))))))))
end
end P13
namespace L2
open PySem PySem.Spec PyProof.Rows
variable{i j:Int}
theorem gAdd_i:aB (.int i) (.int j)=ς (.f (.int (i+j))):=rfl
variable{x y:Str}
theorem sY(h:x.length+y.length<=qa7):aB (.str x) (.str y)=ς (.f (.str (x++y))):=if_pos h
variable{l m:η Dt}
theorem D0(h:l.length+m.length<=qa7):aB (.e l) (.e m)=ς (.e (l++m)):=if_pos h
theorem ym(h:l.length+m.length<=qa7/\l≠[]/\m≠[]):aB (.t l) (.t m)=ς (.f (.t (l++m))):=if_pos h
theorem pv(h:i8 i j=θ):i3 (.int i) (.int j)=ς (.f (.int (i*j))):=if_pos h
theorem l8(h:0<j):fQ (.int i) (.int j)=ς (.f (.int (i%j))):=if_pos h
theorem D3(h:qr i j=θ):kW (.int i) (.int j)=ς (.f (.int (i^j.toNat))):=if_pos h
theorem yn:qr 2 40=θ:=Ω
@[irreducible] def wide:Int:=1099511627776
theorem ll:wide=1099511627776:=by unfold wide;rfl
theorem pw:kW (.int 2) (.int 40)=ς (.f (.int wide)):=by rw[D3 yn,ll];rfl
theorem yo:(0:Int)<wide:=by rw[ll];decide
theorem yp:fQ (.int i) (.int wide)=ς (.f (.int (i%wide))):=l8 yo
theorem dg{f:Int->Int->Bool}:bG f (.int i) (.int j)=ς (.f (.bl (f i j))):=rfl
theorem FH(h:(cmpbs l m&&decide (deeps l<=59))=θ):eqD (.e l) (.e m)=ς (peqs l m):=if_pos h
variable{neg b:Bool}
theorem D4{x y:Dt}(h:eqD x y=ς b):gEq neg x y=ς (.f (.bl (if neg then !b else b))):=by unfold gEq;rw[h];rfl
theorem gf:gEq ξ (.int i) (.int j)=ς (.f (.bl (decide (i=j)))):=rfl
theorem aV{i j:Str}:gEq ξ (.str i) (.str j)=ς (.f (.bl (decide (i=j)))):=rfl
theorem D5{i j:Bool}:gEq ξ (.bl i) (.bl j)=ς (.f (.bl (decide (i=j)))):=rfl
theorem pA:gEq θ (.int i) (.int j)=ς (.f (.bl (!decide (i=j)))):=rfl
theorem gS{i j:Str}:gEq θ (.str i) (.str j)=ς (.f (.bl (!decide (i=j)))):=rfl
theorem B9{x:Dt}:gIs neg x .non=ς (.f (.bl (if neg then !de x else de x))):=rfl
theorem kR:au (.e l) (.int i)=(atI l i).map .f:=rfl
theorem uu:au (.t l) (.int i)=(atI l i).map .f:=rfl
theorem uv(h:x.length<=qa7):au (.str x) (.int i)=(atI x.cps.toList i).map fun c=>.f (.str ⟨#[c]⟩):=if_pos h
variable{ks:η Key}
theorem yq{k:Dt}:au (.dct ks l) k=(lU k).bind fun k=>(b7 ks l k).map .f:=rfl
theorem yr{k:Dt}:bv neg k (.dct ks l)=(lU k).map fun k=>.f (.bl (if neg then !(b7 ks l k).isSome else(b7 ks l k).isSome)):=rfl
theorem Ca{x:Dt}(h:(cG x&&l.all cG)=θ):bv neg x (.e l)=ς (.f (.bl (if neg then !(l.any fun y=>eqF y x)else l.any fun y=>eqF y x))):=by cases x<;>simp only[bv,gIn,inD]<;>first|rw[if_pos h];rfl|cases h
theorem iJ{x:Dt}(h:(cG x&&l.all cG)=θ):bv neg x (.t l)=ς (.f (.bl (if neg then !(l.any fun y=>eqF y x)else l.any fun y=>eqF y x))):=by cases x<;>simp only[bv,gIn,inD]<;>first|rw[if_pos h];rfl|cases h
theorem uw:bv neg (.str x) (.str y)=ς (.f (.bl (if neg then !inS y x else inS y x))):=rfl
theorem kn:br [.e l]=ς (.f (.int l.length)):=rfl
theorem D6:br [.t l]=ς (.f (.int l.length)):=rfl
theorem ku(h:x.length<=qa7):br [.str x]=ς (.f (.int x.length)):=if_pos h
theorem D7(h:nq j=θ):iu [.int j]=ς (bB 0 j.toNat):=if_pos h
theorem yt(O:-1000000000<=j)(h1:j<=1000000000):nq j=θ:=by unfold nq;simp only[qb0,decide_eq_true_eq];lia
variable{n:Nat}
theorem sZ(h:n<=1000000000):iu [.int n]=ς (bB 0 n):=by rw[D7 (yt Θ Θ)];rfl
theorem itD_s:itD (.str x)=ς (np x):=rfl
theorem FI:asB (.f (.bl b))=ς b:=rfl
theorem D8:oR (.bl b)=ς b:=rfl
theorem b8(h:n<=1000000):n<=qa7:=qc5 h Ω
theorem l9(h:n<1000000):n<qa7:=qc3 h Ω
variable{f:De->ζ (η Dt)}{δ:De}{ds:η Dt}
theorem pB(h:f δ=ς ds)(O:ds.length<=1000000):aZ f δ=ς (.e ds):=by unfold aZ;rw[h];exact if_pos (b8 O)
variable{g1 g2:De->ζ Out}
theorem bn{δ':De}(h:g1 δ=ς (.nx δ')):ao g1 g2 δ=g2 δ':=by unfold ao;rw[h];rfl
theorem dw{t:T}(h:g1 δ=ς (.rt t)):ao g1 g2 δ=ς (.rt t):=by unfold ao;rw[h];rfl
variable{bb:Dt->De->ζ De}{ft:De->ζ Bool}{fe:De->ζ Dt}
theorem kx{f:Dt->Dt}:∀{ds:η Dt},(∀d∈ds,∃O,bb d δ=ς O/\ft O=ς θ/\fe O=ς (f d))->bJ bb ft fe δ ds=ς (ds.map f)
 |[],_=>rfl
 |d::r,h=>by obtain⟨O,h1,h2,h3⟩:=h d qa8;unfold bJ;rw[h1,qa1,h2,qa1,if_pos rfl,h3,qa1,kx fun e U=>h e (qa3 _ U)];rfl
theorem ma{P:Dt->Dt->Prop}:∀{ds:η Dt},(∀d∈ds,∃O y,bb d δ=ς O/\ft O=ς θ/\fe O=ς y/\P d y)->∃ys,bJ bb ft fe δ ds=ς ys/\Paired P ds ys
 |[],_=>⟨[],rfl,.nil⟩
 |d::r,h=>by
  obtain⟨O,y,h1,h2,h3,Z⟩:=h d qa8;obtain⟨ys,h5,h6⟩:=ma fun e U=>h e (qa3 _ U)
  refine⟨y::ys,?_,.cons Z h6⟩;unfold bJ;rw[h1,qa1,h2,qa1,if_pos rfl,h3,qa1,h5];rfl
theorem jN{p:Dt->Bool}{f:Dt->Dt}:∀{ds:η Dt},(∀d∈ds,∃O,bb d δ=ς O/\ft O=ς (p d)/\(p d=θ->fe O=ς (f d)))->bJ bb ft fe δ ds=ς ((ds.filter p).map f)
 |[],_=>rfl
 |d::r,h=>by
  obtain⟨O,h1,h2,h3⟩:=h d qa8;have Z:=jN fun e he=>h e (qa3 _ he)
  unfold bJ;rw[h1,qa1,h2,qa1];cases U:p d with
  |true=>rw[if_pos rfl,h3 U,qa1,Z,qz2 U];rfl
  |false=>rw[if_neg Ξ,Z,qz3 (by simp[U])]
variable{lo:Int}
theorem mem_range{d:Dt}(h:d∈bB lo n):∃i:Nat,i<n/\d=.int (lo+i):=by unfold bB at h;obtain⟨i,hi,rfl⟩:=qc9.mp h;exact⟨i,zb7.mp hi,rfl⟩
theorem eF:(bB lo n).length=n:=by simp[bB]
variable{g:De->ζ Out}{r:η Dt}
theorem bx{d:Dt}{O δ2:De}(h1:bb d δ=ς O)(h2:g O=ς (.nx δ2)):cW bb g (d::r) δ=cW bb g r δ2:=by show((bb d δ).bind fun O=>(g O).bind fun o=>match o with|.nx δ2=>cW bb g r δ2|.ct δ2=>cW bb g r δ2|.bk δ2=>ς (.nx δ2)|.rt t=>ς (.rt t))=_;rw[h1,qa1,h2];rfl
theorem D9{α:Type}{x:α}{l:η α}:atI (x::l) 0=ς x:=by unfold atI ixN;simp
theorem eS{α:Type}{l:η α}{k:Nat}:atI l (k:Int)=l[k]?:=by
 unfold atI ixN;rw[if_pos Θ];by_cases h:k<l.length
 .rw[if_pos Θ];simp
 .rw[if_neg Θ];simp;lia
theorem gMul_l(h1:-1000000000000000000<i)(h2:i<1000000000000000000):i3 (.int i) (.int j)=ς (.f (.int (i*j))):=pv (Az h1 h2)
theorem yu(h1:-1000000000000000000<j)(h2:j<1000000000000000000):i3 (.int i) (.int j)=ς (.f (.int (i*j))):=pv (oY h1 h2)
def Cb(o:ζ Out)(g:De->ζ Out):ζ Out:=o.bind fun o=>match o with
 |.nx O=>g O
 |o=>ς o
theorem kz:ao g1 g2 δ=Cb (g1 δ) g2:=rfl
theorem qR:Cb (ς (.nx δ)) g=g δ:=rfl
def A7:ζ Out->ζ T
 |some (.rt t)=>ς t
 |some (.nx _)=>ς (.f .non)
 |_=>ψ
theorem Ea{m:Nat}:bX m g ds=A7 (g (ds.map (fun d=>ς (.f d))++qb2 (m-ds.length) ψ)):=rfl
theorem FZ{t:T}:A7 (ς (.rt t))=ς t:=rfl
def gZ{α:Type}(b:ζ Bool)(f g:De->ζ α)(δ:De):ζ α:=b.bind fun b=>if b then f δ else g δ
theorem jO{α:Type}{f g:De->ζ α}:gZ (ς θ) f g δ=f δ:=rfl
theorem pC{α:Type}{f g:De->ζ α}:gZ (ς ξ) f g δ=g δ:=rfl
theorem ux{α:Type}{f g:De->ζ α}(h:b=θ):gZ (ς b) f g δ=f δ:=by subst h;rfl
theorem uy{α:Type}{f g:De->ζ α}(h:b=ξ):gZ (ς b) f g δ=g δ:=by subst h;rfl
variable{c:De->ζ Bool}
theorem uz:sIf c g1 g2 δ=gZ (c δ) g1 g2 δ:=rfl
theorem FJ{g1 g2:De->ζ T}:vIf c g1 g2 δ=gZ (c δ) g1 g2 δ:=rfl
def kB(b:Bool):De->ζ Bool:=fun _=>ς b
def kT(b:Bool):De->ζ T:=fun _=>ς (.f (.bl b))
theorem kT_d:kT b δ=ς (.f (.bl b)):=rfl
theorem tf{f g:De->ζ Bool}:cN f g δ=gZ (f δ) g (kB ξ) δ:=rfl
theorem FK{f g:De->ζ Bool}:fOr f g δ=gZ (f δ) (kB θ) g δ:=rfl
theorem Eb{f:De->ζ Dt}{g:De->ζ T}:iZ f g δ=gZ ((f δ).bind oR) g (kT ξ) δ:=by
 unfold iZ gZ kT;cases f δ with
 |none=>rfl
 |some d=>rfl
theorem FL{f:De->ζ Dt}{g:De->ζ T}:vOr f g δ=gZ ((f δ).bind oR) (kT θ) g δ:=by
 unfold vOr gZ kT;cases f δ with
 |none=>rfl
 |some d=>rfl
theorem Ec{f:De->ζ Bool}:ip f δ=(f δ).map (!·):=rfl
def mkL(ds:η Dt):ζ T:=if ds.length<=qa7 then ς (.e ds)else ψ
def mkTp(ds:η Dt):ζ T:=if ds.length<=qa7 then ς (.f (.t ds))else ψ
theorem md(h:ds.length<=1000000):mkL ds=ς (.e ds):=if_pos (b8 h)
theorem F6(h:ds.length<=1000000):mkTp ds=ς (.f (.t ds)):=if_pos (b8 h)
theorem yv:aZ f δ=(f δ).bind mkL:=rfl
theorem vTup_d:cT f δ=(f δ).bind mkTp:=rfl
variable{fi:De->ζ (η Dt)}
theorem F7{src:η (ζ Nat)}:bu src fi bb ft fe δ=(fi δ).bind fun ds=>(bJ bb ft fe (dC src δ) ds).bind mkL:=rfl
theorem tj(cs:η Nat):Txt.join "" (cs.map fun c=>(⟨#[c]⟩:Str))=⟨cs.toArray⟩:=by
 have e0:("":Str).cps=#[]:=by decide +kernel
 have U:∀(l:η Nat)(O:Array Nat),(l.map fun c=>(⟨#[c]⟩:Str)).foldl (fun O p=>O++("":Str).cps++p.cps) O=O++l.toArray:=by
  intro l;induction l with
  |nil=>intro O;simp
  |cons c l Z=>intro O;rw[qb3,qq7,Z,e0];simp
 unfold Txt.join qn0.Str.glued;cases cs with
 |nil=>rfl
 |cons c r=>show(⟨(r.map fun c=>(⟨#[c]⟩:Str)).foldl (fun O p=>O++("":Str).cps++p.cps) (#[c]:Array Nat)⟩:Str)=_;rw[U];simp
theorem pE(cs:η Nat)(h:cs.length<=1000):zf2 "" (cs.map fun c=>(⟨#[c]⟩:Str))=θ:=by
 unfold zf2
 have h1:∀y∈cs.map (fun c=>(⟨#[c]⟩:Str)),y.length<=1:=fun y O=>by obtain⟨c,_,rfl⟩:=qc9.mp O;exact nL _
 rw[StrLaws.joinFits h1 (by rw[qa5,show("":Str).length=0 by decide +kernel];lia)];rfl
theorem jm:∀ts:η Str,iy (ts.map .str)=ς ts
 |[]=>rfl
 |t::r=>by show(iy (r.map .str)).map (t::·)=_;rw[jm r];rfl
def sgD(cs:η Nat):η Dt:=cs.map fun c=>.str ⟨#[c]⟩
theorem qS{cs:η Nat}(h:cs.length<=1000):cA (.str "") [.e (sgD cs)]=ς (.f (.str ⟨cs.toArray⟩)):=by
 have e:sgD cs=(cs.map fun c=>(⟨#[c]⟩:Str)).map .str:=by unfold sgD;rw[qj6];rfl
 show(iy (sgD cs)).bind _=_;rw[e,jm,qa1,if_pos (pE cs h),tj]
theorem kA{α:Type}{xs:η α}(U:0<=i)(h1:i<xs.length):∃v,atI xs i=ς v/\v∈xs:=by
 obtain⟨n,rfl⟩:=qj5 U;have O:n<xs.length:=by lia
 exact⟨xs[n],Ab (by simp[O]),qm5 O⟩
theorem bm(x:Str):x.length=x.cps.toList.length:=by show x.cps.size=_;simp
theorem uA(Z:x.length<=1000000)(O:0<=i)(h1:i<x.length):∃c,au (.str x) (.int i)=ς (.f (.str ⟨#[c]⟩))/\c∈x.cps.toList:=by obtain⟨c,e,U⟩:=kA (xs:=x.cps.toList) O (by rw[<- bm];exact h1);refine⟨c,?_,U⟩;rw[uv (b8 Z),e];rfl
theorem iU(h:l.length+m.length<=1000000):aB (.e l) (.e m)=ς (.e (l++m)):=D0 (b8 h)
theorem jd:eqF (.str x) (.str y)=decide (x=y):=by show(x==y)=_;rw[qe1];simp
theorem me:∀{l m:η Dt},l.all cG=θ->m.all cG=θ->cmpbs l m=θ
 |[],m,_,_=>by cases m<;>simp[cmpbs]
 |_::_,[],_,_=>by simp[cmpbs]
 |d::l,e::m,h,h'=>by
  simp only[qh9,qb0]at h h';simp only[cmpbs,me h.2 h'.2,qm3];cases d<;>first|(cases h.1;done)|skip
  all_goals cases e<;>first|(cases h'.1;done)|rfl
theorem mf:∀{l:η Dt},l.all cG=θ->deeps l=0
 |[],_=>by simp[deeps]
 |d::l,h=>by simp only[qh9,qb0]at h;simp only[deeps,mf h.2];cases d<;>first|(cases h.1;done)|rfl
theorem qT(O:l.all cG=θ)(U:m.all cG=θ):gEq neg (.e l) (.e m)=ς (.f (.bl (if neg then !peqs l m else peqs l m))):=D4 (FH (by rw[me O U,mf O];rfl))
theorem yw(O:l.all cG=θ):gEq neg (.e l) (.e l)=ς (.f (.bl (!neg))):=by rw[qT O O,peqs_self];cases neg<;>rfl
theorem Ed:dP fi bb g δ=(fi δ).bind fun ds=>cW bb g ds δ:=rfl
theorem tm(a:Int)(U:0<n):∃k:Nat,k<n/\a%(n:Int)=(k:Int):=by have O:=qi9 a (show(n:Int)≠0 by lia);have h1:=qg7 a (show(0:Int)<n by lia);exact⟨(a%(n:Int)).toNat,Θ,Θ⟩
theorem pF{α:Type}{x:α}{l:η α}:atI (x::l) (-1)=(x::l)[l.length]?:=by unfold atI ixN;rw[if_neg Ω,if_pos (by simp only[qc4];lia)];simp only[qa1];congr 1;simp only[qc4];lia
theorem uB(P:η Dt->De->Prop)(all:η Dt):∀(ds done:η Dt)(δ:De),all=done++ds->P done δ->(∀done d r δ,all=done++d::r->P done δ->∃Z O,bb d δ=ς Z/\(g Z=ς (.nx O)∨g Z=ς (.ct O))/\P (done++[d]) O)->∃ δ',cW bb g ds δ=ς (.nx δ')/\P all δ'
 |[],done,δ,ha,h,_=>⟨δ,rfl,by rw[ha,qd2];exact h⟩
 |d::r,done,δ,ha,h,hs=>by obtain⟨Z,O,h1,h2,h3⟩:=hs done d r δ ha h;obtain⟨δ',h4,h5⟩:=uB P all r (done++[d]) O (by rw[ha];simp) h3 hs;refine⟨δ',?_,h5⟩;unfold cW;rw[h1,qa1];rcases h2 with h2|h2<;>rw[h2,qa1]<;>exact h4
theorem yx{done:η Dt}{d:Dt}(h:bB lo n=done++d::r):d=.int (lo+done.length)/\done.length<n:=by
 have O:done.length<n:=by have e:=congrArg zc2 h;rw[eF,qd6,qc4]at e;lia
 have e:(bB lo n)[done.length]?=ς d:=by rw[h];simp
 unfold bB at e;rw[qd3,List.getElem?_range O]at e;exact⟨(qc1 e).symm,O⟩
open PySem
def dS(l:η Str):Dt:=.e (l.map .str)
theorem fM{i:Nat}{f:De->ζ T}{t:T}(h:f δ=ς t):aF i f δ=ς (.nx (δ.set i (ς t))):=by unfold aF;rw[h];rfl
theorem gh(h:c δ=ς θ):sIf c g1 g2 δ=g1 δ:=by unfold sIf;rw[h];rfl
theorem iK(h:c δ=ς ξ):sIf c g1 g2 δ=g2 δ:=by unfold sIf;rw[h];rfl
theorem mh{i:Nat}{f:De->ζ Dt}{d:Dt}(h:δ[i]?=ς (ς (.e l)))(U:f δ=ς d)(O:l.length<1000000):y17 i f δ=ς (.nx (δ.set i (ς (.e (l++[d]))))):=by unfold y17;rw[h];dsimp only;rw[U,qa1,if_pos (l9 O)]
theorem lp(x y:Str):(x++y).cps.toList=x.cps.toList++y.cps.toList:=by show(x.cps++y.cps).toList=_;rw[Array.toList_append]
theorem iV(h:x.cps.toList=y.cps.toList):x=y:=Str.ext' (Array.toList_inj.mp h)
theorem qU{c:Nat}:∀{a b p q:η Nat},c∉a->c∉b->a++c::p=b++c::q->a=b/\p=q
 |[],[],p,q,_,_,h=>by simp at h;exact⟨rfl,h⟩
 |[],y::b,p,q,_,U,h=>by simp at h;exact absurd (by simp[h.1]) U
 |x::a,[],p,q,O,_,h=>by simp at h;exact absurd (by simp[h.1]) O
 |x::a,y::b,p,q,O,U,h=>by simp only[qp2,za9]at h;obtain⟨e1,e2⟩:=qU (a:=a) (b:=b) (fun z=>O (qa3 _ z)) (fun z=>U (qa3 _ z)) h.2;exact⟨by rw[h.1,e1],e2⟩
theorem yy{c:Nat}{a b q:η Nat}(O:c∉a)(h:a=b++c::q):False:=O (by rw[h];simp)
theorem da(c:Nat)(x y:Str)(r:η Str):(qe0 ⟨#[c]⟩ (x::y::r)).cps.toList=x.cps.toList++c::(qe0 ⟨#[c]⟩ (y::r)).cps.toList:=by show(x++⟨#[c]⟩++qe0 ⟨#[c]⟩ (y::r)).cps.toList=_;rw[lp,lp];simp
theorem qV(c:Nat):∀{l m:η Str},l≠[]->m≠[]->(∀x∈l,c∉x.cps.toList)->(∀x∈m,c∉x.cps.toList)->qe0 ⟨#[c]⟩ l=qe0 ⟨#[c]⟩ m->l=m
 |[],_,h,_,_,_,_=>absurd rfl h
 |_,[],_,h,_,_,_=>absurd rfl h
 |[x],[y],_,_,_,_,h=>by have:x=y:=h;rw[this]
 |[x],y::z::m,_,_,O,_,h=>by have e:x.cps.toList=_:=congrArg (fun s=>s.cps.toList) (show x=qe0 ⟨#[c]⟩ (y::z::m)from h);rw[da]at e;exact(yy (O x Ξ) e).elim
 |x::w::l,[y],_,_,_,U,h=>by have e:y.cps.toList=_:=congrArg (fun s=>s.cps.toList) (show y=qe0 ⟨#[c]⟩ (x::w::l)from h.symm);rw[da]at e;exact(yy (U y Ξ) e).elim
 |x::w::l,y::z::m,_,_,O,U,h=>by have e:=congrArg (fun s=>s.cps.toList) h;simp only[da]at e;obtain⟨e1,e2⟩:=qU (O x Ξ) (U y Ξ) e;have:=qV c (l:=w::l) (m:=z::m) Ξ Ξ (fun a Z=>O a (qa3 _ Z)) (fun a Z=>U a (qa3 _ Z)) (iV e2);rw[iV e1,this]
theorem mi(x y:Str):Txt.split x y≠[]:=fun h=>by
 have e:=qq9 x y;unfold Txt.split at h;split at h
 .cases h
 .split at h
  .cases h
  .rw[StrLaws.partsBetween_eq]at h;obtain⟨p,q,e2⟩:=StrLaws.partsFrom_ne x y.length 0 (qg4 x y 0 x.length (x.length+1));rw[e2]at h;cases h
theorem yz(c:Nat){l:η Str}(U:l≠[])(O:∀x∈l,c∉x.cps.toList):Txt.split (qe0 ⟨#[c]⟩ l) ⟨#[c]⟩=l:=qV c (mi _ _) U (StrLaws.split_free _ c) O (qq9 _ _)
theorem A8(s:Str)(l:η Str):Txt.join s l=qe0 s l:=StrLaws.glued_eq_join s l
variable{s:Str}
theorem nR{l:η Str}(h:zf2 s l=θ):cA (.str s) [.e (l.map .str)]=ς (.f (.str (qe0 s l))):=by show(iy (l.map .str)).bind _=_;rw[jm,qa1,if_pos h,A8]
theorem nS{l:η Str}{b:Nat}(h1:∀y∈l,y.length<=b)(O:l.length<=n)(h:n*(b+s.length)<=1000000):zf2 s l=θ:=by
 unfold zf2;rw[StrLaws.joinTotal]
 have hs:(l.map (·.length)).sum<=l.length*b:=by
  clear O;induction l with
  |nil=>simp
  |cons x r ih=>
   have:=ih fun y U=>h1 y (qa3 _ U)
   have:=h1 x Ξ;simp only[qb3,List.sum_cons,qc4,ze2];lia
 have Z:l.length*(b+s.length)<=n*(b+s.length):=qt8 _ O;rw[Nat.mul_add]at Z
 have:¬ ((l.map (·.length)).sum+l.length*s.length > qa7):=by
  have:(1000000:Nat)<=qa7:=by decide
  lia
 simp[qn0.Str.tooLong,this]
theorem nU{c d:Nat}(hd:c≠d):∀{l:η Str},(∀x∈l,c∉x.cps.toList)->c∉(qe0 ⟨#[d]⟩ l).cps.toList
 |[],_=>by show c∉(ql5).cps.toList;simp[ql5]
 |[x],h=>h x Ξ
 |x::y::r,h=>by
  rw[da];intro z;rcases qe8.mp z with z|z
  .exact h x Ξ z
  .rcases qa9.mp z with z|z
   .exact hd z
   .exact nU hd (l:=y::r) (fun a O=>h a (qa3 _ O)) z
theorem mj{s:Str}{b:Nat}:∀{l:η Str},(∀x∈l,x.length<=b)->(qe0 s l).length<=l.length*(b+s.length)
 |[],_=>by show(ql5).length<=_;exact qy8 _
 |[x],h=>by have:=h x Ξ;show x.length<=1*(b+s.length);lia
 |x::y::r,h=>by
  have h1:=h x Ξ;have h2:=mj (s:=s) (b:=b) (l:=y::r) fun a O=>h a (qa3 _ O)
  show(x++s++qe0 s (y::r)).length<=_;rw[qy1,qy1];simp only[qc4,ze2]at h2 ⊢;lia
theorem v7{n:Int}(O:0<=n):(qa0 (qy3 n)).cps.toList=(Nat.toDigits 10 n.toNat).map Char.toNat:=by obtain⟨m,rfl⟩:=qj5 O;exact PySem.W.KIN.signs_num m
theorem wa{n:Int}(Z:0<=n):∀c∈(qa0 (qy3 n)).cps.toList,48<=c/\c<=57:=fun c U=>by rw[v7 Z]at U;obtain⟨ch,O,e⟩:=qc9.mp U;have r:=PyProof.Rows.digit_range (Nat.isDigit_of_mem_toDigits Ω Ω O);rw[<- e];exact r
theorem A9{n:Int}(O:0<=n)(h1:n<1099511627776):(qa0 (qy3 n)).length<=13:=toString_length_le O Ω (Int.lt_trans h1 Ω)
end L2
local macro_rules | `(tactic| walk_at "d") => `(tactic| simp -implicitDefEqProofs only [L2.Ea, L2.FZ, L2.kz, L2.qR, L2.bg, L2.aF, L2.aQ, L2.jC, L2.uz, L2.jO, L2.pC, L2.kT_d, L2.Ed, L2.gt, L2.AF, L2.kc, L2.toT, L2.toD, L2.T.d, L2.kD, L2.vL, L2.vB, L2.d2, L2.tB2, L2.dG, L2.ip, L2.tf, L2.FK, L2.Au, L2.Eb, L2.FL, L2.FJ, L2.af, L2.aa, L2.vTup_d, L2.yv, L2.md, L2.F6, L2.ag, L2.bR, L2.F7, L2.vSl, L2.cH, L2.a0, L2.i9, L2.B1, L2.qz, L2.ck, L2.hG, L2.hJ, L2.fIt, L2.dj, L2.ak, L2.dC, L2.bQ, L2.gAdd_i, L2.pF, L2.iU, L2.Ca, L2.iJ, L2.jd, qh9, List.all_nil, qe6, qj0, L2.gMul_l, L2.yu, L2.l8, L2.pw, L2.yp, L2.dg, L2.gf, L2.aV, L2.D5, L2.pA, L2.gS, L2.B9, L2.de, L2.kR, L2.uu, L2.yq, L2.yr, L2.kn, L2.D6, L2.itD_s, L2.FI, L2.D8, qb3, qm1, qc4, qj9, qp2, qk0, qb2, List.getElem?_cons_zero, qz1, List.set_cons_zero, List.set_cons_succ, qa1, Option.bind_none, qf6, Option.map_none, qs7, Option.join_none, Nat.reduceAdd, Nat.reduceSub, Nat.reduceLeDiff, Int.reduceLT, Int.reduceEq, eq_self, Int.reduceNeg, Int.reduceLE, if_true, if_false, ite_true, ite_false, qc6, decide_true, decide_false, zd4, zc0, qm3, qk9, Bool.or_true, Bool.true_or, qh0, qy7, qo7, zb8, String.reduceBEq, reduceCtorEq])
namespace P13
open PySem L2
variable{g:Dt->Dt->ζ T}{fa fb:De->ζ Dt}{δ:De}{y:Dt}
theorem aM{x:Dt}(h1:fa δ=ς x)(h2:fb δ=ς y):d2 g fa fb δ=g x y:=by unfold d2;rw[h1,h2];rfl
theorem ah{f:De->ζ T}{t:T}(h:f δ=ς t):toD f δ=t.d:=by unfold toD;rw[h];rfl
variable{src:η (ζ Nat)}{fi:De->ζ (η Dt)}{bb:Dt->De->ζ De}{ft:De->ζ Bool}{fe:De->ζ Dt}{ds:η Dt}
theorem cD{ys:η Dt}(h1:fi δ=ς ds)(h2:bJ bb ft fe (dC src δ) ds=ς ys)(h3:ys.length<=1000000):bu src fi bb ft fe δ=ς (.e ys):=by unfold bu;rw[h1,qa1,h2,qa1,if_pos (b8 h3)]
variable{f:De->ζ Dt}
theorem aw{F:η Dt->ζ T}{x:Dt}(h:f δ=ς x):ag F (aa f af) δ=F [x]:=by unfold ag aa af;rw[h];rfl
theorem bH{F:η Dt->ζ T}{g:De->ζ Dt}{x:Dt}(h:f δ=ς x)(h2:g δ=ς y):ag F (aa f (aa g af)) δ=F [x,y]:=by unfold ag aa af;rw[h,h2];rfl
theorem aq{fs:De->ζ (η Dt)}{d:Dt}(h1:f δ=ς d)(h2:fs δ=ς ds):aa f fs δ=ς (d::ds):=by unfold aa;rw[h1,qa1,h2];rfl
theorem lq{fs:De->ζ (η Dt)}(h:fs δ=ς ds)(O:ds.length<=1000):cT fs δ=ς (.f (.t ds)):=by unfold cT;rw[h];exact if_pos (b8 Θ)
theorem gT{d:Dt}(h:f δ=ς d):toT f δ=ς (.f d):=by unfold toT;rw[h];rfl
variable{z:Dt}
theorem bI{F:η Dt->ζ T}{g h:De->ζ Dt}{x:Dt}(h1:f δ=ς x)(h2:g δ=ς y)(h3:h δ=ς z):ag F (aa f (aa g (aa h af))) δ=F [x,y,z]:=by unfold ag;rw[aq h1 (aq h2 (aq h3 (show af δ=ς []from rfl)))];rfl
theorem dRt{m:Nat}{g:De->ζ Out}{t:T}(h:g (ds.map (fun d=>ς (T.f d))++qb2 (m-ds.length) ψ)=ς (.rt t)):bX m g ds=ς t:=by rw[Ea,h];rfl
variable{c:De->ζ Bool}{g1 r:De->ζ Out}
theorem bD{t:T}(h:c δ=ς θ)(h1:g1 δ=ς (.rt t)):ao (sIf c g1 bg) r δ=ς (.rt t):=by rw[kz,uz,h,jO,h1];rfl
theorem bc(h:c δ=ς ξ):ao (sIf c g1 bg) r δ=r δ:=by rw[kz,uz,h,pC];rfl
theorem ap{x:Dt}{b:Bool}(h1:fa δ=ς x)(h2:fb δ=ς y)(h:g x y=ς (.f (.bl b))):tB2 g fa fb δ=ς b:=by unfold tB2;rw[aM h1 h2,h];rfl
theorem aG{f:De->ζ T}{t:T}(h:f δ=ς t):aQ f δ=ς (.rt t):=by unfold aQ;rw[h];rfl
theorem orE{f g:De->ζ Bool}{a b:Bool}(h1:f δ=ς a)(h2:a=ξ->g δ=ς b):fOr f g δ=ς (a||b):=by
 rw[FK,h1];cases a with
 |true=>rfl
 |false=>exact h2 rfl
theorem gi{fs:De->ζ (η Dt)}(h:fs δ=ς ds)(O:ds.length<=1000):toD (aZ fs) δ=ς (.e ds):=ah (t:=.e ds) (by rw[yv,h,qa1,md Θ])
variable{i:Nat}{G:De->ζ Out}
theorem cj{F:De->ζ Dt}{d:Dt}{r:ζ Out}(h:F δ=ς d)(k:G (δ.set i (ς (.f d)))=r):ao (aF i (toT F)) G δ=r:=by rw[bn (fM (gT h))];exact k
theorem jP{F:De->ζ T}{d:T}{r:ζ Out}(h:F δ=ς d)(k:G (δ.set i (ς d))=r):ao (aF i F) G δ=r:=by rw[bn (fM h)];exact k
theorem gA(ns:η Int)(k:Nat)(hk:k<=1000):∃v,z13 [.e (ns.map .int),.int k]=ς (.f (.int v)):=by
 unfold z13;walk_at "d";rw[qa5];by_cases h:k<ns.length
 .rw[ux (by simpa using h)];walk_at "d";obtain⟨v,e,O⟩:=kA (xs:=ns.map Dt.int) (i:=k) Θ (by rw[qa5];lia);obtain⟨x,_,rfl⟩:=qc9.mp O;rw[e];exact⟨x,rfl⟩
 .rw[uy (by simpa using h)];walk_at "d";rw[qa5];by_cases U:0<ns.length
  .rw[ux (by simpa using U)];walk_at "d";rw[qa5,l8 Θ];walk_at "d";obtain⟨v,e,O⟩:=kA (xs:=ns.map Dt.int) (i:=(k:Int)%(ns.length:Nat)) (qi9 _ Θ) (by rw[qa5];exact qg7 _ Θ);obtain⟨x,_,rfl⟩:=qc9.mp O;rw[e];walk_at "d";have m0:=qi9 x (show(999983:Int)≠0 by decide);have Z:=qg7 x (show(0:Int)<999983 by decide);rw[yu Θ Θ];walk_at "d";exact⟨_,rfl⟩
  .rw[uy (by simpa using U)];walk_at "d";rw[yu Θ Θ];walk_at "d";exact⟨_,rfl⟩
def aT(c j m:Int):Int:=match z9 [.int c,.int j,.int m]with|some (.f (.int v))=>v|_=>0
theorem wb(j:Nat):∃q:Int,atI [Dt.int 10007,.int 10009,.int 10037,.int 10039,.int 10061,.int 10067,.int 10069,.int 10079] ((j:Int)%8)=ς (.int q)/\0<q:=by
 obtain⟨k,U,O⟩:=tm (j:Int) (n:=8) Ω;rw[show((8:Nat):Int)=8 from rfl]at O;rw[O];have q:k=0∨k=1∨k=2∨k=3∨k=4∨k=5∨k=6∨k=7:=by lia
 rcases q with rfl|rfl|rfl|rfl|rfl|rfl|rfl|rfl<;>exact⟨_,rfl,Ω⟩
variable{m:Int}
theorem bM(c:Int)(j:Nat)(O:0<m):z9 [.int c,.int j,.int m]=ς (.f (.int (aT c j m)))/\0<=aT c j m/\aT c j m<m:=by
 obtain⟨q,eq,U⟩:=wb j
 have e:z9 [.int c,.int j,.int m]=ς (.f (.int ((c*48271+7919*j)%q%m))):=by unfold z9;walk_at "d";rw[eq];walk_at "d";rw[l8 U];walk_at "d";rw[l8 O];rfl
 have e2:aT c j m=(c*48271+7919*j)%q%m:=by unfold aT;rw[e]
 rw[e2];exact⟨e,qi9 _ Θ,qg7 _ O⟩
variable{j:Nat}{n:Int}
theorem mn {fk:De->ζ Dt} {l:η Dt} {d:Dt} (h:δ[i]?=ς (ς (.e l))) (Z:fk δ=ς (.int n)) (U:fe δ=ς d) (O:n=j) (hj:j<l.length) :
  kc i fk fe δ=ς (.nx (δ.set i (ς (.e (l.set j d))))):=by
 unfold kc;rw[U,Z,h];show((ixN l.length n).map fun j=>Out.nx (δ.set i (ς (.e (l.set j d)))))=_;subst O;unfold ixN;rw[if_pos Θ,if_pos Θ];rfl
def Cl(b:Nat)(s:Str):Prop:=10∉s.cps.toList/\s.length<=b
def clB(b:Nat)(s:Str):Bool:=!(s.cps.toList.contains 10)&&decide (s.length<=b)
variable{b:Nat}{s:Str}
theorem Cl.of(h:clB b s=θ):Cl b s:=by unfold clB at h;simp only[qb0,qj8,List.contains_eq_mem,decide_eq_false_iff_not,decide_eq_true_eq]at h;exact h
variable{a:Nat}
theorem Cl.mono(h:Cl a s)(O:a<=b):Cl b s:=⟨h.1,qc5 h.2 O⟩
theorem Cl.app{t:Str}(h:Cl a s)(h2:Cl b t):Cl (a+b) (s++t):=⟨by rw[lp];intro z;rcases qe8.mp z with z|z;exact h.1 z;exact h2.1 z,by rw[Str.length_append];have:=h.2;have:=h2.2;lia⟩
def Ct(b:Nat)(f:De->ζ Dt)(δ:De):Prop:=∃s,f δ=ς (.str s)/\Cl b s
variable{l:η Str}{fc fj fm:De->ζ Dt}
section
variable{a b n m:Nat}{f g:De->ζ Dt}{fs:De->ζ (η Dt)}{δ:De}{s:Str}{i:Nat}
theorem cU(h:clB b s=θ):Ct b (kD (.str s)) δ:=⟨s,rfl,.of h⟩
theorem cr(h:δ[i]?=ς (ς (.f (.str s))))(c:Cl b s):Ct b (vB i) δ:=⟨s,by unfold vB;rw[h];rfl,c⟩
theorem uC(h:δ[i]?=ς (ς (.f (.str s))))(c:Cl b s):Ct b (vL i) δ:=⟨s,by unfold vL;rw[h],c⟩
theorem aW(h1:Ct a f δ)(h2:Ct b g δ)(h:a+b<=1000):Ct (a+b) (toD (d2 aB f g)) δ:=by obtain⟨x,e1,O⟩:=h1;obtain⟨y,e2,U⟩:=h2;exact⟨x++y,ah (t:=.f (.str (x++y))) ((aM e1 e2).trans (sY (b8 (by have:=O.2;have:=U.2;lia)))),O.app U⟩
theorem Ct.mono(h:Ct a f δ)(O:a<=b):Ct b f δ:=let ⟨s,e,c⟩:=h;⟨s,e,c.mono O⟩
def Cts(n b:Nat)(fs:De->ζ (η Dt))(δ:De):Prop:=∃l:η Str,fs δ=ς (l.map .str)/\l.length=n/\∀s∈l,Cl b s
def CtL(n b:Nat)(f:De->ζ Dt)(δ:De):Prop:=∃l:η Str,f δ=ς (.e (l.map .str))/\l.length=n/\∀s∈l,Cl b s
theorem cw:Cts 0 b af δ:=⟨[],rfl,rfl,fun _ h=>nomatch h⟩
theorem aX(h:Ct b f δ)(t:Cts n b fs δ):Cts (n+1) b (aa f fs) δ:=by
 obtain⟨s,e,c⟩:=h;obtain⟨l,e2,U,Z⟩:=t;refine⟨s::l,aq e e2,by simp[U],fun x O=>?_⟩;rcases qa9.mp O with rfl|O
 .exact c
 .exact Z x O
theorem cy(h:Cts n b fs δ)(Z:n<=1000):CtL n b (toD (aZ fs)) δ:=by obtain⟨l,e,U,O⟩:=h;exact⟨l,gi e (by rw[qa5];lia),U,O⟩
theorem iL(h:δ[i]?=ς (ς (.f (.e (l.map .str)))))(O:l.length=n)(c:∀s∈l,Cl b s):CtL n b (vB i) δ:=⟨l,by unfold vB;rw[h];rfl,O,c⟩
theorem gU(h1:CtL n b f δ)(h2:CtL m b g δ)(h:n+m<=1000):CtL (n+m) b (toD (d2 aB f g)) δ:=by obtain⟨l,e1,U,O⟩:=h1;obtain⟨k,e2,hk,c2⟩:=h2;refine⟨l++k,?_,by simp[U,hk],fun s Z=>(qe8.mp Z).elim (O s) (c2 s)⟩;rw[qd1];exact ah (t:=.e (l.map Dt.str++k.map Dt.str)) ((aM e1 e2).trans (iU (by simp;lia)))
def Pn(m:Int)(f:De->ζ Dt)(δ:De):Prop:=∃v:Int,f δ=ς (.int v)/\0<=v/\v<m
theorem qW(h:CtL n b f δ)(p:Pn n g δ):Ct b (toD (d2 au f g)) δ:=by obtain⟨l,e1,O,c1⟩:=h;obtain⟨v,e2,h0,h1⟩:=p;obtain⟨x,ex,U⟩:=kA (xs:=l.map Dt.str) (i:=v) h0 (by rw[qa5,O];exact h1);obtain⟨s,Z,rfl⟩:=qc9.mp U;exact⟨s,ah (t:=.f (.str s)) ((aM e1 e2).trans (by rw[kR,ex];rfl)),c1 s Z⟩
theorem FM(h:Ct b f δ)(hb:b<=1000)(p:∀s,f δ=ς (.str s)->Pn s.length g δ):Ct 1 (toD (d2 au f g)) δ:=by obtain⟨s,e1,O⟩:=h;obtain⟨v,e2,U,h1⟩:=p s e1;obtain⟨c,ec,Z⟩:=uA (x:=s) (i:=v) (by have:=O.2;lia) U h1;exact⟨⟨#[c]⟩,ah (t:=.f (.str ⟨#[c]⟩)) ((aM e1 e2).trans ec),by simpa using fun z:10=c=>O.1 (z▸Z),qr4 1⟩
theorem fu{c m:Int}(h1:fc δ=ς (.int c))(h2:fj δ=ς (.int j))(h3:fm δ=ς (.int m))(O:0<m):Pn m (toD (ag z9 (aa fc (aa fj (aa fm af))))) δ:=by have h:=bM c j O;exact⟨aT c j m,ah (t:=.f (.int _)) ((bI h1 h2 h3).trans h.1),h.2⟩
end
theorem kE:∀{ds ys:η Dt},Paired (fun _ y=>∃c:Nat,y=.str ⟨#[c]⟩/\c≠10) ds ys->∃cs:η Nat,ys=sgD cs/\cs.length=ds.length/\10∉cs
 |_,_,.nil=>⟨[],rfl,rfl,Ξ⟩
 |_,_,.cons ⟨c,e,Z⟩ h=>by obtain⟨cs,e2,U,O⟩:=kE h;exact⟨c::cs,by rw[e,e2];rfl,by simp[U],by simp[O,qe7 Z]⟩
variable{cs:η Nat}
theorem yA{c:Nat}(h:10∉cs)(O:c≠10):10∉cs.set i c:=fun z=>by
 rcases qw5 z with z|z
 .exact h z
 .exact O z.symm
def nsig:Str:="abcdefghijklmnopqrstuvwxyz"
def lsig:Str:="abcdefghijklmnopqrstuvwxyz0123456789"
theorem yB:Cl 26 nsig:=.of χ
theorem yC:Cl 36 lsig:=.of χ
theorem yD:nsig.length=26:=χ
theorem yE:lsig.length=36:=χ
variable{v:Int}
theorem mo{x:Str}(O:Cl b x)(hb:b<=1000)(U:0<=v)(h1:v<x.length):∃c,au (.str x) (.int v)=ς (.f (.str ⟨#[c]⟩))/\c≠10:=by obtain⟨c,ec,Z⟩:=uA (x:=x) (i:=v) (by have:=O.2;lia) U h1;exact⟨c,ec,fun z=>O.1 (z▸Z)⟩
theorem Ee(b:Int)(n:Nat):∃cs,bJ (ak 0) bQ y52 [ψ,ς (.f (.int b)),ς (.f (.str nsig))] (bB 0 n)=ς (sgD cs)/\cs.length=n/\10∉cs:=by
 obtain⟨ys,e,p⟩:=ma (bb:=ak 0) (ft:=bQ) (fe:=y52) (δ:=[ψ,ς (.f (.int b)),ς (.f (.str nsig))]) (ds:=bB 0 n) (P:=fun _ y=>∃c:Nat,y=.str ⟨#[c]⟩/\c≠10) fun d hd=>by obtain⟨i,hi,rfl⟩:=mem_range hd;rw[qs3];have h:=bM b i (m:=26) Ω;obtain⟨c,ec,Z⟩:=mo yB Ω (v:=aT b i 26) h.2.1 (by rw[yD];exact h.2.2);exact⟨_,_,rfl,rfl,ah (t:=.f (.str ⟨#[c]⟩)) ((aM (x:=.str nsig) rfl (ah (t:=.f (.int _)) ((bI rfl rfl rfl).trans h.1))).trans ec),c,rfl,Z⟩
 obtain⟨cs,rfl,U,O⟩:=kE p;exact⟨cs,e,by rw[U,eF],O⟩
theorem Ba(b:Int)(n:Nat):∃cs,bJ (ak 0) bQ y47 [ψ,ς (.f (.int b)),ς (.f (.str lsig))] (bB 0 n)=ς (sgD cs)/\cs.length=n/\10∉cs:=by
 obtain⟨ys,e,p⟩:=ma (bb:=ak 0) (ft:=bQ) (fe:=y47) (δ:=[ψ,ς (.f (.int b)),ς (.f (.str lsig))]) (ds:=bB 0 n) (P:=fun _ y=>∃c:Nat,y=.str ⟨#[c]⟩/\c≠10) fun d hd=>by obtain⟨i,hi,rfl⟩:=mem_range hd;rw[qs3];have h:=bM b (i+1) (m:=36) Ω;obtain⟨c,ec,Z⟩:=mo yC Ω (v:=aT b (i+1:Nat) 36) h.2.1 (by rw[yE];exact h.2.2);exact⟨_,_,rfl,rfl,ah (t:=.f (.str ⟨#[c]⟩)) ((aM (x:=.str lsig) rfl (ah (t:=.f (.int _)) ((bI (y:=.int (i+1:Nat)) rfl rfl rfl).trans h.1))).trans ec),c,rfl,Z⟩
 obtain⟨cs,rfl,U,O⟩:=kE p;exact⟨cs,e,by rw[U,eF],O⟩
theorem uD(h:cs.length<=8)(O:10∉cs):∃s,cA (.str (qa0 "")) [.e (sgD cs)]=ς (.f (.str s))/\Cl 8 s:=by refine⟨⟨cs.toArray⟩,qS Θ,by simpa using O,?_⟩;show cs.toArray.size<=8;simpa using h
theorem Bb(b:Int)(k:Nat):∃s,z16 [.int b,.int k]=ς (.f (.str s))/\Cl 8 s:=by
 have U:=bM b 7 (m:=6) Ω;have Z:=bM b 4 (m:=26) Ω;rw[show((7:Nat):Int)=7 from rfl]at U;rw[show((4:Nat):Int)=4 from rfl]at Z;obtain⟨n,hn⟩:∃n:Nat,(n:Int)=1+aT b 7 6:=⟨(1+aT b 7 6).toNat,Θ⟩;have h3:=bM b 3 (m:=n) Θ;rw[show((3:Nat):Int)=3 from rfl]at h3;obtain⟨cs,e,hl,hc⟩:=Ee b n;obtain⟨p,hp⟩:∃p:Nat,aT b 3 n=p:=⟨(aT b 3 n).toNat,Θ⟩;obtain⟨c,ec,O⟩:=mo yB Ω (v:=(aT b 4 26+k)%26) (qi9 _ Ω) (by rw[yD];exact qg7 _ Ω);obtain⟨s,es,hs⟩:=uD (cs:=cs.set p c) (by rw[qv0];lia) (yA hc O);refine⟨s,?_,hs⟩;unfold z16;walk_at "d";rw[U.1];walk_at "d";rw[<- hn,sZ Θ,qa1,show qa0 "abcdefghijklmnopqrstuvwxyz"=nsig from rfl,e,qa1,md (by unfold sgD;rw[qa5];lia)];rw[qf6,qR,kz,mn (l:=sgD cs) (n:=aT b 3 n) (j:=p) (d:=.str ⟨#[c]⟩) ?a1 ?a2 ?a3 hp ?a4]
 case a1=>rfl
 case a2=>
  walk_at "d";rw[h3.1];rfl
 case a3=>
  walk_at "d";rw[Z.1];walk_at "d";rw[ec];rfl
 case a4=>
  unfold sgD;rw[qa5];lia
 walk_at "d";rw[show(sgD cs).set p (.str ⟨#[c]⟩)=sgD (cs.set p c)by unfold sgD;rw[ze5],es];rfl
theorem yF(b:Int)(k:Nat):∃s,y16 [.int b,.int k]=ς (.f (.str s))/\Cl 8 s:=by
 have U:=bM b 6 (m:=8) Ω;have Z:=bM b 5 (m:=36) Ω;rw[show((6:Nat):Int)=6 from rfl]at U;rw[show((5:Nat):Int)=5 from rfl]at Z;obtain⟨n,hn⟩:∃n:Nat,(n:Int)=1+aT b 6 8:=⟨(1+aT b 6 8).toNat,Θ⟩;have h3:=bM b 2 (m:=n) Θ;rw[show((2:Nat):Int)=2 from rfl]at h3;obtain⟨cs,e,hl,hc⟩:=Ba b n;obtain⟨p,hp⟩:∃p:Nat,aT b 2 n=p:=⟨(aT b 2 n).toNat,Θ⟩;obtain⟨c,ec,O⟩:=mo yC Ω (v:=(aT b 5 36+k)%36) (qi9 _ Ω) (by rw[yE];exact qg7 _ Ω);obtain⟨s,es,hs⟩:=uD (cs:=cs.set p c) (by rw[qv0];lia) (yA hc O);refine⟨s,?_,hs⟩;unfold y16;walk_at "d";rw[U.1];walk_at "d";rw[<- hn,sZ Θ,qa1,show qa0 "abcdefghijklmnopqrstuvwxyz0123456789"=lsig from rfl,e,qa1,md (by unfold sgD;rw[qa5];lia)];rw[qf6,qR,kz,mn (l:=sgD cs) (n:=aT b 2 n) (j:=p) (d:=.str ⟨#[c]⟩) ?a1 ?a2 ?a3 hp ?a4]
 case a1=>rfl
 case a2=>
  walk_at "d";rw[h3.1];rfl
 case a3=>
  walk_at "d";rw[Z.1];walk_at "d";rw[ec];rfl
 case a4=>
  unfold sgD;rw[qa5];lia
 walk_at "d";rw[show(sgD cs).set p (.str ⟨#[c]⟩)=sgD (cs.set p c)by unfold sgD;rw[ze5],es];rfl
def num(n:Int):Str:=qa0 (qy3 n)
def InR(n:Int):Prop:=0<=n/\n<1099511627776
theorem Ef(h:InR n):xK n=θ:=by
 unfold xK;refine decide_eq_true ?_;by_cases z:n.natAbs=0
 .rw[z];decide
 .rw[Nat.log2_lt z];have h1:n.natAbs<2^40:=by have:=h.1;have:=h.2;have:(2^40:Nat)=1099511627776:=rfl;lia
  exact qc3 h1 (Nat.pow_le_pow_right Ω Ω)
theorem Bc(h:InR n):jH [.int n]=ς (.f (.str (num n))):=by show AD [.int n]=_;exact if_pos (Ef h)
theorem Eg(h:InR n):Cl 13 (num n):=⟨fun z=>by have:=wa h.1 10 z;lia,A9 h.1 h.2⟩
theorem yG(n:Int):InR (n%wide):=by rw[ll];exact⟨qi9 _ Ω,qg7 _ Ω⟩
theorem Ct.str{f:De->ζ T}(h:Ct b (toD f) δ):∃s,f δ=ς (.f (.str s))/\Cl b s:=by
 obtain⟨s,e,c⟩:=h;unfold toD at e;obtain⟨t,O,e⟩:=bS e;cases t with
 |f d=>cases e;exact⟨s,O,c⟩
 |_=>cases e
theorem tq(h:f δ=ς (.int n))(O:InR n):Ct 13 (toD (ag jH (aa f af))) δ:=⟨num n,ah (t:=.f (.str (num n))) ((aw h).trans (Bc O)),Eg O⟩
def Rs(b:Nat)(G:De->ζ Out)(δ:De):Prop:=∃s,G δ=ς (.rt (.f (.str s)))/\Cl b s
variable{H:η Dt->ζ T}
section
variable{a b n m i:Nat}{f g F:De->ζ Dt}{G:De->ζ Out}{δ:De}{d:Dt}
theorem dM(h:F δ=ς d)(k:Rs b G (δ.set i (ς (.f d)))):Rs b (ao (aF i (toT F)) G) δ:=let ⟨s,e,c⟩:=k;⟨s,cj h e,c⟩
theorem fW{c:Nat}(h:CtL n c F δ)(k:∀l:η Str,l.length=n->(∀s∈l,Cl c s)->Rs b G (δ.set i (ς (.f (.e (l.map .str)))))):Rs b (ao (aF i (toT F)) G) δ:=let ⟨l,e,hn,hc⟩:=h;dM e (k l hn hc)
theorem pG{f:De->ζ T}(h:Ct b (toD f) δ):Rs b (aQ f) δ:=let ⟨s,e,c⟩:=h.str;⟨s,aG e,c⟩
theorem mq(h:Rs b G (ds.map (fun d=>ς (T.f d))++qb2 (m-ds.length) ψ)):∃s,bX m G ds=ς (.f (.str s))/\Cl b s:=let ⟨s,e,c⟩:=h;⟨s,dRt e,c⟩
theorem yH{x:Dt}(h1:f δ=ς x)(h:∃s,H [x]=ς (.f (.str s))/\Cl b s):Ct b (toD (ag H (aa f af))) δ:=let ⟨s,e,c⟩:=h;⟨s,ah (t:=.f (.str s)) ((aw h1).trans e),c⟩
theorem gB{x:Dt}(h1:f δ=ς x)(h2:g δ=ς y)(h:∃s,H [x,y]=ς (.f (.str s))/\Cl b s):Ct b (toD (ag H (aa f (aa g af)))) δ:=let ⟨s,e,c⟩:=h;⟨s,ah (t:=.f (.str s)) ((bH h1 h2).trans e),c⟩
theorem qX{x:Dt}(h1:f δ=ς x)(h2:g δ=ς y)(h3:F δ=ς z)(h:∃s,H [x,y,z]=ς (.f (.str s))/\Cl b s):Ct b (toD (ag H (aa f (aa g (aa F af))))) δ:=let ⟨s,e,c⟩:=h;⟨s,ah (t:=.f (.str s)) ((bI h1 h2 h3).trans e),c⟩
theorem je{x y:Int}(h1:f δ=ς (.int x))(h2:g δ=ς (.int y)):toD (d2 aB f g) δ=ς (.int (x+y)):=ah (t:=.f (.int (x+y))) ((aM h1 h2).trans rfl)
end
theorem pH(b:Int)(h:0<=v):∃s,z16 [.int b,.int v]=ς (.f (.str s))/\Cl 13 s:=by obtain⟨k,rfl⟩:=qj5 h;obtain⟨s,e,c⟩:=Bb b k;exact⟨s,e,c.mono Ω⟩
theorem uE(b:Int)(h:0<=v):∃s,y16 [.int b,.int v]=ς (.f (.str s))/\Cl 13 s:=by obtain⟨k,rfl⟩:=qj5 h;obtain⟨s,e,c⟩:=yF b k;exact⟨s,e,c.mono Ω⟩
theorem uF(c b:Int)(j:Nat):∃s,q31 [.int c,.int j,.int b]=ς (.f (.str s))/\Cl 13 s:=by
 unfold q31;have h3:=bM c j (m:=3) Ω;have e3:toD (ag z9 (aa (vL 0) (aa (vL 1) (aa (kD (.int 3)) af)))) [ς (.f (.int c)),ς (.f (.int j)),ς (.f (.int b))]=ς (.int (aT c j 3)):=ah (t:=.f (.int _)) ((bI rfl rfl rfl).trans h3.1);by_cases z:aT c j 3=0
 .refine mq ?_;have pm:i8 c 94906267=θ:=oY Ω Ω
  have e1:toD (d2 fQ (toD (d2 i3 (vB 0) (kD (.int 94906267)))) (toD (d2 kW (kD (.int 2)) (kD (.int 40))))) [ς (.f (.int c)),ς (.f (.int j)),ς (.f (.int b))]=ς (.int (c*94906267%wide)):=ah (t:=.f (.int _)) ((aM (ah (t:=.f (.int _)) ((aM rfl rfl).trans (pv pm))) (ah (t:=.f (.int wide)) ((aM rfl rfl).trans pw))).trans yp)
  obtain⟨v,U,Z,v1⟩:=fu (δ:=[ς (.f (.int c)),ς (.f (.int j)),ς (.f (.int b))]) (fc:=vL 0) (fj:=toD (d2 aB (vB 1) (kD (.int 1)))) (fm:=kD (.int 12)) (c:=c) (j:=j+1) (m:=12) rfl rfl rfl Ω;obtain⟨u,eu,u0,u1⟩:=fu (δ:=[ς (.f (.int c)),ς (.f (.int j)),ς (.f (.int b))]) (fc:=vL 0) (fj:=toD (d2 aB (vB 1) (kD (.int 2)))) (fm:=kD (.int 2)) (c:=c) (j:=j+2) (m:=2) rfl rfl rfl Ω;obtain⟨w,ew,O⟩:=kA (xs:=[c*94906267%wide,v]) (i:=u) u0 u1
  have hw2:InR w:=by
   rcases qa9.mp O with rfl|O
   .exact yG _
   .cases qi1.mp O;exact⟨Z,Θ⟩
  have ei:toD (d2 au (toD (aZ (aa (toD (d2 fQ (toD (d2 i3 (vB 0) (kD (.int 94906267)))) (toD (d2 kW (kD (.int 2)) (kD (.int 40)))))) (aa (toD (ag z9 (aa (vL 0) (aa (toD (d2 aB (vB 1) (kD (.int 1)))) (aa (kD (.int 12)) af))))) af)))) (toD (ag z9 (aa (vL 0) (aa (toD (d2 aB (vB 1) (kD (.int 2)))) (aa (kD (.int 2)) af)))))) [ς (.f (.int c)),ς (.f (.int j)),ς (.f (.int b))]=ς (.int w):=by
   refine ah (t:=.f (.int w)) ((aM (gi (aq e1 (aq U rfl)) Ξ) eu).trans ?_);rw[kR,show([Dt.int (c*94906267%wide),Dt.int v]:η Dt)=[c*94906267%wide,v].map Dt.int from rfl]
   have:atI ([c*94906267%wide,v].map Dt.int) u=ς (.int w):=by obtain⟨q,rfl⟩:=qj5 u0;rw[eS]at ew ⊢;rw[qd3,ew];rfl
   rw[this];rfl
  obtain⟨s,es,cs⟩:=(tq ei hw2).str;exact⟨s,bD (ap e3 (y:=.int 0) rfl (by rw[gf,decide_eq_true z])) (aG es),cs⟩
 .refine mq ?_;obtain⟨v,U,Z,v1⟩:=fu (δ:=[ς (.f (.int c)),ς (.f (.int j)),ς (.f (.int b))]) (fc:=vL 0) (fj:=toD (d2 aB (vB 1) (kD (.int 1)))) (fm:=kD (.int 7)) (c:=c) (j:=j+1) (m:=7) rfl rfl rfl Ω;obtain⟨s,es,cs⟩:=(gB (f:=vL 2) (x:=.int b) rfl U (pH b Z)).str;exact⟨s,(bc (ap e3 (y:=.int 0) rfl (by rw[gf,decide_eq_false z]))).trans (aG es),cs⟩
theorem Bd(c b:Int):∃s,y39 [.int c,.int b]=ς (.f (.str s))/\Cl 200 s:=by
 unfold y39;refine mq (show Rs _ _ [ς (.f (.int c)),ς (.f (.int b)),ψ,ψ,ψ,ψ,ψ,ψ]from ?_);obtain⟨v,ev,v0,v1⟩:=fu (δ:=[ς (.f (.int c)),ς (.f (.int b)),ψ,ψ,ψ,ψ,ψ,ψ]) (fc:=vL 0) (fj:=kD (.int 2)) (fm:=kD (.int 7)) (c:=c) (j:=2) (m:=7) rfl rfl rfl Ω;obtain⟨x,ex,hx⟩:=gB (f:=vL 1) (x:=.int b) rfl ev (pH b v0);refine dM ex ?_;dsimp only[qe3];obtain⟨a,ea,O⟩:=qX (δ:=[ς (.f (.int c)),ς (.f (.int b)),ς (.f (.str x)),ψ,ψ,ψ,ψ,ψ]) (f:=vL 0) (g:=kD (.int 3)) (F:=vL 1) rfl rfl rfl (uF c b 3);refine dM ea ?_;dsimp only[qe3];obtain⟨d,ed,hd⟩:=qX (δ:=[ς (.f (.int c)),ς (.f (.int b)),ς (.f (.str x)),ς (.f (.str a)),ψ,ψ,ψ,ψ]) (f:=toD (d2 aB (vB 0) (kD (.int 11)))) (g:=kD (.int 4)) (F:=vL 1) (x:=.int (c+11)) rfl rfl rfl (uF (c+11) b 4);refine dM ed ?_;dsimp only[qe3];obtain⟨v',U,v0',v1'⟩:=fu (δ:=[ς (.f (.int c)),ς (.f (.int b)),ς (.f (.str x)),ς (.f (.str a)),ς (.f (.str d)),ψ,ψ,ψ]) (fc:=vL 0) (fj:=kD (.int 6)) (fm:=kD (.int 7)) (c:=c) (j:=6) (m:=7) rfl rfl rfl Ω;obtain⟨y,ey,hy⟩:=gB (f:=vL 1) (x:=.int b) rfl U (pH b v0');refine dM ey ?_;dsimp only[qe3];obtain⟨u,eu,u0,u1⟩:=fu (δ:=[ς (.f (.int c)),ς (.f (.int b)),ς (.f (.str x)),ς (.f (.str a)),ς (.f (.str d)),ς (.f (.str y)),ψ,ψ]) (fc:=vL 0) (fj:=kD (.int 7)) (fm:=kD (.int 6)) (c:=c) (j:=7) (m:=6) rfl rfl rfl Ω;obtain⟨g,eg,Z⟩:=gB (f:=vL 1) (x:=.int b) rfl eu (uE b u0);refine dM eg ?_;dsimp only[qe3];clear ex ea ed ey eg ev U eu v0 v1 v0' v1' u0 u1 v v' u;refine fW (n:=3) (c:=200) (cy (aX ((aW (aW (cr rfl hx) (cU (b:=10) χ) Ω) (cr rfl O) Ω).mono Ω) (aX ((aW (aW (aW (aW (aW (aW (cr rfl hx) (cU (b:=10) χ) Ω) (cr rfl O) Ω) (cU (b:=10) χ) Ω) (FM (b:=10) (cU χ) Ω fun s e=>by cases e;exact fu (j:=1) rfl rfl rfl Ω) Ω) (cU (b:=10) χ) Ω) (cr rfl hd) Ω).mono Ω) (aX ((aW (aW (aW (cU (b:=10) χ) (cr rfl hx) Ω) (cU (b:=10) χ) Ω) (cr rfl hy) Ω).mono Ω) cw)))  Ω) fun l1 n1 c1=>?_
 dsimp only[qe3];refine fW (n:=6) (c:=200) (gU (n:=3) (m:=3) (iL (i:=7) rfl n1 c1) (cy (aX ((aW (aW (aW (cU (b:=10) χ) (cr rfl hy) Ω) (cU (b:=10) χ) Ω) (cr rfl O) Ω).mono Ω) (aX ((aW (aW (aW (aW (aW (cU (b:=10) χ) (cr rfl hx) Ω) (cU (b:=10) χ) Ω) (cr rfl hy) Ω) (cU (b:=10) χ) Ω) (cr rfl O) Ω).mono Ω) (aX ((aW (aW (aW (aW (aW (cU (b:=10) χ) (cr rfl hy) Ω) (cU (b:=10) χ) Ω) (cr rfl O) Ω) (cU (b:=10) χ) Ω) (cr rfl hd) Ω).mono Ω) cw))) Ω) Ω) fun l2 n2 c2=>?_
 dsimp only[qe3];clear c1;refine fW (n:=11) (c:=200) (gU (n:=6) (m:=5) (iL (i:=7) rfl n2 c2) (cy (aX ((aW (cU (b:=10) χ) (cr rfl hx) Ω).mono Ω) (aX ((aW (cU (b:=10) χ) (cr rfl O) Ω).mono Ω) (aX ((aW (cU (b:=10) χ) (cr rfl O) Ω).mono Ω) (aX ((aW (aW (aW (cU (b:=10) χ) (cr rfl O) Ω) (cU (b:=10) χ) Ω) (cr rfl Z) Ω).mono Ω) (aX ((aW (cU (b:=10) χ) (cr rfl Z) Ω).mono Ω) cw))))) Ω) Ω) fun l3 n3 c3=>?_
 dsimp only[qe3];clear c2;exact pG (qW (n:=14) (gU (n:=11) (m:=3) (iL (i:=7) rfl n3 c3) (cy (aX ((aW (cU (b:=10) χ) (cr rfl Z) Ω).mono Ω) (aX ((aW (cU (b:=10) χ) (cr rfl Z) Ω).mono Ω) (aX ((aW (cU (b:=10) χ) (cr rfl Z) Ω).mono Ω) cw))) Ω) Ω) (fu (j:=0) rfl rfl rfl Ω))
theorem kF{n:Nat}(h:f δ=ς (.int n))(O:n<=1000):dj iu (aa f af) δ=ς (bB 0 n):=by unfold dj;rw[aq h (ds:=[]) rfl,qa1,sZ Θ]
theorem dN{g:De->ζ Out}{o:ζ Out}(h:fi δ=ς ds)(h2:cW bb g ds δ=o):dP fi bb g δ=o:=by rw[Ed,h,qa1,h2]
abbrev dH(ns:η Int)(b:Int)(m:Dt)(u:Bool)(l:η Str)(k:Nat)(x6 x7 x8:ζ T):De:=[ς (.f (.e (ns.map .int))),ς (.f (.int b)),ς (.f m),ς (.f (.bl u)),ς (.e (l.map .str)),ς (.f (.int k)),x6,x7,x8]
theorem tu (ns:η Int) (b:Int) (m:Dt) (u:Bool) (l:η Str) (k:Nat) (hk:k<=100) (x6 x7 x8:ζ T) (hl:l.length<=100):∃ s y6 y7 y8,Cl 200 s∧
  q28 (dH ns b m u l k x6 x7 x8)=ς (.nx (dH ns b m u (l++[s]) k y6 y7 y8)):=by
 obtain⟨v,ev⟩:=gA ns (4+k) Θ;have p2:=bM v 2 (m:=20) Ω
 obtain⟨w,hw,ew⟩:∃w:Int,0<=w/\atI [Dt.int (aT v 2 20),.int k] (if u then 1 else 0)=ς (.int w):=by
  cases u
  .exact⟨_,p2.2.1,rfl⟩
  .exact⟨k,Θ,rfl⟩
 obtain⟨x,ex,hx⟩:=pH b hw;have p0:=bM v 0 (m:=4) Ω;have p1:=bM v 1 (m:=8) Ω;rw[show((0:Nat):Int)=0 from rfl]at p0;rw[show((1:Nat):Int)=1 from rfl]at p1;rw[show((2:Nat):Int)=2 from rfl]at p2
 have U:∀ (f:De->ζ Dt),Ct 200 f (dH ns b m u l k (ς (.f (.int v))) (ς (.f (.str x))) (ς (.f (.int (aT v 0 4)))))→
     ∃s,Cl 200 s/\y17 4 f (dH ns b m u l k (ς (.f (.int v))) (ς (.f (.str x))) (ς (.f (.int (aT v 0 4)))))=ς (.nx (dH ns b m u (l++[s]) k (ς (.f (.int v))) (ς (.f (.str x))) (ς (.f (.int (aT v 0 4)))))):=fun f ⟨s,e,c⟩=>by
  refine⟨s,c,?_⟩;rw[mh (l:=l.map .str) (d:=.str s) rfl e (by rw[qa5];lia)];simp only[dH,qd1];rfl
 have O:∀(f:De->ζ Dt)(a1 a2:Str)(q:Int)(δ:De),clB 10 a1=θ->clB 10 a2=θ->f δ=ς (.int q)->0<=q->q<2->Ct 10 (toD (d2 au (toD (aZ (aa (kD (.str a1)) (aa (kD (.str a2)) af)))) f)) δ:=fun f a1 a2 q δ h1 h2 e q0 q1=>qW (n:=2) (cy (aX (cU h1) (aX (cU h2) cw)) Ω) ⟨q,e,q0,q1⟩
 have Z:∃ s,Cl 200 s/\(sIf (cN (tB2 (bG fun i j=>decide (j<i)) (vB 8) (kD (.int 1))) (tB2 (bG fun i j=>decide (i<j)) (vB 5) (kD (.int 4)))) (y17 4 (toD (d2 aB (toD (d2 aB (toD (d2 aB (toD (d2 au (toD (aZ (aa (kD (.str "shelf ")) (aa (kD (.str "twins ")) af)))) (toD (d2 lR (vB 8) (kD (.int 2)))))) (vB 7))) (kD (.str " ")))) (toD (ag jH (aa (toD (d2 aB (kD (.int 1)) (toD (ag z9 (aa (vL 6) (aa (kD (.int 1)) (aa (kD (.int 8)) af))))))) af)))))) (y17 4 (toD (d2 aB (toD (d2 aB (toD (d2 aB (toD (d2 au (toD (aZ (aa (kD (.str "cell ")) (aa (kD (.str "twin ")) af)))) (toD (d2 fQ (vB 8) (kD (.int 2)))))) (vB 7))) (kD (.str " ")))) (toD (ag jH (aa (toD (d2 fQ (toD (d2 i3 (vB 6) (kD (.int 94906267)))) (toD (d2 kW (kD (.int 2)) (kD (.int 40)))))) af)))))))
     (dH ns b m u l k (ς (.f (.int v))) (ς (.f (.str x))) (ς (.f (.int (aT v 0 4)))))=ς (.nx (dH ns b m u (l++[s]) k (ς (.f (.int v))) (ς (.f (.str x))) (ς (.f (.int (aT v 0 4)))))):=by
  by_cases hc:1<aT v 0 4/\(k:Int)<4
  .obtain⟨s,c,e⟩:=U _ ((aW (aW (aW (O (toD (d2 lR (vB 8) (kD (.int 2)))) "shelf " "twins " (aT v 0 4-2) _ χ χ rfl Θ Θ) (cr (i:=7) rfl hx) Ω) (cU (b:=10) (s:=" ") χ) Ω) (tq (f:=toD (d2 aB (kD (.int 1)) (toD (ag z9 (aa (vL 6) (aa (kD (.int 1)) (aa (kD (.int 8)) af))))))) (n:=1+aT v 1 8) (je rfl (ah (t:=.f (.int _)) ((bI rfl rfl rfl).trans p1.1))) ⟨Θ,Θ⟩) Ω).mono Ω);refine⟨s,c,(gh ?_).trans e⟩;rw[tf,ap (x:=.int (aT v 0 4)) (y:=.int 1) (b:=true) rfl rfl (by rw[dg,decide_eq_true hc.1]),jO,ap (x:=.int k) (y:=.int 4) (b:=true) rfl rfl (by rw[dg,decide_eq_true hc.2])]
  .have pm:i8 v 94906267=θ:=oY Ω Ω;obtain⟨s,c,e⟩:=U _ ((aW (aW (aW (O (toD (d2 fQ (vB 8) (kD (.int 2)))) "cell " "twin " (aT v 0 4%2) _ χ χ rfl (qi9 _ Ω) (qg7 _ Ω)) (cr (i:=7) rfl hx) Ω) (cU (b:=10) (s:=" ") χ) Ω) (tq (f:=toD (d2 fQ (toD (d2 i3 (vB 6) (kD (.int 94906267)))) (toD (d2 kW (kD (.int 2)) (kD (.int 40)))))) (n:=v*94906267%wide) (ah (t:=.f (.int _)) ((aM (ah (t:=.f (.int _)) ((aM rfl rfl).trans (pv pm))) (ah (t:=.f (.int wide)) ((aM rfl rfl).trans pw))).trans yp)) (yG _)) Ω).mono Ω);refine⟨s,c,(iK ?_).trans e⟩;rw[tf];by_cases h1:1<aT v 0 4
   .rw[ap (x:=.int (aT v 0 4)) (y:=.int 1) (b:=true) rfl rfl (by rw[dg,decide_eq_true h1]),jO,ap (x:=.int k) (y:=.int 4) (b:=false) rfl rfl (by rw[dg,decide_eq_false fun z=>hc ⟨h1,z⟩])]
   .rw[ap (x:=.int (aT v 0 4)) (y:=.int 1) (b:=false) rfl rfl (by rw[dg,decide_eq_false h1])];rfl
 obtain⟨s,c,e⟩:=Z;refine⟨s,ς (.f (.int v)),ς (.f (.str x)),ς (.f (.int (aT v 0 4))),c,?_⟩;unfold q28;refine cj (d:=.int v) (ah (t:=.f (.int v)) ((bH (x:=.e (ns.map .int)) (y:=.int (4+k:Nat)) rfl (by rw[qr0];rfl)).trans ev)) ?_;dsimp only[qe3];refine cj (d:=.str x) (ah (t:=.f (.str x)) ((bH (x:=.int b) (y:=.int w) rfl (ah (t:=.f (.int w)) ((aM (gi (aq (ah (t:=.f (.int _)) ((bI rfl rfl rfl).trans p2.1)) (aq (d:=.int k) rfl rfl)) Ξ) (ah (t:=.f (.int (if u then 1 else 0))) ((aw (x:=.bl u) rfl).trans rfl))).trans (by rw[kR,ew];rfl)))).trans ex)) ?_;dsimp only[qe3];refine cj (d:=.int (aT v 0 4)) (ah (t:=.f (.int _)) ((bI rfl rfl rfl).trans p0.1)) ?_;dsimp only[qe3];exact e
theorem yI(ns:η Int)(b:Int)(n:Nat)(hn:n<=50):∃l:η Str,z35 [.e (ns.map .int),.int b,.int n]=ς (.e (l.map .str))/\l.length=n/\∀s∈l,Cl 200 s:=by
 unfold z35;have p1:=bM b 1 (m:=3) Ω;rw[show((1:Nat):Int)=1 from rfl]at p1
 obtain⟨δ',e,l,y5,U,y7,O,rfl,hl,hc⟩:=uB (bb:=ak 5) (g:=q28) (fun done δ=>∃(l:η Str)(y5 U y7 O:ζ T),δ=[ς (.f (.e (ns.map .int))),ς (.f (.int b)),ς (.f (.int n)),ς (.f (.bl (decide (aT b 1 3=1)))),ς (.e (l.map .str)),y5,U,y7,O]/\l.length=done.length/\∀s∈l,Cl 200 s) (bB 0 n) (bB 0 n) [] [ς (.f (.e (ns.map .int))),ς (.f (.int b)),ς (.f (.int n)),ς (.f (.bl (decide (aT b 1 3=1)))),ς (.e []),ψ,ψ,ψ,ψ] rfl ⟨[],ψ,ψ,ψ,ψ,rfl,rfl,fun _ h=>nomatch h⟩ fun done d r δ hd ⟨l,y5,U,y7,O,e,hl,hc⟩=>by
  obtain⟨rfl,hi⟩:=yx hd;rw[qs3];obtain⟨s,z6,z7,z8,c,es⟩:=tu ns b (.int n) (decide (aT b 1 3=1)) l done.length Θ U y7 O Θ;refine⟨_,_,by rw[e];rfl,.inl es,l++[s],_,z6,z7,z8,rfl,by simp[hl],fun x Z=>?_⟩;rcases qe8.mp Z with Z|Z
  .exact hc x Z
  .cases qi1.mp Z;exact c
 refine⟨l,dRt ?_,by rw[hl];simp[eF],hc⟩;refine cj (d:=.bl (decide (aT b 1 3=1))) (ah (t:=.f (.bl _)) ((aM (ah (t:=.f (.int _)) ((bI rfl rfl rfl).trans p1.1)) (y:=.int 1) rfl).trans rfl)) ?_;refine jP (d:=.e []) rfl ?_
 have ef:dP (dj iu (aa (vL 2) af)) (ak 5) q28 [ς (.f (.e (ns.map .int))),ς (.f (.int b)),ς (.f (.int n)),ς (.f (.bl (decide (aT b 1 3=1)))),ς (.e []),ψ,ψ,ψ,ψ]=ς (.nx [ς (.f (.e (ns.map .int))),ς (.f (.int b)),ς (.f (.int n)),ς (.f (.bl (decide (aT b 1 3=1)))),ς (.e (l.map .str)),y5,U,y7,O]):=by exact dN (kF rfl Θ) e
 exact(bn ef).trans rfl
theorem uG:∀{ds:η Dt},(∀d∈ds,∃O q,bb d δ=ς O/\ft O=ς q/\Ct b fe O)->∃l:η Str,bJ bb ft fe δ ds=ς (l.map .str)/\l.length<=ds.length/\∀s∈l,Cl b s
 |[],_=>⟨[],rfl,nL _,fun _ h=>nomatch h⟩
 |d::r,h=>by
  obtain⟨O,q,h1,h2,s,h3,hs⟩:=h d qa8;obtain⟨l,h5,h6,Z⟩:=uG fun e he=>h e (qa3 _ he)
  cases q with
  |true=>
   refine⟨s::l,?_,by simpa using h6,fun x U=>?_⟩
   .unfold bJ;rw[h1,qa1,h2,qa1,if_pos rfl,h3,qa1,h5];rfl
   .rcases qa9.mp U with rfl|U
    .exact hs
    .exact Z x U
  |false=>refine⟨l,?_,by simp;lia,Z⟩;unfold bJ;rw[h1,qa1,h2,qa1,if_neg Ξ,h5]
theorem qY:∀{ds:η Dt},(∀d∈ds,∃O,bb d δ=ς O/\Ct b fe O)->∃l:η Str,bJ bb bQ fe δ ds=ς (l.map .str)/\l.length=ds.length/\∀s∈l,Cl b s
 |[],_=>⟨[],rfl,rfl,fun _ h=>nomatch h⟩
 |d::r,h=>by
  obtain⟨O,h1,s,h3,hs⟩:=h d qa8;obtain⟨l,h5,h6,Z⟩:=qY fun e he=>h e (qa3 _ he)
  refine⟨s::l,?_,by simpa using h6,fun x U=>?_⟩
  .unfold bJ;rw[h1,qa1,show bQ O=ς θ from rfl,qa1,if_pos rfl,h3,qa1,h5];rfl
  .rcases qa9.mp U with rfl|U
   .exact hs
   .exact Z x U
theorem qZ(h1:fi δ=ς ds)(h2:bJ bb ft fe (dC src δ) ds=ς (l.map .str))(h3:l.length<=1000):toD (bu src fi bb ft fe) δ=ς (.e (l.map .str)):=ah (t:=.e _) (cD h1 h2 (by rw[qa5];lia))
theorem we(l:η Str):(l.map Dt.str).all cG=θ:=by rw[qg2];intro x O;obtain⟨s,_,rfl⟩:=qc9.mp O;rfl
theorem cZ{c:Int}(h1:fc δ=ς (.int c))(h2:fj δ=ς (.int j))(h3:fm δ=ς (.int m))(O:0<m):toD (ag z9 (aa fc (aa fj (aa fm af)))) δ=ς (.int (aT c j m)):=ah (t:=.f (.int _)) ((bI h1 h2 h3).trans (bM c j O).1)
variable{q:Bool}
theorem ra{δ':De}(h:c δ=ς q)(h1:q=θ->g1 δ=ς (.nx δ'))(h2:q=ξ->δ'=δ):ao (sIf c g1 bg) r δ=r δ':=by
 cases q with
 |true=>rw[kz,uz,h,jO,h1 rfl];rfl
 |false=>rw[kz,uz,h,pC,h2 rfl];rfl
theorem yJ(ns:η Int):∃l:η Str,q33 [.e (ns.map .int)]=ς (.e (l.map .str))/\1<=l.length/\l.length<=100/\∀s∈l,Cl 200 s:=by
 unfold q33;obtain⟨c,ec⟩:=gA ns 0 Ω;obtain⟨b,eb⟩:=gA ns 1 Ω;have p0:=bM c 0 (m:=7) Ω;have p1:=bM c 1 (m:=10) Ω;have p3:=bM c 3 (m:=40) Ω;rw[show((0:Nat):Int)=0 from rfl]at p0;rw[show((1:Nat):Int)=1 from rfl]at p1;rw[show((3:Nat):Int)=3 from rfl]at p3;obtain⟨n,hn⟩:∃n:Nat,(n:Int)=aT c 0 7:=⟨(aT c 0 7).toNat,Θ⟩;obtain⟨O,eh,lh,ch⟩:=yI ns b n Θ
 obtain⟨m,hm0,hm1,hm⟩:∃m:Nat,1<=m/\m<=40/\(if aT c 2 8=1 then 1+aT c 3 40 else 1+aT c 1 10)=(m:Int):=by
  by_cases z:aT c 2 8=1
  .exact⟨(1+aT c 3 40).toNat,Θ,Θ,by rw[if_pos z];lia⟩
  .exact⟨(1+aT c 1 10).toNat,Θ,Θ,by rw[if_neg z];lia⟩
 obtain⟨U,eg,lg,cg⟩:=qY (bb:=ak 0) (fe:=y61) (δ:=[ψ,ς (.f (.e (ns.map .int))),ς (.f (.int b))]) (b:=200) (ds:=bB 0 m) fun d hd=>by obtain⟨i,hi,rfl⟩:=mem_range hd;rw[qs3];obtain⟨v,ev⟩:=gA ns (8+i) Θ;exact⟨_,rfl,gB (x:=.int v) (y:=.int b) (ah (t:=.f (.int v)) ((bH (x:=.e (ns.map .int)) (y:=.int (8+i:Nat)) rfl (by rw[qr0];rfl)).trans ev)) rfl (Bd v b)⟩
 rw[eF]at lg
 obtain⟨as,ea,la,ca⟩:=uG (bb:=ak 0) (ft:=q47) (fe:=y37) (δ:=[ψ,ς (.f (.int b)),ς (.e ((O++U).map .str))]) (b:=200) (ds:=bB 0 6) fun d hd=>by
  obtain⟨i,hi,rfl⟩:=mem_range hd;rw[qs3];have hc:Ct 200 y37 [ς (.f (.int i)),ς (.f (.int b)),ς (.e ((O++U).map .str))]:=(aW (cU (b:=10) χ) (gB (x:=.int b) (y:=.int i) rfl rfl (uE b Θ)) Ω).mono Ω;obtain⟨s,es,cs⟩:=id hc;refine⟨_,!((O++U).map Dt.str).any fun y=>eqF y (.str s),rfl,?_,hc⟩
  .exact ap (x:=.str s) (y:=.e ((O++U).map .str)) es rfl (by rw[Ca (by rw[we];rfl)];rfl)
 rw[eF]at la
 have fin:∃l:η Str,(ao (sIf (tB2 (bG fun i j=>decide (j<i)) (toD (ag z9 (aa (vL 1) (aa (kD (.int 4)) (aa (kD (.int 3)) af))))) (kD (.int 0))) (aF 5 (d2 aB (vB 5) (toD (bu [ψ,ς 2,ς 5] (dj iu (aa (kD (.int 6)) af)) (ak 0) q47 y37)))) bg)
  (jC 5)) [ς (.f (.e (ns.map .int))),ς (.f (.int c)),ς (.f (.int b)),ς (.f (.e (O.map .str))),ς (.f (.int m)),ς (.e ((O++U).map .str))]=ς (.rt (.e (l.map .str)))/\1<=l.length/\l.length<=100/\∀s∈l,Cl 200 s:=by
  have Z:∀s∈O++U,Cl 200 s:=fun s hx=>(qe8.mp hx).elim (ch s) (cg s)
  by_cases z:0<aT c 4 3
  .refine⟨(O++U)++as,?_,by simp;lia,by simp;lia,fun s hx=>(qe8.mp hx).elim (Z s) (ca s)⟩;rw[ra (q:=true) (δ':=[ς (.f (.e (ns.map .int))),ς (.f (.int c)),ς (.f (.int b)),ς (.f (.e (O.map .str))),ς (.f (.int m)),ς (.e (((O++U)++as).map .str))]) (ap (x:=.int (aT c 4 3)) (y:=.int 0) (cZ (j:=4) rfl rfl rfl Ω) rfl (by rw[dg,decide_eq_true z])) (fun _=>?_) (fun q=>nomatch q)]
   .rfl
   .refine fM ((aM (x:=.e ((O++U).map .str)) (y:=.e (as.map .str)) rfl (qZ (kF (n:=6) rfl Ω) ea Θ)).trans ?_);rw[iU (by simp;lia),<- qd1]
  .refine⟨O++U,?_,by simp;lia,by simp;lia,Z⟩;rw[ra (q:=false) (δ':=[ς (.f (.e (ns.map .int))),ς (.f (.int c)),ς (.f (.int b)),ς (.f (.e (O.map .str))),ς (.f (.int m)),ς (.e ((O++U).map .str))]) (ap (x:=.int (aT c 4 3)) (y:=.int 0) (cZ (j:=4) rfl rfl rfl Ω) rfl (by rw[dg,decide_eq_false z])) (fun q=>nomatch q) (fun _=>rfl)];rfl
 obtain⟨l,el,r⟩:=fin;refine⟨l,dRt ?_,r⟩;refine cj (d:=.int c) (ah (t:=.f (.int c)) ((bH (x:=.e (ns.map .int)) (y:=.int 0) rfl rfl).trans ec)) ?_;show ao _ _ [ς (.f (.e (ns.map .int))),ς (.f (.int c)),ψ,ψ,ψ,ψ]=_;refine cj (d:=.int b) (ah (t:=.f (.int b)) ((bH (x:=.e (ns.map .int)) (y:=.int 1) rfl rfl).trans eb)) ?_;dsimp only[qe3];refine cj (d:=.e (O.map .str)) (ah (t:=.e (O.map .str)) ((bI (x:=.e (ns.map .int)) (y:=.int b) (z:=.int n) rfl rfl (by rw[hn];exact cZ (j:=0) rfl rfl rfl Ω)).trans eh)) ?_;dsimp only[qe3];refine cj (d:=.int (1+aT c 1 10)) (je rfl (cZ (j:=1) rfl rfl rfl Ω)) ?_;dsimp only[qe3];rw[ra (q:=decide (aT c 2 8=1)) (δ':=[ς (.f (.e (ns.map .int))),ς (.f (.int c)),ς (.f (.int b)),ς (.f (.e (O.map .str))),ς (.f (.int m)),ψ]) (ap (x:=.int (aT c 2 8)) (y:=.int 1) (cZ (j:=2) rfl rfl rfl Ω) rfl gf) (fun q=>?_) (fun q=>?_)]
 .refine jP (d:=.e ((O++U).map .str)) ((aM (x:=.e (O.map .str)) (y:=.e (U.map .str)) rfl (qZ (kF (n:=m) rfl Θ) eg Θ)).trans ?_) ?_
  .rw[iU (by simp;lia),<- qd1]
  .exact el
 .rw[if_pos (of_decide_eq_true q)]at hm;rw[fM (gT (je (x:=1) rfl (cZ (j:=3) rfl rfl rfl Ω))),<- hm];rfl
 .rw[if_neg (of_decide_eq_false q)]at hm;rw[hm]
variable{x:Str}
theorem nV{l u:ζ Int}{c:Nat}(h:c∈(Txt.slice x l u).cps.toList):c∈x.cps.toList:=by
 unfold Txt.slice at h;split at h
 .exact h
 .obtain⟨i,_,e⟩:=qq5.mp (show c∈List.filterMap (x.cps[·]?) _ by simpa using h);exact qt3.mpr (Array.mem_of_getElem? e)
theorem yK(h:Cl b x)(l u:ζ Int):Cl b (Txt.slice x l u):=⟨fun z=>h.1 (nV z),qc5 (Txt.slice_le x l u) h.2⟩
theorem wf(x:Str):(Txt.slice x ψ (ς 100)).length<=100:=by
 by_cases h:100<=x.cps.toList.length
 .have e:=StrLaws.sliceText_to (x:=x) (j:=100) ⟨Ω,Θ⟩;have e:Txt.slice x ψ (ς 100)=_:=e;rw[e,bm];simp;lia
 .have:=Txt.slice_le x ψ (ς 100);rw[bm x]at this;lia
theorem rb{c d:Nat}:∀{l:η Str}{w:Str},w∈l->c∈w.cps.toList->c∈(qe0 ⟨#[d]⟩ l).cps.toList
 |[x],w,h,O=>by cases qi1.mp h;exact O
 |x::y::r,w,h,O=>by
  rw[da];rcases qa9.mp h with rfl|h
  .exact qj2 _ O
  .exact qd0 _ (qa3 _ (rb h O))
theorem rc{d:Nat}:∀{l:η Str}{w:Str},w∈l->w.length<=(qe0 ⟨#[d]⟩ l).length
 |[x],w,h=>by cases qi1.mp h;exact nL _
 |x::y::r,w,h=>by
  rw[bm (qe0 _ _),da,qd6,qc4,<- bm,<- bm];rcases qa9.mp h with rfl|h
  .lia
  .have:=rc (d:=d) h;lia
theorem nW{d:Nat}:∀{l:η Str},l.length<=(qe0 ⟨#[d]⟩ l).length+1
 |[]=>qy8 _
 |[x]=>by simp
 |x::y::r=>by have:=nW (d:=d) (l:=y::r);rw[bm (qe0 _ _),da,qd6];rw[bm (qe0 _ _)]at this;simp only[qc4]at this ⊢;lia
def wds(s:Str):η Str:=Txt.split s ⟨#[32]⟩
theorem mr:qa0 " "=⟨#[32]⟩:=χ
theorem Be:qa0 "\n"=⟨#[10]⟩:=χ
theorem tz(h:Cl b s):wds s≠[]/\(wds s).length<=b+1/\∀w∈wds s,Cl b w:=by
 have e:qe0 ⟨#[32]⟩ (wds s)=s:=qq9 s ⟨#[32]⟩;refine⟨mi _ _,?_,fun w O=>⟨fun z=>h.1 ?_,?_⟩⟩
 .have:=nW (d:=32) (l:=wds s);rw[e]at this;have:=h.2;lia
 .have:=rb (d:=32) O z;rw[e]at this;exact this
 .have:=rc (d:=32) O;rw[e]at this;exact qc5 this h.2
theorem ms(h:Cl b s)(O:b<=1000):dl (.str s) [.str (qa0 " ")]=ς (.e ((wds s).map .str)):=by rw[mr];show(if((⟨#[32]⟩:Str).length==0)=ξ/\s.length+2<=qa7 then ς (T.e ((Txt.split s ⟨#[32]⟩).map .str))else ψ)=_;rw[if_pos ⟨rfl,b8 (by have:=h.2;lia)⟩];rfl
def CtM(k b:Nat)(f:De->ζ Dt)(δ:De):Prop:=∃l:η Str,f δ=ς (.e (l.map .str))/\l.length<=k/\∀s∈l,Cl b s
section
variable{a b n k m i:Nat}{f g:De->ζ Dt}{δ:De}{fl fh:De->ζ (ζ Int)}{lo hi:ζ Int}
theorem Cc(h:Ct b f δ)(O:b<=1000)(h1:fl δ=ς lo)(h2:fh δ=ς hi):Ct b (toD (vSl f fl fh)) δ:=by obtain⟨s,e,c⟩:=h;refine⟨Txt.slice s lo hi,ah (t:=.f (.str _)) ?_,yK c _ _⟩;unfold vSl;rw[e,qa1,h1,qa1,h2,qa1];exact if_pos (b8 (by have:=c.2;lia))
theorem fN{x:Dt}(h:f δ=ς x)(h1:fl δ=ς lo)(h2:fh δ=ς hi):vSl f fl fh δ=gSl x lo hi:=by unfold vSl;rw[h,qa1,h1,qa1,h2,qa1]
theorem c6(h:f δ=ς (.int v)):a0 f δ=ς (ς v):=by unfold a0;rw[h];rfl
theorem yL(l:η Str)(lo hi:ζ Int):∃m:η Str,fg (l.map Dt.str) lo hi=m.map .str/\m.length<=l.length/\∀s∈m,s∈l:=by
 refine⟨(l.drop (HT.sIx (l.map Dt.str).length 0 lo)).take (HT.sIx (l.map Dt.str).length (l.map Dt.str).length hi-HT.sIx (l.map Dt.str).length 0 lo),?_,?_,fun s O=>qt9 (qo3 O)⟩
 .unfold fg;rw[qz4,zd5]
 .rw[qk6,qi2];lia
theorem tD(h:CtM k b f δ)(h1:fl δ=ς lo)(h2:fh δ=ς hi):CtM k b (toD (vSl f fl fh)) δ:=by obtain⟨l,e,Z,c⟩:=h;obtain⟨m,U,hm,O⟩:=yL l lo hi;refine⟨m,ah (t:=.e _) ?_,Θ,fun s q=>c s (O s q)⟩;unfold vSl;rw[e,qa1,h1,qa1,h2,qa1];show ς (T.e (fg (l.map Dt.str) lo hi))=_;rw[U]
theorem lu(h1:CtM n b f δ)(h2:CtM m b g δ)(h:n+m<=100000):CtM (n+m) b (toD (d2 aB f g)) δ:=by obtain⟨l,e1,hl,O⟩:=h1;obtain⟨k,e2,hk,Z⟩:=h2;refine⟨l++k,?_,by simp;lia,fun s U=>(qe8.mp U).elim (O s) (Z s)⟩;rw[qd1];exact ah (t:=.e (l.map Dt.str++k.map Dt.str)) ((aM e1 e2).trans (iU (by simp;lia)))
theorem CtL.toM(h:CtL n b f δ):CtM n b f δ:=let ⟨l,e,hl,c⟩:=h;⟨l,e,Θ,c⟩
theorem CtM.mono(h:CtM n b f δ)(O:n<=m):CtM m b f δ:=let ⟨l,e,hl,c⟩:=h;⟨l,e,Θ,c⟩
theorem Bf(h:CtM n b f δ)(Z:n<=1000):CtM (2*n) b (toD (d2 qL f (kD (.int 2)))) δ:=by obtain⟨l,e1,hl,O⟩:=h;refine⟨l++l,ah (t:=.e ((l++l).map .str)) ((aM e1 rfl).trans ?_),by simp;lia,fun s U=>(qe8.mp U).elim (O s) (O s)⟩;show(if(0:Int)<=2/\(2:Int)<=1000/\(l.map Dt.str).length<=1000 then ς (T.e (qb2 2 (l.map Dt.str)).flatten)else ψ)=_;rw[if_pos ⟨Ω,Ω,by rw[qa5];lia⟩];simp[qb2]
theorem pI(h:δ[i]?=ς (ς (.f (.e (l.map .str)))))(O:l.length<=n)(c:∀s∈l,Cl b s):CtM n b (vB i) δ:=⟨l,by unfold vB;rw[h];rfl,O,c⟩
def CtN(n k b:Nat)(fs:De->ζ (η Dt))(δ:De):Prop:=∃O:η (η Str),fs δ=ς (O.map fun l=>.e (l.map .str))/\O.length=n/\∀l∈O,l.length<=k/\∀s∈l,Cl b s
theorem Bg:CtN 0 k b af δ:=⟨[],rfl,rfl,fun _ h=>nomatch h⟩
theorem iM{fs:De->ζ (η Dt)}(h:CtM k b f δ)(t:CtN n k b fs δ):CtN (n+1) k b (aa f fs) δ:=by
 obtain⟨s,e,c⟩:=h;obtain⟨l,e2,U,Z⟩:=t;refine⟨s::l,aq e e2,by simp[U],fun x O=>?_⟩;rcases qa9.mp O with rfl|O
 .exact c
 .exact Z x O
theorem Eh{fs:De->ζ (η Dt)}(h:CtN n k b fs δ)(hn:n<=1000)(p:Pn n g δ):CtM k b (toD (d2 au (toD (aZ fs)) g)) δ:=by obtain⟨ls,e1,Z,U⟩:=h;obtain⟨v,e2,h0,h1⟩:=p;obtain⟨x,ex,hx⟩:=kA (xs:=ls.map fun l=>Dt.e (l.map .str)) (i:=v) h0 (by rw[qa5,Z];exact h1);obtain⟨l,O,rfl⟩:=qc9.mp hx;exact⟨l,ah (t:=.f (.e (l.map .str))) ((aM (gi e1 (by rw[qa5];lia)) e2).trans (by rw[kR,ex];rfl)),(U l O).1,(U l O).2⟩
theorem Bh(h:CtM n b f δ)(Z:n*(b+1)<=1000000):∃s,toD (bR cA (kD (.str (qa0 " "))) (aa f af)) δ=ς (.str s)/\10∉s.cps.toList/\s.length<=1000000:=by obtain⟨l,e,U,c⟩:=h;refine⟨qe0 ⟨#[32]⟩ l,ah (t:=.f (.str _)) ?_,nU Ω fun x O=>(c x O).1,qc5 (mj (b:=b) fun x O=>(c x O).2) (qc5 (qt8 _ U) Z)⟩;unfold bR;rw[show kD (.str (qa0 " ")) δ=ς (.str (qa0 " "))from rfl,qa1,aq e (ds:=[]) rfl,qa1,mr];exact nR (nS (b:=b) (n:=n) (fun s hs=>(c s hs).2) U Z)
end
theorem FN(h:clB 20 s=θ)(O:20<=b):Ct b (kD (.str s)) δ:=(cU h).mono O
theorem Ei(k:Int):∃s,y45 [.int k]=ς (.f (.str s))/\Cl 30 s:=by
 unfold y45;refine mq (show Rs _ _ [ς (.f (.int k)),ψ]from ?_);refine fW (n:=9) (c:=30) (cy (by repeat' first|exact cw|refine aX (cU χ) ?_) Ω) fun l1 n1 c1=>?_
 dsimp only[qe3];refine fW (n:=17) (c:=30) (gU (n:=9) (m:=8) (iL (i:=1) rfl n1 c1) (cy (by repeat' first|exact cw|refine aX (cU χ) ?_) Ω) Ω) fun l2 n2 c2=>?_
 dsimp only[qe3];refine fW (n:=25) (c:=30) (gU (n:=17) (m:=8) (iL (i:=1) rfl n2 c2) (cy (by repeat' first|exact cw|refine aX (cU χ) ?_) Ω) Ω) fun l3 n3 c3=>?_
 dsimp only[qe3];refine fW (n:=36) (c:=30) (gU (n:=25) (m:=11) (iL (i:=1) rfl n3 c3) (cy (by repeat' first|exact cw|refine aX (cU χ) ?_) Ω) Ω) fun l4 Z c4=>?_
 dsimp only[qe3];refine fW (n:=44) (c:=30) (gU (n:=36) (m:=8) (iL (i:=1) rfl Z c4) (cy (by repeat' first|exact cw|refine aX (cU χ) ?_) Ω) Ω) fun l5 O U=>?_
 dsimp only[qe3];exact pG (qW (n:=44) (iL (i:=1) rfl O U) ⟨k%44,ah (t:=.f (.int _)) ((aM (x:=.int k) (y:=.int 44) rfl rfl).trans (l8 Ω)),qi9 _ Ω,qg7 _ Ω⟩)
theorem Rs.mono(h:Rs a G δ)(O:a<=b):Rs b G δ:=let ⟨s,e,c⟩:=h;⟨s,e,c.mono O⟩
theorem Cd(h:c δ=ς q)(h1:q=θ->Rs b g1 δ)(h2:q=ξ->Rs b r δ):Rs b (ao (sIf c g1 bg) r) δ:=by
 cases q with
 |true=>obtain⟨s,e,k⟩:=h1 rfl;exact⟨s,bD h e,k⟩
 |false=>obtain⟨s,e,k⟩:=h2 rfl;exact⟨s,(bc h).trans e,k⟩
def oddS:Str:=" !\"#$&'()*+,-./:;<=>?@ABCDEFGHIJKLMNOPQRSTUVWXYZ[\\]^_`{|}~abcxyz0123456789"
theorem Ej:Cl 100 oddS:=.of χ
theorem tE:oddS.length=74:=χ
theorem wg{b:Nat}{x:Str}(h:Cl b x)(hb:b<=401)(h1:100<=b)(c:Int):∃s,y29 [.str x,.int c]=ς (.f (.str s))/\Cl (2*b+1) s:=by
 unfold y29;have hx1:br [Dt.str x]=ς (.f (.int x.length)):=ku (b8 (by have:=h.2;lia));have p0:=bM c 0 (m:=10) Ω;have p1:=bM c 1 (m:=(x.length:Int)+1) Θ;have p2:=bM c 2 (m:=74) Ω;have p3:=bM c 3 (m:=2) Ω;have p5:=bM c 5 (m:=8) Ω;rw[show((0:Nat):Int)=0 from rfl]at p0;rw[show((1:Nat):Int)=1 from rfl]at p1;rw[show((2:Nat):Int)=2 from rfl]at p2;rw[show((3:Nat):Int)=3 from rfl]at p3;rw[show((5:Nat):Int)=5 from rfl]at p5;refine mq (show Rs _ _ [ς (.f (.str x)),ς (.f (.int c)),ψ,ψ,ψ,ψ,ψ,ψ,ψ,ψ]from ?_);refine dM (d:=.str oddS) rfl ?_;dsimp only[qe3];refine dM (d:=.int (aT c 0 10)) (cZ (j:=0) rfl rfl rfl Ω) ?_;dsimp only[qe3];refine dM (d:=.int (aT c 1 ((x.length:Int)+1))) (cZ (j:=1) (m:=(x.length:Int)+1) rfl rfl (je (x:=x.length) (y:=1) (ah (t:=.f (.int x.length)) ((aw (x:=.str x) rfl).trans hx1)) rfl) Θ) ?_;dsimp only[qe3];obtain⟨sg,Z,hsg⟩:=mo Ej Ω (v:=aT c 2 74) p2.2.1 (by rw[tE];exact p2.2.2);refine dM (d:=.str ⟨#[sg]⟩) (ah (t:=.f (.str ⟨#[sg]⟩)) ((aM (x:=.str oddS) rfl (cZ (j:=2) (m:=74) rfl rfl (ah (t:=.f (.int 74)) ((aw (x:=.str oddS) rfl).trans (by rw[ku (b8 (by rw[tE];decide)),tE];rfl))) Ω)).trans Z)) ?_;dsimp only[qe3];have csg:Cl 1 ⟨#[sg]⟩:=⟨by simpa using fun z:10=sg=>hsg z.symm,qr4 1⟩;refine Cd (q:=decide (aT c 0 10<3)) (ap (x:=.int (aT c 0 10)) (y:=.int 3) rfl rfl dg) (fun q=>?_) fun q=>?_
 .have q:=of_decide_eq_true q;refine Rs.mono (pG (aW (aW (Cc (lo:=ψ) (hi:=ς (aT c 1 ((x.length:Int)+1))) (cr (i:=0) rfl h) Θ rfl (c6 (v:=aT c 1 ((x.length:Int)+1)) rfl)) (qW (n:=3) (cy (aX (b:=1) (uC (i:=5) rfl csg) (aX (cU χ) (aX (cU χ) cw))) Ω) ⟨aT c 0 10,rfl,p0.2.1,q⟩) Θ) (Cc (lo:=ς (aT c 1 ((x.length:Int)+1)+aT c 3 2)) (hi:=ψ) (cr (i:=0) rfl h) Θ (c6 (je rfl (cZ (j:=3) rfl rfl rfl Ω))) rfl) Θ)) Θ
 .have q:=of_decide_eq_false q;refine Cd (q:=decide (aT c 0 10<5)) (ap (x:=.int (aT c 0 10)) (y:=.int 5) rfl rfl dg) (fun q2=>?_) fun q2=>?_
  .exact Rs.mono (pG (yH (cZ (j:=3) rfl rfl rfl Ω) (Ei _))) Θ
  .have q2:=of_decide_eq_false q2;obtain⟨w0,w1,w2⟩:=tz h;have wn:0<(wds x).length:=List.length_pos_iff.mpr w0;refine dM (d:=.e ((wds x).map .str)) ?_ ?_
   .refine ah (t:=.e ((wds x).map .str)) ?_;exact ms h Θ
   dsimp only[qe3];refine dM (d:=.int (aT c 4 (wds x).length)) (cZ (j:=4) (m:=(wds x).length) rfl rfl (ah (t:=.f (.int (wds x).length)) ((aw (x:=.e ((wds x).map .str)) rfl).trans (by rw[kn,qa5]))) Θ) ?_;dsimp only[qe3];let dS (x8 x9:ζ T):De:=[ς (.f (.str x)),ς (.f (.int c)),ς (.f (.str oddS)),ς (.f (.int (aT c 0 10))),ς (.f (.int (aT c 1 ((x.length:Int)+1)))),ς (.f (.str ⟨#[sg]⟩)),ς (.f (.e ((wds x).map .str))),ς (.f (.int (aT c 4 (wds x).length))),x8,x9];obtain⟨ot,eot,U⟩:=qW (n:=8) (b:=b) (δ:=(dS ψ ψ)) (cy (fs:=(aa (kD (.str "cell")) (aa (kD (.str "at")) (aa (kD (.str "a")) (aa (kD (.str "7")) (aa (kD (.str "=")) (aa (kD (.str "+")) (aa (kD (.str "go")) (aa (kD (.str "1099511627775")) af))))))))) (by repeat' first|exact cw|refine aX (FN χ Θ) ?_) Ω) (fu (fc:=vL 1) (fj:=kD (.int 5)) (fm:=kD (.int 8)) (c:=c) (j:=5) (m:=8) rfl rfl rfl Ω);refine dM (d:=.str ot) eot ?_;dsimp only[qe3]
   have O:∀(δ:De),δ[6]?=ς (ς (.f (.e ((wds x).map .str))))->δ[7]?=ς (ς (.f (.int (aT c 4 (wds x).length))))->CtM (b+1) b (toD (vSl (vB 6) (a0 (vB 7)) (a0 (toD (d2 aB (vB 7) (kD (.int 1))))))) δ:=fun δ h6 h7=>tD (pI h6 w1 w2) (c6 (by unfold vB;rw[h7];rfl)) (c6 (je (by unfold vB;rw[h7];rfl) rfl))
   obtain⟨ml,eml,nml,cml⟩:=Eh (n:=5) (k:=2*(b+1)) (b:=b) (δ:=(dS (ς (.f (.str ot))) ψ))
    (fs:=(aa (toD (aZ af)) (aa (toD (d2 qL (toD (vSl (vB 6) (a0 (vB 7)) (a0 (toD (d2 aB (vB 7) (kD (.int 1))))))) (kD (.int 2)))) (aa (toD (aZ (aa (vL 8) af))) (aa (toD (d2 aB (toD (aZ (aa (vL 8) af))) (toD (vSl (vB 6) (a0 (vB 7)) (a0 (toD (d2 aB (vB 7) (kD (.int 1))))))))) (aa (toD (d2 aB (toD (vSl (vB 6) (a0 (vB 7)) (a0 (toD (d2 aB (vB 7) (kD (.int 1))))))) (toD (aZ (aa (vL 8) af))))) af))))))
    (g:=toD (d2 lR (vB 3) (kD (.int 5))))
    (iM ((cy cw Ω).toM.mono Θ) (iM (Bf (O _ rfl rfl) Θ) (iM ((cy (aX (uC (i:=8) rfl U) cw) Ω).toM.mono Θ) (iM ((lu (cy (aX (uC (i:=8) rfl U) cw) Ω).toM (O _ rfl rfl) Θ).mono Θ) (iM ((lu (O _ rfl rfl) (cy (aX (uC (i:=8) rfl U) cw) Ω).toM Θ).mono Θ) Bg))))) Ω
    ⟨aT c 0 10-5,rfl,Θ,by have:=p0.2.2;lia⟩
   refine dM (d:=.e (ml.map .str)) eml ?_;dsimp only[qe3]
   obtain⟨s,es,c10,_⟩:=Bh (δ:=(dS (ς (.f (.str ot))) (ς (.f (.e (ml.map .str)))))) (f:=toD (d2 aB (toD (d2 aB (toD (vSl (vB 6) cH (a0 (vB 7)))) (vB 9))) (toD (vSl (vB 6) (a0 (toD (d2 aB (vB 7) (kD (.int 1))))) cH))))
    (lu (n:=(b+1)+2*(b+1)) (m:=b+1) (lu (tD (lo:=ψ) (pI (i:=6) rfl w1 w2) rfl (c6 (v:=aT c 4 (wds x).length) rfl)) (pI (i:=9) rfl nml cml) Θ) (tD (hi:=ψ) (pI (i:=6) rfl w1 w2) (c6 (je (x:=aT c 4 (wds x).length) (y:=1) rfl rfl)) rfl) Θ) (by
     have:(b+1)+2*(b+1)+(b+1)<=1608:=by lia
     have h2:=Nat.mul_le_mul this (show b+1<=402 by lia);lia)
   refine⟨Txt.slice s ψ (ς 100),aG ?_,fun z=>c10 (nV z),qc5 (wf s) Θ⟩;exact(fN es (lo:=ψ) rfl (c6 (v:=100) rfl)).trans (if_pos (b8 (by assumption)))
def cL:Str:="abcdefghijklmnopqrstuvwxyz"
def cF:Str:="0123456789"
variable{s2:ζ T}
theorem fX(c:Nat)(y:Str):inS y ⟨#[c]⟩=decide (c∈y.cps.toList):=StrLaws.found_one y c
def fY(x y:Str):Bool:=x.cps.toList.all fun c=>decide (c∈y.cps.toList)
def Low(c:Nat):Prop:=97<=c/\c<=122
def Fig(c:Nat):Prop:=48<=c/\c<=57
theorem Bi:cL.cps.toList=[97,98,99,100,101,102,103,104,105,106,107,108,109,110,111,112,113,114,115,116,117,118,119,120,121,122]:=χ
theorem Bj:cF.cps.toList=[48,49,50,51,52,53,54,55,56,57]:=χ
theorem in_L(c:Nat):c∈cL.cps.toList↔Low c:=by
 rw[Bi];unfold Low;constructor
 .intro h;simp at h;omega
 .intro⟨h1,h2⟩;simp;lia
theorem in_F(c:Nat):c∈cF.cps.toList↔Fig c:=by
 rw[Bj];unfold Fig;constructor
 .intro h;simp at h;omega
 .intro⟨h1,h2⟩;simp;lia
theorem nX{α:Type}(f:α->Bool):∀l:η α,jE (l.map fun x=>Dt.bl (f x))=ς (l.map f)
 |[]=>rfl
 |x::l=>by show(jE (l.map fun x=>Dt.bl (f x))).map (f x::·)=_;rw[nX f l];rfl
theorem wj(x y:Str)(O:x.length<=1000):bu [ψ,ς 1] (fIt (vB 0)) (ak 0) bQ z47 [ς (.f (.str x)),ς (.f (.str y)),s2]=ς (.e (x.cps.toList.map fun c=>.bl (decide (c∈y.cps.toList)))):=by
 have e:=kx (bb:=ak 0) (ft:=bQ) (fe:=z47) (δ:=[ψ,ς (.f (.str y))]) (ds:=np x) (f:=fun d=>match d with|.str i=>.bl (inS y i)|d=>d) fun d hd=>by unfold np at hd;obtain⟨c,_,rfl⟩:=qc9.mp hd;exact⟨_,rfl,rfl,rfl⟩
 walk_at "d";rw[e,qa1,md (by unfold np;rw[qa5,qa5,<- bm];lia)];unfold np;rw[qj6];congr 2;exact qp8 fun c _=>by show Dt.bl (inS y ⟨#[c]⟩)=_;rw[fX]
theorem pJ(x y:Str)(m:Int)(U:x.length<=1000):q16 [.str x,.str y,.int m]=ς (.f (.bl (decide (1<=(x.length:Int))&&(decide ((x.length:Int)<=m)&&fY x y)))):=by
 unfold q16;have e:=wj (s2:=ς (.f (.int m))) x y U;have O:br [Dt.str x]=ς (.f (.int x.length)):=if_pos (b8 Θ);walk_at "d";rw[O];walk_at "d";by_cases h1:1<=(x.length:Int)
 .rw[decide_eq_true h1];walk_at "d";by_cases h2:(x.length:Int)<=m
  .rw[decide_eq_true h2];simp only[jO,ag,aa,toD,e,qf6,T.d,qa1,af,xI,nX,if_true];walk_at "d";congr 3;unfold fY;rw[ze3];rfl
  .rw[decide_eq_false h2];walk_at "d"
 .rw[decide_eq_false h1];walk_at "d"
theorem tF:("0":Str)=⟨#[48]⟩:=χ
theorem yM(c:Nat)(r:η Nat):Txt.startswith ⟨(c::r).toArray⟩ ⟨#[48]⟩=decide (c=48):=by rw[qe1,decide_eq_true_eq];unfold Txt.startswith;rw[qb0,decide_eq_true_eq,StrLaws.subAt_one];simp
def mB(m:Int)(y x:Str):Bool:=decide (1<=(x.length:Int))&&(decide ((x.length:Int)<=m)&&fY x y)
def nB(x:Str):Bool:=mB 6 cL x
def lB(x:Str):Bool:=mB 8 (cL++cF) x
def fB(x:Str):Bool:=mB 13 cF x
def vl(x:Str):Int:=(PySem.intText? x).getD 0
def z0(x:Str):Bool:=Txt.startswith x (qa0 "0")&&!decide (x=qa0 "0")
def vO(x:Str):ζ Int:=if fB x&&(!z0 x&&decide (vl x<1099511627776))then ς (vl x)else ψ
def oD:ζ Int->Dt
 |none=>.non
 |some n=>.int n
def sO(x:Str):ζ Int:=(vO x).bind fun n=>if 1<=n/\n<=8 then ς n else ψ
def aD(x:Str):Dt:=if nB x then .str x else oD (vO x)
def W(x:Str):Prop:=x.length<=1000
theorem yN{x:Str}(h:W x):z34 [.str x]=ς (.f (.bl (nB x))):=by unfold z34;exact dRt (aG ((bI (x:=.str x) (y:=.str cL) (z:=.int 6) rfl rfl rfl).trans (pJ x cL 6 h)))
theorem Bk{x:Str}(h:W x):y42 [.str x]=ς (.f (.bl (lB x))):=by unfold y42;exact dRt (aG ((bI (x:=.str x) (y:=.str (cL++cF)) (z:=.int 8) rfl (ah (t:=.f (.str (cL++cF))) ((aM (x:=.str cL) (y:=.str cF) rfl rfl).trans (sY (b8 χ)))) rfl).trans (pJ x (cL++cF) 8 h)))
theorem uH(h:fY x cF=θ):∀c∈x.cps.toList,Fig c:=fun c O=>by unfold fY at h;exact(in_F c).mp (of_decide_eq_true (qg2.mp h c O))
theorem Bl(h:fY x cL=θ):∀c∈x.cps.toList,Low c:=fun c O=>by unfold fY at h;exact(in_L c).mp (of_decide_eq_true (qg2.mp h c O))
theorem mB_iff{y:Str}:mB m y x=θ↔1<=(x.length:Int)/\(x.length:Int)<=m/\fY x y=θ:=by unfold mB;simp only[qb0,decide_eq_true_eq]
theorem Bm{x:Str}(h:fB x=θ):PySem.intText? x=ς (vl x):=by
 obtain⟨h1,h2,h3⟩:=mB_iff.mp h
 have O:x.cps.toList≠[]:=fun z=>by rw[bm,z]at h1;exact absurd h1 Ω
 have e:=intText_digits (x:=x) (uH h3) O Θ;unfold vl;rw[e];rfl
theorem pL(h:fB x=θ):fR [.str x]=ς (.f (.int (vl x))):=by show(PySem.intText? x).bind _=_;rw[Bm h,qa1];exact if_pos (by have:=(mB_iff.mp h).2.1;lia)
theorem gj{b:Bool}(h:f δ=ς (.bl b)):dG f δ=ς b:=by unfold dG;rw[h];rfl
theorem iN{f:De->ζ Bool}{b:Bool}(h:f δ=ς b):ip f δ=ς (!b):=by rw[Ec,h];rfl
theorem b3{f g:De->ζ Bool}{a b:Bool}(h:f δ=ς a)(h2:a=θ->g δ=ς b):cN f g δ=ς (a&&b):=by
 rw[tf,h];cases a with
 |true=>exact h2 rfl
 |false=>rfl
theorem pM{f g:De->ζ T}{b:Bool}{t u:T}(h:c δ=ς b)(h1:b=θ->f δ=ς t)(h2:b=ξ->g δ=ς u):vIf c f g δ=ς (if b then t else u):=by
 rw[FJ,h];cases b with
 |true=>exact h1 rfl
 |false=>exact h2 rfl
theorem yO{a c:Int}(h1:fa δ=ς (.int a))(h2:fb δ=ς (.int n))(h3:fc δ=ς (.int c)):hG (ck (bG fun i j=>decide (i<=j)) (bG fun i j=>decide (i<=j)) fa fb fc) δ=ς (decide (a<=n)&&decide (n<=c)):=by unfold hG ck;rw[h1,h2,h3];simp only[qa1,dg,FI];cases decide (a<=n)<;>rfl
theorem pN{x:Str}(h:W x):q20 [.str x]=ς (.f (oD (vO x))):=by
 unfold q20;have e1:toD (ag q16 (aa (vL 0) (aa (kD iT) (aa (kD eX) af)))) [ς (.f (.str x)),ψ]=ς (.bl (fB x)):=ah (t:=.f (.bl _)) ((bI (x:=.str x) (y:=.str cF) (z:=.int 13) rfl rfl rfl).trans (pJ x cF 13 h));unfold vO;cases O:fB x with
 |false=>exact dRt (bD ((iN (gj e1)).trans (by rw[O];rfl)) rfl)
 |true=>
  have e2:cN (dG (toD (bR cI (vB 0) (aa (kD (.str "0")) af)))) (tB2 (gEq θ) (vB 0) (kD (.str "0"))) [ς (.f (.str x)),ψ]=ς (z0 x):=b3 (gj rfl) fun _=>rfl
  cases U:z0 x with
  |true=>exact dRt ((bc ((iN (gj e1)).trans (by rw[O];rfl))).trans (bD (e2.trans (by rw[U])) rfl))
  |false=>refine dRt ((bc ((iN (gj e1)).trans (by rw[O];rfl))).trans ((bc (e2.trans (by rw[U]))).trans (cj (d:=.int (vl x)) (ah (t:=.f (.int (vl x))) ((aw (x:=.str x) rfl).trans (pL O))) (aG ((pM (b:=decide (vl x<1099511627776)) (t:=.f (.int (vl x))) (u:=.f .non) rfl (fun _=>rfl) fun _=>rfl).trans ?_)))));cases hd:decide (vl x<1099511627776)<;>rfl
theorem Ek{x:Str}(h:W x):q51 [.str x]=ς (.f (aD x)):=by unfold q51;refine dRt (aG ((pM (b:=nB x) (t:=.f (.str x)) (u:=.f (oD (vO x))) (gj (ah (t:=.f (.bl (nB x))) ((aw (x:=.str x) rfl).trans (yN h)))) (fun _=>rfl) fun _=>(aw (x:=.str x) rfl).trans (pN h)).trans ?_));unfold aD;cases nB x<;>rfl
theorem El{x:Str}(h:W x):y51 [.str x]=ς (.f (oD (sO x))):=by
 unfold y51;refine dRt (cj (d:=oD (vO x)) (ah (t:=.f (oD (vO x))) ((aw (x:=.str x) rfl).trans (pN h))) (aG ?_));unfold sO;cases vO x with
 |none=>rfl
 |some n=>
  refine(pM (b:=decide (1<=n)&&decide (n<=8)) (t:=.f (.int n)) (u:=.f .non) ?_ (fun _=>rfl) fun _=>rfl).trans ?_
  .exact b3 (a:=true) rfl fun _=>yO (a:=1) (n:=n) (c:=8) rfl rfl rfl
  .by_cases h1:1<=n<;>by_cases h2:n<=8<;>simp[h1,h2,oD]
def sgB(x:Str):Bool:=((["+","-","*","<","=","&","|","^"]:η Str).map Dt.str).any fun y=>eqF y (.str x)
def pD(w x:Str):Dt:=if w=qa0 "atom" then aD x else if w=qa0 "value" then oD (vO x)else if w=qa0 "size" then oD (sO x)else if w=qa0 "name" then(if nB x then .str x else .non)else if w=qa0 "label" then(if lB x then .str x else .non)else if sgB x then .str x else .non
theorem Em{w x:Str}(h:W x):q52 [.str w,.str x]=ς (.f (pD w x)):=by
 unfold q52 pD
 have O:∀(b:Bool),(aQ (vIf (dG (vB 2)) (toT (vL 1)) (toT (kD .non)))) [ς (.f (.str w)),ς (.f (.str x)),ς (.f (.bl b))]=ς (.rt (.f (if b then .str x else .non))):=fun b=>by cases b<;>rfl
 refine dRt ?_;by_cases h1:w=qa0 "atom"
 .rw[if_pos h1];exact bD (ap (x:=.str w) (y:=.str "atom") rfl rfl (by rw[aV,decide_eq_true h1])) (aG ((aw (x:=.str x) rfl).trans (Ek h)))
 rw[if_neg h1];refine(bc (ap (x:=.str w) (y:=.str "atom") rfl rfl (by rw[aV,decide_eq_false h1]))).trans ?_;by_cases h2:w=qa0 "value"
 .rw[if_pos h2];exact bD (ap (x:=.str w) (y:=.str "value") rfl rfl (by rw[aV,decide_eq_true h2])) (aG ((aw (x:=.str x) rfl).trans (pN h)))
 rw[if_neg h2];refine(bc (ap (x:=.str w) (y:=.str "value") rfl rfl (by rw[aV,decide_eq_false h2]))).trans ?_;by_cases h3:w=qa0 "size"
 .rw[if_pos h3];exact bD (ap (x:=.str w) (y:=.str "size") rfl rfl (by rw[aV,decide_eq_true h3])) (aG ((aw (x:=.str x) rfl).trans (El h)))
 rw[if_neg h3];refine(bc (ap (x:=.str w) (y:=.str "size") rfl rfl (by rw[aV,decide_eq_false h3]))).trans ?_;by_cases U:w=qa0 "name"
 .rw[if_pos U];refine(bn (δ':=[ς (.f (.str w)),ς (.f (.str x)),ς (.f (.bl (nB x)))]) ((gh (ap (x:=.str w) (y:=.str "name") rfl rfl (by rw[aV,decide_eq_true U]))).trans (fM (gT (ah (t:=.f (.bl (nB x))) ((aw (x:=.str x) rfl).trans (yN h))))))).trans (O _)
 rw[if_neg U];by_cases Z:w=qa0 "label"
 .rw[if_pos Z];refine(bn (δ':=[ς (.f (.str w)),ς (.f (.str x)),ς (.f (.bl (lB x)))]) ((iK (ap (x:=.str w) (y:=.str "name") rfl rfl (by rw[aV,decide_eq_false U]))).trans ((gh (ap (x:=.str w) (y:=.str "label") rfl rfl (by rw[aV,decide_eq_true Z]))).trans (fM (gT (ah (t:=.f (.bl (lB x))) ((aw (x:=.str x) rfl).trans (Bk h)))))))).trans (O _)
 rw[if_neg Z];refine(bn (δ':=[ς (.f (.str w)),ς (.f (.str x)),ς (.f (.bl (sgB x)))]) ((iK (ap (x:=.str w) (y:=.str "name") rfl rfl (by rw[aV,decide_eq_false U]))).trans ((iK (ap (x:=.str w) (y:=.str "label") rfl rfl (by rw[aV,decide_eq_false Z]))).trans (fM (gT (ah (t:=.f (.bl (sgB x))) ((aM (x:=.str x) (y:=lj) rfl rfl).trans (by unfold lj;rw[iJ (by rfl)];rfl)))))))).trans (O _)
end P13
namespace P13
open PySem L2
theorem Bn(w x:Str):cG (pD w x)=θ:=by
 have O:∀o,cG (oD o)=θ:=fun o=>by cases o<;>rfl
 have U:cG (aD x)=θ:=by unfold aD;split;rfl;exact O _
 unfold pD
 repeat' split
 all_goals first|exact U|exact O _|rfl
def pDs(ws xs:η Str):η Dt:=(ws.zip xs).map fun p=>pD p.1 p.2
theorem nY:∀(ws xs:η Str),(∀x∈xs,W x)->bJ (gK 2 (aJ (ak 0) (aJ (ak 1) cE))) bQ z45 [ψ,ψ] (gx (ws.map .str) (xs.map .str))=ς (pDs ws xs)
 |[],_,_=>rfl
 |_::_,[],_=>rfl
 |w::ws,x::xs,h=>by
  have e:z45 [ς (.f (.str w)),ς (.f (.str x))]=ς (pD w x):=ah (t:=.f (pD w x)) ((bH (x:=.str w) (y:=.str x) rfl rfl).trans (Em (h x qa8)));have Z:=nY ws xs fun y U=>h y (qa3 _ U)
  show((ς [ς (T.f (.str w)),ς (T.f (.str x))]:ζ De).bind fun O=>(bQ O).bind fun b=>if b then(z45 O).bind fun y=>(bJ (gK 2 (aJ (ak 0) (aJ (ak 1) cE))) bQ z45 [ψ,ψ] (gx (ws.map .str) (xs.map .str))).bind fun ys=>ς (y::ys)else _)=_;simp only[qa1,bQ,if_true,e,Z];rfl
def bK(k:Str)(ws xs:η Str):Dt:=if xs.length=ws.length then(if(pDs ws xs).any fun y=>eqF y .non then .non else .t (.str k::pDs ws xs))else .non
theorem yP(ws xs:η Str):(pDs ws xs).all cG=θ:=by rw[qg2];intro d hd;obtain⟨p,_,rfl⟩:=qc9.mp hd;exact Bn _ _
variable{δ:De}
theorem yQ{c:De->ζ Bool}{g1 r:De->ζ Out}{q:Bool}{o:ζ Out}(h:c δ=ς q)(h1:q=θ->∃t,g1 δ=ς (.rt t)/\o=ς (.rt t))(h2:q=ξ->r δ=o):ao (sIf c g1 bg) r δ=o:=by
 cases q with
 |true=>obtain⟨t,e,e2⟩:=h1 rfl;rw[e2];exact bD h e
 |false=>exact(bc h).trans (h2 rfl)
variable{ws:η Str}
theorem mt(k:Str){xs:η Str}(h:∀x∈xs,W x)(O:ws.length<=10)(Z:xs.length<=1000):y35 [.str k,.t (ws.map .str),.e (xs.map .str)]=ς (.f (bK k ws xs)):=by
 unfold y35 bK;refine dRt (yQ (q:=!decide (xs.length=ws.length)) (ap (x:=.int xs.length) (y:=.int ws.length) (ah (t:=.f (.int xs.length)) ((aw (x:=.e (xs.map .str)) rfl).trans (by rw[kn,qa5]))) (ah (t:=.f (.int ws.length)) ((aw (x:=.t (ws.map .str)) rfl).trans (by rw[D6,qa5]))) ?_) (fun q=>⟨.f .non,rfl,?_⟩) fun q=>?_)
 .rw[pA];congr 4;rw[qe1,decide_eq_true_eq,decide_eq_true_eq];lia
 .have q:¬ xs.length=ws.length:=by simpa using q
  rw[if_neg q]
 .have q:xs.length=ws.length:=by simpa using q
  rw[if_pos q];have U:(pDs ws xs).length<=10:=by unfold pDs;rw[qa5,zb2];lia
  refine cj (d:=.e (pDs ws xs)) (ah (t:=.e (pDs ws xs)) (cD (ds:=gx (ws.map .str) (xs.map .str)) rfl (nY ws xs h) Θ)) (aG ?_);refine(pM (b:=(pDs ws xs).any fun y=>eqF y .non) (t:=.f .non) (u:=.f (.t (.str k::pDs ws xs))) (ap (x:=.non) (y:=.e (pDs ws xs)) rfl rfl (by rw[Ca (by rw[yP];rfl)];rfl)) (fun _=>rfl) (fun _=>(aw (x:=.e (.str k::pDs ws xs)) (ah (t:=.e (.str k::pDs ws xs)) ((aM (x:=.e [.str k]) (y:=.e (pDs ws xs)) rfl rfl).trans (iU (by simp;lia))))).trans rfl)).trans ?_;cases (pDs ws xs).any fun y=>eqF y .non<;>rfl
def wNA:η Str:=["name","atom"]
def wNSAA:η Str:=["name","sign","atom","atom"]
def fw:η Str->Dt
 |[a,_,c]=>bK "copy" wNA [a,c]
 |[a,_,c,d,e]=>bK "op" wNSAA [a,d,c,e]
 |_=>.non
theorem wl{ws:η Str}(h:∀x∈ws,W x):y32 [.e (ws.map .str)]=ς (.f (fw ws)):=by
 unfold y32;have e:toD (ag br (aa (vB 0) af)) [ς (.f (.e (ws.map .str)))]=ς (.int ws.length):=ah (t:=.f (.int ws.length)) ((aw (x:=.e (ws.map .str)) rfl).trans (by rw[kn,qa5]));by_cases h3:ws.length=3
 .obtain ⟨a,b,c,rfl⟩:∃a b c,ws=[a,b,c]:=by
   match ws,h3 with
   |[a,b,c],_=>exact⟨a,b,c,rfl⟩
  have f:=mt "copy" (ws:=wNA) (xs:=[a,c]) (fun x O=>h x (by simp at O ⊢;rcases O with rfl|rfl<;>simp)) Ω Ξ;exact dRt (bD (ap (x:=.int (3:Nat)) (y:=.int 3) e rfl rfl) (aG ((bI (x:=.str "copy") (y:=.t (wNA.map .str)) (z:=.e ([a,c].map .str)) rfl rfl rfl).trans f)))
 .by_cases U:ws.length=5
  .obtain ⟨a,b,c,d,g,rfl⟩:∃a b c d g,ws=[a,b,c,d,g]:=by
    match ws,U with
    |[a,b,c,d,g],_=>exact⟨a,b,c,d,g,rfl⟩
   have f:=mt "op" (ws:=wNSAA) (xs:=[a,d,c,g]) (fun x O=>h x (by simp at O ⊢;rcases O with rfl|rfl|rfl|rfl<;>simp)) Ω Ξ;exact dRt ((bc (ap (x:=.int (5:Nat)) (y:=.int 3) e rfl rfl)).trans (bD (ap (x:=.int (5:Nat)) (y:=.int 5) e rfl rfl) (aG ((bI (x:=.str "op") (y:=.t (wNSAA.map .str)) (z:=.e ([a,d,c,g].map .str)) rfl rfl rfl).trans f))))
  .have es:fw ws=.non:=by
    unfold fw;split
    .exact absurd rfl h3
    .exact absurd rfl U
    .rfl
   rw[es];exact dRt ((bc (ap (x:=.int ws.length) (y:=.int 3) e rfl (by rw[gf,decide_eq_false Θ]))).trans ((bc (ap (x:=.int ws.length) (y:=.int 5) e rfl (by rw[gf,decide_eq_false Θ]))).trans rfl))
def WT:η (Str×η Str):=[("cell",["name","value"]),("twin",["name","value"]),("shelf",["name","size"]),("twins",["name","size"]),("at",["label"]),("load",["name","name"]),("store",["name","atom"]),("take",["name","name","atom"]),("lay",["name","atom","atom"]),("hear",["name"]),("say",["atom"]),("if",["atom","label"]),("go",["label"]),("end",["atom"])]
def dO(k:Str):ζ (η Str):=WT.lookup k
theorem uI(k:Str):∀l:η (Str×η Str),b7 (l.map fun p=>(.inr p.1:Key)) (l.map fun p=>Dt.t (p.2.map .str)) (.inr k)=(l.lookup k).map fun w=>.t (w.map .str)
 |[]=>rfl
 |(x,w)::l=>by
  have O:=uI k l;simp only[qb3,qf9];unfold b7;by_cases h:k=x
  .subst h;simp
  .have h1:(k==x)=ξ:=by simpa using h
   have h2:¬ ((.inr x:Key)=.inr k):=fun z=>h (qr5 z).symm
   rw[h1];simp only[h2,if_false];exact O
theorem kG(k:Str):b7 k_I fJ (.inr k)=(dO k).map fun w=>.t (w.map .str):=uI k WT
theorem rf{k:Str}{w:η Str}(h:dO k=ς w):w.length<=10:=by
 have O:∀p∈WT,p.2.length<=10:=by decide
 exact O (k,w) (PySem.mem_of_lookup h)
def i4:η Str->Dt
 |[]=>.non
 |k::r=>if r.head?=ς (qa0 "=")then fw (k::r)else match dO k with
  |none=>.non
  |some w=>bK k w r
variable{f:De->ζ Dt}{l:η Dt}{i:Nat}
theorem cM{d:Dt}(h:f δ=ς (.e l))(O:l[i]?=ς d):toD (d2 au f (kD (.int i))) δ=ς d:=ah (t:=.f d) ((aM h rfl).trans (by rw[kR,eS,O];rfl))
theorem gk{d:Dt}(h:f δ=ς (.t l))(O:l[i]?=ς d):toD (d2 au f (kD (.int i))) δ=ς d:=ah (t:=.f d) ((aM h rfl).trans (by rw[uu,eS,O];rfl))
theorem Ce(d:Dt)(ds:η Dt):fg (d::ds) (ς 1) ψ=ds:=by
 have e1:HT.sIx (d::ds).length 0 (ς (1:Int))=1:=by rw[show(1:Int)=((1:Nat):Int)from rfl,HT.FX];simp
 unfold fg;rw[e1,HT.E5];simp
variable{s:Str}
theorem Eo(h:Cl 900 s):z51 [.str s]=ς (.f (i4 (wds s))):=by
 unfold z51;obtain⟨w0,w1,w2⟩:=tz h;have hW:∀x∈wds s,W x:=fun x Z=>qc5 (w2 x Z).2 Ω
 refine dRt (cj (d:=.e ((wds s).map .str)) (ah (t:=.e ((wds s).map .str)) (ms h Ω)) ?_);generalize wds s=ws at*
 cases ws with
 |nil=>exact absurd rfl w0
 |cons k r=>
  show _=ς (Out.rt (.f (if r.head?=ς (qa0 "=")then fw (k::r)else match dO k with
   |none=>.non
   |some w=>bK k w r)))
  have hr:∀x∈r,W x:=fun x Z=>hW x (qa3 _ Z)
  have hl:r.length<=1000:=by simp at w1;lia
  refine yQ (q:=decide (r.head?=ς (qa0 "="))) ?_ (fun q=>?_) fun q=>?_
  .cases r with
   |nil=>rfl
   |cons b r=>refine(b3 (a:=true) (b:=decide (b=qa0 "=")) (ap (x:=.int ((r.length+1+1:Nat):Int)) (y:=.int 1) (ah (t:=.f (.int _)) ((aw (x:=.e ((k::b::r).map .str)) rfl).trans (by rw[kn,qa5];rfl))) rfl (by rw[dg,decide_eq_true Θ])) fun _=>ap (x:=.str b) (y:=.str "=") (cM (i:=1) (l:=(k::b::r).map .str) rfl rfl) rfl aV).trans ?_;simp
  .refine⟨.f (fw (k::r)),aG ((aw (x:=.e ((k::r).map .str)) rfl).trans (wl hW)),?_⟩;rw[if_pos (of_decide_eq_true q)]
  .rw[if_neg (of_decide_eq_false q)];have U:toD (d2 au (vB 1) (kD (.int 0))) [ς (.f (.str s)),ς (.f (.e ((k::r).map .str)))]=ς (.str k):=cM (i:=0) (l:=(k::r).map .str) rfl rfl;cases O:dO k with
   |none=>refine bD ?_ rfl;show(toD (d2 au (vB 1) (kD (.int 0))) [ς (.f (.str s)),ς (.f (.e ((k::r).map .str)))]).bind (gSi θ k_I fJ)=_;rw[U,qa1];show(ς (qm8 k:Key)).map _=_;rw[qf6,kG,O];rfl
   |some w=>
    refine(bc ?_).trans ?_
    .show(toD (d2 au (vB 1) (kD (.int 0))) [ς (.f (.str s)),ς (.f (.e ((k::r).map .str)))]).bind (gSi θ k_I fJ)=_;rw[U,qa1];show(ς (qm8 k:Key)).map _=_;rw[qf6,kG,O];rfl
    .refine aG ((bI (x:=.str k) (y:=.t (w.map .str)) (z:=.e (r.map .str)) U (ah (t:=.f (.t (w.map .str))) ?_) (ah (t:=.e (r.map .str)) ((fN (x:=.e ((k::r).map .str)) (lo:=ς 1) (hi:=ψ) rfl (c6 rfl) rfl).trans ?_))).trans (mt k hr (rf O) hl))
     .show(toD (d2 au (vB 1) (kD (.int 0))) [ς (.f (.str s)),ς (.f (.e ((k::r).map .str)))]).bind (gSg k_I fJ)=_;rw[U,qa1];show(ς (qm8 k:Key)).bind _=_;rw[qa1,kG,O];rfl
     .show ς (T.e (fg ((k::r).map Dt.str) (ς 1) ψ))=_;rw[qb3,Ce]
def sS:Str:="+-*<&|^"
def s1B(x:Str):Bool:=decide ((x.length:Int)=1)&&inS sS x
def srt(x:Str):Nat:=if x=qa0 "=" then 61 else if s1B x then 115 else if nB x then 110 else if mB 8 cL x then 108 else if(vO x).isSome then(if 8<x.length then 119 else 118)else if lB x then 108 else 63
theorem jo{p:Nat->Bool}{ft:De->ζ Bool}(h:∀c,ft [ς (.f (.str ⟨#[c]⟩))]=ς (p c))(l:η Nat):bJ (ak 0) ft (vL 0) [ψ] (sgD l)=ς (sgD (l.filter p)):=by
 have e:=jN (bb:=ak 0) (ft:=ft) (fe:=vL 0) (δ:=[ψ]) (ds:=sgD l) (p:=fun d=>match d with|.str ⟨#[c]⟩=>p c|_=>ξ) (f:=id) fun d hd=>by obtain⟨c,_,rfl⟩:=qc9.mp hd;exact⟨_,rfl,h c,fun _=>rfl⟩
 rw[e,List.map_id];unfold sgD;rw[List.filter_map];rfl
theorem Bo(l:η Nat):(sgD l).all cG=θ:=by rw[qg2];intro x O;obtain⟨s,_,rfl⟩:=qc9.mp O;rfl
theorem tG(l:η Nat):gEq ξ (.e (sgD l)) (.e [])=ς (.f (.bl l.isEmpty)):=by rw[qT (Bo l) rfl];cases l<;>rfl
theorem kH(l:η Nat)(y:Str):(l.filter fun c=>!inS y ⟨#[c]⟩).isEmpty=l.all fun c=>decide (c∈y.cps.toList):=by
 induction l with
 |nil=>rfl
 |cons c l O=>
  rw[List.filter_cons,fX,qh9];by_cases h:c∈y.cps.toList
  .rw[decide_eq_true h];simpa using O
  .rw[decide_eq_false h];rfl
theorem rg(c:Nat):decide (c∈(cL++cF).cps.toList)=(decide (c∈cL.cps.toList)||decide (c∈cF.cps.toList)):=by rw[lp,qe1];simp
theorem Bp(l:η Nat):((l.filter fun c=>!inS cL ⟨#[c]⟩).filter fun c=>!inS cF ⟨#[c]⟩).isEmpty=l.all fun c=>decide (c∈(cL++cF).cps.toList):=by
 rw[kH];induction l with
 |nil=>rfl
 |cons c l O=>
  rw[List.filter_cons,fX,qh9,rg];by_cases h:c∈cL.cps.toList
  .rw[decide_eq_true h];simpa using O
  .rw[decide_eq_false h];simp only[zc0,if_true,qh9,qy7];rw[O]
variable{x y:Str}
theorem uJ{neg:Bool}(h:f δ=ς (.str x)):tB2 (bv neg) f (kD (.str y)) δ=ς (if neg then !inS y x else inS y x):=ap h rfl uw
theorem yR{x:Str}(h:fB x=θ):toD (d2 au (vB 0) (kD (.int 0))) [ς (.f (.str x)),s2]=ς (.str ⟨#[x.cps.toList.headD 0]⟩)/\Txt.startswith x (qa0 "0")=decide ((⟨#[x.cps.toList.headD 0]⟩:Str)=qa0 "0"):=by
 obtain⟨h1,h2,h3⟩:=mB_iff.mp h;cases q:x.cps.toList with
 |nil=>rw[bm,q]at h1;exact absurd h1 Ω
 |cons c r=>
  constructor
  .refine ah (t:=.f (.str ⟨#[c]⟩)) ((aM (x:=.str x) (y:=.int 0) rfl rfl).trans ?_);rw[uv (b8 Θ),q,D9];rfl
  .have e:x=⟨(c::r).toArray⟩:=iV (by rw[q]);rw[show qa0 "0"=⟨#[48]⟩from tF,e,yM];rw[qe1,decide_eq_true_eq,decide_eq_true_eq];simp
variable{c:Nat}
theorem rk(h:s=⟨#[c]⟩):toT (kD (.str s)) δ=ς (.f (.str ⟨#[c]⟩)):=by rw[h];rfl
theorem Ep{x:Str}(h:W x):q40 [.str x]=ς (.f (.str ⟨#[srt x]⟩)):=by
 unfold q40 srt;refine dRt ?_;show ao _ _ [ς (.f (.str x)),ψ]=_;by_cases h0:x=qa0 "="
 .rw[if_pos h0];exact bD (ap (x:=.str x) (y:=.str "=") rfl rfl (by rw[aV,decide_eq_true h0])) (aG (t:=.f (.str ⟨#[61]⟩)) (rk χ))
 rw[if_neg h0];refine(bc (ap (x:=.str x) (y:=.str "=") rfl rfl (by rw[aV,decide_eq_false h0]))).trans ?_;have hl:∀s2:ζ T,toD (ag br (aa (vB 0) af)) [ς (.f (.str x)),s2]=ς (.int x.length):=fun s2=>ah (t:=.f (.int x.length)) ((aw (x:=.str x) rfl).trans (ku (b8 (qc5 h Ω))))
 have e1:cN (tB2 (gEq ξ) (toD (ag br (aa (vB 0) af))) (kD (.int 1))) (tB2 (bv ξ) (vB 0) (kD (.str "+-*<&|^"))) [ς (.f (.str x)),ψ]=ς (s1B x):=b3 (ap (x:=.int x.length) (y:=.int 1) (hl _) rfl gf) fun _=>uJ rfl
 cases h1:s1B x with
 |true=>exact bD (e1.trans (by rw[h1])) (aG (t:=.f (.str ⟨#[115]⟩)) (rk χ))
 |false=>
 refine(bc (e1.trans (by rw[h1]))).trans ?_
 have ec:toD (bu [ψ] (fIt (vB 0)) (ak 0) y67 (vL 0)) [ς (.f (.str x)),ψ]=ς (.e (sgD (x.cps.toList.filter fun c=>!inS cL ⟨#[c]⟩))):=ah (t:=.e _) (cD (ds:=sgD x.cps.toList) rfl (jo (fun c=>uJ rfl) _) (by unfold sgD;rw[qa5];have:=qh5 (fun c=>!inS cL ⟨#[c]⟩) x.cps.toList;rw[<- bm]at this;unfold W at h;lia))
 refine cj ec ?_;dsimp only[qe3];generalize U:x.cps.toList.filter (fun c=>!inS cL ⟨#[c]⟩)=st;have es:tB2 (gEq ξ) (vB 1) (toD (aZ af)) [ς (.f (.str x)),ς (.f (.e (sgD st)))]=ς (fY x cL):=ap (x:=.e (sgD st)) (y:=.e []) rfl rfl (by rw[tG,<- U,kH];rfl);have ch:∀(m:Int),hG (ck (bG fun i j=>decide (i<=j)) (bG fun i j=>decide (i<=j)) (kD (.int 1)) (toD (ag br (aa (vB 0) af))) (kD (.int m))) [ς (.f (.str x)),ς (.f (.e (sgD st)))]=ς (decide (1<=(x.length:Int))&&decide ((x.length:Int)<=m)):=fun m=>yO rfl (hl _) rfl
 have mb:∀(m:Int)(y:Str),(fY x y&&(decide (1<=(x.length:Int))&&decide ((x.length:Int)<=m)))=mB m y x:=fun m y=>by unfold mB;cases fY x y<;>cases decide (1<=(x.length:Int))<;>cases decide ((x.length:Int)<=m)<;>rfl
 have e2:cN (tB2 (gEq ξ) (vB 1) (toD (aZ af))) (hG (ck (bG fun i j=>decide (i<=j)) (bG fun i j=>decide (i<=j)) (kD (.int 1)) (toD (ag br (aa (vB 0) af))) (kD (.int 6)))) [ς (.f (.str x)),ς (.f (.e (sgD st)))]=ς (nB x):=(b3 es fun _=>ch 6).trans (by rw[mb];rfl);cases h2:nB x with
 |true=>exact bD (e2.trans (by rw[h2])) (aG (t:=.f (.str ⟨#[110]⟩)) (rk χ))
 |false=>
 refine(bc (e2.trans (by rw[h2]))).trans ?_;have e3:cN (tB2 (gEq ξ) (vB 1) (toD (aZ af))) (hG (ck (bG fun i j=>decide (i<=j)) (bG fun i j=>decide (i<=j)) (kD (.int 1)) (toD (ag br (aa (vB 0) af))) (kD (.int 8)))) [ς (.f (.str x)),ς (.f (.e (sgD st)))]=ς (mB 8 cL x):=(b3 es fun _=>ch 8).trans (by rw[mb]);cases h3:mB 8 cL x with
 |true=>exact bD (e3.trans (by rw[h3])) (aG (t:=.f (.str ⟨#[108]⟩)) (rk χ))
 |false=>
 refine(bc (e3.trans (by rw[h3]))).trans ?_
 have ef:toD (bu [ψ] (fIt (vB 0)) (ak 0) q53 (vL 0)) [ς (.f (.str x)),ς (.f (.e (sgD st)))]=ς (.e (sgD (x.cps.toList.filter fun c=>!inS cF ⟨#[c]⟩))):=ah (t:=.e _) (cD (ds:=sgD x.cps.toList) rfl (jo (fun c=>uJ rfl) _) (by unfold sgD;rw[qa5];have:=qh5 (fun c=>!inS cF ⟨#[c]⟩) x.cps.toList;rw[<- bm]at this;unfold W at h;lia))
 have e4:cN (tB2 (gEq ξ) (toD (bu [ψ] (fIt (vB 0)) (ak 0) q53 (vL 0))) (toD (aZ af))) (hG (ck (bG fun i j=>decide (i<=j)) (bG fun i j=>decide (i<=j)) (kD (.int 1)) (toD (ag br (aa (vB 0) af))) (kD (.int 13)))) [ς (.f (.str x)),ς (.f (.e (sgD st)))]=ς (fB x):=(b3 (ap (y:=.e []) ef rfl (by rw[tG,kH])) fun _=>ch 13).trans (by unfold fB;rw[<- mb];rfl)
 have e5:cN (tB2 (gEq ξ) (toD (bu [ψ] (fIt (vB 1)) (ak 0) z40 (vL 0))) (toD (aZ af))) (hG (ck (bG fun i j=>decide (i<=j)) (bG fun i j=>decide (i<=j)) (kD (.int 1)) (toD (ag br (aa (vB 0) af))) (kD (.int 8)))) [ς (.f (.str x)),ς (.f (.e (sgD st)))]=ς (lB x):=by
  have eg:toD (bu [ψ] (fIt (vB 1)) (ak 0) z40 (vL 0)) [ς (.f (.str x)),ς (.f (.e (sgD st)))]=ς (.e (sgD (st.filter fun c=>!inS cF ⟨#[c]⟩))):=ah (t:=.e _) (cD (ds:=sgD st) rfl (jo (fun c=>uJ rfl) _) (by unfold sgD;rw[qa5];have:=qh5 (fun c=>!inS cF ⟨#[c]⟩) st;have h2:=qh5 (fun c=>!inS cL ⟨#[c]⟩) x.cps.toList;rw[U,<- bm]at h2;unfold W at h;lia))
  refine(b3 (ap (y:=.e []) eg rfl (by rw[tG,<- U,Bp])) fun _=>ch 8).trans ?_;unfold lB;rw[<- mb];rfl
 have O:(ao (sIf (cN (tB2 (gEq ξ) (toD (bu [ψ] (fIt (vB 1)) (ak 0) z40 (vL 0))) (toD (aZ af))) (hG (ck (bG fun i j=>decide (i<=j)) (bG fun i j=>decide (i<=j)) (kD (.int 1)) (toD (ag br (aa (vB 0) af))) (kD (.int 8))))) (aQ (toT (kD (.str "l")))) bg)
  (aQ (toT (kD (.str "?"))))) [ς (.f (.str x)),ς (.f (.e (sgD st)))]=ς (.rt (.f (.str ⟨#[if lB x then 108 else 63]⟩))):=by
  cases h5:lB x with
  |true=>exact bD (e5.trans (by rw[h5])) (aG (t:=.f (.str ⟨#[108]⟩)) (rk χ))
  |false=>exact(bc (e5.trans (by rw[h5]))).trans (aG (t:=.f (.str ⟨#[63]⟩)) (rk χ))
 have val:∀hf:fB x=θ,fOr (tB2 (gEq ξ) (vB 0) (kD (.str "0"))) (cN (tB2 (gEq θ) (toD (d2 au (vB 0) (kD (.int 0)))) (kD (.str "0"))) (tB2 (bG fun i j=>decide (i<j)) (toD (ag fR (aa (vB 0) af))) (toD (d2 kW (kD (.int 2)) (kD (.int 40)))))) [ς (.f (.str x)),ς (.f (.e (sgD st)))]=ς (vO x).isSome:=fun hf=>by
  obtain⟨f1,f2⟩:=yR (s2:=ς (.f (.e (sgD st)))) hf;refine(orE (a:=decide (x=qa0 "0")) (b:=!decide ((⟨#[x.cps.toList.headD 0]⟩:Str)=qa0 "0")&&decide (vl x<wide)) rfl fun _=>b3 (ap (y:=.str "0") f1 rfl gS) fun _=>ap (x:=.int (vl x)) (y:=.int wide) (ah (t:=.f (.int (vl x))) ((aw (x:=.str x) rfl).trans (pL hf))) (ah (t:=.f (.int wide)) ((aM rfl rfl).trans pw)) dg).trans ?_;unfold vO z0;rw[hf,ll,f2];by_cases hx:x=qa0 "0"
  .have:vl (qa0 "0")=0:=by decide +kernel
   rw[decide_eq_true hx,hx,this];simp
  .rw[decide_eq_false hx];cases decide ((⟨#[x.cps.toList.headD 0]⟩:Str)=qa0 "0")<;>cases decide (vl x<1099511627776)<;>rfl
 cases Z:fB x with
 |false=>
  have:vO x=ψ:=by unfold vO;rw[Z];rfl
  rw[this];exact(bc (e4.trans (by rw[Z]))).trans O
 |true=>
  cases hv:(vO x).isSome with
  |false=>refine Eq.trans ?_ O;exact bn (δ':=[ς (.f (.str x)),ς (.f (.e (sgD st)))]) ((gh (e4.trans (by rw[Z]))).trans ((iK ((val Z).trans (by rw[hv]))).trans rfl))
  |true=>
   refine bD (e4.trans (by rw[Z])) ((gh ((val Z).trans (by rw[hv]))).trans (aG ((aM (x:=.e [.str "v",.str "w"]) (y:=.int (if decide (8<(x.length:Int))then 1 else 0)) rfl (ah (t:=.f (.int _)) ((aw (ah (t:=.f (.bl (decide (8<(x.length:Int))))) ((aM (x:=.int x.length) (y:=.int 8) (hl _) rfl).trans dg))).trans rfl))).trans ?_)));by_cases hl8:8<x.length
   .rw[decide_eq_true (show 8<(x.length:Int)by lia),if_pos hl8];rw[show qa0 "v"=⟨#[118]⟩from by decide +kernel,show qa0 "w"=⟨#[119]⟩from by decide +kernel];rfl
   .rw[decide_eq_false (show ¬ 8<(x.length:Int)by lia),if_neg hl8];rw[show qa0 "v"=⟨#[118]⟩from by decide +kernel,show qa0 "w"=⟨#[119]⟩from by decide +kernel];rfl
def sgC:η Nat:=[43,45,42,60,61,38,124,94]
theorem rh:sS.cps.toList=[43,45,42,60,38,124,94]:=χ
theorem Er(h:x.length=1):∃c,x=⟨#[c]⟩:=by
 rw[bm]at h
 match q:x.cps.toList,h with
 |[c],_=>exact⟨c,iV q⟩
theorem Es{x:Str}:s1B x=θ↔∃c∈([43,45,42,60,38,124,94]:η Nat),x=⟨#[c]⟩:=by
 unfold s1B;rw[qb0,decide_eq_true_eq];constructor
 .rintro⟨h1,h2⟩;obtain⟨c,rfl⟩:=Er (x:=x) Θ;rw[fX,rh,decide_eq_true_eq]at h2;exact⟨c,h2,rfl⟩
 .rintro⟨c,O,rfl⟩;refine⟨rfl,?_⟩;rw[fX,rh];exact decide_eq_true O
theorem Bq:qa0 "="=⟨#[61]⟩:=χ
theorem sg_iff:sgB x=θ↔∃c∈sgC,x=⟨#[c]⟩:=by
 have e:sgB x=sgC.any fun c=>decide ((⟨#[c]⟩:Str)=x):=by
  unfold sgB sgC;have q:(["+","-","*","<","=","&","|","^"]:η Str)=[43,45,42,60,61,38,124,94].map fun c=>(⟨#[c]⟩:Str):=by decide +kernel
  rw[q];simp only[qb3,qm1,qe6,qj0,jd]
 rw[e,qt1];constructor
 .rintro⟨c,O,h⟩;exact⟨c,O,(of_decide_eq_true h).symm⟩
 .rintro⟨c,O,rfl⟩;exact⟨c,O,decide_eq_true rfl⟩
theorem Cf:sgB x=(decide (x=qa0 "=")||s1B x):=by
 rw[qe1,sg_iff,qe2,Es,decide_eq_true_eq,Bq];constructor
 .rintro⟨c,O,rfl⟩;simp only[sgC,qa9,qb8,or_false]at O;rcases O with rfl|rfl|rfl|rfl|rfl|rfl|rfl|rfl
  case inr.inr.inr.inr.inl=>exact .inl rfl
  all_goals exact .inr ⟨_,Ξ,rfl⟩
 .rintro(rfl|⟨c,O,rfl⟩)
  .exact⟨61,Ω,rfl⟩
  .refine⟨c,?_,rfl⟩;simp only[qa9,qb8,or_false]at O;rcases O with rfl|rfl|rfl|rfl|rfl|rfl|rfl<;>decide
theorem FO:∀c∈sgC,nB ⟨#[c]⟩=ξ/\lB ⟨#[c]⟩=ξ/\fB ⟨#[c]⟩=ξ/\mB 8 cL ⟨#[c]⟩=ξ:=χ
theorem Br(h:fB x=ξ):vO x=ψ:=by unfold vO;rw[h];rfl
theorem Bs(h:(vO x).isSome=θ):fB x=θ/\vO x=ς (vl x):=by
 unfold vO at h ⊢;split at h
 .rename_i q;rw[if_pos q];exact⟨(qb0 _ _▸q).1,rfl⟩
 .cases h
theorem nZ{m:Int}(h:mB m cL x=θ):fB x=ξ:=by
 obtain⟨h1,h2,h3⟩:=mB_iff.mp h;cases q:fB x with
 |false=>rfl
 |true=>
  obtain⟨_,_,O⟩:=mB_iff.mp q;cases e:x.cps.toList with
  |nil=>rw[bm,e]at h1;exact absurd h1 Ω
  |cons c r=>have a:=Bl h3 c (by rw[e];simp);have b:=uH O c (by rw[e];simp);unfold Low at a;unfold Fig at b;lia
theorem n_m8(h:nB x=θ):mB 8 cL x=θ:=by obtain⟨h1,h2,h3⟩:=mB_iff.mp h;exact mB_iff.mpr ⟨h1,Θ,h3⟩
theorem Cg(h:fY x y=θ)(U:y=cL∨y=cF):fY x (cL++cF)=θ:=by unfold fY at h ⊢;rw[qg2]at h ⊢;intro c O;have:=h c O;rw[rg];rcases U with rfl|rfl<;>rw[this]<;>simp
theorem m8_l(h:mB 8 cL x=θ):lB x=θ:=by obtain⟨h1,h2,h3⟩:=mB_iff.mp h;exact mB_iff.mpr ⟨h1,h2,Cg h3 (.inl rfl)⟩
theorem f_l(h:fB x=θ):lB x=decide (x.length<=8):=by
 obtain⟨h1,h2,h3⟩:=mB_iff.mp h;rw[qe1,decide_eq_true_eq];constructor
 .intro z;have:=(mB_iff.mp z).2.1;lia
 .intro z;exact mB_iff.mpr ⟨h1,Θ,Cg h3 (.inr rfl)⟩
inductive St(x:Str):Prop
 |eq:srt x=61->x=qa0 "="->nB x=ξ->lB x=ξ->vO x=ψ->sgB x=θ->St x
 |sg:srt x=115->x≠qa0 "="->nB x=ξ->lB x=ξ->vO x=ψ->sgB x=θ->St x
 |nm:srt x=110->x≠qa0 "="->nB x=θ->lB x=θ->vO x=ψ->sgB x=ξ->St x
 |lb:srt x=108->x≠qa0 "="->nB x=ξ->lB x=θ->vO x=ψ->sgB x=ξ->St x
 |v8:srt x=118->x≠qa0 "="->nB x=ξ->lB x=θ->vO x=ς (vl x)->sgB x=ξ->St x
 |v9:srt x=119->x≠qa0 "="->nB x=ξ->lB x=ξ->vO x=ς (vl x)->sgB x=ξ->St x
 |no:srt x=63->x≠qa0 "="->nB x=ξ->lB x=ξ->vO x=ψ->sgB x=ξ->St x
theorem g0(x:Str):St x:=by
 cases Z:sgB x with
 |true=>
  obtain⟨c,hc,rfl⟩:=sg_iff.mp Z;obtain⟨n1,n2,n3,n4⟩:=FO c hc;by_cases U:(⟨#[c]⟩:Str)=qa0 "="
  .exact .eq (by unfold srt;rw[if_pos U]) U n1 n2 (Br n3) Z
  .have h1:s1B ⟨#[c]⟩=θ:=by rw[Cf,decide_eq_false U]at Z;exact Z
   exact .sg (by unfold srt;rw[if_neg U,h1];rfl) U n1 n2 (Br n3) Z
 |false=>
  have hz:=Z;rw[Cf,qu0]at hz;obtain⟨z1,z2⟩:=hz;have U:=of_decide_eq_false z1
  have e:srt x=if nB x then 110 else if mB 8 cL x then 108 else if(vO x).isSome then(if 8<x.length then 119 else 118)else if lB x then 108 else 63:=by unfold srt;rw[if_neg U,z2];rfl
  cases O:nB x with
  |true=>exact .nm (by rw[e,O];rfl) U O (m8_l (n_m8 O)) (Br (nZ (n_m8 O))) Z
  |false=>
   cases h8:mB 8 cL x with
   |true=>exact .lb (by rw[e,O,h8];rfl) U O (m8_l h8) (Br (nZ h8)) Z
   |false=>
    cases hv:(vO x).isSome with
    |true=>
     obtain⟨hf,hvv⟩:=Bs hv;have hl:=f_l hf;by_cases h9:8<x.length
     .exact .v9 (by rw[e,O,h8,hv,if_pos h9];rfl) U O (by rw[hl,decide_eq_false Θ]) hvv Z
     .exact .v8 (by rw[e,O,h8,hv,if_neg h9];rfl) U O (by rw[hl,decide_eq_true Θ]) hvv Z
    |false=>
     have hvn:vO x=ψ:=by cases q:vO x with|none=>rfl|some n=>rw[q]at hv;cases hv
     cases hl:lB x with
     |true=>exact .lb (by rw[e,O,h8,hv,hl];rfl) U O hl hvn Z
     |false=>exact .no (by rw[e,O,h8,hv,hl];rfl) U O hl hvn Z
def wD(x:Str):Dt:=if(vO x).isSome then .int (vl x)else .str x
theorem Bt(x:Str):srt x<128:=by cases g0 x<;>(rename_i h _ _ _ _ _;rw[h];decide)
theorem mv(a b:Nat):decide ((⟨#[a]⟩:Str)=⟨#[b]⟩)=decide (a=b):=by rw[qe1,decide_eq_true_eq,decide_eq_true_eq];simp
theorem yS:qa0 "v"=⟨#[118]⟩:=χ
theorem yT:qa0 "w"=⟨#[119]⟩:=χ
theorem pO:qa0 "n"=⟨#[110]⟩:=χ
theorem Bu{x:Str}(h:W x):q35 [.str x,.str ⟨#[srt x]⟩]=ς (.f (wD x)):=by
 unfold q35
 have e:fOr (tB2 (gEq ξ) (vB 1) (kD (.str "v"))) (tB2 (gEq ξ) (vB 1) (kD (.str "w"))) [ς (.f (.str x)),ς (.f (.str ⟨#[srt x]⟩))]=ς (vO x).isSome:=by refine(orE (a:=decide (srt x=118)) (b:=decide (srt x=119)) (ap (x:=.str ⟨#[srt x]⟩) (y:=.str "v") rfl rfl (by rw[aV,yS,mv])) fun _=>ap (x:=.str ⟨#[srt x]⟩) (y:=.str "w") rfl rfl (by rw[aV,yT,mv])).trans ?_;cases g0 x<;>(rename_i h1 _ _ _ h2 _;rw[h1,h2];rfl)
 unfold wD;cases O:(vO x).isSome with
 |true=>exact dRt (bD (e.trans (by rw[O])) (aG ((aw (x:=.str x) rfl).trans (pL (Bs O).1))))
 |false=>exact dRt ((bc (e.trans (by rw[O]))).trans rfl)
theorem mw:∀{ws:η Str},(∀x∈ws,W x)->bJ (gK 2 (aJ (ak 0) (aJ (ak 1) cE))) bQ q36 [ψ,ψ] (gx (ws.map .str) (sgD (ws.map srt)))=ς (ws.map wD)
 |[],_=>rfl
 |x::ws,h=>by
  have e:q36 [ς (.f (.str x)),ς (.f (.str ⟨#[srt x]⟩))]=ς (wD x):=ah (t:=.f (wD x)) ((bH (x:=.str x) (y:=.str ⟨#[srt x]⟩) rfl rfl).trans (Bu (h x qa8)));have Z:=mw fun y U=>h y (qa3 _ U)
  show((ς [ς (T.f (.str x)),ς (T.f (.str ⟨#[srt x]⟩))]:ζ De).bind fun O=>(bQ O).bind fun b=>if b then(q36 O).bind fun y=>(bJ (gK 2 (aJ (ak 0) (aJ (ak 1) cE))) bQ q36 [ψ,ψ] (gx (ws.map .str) (sgD (ws.map srt)))).bind fun ys=>ς (y::ys)else _)=_;simp only[qa1,bQ,if_true,e,Z];rfl
def sts(ws:η Str):Str:=⟨(ws.map srt).toArray⟩
theorem dF(ws:η Str):(sts ws).cps.toList=ws.map srt:=by simp[sts]
theorem lv(ws:η Str):(sts ws).length=ws.length:=by rw[bm,dF,qa5]
theorem Bv(ws:η Str):A0 [.e (ws.map .str),.str (sts ws)]=ς (gx (ws.map .str) (sgD (ws.map srt))):=by
 show(if(sts ws).cps.all (· < 128)then ς (gx (ws.map Dt.str) (chs (sts ws)))else ψ)=_;rw[if_pos]
 .unfold chs;rw[dF];rfl
 .rw[Array.all_eq_true'];intro c O;have:c∈(sts ws).cps.toList:=qt3.mpr O;rw[dF]at this;obtain⟨x,_,rfl⟩:=qc9.mp this;exact decide_eq_true (Bt x)
theorem rj{d:Nat}{l:η Nat}(h:c∉l):l.map (fun e=>if e=c then d else e)=l:=by
 have:l.map (fun e=>if e=c then d else e)=l.map id:=qp8 fun e O=>if_neg fun z:e=c=>h (z▸O)
 rw[this,List.map_id]
theorem rl(c d:Nat):∀{l:η Str},(∀x∈l,c∉x.cps.toList)->(qe0 ⟨#[d]⟩ l).cps.toList=(qe0 ⟨#[c]⟩ l).cps.toList.map fun e=>if e=c then d else e
 |[],_=>rfl
 |[x],h=>(rj (h x Ξ)).symm
 |x::y::r,h=>by
  have h2:=rl c d (l:=y::r) fun z O=>h z (qa3 _ O)
  rw[da,da,qd1,qb3,if_pos rfl,h2,rj (h x Ξ)]
theorem n6(x:Str)(c d:Nat):(Txt.replace x ⟨#[c]⟩ ⟨#[d]⟩).cps.toList=x.cps.toList.map fun e=>if e=c then d else e:=by rw[StrLaws.replace_one,rl c d (StrLaws.split_free _ c),qq9]
theorem Bw(a n:Nat)(u:ζ Int):qg1 (ς (a:Int)) u 1 n=qg1 (ς ((min a n:Nat):Int)) u 1 n:=by
 have h1:¬ ((a:Int)<0):=by lia
 have h2:¬ (((min a n:Nat):Int)<0):=by lia
 have e:max (0:Int) (min (a:Int) n)=max 0 (min ((min a n:Nat):Int) n):=by lia
 simp only[qg1,h1,h2,if_false,e,show((1:Int) > 0)=True from by simp,if_true]
theorem uK(a n:Nat)(u:ζ Int):qg1 u (ς (a:Int)) 1 n=qg1 u (ς ((min a n:Nat):Int)) 1 n:=by
 have h1:¬ ((a:Int)<0):=by lia
 have h2:¬ (((min a n:Nat):Int)<0):=by lia
 have e:max (0:Int) (min (a:Int) n)=max 0 (min ((min a n:Nat):Int) n):=by lia
 simp only[qg1,h1,h2,if_false,e,show((1:Int) > 0)=True from by simp,if_true]
theorem rn(x:Str)(a b:Nat)(O:a<=b):(Txt.slice x (ς (a:Int)) (ς (b:Int))).cps.toList=(x.cps.toList.drop a).take (b-a):=by
 have e:Txt.slice x (ς (a:Int)) (ς (b:Int))=StrLaws.sliceText x (ς ((min a x.length:Nat):Int)) (ς ((min b x.length:Nat):Int)):=by unfold Txt.slice StrLaws.sliceText;rw[Bw,uK]
 rw[e,StrLaws.sliceText_nat x Θ Θ];simp only;have U:=bm x;by_cases h:a<=x.length
 .rw[qr1 h];by_cases h2:b<=x.length
  .rw[qr1 h2]
  .rw[qp3 Θ,qg8 (by rw[qi2];lia),qg8 (by rw[qi2];lia)]
 .rw[qp3 Θ,qp3 Θ,qr3 Θ,qr3 Θ];simp
theorem Bx(x:Str)(a:Nat):(Txt.slice x (ς (a:Int)) ψ).cps.toList=x.cps.toList.drop a:=by
 have e:Txt.slice x (ς (a:Int)) ψ=Txt.slice x (ς (a:Int)) (ς ((max a x.length:Nat):Int)):=by unfold Txt.slice;rw[StrLaws.sliceIdx_none_hi,uK (max a x.length),qp3 Θ]
 rw[e,rn x a _ Θ,qg8 (by rw[qi2,<- bm];lia)]
def loC(c:Nat):Nat:=if(if c=118 then 110 else c)=119 then 110 else if c=118 then 110 else c
theorem yU(h:x.length<=1000)(a b:Str)(O:b.length=1):fE (.str x) [.str a,.str b]=ς (.f (.str (Txt.replace x a b))):=if_pos (by rw[O];lia)
theorem jQ{t:Str}{l:η Nat}(h:s.cps.toList=l):decide (s=t)=decide (l=t.cps.toList):=by rw[qe1,decide_eq_true_eq,decide_eq_true_eq,<- h];exact⟨fun z=>by rw[z],fun z=>iV z⟩
def dR(ws:η Str)(Z:Str)(x4 x5 O U:ζ T):De:=[ς (.f (.e (ws.map .str))),ς (.f (.str (sts ws))),ς (.f (.e (ws.map wD))),ς (.f (.str Z)),x4,x5,O,U]
theorem rp{g:De->ζ Dt}(U:x.length<=1000)(h:f δ=ς (.str x))(O:g δ=ς (.int i))(hi:x.cps.toList[i]?=ς c):toD (d2 au f g) δ=ς (.str ⟨#[c]⟩):=ah (t:=.f (.str ⟨#[c]⟩)) ((aM h O).trans (by rw[uv (b8 Θ),eS,hi];rfl))
def mN(k c:Str)(r:η Str):Dt:=
 if srt k=110/\(c::r).map (fun x=>loC (srt x))=[110]then .t [.str "copy",.str k,wD c]
 else if srt k=110/\((c::r).map (fun x=>loC (srt x))=[110,115,110]∨(c::r).map (fun x=>loC (srt x))=[110,61,110])then(match r with|[d,g]=>.t [.str "op",.str k,.str d,wD c,wD g]|_=>.non)
 else .non
def Et(w:Nat):η Nat:=if w=110 then [110]else if w=46 then [110,118,119]else [110,118,108]
def fit(w s:Nat):Bool:=decide (s∈Et w)
def hV:η Nat->η Nat->Bool
 |w::ws,s::ss=>fit w s&&hV ws ss
 |_,_=>θ
def jR(w:Nat):Str:=if w=110 then "n" else if w=46 then "nvw" else "nvl"
theorem wo(w:Nat)(O:w∈([110,46,108]:η Nat))(f:De->ζ Dt)(δ:De)(h:f δ=ς (.str ⟨#[w]⟩)):toD (d2 au (toD (jL (b9 (kD (.str "n")) (kD (.str "n")) (b9 (kD (.str ".")) (kD (.str "nvw")) (b9 (kD (.str "l")) (kD (.str "nvl")) nI))))) f) δ=ς (.str (jR w))/\∀s,inS (jR w) ⟨#[s]⟩=fit w s:=by
 have e:toD (jL (b9 (kD (.str "n")) (kD (.str "n")) (b9 (kD (.str ".")) (kD (.str "nvw")) (b9 (kD (.str "l")) (kD (.str "nvl")) nI)))) δ=ς (.dct [.inr "n",.inr ".",.inr "l"] [.str "n",.str "nvw",.str "nvl"]):=by refine ah (t:=.dct [(.inr "n",.str "n"),(.inr ".",.str "nvw"),(.inr "l",.str "nvl")]) ?_;unfold jL;rw[show b9 (kD (.str "n")) (kD (.str "n")) (b9 (kD (.str ".")) (kD (.str "nvw")) (b9 (kD (.str "l")) (kD (.str "nvl")) nI)) δ=ς [(.inr "n",.str "n"),(.inr ".",.str "nvw"),(.inr "l",.str "nvl")]from rfl,qa1,if_pos χ]
 have U:b7 ([.inr "n",.inr ".",.inr "l"]:η Key) [.str "n",.str "nvw",.str "nvl"] (.inr ⟨#[w]⟩)=ς (.str (jR w))/\(jR w).cps.toList=Et w:=by
  simp only[qa9,qb8,or_false]at O;rcases O with rfl|rfl|rfl
  .exact⟨by rfl,χ⟩
  .exact⟨by rfl,χ⟩
  .exact⟨by rfl,χ⟩
 constructor
 .refine ah (t:=.f (.str (jR w))) ((aM e h).trans ?_);rw[yq];show(ς (qm8 ⟨#[w]⟩:Key)).bind _=_;rw[qa1,U.1];rfl
 .intro s;rw[fX,U.2];rfl
theorem rq(i m:Nat):bB i (m+1)=.int i::bB ((i+1:Nat):Int) m:=by
 unfold bB;rw[qz8,qb3,qj6];have e:(i:Int)+((0:Nat):Int)=i:=by simp
 rw[e];refine congrArg _ (qp8 fun a _=>?_);simp only[Function.comp_apply];congr 1;lia
variable{st wt:Str}
theorem yV (s0 s2 U O x7:ζ T) (h1:st.length<=1000) (h2:wt.length<=1000) {i w s:Nat} (hw:wt.cps.toList[i]?=ς w) (hs:st.cps.toList[i+1]?=ς s) (Z:w∈([110,46,108]:η Nat)) :
  q27 [s0,ς (.f (.str st)),s2,U,O,ς (.f (.str wt)),ς (.f (.int i)),x7]=if fit w s then ς (.nx [s0,ς (.f (.str st)),s2,U,O,ς (.f (.str wt)),ς (.f (.int i)),ς (.f (.str (jR w)))])else ς (.rt (.f .non)):=by
 unfold q27;obtain⟨d1,d2'⟩:=wo w Z (toD (d2 au (vB 5) (vB 6))) [s0,ς (.f (.str st)),s2,U,O,ς (.f (.str wt)),ς (.f (.int i)),x7] (rp h2 rfl rfl hw);refine cj d1 ?_;dsimp only[qe3];have e:=ap (g:=bv θ) (b:=!fit w s) (rp (f:=vB 1) (g:=toD (d2 aB (vB 6) (kD (.int 1)))) (δ:=[s0,ς (.f (.str st)),s2,U,O,ς (.f (.str wt)),ς (.f (.int i)),ς (.f (.str (jR w)))]) (i:=i+1) h1 rfl (by rw[qr0];rfl) hs) (show vB 7 _=ς (.str (jR w))from rfl) (by rw[uw,d2'];rfl);cases hf:fit w s with
 |true=>exact(iK (e.trans (by rw[hf];rfl))).trans rfl
 |false=>exact(gh (e.trans (by rw[hf];rfl))).trans rfl
theorem rA (s0 s2 Z U:ζ T) (h1:st.length<=1000) (h2:wt.length<=1000) (hl:st.length=wt.length+1) (h3:∀ c∈wt.cps.toList,c∈([110,46,108]:η Nat)):∀ (m i:Nat) (x6 O:ζ T),i+m=wt.length->∃ y6 y7,
  cW (ak 6) q27 (bB i m) [s0,ς (.f (.str st)),s2,Z,U,ς (.f (.str wt)),x6,O]=if hV (wt.cps.toList.drop i) (st.cps.toList.drop (i+1))then ς (.nx [s0,ς (.f (.str st)),s2,Z,U,ς (.f (.str wt)),y6,y7])else ς (.rt (.f .non))
 |0,i,x6,O,e=>by refine⟨x6,O,?_⟩;rw[show wt.cps.toList.drop i=[]from qr3 (by rw[<- bm];lia)];rfl
 |m+1,i,x6,O,e=>by
  have hi:i<wt.cps.toList.length:=by rw[<- bm];lia
  have hj:i+1<st.cps.toList.length:=by rw[<- bm];lia
  have hw:wt.cps.toList[i]?=ς wt.cps.toList[i]:=gQ hi;have hs:st.cps.toList[i+1]?=ς st.cps.toList[i+1]:=gQ hj;have t:=yV s0 s2 Z U O h1 h2 hw hs (h3 _ (qm5 hi));rw[qo8 hi,qo8 hj,rq];obtain⟨y6,y7,ih⟩:=rA s0 s2 Z U h1 h2 hl h3 m (i+1) (ς (.f (.int i))) (ς (.f (.str (jR wt.cps.toList[i])))) Θ;cases hf:fit wt.cps.toList[i] st.cps.toList[i+1]with
  |true=>
   rw[hf]at t;refine⟨y6,y7,?_⟩;show _=if(fit wt.cps.toList[i] st.cps.toList[i+1]&&hV _ _)then _ else _
   rw[hf,qk9,<- ih];exact bx rfl t
  |false=>
   rw[hf]at t;refine⟨ψ,ψ,?_⟩;show _=if(fit wt.cps.toList[i] st.cps.toList[i+1]&&hV _ _)then _ else _
   rw[hf,zb8];show((ς [s0,ς (.f (.str st)),s2,Z,U,ς (.f (.str wt)),ς (.f (.int i)),O]:ζ De).bind fun δ1=>(q27 δ1).bind _)=_;rw[qa1,t];rfl
def FT:η (Str×Str):=[("load","nn"),("store","n."),("take","nn."),("lay","n.."),("hear","n"),("say","."),("end","."),("go","l")]
def wtS(k:Str):Str:=(FT.lookup k).getD (qa0 "")++(if k=qa0 "if" then qa0 ".l" else ql5)
def NT:η (Str×η Nat):=[("load",[110,110]),("store",[110,46]),("take",[110,110,46]),("lay",[110,46,46]),("hear",[110]),("say",[46]),("end",[46]),("go",[108]),("if",[46,108])]
theorem yW:∀p∈NT,(wtS p.1).cps.toList=p.2/\p.2≠[]/\(wtS p.1).length<=3/\∀c∈p.2,c∈([110,46,108]:η Nat):=χ
theorem uL{k:Str}:∀{l:η (Str×Str)},(∀p∈l,p.1≠k)->l.lookup k=ψ
 |[],_=>rfl
 |(x,y)::l,h=>by
  have h1:(k==x)=ξ:=by simpa using (h (x,y) qa8).symm
  simp only[qf9,h1];exact uL fun p O=>h p (qa3 _ O)
theorem tH(k:Str):((∀p∈NT,p.1≠k)/\wtS k=qa0 "")∨∃p∈NT,p.1=k:=by
 by_cases h:∃p∈NT,p.1=k
 .exact .inr h
 .have O:∀p∈NT,p.1≠k:=fun p U z=>h ⟨p,U,z⟩
  refine .inl ⟨O,?_⟩;have ft:∀q∈FT,∃p∈NT,p.1=q.1:=by decide +kernel
  have e1:FT.lookup k=ψ:=uL fun q Z=>by obtain⟨p,U,e⟩:=ft q Z;rw[<- e];exact O p U
  have e2:k≠qa0 "if":=fun z=>O (qa0 "if",[46,108]) (by simp[NT]) z.symm
  unfold wtS;rw[e1,if_neg e2];decide +kernel
def fZ(k:Str)(r:η Str):Dt:=if wtS k=qa0 ""∨r.length≠(wtS k).length then .non else if hV (wtS k).cps.toList (r.map srt)then(if(wtS k).cps.toList.getLast?=ς 108 then .t (.str k::(r.dropLast.map wD++[.str (r.getLastD ql5)]))else .t (.str k::r.map wD))else .non
theorem uM(k:Str):∀l:η (Str×Str),b7 (l.map fun p=>(.inr p.1:Key)) (l.map fun p=>Dt.str p.2) (.inr k)=(l.lookup k).map .str
 |[]=>rfl
 |(x,w)::l=>by
  have O:=uM k l;simp only[qb3,qf9];unfold b7;by_cases h:k=x
  .subst h;simp
  .have h1:(k==x)=ξ:=by simpa using h
   have h2:¬ ((.inr x:Key)=.inr k):=fun z=>h (qr5 z).symm
   rw[h1];simp only[h2,if_false];exact O
theorem pP(d:Dt)(l m:η Dt)(h:l.length+m.length<=900):nK (.t (d::l)) (.t m)=ς (.f (.t (d::l++m))):=by
 cases m with
 |nil=>rw[qd2];rfl
 |cons e m=>exact ym ⟨b8 (by simp at h ⊢;lia),Ξ,Ξ⟩
theorem yX(d z:Dt)(m:η Dt):fg (d::(m++[z])) (ς 1) (ς (-1))=m:=by
 have e1:HT.sIx (d::(m++[z])).length 0 (ς (1:Int))=1:=by rw[show(1:Int)=((1:Nat):Int)from rfl,HT.FX];simp
 have e2:HT.sIx (d::(m++[z])).length (d::(m++[z])).length (ς (-1:Int))=m.length+1:=by show(if(-1:Int)<0 then((-1:Int)+((d::(m++[z])).length:Int)).toNat else min (-1:Int).toNat (d::(m++[z])).length)=_;rw[if_pos Ω];simp only[qc4,qd6,qj9];lia
 unfold fg;rw[e1,e2];simp
theorem uN{d:Dt}:atI (l++[d]) (-1)=ς d:=by
 cases l with
 |nil=>exact pF
 |cons x l=>rw[qp2,pF];simp
theorem yY{l:η Nat}{d:Nat}:atI (l++[d]) (-1)=ς d:=by
 cases l with
 |nil=>exact pF
 |cons x l=>rw[qp2,pF];simp
theorem lx{α:Type}{l:η α}(h:l≠[]):∃m z,l=m++[z]:=⟨l.dropLast,l.getLast h,(List.dropLast_concat_getLast h).symm⟩
variable{ds:η Dt}
theorem f6{fs:De->ζ (η Dt)}(h:fs δ=ς ds)(O:ds.length<=1000):toD (cT fs) δ=ς (.t ds):=ah (t:=.f (.t ds)) (lq h O)
theorem Eu{ks:η Key}{k:Str}{x:Dt}:AU (.dct ks l) (.str k) x=ς (.f ((b7 ks l (.inr k)).getD x)):=by unfold AU;rfl
theorem yZ{g:De->ζ (η (Key×Dt))}{l:η (Key×Dt)}(h:g δ=ς l)(O:l.length<=15/\(l.map (·.1)).Nodup):jL g δ=ς (.dct l):=by unfold jL;rw[h,qa1,if_pos O]
def mO(k:Str)(r:η Str):Dt:=match r with
 |e::c::r'=>if srt e=61 then mN k c r' else fZ k (e::c::r')
 |r=>fZ k r
theorem mx(k:Str)(r:η Str)(U:r.length<=900)(δ:De)(h:vB 1 δ=ς (.str (sts (k::r)))):toD (vSl (vB 1) (a0 (kD (.int 1))) (a0 (kD (.int 2)))) δ=ς (.str (Txt.slice (sts (k::r)) (ς ((1:Nat):Int)) (ς ((2:Nat):Int))))/\decide (Txt.slice (sts (k::r)) (ς ((1:Nat):Int)) (ς ((2:Nat):Int))=qa0 "=")=decide ((r.map srt).take 1=[61])/\toD (ag br (aa (vB 1) af)) δ=ς (.int ((r.length+1:Nat):Int)):=by
 have O:(sts (k::r)).length=r.length+1:=by rw[lv];rfl
 refine⟨ah (t:=.f (.str _)) ((fN h (lo:=ς ((1:Nat):Int)) (hi:=ς ((2:Nat):Int)) rfl rfl).trans (if_pos (b8 Θ))),?_,ah (t:=.f (.int _)) ((aw h).trans (by rw[ku (b8 Θ),O]))⟩;rw[jQ (rn _ 1 2 Ω),dF,show(qa0 "=").cps.toList=[61]by decide +kernel];rfl
variable{z:Dt}
theorem rB{g:Dt->η Dt->ζ T}{fo h:De->ζ Dt}{x y:Dt}(h1:fo δ=ς x)(h2:f δ=ς y)(h3:h δ=ς z):bR g fo (aa f (aa h af)) δ=g x [y,z]:=by unfold bR;rw[h1,qa1,aq h2 (aq h3 (ds:=[]) rfl)];rfl
variable{r:η Str}
theorem FP(k:Str)(hW:∀x∈k::r,W x)(hl:r.length<=900):q37 [.e ((k::r).map .str),.str (sts (k::r))]=ς (.f (mO k r)):=by
 unfold q37;have hS:(sts (k::r)).length=r.length+1:=by rw[lv];rfl
 refine dRt (cj (d:=.e ((k::r).map wD)) (ah (t:=.e ((k::r).map wD)) (cD (ds:=gx ((k::r).map .str) (sgD ((k::r).map srt))) ?_ (mw hW) (by rw[qa5];simp;lia))) ?_)
 .exact Bv (k::r)
 obtain⟨U,e1,e2⟩:∃U:Str,toD (bR fE (toD (bR fE (vB 1) (aa (kD (.str "v")) (aa (kD (.str "n")) af)))) (aa (kD (.str "w")) (aa (kD (.str "n")) af))) (List.set ([.e ((k::r).map .str),.str (sts (k::r))].map (fun d=>ς (T.f d))++qb2 (8-[Dt.e ((k::r).map .str),.str (sts (k::r))].length) ψ) 2 (ς (.f (.e ((k::r).map wD)))))=ς (.str U)/\U.cps.toList=(k::r).map fun x=>loC (srt x):=by
  have c1:(Txt.replace (sts (k::r)) ⟨#[118]⟩ ⟨#[110]⟩).cps.toList=((k::r).map srt).map fun e=>if e=118 then 110 else e:=by rw[n6,dF]
  refine⟨Txt.replace (Txt.replace (sts (k::r)) ⟨#[118]⟩ ⟨#[110]⟩) ⟨#[119]⟩ ⟨#[110]⟩,ah (t:=.f (.str _)) ?_,?_⟩
  .refine(rB (ah (t:=.f (.str (Txt.replace (sts (k::r)) ⟨#[118]⟩ ⟨#[110]⟩))) ((rB (x:=.str (sts (k::r))) rfl rfl rfl).trans (by rw[yS,pO,yU Θ _ _ rfl]))) rfl rfl).trans ?_;rw[yT,pO,yU (by rw[bm,c1,qa5,qa5];simp;lia) _ _ rfl]
  .rw[n6,c1,List.map_map,List.map_map];rfl
 refine cj e1 ?_;show ao _ _ (dR (k::r) U ψ ψ ψ ψ)=_;obtain⟨c1,c2,c3⟩:=mx k r hl (dR (k::r) U ψ ψ ψ ψ) rfl;have t:=b3 (f:=tB2 (gEq ξ) (toD (vSl (vB 1) (a0 (kD (.int 1))) (a0 (kD (.int 2))))) (kD (.str "="))) (g:=tB2 (bG fun i j=>decide (j<i)) (toD (ag br (aa (vB 1) af))) (kD (.int 2))) (ap (g:=gEq ξ) (y:=.str "=") c1 rfl (by rw[aV,c2])) fun _=>ap (y:=.int 2) c3 rfl dg
 by_cases Z:∃e c r',r=e::c::r'/\srt e=61
 .obtain⟨e,c,r',rfl,h⟩:=Z;rw[show mO k (e::c::r')=mN k c r' from if_pos h];refine dw ((gh (t.trans (by simp[h];lia))).trans ?_);have hz:=e2;simp only[List.length_cons]at hl;have hlz:U.length<=1000:=by rw[bm,hz];simp;lia
  have i0:tB2 (gEq ξ) (toD (d2 au (vB 1) (kD (.int 0)))) (kD (.str "n")) (dR (k::e::c::r') U ψ ψ ψ ψ)=ς (decide (srt k=110)):=ap (y:=.str "n") (rp (x:=sts (k::e::c::r')) (i:=0) (c:=srt k) (by rw[lv];simp;lia) rfl rfl (by rw[dF];rfl)) rfl (by rw[aV,pO,mv])
  have sl:toD (vSl (vB 3) (a0 (kD (.int 2))) cH) (dR (k::e::c::r') U ψ ψ ψ ψ)=ς (.str (Txt.slice U (ς ((2:Nat):Int)) ψ)):=ah (t:=.f (.str _)) ((fN (x:=.str U) (lo:=ς ((2:Nat):Int)) (hi:=ψ) rfl rfl rfl).trans (if_pos (b8 Θ)));have cs:(Txt.slice U (ς ((2:Nat):Int)) ψ).cps.toList=(c::r').map fun x=>loC (srt x):=by rw[Bx,hz];rfl
  have t1:=b3 i0 fun _=>ap (g:=gEq ξ) (y:=.str "n") sl (show kD (.str "n") _=_ from rfl) (by rw[aV,jQ cs])
  have t2:=b3 i0 fun _=>ap (g:=bv ξ) (y:=.t [.str "nsn",.str "n=n"]) sl (show toD (cT (aa (kD (.str "nsn")) (aa (kD (.str "n=n")) af))) _=_ from rfl) (b:=decide ((c::r').map (fun x=>loC (srt x))=[110,115,110])||decide ((c::r').map (fun x=>loC (srt x))=[110,61,110])) (by rw[iJ (by rfl)];simp only[List.any_cons,List.any_nil,jd,qh0,if_false,qc6];rw[show decide (qa0 "nsn"=Txt.slice U (ς ((2:Nat):Int)) ψ)=decide (Txt.slice U (ς ((2:Nat):Int)) ψ=qa0 "nsn")from decide_eq_decide.mpr eq_comm,show decide (qa0 "n=n"=Txt.slice U (ς ((2:Nat):Int)) ψ)=decide (Txt.slice U (ς ((2:Nat):Int)) ψ=qa0 "n=n")from decide_eq_decide.mpr eq_comm,jQ cs,jQ cs,show(qa0 "nsn").cps.toList=[110,115,110]by decide +kernel,show(qa0 "n=n").cps.toList=[110,61,110]by decide +kernel])
  rw[show(qa0 "n").cps.toList=[110]by decide +kernel]at t1;unfold mN;by_cases h1:srt k=110/\(c::r').map (fun x=>loC (srt x))=[110]
  .rw[if_pos h1];exact bD (t1.trans (by rw[decide_eq_true h1.1,decide_eq_true h1.2];rfl)) (aG (lq (aq rfl (aq (cM (i:=0) (l:=(k::e::c::r').map .str) rfl rfl) (aq (cM (i:=2) (l:=(k::e::c::r').map wD) rfl rfl) rfl))) Ξ))
  rw[if_neg h1]
  refine(bc (t1.trans (by congr 1;rw[Bool.and_eq_false_iff,decide_eq_false_iff_not,decide_eq_false_iff_not];exact(Decidable.not_and_iff_or_not).mp h1))).trans ?_
  by_cases h2:srt k=110/\((c::r').map (fun x=>loC (srt x))=[110,115,110]∨(c::r').map (fun x=>loC (srt x))=[110,61,110])
  .rw[if_pos h2]
   have hr:∃d g,r'=[d,g]:=by
    have:r'.length=2:=by rcases h2.2 with z|z<;>(have:=congrArg List.length z;simp at this;lia)
    match r',this with
    |[d,g],_=>exact⟨d,g,rfl⟩
   obtain⟨d,g,rfl⟩:=hr;refine bD (t2.trans ?_) (aG (lq (aq rfl (aq (cM (i:=0) (l:=[k,e,c,d,g].map .str) rfl rfl) (aq (cM (i:=3) (l:=[k,e,c,d,g].map .str) rfl rfl) (aq (cM (i:=2) (l:=[k,e,c,d,g].map wD) rfl rfl) (aq (cM (i:=4) (l:=[k,e,c,d,g].map wD) rfl rfl) rfl))))) Ξ));rw[decide_eq_true h2.1];congr 1;rw[qk9,qe2,decide_eq_true_eq,decide_eq_true_eq];exact h2.2
  .rw[if_neg h2];refine(bc (t2.trans ?_)).trans rfl;congr 1;rw[<- Bool.not_eq_true,qb0,qe2,decide_eq_true_eq,decide_eq_true_eq,decide_eq_true_eq];exact h2
 .have hj:mO k r=fZ k r:=by
   match r,Z with
   |[],_=>rfl
   |[_],_=>rfl
   |e::c::r',Z=>exact if_neg fun z=>Z ⟨e,c,r',rfl,z⟩
  rw[hj];refine(bc (t.trans ?_)).trans ?_
  .match r,Z with
   |[],_=>rfl
   |[_],_=>simp
   |e::c::r',Z=>simp[show srt e≠61 from fun z=>Z ⟨e,c,r',rfl,z⟩]
  have hr:=hl;refine cj (ah (t:=.dct (FT.map fun p=>(.inr p.1,.str p.2))) (yZ rfl χ)) ?_;show ao _ _ (dR (k::r) U (ς (.f (.dct (FT.map fun p=>.inr p.1) (FT.map fun p=>.str p.2)))) ψ ψ ψ)=_;generalize hx4:ς (T.f (.dct (FT.map fun p=>.inr p.1) (FT.map fun p=>.str p.2)))=x4;have ek:∀x5 x6 x7,toD (d2 au (vB 0) (kD (.int 0))) (dR (k::r) U x4 x5 x6 x7)=ς (.str k):=fun x5 x6 x7=>cM (i:=0) (l:=(k::r).map .str) rfl rfl
  have hwl:(wtS k).length<=3:=by
   rcases tH k with ⟨_,e⟩|⟨p,hp,rfl⟩
   .rw[e];decide +kernel
   .exact(yW p hp).2.2.1
  have hwc:∀c∈(wtS k).cps.toList,c∈([110,46,108]:List Nat):=by
   rcases tH k with ⟨_,e⟩|⟨p,hp,rfl⟩
   .rw[e];decide +kernel
   .rw[(yW p hp).1];exact(yW p hp).2.2.2
  have ew:toD (d2 aB (toD (vT (vB 4) (toD (d2 au (vB 0) (kD (.int 0)))) (kD (.str "")))) (toD (d2 qJ (kD (.str ".l")) (toD (ag fR (aa (toD (d2 (gEq ξ) (toD (d2 au (vB 0) (kD (.int 0)))) (kD (.str "if")))) af)))))) (dR (k::r) U x4 ψ ψ ψ)=ς (.str (wtS k)):=by
   have e1:toD (vT (vB 4) (toD (d2 au (vB 0) (kD (.int 0)))) (kD (.str ""))) (dR (k::r) U x4 ψ ψ ψ)=ς (.str ((FT.lookup k).getD (qa0 ""))):=by refine ah (t:=.f (.str _)) ?_;unfold vT;rw[show vB 4 (dR (k::r) U x4 ψ ψ ψ)=ς (.dct (FT.map fun p=>.inr p.1) (FT.map fun p=>.str p.2))by rw[<- hx4];rfl,qa1,ek,qa1,show kD (.str "") (dR (k::r) U x4 ψ ψ ψ)=ς (.str "")from rfl,qa1];rw[Eu,uM];cases FT.lookup k<;>rfl
   have e2:toD (d2 qJ (kD (.str ".l")) (toD (ag fR (aa (toD (d2 (gEq ξ) (toD (d2 au (vB 0) (kD (.int 0)))) (kD (.str "if")))) af)))) (dR (k::r) U x4 ψ ψ ψ)=ς (.str (if k=qa0 "if" then qa0 ".l" else ql5)):=by
    refine ah (t:=.f (.str _)) ((aM (x:=.str ".l") (y:=.int (if decide (k=qa0 "if")then 1 else 0)) rfl (ah (t:=.f (.int _)) ((aw (ah (t:=.f (.bl (decide (k=qa0 "if")))) ((aM (ek _ _ _) (y:=.str "if") rfl).trans aV))).trans rfl))).trans ?_);by_cases h:k=qa0 "if"
    .rw[decide_eq_true h,if_pos h];rfl
    .rw[decide_eq_false h,if_neg h];rfl
   refine ah (t:=.f (.str (wtS k))) ((aM e1 e2).trans (sY (b8 ?_)));have:=hwl;unfold wtS at this;rw[qy1]at this;lia
  refine cj ew ?_;show ao _ _ (dR (k::r) U x4 (ς (.f (.str (wtS k)))) ψ ψ)=_;have lw:∀x6 x7,toD (ag br (aa (vB 5) af)) (dR (k::r) U x4 (ς (.f (.str (wtS k)))) x6 x7)=ς (.int (wtS k).length):=fun x6 x7=>ah (t:=.f (.int _)) ((aw (x:=.str (wtS k)) rfl).trans (ku (b8 Θ)))
  have t1:fOr (tB2 (gEq ξ) (vB 5) (kD (.str ""))) (tB2 (gEq θ) (toD (ag br (aa (vB 1) af))) (toD (d2 aB (toD (ag br (aa (vB 5) af))) (kD (.int 1))))) (dR (k::r) U x4 (ς (.f (.str (wtS k)))) ψ ψ)=ς (decide (wtS k=qa0 ""∨r.length≠(wtS k).length)):=by
   refine(orE (a:=decide (wtS k=qa0 "")) (b:=!decide (((r.length+1:Nat):Int)=((wtS k).length:Int)+1)) (ap (x:=.str (wtS k)) (y:=.str "") rfl rfl aV) fun _=>ap (x:=.int ((r.length+1:Nat):Int)) (ah (t:=.f (.int _)) ((aw (x:=.str (sts (k::r))) rfl).trans (by rw[ku (b8 Θ),hS]))) (je (lw _ _) rfl) pA).trans ?_;congr 1;rw[qe1,qe2,decide_eq_true_eq,decide_eq_true_eq,qj8,decide_eq_false_iff_not];constructor
   .rintro(h|h)
    .exact .inl h
    .exact .inr Θ
   .rintro(h|h)
    .exact .inl h
    .exact .inr Θ
  unfold fZ;by_cases h1:wtS k=qa0 ""∨r.length≠(wtS k).length
  .rw[if_pos h1];exact bD (t1.trans (by rw[decide_eq_true h1])) rfl
  rw[if_neg h1];refine(bc (t1.trans (by rw[decide_eq_false h1]))).trans ?_;have hne:wtS k≠qa0 "":=fun z=>h1 (.inl z)
  have hrl:r.length=(wtS k).length:=qw6 fun z=>h1 (.inr z)
  have hcn:(wtS k).cps.toList≠[]:=fun z=>hne (iV (by rw[z];decide +kernel))
  obtain⟨y6,y7,el⟩:=rA (ς (.f (.e ((k::r).map .str)))) (ς (.f (.e ((k::r).map wD)))) (ς (.f (.str U))) x4 (st:=sts (k::r)) (wt:=wtS k) Θ Θ Θ hwc (wtS k).length 0 ψ ψ Θ;rw[List.drop_zero,dF,show(List.map srt (k::r)).drop (0+1)=r.map srt from rfl]at el;have ef:dP (dj iu (aa (toD (ag br (aa (vB 5) af))) af)) (ak 6) q27 (dR (k::r) U x4 (ς (.f (.str (wtS k)))) ψ ψ)=_:=dN (kF (lw _ _) Θ) el;cases hf:hV (wtS k).cps.toList (r.map srt)with
  |false=>rw[hf]at ef;exact dw ef
  |true=>
  rw[hf]at ef;rw[if_pos rfl];refine(bn ef).trans ?_;show ao _ _ (dR (k::r) U x4 (ς (.f (.str (wtS k)))) y6 y7)=_;obtain⟨wm,wz,ewz⟩:=lx hcn;have hrn:r≠[]:=fun z=>by rw[z,bm]at hrl;exact hcn (List.eq_nil_of_length_eq_zero hrl.symm)
  obtain⟨rm,rz,rfl⟩:=lx hrn
  have t2:tB2 (gEq ξ) (toD (d2 au (vB 5) (toD (hJ (kD (.int 1)))))) (kD (.str "l")) (dR (k::(rm++[rz])) U x4 (ς (.f (.str (wtS k)))) y6 y7)=ς (decide (wz=108)):=ap (x:=.str ⟨#[wz]⟩) (y:=.str "l") (ah (t:=.f (.str ⟨#[wz]⟩)) ((aM (x:=.str (wtS k)) (y:=.int (-1)) rfl rfl).trans (by rw[uv (b8 Θ),ewz,yY];rfl))) rfl (by rw[aV,show qa0 "l"=⟨#[108]⟩by decide +kernel,mv])
  have eg:(wtS k).cps.toList.getLast?=ς wz:=by rw[ewz,List.getLast?_append];rfl
  rw[eg];have ehd:toD (cT (aa (toD (d2 au (vB 0) (kD (.int 0)))) af)) (dR (k::(rm++[rz])) U x4 (ς (.f (.str (wtS k)))) y6 y7)=ς (.t [.str k]):=f6 (aq (ek _ _ _) rfl) Ξ;by_cases h2:wz=108
  .rw[if_pos (show ς wz=ς 108 by rw[h2])];refine bD (t2.trans (by rw[decide_eq_true h2])) (aG ((aM (x:=.t (.str k::rm.map wD)) (y:=.t [.str rz]) (ah (t:=.f (.t (.str k::rm.map wD))) ((aM ehd (y:=.t (rm.map wD)) (ah (t:=.f (.t (rm.map wD))) ((aw (x:=.e (rm.map wD)) (ah (t:=.e (rm.map wD)) ((fN (x:=.e ((k::(rm++[rz])).map wD)) (lo:=ς 1) (hi:=ς (-1)) rfl rfl rfl).trans ?_))).trans rfl))).trans (pP _ [] _ (by simp;simp at hr;lia)))) (f6 (aq (d:=.str rz) (ah (t:=.f (.str rz)) ((aM (x:=.e ((k::(rm++[rz])).map .str)) (y:=.int (-1)) rfl rfl).trans ?_)) rfl) Ξ)).trans ?_))
   .show ς (T.e (fg _ _ _))=_;rw[List.map_cons,List.map_append,List.map_cons,List.map_nil,yX]
   .rw[kR,List.map_cons,List.map_append,<- List.cons_append,List.map_cons,List.map_nil,uN];rfl
   .rw[pP _ _ _ (by simp;simp at hr;lia)];simp
  .rw[if_neg (fun z=>h2 (qc1 z))];refine(bc (t2.trans (by rw[decide_eq_false h2]))).trans (aG ((aM ehd (y:=.t ((rm++[rz]).map wD)) (ah (t:=.f (.t ((rm++[rz]).map wD))) ((aw (x:=.e ((rm++[rz]).map wD)) (ah (t:=.e ((rm++[rz]).map wD)) ((fN (x:=.e ((k::(rm++[rz])).map wD)) (lo:=ς 1) (hi:=ψ) rfl rfl rfl).trans ?_))).trans rfl))).trans (pP _ [] _ (by simp;simp at hr;lia))));show ς (T.e (fg _ _ _))=_;rw[List.map_cons,Ce]
def atB(x:Str):Bool:=nB x||(vO x).isSome
theorem jS(x:Str):pD (qa0 "name") x=if nB x then .str x else .non:=by unfold pD;rw[if_neg χ,if_neg χ,if_neg χ,if_pos rfl]
theorem jT(x:Str):pD (qa0 "atom") x=aD x:=by unfold pD;rw[if_pos rfl]
theorem zb(x:Str):pD (qa0 "value") x=oD (vO x):=by unfold pD;rw[if_neg χ,if_pos rfl]
theorem By(x:Str):pD (qa0 "size") x=oD (sO x):=by unfold pD;rw[if_neg χ,if_neg χ,if_pos rfl]
theorem jU(x:Str):pD (qa0 "label") x=if lB x then .str x else .non:=by unfold pD;rw[if_neg χ,if_neg χ,if_neg χ,if_neg χ,if_pos rfl]
theorem Bz(x:Str):pD (qa0 "sign") x=if sgB x then .str x else .non:=by unfold pD;rw[if_neg χ,if_neg χ,if_neg χ,if_neg χ,if_neg χ]
theorem rD(x:Str):aD x=if atB x then wD x else .non:=by unfold aD atB wD;cases g0 x<;>(rename_i h1 h2 h3 U O Z;rw[h3,O];rfl)
theorem fA(b:Bool)(d:Dt)(h:eqF d .non=ξ):eqF (if b then d else .non) .non=!b:=by
 cases b
 .rfl
 .exact h
theorem pQ(x:Str):eqF (wD x) .non=ξ:=by unfold wD;split<;>rfl
theorem Ev(h:nB x=θ):wD x=.str x:=by unfold wD;cases g0 x<;>(rename_i h1 h2 h3 U O Z;first|(rw[h]at h3;cases h3;done)|(rw[O];rfl))
theorem pR(x:Str):decide (loC (srt x)=110)=atB x:=by unfold atB;cases g0 x<;>(rename_i h1 h2 h3 U O Z;rw[h1,h3,O];rfl)
theorem BA(x:Str):(decide (loC (srt x)=115)||decide (loC (srt x)=61))=sgB x:=by cases g0 x<;>(rename_i h1 h2 h3 U Z O;rw[h1,O];rfl)
theorem rE(x:Str):decide (srt x=110)=nB x:=by cases g0 x<;>(rename_i h1 h2 h3 O U Z;rw[h1,h3];rfl)
theorem rF(x:Str):fit 110 (srt x)=nB x:=by cases g0 x<;>(rename_i h1 h2 h3 O U Z;rw[h1,h3];rfl)
theorem rG(x:Str):fit 46 (srt x)=atB x:=by unfold atB;cases g0 x<;>(rename_i h1 h2 h3 U O Z;rw[h1,h3,O];rfl)
theorem kI(x:Str):fit 108 (srt x)=lB x:=by cases g0 x<;>(rename_i h1 h2 h3 O U Z;rw[h1,O];rfl)
theorem kJ(x:Str):srt x=61↔x=qa0 "=":=by cases g0 x<;>(rename_i h1 h2 h3 O U Z;rw[h1];first|exact⟨fun _=>h2,fun _=>rfl⟩|exact⟨fun z=>absurd z Ω,fun z=>absurd z h2⟩)
theorem zd(k c:Str)(r:η Str)(e:Str):fw (k::e::c::r)=mN k c r:=by
 have U:=rE k
 match r with
 |[]=>
  show bK (qa0 "copy") wNA [k,c]=_;unfold bK mN;rw[if_pos (show [k,c].length=wNA.length from rfl),show pDs wNA [k,c]=[pD (qa0 "name") k,pD (qa0 "atom") c]from rfl,jS,jT,rD];have O:=pR c;simp only[qe6,qj0,fA _ _ (show eqF (.str k) .non=ξ from rfl),fA _ _ (pQ c),qh0];cases hn:nB k with
  |false=>rw[hn]at U;have U:=of_decide_eq_false U;simp[U]
  |true=>
   rw[hn]at U;have U:=of_decide_eq_true U;cases ha:atB c with
   |false=>rw[ha]at O;have O:=of_decide_eq_false O;simp[U,O]
   |true=>rw[ha]at O;have O:=of_decide_eq_true O;simp[U,O]
 |[d,g]=>
  show bK (qa0 "op") wNSAA [k,d,c,g]=_;unfold bK mN;rw[if_pos (show [k,d,c,g].length=wNSAA.length from rfl),show pDs wNSAA [k,d,c,g]=[pD (qa0 "name") k,pD (qa0 "sign") d,pD (qa0 "atom") c,pD (qa0 "atom") g]from rfl,jS,Bz,jT,jT,rD,rD];have O:=pR c;have hd:=BA d;have hg:=pR g;simp only[qe6,qj0,fA _ _ (show eqF (.str k) .non=ξ from rfl),fA _ _ (show eqF (.str d) .non=ξ from rfl),fA _ _ (pQ c),fA _ _ (pQ g),qh0];rw[if_neg (show ¬ (srt k=110/\[c,d,g].map (fun x=>loC (srt x))=[110])from fun z=>by simp at z)]
  have key:(srt k=110/\([c,d,g].map (fun x=>loC (srt x))=[110,115,110]∨[c,d,g].map (fun x=>loC (srt x))=[110,61,110]))↔(nB k&&sgB d&&atB c&&atB g)=θ:=by
   rw[<- U,<- hd,<- O,<- hg];simp only[qb3,qm1,za9,and_true,qb0,qe2,decide_eq_true_eq];constructor
   .rintro⟨h1,⟨h2,h3,Z⟩|⟨h2,h3,Z⟩⟩
    .exact⟨⟨⟨h1,.inl h3⟩,h2⟩,Z⟩
    .exact⟨⟨⟨h1,.inr h3⟩,h2⟩,Z⟩
   .rintro⟨⟨⟨h1,h3⟩,h2⟩,Z⟩;exact⟨h1,h3.imp (fun z=>⟨h2,z,Z⟩) fun z=>⟨h2,z,Z⟩⟩
  by_cases hq:(nB k&&sgB d&&atB c&&atB g)=θ
  .rw[if_pos (key.mpr hq)];simp only[qb0]at hq;obtain⟨⟨⟨h1,h2⟩,h3⟩,Z⟩:=hq;rw[h1,h2,h3,Z];rfl
  .rw[if_neg (fun z=>hq (key.mp z)),if_pos];clear key U O hd hg;revert hq;cases nB k<;>cases sgB d<;>cases atB c<;>cases atB g<;>simp
 |[d]=>show Dt.non=_;unfold mN;rw[if_neg (fun z=>by simp at z),if_neg (fun z=>by simp at z)]
 |d::g::h::r=>show Dt.non=_;unfold mN;rw[if_neg (fun z=>by simp at z),if_neg (fun z=>by simp at z)]
def wc(w:Str):Nat:=if w=qa0 "name" then 110 else if w=qa0 "atom" then 46 else 108
def okW(w:Str):Prop:=w=qa0 "name"∨w=qa0 "atom"∨w=qa0 "label"
theorem Ew{w:Str}(h:okW w)(x:Str):eqF (pD w x) .non=!fit (wc w) (srt x):=by
 rcases h with rfl|rfl|rfl
 .rw[jS,fA _ _ rfl,show wc (qa0 "name")=110 by decide +kernel,rF]
 .rw[jT,rD,fA _ _ (pQ x),show wc (qa0 "atom")=46 by decide +kernel,rG]
 .rw[jU,fA _ _ rfl,show wc (qa0 "label")=108 by decide +kernel,kI]
theorem uO:∀(ws xs:η Str),(∀w∈ws,okW w)->xs.length=ws.length->((pDs ws xs).any fun y=>eqF y .non)=!hV (ws.map wc) (xs.map srt)
 |[],[],_,_=>rfl
 |w::ws,x::xs,h,O=>by have Z:=uO ws xs (fun y U=>h y (qa3 _ U)) (by simpa using O);show(eqF (pD w x) .non||(pDs ws xs).any fun y=>eqF y .non)=!(fit (wc w) (srt x)&&hV (ws.map wc) (xs.map srt));rw[Z,Ew (h w qa8),Bool.not_and]
 |[],_::_,_,O=>by simp at O
 |_::_,[],_,O=>by simp at O
def okA(w:Str):Prop:=w=qa0 "name"∨w=qa0 "atom"
theorem pD_w{w:Str}(h:okA w)(x:Str)(O:fit (wc w) (srt x)=θ):pD w x=wD x:=by
 rcases h with rfl|rfl
 .rw[show wc (qa0 "name")=110 by decide +kernel,rF]at O;rw[jS,O,Ev O];rfl
 .rw[show wc (qa0 "atom")=46 by decide +kernel,rG]at O;rw[jT,rD,O];rfl
theorem ze:∀(ws xs:η Str),(∀w∈ws,okA w)->xs.length=ws.length->hV (ws.map wc) (xs.map srt)=θ->pDs ws xs=xs.map wD
 |[],[],_,_,_=>rfl
 |w::ws,x::xs,h,O,U=>by have U:(fit (wc w) (srt x)&&hV (ws.map wc) (xs.map srt))=θ:=U;rw[qb0]at U;show pD w x::pDs ws xs=wD x::xs.map wD;rw[ze ws xs (fun y Z=>h y (qa3 _ Z)) (by simpa using O) U.2,pD_w (h w qa8) x U.1]
 |[],_::_,_,O,_=>by simp at O
 |_::_,[],_,O,_=>by simp at O
theorem rH:∀(a c b d:η Nat),a.length=c.length->hV (a++b) (c++d)=(hV a c&&hV b d)
 |[],[],b,d,_=>by simp[hV]
 |w::a,s::c,b,d,h=>by show(fit w s&&hV (a++b) (c++d))=((fit w s&&hV a c)&&hV b d);rw[rH a c b d (by simpa using h),qw3]
 |[],_::_,_,_,h=>by simp at h
 |_::_,[],_,_,h=>by simp at h
def NW:η (Str×η Str×Bool):=[("load",["name","name"],ξ),("store",["name","atom"],ξ),("take",["name","name","atom"],ξ),("lay",["name","atom","atom"],ξ),("hear",["name"],ξ),("say",["atom"],ξ),("end",["atom"],ξ),("go",[],θ),("if",["atom"],θ)]
def gC(p:Str×η Str×Bool):η Str:=p.2.1++if p.2.2 then [qa0 "label"]else []
instance(w:Str):Decidable (okA w):=by unfold okA;infer_instance
theorem Ch:∀p∈NW,dO p.1=ς (gC p)/\(wtS p.1).cps.toList=(gC p).map wc/\gC p≠[]/\(∀w∈p.2.1,okA w)/\((wtS p.1).cps.toList.getLast?=ς 108↔p.2.2=θ):=χ
theorem FQ:∀p∈NT,∃q∈NW,q.1=p.1:=χ
theorem BB{p:Str×η Str×Bool}(hp:p∈NW)(r:η Str):fZ p.1 r=bK p.1 (gC p) r:=by
 obtain⟨h1,h2,h3,h4,h5⟩:=Ch p hp
 have hne:wtS p.1≠qa0 "":=fun z=>by
  rw[z]at h2;have:(qa0 "").cps.toList=[]:=by decide +kernel
  rw[this]at h2;exact h3 (List.map_eq_nil_iff.mp h2.symm)
 have Z:(wtS p.1).length=(gC p).length:=by rw[bm,h2,qa5]
 unfold fZ bK;by_cases O:r.length=(gC p).length
 .rw[if_neg (fun z=>z.elim hne fun z=>z (by rw[O,Z])),if_pos O,h2]
  have hok:∀w∈gC p,okW w:=fun w U=>by
   unfold gC at U;rcases qe8.mp U with U|U
   .exact(h4 w U).imp id .inl
   .split at U
    .cases qi1.mp U;exact .inr (.inr rfl)
    .cases U
  rw[uO _ _ hok O];cases hf:hV ((gC p).map wc) (r.map srt)with
  |false=>rfl
  |true=>
   simp only[zd4,if_true,qc6,if_false];rw[<- h2];cases hb:p.2.2 with
   |false=>
    rw[if_neg (fun z=>by rw[h5.mp z]at hb;cases hb)];have e:gC p=p.2.1:=by unfold gC;rw[hb];simp
    rw[e]at O hf ⊢;rw[ze _ _ h4 O hf]
   |true=>
    rw[if_pos (h5.mpr hb)];have e:gC p=p.2.1++[qa0 "label"]:=by unfold gC;rw[hb];rfl
    rw[e]at O hf ⊢;obtain⟨m,z,rfl⟩:=lx (l:=r) (fun q=>by rw[q]at O;simp at O);have hm:m.length=p.2.1.length:=by simpa using O
    rw[qd1,qd1,rH _ _ _ _ (by simp[hm]),qb0]at hf
    have hz:lB z=θ:=by have:=hf.2;have q:(fit (wc (qa0 "label")) (srt z)&&θ)=θ:=this;rw[qm3,show wc (qa0 "label")=108 by decide +kernel,kI]at q;exact q
    have e2:pDs (p.2.1++[qa0 "label"]) (m++[z])=m.map wD++[.str z]:=by unfold pDs;rw[List.zip_append hm.symm,qd1];have:=ze _ _ h4 hm hf.1;unfold pDs at this;rw[this];show _++[pD (qa0 "label") z]=_;rw[jU,hz];rfl
    rw[e2];simp
 .rw[if_pos (.inr (by rw[Z];exact O)),if_neg O]
theorem BC{k:Str}(h:∀p∈NT,p.1≠k)(r:η Str):fZ k r=.non:=by
 unfold fZ;rcases tH k with ⟨_,e⟩|⟨p,O,e⟩
 .rw[if_pos (.inl e)]
 .exact absurd e (h p O)
theorem BD(k:Str):fZ k [qa0 "="]=.non:=by
 have Z:srt (qa0 "=")=61:=(kJ _).mpr rfl;unfold fZ;split
 .rfl
 .rename_i O
  have U:(wtS k).cps.toList.length=1:=by rw[<- bm];exact(qw6 fun z=>O (.inr fun q=>z (by simpa using q.symm)))
  rw[if_neg]
  match q:(wtS k).cps.toList,U with
  |[w],_=>
   show ¬ (fit w (srt (qa0 "="))&&θ)=θ;rw[Z,qm3];unfold fit Et
   repeat' split
   all_goals decide
def bN(k:Str):Bool:=decide (k=qa0 "cell")||(decide (k=qa0 "twin")||(decide (k=qa0 "shelf")||decide (k=qa0 "twins")))
theorem zh{k:Str}(h1:∀p∈NT,p.1≠k)(h2:bN k=ξ)(h3:k≠qa0 "at"):dO k=ψ:=by
 have O:∀p∈WT,p.1=qa0 "at"∨bN p.1=θ∨∃q∈NT,q.1=p.1:=by decide +kernel
 cases e:dO k with
 |none=>rfl
 |some w=>
  rcases O (k,w) (PySem.mem_of_lookup e)with z|z|⟨q,U,z⟩
  .exact absurd z h3
  .rw[h2]at z;cases z
  .exact absurd z (h1 q U)
theorem Ey(k:Str)(r:η Str)(h2:bN k=ξ)(h3:k≠qa0 "at"):mO k r=i4 (k::r):=by
 have Z:fZ k r=match dO k with|none=>.non|some w=>bK k w r:=by
  by_cases h:∃p∈NT,p.1=k
  .obtain⟨p,U,rfl⟩:=h;obtain⟨q,hq,e⟩:=FQ p U;rw[<- e,(Ch q hq).1];exact BB hq r
  .have hn:∀p∈NT,p.1≠k:=fun p U z=>h ⟨p,U,z⟩
   rw[zh hn h2 h3,BC hn]
 match r with
 |[]=>exact Z
 |[e]=>
  show fZ k [e]=if(ς e=ς (qa0 "="))then fw [k,e]else _
  by_cases O:e=qa0 "="
  .rw[if_pos (by rw[O]),O,BD];rfl
  .rw[if_neg (fun z=>O (qc1 z))];exact Z
 |e::c::r'=>
  show(if srt e=61 then mN k c r' else fZ k (e::c::r'))=if(ς e=ς (qa0 "="))then fw (k::e::c::r')else _
  by_cases O:e=qa0 "="
  .rw[if_pos ((kJ e).mpr O),if_pos (by rw[O]),zd]
  .rw[if_neg (fun z=>O ((kJ e).mp z)),if_neg (fun z=>O (qc1 z))];exact Z
theorem BE(k c e:Str)(r:η Str)(O:e=qa0 "="):mO k (e::c::r)=i4 (k::e::c::r):=by
 show(if srt e=61 then mN k c r else fZ k (e::c::r))=if(ς e=ς (qa0 "="))then fw (k::e::c::r)else _
 rw[if_pos ((kJ e).mpr O),if_pos (by rw[O]),zd]
theorem dcm(a b:Str):decide (a=b)=decide (b=a):=decide_eq_decide.mpr eq_comm
def gW(k:Str):Bool:=decide (k=qa0 "twin")||decide (k=qa0 "twins")
def itD(b:Bool):Dt->Dt
 |.t (.str k::ps)=>if bN k then(if b then .non else .e [.str k,.t (ps++[.bl (gW k)])])else if k=qa0 "at" then .e (.str "at"::ps)else .e [.str "row",.t (.str k::ps)]
 |_=>.non
def rwT(d:Dt):T:=match d with
 |.non=>.f .non
 |d=>.e [.str "row",d]
theorem rJ (k:Str) (b:Bool) (O:∀ x∈k::r,W x) (U:r.length<=900) (Z:ζ T) :
  (ao (aF 4 (toT (toD (ag q37 (aa (vL 0) (aa (vL 1) af))))))
  (aQ (vIf (tB2 (gIs θ) (vB 4) (kD .non)) (aZ (aa (kD (.str "row")) (aa (vL 4) af))) (toT (kD .non)))))
   [ς (.f (.e ((k::r).map .str))),ς (.f (.str (sts (k::r)))),ς (.f (.bl b)),Z,ψ]=ς (.rt (rwT (mO k r))):=by
 refine cj (ah (t:=.f (mO k r)) ((bH (x:=.e ((k::r).map .str)) (y:=.str (sts (k::r))) rfl rfl).trans (FP k O U))) (aG ?_);dsimp only[qe3];generalize mO k r=d;cases d<;>rfl
theorem fO(k:Str)(w r:η Str):bK k w r=.non∨∃ps,bK k w r=.t (.str k::ps):=by
 unfold bK
 repeat' split
 .exact .inl rfl
 .exact .inr ⟨_,rfl⟩
 .exact .inl rfl
theorem n8(ws:η Str):fw ws=.non∨∃k ps,fw ws=.t (.str k::ps)/\bN k=ξ/\k≠qa0 "at":=by
 unfold fw;split
 .rcases fO (qa0 "copy") wNA _ with h|⟨ps,h⟩
  .exact .inl h
  .exact .inr ⟨_,ps,h,χ,χ⟩
 .rcases fO (qa0 "op") wNSAA _ with h|⟨ps,h⟩
  .exact .inl h
  .exact .inr ⟨_,ps,h,χ,χ⟩
 .exact .inl rfl
theorem zj(b:Bool){d:Dt}(h:d=.non∨∃k ps,d=.t (.str k::ps)/\bN k=ξ/\k≠qa0 "at"):(rwT d).d=ς (itD b d):=by
 rcases h with rfl|⟨k,ps,rfl,h1,h2⟩
 .rfl
 .have:itD b (.t (.str k::ps))=.e [.str "row",.t (.str k::ps)]:=by simp[itD,h1,h2]
  rw[this];rfl
theorem wp(k:Str)(r:η Str)(h2:bN k=ξ)(h3:k≠qa0 "at"):i4 (k::r)=.non∨∃k' ps,i4 (k::r)=.t (.str k'::ps)/\bN k'=ξ/\k'≠qa0 "at":=by
 generalize hd:i4 (k::r)=d;have hd:(if r.head?=ς (qa0 "=")then fw (k::r)else match dO k with|none=>.non|some w=>bK k w r)=d:=hd;split at hd
 .rw[<- hd];exact n8 _
 .rw[<- hd];cases dO k with
  |none=>exact .inl rfl
  |some w=>
   rcases fO k w r with h|⟨ps,h⟩
   .exact .inl h
   .exact .inr ⟨k,ps,h,h2,h3⟩
theorem FS(x:Str):inS (qa0 "vw") ⟨#[srt x]⟩=(vO x).isSome:=by rw[fX,show(qa0 "vw").cps.toList=[118,119]by decide +kernel];cases g0 x<;>(rename_i h1 h2 h3 U O Z;rw[h1,O];rfl)
theorem Ez(x:Str):inS (qa0 "nvl") ⟨#[srt x]⟩=lB x:=by rw[fX,show(qa0 "nvl").cps.toList=[110,118,108]by decide +kernel,<- kI];rfl
abbrev dI5(k:Str)(r:η Str)(b:Bool)(x3 x4:ζ T):De:=[ς (.f (.e ((k::r).map .str))),ς (.f (.str (sts (k::r)))),ς (.f (.bl b)),x3,x4]
theorem pS(k:Str)(r:η Str)(Z:r.length<=900)(b:Bool)(U O:ζ T)(i:Nat){x:Str}(h:(k::r)[i]?=ς x):toD (d2 au (vB 1) (kD (.int i))) (dI5 k r b U O)=ς (.str ⟨#[srt x]⟩):=rp (x:=sts (k::r)) (i:=i) (by rw[lv];simp;lia) rfl rfl (by rw[dF,qd3,h];rfl)
theorem iW{g:De->ζ T}{a c:Bool}(h:f δ=ς (.bl a))(h2:a=θ->g δ=ς (.f (.bl c)))(h3:a=ξ->c=ξ):iZ f g δ=ς (.f (.bl c)):=by
 rw[Eb,h];cases a with
 |true=>exact h2 rfl
 |false=>rw[h3 rfl];rfl
theorem zm(k:Str)(r:η Str)(Z:r.length<=900)(b:Bool)(U O:ζ T):toD (ag br (aa (vB 1) af)) (dI5 k r b U O)=ς (.int ((r.length+1:Nat):Int)):=(mx k r Z (dI5 k r b U O) rfl).2.2
def kS(r:η Str):Bool:=match r with
 |[a]=>lB a
 |_=>ξ
theorem Ci(r:η Str)(h:∀e c r',r=e::c::r'->e≠qa0 "="):i4 (qa0 "at"::r)=if kS r then .t [.str "at",.str (r.getLastD ql5)]else .non:=by
 have U:dO (qa0 "at")=ς [qa0 "label"]:=by decide +kernel
 show(if r.head?=ς (qa0 "=")then fw (qa0 "at"::r)else match dO (qa0 "at")with|none=>.non|some w=>bK (qa0 "at") w r)=_;rw[U]
 match r with
 |[]=>rfl
 |[a]=>
  by_cases O:a=qa0 "="
  .rw[if_pos (by rw[O];rfl)];have:kS [a]=ξ:=by show lB a=ξ;rw[O];decide +kernel
   rw[this];rfl
  .rw[if_neg (show ¬ ([a].head?=ς (qa0 "="))from fun z=>O (qc1 z))];show bK (qa0 "at") [qa0 "label"] [a]=if lB a then _ else _
   unfold bK;rw[if_pos (show [a].length=[qa0 "label"].length from rfl),show pDs [qa0 "label"] [a]=[pD (qa0 "label") a]from rfl,jU];cases lB a<;>rfl
 |e::c::r'=>rw[if_neg (show ¬ ((e::c::r').head?=ς (qa0 "="))from fun z=>h e c r' rfl (qc1 z))];show bK (qa0 "at") [qa0 "label"] (e::c::r')=.non;unfold bK;rw[if_neg Ξ]
theorem EA (r:η Str) (U:r.length<=900) (b:Bool) :
  ∃t,(ao (aF 3 (toT (toD (iZ (toD (d2 (gEq ξ) (toD (ag br (aa (vB 1) af))) (kD (.int 2)))) (d2 (bv ξ) (toD (d2 au (vB 1) (kD (.int 1)))) (kD (.str "nvl")))))))
  (aQ (vIf (dG (vB 3)) (aZ (aa (kD (.str "at")) (aa (toD (d2 au (vB 0) (toD (hJ (kD (.int 1)))))) af))) (toT (kD .non))))) (dI5 (qa0 "at") r b ψ ψ)=ς (.rt t)/\t.d=ς (if kS r then .e [.str "at",.str (r.getLastD ql5)]else .non):=by
 have e:toD (iZ (toD (d2 (gEq ξ) (toD (ag br (aa (vB 1) af))) (kD (.int 2)))) (d2 (bv ξ) (toD (d2 au (vB 1) (kD (.int 1)))) (kD (.str "nvl")))) (dI5 (qa0 "at") r b ψ ψ)=ς (.bl (kS r)):=by
  refine ah (t:=.f (.bl (kS r))) (iW (a:=decide (((r.length+1:Nat):Int)=2)) (ah (t:=.f (.bl _)) ((aM (zm _ r U b ψ ψ) (y:=.int 2) rfl).trans gf)) (fun q=>?_) fun q=>?_)
  .match r,of_decide_eq_true q with
   |[a],_=>exact(aM (pS (qa0 "at") [a] U b ψ ψ 1 rfl) (y:=.str "nvl") rfl).trans (by rw[uw,Ez];rfl)
   |[],q=>simp at q
   |_::_::_,q=>simp at q;lia
  .match r,of_decide_eq_false q with
   |[a],q=>simp at q
   |[],_=>rfl
   |_::_::_,_=>rfl
 cases O:kS r with
 |false=>exact⟨.f .non,cj e (aG (by rw[O];rfl)),rfl⟩
 |true=>
  match r,O,e with
  |[a],O,e=>exact⟨.e [.str "at",.str a],cj e (aG (by rw[O];rfl)),rfl⟩
def i5(k:Str):Bool:=decide (k=qa0 "shelf")||decide (k=qa0 "twins")
def my(k:Str)(r:η Str):Bool:=match r with
 |[a,v]=>nB a&&((vO v).isSome&&(!i5 k||(decide (1<=vl v)&&decide (vl v<=8))))
 |_=>ξ
def headD(k:Str)(r:η Str):Dt:=.t [.str (r.headD ql5),.int (vl (r.getLastD ql5)),.bl (gW k)]
theorem eT{k:Str}(h:bN k=θ):k=qa0 "cell"∨k=qa0 "twin"∨k=qa0 "shelf"∨k=qa0 "twins":=by unfold bN at h;simpa only[qe2,decide_eq_true_eq] using h
variable{v:Str}
theorem Cj(h:(vO v).isSome=θ):vO v=ς (vl v):=(Bs h).2
theorem uP(h:(vO v).isSome=ξ):vO v=ψ:=by
 cases q:vO v with
 |none=>rfl
 |some n=>rw[q]at h;cases h
theorem uQ{k:Str}(hk:bN k=θ)(r:η Str)(h:∀e c r',r=e::c::r'->e≠qa0 "="):i4 (k::r)=if my k r then .t [.str k,.str (r.headD ql5),.int (vl (r.getLastD ql5))]else .non:=by
 have Z:dO k=ς [qa0 "name",if i5 k then qa0 "size" else qa0 "value"]:=by rcases eT hk with rfl|rfl|rfl|rfl<;>decide +kernel
 show(if r.head?=ς (qa0 "=")then fw (k::r)else match dO k with|none=>.non|some w=>bK k w r)=_;rw[Z]
 have O:∀r:η Str,r.length≠2->bK k [qa0 "name",if i5 k then qa0 "size" else qa0 "value"] r=.non:=fun r hr=>by unfold bK;rw[if_neg (by simpa using hr)]
 match r with
 |[]=>exact O [] Ω
 |[a]=>show(if [a].head?=ς (qa0 "=")then Dt.non else bK k _ [a])=.non;rw[O [a] Ξ];split<;>rfl
 |[a,v]=>
  rw[if_neg (show ¬ ([a,v].head?=ς (qa0 "="))from fun z=>h a v [] rfl (qc1 z))];show bK k [qa0 "name",if i5 k then qa0 "size" else qa0 "value"] [a,v]=if(nB a&&((vO v).isSome&&(!i5 k||(decide (1<=vl v)&&decide (vl v<=8)))))then Dt.t [.str k,.str a,.int (vl v)]else .non
  unfold bK;rw[if_pos (show [a,v].length=[qa0 "name",if i5 k then qa0 "size" else qa0 "value"].length from rfl),show pDs [qa0 "name",if i5 k then qa0 "size" else qa0 "value"] [a,v]=[pD (qa0 "name") a,pD (if i5 k then qa0 "size" else qa0 "value") v]from rfl,jS]
  have hp:pD (if i5 k then qa0 "size" else qa0 "value") v=if((vO v).isSome&&(!i5 k||(decide (1<=vl v)&&decide (vl v<=8))))then .int (vl v)else .non:=by
   cases i5 k with
   |false=>
    simp only[qc6,if_false];rw[zb];cases U:(vO v).isSome with
    |true=>rw[Cj U];rfl
    |false=>rw[uP U];rfl
   |true=>
    simp only[if_true];rw[By];unfold sO;cases U:(vO v).isSome with
    |true=>rw[Cj U];show oD (if 1<=vl v/\vl v<=8 then ς (vl v)else ψ)=_;by_cases h1:1<=vl v<;>by_cases h2:vl v<=8<;>simp[h1,h2,oD]
    |false=>rw[uP U];rfl
  rw[hp];generalize ((vO v).isSome&&(!i5 k||(decide (1<=vl v)&&decide (vl v<=8))))=q;cases nB a<;>cases q<;>rfl
 |a::v::w::r'=>rw[if_neg (show ¬ ((a::v::w::r').head?=ς (qa0 "="))from fun z=>h a v (w::r') rfl (qc1 z))];exact O _ Ξ
theorem zp {k:Str} (hk:bN k=θ) (r:η Str) (U:r.length<=900) (b:Bool) :
  ∃t,(ao (sIf (fOr (dG (vB 2)) (fOr (tB2 (gEq θ) (toD (ag br (aa (vB 1) af))) (kD (.int 3))) (fOr (tB2 (gEq θ) (toD (d2 au (vB 1) (kD (.int 1)))) (kD (.str "n"))) (tB2 (bv θ) (toD (d2 au (vB 1) (kD (.int 2)))) (kD (.str "vw")))))) (aQ (toT (kD .non))) bg)
  (ao (sIf (cN (tB2 (bv ξ) (toD (d2 au (vB 0) (kD (.int 0)))) (toD (cT (aa (kD (.str "shelf")) (aa (kD (.str "twins")) af))))) (ip (hG (ck (bG fun i j=>decide (i<=j)) (bG fun i j=>decide (i<=j)) (kD (.int 1)) (toD (ag fR (aa (toD (d2 au (vB 0) (kD (.int 2)))) af))) (kD (.int 8)))))) (aQ (toT (kD .non))) bg)
  (aQ (aZ (aa (toD (d2 au (vB 0) (kD (.int 0)))) (aa (toD (cT (aa (toD (d2 au (vB 0) (kD (.int 1)))) (aa (toD (ag fR (aa (toD (d2 au (vB 0) (kD (.int 2)))) af))) (aa (toD (d2 (gEq ξ) (toD (vSl (toD (d2 au (vB 0) (kD (.int 0)))) cH (a0 (kD (.int 2))))) (kD (.str "tw")))) af))))) af)))))) (dI5 k r b ψ ψ)=ς (.rt t)/\t.d=ς (if !b&&my k r then .e [.str k,headD k r]else .non):=by
 cases b with
 |true=>exact⟨.f .non,bD (orE (a:=true) (b:=true) rfl fun z=>nomatch z) rfl,rfl⟩
 |false=>
 have e3:=ap (g:=gEq θ) (y:=.int 3) (zm k r U ξ ψ ψ) (show kD (.int 3) _=_ from rfl) pA
 have bad:∀r:η Str,r.length≠2->my k r=ξ:=fun r hr=>by
  match r,hr with
  |[],_=>rfl
  |[_],_=>rfl
  |[_,_],hr=>exact absurd rfl hr
  |_::_::_::_,_=>rfl
 by_cases h2:r.length=2
 .obtain ⟨a,v,rfl⟩:∃a v,r=[a,v]:=by
   match r,h2 with
   |[a,v],_=>exact⟨a,v,rfl⟩
  have ek:toD (d2 au (vB 0) (kD (.int 0))) (dI5 k [a,v] ξ ψ ψ)=ς (.str k):=cM (i:=0) (l:=[k,a,v].map .str) rfl rfl;have ea:toD (d2 au (vB 0) (kD (.int 1))) (dI5 k [a,v] ξ ψ ψ)=ς (.str a):=cM (i:=1) (l:=[k,a,v].map .str) rfl rfl;have ev:toD (d2 au (vB 0) (kD (.int 2))) (dI5 k [a,v] ξ ψ ψ)=ς (.str v):=cM (i:=2) (l:=[k,a,v].map .str) rfl rfl
  have t1:fOr (dG (vB 2)) (fOr (tB2 (gEq θ) (toD (ag br (aa (vB 1) af))) (kD (.int 3))) (fOr (tB2 (gEq θ) (toD (d2 au (vB 1) (kD (.int 1)))) (kD (.str "n"))) (tB2 (bv θ) (toD (d2 au (vB 1) (kD (.int 2)))) (kD (.str "vw"))))) (dI5 k [a,v] ξ ψ ψ)=ς (!(nB a&&(vO v).isSome)):=by refine(orE (a:=false) rfl fun _=>orE (a:=false) e3 fun _=>orE (a:=!nB a) (ap (y:=.str "n") (pS k [a,v] U ξ ψ ψ 1 rfl) rfl (by rw[gS,pO,mv,rE])) fun _=>ap (b:=!(vO v).isSome) (y:=.str "vw") (pS k [a,v] U ξ ψ ψ 2 rfl) rfl (by rw[uw,FS];rfl)).trans ?_;cases nB a<;>cases (vO v).isSome<;>rfl
  cases O:(nB a&&(vO v).isSome)with
  |false=>
   refine⟨.f .non,bD (t1.trans (by rw[O];rfl)) rfl,?_⟩
   have:my k [a,v]=ξ:=by show(nB a&&((vO v).isSome&&_))=ξ;rw[<- qw3,O];rfl
   rw[this];rfl
  |true=>
   have hv:(vO v).isSome=θ:=(qb0 _ _▸O).2;have ei:toD (ag fR (aa (toD (d2 au (vB 0) (kD (.int 2)))) af)) (dI5 k [a,v] ξ ψ ψ)=ς (.int (vl v)):=ah (t:=.f (.int (vl v))) ((aw ev).trans (pL (Bs hv).1))
   have t2:cN (tB2 (bv ξ) (toD (d2 au (vB 0) (kD (.int 0)))) (toD (cT (aa (kD (.str "shelf")) (aa (kD (.str "twins")) af))))) (ip (hG (ck (bG fun i j=>decide (i<=j)) (bG fun i j=>decide (i<=j)) (kD (.int 1)) (toD (ag fR (aa (toD (d2 au (vB 0) (kD (.int 2)))) af))) (kD (.int 8))))) (dI5 k [a,v] ξ ψ ψ)=ς (i5 k&&!(decide (1<=vl v)&&decide (vl v<=8))):=by refine b3 (ap (y:=.t [.str "shelf",.str "twins"]) ek rfl (by rw[iJ (by rfl)];simp only[qe6,qj0,jd,qh0,if_false,qc6];rw[dcm (qa0 "shelf"),dcm (qa0 "twins")];rfl)) fun _=>iN (yO (a:=1) (n:=vl v) (c:=8) rfl ei rfl)
   have hg:my k [a,v]=!(i5 k&&!(decide (1<=vl v)&&decide (vl v<=8))):=by show(nB a&&((vO v).isSome&&(!i5 k||(decide (1<=vl v)&&decide (vl v<=8)))))=_;rw[<- qw3,O,qk9,Bool.not_and,ze6]
   rw[hg];cases hs:(i5 k&&!(decide (1<=vl v)&&decide (vl v<=8)))with
   |true=>exact⟨.f .non,(bc (t1.trans (by rw[O];rfl))).trans (bD (t2.trans (by rw[hs])) rfl),rfl⟩
   |false=>
    refine⟨.e [.str k,.t [.str a,.int (vl v),.bl (gW k)]],(bc (t1.trans (by rw[O];rfl))).trans ((bc (t2.trans (by rw[hs]))).trans (aG ?_)),rfl⟩
    have Z:toD (d2 (gEq ξ) (toD (vSl (toD (d2 au (vB 0) (kD (.int 0)))) cH (a0 (kD (.int 2))))) (kD (.str "tw"))) (dI5 k [a,v] ξ ψ ψ)=ς (.bl (gW k)):=by
     refine ah (t:=.f (.bl (gW k))) ((aM (ah (t:=.f (.str (Txt.slice k ψ (ς 2)))) ((fN ek (lo:=ψ) (hi:=ς 2) rfl rfl).trans (if_pos (b8 ?_)))) (y:=.str "tw") rfl).trans ?_)
     .rcases eT hk with rfl|rfl|rfl|rfl<;>decide +kernel
     .rw[aV];congr 3;rcases eT hk with rfl|rfl|rfl|rfl<;>decide +kernel
    rw[yv,aq ek (aq (f6 (aq ea (aq ei (aq Z (ds:=[]) rfl))) Ξ) (ds:=[]) rfl),qa1,md Ξ]
 .refine⟨.f .non,bD (orE (a:=false) (b:=true) rfl fun _=>orE (a:=true) (b:=true) (e3.trans ?_) fun z=>nomatch z) rfl,?_⟩
  .rw[decide_eq_false Θ];rfl
  .rw[bad r h2];rfl
theorem EB(k:Str)(b:Bool)(hW:∀x∈k::r,W x)(U:r.length<=900):∃t,q25 [.e ((k::r).map .str),.str (sts (k::r)),.bl b]=ς t/\t.d=ς (itD b (i4 (k::r))):=by
 unfold q25;obtain⟨c1,c2,c3⟩:=mx k r U (dI5 k r b ψ ψ) rfl;have Z:fOr (tB2 (gEq θ) (toD (vSl (vB 1) (a0 (kD (.int 1))) (a0 (kD (.int 2))))) (kD (.str "="))) (tB2 (bG fun i j=>decide (i<j)) (toD (ag br (aa (vB 1) af))) (kD (.int 3))) (dI5 k r b ψ ψ)=ς (!decide ((r.map srt).take 1=[61])||decide (((r.length+1:Nat):Int)<3)):=orE (ap (y:=.str "=") c1 rfl (by rw[gS,c2])) fun _=>ap (y:=.int 3) c3 rfl dg
 have ek:toD (d2 au (vB 0) (kD (.int 0))) (dI5 k r b ψ ψ)=ς (.str k):=cM (i:=0) (l:=(k::r).map .str) rfl rfl;by_cases hs:∃e c r',r=e::c::r'/\e=qa0 "="
 .obtain⟨e,c,r',rfl,he⟩:=hs;refine⟨rwT (mO k (e::c::r')),dRt ((bc (Z.trans ?_)).trans (rJ k b hW U ψ)),?_⟩
  .have:=(kJ e).mpr he;simp[this];lia
  .rw[BE k c e r' he];refine zj b ?_;have:i4 (k::e::c::r')=fw (k::e::c::r'):=if_pos (by rw[he];rfl);rw[this];exact n8 _
 .have O:∀e c r',r=e::c::r'->e≠qa0 "=":=fun e c r' h1 h2=>hs ⟨e,c,r',h1,h2⟩
  have q1:(!decide ((r.map srt).take 1=[61])||decide (((r.length+1:Nat):Int)<3))=θ:=by
   match r,O with
   |[],_=>rfl
   |[e],_=>simp
   |e::c::r',O=>
    have:srt e≠61:=fun z=>O e c r' rfl ((kJ e).mp z)
    simp[this]
  rw[q1]at Z;have ta:tB2 (gEq ξ) (toD (d2 au (vB 0) (kD (.int 0)))) (kD (.str "at")) (dI5 k r b ψ ψ)=ς (decide (k=qa0 "at")):=ap (y:=.str "at") ek rfl aV
  have th:tB2 (bv ξ) (toD (d2 au (vB 0) (kD (.int 0)))) (toD (cT (aa (kD (.str "cell")) (aa (kD (.str "twin")) (aa (kD (.str "shelf")) (aa (kD (.str "twins")) af)))))) (dI5 k r b ψ ψ)=ς (bN k):=ap (y:=.t [.str "cell",.str "twin",.str "shelf",.str "twins"]) ek rfl (by rw[iJ (by rfl)];simp only[qe6,qj0,jd,qh0,if_false,qc6];rw[dcm (qa0 "cell"),dcm (qa0 "twin"),dcm (qa0 "shelf"),dcm (qa0 "twins")];rfl)
  by_cases h1:k=qa0 "at"
  .subst h1;obtain⟨t,et,dt⟩:=EA r U b;refine⟨t,dRt (dw ((gh Z).trans (dw ((gh (ta.trans (by rw[decide_eq_true rfl]))).trans et)))),?_⟩;rw[dt,Ci r O];cases kS r with
   |false=>rfl
   |true=>
    have:bN (qa0 "at")=ξ:=by decide +kernel
    simp[itD,this]
  .cases h2:bN k with
   |true=>
    obtain⟨t,et,dt⟩:=zp h2 r U b;refine⟨t,dRt (dw ((gh Z).trans ((bn (δ':=dI5 k r b ψ ψ) ((iK (ta.trans (by rw[decide_eq_false h1]))).trans rfl)).trans ((gh (th.trans (by rw[h2]))).trans et)))),?_⟩;rw[dt,uQ h2 r O];cases my k r with
    |false=>cases b<;>rfl
    |true=>cases b<;>simp[itD,h2,headD]
   |false=>refine⟨rwT (mO k r),dRt ((bn (δ':=dI5 k r b ψ ψ) ((gh Z).trans ((bn (δ':=dI5 k r b ψ ψ) ((iK (ta.trans (by rw[decide_eq_false h1]))).trans rfl)).trans ((iK (th.trans (by rw[h2]))).trans rfl)))).trans (rJ k b hW U ψ)),?_⟩;rw[Ey k r h2 h1];exact zj b (wp k r h2 h1)
def hdB:Dt->Bool
 |.t (.str k::_)=>bN k
 |_=>ξ
def rd(s:Str):Dt:=i4 (wds s)
def Sc(x:Dt):Prop:=(∃s,x=.str s)∨∃n:Int,x=.int n
inductive Gd:Dt->Prop
 |hd {k x:Str} {n:Int}:bN k=θ->Gd (.t [.str k,.str x,.int n])
 |lb {l:Str}:lB l=θ->Gd (.t [.str (qa0 "at"),.str l])
 |row {k:Str} {ps:List Dt}:bN k=ξ->k≠qa0 "at"->ps.length<=900->((k=qa0 "if"∨k=qa0 "go")->∃m l,ps=m++[.str l])->(∀x∈ps,Sc x)->Gd (.t (.str k::ps))
variable{ps:η Dt}
theorem rK{k:Str}{w:η Str}(h:bK k w r=.t (.str k::ps)):ps=pDs w r/\r.length=w.length/\((pDs w r).any fun y=>eqF y .non)=ξ:=by
 unfold bK at h;split at h
 .rename_i U;split at h
  .cases h
  .rename_i O;cases h;exact⟨rfl,U,by simpa using O⟩
 .cases h
theorem zr{o:ζ Int}(h:eqF (oD o) .non=ξ):Sc (oD o):=by
 cases o with
 |none=>cases h
 |some n=>exact .inr ⟨n,rfl⟩
theorem FU{w:Str}(h:eqF (pD w x) .non=ξ):Sc (pD w x):=by
 have O:∀b:Bool,eqF (if b then Dt.str x else .non) .non=ξ->Sc (if b then Dt.str x else .non):=fun b hb=>by
  cases b with
  |false=>cases hb
  |true=>exact .inl ⟨x,rfl⟩
 unfold pD at h ⊢;split
 .rename_i q;rw[if_pos q]at h;unfold aD at h ⊢;split
  .exact .inl ⟨x,rfl⟩
  .rename_i q2;rw[if_neg q2]at h;exact zr h
 .rename_i q1;rw[if_neg q1]at h;split
  .rename_i q;rw[if_pos q]at h;exact zr h
  .rename_i q2;rw[if_neg q2]at h;split
   .rename_i q;rw[if_pos q]at h;exact zr h
   .rename_i Z;rw[if_neg Z]at h;split
    .rename_i q;rw[if_pos q]at h;exact O _ h
    .rename_i q4;rw[if_neg q4]at h;split
     .rename_i q;rw[if_pos q]at h;exact O _ h
     .rename_i U;rw[if_neg U]at h;exact O _ h
theorem zu{w:η Str}(h:((pDs w r).any fun y=>eqF y .non)=ξ):∀x∈pDs w r,Sc x:=fun x O=>by
 have U:eqF x .non=ξ:=by
  cases q:eqF x .non with
  |false=>rfl
  |true=>exact absurd (qt1.mpr ⟨x,O,q⟩) (by rw[h];decide)
 obtain⟨p,_,rfl⟩:=qc9.mp O;exact FU U
theorem EC(ws:η Str)(h:fw ws≠.non):Gd (fw ws):=by
 have O:∀k w r,bN k=ξ->k≠qa0 "at"->k≠qa0 "if"->k≠qa0 "go"->w.length<=10->bK k w r≠.non->Gd (bK k w r):=fun k w r h1 h2 h3 h4 hw U=>by
  rcases fO k w r with e|⟨ps,e⟩
  .exact absurd e U
  .rw[e];obtain⟨e1,e2,Z⟩:=rK e;exact .row h1 h2 (by rw[e1];unfold pDs;rw[qa5,zb2];lia) (fun z=>z.elim (fun z=>absurd z h3) fun z=>absurd z h4) (by rw[e1];exact zu Z)
 have hs:fw ws=.non∨(∃r,fw ws=bK (qa0 "copy") wNA r)∨∃r,fw ws=bK (qa0 "op") wNSAA r:=by
  unfold fw;split
  .exact .inr (.inl ⟨_,rfl⟩)
  .exact .inr (.inr ⟨_,rfl⟩)
  .exact .inl rfl
 rcases hs with e|⟨r,e⟩|⟨r,e⟩
 .exact absurd e h
 .rw[e]at h ⊢;exact O _ _ _ χ χ χ χ Ω h
 .rw[e]at h ⊢;exact O _ _ _ χ χ χ χ Ω h
theorem ED(k:Str)(r:η Str)(O:i4 (k::r)≠.non):Gd (i4 (k::r)):=by
 by_cases hs:r.head?=ς (qa0 "=")
 .have e:i4 (k::r)=fw (k::r):=if_pos hs;rw[e]at O ⊢;exact EC _ O
 .have hns:∀e c r',r=e::c::r'->e≠qa0 "=":=fun e c r' h1 h2=>hs (by rw[h1,h2];rfl)
  by_cases h1:k=qa0 "at"
  .rw[h1]at O ⊢;rw[Ci r hns]at O ⊢;cases hg:kS r with
   |false=>rw[hg]at O;exact absurd rfl O
   |true=>
    match r,hg with
    |[a],hg=>exact .lb hg
  .cases h2:bN k with
   |true=>
    rw[uQ h2 r hns]at O ⊢;cases hg:my k r with
    |false=>rw[hg]at O;exact absurd rfl O
    |true=>exact .hd h2
   |false=>
    have e:i4 (k::r)=match dO k with|none=>.non|some w=>bK k w r:=if_neg hs
    cases hw:dO k with
    |none=>rw[e,hw]at O;exact absurd rfl O
    |some w=>
     have e:i4 (k::r)=bK k w r:=by rw[e,hw]
     rw[e]at O ⊢;rcases fO k w r with q|⟨ps,q⟩
     .exact absurd q O
     .rw[q];obtain⟨e1,e2,U⟩:=rK q;have hwl:=rf hw;refine .row h2 h1 (by rw[e1];unfold pDs;rw[qa5,zb2];lia) (fun hk=>?_) (by rw[e1];exact zu U)
      have Z:∃w',w=w'++[qa0 "label"]:=by
       rcases hk with rfl|rfl
       .have:dO (qa0 "if")=ς [qa0 "atom",qa0 "label"]:=by decide +kernel
        rw[this]at hw;exact⟨[qa0 "atom"],(qc1 hw).symm⟩
       .have:dO (qa0 "go")=ς [qa0 "label"]:=by decide +kernel
        rw[this]at hw;exact⟨[],(qc1 hw).symm⟩
      obtain⟨w',rfl⟩:=Z;obtain⟨m,z,rfl⟩:=lx (l:=r) (fun q=>by rw[q]at e2;simp at e2);have hm:w'.length=m.length:=by simpa using e2.symm
      have ep:pDs (w'++[qa0 "label"]) (m++[z])=pDs w' m++[pD (qa0 "label") z]:=by unfold pDs;rw[List.zip_append hm,qd1];rfl
      rw[ep,List.any_append,qu0]at U;have U:=U.2;rw[jU]at U ep;cases hz:lB z with
      |false=>rw[hz]at U;cases U
      |true=>rw[hz]at ep;exact⟨pDs w' m,z,by rw[e1,ep];rfl⟩
theorem Ck(h:rd s≠.non):Gd (rd s):=by
 unfold rd at h ⊢;cases q:wds s with
 |nil=>exact absurd q (mi _ _)
 |cons k r=>rw[q]at h;exact ED k r h
def fC(b:Bool)(i:Nat):η Dt->ζ Nat
 |[]=>ψ
 |d::r=>if de d||(hdB d&&b)then ς i else fC (!hdB d) (i+1) r
theorem inH(k:Str):bv ξ (.str k) bO=ς (.f (.bl (bN k))):=by unfold bO;rw[iJ (by rfl)];simp only[qe6,qj0,jd,qh0,if_false,qc6];rw[dcm (qa0 "cell"),dcm (qa0 "twin"),dcm (qa0 "shelf"),dcm (qa0 "twins")];rfl
theorem Gd.first{d:Dt}(h:Gd d):∃k ps,d=.t (.str k::ps)/\hdB d=bN k:=by
 cases h with
 |hd h=>exact⟨_,_,rfl,rfl⟩
 |lb _=>exact⟨_,_,rfl,rfl⟩
 |row=>exact⟨_,_,rfl,rfl⟩
variable{bb:Dt->De->ζ De}{g:De->ζ Out}
theorem jV{d:Dt}{r:η Dt}{O:De}{t:T}(h1:bb d δ=ς O)(h2:g O=ς (.rt t)):cW bb g (d::r) δ=ς (.rt t):=by unfold cW;rw[h1,qa1,h2];rfl
theorem tI (hs:Cl 900 s) (s0 x5:ζ T) (O:η Dt) (b:Bool) (i:Nat) (ha:O.length<=1000) :
  z27 [s0,ς (.e O),ς (.f (.bl (!b))),ς (.f (.int i)),ς (.f (.str s)),x5]=if de (rd s)||(hdB (rd s)&&b)then ς (.rt (.rse "BadLine" [("at",.int i)]))else ς (.nx [s0,ς (.e (O++[rd s])),ς (.f (.bl (hdB (rd s)))),ς (.f (.int i)),ς (.f (.str s)),ς (.f (rd s))]):=by
 unfold z27;refine cj (ah (t:=.f (rd s)) ((aw (x:=.str s) rfl).trans (Eo hs))) ?_;dsimp only[qe3];by_cases Z:rd s=.non
 .rw[Z];refine bD (orE (a:=true) (b:=true) rfl fun z=>nomatch z) rfl
 .obtain⟨k,ps,e,eh⟩:=(Ck Z).first
  rw[eh];have U:de (rd s)=ξ:=by rw[e];rfl
  rw[U,qy7,e];have ix:toD (d2 au (vB 5) (kD (.int 0))) [s0,ς (.e O),ς (.f (.bl (!b))),ς (.f (.int i)),ς (.f (.str s)),ς (.f (.t (.str k::ps)))]=ς (.str k):=gk (i:=0) (l:=.str k::ps) rfl rfl;have t1:=orE (f:=tB2 (gIs ξ) (vB 5) (kD .non)) (a:=false) (b:=bN k&&b) (δ:=[s0,ς (.e O),ς (.f (.bl (!b))),ς (.f (.int i)),ς (.f (.str s)),ς (.f (.t (.str k::ps)))]) rfl fun _=>b3 (ap (g:=bv ξ) ix (show kD bO _=_ from rfl) (inH k)) fun _=>(iN (gj (show vB 2 _=ς (.bl (!b))from rfl))).trans (by rw[ze6])
  cases hq:(bN k&&b)with
  |true=>exact bD (t1.trans (by rw[hq];rfl)) rfl
  |false=>refine(bc (t1.trans (by rw[hq];rfl))).trans ?_;refine cj (d:=.bl (bN k)) (ah (t:=.f (.bl (bN k))) ((aM ix (y:=bO) rfl).trans (inH k))) ?_;dsimp only[qe3];rw[mh (l:=O) (d:=.t (.str k::ps)) rfl rfl Θ];rfl
theorem rL (s0:ζ T):∀ (L:η Str) (i:Nat) (O:η Dt) (b:Bool) (Z x4 U:ζ T),(∀ s∈L,Cl 900 s)->O.length+L.length<=1000→
  (∀j,fC b i (L.map rd)=ς j->cW (gK 2 (aJ (ak 3) (aJ (ak 4) cE))) z27 (dD i (L.map .str)) [s0,ς (.e O),ς (.f (.bl (!b))),Z,x4,U]=ς (.rt (.rse "BadLine" [("at",.int j)])))∧
  (fC b i (L.map rd)=ψ->∃y2 y3 y4 y5,cW (gK 2 (aJ (ak 3) (aJ (ak 4) cE))) z27 (dD i (L.map .str)) [s0,ς (.e O),ς (.f (.bl (!b))),Z,x4,U]=ς (.nx [s0,ς (.e (O++L.map rd)),y2,y3,y4,y5]))
 |[],i,O,b,Z,x4,U,_,_=>⟨fun j h=>(nomatch h),fun _=>⟨ς (.f (.bl (!b))),Z,x4,U,by simp only[qm1,qd2];rfl⟩⟩
 |s::L,i,O,b,Z,x4,U,hc,hl=>by
  have t:=tI (hc s qa8) s0 U O b i (by simp at hl;lia);have ih:=rL s0 L (i+1) (O++[rd s]) (!hdB (rd s)) (ς (.f (.int i))) (ς (.f (.str s))) (ς (.f (rd s))) (fun y hy=>hc y (qa3 _ hy)) (by simp at hl ⊢;lia);have es:fC b i ((s::L).map rd)=if de (rd s)||(hdB (rd s)&&b)then ς i else fC (!hdB (rd s)) (i+1) (L.map rd):=rfl
  rw[es];cases hq:(de (rd s)||(hdB (rd s)&&b))with
  |true=>rw[hq]at t;refine⟨fun j h=>?_,fun h=>(nomatch h)⟩;cases h;exact jV rfl t
  |false=>rw[hq]at t;rw[ze6]at ih;have e:cW (gK 2 (aJ (ak 3) (aJ (ak 4) cE))) z27 (dD i ((s::L).map .str)) [s0,ς (.e O),ς (.f (.bl (!b))),Z,x4,U]=_:=bx (r:=dD (i+1) (L.map .str)) rfl t;refine⟨fun j h=>e.trans (ih.1 j h),fun h=>?_⟩;obtain⟨y2,y3,y4,y5,q⟩:=ih.2 h;exact⟨y2,y3,y4,y5,by rw[e,q,qb3,qh4];rfl⟩
variable{L:η Str}
theorem uR(h0:L≠[])(U:∀s∈L,Cl 900 s)(hl:L.length<=900):cA (.str (qa0 "\n")) [.e (L.map .str)]=ς (.f (.str (qe0 ⟨#[10]⟩ L)))/\dl (.str (qe0 ⟨#[10]⟩ L)) [.str (qa0 "\n")]=ς (.e (L.map .str)):=by
 have Z:(qe0 ⟨#[10]⟩ L).length<=900*(900+1):=qc5 (mj (s:=⟨#[10]⟩) (b:=900) fun s O=>(U s O).2) (qt8 _ hl);rw[Be];refine⟨nR (nS (b:=900) (n:=900) (fun s O=>(U s O).2) hl Ω),?_⟩;have e:Txt.split (qe0 ⟨#[10]⟩ L) ⟨#[10]⟩=L:=yz 10 h0 fun s O=>(U s O).1
 show(if((⟨#[10]⟩:Str).length==0)=ξ/\(qe0 ⟨#[10]⟩ L).length+2<=qa7 then ς (T.e ((Txt.split (qe0 ⟨#[10]⟩ L) ⟨#[10]⟩).map .str))else ψ)=_;rw[if_pos ⟨rfl,b8 Θ⟩,e]
theorem tJ (h0:L≠[]) (U:∀ s∈L,Cl 900 s) (hl:L.length<=900) :
  (∀j,fC ξ 0 (L.map rd)=ς j->z19 [.str (qe0 ⟨#[10]⟩ L)]=ς (.rse "BadLine" [("at",.int j)]))/\(fC ξ 0 (L.map rd)=ψ->z19 [.str (qe0 ⟨#[10]⟩ L)]=ς (.e (L.map rd))):=by
 unfold z19;have g:=rL (ς (.f (.str (qe0 ⟨#[10]⟩ L)))) L 0 [] ξ ψ ψ ψ U (by simp;lia)
 have fi:∀x1 x2 Z x4 O,dj jI (aa (toD (bR dl (vB 0) (aa (kD (.str "\n")) af))) af) [ς (.f (.str (qe0 ⟨#[10]⟩ L))),x1,x2,Z,x4,O]=ς (dD 0 (L.map .str)):=fun x1 x2 Z x4 O=>by unfold dj;rw[aq (ah (t:=.e (L.map .str)) (uR h0 U hl).2) (ds:=[]) rfl];rfl
 refine⟨fun j h=>dRt (jP (d:=.e []) rfl (cj (d:=.bl θ) rfl (dw (dN (fi _ _ _ _ _) (g.1 j h))))),fun h=>?_⟩;obtain⟨y2,y3,y4,y5,e⟩:=g.2 h;exact dRt (jP (d:=.e []) rfl (cj (d:=.bl θ) rfl ((bn (dN (fi _ _ _ _ _) e)).trans rfl)))
theorem zw(b:Bool){d:Dt}(h:d=.non∨Gd d):de (itD b d)=(de d||(hdB d&&b)):=by
 rcases h with rfl|h
 .rfl
 .cases h with
  |hd h=>cases b<;>simp[itD,h,hdB,de]
  |lb _=>
   have:bN (qa0 "at")=ξ:=by decide +kernel
   simp[itD,this,hdB,de]
  |row h1 h2 _ _ _=>simp[itD,h1,h2,hdB,de]
theorem rM(s:Str):rd s=.non∨Gd (rd s):=by
 by_cases h:rd s=.non
 .exact .inl h
 .exact .inr (Ck h)
theorem zx{b:Bool}{d:Dt}(h:Gd d)(O:(hdB d&&b)=ξ):itD b d=itD ξ d/\∃k x,itD ξ d=.e [.str k,x]/\(decide (k=qa0 "at")||decide (k=qa0 "row"))=!hdB d:=by
 cases h with
 |@hd k x n h=>
  have O:b=ξ:=by have:hdB (.t [.str k,.str x,.int n])=θ:=h;rw[this]at O;simpa using O
  subst O;refine⟨rfl,k,.t [.str x,.int n,.bl (gW k)],by simp[itD,h],?_⟩;show _=!bN k;rw[h];rcases eT h with rfl|rfl|rfl|rfl<;>decide +kernel
 |@lb l _=>
  have hi:bN (qa0 "at")=ξ:=by decide +kernel
  refine⟨by simp[itD,hi],qa0 "at",.str l,by simp[itD,hi],?_⟩;show _=!bN (qa0 "at");rw[hi];decide +kernel
 |@row k ps h1 h2 _ _ _=>refine⟨by simp[itD,h1,h2],qa0 "row",.t (.str k::ps),by simp[itD,h1,h2],?_⟩;show _=!bN k;rw[h1];decide +kernel
theorem n9:∀{ws:η Str},(∀x∈ws,W x)->bJ (ak 0) bQ q22 [ψ] (ws.map .str)=ς (sgD (ws.map srt))
 |[],_=>rfl
 |x::ws,h=>by
  have e:q22 [ς (.f (.str x))]=ς (.str ⟨#[srt x]⟩):=ah (t:=.f (.str _)) ((aw (x:=.str x) rfl).trans (Ep (h x qa8)));have Z:=n9 fun y U=>h y (qa3 _ U)
  show((ς [ς (T.f (.str x))]:ζ De).bind fun O=>(bQ O).bind fun b=>if b then(q22 O).bind fun y=>(bJ (ak 0) bQ q22 [ψ] (ws.map .str)).bind fun ys=>ς (y::ys)else _)=_;simp only[qa1,bQ,if_true,e,Z];rfl
abbrev dU(s0 s1:ζ T)(b:Bool)(x3 x4 x5 x6 x7 x8 x9 x10:ζ T):De:=[s0,s1,ς (.f (.bl b)),x3,x4,x5,x6,x7,x8,x9,x10]
theorem zy (hs:Cl 900 s) (s0 x5 x6 x7 x8 x9 Z:ζ T) (O:η Dt) (b:Bool) (i:Nat) (ha:O.length<=1000) :
  ∃y5 y6,z17 (dU s0 (ς (.e O)) b (ς (.f (.int i))) (ς (.f (.str s))) x5 x6 x7 x8 x9 Z)=if de (rd s)||(hdB (rd s)&&b)then ς (.rt (.e [.str "line",.int i]))else ς (.nx (dU s0 (ς (.e (O++[itD ξ (rd s)]))) (!hdB (rd s)) (ς (.f (.int i))) (ς (.f (.str s))) y5 y6 x7 x8 x9 Z)):=by
 obtain⟨w0,w1,w2⟩:=tz hs;have hW:∀x∈wds s,W x:=fun x hx=>qc5 (w2 x hx).2 Ω
 have hit:∃t,q25 [.e ((wds s).map .str),.str (sts (wds s)),.bl b]=ς t/\t.d=ς (itD b (rd s)):=by
  unfold rd;cases q:wds s with
  |nil=>exact absurd q w0
  |cons k r=>rw[q]at w1 hW;exact EB k b hW (by simp at w1;lia)
 obtain⟨t,et,dt⟩:=hit;refine⟨ς (.f (.e ((wds s).map .str))),ς (.f (itD b (rd s))),?_⟩;unfold z17;refine cj (d:=.e ((wds s).map .str)) (ah (t:=.e ((wds s).map .str)) (ms hs Ω)) ?_;dsimp only[qe3]
 have ej:∀x6:ζ T,toD (bR cA (kD (.str "")) (aa (toD (bu [ψ] (fIt (vB 5)) (ak 0) bQ q22)) af)) (dU s0 (ς (.e O)) b (ς (.f (.int i))) (ς (.f (.str s))) (ς (.f (.e ((wds s).map .str)))) x6 x7 x8 x9 Z)=ς (.str (sts (wds s))):=fun x6=>by refine ah (t:=.f (.str (sts (wds s)))) ?_;unfold bR;rw[show kD (.str "") (dU s0 (ς (.e O)) b (ς (.f (.int i))) (ς (.f (.str s))) (ς (.f (.e ((wds s).map .str)))) x6 x7 x8 x9 Z)=ς (.str "")from rfl,qa1,aq (ah (t:=.e (sgD ((wds s).map srt))) (cD (ds:=(wds s).map .str) rfl (n9 hW) (by unfold sgD;rw[qa5,qa5];lia))) (ds:=[]) rfl,qa1];exact qS (by rw[qa5];lia)
 refine cj (d:=itD b (rd s)) ?_ ?_
 .have:=ah (f:=ag q25 (aa (vL 5) (aa (toD (bR cA (kD (.str "")) (aa (toD (bu [ψ] (fIt (vB 5)) (ak 0) bQ q22)) af))) (aa (vL 2) af)))) (t:=t) ((bI (x:=.e ((wds s).map .str)) (z:=.bl b) rfl (ej x6) rfl).trans et);exact this.trans dt
 dsimp only[qe3];have U:=zw b (rM s);cases hq:(de (rd s)||(hdB (rd s)&&b))with
 |true=>rw[hq]at U;refine bD ?_ rfl;refine(ap (x:=itD b (rd s)) (y:=.non) rfl rfl B9).trans ?_;rw[U];rfl
 |false=>
  rw[hq]at U;have hg:Gd (rd s):=(rM s).elim (fun z=>by rw[z]at hq;cases hq) id;have hb:(hdB (rd s)&&b)=ξ:=(qu0.mp hq).2;obtain⟨e1,k,x,e2,e3⟩:=zx hg hb;rw[e1]at U ⊢;refine(bc ((ap (x:=itD ξ (rd s)) (y:=.non) rfl rfl B9).trans (by rw[U];rfl))).trans ?_;have ix:toD (d2 au (vB 6) (kD (.int 0))) (dU s0 (ς (.e O)) b (ς (.f (.int i))) (ς (.f (.str s))) (ς (.f (.e ((wds s).map .str)))) (ς (.f (itD ξ (rd s)))) x7 x8 x9 Z)=ς (.str k):=cM (i:=0) (l:=[.str k,x]) (by rw[<- e2];rfl) rfl
  have eo:toD (vOr (vB 2) (d2 (bv ξ) (toD (d2 au (vB 6) (kD (.int 0)))) (toD (cT (aa (kD (.str "at")) (aa (kD (.str "row")) af)))))) (dU s0 (ς (.e O)) b (ς (.f (.int i))) (ς (.f (.str s))) (ς (.f (.e ((wds s).map .str)))) (ς (.f (itD ξ (rd s)))) x7 x8 x9 Z)=ς (.bl (!hdB (rd s))):=by
   refine ah (t:=.f (.bl (!hdB (rd s)))) ?_;rw[FL,show vB 2 (dU s0 (ς (.e O)) b (ς (.f (.int i))) (ς (.f (.str s))) (ς (.f (.e ((wds s).map .str)))) (ς (.f (itD ξ (rd s)))) x7 x8 x9 Z)=ς (.bl b)from rfl,qa1,D8];cases b with
   |true=>rw[qm3]at hb;rw[hb];rfl
   |false=>rw[pC];refine(aM ix (y:=.t [.str "at",.str "row"]) rfl).trans ?_;rw[iJ (by rfl),<- e3];simp only[qe6,qj0,jd,qh0,if_false,qc6];rw[dcm (qa0 "at"),dcm (qa0 "row")]
  refine cj eo ?_;dsimp only[qe3];rw[mh (l:=O) (d:=itD ξ (rd s)) rfl rfl Θ];rfl
theorem zz (s0 x7 x8 x9 U:ζ T):∀ (L:η Str) (i:Nat) (O:η Dt) (b:Bool) (x3 x4 Z x6:ζ T),(∀ s∈L,Cl 900 s)->O.length+L.length<=1000→
  (∀j,fC b i (L.map rd)=ς j->cW (gK 2 (aJ (ak 3) (aJ (ak 4) cE))) z17 (dD i (L.map .str)) (dU s0 (ς (.e O)) b x3 x4 Z x6 x7 x8 x9 U)=ς (.rt (.e [.str "line",.int j])))∧
  (fC b i (L.map rd)=ψ->∃y2 y3 y4 y5 y6,cW (gK 2 (aJ (ak 3) (aJ (ak 4) cE))) z17 (dD i (L.map .str)) (dU s0 (ς (.e O)) b x3 x4 Z x6 x7 x8 x9 U)=ς (.nx (dU s0 (ς (.e (O++(L.map rd).map (itD ξ)))) y2 y3 y4 y5 y6 x7 x8 x9 U)))
 |[],i,O,b,x3,x4,Z,x6,_,_=>⟨fun j h=>(nomatch h),fun _=>⟨b,x3,x4,Z,x6,by simp only[qm1,qd2];rfl⟩⟩
 |s::L,i,O,b,x3,x4,Z,x6,hc,hl=>by
  obtain⟨y5,y6,t⟩:=zy (hc s qa8) s0 Z x6 x7 x8 x9 U O b i (by simp at hl;lia);have ih:=zz s0 x7 x8 x9 U L (i+1) (O++[itD ξ (rd s)]) (!hdB (rd s)) (ς (.f (.int i))) (ς (.f (.str s))) y5 y6 (fun y hy=>hc y (qa3 _ hy)) (by simp at hl ⊢;lia);have es:fC b i ((s::L).map rd)=if de (rd s)||(hdB (rd s)&&b)then ς i else fC (!hdB (rd s)) (i+1) (L.map rd):=rfl
  rw[es];cases hq:(de (rd s)||(hdB (rd s)&&b))with
  |true=>rw[hq]at t;refine⟨fun j h=>?_,fun h=>(nomatch h)⟩;cases h;exact jV rfl t
  |false=>rw[hq]at t;have e:cW (gK 2 (aJ (ak 3) (aJ (ak 4) cE))) z17 (dD i ((s::L).map .str)) (dU s0 (ς (.e O)) b x3 x4 Z x6 x7 x8 x9 U)=_:=bx (r:=dD (i+1) (L.map .str)) rfl t;refine⟨fun j h=>e.trans (ih.1 j h),fun h=>?_⟩;obtain⟨y2,y3,y4,y5',y6',q⟩:=ih.2 h;exact⟨y2,y3,y4,y5',y6',by rw[e,q,qb3,qb3,qh4];rfl⟩
theorem lA:∀{ds:η Dt}{b:Bool}{i:Nat},(∀d∈ds,d=.non∨Gd d)->fC b i ds=ψ->∀d∈ds,Gd d
 |d::r,b,i,h,O,e,U=>by
  have O:(if de d||(hdB d&&b)then ς i else fC (!hdB d) (i+1) r)=ψ:=O;split at O
  .cases O
  .rename_i hq;rcases qa9.mp U with rfl|U
   .exact(h e qa8).elim (fun z=>absurd (by rw[z];rfl) hq) id
   .exact lA (fun y Z=>h y (qa3 _ Z)) O e U
theorem rN:∀{ds:η Dt}{b:Bool}{i:Nat},fC b i ds=ψ->∃O rs,ds=O++rs/\(∀d∈O,hdB d=θ)/\(∀d∈rs,hdB d=ξ)/\(b=θ->O=[])
 |[],b,i,_=>⟨[],[],rfl,fun _ h=>(nomatch h),fun _ h=>(nomatch h),fun _=>rfl⟩
 |d::r,b,i,O=>by
  have O:(if de d||(hdB d&&b)then ς i else fC (!hdB d) (i+1) r)=ψ:=O;split at O
  .cases O
  .rename_i hq;obtain⟨h1,Z,e,p1,p2,p3⟩:=rN O;cases hd:hdB d with
   |true=>
    refine⟨d::h1,Z,by rw[e];rfl,fun x U=>?_,p2,fun z=>?_⟩
    .rcases qa9.mp U with rfl|U
     .exact hd
     .exact p1 x U
    .rw[hd,z]at hq;simp at hq
   |false=>
    have:=p3 (by rw[hd];rfl);subst this;refine⟨[],d::Z,by rw[e];rfl,fun _ h=>(nomatch h),fun x U=>?_,fun _=>rfl⟩;rcases qa9.mp U with rfl|U
    .exact hd
    .exact p2 x U
def cP{α:Type}[DecidableEq α](seen:η α):η α->ζ α
 |[]=>ψ
 |w::r=>if w∈seen then ς w else cP (seen++[w]) r
theorem eG{α:Type}[DecidableEq α](seen:η α)(w:α)(r:η α):cP seen (w::r)=if w∈seen then ς w else cP (seen++[w]) r:=rfl
theorem pT{α:Type}[DecidableEq α]:∀{l seen:η α},cP seen l=ψ->seen.Nodup->(seen++l).Nodup
 |[],seen,_,h=>by simpa using h
 |w::r,seen,e,h=>by
  have e:(if w∈seen then ς w else cP (seen++[w]) r)=ψ:=e;split at e
  .cases e
  .rename_i U;have:=pT e (by rw[ql9];exact⟨h,Ξ,fun a Z b O z=>U (by simp at O;rw[<- O,<- z];exact Z)⟩);simpa using this
theorem og(w:Str):∀seen:η Str,(b7 (seen.map fun w=>(.inr w:Key)) (seen.map fun _=>Dt.bl θ) (.inr w)).isSome=decide (w∈seen)
 |[]=>rfl
 |x::r=>by
  have O:=og w r;simp only[qb3];unfold b7;by_cases h:x=w
  .subst h;simp
  .have h2:¬ ((.inr x:Key)=.inr w):=fun z=>h (qr5 z)
   rw[if_neg h2,O];simp[qe7 h]
theorem uS{k:Key}{d:Dt}:∀{l:η (Key×Dt)},k∉l.map (·.1)->qC l k d=l++[(k,d)]
 |[],_=>rfl
 |q::l,h=>by unfold qC;rw[if_neg fun z=>h (by simp[z]),uS fun z=>h (by simp at z ⊢;exact .inr z)];rfl
variable{fk fe:De->ζ Dt}
theorem rO {l:η (Key×Dt)} {d:Dt} (h:δ[i]?=ς (ς (.dct l))) (Z:fk δ=ς (.str x)) (U:fe δ=ς d) (O:(.inr x:Key)∉l.map (·.1)) (hd:(l.map (·.1)).Nodup) (hl:l.length<=1000) :
  kc i fk fe δ=ς (.nx (δ.set i (ς (.dct (l++[(.inr x,d)]))))):=by
 unfold kc;rw[U,Z,h,qa1,qa1];show(ς (qm8 x:Key)).bind _=_;rw[qa1,if_pos ⟨l9 Θ,hd⟩,uS O]
def sD(seen:η Str):η (Key×Dt):=seen.map fun w=>(.inr w,.bl θ)
theorem pU(seen:η Str):(sD seen).map (·.1)=seen.map fun w=>(.inr w:Key):=by unfold sD;rw[qj6];rfl
theorem BF(seen:η Str):(sD seen).map (·.2)=seen.map fun _=>Dt.bl θ:=by unfold sD;rw[qj6];rfl
theorem zA{l:η Str}(h:l.Nodup):(l.map fun w=>(.inr w:Key)).Nodup:=h.map (f:=fun w=>(.inr w:Key)) fun a b e=>fun z=>e (qr5 z)
theorem tK(s0:ζ T)(seen:η Str)(w:Str)(O:seen.Nodup)(U:seen.length<=1000):y18 [s0,ς (.dct (sD seen)),ς (.f (.str w))]=if w∈seen then ς (.rt (.rse "Twice" [("word",.str w)]))else ς (.nx [s0,ς (.dct (sD (seen++[w]))),ς (.f (.str w))]):=by
 unfold y18
 have t:tB2 (bv ξ) (vB 2) (vB 1) [s0,ς (.dct (sD seen)),ς (.f (.str w))]=ς (decide (w∈seen)):=ap (x:=.str w) (y:=.dct ((sD seen).map (·.1)) ((sD seen).map (·.2))) rfl rfl (by rw[yr,pU,BF];show(ς (qm8 w:Key)).map _=_;rw[qf6,og];rfl)
 by_cases h:w∈seen
 .rw[if_pos h];exact bD (t.trans (by rw[decide_eq_true h])) rfl
 .rw[if_neg h];refine(bc (t.trans (by rw[decide_eq_false h]))).trans ?_;rw[rO (l:=sD seen) (x:=w) (d:=.bl θ) rfl rfl rfl (by rw[pU];intro z;obtain⟨y,Z,e⟩:=qc9.mp z;cases e;exact h Z) (by rw[pU];exact zA O) (by unfold sD;rw[qa5];exact U)];unfold sD;rw[qd1];rfl
theorem rP (s0:ζ T):∀ (ws seen:η Str) (z:ζ T),seen.Nodup->seen.length+ws.length<=1000→
  (∀w,cP seen ws=ς w->cW (ak 2) y18 (ws.map .str) [s0,ς (.dct (sD seen)),z]=ς (.rt (.rse "Twice" [("word",.str w)])))∧
  (cP seen ws=ψ->∃O U,cW (ak 2) y18 (ws.map .str) [s0,ς (.dct (sD seen)),z]=ς (.nx [s0,O,U]))
 |[],seen,z,_,_=>⟨fun w h=>(nomatch h),fun _=>⟨_,_,rfl⟩⟩
 |w::ws,seen,z,Z,hl=>by
  have t:=tK s0 seen w Z Θ;have es:cP seen (w::ws)=if w∈seen then ς w else cP (seen++[w]) ws:=rfl
  rw[es];by_cases h:w∈seen
  .rw[if_pos h]at t ⊢;refine⟨fun v e=>?_,fun e=>(nomatch e)⟩;cases e;exact jV rfl t
  .rw[if_neg h]at t ⊢;have ih:=rP s0 ws (seen++[w]) (ς (.f (.str w))) (by rw[ql9];exact⟨Z,Ξ,fun a ha b hb z=>h (by simp at hb;rw[<- hb,<- z];exact ha)⟩) (by simp at hl ⊢;lia);have e:cW (ak 2) y18 ((w::ws).map .str) [s0,ς (.dct (sD seen)),z]=_:=bx (r:=ws.map .str) rfl t;exact⟨fun v q=>e.trans (ih.1 v q),fun q=>let ⟨O,U,r⟩:=ih.2 q;⟨O,U,e.trans r⟩⟩
theorem uT(O:ws.length<=1000):y13 [.e (ws.map .str)]=ς (match cP [] ws with|some w=>.rse "Twice" [("word",.str w)]|none=>.f .non):=by
 unfold y13;have g:=rP (ς (.f (.e (ws.map .str)))) ws [] ψ qm7 (by simpa using O);cases h:cP [] ws with
 |some w=>exact dRt (jP (d:=.dct []) rfl (dN (ds:=ws.map .str) rfl (g.1 w h)))
 |none=>obtain⟨U,Z,e⟩:=g.2 h;show A7 _=_;rw[jP (d:=.dct []) (r:=ς (.nx [ς (.f (.e (ws.map .str))),U,Z])) rfl (dN (ds:=ws.map .str) rfl e)];rfl
def cQ:Dt->ζ (Bool×Str)
 |.t [.str k,.str x,.int _]=>if bN k then ς (ξ,x)else ψ
 |.t [.str k,.str x]=>if k=qa0 "at" then ς (θ,x)else ψ
 |_=>ψ
def kD2(p:Bool×Str):Dt:=.e [.bl p.1,.str p.2]
theorem rQ:∀l:η (Bool×Str),sV (l.map kD2)=ς l
 |[]=>rfl
 |p::l=>by show(ς p).bind (fun q=>(sV (l.map kD2)).map fun r=>q::r)=_;rw[rQ l];rfl
theorem EE(p:Bool×Str)(l:η (Bool×Str)):yg (kD2 p) (.e (l.map kD2))=ς (.f (.bl (decide (p∈l)))):=by show(ς p).bind (fun q=>(sV (l.map kD2)).map fun ps=>T.f (.bl (decide (q∈ps))))=_;rw[rQ];rfl
abbrev dV(s0 s1 s2 s3 s4 s5 s6:ζ T)(seen:η (Bool×Str))(x8 x9 x10:ζ T):De:=[s0,s1,s2,s3,s4,s5,s6,ς (.e (seen.map kD2)),x8,x9,x10]
theorem uU (s0 s1 s2 s3 s4 O U Z:ζ T) (seen:η (Bool×Str)) (hl:seen.length<=1000) (k:Str) (x:Dt) (p:Bool×Str) (hk:k≠qa0 "row") (he:toD (aZ (aa (toD (d2 (gEq ξ) (vB 8) (kD (.str "at")))) (aa (toD (d2 au (toD (aZ (aa (vL 9) (aa (toD (d2 au (vB 9) (kD (.int 0)))) af)))) (toD (ag fR (aa (toD (d2 (gEq θ) (vB 8) (kD (.str "at")))) af))))) af))) (dV s0 s1 s2 s3 s4 O U seen (ς (.f (.str k))) (ς (.f x)) Z)=ς (kD2 p)) :
  y15 (dV s0 s1 s2 s3 s4 O U seen (ς (.f (.str k))) (ς (.f x)) Z)=if p∈seen then ς (.rt (.e [.str "twice",.str p.2]))else ς (.nx (dV s0 s1 s2 s3 s4 O U (seen++[p]) (ς (.f (.str k))) (ς (.f x)) (ς (.f (kD2 p))))):=by
 unfold y15;refine(gh (ap (x:=.str k) (y:=.str "row") rfl rfl (by rw[gS,decide_eq_false hk];rfl))).trans ?_;refine cj he ?_;dsimp only[qe3];have t:=ap (g:=yg) (δ:=dV s0 s1 s2 s3 s4 O U seen (ς (.f (.str k))) (ς (.f x)) (ς (.f (kD2 p)))) (fa:=vB 10) (fb:=vB 7) (x:=kD2 p) (y:=.e (seen.map kD2)) rfl rfl (EE p seen);by_cases h:p∈seen
 .rw[if_pos h];refine bD (t.trans (by rw[decide_eq_true h])) (aG ?_);exact pB (aq rfl (aq (cM (i:=1) (l:=[.bl p.1,.str p.2]) rfl rfl) rfl)) Ξ
 .rw[if_neg h];refine(bc (t.trans (by rw[decide_eq_false h]))).trans ?_;rw[mh (l:=seen.map kD2) (d:=kD2 p) rfl rfl (by rw[qa5];lia)];show ς (Out.nx [s0,s1,s2,s3,s4,O,U,ς (.e (seen.map kD2++[kD2 p])),_,_,_])=_;rw[dV,qd1];rfl
theorem zB (s0 s1 s2 s3 s4 s5 s6 x8 x9 O:ζ T) (seen:η (Bool×Str)) (hl:seen.length<=1000) {d:Dt} (hd:Gd d):∃ δ1 y8 y9 Z,fH 2 (aJ (ak 8) (aJ (ak 9) cE)) (itD ξ d) (dV s0 s1 s2 s3 s4 s5 s6 seen x8 x9 O)=ς δ1∧
  y15 δ1=match cQ d with
   |some p=>if p∈seen then ς (.rt (.e [.str "twice",.str p.2]))else ς (.nx (dV s0 s1 s2 s3 s4 s5 s6 (seen++[p]) y8 y9 Z))
   |none=>ς (.nx (dV s0 s1 s2 s3 s4 s5 s6 seen y8 y9 Z)):=by
 cases hd with
 |@hd k x n h=>
  have e:itD ξ (.t [.str k,.str x,.int n])=.e [.str k,.t [.str x,.int n,.bl (gW k)]]:=by simp[itD,h]
  have ek:cQ (.t [.str k,.str x,.int n])=ς (ξ,x):=by simp[cQ,h]
  have ka:k≠qa0 "at":=by rcases eT h with rfl|rfl|rfl|rfl<;>decide +kernel
  have kr:k≠qa0 "row":=by rcases eT h with rfl|rfl|rfl|rfl<;>decide +kernel
  rw[e,ek];refine⟨_,ς (.f (.str k)),ς (.f (.t [.str x,.int n,.bl (gW k)])),ς (.f (kD2 (ξ,x))),rfl,?_⟩;refine uU s0 s1 s2 s3 s4 s5 s6 O seen hl k (.t [.str x,.int n,.bl (gW k)]) (ξ,x) kr ?_;refine gi (aq (d:=.bl ξ) (ah (t:=.f (.bl ξ)) ((aM (x:=.str k) (y:=.str "at") rfl rfl).trans (by rw[aV,decide_eq_false ka]))) (aq (d:=.str x) (ah (t:=.f (.str x)) ((aM (x:=.e [.t [.str x,.int n,.bl (gW k)],.str x]) (y:=.int 1) (gi (aq rfl (aq (gk (i:=0) (l:=[.str x,.int n,.bl (gW k)]) rfl rfl) rfl)) Ξ) (ah (t:=.f (.int 1)) ((aw (x:=.bl θ) (ah (t:=.f (.bl θ)) ((aM (x:=.str k) (y:=.str "at") rfl rfl).trans (by rw[gS,decide_eq_false ka];rfl)))).trans rfl))).trans rfl)) rfl)) Ξ
 |@lb l hl2=>
  have hi:bN (qa0 "at")=ξ:=by decide +kernel
  have e:itD ξ (.t [.str (qa0 "at"),.str l])=.e [.str (qa0 "at"),.str l]:=by simp[itD,hi]
  have ek:cQ (.t [.str (qa0 "at"),.str l])=ς (θ,l):=by simp[cQ]
  obtain⟨h1,h2,_⟩:=mB_iff.mp hl2
  obtain⟨c,hc⟩:∃c,l.cps.toList[0]?=ς c:=by
   cases q:l.cps.toList with
   |nil=>rw[bm,q]at h1;exact absurd h1 Ω
   |cons c r=>exact⟨c,rfl⟩
  rw[e,ek];refine⟨_,ς (.f (.str (qa0 "at"))),ς (.f (.str l)),ς (.f (kD2 (θ,l))),rfl,?_⟩;refine uU s0 s1 s2 s3 s4 s5 s6 O seen hl (qa0 "at") (.str l) (θ,l) χ ?_;refine gi (aq (d:=.bl θ) (ah (t:=.f (.bl θ)) ((aM (x:=.str (qa0 "at")) (y:=.str "at") rfl rfl).trans (by rw[aV,decide_eq_true rfl]))) (aq (d:=.str l) (ah (t:=.f (.str l)) ((aM (x:=.e [.str l,.str ⟨#[c]⟩]) (y:=.int 0) (gi (aq rfl (aq (rp (x:=l) (i:=0) (c:=c) Θ rfl rfl hc) rfl)) Ξ) (ah (t:=.f (.int 0)) ((aw (x:=.bl ξ) (ah (t:=.f (.bl ξ)) ((aM (x:=.str (qa0 "at")) (y:=.str "at") rfl rfl).trans (by rw[gS,decide_eq_true rfl];rfl)))).trans rfl))).trans rfl)) rfl)) Ξ
 |@row k ps h1 h2 hp _ _=>
  have e:itD ξ (.t (.str k::ps))=.e [.str (qa0 "row"),.t (.str k::ps)]:=by simp[itD,h1,h2]
  have ek:cQ (.t (.str k::ps))=ψ:=by
   unfold cQ;split
   .rename_i U;cases U;rw[h1];rfl
   .rename_i U;cases U;rw[if_neg h2]
   .rfl
  rw[e,ek];refine⟨_,ς (.f (.str (qa0 "row"))),ς (.f (.t (.str k::ps))),O,rfl,?_⟩;unfold y15;exact(iK (ap (x:=.str (qa0 "row")) (y:=.str "row") rfl rfl (by rw[gS,decide_eq_true rfl];rfl))).trans rfl
theorem tM (s0 s1 s2 s3 Z s5 s6:ζ T):∀ (ds:η Dt) (seen:η (Bool×Str)) (x8 x9 O:ζ T),(∀ d∈ds,Gd d)->seen.length+ds.length<=1000→
  (∀p,cP seen (ds.filterMap cQ)=ς p->cW (fH 2 (aJ (ak 8) (aJ (ak 9) cE))) y15 (ds.map (itD ξ)) (dV s0 s1 s2 s3 Z s5 s6 seen x8 x9 O)=ς (.rt (.e [.str "twice",.str p.2])))∧
  (cP seen (ds.filterMap cQ)=ψ->∃y7 y8 y9 U,cW (fH 2 (aJ (ak 8) (aJ (ak 9) cE))) y15 (ds.map (itD ξ)) (dV s0 s1 s2 s3 Z s5 s6 seen x8 x9 O)=ς (.nx (dV s0 s1 s2 s3 Z s5 s6 y7 y8 y9 U)))
 |[],seen,x8,x9,O,_,_=>⟨fun w h=>(nomatch h),fun _=>⟨_,_,_,_,rfl⟩⟩
 |d::ds,seen,x8,x9,O,hg,hl=>by
  obtain⟨δ1,y8,y9,U,e1,e2⟩:=zB s0 s1 s2 s3 Z s5 s6 x8 x9 O seen Θ (hg d qa8);have hg':∀d∈ds,Gd d:=fun y hy=>hg y (qa3 _ hy)
  cases hk:cQ d with
  |none=>
   rw[hk]at e2;have es:(d::ds).filterMap cQ=ds.filterMap cQ:=by rw[qb9,hk]
   rw[es];have ih:=tM s0 s1 s2 s3 Z s5 s6 ds seen y8 y9 U hg' (by simp at hl;lia);have e:cW (fH 2 (aJ (ak 8) (aJ (ak 9) cE))) y15 ((d::ds).map (itD ξ)) (dV s0 s1 s2 s3 Z s5 s6 seen x8 x9 O)=_:=bx (r:=ds.map (itD ξ)) e1 e2;exact⟨fun p q=>e.trans (ih.1 p q),fun q=>let ⟨y7,a,b,c,r⟩:=ih.2 q;⟨y7,a,b,c,e.trans r⟩⟩
  |some p=>
   rw[hk]at e2;have es:(d::ds).filterMap cQ=p::ds.filterMap cQ:=by rw[qb9,hk]
   rw[es];rw[eG];by_cases h:p∈seen
   .simp only[if_pos h]at e2;rw[if_pos h];refine⟨fun v q=>?_,fun q=>(nomatch q)⟩;cases q;exact jV e1 e2
   .simp only[if_neg h]at e2;rw[if_neg h];have ih:=tM s0 s1 s2 s3 Z s5 s6 ds (seen++[p]) y8 y9 U hg' (by simp at hl ⊢;lia);have e:cW (fH 2 (aJ (ak 8) (aJ (ak 9) cE))) y15 ((d::ds).map (itD ξ)) (dV s0 s1 s2 s3 Z s5 s6 seen x8 x9 O)=_:=bx (r:=ds.map (itD ξ)) e1 e2;exact⟨fun p q=>e.trans (ih.1 p q),fun q=>let ⟨y7,a,b,c,r⟩:=ih.2 q;⟨y7,a,b,c,e.trans r⟩⟩
def lnO(d:Dt):ζ Str:=match cQ d with
 |some (θ,l)=>ς l
 |_=>ψ
def hnO(d:Dt):ζ Str:=match cQ d with
 |some (ξ,l)=>ς l
 |_=>ψ
def plc(c:Nat):η Dt->η (Str×Nat)
 |[]=>[]
 |d::r=>match cQ d with
  |some (θ,l)=>(l,c)::plc c r
  |some (ξ,_)=>plc c r
  |none=>plc (c+1) r
def pK(l:η (Str×Nat)):η (Key×Dt):=l.map fun p=>(.inr p.1,.int p.2)
theorem uV(l:η (Str×Nat)):(pK l).map (·.1)=(l.map (·.1)).map fun w=>(.inr w:Key):=by unfold pK;rw[qj6,qj6];rfl
theorem EF(l m:η (Str×Nat)):pK (l++m)=pK l++pK m:=by unfold pK;rw[qd1]
theorem jW(l:Str):∀P:η (Str×Nat),b7 ((pK P).map (·.1)) ((pK P).map (·.2)) (.inr l)=(P.lookup l).map fun c=>.int c
 |[]=>rfl
 |(x,c)::P=>by
  have O:=jW l P;show b7 ((.inr x:Key)::(pK P).map (·.1)) (.int c::(pK P).map (·.2)) (.inr l)=_;simp only[qf9];unfold b7;by_cases h:l=x
  .subst h;simp
  .have h1:(l==x)=ξ:=by simpa using h
   have h2:¬ ((.inr x:Key)=.inr l):=fun z=>h (qr5 z).symm
   rw[h1,if_neg h2];exact O
theorem Gd.cases'{d:Dt}(h:Gd d):(∃k x n,bN k=θ/\d=.t [.str k,.str x,.int n]/\cQ d=ς (ξ,x))∨(∃l,lB l=θ/\d=.t [.str (qa0 "at"),.str l]/\cQ d=ς (θ,l))∨∃k ps,bN k=ξ/\k≠qa0 "at"/\d=.t (.str k::ps)/\cQ d=ψ/\ps.length<=900/\((k=qa0 "if"∨k=qa0 "go")->∃m l,ps=m++[.str l]):=by
 cases h with
 |@hd k x n h=>exact .inl ⟨k,x,n,h,rfl,by simp[cQ,h]⟩
 |@lb l h=>exact .inr (.inl ⟨l,h,rfl,by simp[cQ]⟩)
 |@row k ps h1 h2 h3 U _=>
  refine .inr (.inr ⟨k,ps,h1,h2,rfl,?_,h3,U⟩);unfold cQ;split
  .rename_i O;cases O;rw[h1];rfl
  .rename_i O;cases O;rw[if_neg h2]
  .rfl
variable{P:η (Str×Nat)}
theorem zC{l:Str}(h:δ[i]?=ς (ς (.dct (pK P))))(hk:fk δ=ς (.str l))(Z:fe δ=ς (.int c))(O:(P.map (·.1)++[l]).Nodup)(U:P.length<=1000):kc i fk fe δ=ς (.nx (δ.set i (ς (.dct (pK (P++[(l,c)])))))):=by
 rw[ql9]at O
 rw[rO (l:=pK P) (x:=l) (d:=.int c) h hk Z (by rw[uV];intro z;obtain⟨y,hy,e⟩:=qc9.mp z;cases e;exact O.2.2 l hy l Ξ rfl) (by rw[uV];exact zA O.1) (by unfold pK;rw[qa5];exact U),EF]
 rfl
theorem zD{k:Str}(h:bN k=θ):k≠qa0 "at":=by rcases eT h with rfl|rfl|rfl|rfl<;>decide +kernel
theorem zE(k:Str):bv θ (.str k) bO=ς (.f (.bl (!bN k))):=by have e:=inH k;unfold bO at e ⊢;rw[iJ (by rfl)]at e ⊢;simp only[if_true,if_false,qc6,qo0,T.f.injEq,Dt.bl.injEq]at e ⊢;rw[e]
theorem iX (s0:ζ T):∀ (ds:η Dt) (P:η (Str×Nat)) (c:Nat) (x3:ζ T),(∀ d∈ds,Gd d)->(P.map (·.1)++ds.filterMap lnO).Nodup->P.length+ds.length<=1000→
  ∃y2 Z,cW (ak 3) y21 ds [s0,ς (.dct (pK P)),ς (.f (.int c)),x3]=ς (.nx [s0,ς (.dct (pK (P++plc c ds))),y2,Z])
 |[],P,c,x3,_,_,_=>⟨ς (.f (.int c)),x3,by unfold plc;rw[qd2];rfl⟩
 |d::r,P,c,x3,hg,hn,hl=>by
  have hg':∀d∈r,Gd d:=fun y hy=>hg y (qa3 _ hy)
  have ix:∀{ps:η Dt}{k:Str}{y:Dt}{i:Nat}{x1 x2:ζ T},(Dt.str k::ps)[i]?=ς y->toD (d2 au (vB 3) (kD (.int i))) [s0,x1,x2,ς (.f (.t (.str k::ps)))]=ς y:=fun {ps k y i x1 x2} h=>gk (i:=i) (l:=.str k::ps) rfl h
  rcases(hg d qa8).cases' with ⟨k,x,n,h1,rfl,O⟩|⟨l,h1,rfl,O⟩|⟨k,ps,h1,h2,rfl,O,_,_⟩
  .have e1:(Dt.t [.str k,.str x,.int n]::r).filterMap lnO=r.filterMap lnO:=by rw[qb9];unfold lnO;rw[O]
   have e2:plc c (Dt.t [.str k,.str x,.int n]::r)=plc c r:=by simp only[plc,O]
   rw[e1]at hn;rw[e2];obtain⟨y2,Z,ih⟩:=iX s0 r P c (ς (.f (.t [.str k,.str x,.int n]))) hg' hn (by simp at hl;lia);refine⟨y2,Z,(bx (r:=r) rfl ?_).trans ih⟩;unfold y21;refine(iK (ap (x:=.str k) (y:=.str "at") (ix (i:=0) rfl) rfl (by rw[aV,decide_eq_false (zD h1)]))).trans ((iK (ap (x:=.str k) (y:=bO) (ix (i:=0) rfl) rfl (by rw[zE,h1];rfl))).trans rfl)
  .have e1:(Dt.t [.str (qa0 "at"),.str l]::r).filterMap lnO=l::r.filterMap lnO:=by rw[qb9];unfold lnO;rw[O]
   have e2:plc c (Dt.t [.str (qa0 "at"),.str l]::r)=(l,c)::plc c r:=by simp only[plc,O]
   rw[e1]at hn;rw[e2];have U:((P++[(l,c)]).map (·.1)++r.filterMap lnO).Nodup:=by rw[qd1,qh4];exact hn
   obtain⟨y2,Z,ih⟩:=iX s0 r (P++[(l,c)]) c (ς (.f (.t [.str (qa0 "at"),.str l]))) hg' U (by simp at hl ⊢;lia);rw[qh4]at ih;refine⟨y2,Z,(bx (r:=r) rfl ?_).trans ih⟩;unfold y21;refine(gh (ap (x:=.str (qa0 "at")) (y:=.str "at") (ix (i:=0) rfl) rfl (by rw[aV,decide_eq_true rfl]))).trans ?_;exact zC (c:=c) rfl (ix (i:=1) rfl) rfl (by rw[qd1,ql9]at U;exact U.1) (by simp at hl;lia)
  .have e1:(Dt.t (.str k::ps)::r).filterMap lnO=r.filterMap lnO:=by rw[qb9];unfold lnO;rw[O]
   have e2:plc c (Dt.t (.str k::ps)::r)=plc (c+1) r:=by simp only[plc,O]
   rw[e1]at hn;rw[e2];obtain⟨y2,Z,ih⟩:=iX s0 r P (c+1) (ς (.f (.t (.str k::ps)))) hg' hn (by simp at hl;lia);refine⟨y2,Z,(bx (r:=r) rfl ?_).trans ih⟩;unfold y21;refine(iK (ap (x:=.str k) (y:=.str "at") (ix (i:=0) rfl) rfl (by rw[aV,decide_eq_false h2]))).trans ((gh (ap (x:=.str k) (y:=bO) (ix (i:=0) rfl) rfl (by rw[zE,h1];rfl))).trans ?_);rfl
theorem zF{ds:η Dt}(O:∀d∈ds,Gd d)(U:(ds.filterMap lnO).Nodup)(Z:ds.length<=1000):q19 [.e ds]=ς (.dct (pK (plc 0 ds))):=by unfold q19;obtain⟨y2,y3,e⟩:=iX (ς (.f (.e ds))) ds [] 0 ψ O (by simpa using U) (by simpa using Z);exact dRt (jP (d:=.dct []) rfl (cj (d:=.int 0) rfl ((bn (dN (ds:=ds) rfl e)).trans rfl)))
def kX(k:Str):Bool:=decide (k=qa0 "if")||decide (k=qa0 "go")
def mP(P:η (Str×Nat)):Dt->Dt ⊕ Str
 | .t (.str k::ps)=>if kX k then(match ps.getLast? with
     |some (.str l)=>(match P.lookup l with
      |none=>.inr l
      |some c=>.inl (.t (.str k::(ps.dropLast++[.int c]))))
     |_=>.inl (.t (.str k::ps)))else .inl (.t (.str k::ps))
 |d=>.inl d
def c7(P:η (Str×Nat)):η Dt->η Dt ⊕ Str
 |[]=>.inl []
 |d::r=>if(cQ d).isSome then c7 P r else match mP P d with
  |.inr l=>.inr l
  |.inl y=>match c7 P r with
   |.inl ys=>.inl (y::ys)
   |.inr l=>.inr l
theorem wq(l:η Dt)(z:Dt):fg (l++[z]) ψ (ς (-1))=l:=by
 have e2:HT.sIx (l++[z]).length (l++[z]).length (ς (-1:Int))=l.length:=by show(if(-1:Int)<0 then((-1:Int)+((l++[z]).length:Int)).toNat else min (-1:Int).toNat (l++[z]).length)=_;rw[if_pos Ω];simp only[qd6,qc4,qj9];lia
 unfold fg;rw[HT.E5,e2];simp
theorem uW(h:f δ=ς (.t (l++[z]))):toD (vSl f cH (a0 (toD (hJ (kD (.int 1)))))) δ=ς (.t l):=by
 refine ah (t:=.f (.t l)) ((fN h (lo:=ψ) (hi:=ς (-1)) rfl rfl).trans ?_)
 have e2:HT.sIx (l++[z]).length (l++[z]).length (ς (-1:Int))=l.length:=by show(if(-1:Int)<0 then((-1:Int)+((l++[z]).length:Int)).toNat else min (-1:Int).toNat (l++[z]).length)=_;rw[if_pos Ω];simp only[qd6,qc4,qj9];lia
 show(if HT.sIx (l++[z]).length 0 ψ=0/\HT.sIx (l++[z]).length (l++[z]).length (ς (-1))=(l++[z]).length then ψ else ς (T.f (.t (fg (l++[z]) ψ (ς (-1))))))=_;rw[if_neg (fun q=>by rw[e2]at q;simp at q),wq]
theorem jX(h:f δ=ς (.t (l++[z]))):toD (d2 au f (toD (hJ (kD (.int 1))))) δ=ς z:=ah (t:=.f z) ((aM h (y:=.int (-1)) rfl).trans (by rw[uu,uN];rfl))
theorem uX(d:Dt)(l:η Dt)(e:Dt)(h:l.length<=900):nH (.t (d::l)) (.t [e])=ς (.f (.t (d::l++[e]))):=ym ⟨b8 (by simp;lia),Ξ,Ξ⟩
theorem pV{k:Str}(h:kX k=ξ):mP P (.t (.str k::ps))=.inl (.t (.str k::ps)):=by simp[mP,h]
theorem mz{k l:Str}{m:η Dt}(h:kX k=θ):mP P (.t (.str k::(m++[.str l])))=match P.lookup l with|none=>.inr l|some c=>.inl (.t (.str k::(m++[.int c]))):=by simp[mP,h]
theorem zG(P:η (Str×Nat)){d:Dt}(hg:Gd d)(hk:cQ d=ψ):q18 [d,.dct ((pK P).map (·.1)) ((pK P).map (·.2))]=ς (match mP P d with|.inl y=>.f y|.inr l=>.rse "NoLabel" [("word",.str l)]):=by
 rcases hg.cases' with ⟨k,x,n,h1,rfl,h⟩|⟨l,h1,rfl,h⟩|⟨k,ps,h1,h2,rfl,_,hp,hl⟩
 .rw[h]at hk;cases hk
 .rw[h]at hk;cases hk
 unfold q18;have ix:∀U O:ζ T,toD (d2 au (vB 0) (kD (.int 0))) [ς (.f (.t (.str k::ps))),U,O]=ς (.str k):=fun U O=>gk (i:=0) (l:=.str k::ps) rfl rfl
 have t1:∀U O:ζ T,tB2 (bv θ) (toD (d2 au (vB 0) (kD (.int 0)))) (kD gz) [ς (.f (.t (.str k::ps))),U,O]=ς (!kX k):=fun U O=>ap (y:=gz) (ix U O) rfl (by unfold gz;rw[iJ (by rfl)];simp only[qe6,qj0,jd,qh0,if_true];rw[dcm (qa0 "if"),dcm (qa0 "go")];rfl)
 cases hL:kX k with
 |false=>rw[pV hL];exact dRt (bD ((t1 _ _).trans (by rw[hL];rfl)) rfl)
 |true=>
  obtain⟨m,l,rfl⟩:=hl (by unfold kX at hL;simpa only[qe2,decide_eq_true_eq] using hL);rw[mz hL];have hz:∀U O:ζ T,vB 0 [ς (.f (.t (.str k::(m++[.str l])))),U,O]=ς (.t ((.str k::m)++[.str l])):=fun U O=>rfl
  refine(congrArg A7 (((bc ((t1 _ _).trans (by rw[hL];rfl))).trans (cj (d:=.str l) (r:=ς (.rt (match P.lookup l with|none=>.rse "NoLabel" [("word",.str l)]|some c=>.f (.t (.str k::(m++[.int c])))))) (jX (hz _ _)) ?_)))).trans ?_
  .dsimp only[qe3];show ao _ _ [ς (.f (.t (.str k::(m++[.str l])))),ς (.f (.dct ((pK P).map (·.1)) ((pK P).map (·.2)))),ς (.f (.str l))]=_
   have t2:tB2 (bv θ) (vB 2) (vB 1) [ς (.f (.t (.str k::(m++[.str l])))),ς (.f (.dct ((pK P).map (·.1)) ((pK P).map (·.2)))),ς (.f (.str l))]=ς (!(P.lookup l).isSome):=ap (x:=.str l) (y:=.dct ((pK P).map (·.1)) ((pK P).map (·.2))) rfl rfl (by rw[yr];show(ς (qm8 l:Key)).map _=_;rw[qf6,jW];cases P.lookup l<;>rfl)
   cases Z:P.lookup l with
   |none=>exact bD (t2.trans (by rw[Z];rfl)) rfl
   |some c=>refine(bc (t2.trans (by rw[Z];rfl))).trans (aG ?_);refine(aM (uW (hz _ _)) (y:=.t [.int c]) (f6 (aq (d:=.int c) (ah (t:=.f (.int c)) ((aM (x:=.dct ((pK P).map (·.1)) ((pK P).map (·.2))) (y:=.str l) rfl rfl).trans ?_)) rfl) Ξ)).trans (uX _ _ _ (by simp at hp;lia));rw[yq];show(ς (qm8 l:Key)).bind _=_;rw[qa1,jW,Z];rfl
  .cases P.lookup l<;>rfl
theorem oh(P:η (Str×Nat)):∀{ds:η Dt},(∀d∈ds,Gd d)->ja (ak 0) z57 q18 iG [ψ,ς (.f (.dct ((pK P).map (·.1)) ((pK P).map (·.2))))] ds=ς (match c7 P ds with|.inl ys=>.inl ys|.inr l=>.inr (.rse "NoLabel" [("word",.str l)]))
 |[],_=>rfl
 |d::r,h=>by
  have Z:=h d qa8;have ih:=oh P fun y hy=>h y (qa3 _ hy)
  have ec:z57 [ς (.f d),ς (.f (.dct ((pK P).map (·.1)) ((pK P).map (·.2))))]=ς (!(cQ d).isSome):=by
   have U:∀{ps:η Dt}{k:Str}{x1:ζ T},toD (d2 au (vB 0) (kD (.int 0))) [ς (.f (.t (.str k::ps))),x1]=ς (.str k):=fun {ps k x1}=>gk (i:=0) (l:=.str k::ps) rfl rfl
   rcases Z.cases' with ⟨k,x,n,h1,rfl,O⟩|⟨l,h1,rfl,O⟩|⟨k,ps,h1,h2,rfl,O,_,_⟩
   .rw[O];exact b3 (a:=false) (b:=false) (ap (y:=bO) U rfl (by rw[zE,h1];rfl)) fun z=>nomatch z
   .rw[O];exact b3 (a:=true) (b:=false) (ap (y:=bO) U rfl (by rw[zE,show bN (qa0 "at")=ξ by decide +kernel];rfl)) fun _=>ap (y:=.str "at") U rfl (by rw[gS,decide_eq_true rfl];rfl)
   .rw[O];exact b3 (a:=true) (b:=true) (ap (y:=bO) U rfl (by rw[zE,h1];rfl)) fun _=>ap (y:=.str "at") U rfl (by rw[gS,decide_eq_false h2];rfl)
  unfold ja;rw[show ak 0 d [ψ,ς (.f (.dct ((pK P).map (·.1)) ((pK P).map (·.2))))]=ς [ς (.f d),ς (.f (.dct ((pK P).map (·.1)) ((pK P).map (·.2))))]from rfl,qa1,ec,qa1];unfold c7;cases O:cQ d with
  |some p=>simp only[Option.isSome_some,zd4,qc6,if_false,if_true];exact ih
  |none=>
   simp only[Option.isSome_none,zc0,if_true,qc6,if_false];rw[show iG [ς (.f d),ς (.f (.dct ((pK P).map (·.1)) ((pK P).map (·.2))))]=ς [d,.dct ((pK P).map (·.1)) ((pK P).map (·.2))]from rfl,qa1,zG P Z O,qa1];cases mP P d with
   |inr l=>rfl
   |inl y=>show(ς y).bind (fun y=>(ja (ak 0) z57 q18 iG [ψ,ς (.f (.dct ((pK P).map (·.1)) ((pK P).map (·.2))))] r).map _)=_;rw[qa1,ih];cases c7 P r<;>rfl
variable{ft:De->ζ Bool}
theorem pW(g:Dt->Dt)(p:Dt->Bool)(f:Dt->Dt):∀{l:η Dt},(∀a∈l,∃O,bb (g a) δ=ς O/\ft O=ς (p a)/\(p a=θ->fe O=ς (f a)))->bJ bb ft fe δ (l.map g)=ς ((l.filter p).map f)
 |[],_=>rfl
 |a::l,h=>by
  obtain⟨O,h1,h2,h3⟩:=h a qa8;have Z:=pW g p f fun e he=>h e (qa3 _ he)
  rw[qb3];unfold bJ;rw[h1,qa1,h2,qa1];cases U:p a with
  |true=>rw[if_pos rfl,h3 U,qa1,Z,qz2 U];rfl
  |false=>rw[if_neg Ξ,Z,qz3 (by simp[U])]
def kin(w0 w1:Str):Dt->Bool
 |.t (.str k::_)=>decide (w0=k)||decide (w1=k)
 |_=>ξ
def hdT:Dt->Dt
 |.t [.str k,x,n]=>.t [x,n,.bl (gW k)]
 |d=>d
def HW(w0 w1:Str):Prop:=∀k,(decide (w0=k)||decide (w1=k))=θ->bN k=θ/\decide (k=w1)=gW k
theorem EG:HW (qa0 "cell") (qa0 "twin"):=fun k h=>by rw[qe2,decide_eq_true_eq,decide_eq_true_eq]at h;rcases h with rfl|rfl<;>decide +kernel
theorem EH:HW (qa0 "shelf") (qa0 "twins"):=fun k h=>by rw[qe2,decide_eq_true_eq,decide_eq_true_eq]at h;rcases h with rfl|rfl<;>decide +kernel
theorem Gd.hdOf{k:Str}(h:Gd (.t (.str k::ps)))(O:bN k=θ):∃x n,ps=[.str x,.int n]:=by
 rcases h.cases' with ⟨k',x,n,h1,e,_⟩|⟨l,h1,e,_⟩|⟨k',U,h1,h2,e,_⟩
 .cases e;exact⟨x,n,rfl⟩
 .cases e;rw[show bN (qa0 "at")=ξ by decide +kernel]at O;cases O
 .cases e;rw[h1]at O;cases O
variable{w0 w1:Str}
theorem uY(hw:HW w0 w1){ds:η Dt}(Z:∀d∈ds,Gd d)(hl:ds.length<=1000):y28 [.e ds,.t [.str w0,.str w1]]=ς (.f (.t ((ds.filter (kin w0 w1)).map hdT))):=by
 unfold y28
 have e:=pW (bb:=ak 0) (ft:=q61) (fe:=q48) (δ:=[ψ,ς (.f (.t [.str w0,.str w1]))]) id (kin w0 w1) hdT (l:=ds) fun d hd=>by
  obtain⟨k,ps,rfl,_⟩:=(Z d hd).first
  have O:∀{y:Dt}{i:Nat}{x1:ζ T},(Dt.str k::ps)[i]?=ς y->toD (d2 au (vB 0) (kD (.int i))) [ς (.f (.t (.str k::ps))),x1]=ς y:=fun {y i x1} h=>gk (i:=i) (l:=.str k::ps) rfl h
  refine⟨_,rfl,ap (x:=.str k) (y:=.t [.str w0,.str w1]) (O (i:=0) rfl) rfl (by rw[iJ (by rfl)];simp only[qe6,qj0,jd,qh0,if_false,qc6];rfl),fun hp=>?_⟩
  obtain⟨hk,U⟩:=hw k hp;obtain⟨x,n,rfl⟩:=(Z _ hd).hdOf hk;show q48 [ς (.f (.t [.str k,.str x,.int n])),ς (.f (.t [.str w0,.str w1]))]=ς (.t [.str x,.int n,.bl (gW k)]);exact f6 (aq (O (i:=1) rfl) (aq (O (i:=2) rfl) (aq (d:=.bl (gW k)) (ah (t:=.f (.bl (gW k))) ((aM (O (i:=0) rfl) (gk (f:=vB 1) (i:=1) (l:=[.str w0,.str w1]) (d:=.str w1) rfl rfl)).trans (by rw[aV,U]))) rfl))) Ξ
 rw[List.map_id]at e;exact dRt (aG ((aw (x:=.e ((ds.filter (kin w0 w1)).map hdT)) (ah (t:=.e _) (cD (ds:=ds) rfl e (by rw[qa5];have:=qh5 (kin w0 w1) ds;lia)))).trans rfl))
theorem uZ:∀{ds:η Dt},(∀d∈ds,Gd d)->bJ (ak 0) z41 q56 [ψ] ds=ς ((ds.filterMap hnO).map .str)
 |[],_=>rfl
 |d::r,h=>by
  have Z:=uZ fun y hy=>h y (qa3 _ hy)
  have U:∀{ps:η Dt}{k:Str}{y:Dt}{i:Nat},(Dt.str k::ps)[i]?=ς y->toD (d2 au (vB 0) (kD (.int i))) [ς (.f (.t (.str k::ps)))]=ς y:=fun {ps k y i} h=>gk (i:=i) (l:=.str k::ps) rfl h
  unfold bJ;rw[show ak 0 d [ψ]=ς [ς (.f d)]from rfl,qa1,qb9];rcases(h d qa8).cases' with ⟨k,x,n,h1,rfl,O⟩|⟨l,h1,rfl,O⟩|⟨k,ps,h1,h2,rfl,O,_,_⟩
  .rw[show z41 [ς (.f (.t [.str k,.str x,.int n]))]=ς θ from ap (y:=bO) (U (i:=0) rfl) rfl (by rw[inH,h1]),qa1,if_pos rfl,show q56 [ς (.f (.t [.str k,.str x,.int n]))]=ς (.str x)from U (i:=1) rfl,qa1,Z];unfold hnO;rw[O];rfl
  .rw[show z41 [ς (.f (.t [.str (qa0 "at"),.str l]))]=ς ξ from ap (y:=bO) (U (i:=0) rfl) rfl (by rw[inH,show bN (qa0 "at")=ξ by decide +kernel]),qa1,if_neg Ξ,Z];unfold hnO;rw[O]
  .rw[show z41 [ς (.f (.t (.str k::ps)))]=ς ξ from ap (y:=bO) (U (i:=0) rfl) rfl (by rw[inH,h1]),qa1,if_neg Ξ,Z];unfold hnO;rw[O]
theorem u6:∀{ds:η Dt},(∀d∈ds,Gd d)->bJ (ak 0) y41 q57 [ψ] ds=ς ((ds.filterMap lnO).map .str)
 |[],_=>rfl
 |d::r,h=>by
  have Z:=u6 fun y hy=>h y (qa3 _ hy)
  have U:∀{ps:η Dt}{k:Str}{y:Dt}{i:Nat},(Dt.str k::ps)[i]?=ς y->toD (d2 au (vB 0) (kD (.int i))) [ς (.f (.t (.str k::ps)))]=ς y:=fun {ps k y i} h=>gk (i:=i) (l:=.str k::ps) rfl h
  unfold bJ;rw[show ak 0 d [ψ]=ς [ς (.f d)]from rfl,qa1,qb9];rcases(h d qa8).cases' with ⟨k,x,n,h1,rfl,O⟩|⟨l,h1,rfl,O⟩|⟨k,ps,h1,h2,rfl,O,_,_⟩
  .rw[show y41 [ς (.f (.t [.str k,.str x,.int n]))]=ς ξ from ap (y:=.str "at") (U (i:=0) rfl) rfl (by rw[aV,decide_eq_false (zD h1)]),qa1,if_neg Ξ,Z];unfold lnO;rw[O]
  .rw[show y41 [ς (.f (.t [.str (qa0 "at"),.str l]))]=ς θ from ap (y:=.str "at") (U (i:=0) rfl) rfl (by rw[aV,decide_eq_true rfl]),qa1,if_pos rfl,show q57 [ς (.f (.t [.str (qa0 "at"),.str l]))]=ς (.str l)from U (i:=1) rfl,qa1,Z];unfold lnO;rw[O];rfl
  .rw[show y41 [ς (.f (.t (.str k::ps)))]=ς ξ from ap (y:=.str "at") (U (i:=0) rfl) rfl (by rw[aV,decide_eq_false h2]),qa1,if_neg Ξ,Z];unfold lnO;rw[O]
def g8(ds J0:η Dt):Dt:=.t [.t ((ds.filter (kin (qa0 "cell") (qa0 "twin"))).map hdT),.t ((ds.filter (kin (qa0 "shelf") (qa0 "twins"))).map hdT),.t J0]
def jg(ds:η Dt):T:=match fC ξ 0 ds with
 |some j=>.rse "BadLine" [("at",.int j)]
 |none=>match cP [] (ds.filterMap hnO)with
  |some w=>.rse "Twice" [("word",.str w)]
  |none=>match cP [] (ds.filterMap lnO)with
   |some w=>.rse "Twice" [("word",.str w)]
   |none=>match c7 (plc 0 ds) ds with
    |.inr l=>.rse "NoLabel" [("word",.str l)]
    |.inl J0=>.f (g8 ds J0)
theorem gE(P:η (Str×Nat)):∀{ds J0:η Dt},c7 P ds=.inl J0->J0.length<=ds.length
 |[],_,h=>by cases h;exact nL _
 |d::r,J0,h=>by
  unfold c7 at h;split at h
  .have:=gE P h;simp only[qc4];lia
  .split at h
   .cases h
   .split at h
    .rename_i ys e;cases h;have:=gE P e;simp only[qc4];lia
    .cases h
abbrev dA(tx:Str)(ds:η Dt):De:=[ς (.f (.str tx)),ς (.e ds),ψ,ψ]
abbrev dB(tx:Str)(ds:η Dt)(x:ζ T):De:=[ς (.f (.str tx)),ς (.f (.e ds)),ς (.f (.dct ((pK (plc 0 ds)).map (·.1)) ((pK (plc 0 ds)).map (·.2)))),x]
theorem EI(h0:L≠[])(hc:∀s∈L,Cl 900 s)(hl:L.length<=900):jl [.str (qe0 ⟨#[10]⟩ L)]=ς (jg (L.map rd)):=by
 unfold jl jg;obtain⟨l1,l2⟩:=tJ h0 hc hl
 have hor:∀d∈L.map rd,d=.non∨Gd d:=fun d hd=>by obtain⟨s,_,rfl⟩:=qc9.mp hd;exact rM s
 have hlen:(L.map rd).length<=900:=by rw[qa5];exact hl
 have sx:∀t,z19 [.str (qe0 ⟨#[10]⟩ L)]=ς t->((aa (vL 0) af) [ς (.f (.str (qe0 ⟨#[10]⟩ L))),ψ,ψ,ψ]).bind z19=ς t:=fun t h=>h
 cases hs:fC ξ 0 (L.map rd)with
 |some j=>
  have e1:sSX 1 z19 (aa (vL 0) af) [ς (.f (.str (qe0 ⟨#[10]⟩ L))),ψ,ψ,ψ]=ς (.rt (.rse "BadLine" [("at",.int j)])):=by unfold sSX;rw[sx _ (l1 j hs)];rfl
  exact dRt (dw e1)
 |none=>
  have O:=lA hor hs
  have e1:sSX 1 z19 (aa (vL 0) af) [ς (.f (.str (qe0 ⟨#[10]⟩ L))),ψ,ψ,ψ]=ς (.nx [ς (.f (.str (qe0 ⟨#[10]⟩ L))),ς (.e (L.map rd)),ψ,ψ]):=by unfold sSX;rw[sx _ (l2 hs)];rfl
  generalize L.map rd=ds at*
  generalize qe0 ⟨#[10]⟩ L=tx at*
  have n0:toD (bu [ψ] (fIt (vB 1)) (ak 0) z41 q56) (dA tx ds)=ς (.e ((ds.filterMap hnO).map .str)):=ah (t:=.e _) (cD (ds:=ds) rfl (uZ O) (by rw[qa5];have:=qm0 hnO ds;lia));have n1:toD (bu [ψ] (fIt (vB 1)) (ak 0) y41 q57) (dA tx ds)=ς (.e ((ds.filterMap lnO).map .str)):=ah (t:=.e _) (cD (ds:=ds) rfl (u6 O) (by rw[qa5];have:=qm0 lnO ds;lia));have t0:=uT (ws:=ds.filterMap hnO) (by have:=qm0 hnO ds;lia);have t1:=uT (ws:=ds.filterMap lnO) (by have:=qm0 lnO ds;lia)
  have U:∀(f:De->ζ Dt)(ws:η Str),f (dA tx ds)=ς (.e (ws.map .str))->∀t,y13 [.e (ws.map .str)]=ς t->((aa f af) (dA tx ds)).bind y13=ς t:=fun f ws h t ht=>by rw[aq h (ds:=[]) rfl];exact ht
  cases h1:cP [] (ds.filterMap hnO)with
  |some w=>rw[h1]at t0;refine dRt ((bn e1).trans (dw ?_));unfold sCX;rw[U _ _ n0 _ t0];rfl
  |none=>
   rw[h1]at t0
   have e2:sCX y13 (aa (toD (bu [ψ] (fIt (vB 1)) (ak 0) z41 q56)) af) (dA tx ds)=ς (.nx (dA tx ds)):=by unfold sCX;rw[U _ _ n0 _ t0];rfl
   cases h2:cP [] (ds.filterMap lnO)with
   |some w=>rw[h2]at t1;refine dRt ((bn e1).trans ((bn e2).trans (dw ?_)));unfold sCX;rw[U _ _ n1 _ t1];rfl
   |none=>
    rw[h2]at t1
    have e3:sCX y13 (aa (toD (bu [ψ] (fIt (vB 1)) (ak 0) y41 q57)) af) (dA tx ds)=ς (.nx (dA tx ds)):=by unfold sCX;rw[U _ _ n1 _ t1];rfl
    have hnd:(ds.filterMap lnO).Nodup:=by have:=pT h2 qm7;simpa using this
    have e4:gt 1 (aF 2 (toT (toD (ag q19 (aa (vL 1) af))))) (dA tx ds)=ς (.nx (dB tx ds ψ)):=by show aF 2 (toT (toD (ag q19 (aa (vL 1) af)))) [ς (.f (.str tx)),ς (.f (.e ds)),ψ,ψ]=_;rw[fM (gT (ah (t:=.dct (pK (plc 0 ds))) ((aw (x:=.e ds) rfl).trans (zF O hnd Θ))))];rfl
    have hc2:=oh (plc 0 ds) O
    have Z:sXC 3 [ψ,ς 2] (fIt (vB 1)) (ak 0) z57 q18 iG (dB tx ds ψ)=match c7 (plc 0 ds) ds with
        |.inl ys=>ς (.nx (dB tx ds (ς (.e ys))))
        |.inr l=>ς (.rt (.rse "NoLabel" [("word",.str l)])):=by
     unfold sXC;rw[show fIt (vB 1) (dB tx ds ψ)=ς ds from rfl,qa1,if_pos (b8 Θ),show dC [ψ,ς 2] (dB tx ds ψ)=[ψ,ς (.f (.dct ((pK (plc 0 ds)).map (·.1)) ((pK (plc 0 ds)).map (·.2))))]from rfl,hc2,qa1];cases c7 (plc 0 ds) ds<;>rfl
    cases h3:c7 (plc 0 ds) ds with
    |inr l=>rw[h3]at Z;exact dRt ((bn e1).trans ((bn e2).trans ((bn e3).trans ((bn e4).trans (dw Z)))))
    |inl J0=>rw[h3]at Z;have hrl:=gE _ h3;refine dRt ((bn e1).trans ((bn e2).trans ((bn e3).trans ((bn e4).trans ((bn Z).trans ?_)))));show aQ _ (dB tx ds (ς (.e J0)))=_;exact aG (lq (aq (ah (t:=.f _) ((bH (x:=.e ds) (y:=pk) rfl rfl).trans (uY EG O Θ))) (aq (ah (t:=.f _) ((bH (x:=.e ds) (y:=km) rfl rfl).trans (uY EH O Θ))) (aq (d:=.t J0) (ah (t:=.f (.t J0)) ((aw (x:=.e J0) rfl).trans rfl)) rfl))) Ξ)
abbrev dE(s0 s1 s2 x3 x4 s5 s6 s7:ζ T):De:=[s0,s1,s2,x3,x4,s5,s6,s7]
theorem mC{d:Dt}(h:Gd d):(∃k x n,bN k=θ/\d=.t [.str k,.str x,.int n]/\cQ d=ς (ξ,x)/\itD ξ d=.e [.str k,.t [.str x,.int n,.bl (gW k)]])∨(∃l,d=.t [.str (qa0 "at"),.str l]/\cQ d=ς (θ,l)/\itD ξ d=.e [.str (qa0 "at"),.str l])∨∃k ps,bN k=ξ/\k≠qa0 "at"/\d=.t (.str k::ps)/\cQ d=ψ/\itD ξ d=.e [.str (qa0 "row"),d]/\ps.length<=900/\((k=qa0 "if"∨k=qa0 "go")->∃m l,ps=m++[.str l]):=by
 rcases h.cases' with ⟨k,x,n,h1,rfl,O⟩|⟨l,h1,rfl,O⟩|⟨k,ps,h1,h2,rfl,O,h3,U⟩
 .exact .inl ⟨k,x,n,h1,rfl,O,by simp[itD,h1]⟩
 .have hi:bN (qa0 "at")=ξ:=by decide +kernel
  exact .inr (.inl ⟨l,rfl,O,by simp[itD,hi]⟩)
 .exact .inr (.inr ⟨k,ps,h1,h2,rfl,O,by simp[itD,h1,h2],h3,U⟩)
theorem zH{k:Str}(h:bN k=θ):k≠qa0 "row":=by rcases eT h with rfl|rfl|rfl|rfl<;>decide +kernel
theorem mD(s0 s1 x4 O U Z:ζ T)(c:Nat)(k:Str):(aF 2 (toT (toD (d2 aB (vB 2) (toD (ag fR (aa (toD (d2 (gEq ξ) (vB 3) (kD (.str "row")))) af))))))) (dE s0 s1 (ς (.f (.int c))) (ς (.f (.str k))) x4 O U Z)=ς (.nx (dE s0 s1 (ς (.f (.int ((c+(if k=qa0 "row" then 1 else 0):Nat):Int)))) (ς (.f (.str k))) x4 O U Z)):=by
 rw[fM (gT (je (x:=c) (y:=if decide (k=qa0 "row")then 1 else 0) rfl (ah (t:=.f (.int _)) ((aw (x:=.bl (decide (k=qa0 "row"))) (ah (t:=.f (.bl _)) ((aM (x:=.str k) (y:=.str "row") rfl rfl).trans aV))).trans rfl))))];by_cases h:k=qa0 "row"
 .rw[decide_eq_true h,if_pos h];rfl
 .rw[decide_eq_false h,if_neg h];simp only[qc6,if_false,Int.add_zero,Nat.add_zero];rfl
theorem lC (s0 U O Z:ζ T):∀ (ds:η Dt) (P:η (Str×Nat)) (c:Nat) (x3 x4:ζ T),(∀ d∈ds,Gd d)->(P.map (·.1)++ds.filterMap lnO).Nodup->P.length+ds.length<=1000→
  ∃y2 y3 y4,cW (fH 2 (aJ (ak 3) (aJ (ak 4) cE))) z21 (ds.map (itD ξ)) (dE s0 (ς (.dct (pK P))) (ς (.f (.int c))) x3 x4 U O Z)=ς (.nx (dE s0 (ς (.dct (pK (P++plc c ds)))) y2 y3 y4 U O Z))
 |[],P,c,x3,x4,_,_,_=>⟨ς (.f (.int c)),x3,x4,by unfold plc;rw[qd2];rfl⟩
 |d::r,P,c,x3,x4,hg,hn,hl=>by
  have hg':∀d∈r,Gd d:=fun y hy=>hg y (qa3 _ hy)
  rw[qb3];rcases mC (hg d qa8)with ⟨k,x,n,h1,rfl,hk,hi⟩|⟨l,rfl,hk,hi⟩|⟨k,ps,h1,h2,rfl,hk,hi,_,_⟩
  .have e1:(Dt.t [.str k,.str x,.int n]::r).filterMap lnO=r.filterMap lnO:=by rw[qb9];unfold lnO;rw[hk]
   have e2:plc c (Dt.t [.str k,.str x,.int n]::r)=plc c r:=by simp only[plc,hk]
   rw[e1]at hn;rw[e2,hi];obtain⟨y2,y3,y4,ih⟩:=lC s0 U O Z r P c (ς (.f (.str k))) (ς (.f (.t [.str x,.int n,.bl (gW k)]))) hg' hn (by simp at hl;lia);refine⟨y2,y3,y4,(bx (r:=r.map (itD ξ)) rfl ?_).trans ih⟩;unfold z21;refine(bc (ap (x:=.str k) (y:=.str "at") rfl rfl (by rw[aV,decide_eq_false (zD h1)]))).trans ((mD s0 _ _ U O Z c k).trans ?_);rw[if_neg (zH h1)];rfl
  .have e1:(Dt.t [.str (qa0 "at"),.str l]::r).filterMap lnO=l::r.filterMap lnO:=by rw[qb9];unfold lnO;rw[hk]
   have e2:plc c (Dt.t [.str (qa0 "at"),.str l]::r)=(l,c)::plc c r:=by simp only[plc,hk]
   rw[e1]at hn;rw[e2,hi];have hn2:((P++[(l,c)]).map (·.1)++r.filterMap lnO).Nodup:=by rw[qd1,qh4];exact hn
   obtain⟨y2,y3,y4,ih⟩:=lC s0 U O Z r (P++[(l,c)]) c (ς (.f (.str (qa0 "at")))) (ς (.f (.str l))) hg' hn2 (by simp at hl ⊢;lia);rw[qh4]at ih;refine⟨y2,y3,y4,(bx (r:=r.map (itD ξ)) rfl ?_).trans ih⟩;unfold z21;refine(bn (δ':=dE s0 (ς (.dct (pK (P++[(l,c)])))) (ς (.f (.int c))) (ς (.f (.str (qa0 "at")))) (ς (.f (.str l))) U O Z) ((gh (ap (x:=.str (qa0 "at")) (y:=.str "at") rfl rfl (by rw[aV,decide_eq_true rfl]))).trans ?_)).trans ((mD s0 _ _ U O Z c (qa0 "at")).trans ?_)
   .exact zC (c:=c) rfl rfl rfl (by rw[qd1,ql9]at hn2;exact hn2.1) (by simp at hl;lia)
   .rw[if_neg χ];rfl
  .have e1:(Dt.t (.str k::ps)::r).filterMap lnO=r.filterMap lnO:=by rw[qb9];unfold lnO;rw[hk]
   have e2:plc c (Dt.t (.str k::ps)::r)=plc (c+1) r:=by simp only[plc,hk]
   rw[e1]at hn;rw[e2,hi];obtain⟨y2,y3,y4,ih⟩:=lC s0 U O Z r P (c+1) (ς (.f (.str (qa0 "row")))) (ς (.f (.t (.str k::ps)))) hg' hn (by simp at hl;lia);refine⟨y2,y3,y4,(bx (r:=r.map (itD ξ)) rfl ?_).trans ih⟩;unfold z21;refine(bc (ap (x:=.str (qa0 "row")) (y:=.str "at") rfl rfl (by rw[aV,decide_eq_false χ]))).trans ((mD s0 _ _ U O Z c (qa0 "row")).trans ?_);rw[if_pos rfl]
theorem wu (s0 s2 x3 x4 U Z:ζ T) (P:η (Str×Nat)) (O:η Dt) (ha:O.length<=1000) {d:Dt} (hg:Gd d):∃ δ1 y3 y4,fH 2 (aJ (ak 3) (aJ (ak 4) cE)) (itD ξ d) (dE s0 (ς (.dct (pK P))) s2 x3 x4 (ς (.e O)) U Z)=ς δ1∧
  y12 δ1=if(cQ d).isSome then ς (.nx (dE s0 (ς (.dct (pK P))) s2 y3 y4 (ς (.e O)) U Z))else match mP P d with
   |.inr l=>ς (.rt (.e [.str "label",.str l]))
   |.inl y=>ς (.nx (dE s0 (ς (.dct (pK P))) s2 y3 y4 (ς (.e (O++[y]))) U Z)):=by
 have tr:∀(k:Str)(x4 s5:ζ T),tB2 (gEq ξ) (vB 3) (kD (.str "row")) (dE s0 (ς (.dct (pK P))) s2 (ς (.f (.str k))) x4 s5 U Z)=ς (decide (k=qa0 "row")):=fun k x4 s5=>ap (x:=.str k) (y:=.str "row") rfl rfl aV
 rcases mC hg with ⟨k,x,n,h1,rfl,hk,hi⟩|⟨l,rfl,hk,hi⟩|⟨k,ps,h1,h2,rfl,hk,hi,hp,hled⟩
 .rw[hk,hi];refine⟨_,ς (.f (.str k)),ς (.f (.t [.str x,.int n,.bl (gW k)])),rfl,?_⟩;have q:decide (k=qa0 "row")=ξ:=decide_eq_false (zH h1);unfold y12;exact(bc (b3 (a:=false) (b:=false) ((tr k _ _).trans (by rw[q])) fun z=>nomatch z)).trans ((iK ((tr k _ _).trans (by rw[q]))).trans rfl)
 .rw[hk,hi];refine⟨_,ς (.f (.str (qa0 "at"))),ς (.f (.str l)),rfl,?_⟩;have q:decide (qa0 "at"=qa0 "row")=ξ:=by decide +kernel
  unfold y12;exact(bc (b3 (a:=false) (b:=false) ((tr _ _ _).trans (by rw[q])) fun z=>nomatch z)).trans ((iK ((tr _ _ _).trans (by rw[q]))).trans rfl)
 .rw[hk,hi];simp only[Option.isSome_none,qc6,if_false]
  have tL:∀s5:ζ T,cN (tB2 (gEq ξ) (vB 3) (kD (.str "row"))) (tB2 (bv ξ) (toD (d2 au (vB 4) (kD (.int 0)))) (toD (cT (aa (kD (.str "go")) (aa (kD (.str "if")) af))))) (dE s0 (ς (.dct (pK P))) s2 (ς (.f (.str (qa0 "row")))) (ς (.f (.t (.str k::ps)))) s5 U Z)=ς (kX k):=fun s5=>by refine(b3 (a:=true) (b:=kX k) ((tr _ _ _).trans (by rw[decide_eq_true rfl])) fun _=>ap (y:=.t [.str "go",.str "if"]) (gk (i:=0) (l:=.str k::ps) rfl rfl) rfl ?_).trans (by rw[qk9]);rw[iJ (by rfl)];simp only[qe6,qj0,jd,qh0,if_false,qc6];rw[dcm (qa0 "if"),dcm (qa0 "go"),Bool.or_comm];rfl
  have app:∀y,(sIf (tB2 (gEq ξ) (vB 3) (kD (.str "row"))) (y17 5 (vL 4)) bg) (dE s0 (ς (.dct (pK P))) s2 (ς (.f (.str (qa0 "row")))) (ς (.f y)) (ς (.e O)) U Z)=ς (.nx (dE s0 (ς (.dct (pK P))) s2 (ς (.f (.str (qa0 "row")))) (ς (.f y)) (ς (.e (O++[y]))) U Z)):=fun y=>by refine(gh ((tr _ _ _).trans (by rw[decide_eq_true rfl]))).trans ?_;rw[mh (l:=O) (d:=y) rfl rfl Θ];rfl
  cases hL:kX k with
  |false=>rw[pV hL];refine⟨_,ς (.f (.str (qa0 "row"))),ς (.f (.t (.str k::ps))),rfl,?_⟩;unfold y12;exact(bc ((tL _).trans (by rw[hL]))).trans (app _)
  |true=>
   obtain⟨m,l,rfl⟩:=hled (by unfold kX at hL;simpa only[qe2,decide_eq_true_eq] using hL);rw[mz hL];have hz:vB 4 (dE s0 (ς (.dct (pK P))) s2 (ς (.f (.str (qa0 "row")))) (ς (.f (.t (.str k::(m++[.str l]))))) (ς (.e O)) U Z)=ς (.t ((.str k::m)++[.str l])):=rfl
   have t2:tB2 (bv θ) (toD (d2 au (vB 4) (toD (hJ (kD (.int 1)))))) (vB 1) (dE s0 (ς (.dct (pK P))) s2 (ς (.f (.str (qa0 "row")))) (ς (.f (.t (.str k::(m++[.str l]))))) (ς (.e O)) U Z)=ς (!(P.lookup l).isSome):=ap (x:=.str l) (y:=.dct ((pK P).map (·.1)) ((pK P).map (·.2))) (jX hz) rfl (by rw[yr];show(ς (qm8 l:Key)).map _=_;rw[qf6,jW];cases P.lookup l<;>rfl)
   cases hp2:P.lookup l with
   |none=>refine⟨_,ψ,ψ,rfl,?_⟩;unfold y12;refine dw ((gh ((tL _).trans (by rw[hL]))).trans (bD (t2.trans (by rw[hp2];rfl)) (aG ?_)));exact pB (aq rfl (aq (jX hz) rfl)) Ξ
   |some c=>refine⟨_,ς (.f (.str (qa0 "row"))),ς (.f (.t (.str k::(m++[.int c])))),rfl,?_⟩;unfold y12;refine(bn (δ':=dE s0 (ς (.dct (pK P))) s2 (ς (.f (.str (qa0 "row")))) (ς (.f (.t (.str k::(m++[.int c]))))) (ς (.e O)) U Z) ((gh ((tL _).trans (by rw[hL]))).trans ((bc (t2.trans (by rw[hp2];rfl))).trans ?_))).trans (app _);refine(fM (gT (ah (t:=.f (.t (.str k::m++[.int c]))) ((aM (uW hz) (y:=.t [.int c]) (f6 (aq (d:=.int c) (ah (t:=.f (.int c)) ((aM (x:=.dct ((pK P).map (·.1)) ((pK P).map (·.2))) (y:=.str l) rfl (jX hz)).trans ?_)) rfl) Ξ)).trans (uX _ _ _ (by simp at hp;lia)))))).trans rfl;rw[yq];show(ς (qm8 l:Key)).bind _=_;rw[qa1,jW,hp2];rfl
theorem pX (s0 s2 Z s7:ζ T) (P:η (Str×Nat)):∀ (ds O:η Dt) (U x4:ζ T),(∀ d∈ds,Gd d)->O.length+ds.length<=1000->∃ y3 y4,
  cW (fH 2 (aJ (ak 3) (aJ (ak 4) cE))) y12 (ds.map (itD ξ)) (dE s0 (ς (.dct (pK P))) s2 U x4 (ς (.e O)) Z s7)=match c7 P ds with
   |.inr l=>ς (.rt (.e [.str "label",.str l]))
   |.inl ys=>ς (.nx (dE s0 (ς (.dct (pK P))) s2 y3 y4 (ς (.e (O++ys))) Z s7))
 |[],O,U,x4,_,_=>⟨U,x4,by show ς (Out.nx _)=ς (Out.nx (dE s0 (ς (.dct (pK P))) s2 U x4 (ς (.e (O++[]))) Z s7));rw[qd2]⟩
 |d::r,O,U,x4,hg,hl=>by
  have hg':∀d∈r,Gd d:=fun y hy=>hg y (qa3 _ hy)
  obtain⟨δ1,y3,y4,e1,e2⟩:=wu s0 s2 U x4 Z s7 P O Θ (hg d qa8);rw[qb3];unfold c7;cases hk:(cQ d).isSome with
  |true=>rw[hk]at e2;obtain⟨z3,z4,ih⟩:=pX s0 s2 Z s7 P r O y3 y4 hg' (by simp at hl;lia);exact⟨z3,z4,(bx e1 e2).trans ih⟩
  |false=>
   rw[hk]at e2;simp only[qc6,if_false]at e2 ⊢;cases hn:mP P d with
   |inr l=>rw[hn]at e2;exact⟨ψ,ψ,jV e1 e2⟩
   |inl y=>
    rw[hn]at e2;obtain⟨z3,z4,ih⟩:=pX s0 s2 Z s7 P r (O++[y]) y3 y4 hg' (by simp at hl ⊢;lia);refine⟨z3,z4,(bx e1 e2).trans (ih.trans ?_)⟩;cases c7 P r with
    |inr l=>rfl
    |inl ys=>simp
def zI(ds:η Dt):Dt:=match c7 (plc 0 ds) ds with
 |.inr l=>.e [.str "label",.str l]
 |.inl J0=>.e [.str "good",g8 ds J0]
theorem rR(hw:HW w0 w1){C:De->ζ Bool}(O:∀(k:Str)(t:Dt),C [ς (.f (.str k)),ς (.f t)]=ς (decide (w0=k)||decide (w1=k)))(Z:∀d∈ds,Gd d):bJ (fH 2 (aJ (ak 0) (aJ (ak 1) cE))) C (vL 1) [ψ,ψ] (ds.map (itD ξ))=ς ((ds.filter (kin w0 w1)).map hdT):=by
 have no:∀k,bN k=ξ->(decide (w0=k)||decide (w1=k))=ξ:=fun k h=>by
  cases q:(decide (w0=k)||decide (w1=k))with
  |false=>rfl
  |true=>rw[(hw k q).1]at h;cases h
 refine pW (itD ξ) (kin w0 w1) hdT fun d hd=>?_
 rcases mC (Z d hd)with ⟨k,x,n,h1,rfl,U,hi⟩|⟨l,rfl,U,hi⟩|⟨k,ps,h1,h2,rfl,U,hi,_,_⟩
 .exact⟨_,by rw[hi];rfl,O _ _,fun _=>rfl⟩
 .exact⟨_,by rw[hi];rfl,O _ _,fun z=>by have z:(decide (w0=qa0 "at")||decide (w1=qa0 "at"))=θ:=z;rw[no _ χ]at z;cases z⟩
 .refine⟨_,by rw[hi];rfl,?_,fun z=>by have z:(decide (w0=k)||decide (w1=k))=θ:=z;rw[no _ h1]at z;cases z⟩
  refine(O _ _).trans ?_;show _=ς (decide (w0=k)||decide (w1=k));rw[no _ (show bN (qa0 "row")=ξ by decide +kernel),no _ h1]
theorem FV{ds:η Dt}(hg:∀d∈ds,Gd d)(hn:(ds.filterMap lnO).Nodup)(hl:ds.length<=900):∃t,z37 [.e (ds.map (itD ξ))]=ς t/\t.d=ς (zI ds):=by
 unfold z37 zI;obtain⟨Z,y3,y4,e0⟩:=lC (ς (.f (.e (ds.map (itD ξ))))) ψ ψ ψ ds [] 0 ψ ψ hg (by simpa using hn) (by simp;lia);rw[qk0]at e0;obtain⟨z3,z4,e1⟩:=pX (ς (.f (.e (ds.map (itD ξ))))) Z ψ ψ (plc 0 ds) ds [] y3 y4 hg (by simp;lia);have f0:dP (fIt (vL 0)) (fH 2 (aJ (ak 3) (aJ (ak 4) cE))) z21 (dE (ς (.f (.e (ds.map (itD ξ))))) (ς (.dct (pK []))) (ς (.f (.int (0:Nat)))) ψ ψ ψ ψ ψ)=_:=dN (ds:=ds.map (itD ξ)) rfl e0;have O:dP (fIt (vL 0)) (fH 2 (aJ (ak 3) (aJ (ak 4) cE))) y12 (dE (ς (.f (.e (ds.map (itD ξ))))) (ς (.dct (pK (plc 0 ds)))) Z y3 y4 (ς (.e [])) ψ ψ)=_:=dN (ds:=ds.map (itD ξ)) rfl e1
 have pre:∀{o:ζ Out}{G:De->ζ Out},(ao (dP (fIt (vL 0)) (fH 2 (aJ (ak 3) (aJ (ak 4) cE))) y12) G) (dE (ς (.f (.e (ds.map (itD ξ))))) (ς (.dct (pK (plc 0 ds)))) Z y3 y4 (ς (.e [])) ψ ψ)=o->(ao (aF 1 qB) (ao (aF 2 (toT (kD (.int 0)))) (ao (dP (fIt (vL 0)) (fH 2 (aJ (ak 3) (aJ (ak 4) cE))) z21) (ao (aF 5 (aZ af)) (ao (dP (fIt (vL 0)) (fH 2 (aJ (ak 3) (aJ (ak 4) cE))) y12) G))))) (dE (ς (.f (.e (ds.map (itD ξ))))) ψ ψ ψ ψ ψ ψ ψ)=o:=fun {o G} h=>jP (d:=.dct []) rfl (cj (d:=.int 0) rfl ((bn f0).trans (jP (d:=.e []) rfl h)))
 cases h:c7 (plc 0 ds) ds with
 |inr l=>rw[h]at O;exact⟨.e [.str "label",.str l],dRt (pre (dw O)),rfl⟩
 |inl J0=>
  rw[h]at O;have O:dP (fIt (vL 0)) (fH 2 (aJ (ak 3) (aJ (ak 4) cE))) y12 (dE (ς (.f (.e (ds.map (itD ξ))))) (ς (.dct (pK (plc 0 ds)))) Z y3 y4 (ς (.e [])) ψ ψ)=ς (.nx (dE (ς (.f (.e (ds.map (itD ξ))))) (ς (.dct (pK (plc 0 ds)))) Z z3 z4 (ς (.e J0)) ψ ψ)):=O;have hrl:=gE _ h;have fl:∀w0 w1:Str,((ds.filter (kin w0 w1)).map hdT).length<=1000:=fun w0 w1=>by rw[qa5];have:=qh5 (kin w0 w1) ds;lia
  refine⟨.e [.str "good",g8 ds J0],dRt (pre ((bn O).trans ?_)),rfl⟩
  have U:∀(w0 w1 k:Str)(t:Dt) ,tB2 (bv ξ) (vB 0) (toD (cT (aa (kD (.str w0)) (aa (kD (.str w1)) af)))) [ς (.f (.str k)),ς (.f t)]=ς (decide (w0=k)||decide (w1=k)):=fun w0 w1 k t=>ap (x:=.str k) (y:=.t [.str w0,.str w1]) rfl (f6 (aq rfl (aq rfl rfl)) Ξ) (by rw[iJ (by rfl)];simp only[qe6,qj0,jd,qh0,if_false,qc6])
  refine cj (d:=.e ((ds.filter (kin (qa0 "cell") (qa0 "twin"))).map hdT)) (ah (t:=.e _) (cD (ds:=ds.map (itD ξ)) rfl (rR EG (fun k t=>U _ _ k t) hg) (by have:=fl (qa0 "cell") (qa0 "twin");lia))) ?_;refine cj (d:=.e ((ds.filter (kin (qa0 "shelf") (qa0 "twins"))).map hdT)) (ah (t:=.e _) (cD (ds:=ds.map (itD ξ)) rfl (rR EH (fun k t=>U _ _ k t) hg) (by have:=fl (qa0 "shelf") (qa0 "twins");lia))) ?_;dsimp only[qe3,dE];refine aG (pB (aq rfl (aq (d:=g8 ds J0) (f6 (aq (d:=.t ((ds.filter (kin (qa0 "cell") (qa0 "twin"))).map hdT)) (ah (t:=.f (.t _)) ((aw (x:=.e _) rfl).trans rfl)) (aq (d:=.t ((ds.filter (kin (qa0 "shelf") (qa0 "twins"))).map hdT)) (ah (t:=.f (.t _)) ((aw (x:=.e _) rfl).trans rfl)) (aq (d:=.t J0) (ah (t:=.f (.t J0)) ((aw (x:=.e J0) rfl).trans rfl)) rfl))) Ξ) rfl)) Ξ)
theorem rS{α:Type}[DecidableEq α]:∀(A S B:η α),cP S (A++B)=match cP S A with|some w=>ς w|none=>cP (S++A) B
 |[],S,B=>by rw[qd2];rfl
 |a::A,S,B=>by
  rw[qp2,eG,eG];by_cases h:a∈S
  .rw[if_pos h,if_pos h]
  .rw[if_neg h,if_neg h,rS A (S++[a]) B,qh4];rfl
theorem mE{α β:Type}[DecidableEq α][DecidableEq β](f:α->β)(O:∀a b,f a=f b->a=b):∀(A S:η α),cP (S.map f) (A.map f)=(cP S A).map f
 |[],S=>rfl
 |a::A,S=>by
  rw[qb3,eG,eG];by_cases h:a∈S
  .rw[if_pos (qv1 h),if_pos h];rfl
  .rw[if_neg (fun z=>by obtain⟨b,U,e⟩:=qc9.mp z;exact h (O _ _ e▸U)),if_neg h,<- mE f O A (S++[a]),qd1];rfl
theorem oj{α:Type}[DecidableEq α](X:η α):∀(A S:η α),(∀a∈A,a∉X)->cP (X++S) A=cP S A
 |[],S,_=>rfl
 |a::A,S,h=>by
  rw[eG,eG];have U:=oj X A (S++[a]) fun b Z=>h b (qa3 _ Z)
  rw[<- qh4]at U;by_cases O:a∈S
  .rw[if_pos (qd0 _ O),if_pos O]
  .rw[if_neg (fun z=>(qe8.mp z).elim (h a qa8) O),if_neg O];exact U
theorem zJ (H L:η Str):cP [] (H.map (fun x=>(ξ,x))++L.map fun x=>(θ,x))=match cP [] H with
  |some w=>ς (ξ,w)
  |none=>(cP [] L).map fun x=>(θ,x):=by
 have e1:=mE (fun x:Str=>(ξ,x)) (fun a b e=>(Prod.mk.inj e).2) H [];have e2:=mE (fun x:Str=>(θ,x)) (fun a b e=>(Prod.mk.inj e).2) L [];rw[rS];rw[show([]:η (Bool×Str))=([]:η Str).map fun x=>(ξ,x)from rfl,e1];cases cP [] H with
 |some w=>rfl
 |none=>
  show cP (([]:η Str).map (fun x=>(ξ,x))++H.map fun x=>(ξ,x)) (L.map fun x=>(θ,x))=_
  rw[qm1,qk0,<- qd2 (H.map fun x=>(ξ,x)),oj _ _ [] (fun a O z=>by obtain⟨x,_,rfl⟩:=qc9.mp O;obtain⟨y,_,e⟩:=qc9.mp z;cases e)]
  exact e2
theorem BG(hg:∀d∈ds,Gd d)(hs:fC ξ 0 ds=ψ):ds.filterMap cQ=(ds.filterMap hnO).map (fun x=>(ξ,x))++(ds.filterMap lnO).map fun x=>(θ,x):=by
 obtain⟨ha,rs,rfl,p1,p2,_⟩:=rN hs
 have k1:∀l:η Dt,(∀d∈l,Gd d)->(∀d∈l,hdB d=θ)->l.filterMap cQ=(l.filterMap hnO).map (fun x=>(ξ,x))/\l.filterMap lnO=[]:=fun l=>by
  induction l with
  |nil=>exact fun _ _=>⟨rfl,rfl⟩
  |cons d l Z=>
   intro g h;obtain⟨i1,i2⟩:=Z (fun y U=>g y (qa3 _ U)) fun y U=>h y (qa3 _ U)
   have hd:=h d qa8;rcases(g d qa8).cases' with ⟨k,x,n,h1,rfl,O⟩|⟨l,h1,rfl,O⟩|⟨k,ps,h1,h2,rfl,O,_,_⟩
   .refine⟨?_,?_⟩
    .rw[qb9,qb9,O,i1];unfold hnO;rw[O];rfl
    .rw[qb9,i2];unfold lnO;rw[O]
   .rw[show hdB (.t [.str (qa0 "at"),.str l])=bN (qa0 "at")from rfl,show bN (qa0 "at")=ξ by decide +kernel]at hd;cases hd
   .rw[show hdB (.t (.str k::ps))=bN k from rfl,h1]at hd;cases hd
 have k2:∀l:η Dt,(∀d∈l,Gd d)->(∀d∈l,hdB d=ξ)->l.filterMap cQ=(l.filterMap lnO).map (fun x=>(θ,x))/\l.filterMap hnO=[]:=fun l=>by
  induction l with
  |nil=>exact fun _ _=>⟨rfl,rfl⟩
  |cons d l Z=>
   intro g h;obtain⟨i1,i2⟩:=Z (fun y U=>g y (qa3 _ U)) fun y U=>h y (qa3 _ U)
   have hd:=h d qa8;rcases(g d qa8).cases' with ⟨k,x,n,h1,rfl,O⟩|⟨l,h1,rfl,O⟩|⟨k,ps,h1,h2,rfl,O,_,_⟩
   .rw[show hdB (.t [.str k,.str x,.int n])=bN k from rfl,h1]at hd;cases hd
   .refine⟨?_,?_⟩
    .rw[qb9,qb9,O,i1];unfold lnO;rw[O];rfl
    .rw[qb9,i2];unfold hnO;rw[O]
   .refine⟨?_,?_⟩
    .rw[qb9,qb9,O,i1];unfold lnO;rw[O]
    .rw[qb9,i2];unfold hnO;rw[O]
 obtain⟨a1,a2⟩:=k1 ha (fun d hd=>hg d (qj2 _ hd)) p1;obtain⟨b1,b2⟩:=k2 rs (fun d hd=>hg d (qd0 _ hd)) p2;rw[qs4,qs4,qs4,a1,a2,b1,b2,qd2,qk0]
def dQ(ds:η Dt):Dt:=match fC ξ 0 ds with
 |some j=>.e [.str "line",.int j]
 |none=>match cP [] (ds.filterMap hnO)with
  |some w=>.e [.str "twice",.str w]
  |none=>match cP [] (ds.filterMap lnO)with
   |some w=>.e [.str "twice",.str w]
   |none=>zI ds
theorem kK{t:T}{d:Dt}(h:δ[i]?=ς (ς t))(hd:t.d=ς d):gt i g δ=g (δ.set i (ς (.f d))):=by unfold gt;rw[h];show t.d.bind _=_;rw[hd];rfl
theorem Cm(hc:∀s∈L,Cl 900 s)(hl:L.length<=900):∃t,z20 [.e (L.map .str)]=ς t/\t.d=ς (dQ (L.map rd)):=by
 unfold z20 dQ;have g:=zz (ς (.f (.e (L.map .str)))) ψ ψ ψ ψ L 0 [] ξ ψ ψ ψ ψ hc (by simp;lia)
 have hor:∀d∈L.map rd,d=.non∨Gd d:=fun d hd=>by obtain⟨s,_,rfl⟩:=qc9.mp hd;exact rM s
 have O:(L.map rd).length<=900:=by rw[qa5];exact hl
 have fi:dj jI (aa (vL 0) af) (dU (ς (.f (.e (L.map .str)))) (ς (.e [])) ξ ψ ψ ψ ψ ψ ψ ψ ψ)=ς (dD 0 (L.map .str)):=rfl;cases U:fC ξ 0 (L.map rd)with
 |some j=>exact⟨.e [.str "line",.int j],dRt (jP (d:=.e []) rfl (cj (d:=.bl ξ) rfl (dw (dN fi (g.1 j U))))),rfl⟩
 |none=>
  have hg:=lA hor U;obtain⟨y2,y3,y4,y5,y6,e⟩:=g.2 U;rw[qk0]at e;have kt:=BG hg U;have ft:=zJ ((L.map rd).filterMap hnO) ((L.map rd).filterMap lnO);rw[<- kt]at ft;generalize L.map rd=ds at*
  have e0:dP (dj jI (aa (vL 0) af)) (gK 2 (aJ (ak 3) (aJ (ak 4) cE))) z17 (dU (ς (.f (.e (L.map .str)))) (ς (.e [])) ξ ψ ψ ψ ψ ψ ψ ψ ψ)=_:=dN fi e;have kg:=tM (ς (.f (.e (L.map .str)))) (ς (.f (.e (ds.map (itD ξ))))) (ς (.f (.bl y2))) y3 y4 y5 y6 ds [] ψ ψ ψ hg (by simp;lia)
  have pre:∀{o:ζ Out}{G1 Z:De->ζ Out},(ao (gt 1 G1) Z) (dV (ς (.f (.e (L.map .str)))) (ς (.e (ds.map (itD ξ)))) (ς (.f (.bl y2))) y3 y4 y5 y6 [] ψ ψ ψ)=o->(ao (aF 1 (aZ af)) (ao (aF 2 (toT (kD (.bl ξ)))) (ao (dP (dj jI (aa (vL 0) af)) (gK 2 (aJ (ak 3) (aJ (ak 4) cE))) z17) (ao (aF 7 (aZ af)) (ao (gt 1 G1) Z))))) [ς (.f (.e (L.map .str))),ψ,ψ,ψ,ψ,ψ,ψ,ψ,ψ,ψ,ψ]=o:=fun {o G1 Z} h=>jP (d:=.e []) rfl (cj (d:=.bl ξ) rfl ((bn e0).trans (jP (d:=.e []) rfl h)))
  have k1:∀p,cP [] (ds.filterMap cQ)=ς p->∃t,bX 11 ((ao (aF 1 (aZ af)) (ao (aF 2 (toT (kD (.bl ξ)))) (ao (dP (dj jI (aa (vL 0) af)) (gK 2 (aJ (ak 3) (aJ (ak 4) cE))) z17) (ao (aF 7 (aZ af)) (ao (gt 1 (dP (fIt (vL 1)) (fH 2 (aJ (ak 8) (aJ (ak 9) cE))) y15)) (gt 1 (aQ (ag z37 (aa (vL 1) af)))))))))) [.e (L.map .str)]=ς t/\t.d=ς (.e [.str "twice",.str p.2]):=fun p hp=>⟨.e [.str "twice",.str p.2],dRt (pre (dw ((kK (t:=.e (ds.map (itD ξ))) rfl rfl).trans (dN (ds:=ds.map (itD ξ)) (fi:=fIt (vL 1)) rfl (kg.1 p hp))))),rfl⟩
  cases h1:cP [] (ds.filterMap hnO)with
  |some w=>rw[h1]at ft;exact k1 (ξ,w) ft
  |none=>
   rw[h1]at ft;cases h2:cP [] (ds.filterMap lnO)with
   |some w=>rw[h2]at ft;exact k1 (θ,w) ft
   |none=>
    rw[h2]at ft;obtain⟨y7,a,b,c,q⟩:=kg.2 ft;have hnd:(ds.filterMap lnO).Nodup:=by have:=pT h2 qm7;simpa using this
    obtain⟨t,et,dt⟩:=FV hg hnd O;refine⟨t,dRt (pre ((bn (δ':=dV (ς (.f (.e (L.map .str)))) (ς (.f (.e (ds.map (itD ξ))))) (ς (.f (.bl y2))) y3 y4 y5 y6 y7 a b c) ((kK (t:=.e (ds.map (itD ξ))) rfl rfl).trans (dN (ds:=ds.map (itD ξ)) (fi:=fIt (vL 1)) rfl q))).trans ?_)),dt⟩;refine(kK (t:=.f (.e (ds.map (itD ξ)))) rfl rfl).trans ?_;exact aG ((aw (x:=.e (ds.map (itD ξ))) rfl).trans et)
theorem pY(n:Nat)(m:Int):z10 (n+1) [.int m,.int m]=ς (.f (.bl θ)):=by show z15 (z10 n) [.int m,.int m]=_;unfold z15;refine dRt ((bc rfl).trans ((bc rfl).trans (bD rfl (aG (iW (a:=true) (c:=true) rfl (fun _=>iW (a:=true) (c:=true) rfl (fun _=>(aM (x:=.int m) (y:=.int m) rfl rfl).trans (by rw[gf,decide_eq_true rfl])) fun z=>nomatch z) fun z=>nomatch z)))))
theorem jY(n:Nat)(m:Str):z10 (n+1) [.str m,.str m]=ς (.f (.bl θ)):=by show z15 (z10 n) [.str m,.str m]=_;unfold z15;refine dRt ((bc rfl).trans ((bc rfl).trans ((bc rfl).trans (aG (iW (a:=true) (c:=true) rfl (fun _=>(aM (x:=.str m) (y:=.str m) rfl rfl).trans (by rw[aV,decide_eq_true rfl])) fun z=>nomatch z)))))
theorem EJ(n:Nat)(m:Bool):z10 (n+1) [.bl m,.bl m]=ς (.f (.bl θ)):=by show z15 (z10 n) [.bl m,.bl m]=_;unfold z15;refine dRt ((bc rfl).trans (bD rfl (aG (iW (a:=true) (c:=true) rfl (fun _=>(aM (x:=.bl m) (y:=.bl m) rfl rfl).trans (by rw[D5,decide_eq_true rfl])) fun z=>nomatch z))))
theorem rT:∀n:Nat,jE (qb2 n (Dt.bl θ))=ς (qb2 n θ)
 |0=>rfl
 |n+1=>by show(jE (qb2 n (Dt.bl θ))).map (θ::·)=_;rw[rT n];rfl
theorem iY(n:Nat)(Z:l.length<=1000)(h:∀d∈l,z10 n [d,d]=ς (.f (.bl θ))):z10 (n+1) [.t l,.t l]=ς (.f (.bl θ)):=by
 show z15 (z10 n) [.t l,.t l]=_;unfold z15;have U:toD (ag br (aa (vB 1) af)) [ς (.f (.t l)),ς (.f (.t l))]=ς (.int l.length):=rfl
 have e:bJ (ak 0) bQ (y46 (z10 n)) [ψ,ς (.f (.t l)),ς (.f (.t l))] (bB 0 l.length)=ς (qb2 l.length (.bl θ)):=by
  have:=kx (bb:=ak 0) (ft:=bQ) (fe:=y46 (z10 n)) (δ:=[ψ,ς (.f (.t l)),ς (.f (.t l))]) (ds:=bB 0 l.length) (f:=fun _=>.bl θ) fun d hd=>by obtain⟨i,hi,rfl⟩:=mem_range hd;rw[qs3];have O:l[i]?=ς l[i]:=gQ hi;refine⟨_,rfl,rfl,ah (t:=.f (.bl θ)) ((bH (x:=l[i]) (y:=l[i]) (ah (t:=.f l[i]) ((aM (x:=.t l) (y:=.int i) rfl rfl).trans (by rw[uu,eS,O];rfl))) (ah (t:=.f l[i]) ((aM (x:=.t l) (y:=.int i) rfl rfl).trans (by rw[uu,eS,O];rfl)))).trans (h l[i] (qm5 hi)))⟩
  rw[this];congr 1;rw[List.map_const',eF]
 refine dRt (dw ((gh rfl).trans ((bc (orE (a:=false) (b:=false) rfl fun _=>ap (x:=.int l.length) (y:=.int l.length) rfl U (by rw[pA,decide_eq_true rfl];rfl))).trans (aG ?_))));refine(aw (ah (t:=.e (qb2 l.length (.bl θ))) (cD (ds:=bB 0 l.length) (kF U Z) e (by rw[za3];lia)))).trans ?_;show(jE (qb2 l.length (Dt.bl θ))).map _=_;rw[rT];simp
theorem EK(n:Nat){x:Dt}(h:Sc x):z10 (n+1) [x,x]=ς (.f (.bl θ)):=by
 rcases h with ⟨s,rfl⟩|⟨m,rfl⟩
 .exact jY n s
 .exact pY n m
theorem Gd.sc{k:Str}(h:Gd (.t (.str k::ps))):∀x∈ps,Sc x:=by
 cases h with
 |hd _=>intro x O;simp only[qa9,qb8,or_false]at O;rcases O with rfl|rfl;exact .inl ⟨_,rfl⟩;exact .inr ⟨_,rfl⟩
 |lb _=>intro x O;simp only[qa9,qb8,or_false]at O;rcases O with rfl;exact .inl ⟨_,rfl⟩
 |row _ _ _ _ h=>exact h
def RwOk(d:Dt):Prop:=∃k ps,d=.t (.str k::ps)/\ps.length<=901/\∀x∈ps,Sc x
theorem EL{d y:Dt}(hg:Gd d)(hk:cQ d=ψ)(h:mP P d=.inl y):RwOk y:=by
 rcases hg.cases' with ⟨k,x,n,h1,rfl,q⟩|⟨l,h1,rfl,q⟩|⟨k,ps,h1,h2,rfl,_,hp,hl⟩
 .rw[q]at hk;cases hk
 .rw[q]at hk;cases hk
 have sc:=hg.sc;cases Z:kX k with
 |false=>rw[pV Z]at h;cases h;exact⟨k,ps,rfl,Θ,sc⟩
 |true=>
  obtain⟨m,l,rfl⟩:=hl (by unfold kX at Z;simpa only[qe2,decide_eq_true_eq] using Z);rw[mz Z]at h;cases U:P.lookup l with
  |none=>rw[U]at h;cases h
  |some c=>
   rw[U]at h;cases h;refine⟨k,m++[.int c],rfl,by simp at hp ⊢;lia,fun x O=>?_⟩;rcases qe8.mp O with O|O
   .exact sc x (qj2 _ O)
   .cases qi1.mp O;exact .inr ⟨c,rfl⟩
theorem pZ:∀{ds J0:η Dt},(∀d∈ds,Gd d)->c7 P ds=.inl J0->∀y∈J0,RwOk y
 |[],_,_,h,y,O=>by cases h;cases O
 |d::r,J0,Z,h,y,O=>by
  have U:∀d∈r,Gd d:=fun y O=>Z y (qa3 _ O)
  unfold c7 at h;split at h
  .exact pZ U h y O
  .rename_i hk;split at h
   .cases h
   .rename_i z hz;split at h
    .rename_i ys e;cases h;rcases qa9.mp O with rfl|O
     .exact EL (Z d qa8) (by cases q:cQ d with|none=>rfl|some p=>rw[q]at hk;exact absurd rfl hk) hz
     .exact pZ U e y O
    .cases h
theorem ol(Z:HW w0 w1)(O:∀d∈ds,Gd d):∀y∈(ds.filter (kin w0 w1)).map hdT,z10 4 [y,y]=ς (.f (.bl θ)):=fun y hy=>by
 obtain⟨d,hd,rfl⟩:=qc9.mp hy;obtain⟨hd,hp⟩:=za0.mp hd;obtain⟨k,ps,rfl,_⟩:=(O d hd).first
 obtain⟨hk,_⟩:=Z k hp;obtain⟨x,n,rfl⟩:=(O _ hd).hdOf hk;refine iY 3 Ξ fun z U=>?_
 simp only[qa9,qb8,or_false]at U;rcases U with rfl|rfl|rfl
 .exact jY 2 _
 .exact pY 2 _
 .exact EJ 2 _
theorem zK{J0:η Dt}(U:∀d∈ds,Gd d)(hl:ds.length<=900)(h:c7 (plc 0 ds) ds=.inl J0):z10 6 [g8 ds J0,g8 ds J0]=ς (.f (.bl θ)):=by
 have fl:∀w0 w1:Str,((ds.filter (kin w0 w1)).map hdT).length<=1000:=fun w0 w1=>by rw[qa5];have:=qh5 (kin w0 w1) ds;lia
 have hrl:=gE _ h;refine iY 5 Ξ fun z O=>?_
 simp only[qa9,qb8,or_false]at O;rcases O with rfl|rfl|rfl
 .exact iY 4 (fl _ _) (ol EG U)
 .exact iY 4 (fl _ _) (ol EH U)
 .refine iY 4 Θ fun y hy=>?_
  obtain⟨k,ps,rfl,Z,sc⟩:=pZ U h y hy;refine iY 3 (by simp;lia) fun z O=>?_
  rcases qa9.mp O with rfl|O
  .exact jY 2 _
  .exact EK 2 (sc z O)
def u7:De->ζ Out:=(ao (sIf (tXn 2) (aQ (iZ (toD (d2 (gEq ξ) (toD (d2 au (vB 1) (kD (.int 0)))) (kD (.str "good")))) (ag (z10 6) (aa (vL 3) (aa (toD (d2 au (vB 1) (kD (.int 1)))) af))))) bg)
  (ao (sIf (fOr (ip (dG (toD (hU CS (fun _=>θ) (vX 2))))) (dG (toD (hU CS (fun c=>(["Unknown","Falls"]:η Str).contains c) (vX 2))))) (aQ (toT (kD (.bl ξ)))) bg)
  (ao (aF 5 (toT (toD (aZ (aa (toD (hU CS (· == "BadLine") (vX 2))) (aa (toD (hU CS (· == "Twice") (vX 2))) (aa (toD (hU CS (· == "NoLabel") (vX 2))) af)))))))
  (ao (sIf (tB2 (gEq θ) (vB 5) (toD (aZ (aa (toD (d2 (gEq ξ) (toD (d2 au (vB 1) (kD (.int 0)))) (kD (.str "line")))) (aa (toD (d2 (gEq ξ) (toD (d2 au (vB 1) (kD (.int 0)))) (kD (.str "twice")))) (aa (toD (d2 (gEq ξ) (toD (d2 au (vB 1) (kD (.int 0)))) (kD (.str "label")))) af)))))) (aQ (toT (kD (.bl ξ)))) bg)
  (ao (sIf (tB2 (gEq ξ) (toD (d2 au (vB 1) (kD (.int 0)))) (kD (.str "line"))) (aQ (ag (z10 6) (aa (sR "at" (vX 2)) (aa (toD (d2 au (vB 1) (kD (.int 1)))) af)))) bg)
  (aQ (ag (z10 6) (aa (sR "word" (vX 2)) (aa (toD (d2 au (vB 1) (kD (.int 1)))) af)))))))))
abbrev dW(s0:ζ T)(k:Str)(y:Dt)(x2 x3 x4 x5:ζ T):De:=[s0,ς (.f (.e [.str k,y])),x2,x3,x4,x5]
theorem zL(s0:ζ T)(k:Str)(y:Dt)(O U Z x5:ζ T):toD (d2 au (vB 1) (kD (.int 0))) (dW s0 k y O U Z x5)=ς (.str k)/\toD (d2 au (vB 1) (kD (.int 1))) (dW s0 k y O U Z x5)=ς y:=⟨cM (i:=0) (l:=[.str k,y]) rfl rfl,cM (i:=1) (l:=[.str k,y]) rfl rfl⟩
theorem wv(s0:ζ T)(k w:Str)(y:Dt)(O U x4 Z:ζ T):tB2 (gEq ξ) (toD (d2 au (vB 1) (kD (.int 0)))) (kD (.str w)) (dW s0 k y O U x4 Z)=ς (decide (k=w))/\toD (d2 (gEq ξ) (toD (d2 au (vB 1) (kD (.int 0)))) (kD (.str w))) (dW s0 k y O U x4 Z)=ς (.bl (decide (k=w))):=⟨ap (zL s0 k y O U x4 Z).1 rfl aV,ah (t:=.f (.bl _)) ((aM (zL s0 k y O U x4 Z).1 (y:=.str w) rfl).trans aV)⟩
theorem EM(a b c:Bool):gEq θ (.e [.bl a,.bl b,.bl c]) (.e [.bl a,.bl b,.bl c])=ς (.f (.bl ξ)):=by rw[yw rfl];rfl
theorem zM (s0:ζ T) (c k f:Str) (y:Dt) (x3:ζ T) (hc:c∈CS) (hn:(["Unknown","Falls"]:η Str).contains c=ξ) (h1:(c==qa0 "BadLine")=decide (k=qa0 "line")) (h2:(c==qa0 "Twice")=decide (k=qa0 "twice")) (h3:(c==qa0 "NoLabel")=decide (k=qa0 "label"))
  (Z:f=if k=qa0 "line" then qa0 "at" else qa0 "word") (hy:z10 6 [y,y]=ς (.f (.bl θ))):u7 (dW s0 k y (ς (.exc c [(f,y)])) x3 ψ ψ)=ς (.rt (.f (.bl θ))):=by
 unfold u7
 have is:∀(b:Str->Bool)(O:ζ T),toD (hU CS b (vX 2)) (dW s0 k y (ς (.exc c [(f,y)])) x3 ψ O)=ς (.bl (b c)):=fun b O=>by refine ah (t:=.f (.bl (b c))) ?_;show(if c∈CS then ς (T.f (.bl (b c)))else ψ)=_;rw[if_pos hc]
 refine(bc rfl).trans ?_;refine(bc (orE (a:=false) (b:=false) (iN (b:=true) (gj (is (fun _=>θ) ψ))) fun _=>gj ((is _ ψ).trans (by rw[hn])))).trans ?_;refine cj (d:=.e [.bl (c==qa0 "BadLine"),.bl (c==qa0 "Twice"),.bl (c==qa0 "NoLabel")]) (gi (aq (is _ ψ) (aq (is _ ψ) (aq (is _ ψ) rfl))) Ξ) ?_;dsimp only[qe3];rw[h1,h2,h3];refine(bc (ap (x:=.e [.bl (decide (k=qa0 "line")),.bl (decide (k=qa0 "twice")),.bl (decide (k=qa0 "label"))]) (y:=.e [.bl (decide (k=qa0 "line")),.bl (decide (k=qa0 "twice")),.bl (decide (k=qa0 "label"))]) rfl (gi (aq (wv s0 k _ y _ _ _ _).2 (aq (wv s0 k _ y _ _ _ _).2 (aq (wv s0 k _ y _ _ _ _).2 rfl))) Ξ) (EM _ _ _))).trans ?_
 have U:∀O,sR f (vX 2) (dW s0 k y (ς (.exc c [(f,y)])) x3 ψ O)=ς y:=fun O=>by show qf9 f [(f,y)]=ς y;simp[qf9]
 by_cases hk:k=qa0 "line"
 .rw[if_pos hk]at Z;subst Z;exact bD ((wv s0 k _ y _ _ _ _).1.trans (by rw[decide_eq_true hk])) (aG ((bH (U _) (zL s0 k y _ _ _ _).2).trans hy))
 .rw[if_neg hk]at Z;subst Z;exact(bc ((wv s0 k _ y _ _ _ _).1.trans (by rw[decide_eq_false hk]))).trans (aG ((bH (U _) (zL s0 k y _ _ _ _).2).trans hy))
theorem u8(h0:L≠[])(hc:∀s∈L,Cl 900 s)(hl:L.length<=900):q12 [.e (L.map .str)]=ς (.f (.bl θ)):=by
 obtain⟨t,et,dt⟩:=Cm hc hl;have er:=EI h0 hc hl
 have hor:∀d∈L.map rd,d=.non∨Gd d:=fun d hd=>by obtain⟨s,_,rfl⟩:=qc9.mp hd;exact rM s
 have hlen:(L.map rd).length<=900:=by rw[qa5];exact hl
 have ej:toD (bR cA (kD (.str "\n")) (aa (vB 0) af)) [ς (.f (.e (L.map .str))),ς (.f (dQ (L.map rd))),ς (.f .non),ς (.f .non),ψ,ψ]=ς (.str (qe0 ⟨#[10]⟩ L)):=ah (t:=.f (.str _)) (uR h0 hc hl).1;have e1:toD (ag z20 (aa (vL 0) af)) [ς (.f (.e (L.map .str))),ψ,ψ,ψ,ψ,ψ]=ς (dQ (L.map rd)):=(ah ((aw (x:=.e (L.map .str)) rfl).trans et)).trans dt
 have pre:∀ δ,sQ jl (aa (toD (bR cA (kD (.str "\n")) (aa (vB 0) af))) af) 3 4 2 [ς (.f (.e (L.map .str))),ς (.f (dQ (L.map rd))),ς (.f .non),ς (.f .non),ψ,ψ]=ς (.nx δ)->u7 δ=ς (.rt (.f (.bl θ)))->q12 [.e (L.map .str)]=ς (.f (.bl θ)):=fun δ h1 h2=>by unfold q12;exact dRt (cj e1 (cj (d:=.non) rfl (cj (d:=.non) rfl ((bn h1).trans h2))))
 have tr:∀ t,jg (L.map rd)=t->sQ jl (aa (toD (bR cA (kD (.str "\n")) (aa (vB 0) af))) af) 3 4 2 [ς (.f (.e (L.map .str))),ς (.f (dQ (L.map rd))),ς (.f .non),ς (.f .non),ψ,ψ]=ς (match t with
     |.rse c l=>.nx [ς (.f (.e (L.map .str))),ς (.f (dQ (L.map rd))),ς (.exc c l),ς (.f .non),ψ,ψ]
     |t=>.nx [ς (.f (.e (L.map .str))),ς (.f (dQ (L.map rd))),ς (.f .non),ς t,ψ,ψ]):=fun t ht=>by
  unfold sQ;rw[aq ej (ds:=[]) rfl,qa1,er,ht];cases t<;>rfl
 generalize hds:L.map rd=ds at*
 have err:∀c f y k,jg ds=.rse c [(f,y)]->dQ ds=.e [.str k,y]->c∈CS->(["Unknown","Falls"]:η Str).contains c=ξ->(c==qa0 "BadLine")=decide (k=qa0 "line")->(c==qa0 "Twice")=decide (k=qa0 "twice")->(c==qa0 "NoLabel")=decide (k=qa0 "label")->f=(if k=qa0 "line" then qa0 "at" else qa0 "word")->z10 6 [y,y]=ς (.f (.bl θ))->q12 [.e (L.map .str)]=ς (.f (.bl θ)):=fun c f y k h1 h2 h3 h4 h5 h6 h7 h8 h9=>by refine pre _ (tr _ h1) ?_;rw[h2];exact zM _ c k f y _ h3 h4 h5 h6 h7 h8 h9
 have U:∀w,jg ds=.rse "Twice" [("word",.str w)]->dQ ds=.e [.str "twice",.str w]->q12 [.e (L.map .str)]=ς (.f (.bl θ)):=fun w h1 h2=>err (qa0 "Twice") (qa0 "word") (.str w) (qa0 "twice") h1 h2 χ χ χ χ χ χ (jY 5 w)
 cases hs:fC ξ 0 ds with
 |some j=>exact err (qa0 "BadLine") (qa0 "at") (.int j) (qa0 "line") (by unfold jg;rw[hs]) (by unfold dQ;rw[hs]) χ χ χ χ χ χ (pY 5 j)
 |none=>
  have hg:=lA hor hs;cases O:cP [] (ds.filterMap hnO)with
  |some w=>exact U w (by unfold jg;rw[hs,O]) (by unfold dQ;rw[hs,O])
  |none=>
   cases Z:cP [] (ds.filterMap lnO)with
   |some w=>exact U w (by unfold jg;rw[hs,O,Z]) (by unfold dQ;rw[hs,O,Z])
   |none=>
    have q1:jg ds=match c7 (plc 0 ds) ds with|.inr l=>.rse "NoLabel" [("word",.str l)]|.inl J0=>.f (g8 ds J0):=by unfold jg;rw[hs,O,Z]<;>rfl
    have q2:dQ ds=match c7 (plc 0 ds) ds with|.inr l=>.e [.str "label",.str l]|.inl J0=>.e [.str "good",g8 ds J0]:=by unfold dQ;rw[hs,O,Z];rfl
    cases hr:c7 (plc 0 ds) ds with
    |inr l=>rw[hr]at q1 q2;exact err (qa0 "NoLabel") (qa0 "word") (.str l) (qa0 "label") q1 q2 χ χ χ χ χ χ (jY 5 l)
    |inl J0=>rw[hr]at q1 q2;refine pre _ (tr _ q1) ?_;rw[q2];have al:=zK hg hlen hr;unfold u7;exact bD rfl (aG (iW (a:=true) (c:=true) ((wv _ (qa0 "good") (qa0 "good") (g8 ds J0) _ _ _ _).2.trans (by rw[decide_eq_true rfl])) (fun _=>(bH (x:=g8 ds J0) rfl (zL _ (qa0 "good") (g8 ds J0) _ _ _ _).2).trans al) fun z=>nomatch z))
def Ls(b n:Nat)(l:η Str):Prop:=l.length=n/\∀s∈l,Cl b s
abbrev dX(ns:η Int)(l:η Str)(c:Int)(x3 x4 x5 x6:ζ T):De:=[ς (.f (.e (ns.map .int))),ς (.e (l.map .str)),ς (.f (.int c)),x3,x4,x5,x6]
abbrev dY(ns:η Int)(l:η Str)(c:Int)(x3 x4 x5 x6:ζ T):De:=[ς (.f (.e (ns.map .int))),ς (.f (.e (l.map .str))),ς (.f (.int c)),x3,x4,x5,x6]
theorem mF(l:η Str)(δ:De)(h:δ[1]?=ς (ς (.e (l.map .str)))):vB 1 δ=ς (.e (l.map .str)):=by unfold vB;rw[h];rfl
theorem BH(l:η Str)(j:Nat)(f:De->ζ Dt)(δ:De)(h1:δ[1]?=ς (ς (.e (l.map .str))))(h:f δ=ς (.int j)):toD (vSl (vB 1) cH (a0 f)) δ=ς (.e ((l.take j).map .str)):=by
 refine ah (t:=.e _) ((fN (mF l δ h1) (lo:=ψ) (hi:=ς (j:Int)) rfl (c6 h)).trans ?_);show ς (T.e (fg (l.map Dt.str) ψ (ς (j:Int))))=_;unfold fg;rw[HT.E5,HT.FX,List.drop_zero,Nat.sub_zero,<- qz4,qa5];congr 2;by_cases O:j<=l.length
 .rw[qr1 O]
 .rw[qp3 Θ,qg8 (nL _),qg8 Θ]
theorem BI(l:η Str)(j:Nat)(f:De->ζ Dt)(δ:De)(h1:δ[1]?=ς (ς (.e (l.map .str))))(h:f δ=ς (.int j))(O:j<=l.length):toD (vSl (vB 1) (a0 f) cH) δ=ς (.e ((l.drop j).map .str)):=by refine ah (t:=.e _) ((fN (mF l δ h1) (lo:=ς (j:Int)) (hi:=ψ) (c6 h) rfl).trans ?_);show ς (T.e (fg (l.map Dt.str) (ς (j:Int)) ψ))=_;unfold fg;rw[HT.E5,HT.FX,qa5,qr1 O,<- zd5];congr 2;rw[qg8];rw[qa5,qi2];lia
theorem rV (ns:η Int) (c:Int) {b n:Nat} (hb:b<=401) (hb1:100<=b) {l:η Str} (hl:Ls b n l) (h1:1<=n) (h2:n<=100) (k:Nat) (hk:k<=10) (x4 Z O:ζ T) :
  ∃l' y4 y5,Ls (2*b+1) n l'/\y63 (dX ns l c (ς (.f (.int k))) x4 Z O)=ς (.nx (dX ns l' c (ς (.f (.int k))) y4 y5 O)):=by
 obtain⟨v,ev⟩:=gA ns (2+k) Θ;have p6:=bM v 6 (m:=n) Θ
 obtain⟨sp,hsp⟩:∃sp:Nat,aT v 6 n=sp:=⟨(aT v (6:Nat) n).toNat,by have:=p6.2.1;rw[show((6:Nat):Int)=6 from rfl]at this ⊢;lia⟩
 have spl:sp<n:=by have:=p6.2.2;rw[show((6:Nat):Int)=6 from rfl,hsp]at this;lia
 obtain⟨hn,hc⟩:=hl;have lg:∀(x3 x4 Z O:ζ T),toD (ag br (aa (vB 1) af)) (dX ns l c x3 x4 Z O)=ς (.int n):=fun x3 x4 Z O=>ah (t:=.f (.int n)) ((aw (x:=.e (l.map .str)) (mF l _ rfl)).trans (by rw[kn,qa5,hn]))
 have mono:∀s,Cl b s->Cl (2*b+1) s:=fun s h=>h.mono Θ
 have pre:∀{o:ζ Out}{G:De->ζ Out},G (dX ns l c (ς (.f (.int k))) (ς (.f (.int v))) (ς (.f (.int sp))) O)=o->(ao (aF 4 (toT (toD (ag z13 (aa (vL 0) (aa (toD (d2 aB (kD (.int 2)) (vB 3))) af)))))) (ao (aF 5 (toT (toD (ag z9 (aa (vL 4) (aa (kD (.int 6)) (aa (toD (ag br (aa (vB 1) af))) af))))))) G)) (dX ns l c (ς (.f (.int k))) x4 Z O)=o:=fun {o G} h=>by
  refine cj (d:=.int v) (ah (t:=.f (.int v)) ((bH (x:=.e (ns.map .int)) (y:=.int (2+k:Nat)) rfl (by rw[qr0];rfl)).trans ev)) ?_;dsimp only[qe3];refine cj (d:=.int sp) ?_ ?_
  .rw[<- hsp];exact cZ (j:=6) rfl rfl (lg _ _ _ _) Θ
  .exact h
 have t:tB2 (gEq ξ) (toD (ag z9 (aa (vL 4) (aa (kD (.int 7)) (aa (kD (.int 5)) af))))) (kD (.int 1)) (dX ns l c (ς (.f (.int k))) (ς (.f (.int v))) (ς (.f (.int sp))) O)=ς (decide (aT v 7 5=1)):=ap (x:=.int (aT v 7 5)) (y:=.int 1) (cZ (j:=7) rfl rfl rfl Ω) rfl gf;by_cases hq:aT v 7 5=1
 .have hdr:(l.take sp++l.drop (sp+1)).length=n-1:=by rw[qd6,qk6,qi2];lia
  have p5:=bM v 5 (m:=n) Θ
  obtain⟨q,U⟩:∃q:Nat,aT v 5 n=q:=⟨(aT v (5:Nat) n).toNat,by have:=p5.2.1;rw[show((5:Nat):Int)=5 from rfl]at this ⊢;lia⟩
  have hqn:q<n:=by have:=p5.2.2;rw[show((5:Nat):Int)=5 from rfl,U]at this;lia
  generalize hm:l.take sp++l.drop (sp+1)=m at*
  have cm:∀s∈m,Cl b s:=fun s hs=>by rw[<- hm]at hs;exact(qe8.mp hs).elim (fun z=>hc s (qo3 z)) fun z=>hc s (qt9 z)
  refine⟨m.take q++qa0 "cell q 5"::m.drop q,ς (.f (.int v)),ς (.f (.int sp)),⟨by rw[qd6,qc4,qk6,qi2];lia,fun s hs=>?_⟩,?_⟩
  .rcases qe8.mp hs with z|z
   .exact mono s (cm s (qo3 z))
   .rcases qa9.mp z with rfl|z
    .exact(Cl.of (b:=20) χ).mono Θ
    .exact mono s (cm s (qt9 z))
  .unfold y63;refine pre ((gh (t.trans (by rw[decide_eq_true hq]))).trans ?_);refine jP (d:=.e (m.map .str)) ((aM (BH l sp (vB 5) _ rfl rfl) (BI l (sp+1) (toD (d2 aB (vB 5) (kD (.int 1)))) _ rfl (by rw[qr0];rfl) Θ)).trans ?_) ?_
   .rw[iU (by simp;lia),<- qd1,hm]
   .show q58 1 _ _ (dX ns m c (ς (.f (.int k))) (ς (.f (.int v))) (ς (.f (.int sp))) O)=_;have lg2:toD (ag br (aa (vB 1) af)) (dX ns m c (ς (.f (.int k))) (ς (.f (.int v))) (ς (.f (.int sp))) O)=ς (.int ((n-1:Nat):Int)):=ah (t:=.f (.int _)) ((aw (x:=.e (m.map .str)) (mF m _ rfl)).trans (by rw[kn,qa5,hdr]))
    have ek:toD (ag z9 (aa (vL 4) (aa (kD (.int 5)) (aa (toD (d2 aB (toD (ag br (aa (vB 1) af))) (kD (.int 1)))) af)))) (dX ns m c (ς (.f (.int k))) (ς (.f (.int v))) (ς (.f (.int sp))) O)=ς (.int q):=by rw[<- U];refine cZ (j:=5) (m:=(n:Int)) rfl rfl ((je lg2 rfl).trans ?_) Θ;congr 2;lia
    unfold q58;show(toD (ag z9 (aa (vL 4) (aa (kD (.int 5)) (aa (toD (d2 aB (toD (ag br (aa (vB 1) af))) (kD (.int 1)))) af)))) (dX ns m c (ς (.f (.int k))) (ς (.f (.int v))) (ς (.f (.int sp))) O)).bind _=_;rw[ek,qa1];show(ς (Dt.str (qa0 "cell q 5"))).bind _=_;rw[qa1];show(if(0:Int)<=q/\(q:Int).toNat<=(m.map Dt.str).length/\(m.map Dt.str).length<qa7 then ς (Out.nx _)else ψ)=_;rw[if_pos ⟨Θ,by rw[qa5];lia,by rw[qa5];exact l9 Θ⟩,qr8];rw[<- qz4,<- zd5,<- qb3,<- qd1];rfl
 .have hx:l[sp]?=ς l[sp]:=gQ Θ;obtain⟨s,es,cs⟩:=wg (hc l[sp] (qm5 _)) hb hb1 v;refine⟨l.set sp s,ς (.f (.int v)),ς (.f (.int sp)),⟨by rw[qv0];exact hn,fun x hx=>?_⟩,?_⟩
  .rcases qw5 hx with z|rfl
   .exact mono x (hc x z)
   .exact cs
  .unfold y63;refine pre ((iK (t.trans (by rw[decide_eq_false hq]))).trans ?_);rw[mn (l:=l.map .str) (n:=(sp:Int)) (j:=sp) (d:=.str s) rfl rfl (ah (t:=.f (.str s)) ((bH (x:=.str l[sp]) (y:=.int v) (ah (t:=.f (.str l[sp])) ((aM (x:=.e (l.map .str)) (y:=.int sp) (mF l _ rfl) rfl).trans (by rw[kR,eS,qd3,hx];rfl))) rfl).trans es)) rfl (by rw[qa5];lia)];show ς (Out.nx [_,ς (.e ((l.map Dt.str).set sp (.str s))),_,_,_,_,_])=_;rw[dX,ze5]
theorem u9:∀{ds:η Dt}{b:Bool}{i j:Nat},fC b i ds=ς j->i<=j/\j<i+ds.length
 |[],b,i,j,h=>by cases h
 |d::r,b,i,j,h=>by
  have h:(if de d||(hdB d&&b)then ς i else fC (!hdB d) (i+1) r)=ς j:=h;split at h
  .cases h;simp
  .have:=u9 h;simp only[qc4];lia
theorem main(ns:η Int)(h:ns.length<=63):ut [.e (ns.map .int)]=ς (.f (.bl θ)):=by
 unfold ut;obtain⟨l0,e0,n1,n2,c0⟩:=yJ ns;obtain⟨c,ec⟩:=gA ns 0 Ω;have p5:=bM c 5 (m:=3) Ω;rw[show((5:Nat):Int)=5 from rfl]at p5;obtain⟨m,hm⟩:∃m:Nat,aT c 5 3=m:=⟨(aT c 5 3).toNat,Θ⟩;have hm3:m<3:=by have:=p5.2.2;lia
 generalize hn:l0.length=n at*
 have loop:∃l y3 y4 y5,Ls 900 n l/\cW (ak 3) y63 (bB 0 m) (dX ns l0 c ψ ψ ψ ψ)=ς (.nx (dX ns l c y3 y4 y5 ψ)):=by
  have L0:Ls 200 n l0:=⟨hn,c0⟩;have t0:=fun x4 x5=>rV ns c Ω Ω L0 n1 n2 0 Ω x4 x5 ψ
  obtain⟨l1,a4,a5,L1,e1⟩:=t0 ψ ψ;obtain⟨l2,b4,b5,L2',e2⟩:=rV ns c Ω Ω L1 n1 n2 1 Ω a4 a5 ψ
  match m,hm3 with
  |0,_=>exact⟨l0,ψ,ψ,ψ,⟨hn,fun s hs=>(c0 s hs).mono Ω⟩,rfl⟩
  |1,_=>exact⟨l1,_,a4,a5,⟨L1.1,fun s hs=>(L1.2 s hs).mono Ω⟩,(bx (r:=[]) rfl e1).trans rfl⟩
  |2,_=>exact⟨l2,_,b4,b5,⟨L2'.1,fun s hs=>(L2'.2 s hs).mono Ω⟩,(bx (r:=[.int 1]) rfl e1).trans ((bx (r:=[]) rfl e2).trans rfl)⟩
 obtain⟨l,y3,y4,y5,⟨hl,hc⟩,ef⟩:=loop
 have fi:dj iu (aa (toD (d2 au (toD (aZ (aa (kD (.int 0)) (aa (kD (.int 1)) (aa (kD (.int 2)) af))))) (toD (ag z9 (aa (vL 2) (aa (kD (.int 5)) (aa (kD (.int 3)) af))))))) af) (dX ns l0 c ψ ψ ψ ψ)=ς (bB 0 m):=by
  refine kF (ah (t:=.f (.int m)) ((aM (x:=.e [.int 0,.int 1,.int 2]) rfl (cZ (j:=5) rfl rfl rfl Ω)).trans ?_)) Θ;rw[show((5:Nat):Int)=5 from rfl,hm,kR,eS]
  match m,hm3 with
  |0,_=>rfl
  |1,_=>rfl
  |2,_=>rfl
 obtain⟨L,hL,hLc,hL9,eL⟩:∃L:η Str,L≠[]/\(∀s∈L,Cl 900 s)/\L.length<=900/\∀{G:De->ζ Out},(ao (sIf (tB2 (gEq ξ) (toD (ag z9 (aa (vL 2) (aa (kD (.int 6)) (aa (kD (.int 16)) af))))) (kD (.int 1))) (aF 1 (aZ (aa (kD (.str "")) af))) bg) G) (dX ns l c y3 y4 y5 ψ)=G (dX ns L c y3 y4 y5 ψ):=by
  have t:tB2 (gEq ξ) (toD (ag z9 (aa (vL 2) (aa (kD (.int 6)) (aa (kD (.int 16)) af))))) (kD (.int 1)) (dX ns l c y3 y4 y5 ψ)=ς (decide (aT c 6 16=1)):=ap (x:=.int (aT c 6 16)) (y:=.int 1) (cZ (j:=6) rfl rfl rfl Ω) rfl gf;by_cases hq:aT c 6 16=1
  .exact⟨[qa0 ""],Ξ,fun s hs=>by cases qi1.mp hs;exact .of χ,Ξ,fun {G}=>ra (q:=true) (t.trans (by rw[decide_eq_true hq])) (fun _=>rfl) fun z=>(nomatch z)⟩
  .exact⟨l,fun z=>by rw[z]at hl;simp at hl;lia,hc,Θ,fun {G}=>ra (q:=false) (t.trans (by rw[decide_eq_false hq])) (fun z=>nomatch z) fun _=>rfl⟩
 obtain⟨t,et,dt⟩:=Cm hLc hL9;have rt:=u8 hL hLc hL9;have er:∀x3 x4 x5 x6:ζ T,toD (ag q12 (aa (vL 1) af)) (dY ns L c x3 x4 x5 x6)=ς (.bl θ):=fun x3 x4 x5 x6=>ah (t:=.f (.bl θ)) ((aw (x:=.e (L.map .str)) rfl).trans rt)
 refine dRt (jP (d:=.e (l0.map .str)) ((aw (x:=.e (ns.map .int)) rfl).trans e0) ?_);refine cj (d:=.int c) (ah (t:=.f (.int c)) ((bH (x:=.e (ns.map .int)) (y:=.int 0) rfl rfl).trans ec)) ?_;refine(bn (dN fi ef)).trans (eL.trans ?_);have f1:gt 1 (sIf (ip (dG (toD (ag q12 (aa (vL 1) af))))) (aQ (toT (kD (.bl ξ)))) bg) (dX ns L c y3 y4 y5 ψ)=ς (.nx (dY ns L c y3 y4 y5 ψ)):=(kK (t:=.e (L.map .str)) rfl rfl).trans ((iK (iN (b:=true) (gj (er _ _ _ _)))).trans rfl);have f2:gt 1 (aF 6 (toT (toD (ag z20 (aa (vL 1) af))))) (dY ns L c y3 y4 y5 ψ)=ς (.nx (dY ns L c y3 y4 y5 (ς (.f (dQ (L.map rd)))))):=(kK (t:=.f (.e (L.map .str))) rfl rfl).trans (fM (gT ((ah ((aw (x:=.e (L.map .str)) rfl).trans et)).trans dt)));refine(bn f1).trans ((bn f2).trans ?_);have fin:gt 1 (aQ (ag q12 (aa (vL 1) af))) (dY ns L c y3 y4 y5 (ς (.f (dQ (L.map rd)))))=ς (.rt (.f (.bl θ))):=(kK (t:=.f (.e (L.map .str))) rfl rfl).trans (aG ((aw (x:=.e (L.map .str)) rfl).trans rt));refine(bc ?_).trans fin
 have ixs:∀(k:Str)(y:Dt),dQ (L.map rd)=.e [.str k,y]->toD (d2 au (vB 6) (kD (.int 0))) (dY ns L c y3 y4 y5 (ς (.f (dQ (L.map rd)))))=ς (.str k)/\toD (d2 au (vB 6) (kD (.int 1))) (dY ns L c y3 y4 y5 (ς (.f (dQ (L.map rd)))))=ς y:=fun k y e=>by rw[e];exact⟨cM (i:=0) (l:=[.str k,y]) rfl rfl,cM (i:=1) (l:=[.str k,y]) rfl rfl⟩
 have no:∀(k:Str)(y:Dt),dQ (L.map rd)=.e [.str k,y]->k≠qa0 "line"->cN (tB2 (gEq ξ) (toD (d2 au (vB 6) (kD (.int 0)))) (kD (.str "line"))) (cN (tB2 (bG fun i j=>decide (j<i)) (toD (d2 au (vB 6) (kD (.int 1)))) (kD (.int 0))) (ip (dG (toD (ag q12 (aa (toD (vSl (vB 1) cH (a0 (toD (d2 au (vB 6) (kD (.int 1))))))) af)))))) (dY ns L c y3 y4 y5 (ς (.f (dQ (L.map rd)))))=ς ξ:=fun k y e hk=>b3 (a:=false) (b:=false) (ap (y:=.str "line") (ixs k y e).1 rfl (by rw[aV,decide_eq_false hk])) fun z=>nomatch z
 cases hs:fC ξ 0 (L.map rd)with
 |some j=>
  have e:dQ (L.map rd)=.e [.str (qa0 "line"),.int j]:=by unfold dQ;rw[hs]
  obtain⟨i0,i1⟩:=ixs _ _ e;refine(b3 (a:=true) (b:=false) (ap (y:=.str "line") i0 rfl (by rw[aV,decide_eq_true rfl])) fun _=>?_);have hj:=(u9 hs).2;rw[qa5,Nat.zero_add]at hj;refine(b3 (a:=decide ((0:Int)<j)) (b:=false) (ap (y:=.int 0) i1 rfl dg) fun q=>?_).trans (by rw[qo7]);have q:=of_decide_eq_true q
  have r2:=u8 (L:=L.take j) (fun z=>by
   rcases List.take_eq_nil_iff.mp z with z|z
   .lia
   .exact hL z) (fun s hs=>hLc s (qo3 hs)) (by rw[qk6];lia)
  refine iN (b:=true) (gj (ah (t:=.f (.bl θ)) ((aw (x:=.e ((L.take j).map .str)) ?_).trans r2)));refine ah (t:=.e ((L.take j).map .str)) ((fN (x:=.e (L.map .str)) (lo:=ψ) (hi:=ς (j:Int)) rfl rfl (c6 i1)).trans ?_);show ς (T.e (fg (L.map Dt.str) ψ (ς (j:Int))))=_;unfold fg;rw[HT.E5,HT.FX,List.drop_zero,Nat.sub_zero,<- qz4,qa5,qr1 Θ]
 |none=>
  cases hd1:cP [] ((L.map rd).filterMap hnO)with
  |some w=>exact no (qa0 "twice") (.str w) (by unfold dQ;rw[hs,hd1]) χ
  |none=>
   cases hd2:cP [] ((L.map rd).filterMap lnO)with
   |some w=>exact no (qa0 "twice") (.str w) (by unfold dQ;rw[hs,hd1,hd2]) χ
   |none=>
    cases hr:c7 (plc 0 (L.map rd)) (L.map rd)with
    |inr w=>exact no (qa0 "label") (.str w) (by unfold dQ;rw[hs,hd1,hd2];unfold zI;rw[hr]) χ
    |inl J0=>exact no (qa0 "good") (g8 (L.map rd) J0) (by unfold dQ;rw[hs,hd1,hd2];unfold zI;rw[hr]) χ
def p4(K:xA9):Sp:=fun vs H Q _=>∃(a:J5)(ns:η Int),vs=[.ref a]/\SqL K H a (ns.map V.int)/\ns.length<=63/\Aj H/\∀H',Q (.bl θ) H'
variable{K:xA9}
theorem EN{vs:η V}{H:Hp}{Q:VK}{E:XK}(h:p4 K vs H Q E):spD K 1 ut vs H Q E:=by
 obtain⟨a,ns,rfl,U,O,Z,q⟩:=h;refine⟨H,[.e (ns.map .int)],.f (.bl θ),Same.refl H,rfl,?_,main ns O,fun v H' F' S st o _=>?_⟩
 .simp only[Reps,Rep];exact⟨_,[],rfl,⟨a,_,rfl,U,Reps.map (fun _=>iR) ns⟩,rfl⟩
 .have o:Rep K F' (.bl θ) v:=o;simp only[Rep]at o;subst o;exact q H'
theorem all_mk{l:xY9}{w:J6}{h:Heap}{mg:Str->ζ Value}{fa:J5}(X:K.In h)(G:h.Ns qb5 mg)(hfa:mg "law"=ς (.ref fa))
 {D_:J5} (ad_:xB9 K qb5 "DimError"=ς (ς (.ref D_))) (xs_:(PySem.W.subIn K (.ref D_) (.type "BaseException")==ς θ)=θ) (xl_:((xN9 K D_).isSome&&xP9 K (.ref D_)==ς (.type "type"))=θ)
 {C_BadLine:J5} (x_BadLine:AtX K "BadLine" z22 ["at"] C_BadLine D_)
 {C_Falls:J5} (x_Falls:AtX K "Falls" y25 ["row"] C_Falls D_)
 {C_NoLabel:J5} (x_NoLabel:AtX K "NoLabel" q23 ["word"] C_NoLabel D_)
 {C_Twice:J5} (x_Twice:AtX K "Twice" q26 ["word"] C_Twice D_)
 {C_Unknown:J5} (x_Unknown:AtX K "Unknown" y22 ["word","row"] C_Unknown D_)
 (xn_:[D_,C_BadLine,C_Falls,C_NoLabel,C_Twice,C_Unknown].Nodup)
 (a2:AtF K "_law_cell" y49)
 (a3:AtF K "_law_worth" y44)
 (a4:AtF K "_law_row" y23)
 (a5:AtF K "_law_item" y48)
 (a6:AtF K "_law_led" q24)
 (a7:AtF K "_law_sort" q39)
 (a8:AtF K "_law_due" q29)
 (a9:AtF K "_law_part" z49)
 (a10:AtF K "_law_name" z31)
 (a11:AtF K "_law_atom" z39)
 (a12:AtF K "_law_label" z26)
 (a13:AtF K "_law_good" q49)
 (a14:AtF K "_law_heads" y26)
 (a15:AtF K "_law_lines" z33)
 (a16:AtF K "_law_alike" q13)
 (a17:AtF K "heads_read" q34)
 (a18:AtF K "label_places" y36)
 (a20:AtF K "is_made_of" y33)
 (a21:AtF K "is_name" z72)
 (a22:AtF K "value_of" z55)
 (a23:AtF K "atom_of" z75)
 (a24:AtF K "is_label" q67)
 (a25:AtF K "size_of" y50)
 (a26:AtF K "part_of" z50)
 (a27:AtF K "filled" z32)
 (a28:AtF K "setting_of" z56)
 (a29:AtF K "line_of" q42)
 (a30:AtF K "lines_of" z36)
 (a32:AtF K "refuse_twice" y27)
 (a34:AtF K "with_number" z29)
 (a35:AtF K "read" eY)
 (a36:AtF K "_law_right" z12)
 (a37:AtF K "_law_odd" q55)
 (a38:AtF K "_law_spoilt" q41)
 (a39:AtF K "law" iI)
 (z_ValueError:xB9 K qb5 "ValueError"=ς ψ)
 (z_all:xB9 K qb5 "all"=ς ψ)
 (z_bool:xB9 K qb5 "bool"=ς ψ)
 (z_enumerate:xB9 K qb5 "enumerate"=ς ψ)
 (z_int:xB9 K qb5 "int"=ς ψ)
 (z_isinstance:xB9 K qb5 "isinstance"=ς ψ)
 (z_len:xB9 K qb5 "len"=ς ψ)
 (z_range:xB9 K qb5 "range"=ς ψ)
 (z_str:xB9 K qb5 "str"=ς ψ)
 (z_tuple:xB9 K qb5 "tuple"=ς ψ)
 (z_zip:xB9 K qb5 "zip"=ς ψ)
 {d_J:J5} {o_J:Obj} {i_J:Array Value} {m_J:Nat} (b_J:xB9 K qb5 "CELLS"=ς (ς (.ref d_J))) (l_J:K.lookup d_J=ς o_J) (e_J:o_J.cls=.type "tuple") (f_J:o_J.data=.seq i_J m_J) (r_J:Vals [V.str "cell",V.str "twin"] i_J.toList)
 {u_F:Value} (b_F:xB9 K qb5 "FIGURES"=ς (ς u_F)) (r_F:RelV (.str "0123456789") u_F)
 {d_K:J5} {o_K:Obj} {i_K:Array Value} {m_K:Nat} (b_K:xB9 K qb5 "HEADS"=ς (ς (.ref d_K))) (l_K:K.lookup d_K=ς o_K) (e_K:o_K.cls=.type "tuple") (f_K:o_K.data=.seq i_K m_K) (r_K:Vals [V.str "cell",V.str "twin",V.str "shelf",V.str "twins"] i_K.toList)
 {d_G:J5} {o_G:Obj} {i_G:Array Value} {m_G:Nat} (b_G:xB9 K qb5 "LEADING"=ς (ς (.ref d_G))) (l_G:K.lookup d_G=ς o_G) (e_G:o_G.cls=.type "tuple") (f_G:o_G.data=.seq i_G m_G) (r_G:Vals [V.str "if",V.str "go"] i_G.toList)
 {u_E:Value} (b_E:xB9 K qb5 "LETTERS"=ς (ς u_E)) (r_E:RelV (.str "abcdefghijklmnopqrstuvwxyz") u_E)
 {u_B:Value} (b_B:xB9 K qb5 "MOST_OF_LABEL"=ς (ς u_B)) (r_B:RelV (.int 8) u_B)
 {u_D:Value} (b_D:xB9 K qb5 "MOST_OF_NAME"=ς (ς u_D)) (r_D:RelV (.int 6) u_D)
 {u_C:Value} (b_C:xB9 K qb5 "MOST_OF_SIZE"=ς (ς u_C)) (r_C:RelV (.int 8) u_C)
 {u_A:Value} (b_A:xB9 K qb5 "MOST_OF_VALUE"=ς (ς u_A)) (r_A:RelV (.int 13) u_A)
 {d_H:J5} {o_H:Obj} {i_H:Array Value} {m_H:Nat} (b_H:xB9 K qb5 "SHELVES"=ς (ς (.ref d_H))) (l_H:K.lookup d_H=ς o_H) (e_H:o_H.cls=.type "tuple") (f_H:o_H.data=.seq i_H m_H) (r_H:Vals [V.str "shelf",V.str "twins"] i_H.toList)
 {d_L:J5} {o_L:Obj} {i_L:Array Value} {m_L:Nat} (b_L:xB9 K qb5 "SIGNS"=ς (ς (.ref d_L))) (l_L:K.lookup d_L=ς o_L) (e_L:o_L.cls=.type "tuple") (f_L:o_L.data=.seq i_L m_L) (r_L:Vals [V.str "+",V.str "-",V.str "*",V.str "<",V.str "=",V.str "&",V.str "|",V.str "^"] i_L.toList)
 {d_I:J5} {o_I:Obj} {m_I:Nat} {t0_I:Tok} {t1_I:Tok} {t2_I:Tok} {t3_I:Tok} {t4_I:Tok} {t5_I:Tok} {t6_I:Tok} {t7_I:Tok} {t8_I:Tok} {t9_I:Tok} {t10_I:Tok} {t11_I:Tok} {t12_I:Tok} {t13_I:Tok} {a0_I:J5} {a1_I:J5} {a2_I:J5} {a3_I:J5} {a4_I:J5} {a5_I:J5} {a6_I:J5} {a7_I:J5} {a8_I:J5} {a9_I:J5} {O:J5} {a11_I:J5} {Z:J5} {U:J5} (b_I:xB9 K qb5 "WANTED"=ς (ς (.ref d_I))) (l_I:K.lookup d_I=ς o_I) (e_I:o_I.ExactDict) (f_I:o_I.data=.dict #[⟨qf4 w.params "cell",.str "cell" t0_I,.ref a0_I⟩,⟨qf4 w.params "twin",.str "twin" t1_I,.ref a1_I⟩,⟨qf4 w.params "shelf",.str "shelf" t2_I,.ref a2_I⟩,⟨qf4 w.params "twins",.str "twins" t3_I,.ref a3_I⟩,⟨qf4 w.params "at",.str "at" t4_I,.ref a4_I⟩,⟨qf4 w.params "load",.str "load" t5_I,.ref a5_I⟩,⟨qf4 w.params "store",.str "store" t6_I,.ref a6_I⟩,⟨qf4 w.params "take",.str "take" t7_I,.ref a7_I⟩,⟨qf4 w.params "lay",.str "lay" t8_I,.ref a8_I⟩,⟨qf4 w.params "hear",.str "hear" t9_I,.ref a9_I⟩,⟨qf4 w.params "say",.str "say" t10_I,.ref O⟩,⟨qf4 w.params "if",.str "if" t11_I,.ref a11_I⟩,⟨qf4 w.params "go",.str "go" t12_I,.ref Z⟩,⟨qf4 w.params "end",.str "end" t13_I,.ref U⟩] m_I) (z_I:(d_I==qj1)=ξ)
 {o0_I:Obj} {i0_I:Array Value} {m0_I:Nat} (l0_I:K.lookup a0_I=ς o0_I) (e0_I:o0_I.cls=.type "tuple") (f0_I:o0_I.data=.seq i0_I m0_I) (r0_I:Vals [V.str "name",V.str "value"] i0_I.toList)
 {o1_I:Obj} {i1_I:Array Value} {m1_I:Nat} (l1_I:K.lookup a1_I=ς o1_I) (e1_I:o1_I.cls=.type "tuple") (f1_I:o1_I.data=.seq i1_I m1_I) (r1_I:Vals [V.str "name",V.str "value"] i1_I.toList)
 {o2_I:Obj} {i2_I:Array Value} {m2_I:Nat} (l2_I:K.lookup a2_I=ς o2_I) (e2_I:o2_I.cls=.type "tuple") (f2_I:o2_I.data=.seq i2_I m2_I) (r2_I:Vals [V.str "name",V.str "size"] i2_I.toList)
 {o3_I:Obj} {i3_I:Array Value} {m3_I:Nat} (l3_I:K.lookup a3_I=ς o3_I) (e3_I:o3_I.cls=.type "tuple") (f3_I:o3_I.data=.seq i3_I m3_I) (r3_I:Vals [V.str "name",V.str "size"] i3_I.toList)
 {o4_I:Obj} {i4_I:Array Value} {m4_I:Nat} (l4_I:K.lookup a4_I=ς o4_I) (e4_I:o4_I.cls=.type "tuple") (f4_I:o4_I.data=.seq i4_I m4_I) (r4_I:Vals [V.str "label"] i4_I.toList)
 {o5_I:Obj} {i5_I:Array Value} {m5_I:Nat} (l5_I:K.lookup a5_I=ς o5_I) (e5_I:o5_I.cls=.type "tuple") (f5_I:o5_I.data=.seq i5_I m5_I) (r5_I:Vals [V.str "name",V.str "name"] i5_I.toList)
 {o6_I:Obj} {i6_I:Array Value} {m6_I:Nat} (l6_I:K.lookup a6_I=ς o6_I) (e6_I:o6_I.cls=.type "tuple") (f6_I:o6_I.data=.seq i6_I m6_I) (r6_I:Vals [V.str "name",V.str "atom"] i6_I.toList)
 {o7_I:Obj} {i7_I:Array Value} {m7_I:Nat} (l7_I:K.lookup a7_I=ς o7_I) (e7_I:o7_I.cls=.type "tuple") (f7_I:o7_I.data=.seq i7_I m7_I) (r7_I:Vals [V.str "name",V.str "name",V.str "atom"] i7_I.toList)
 {o8_I:Obj} {i8_I:Array Value} {m8_I:Nat} (l8_I:K.lookup a8_I=ς o8_I) (e8_I:o8_I.cls=.type "tuple") (f8_I:o8_I.data=.seq i8_I m8_I) (r8_I:Vals [V.str "name",V.str "atom",V.str "atom"] i8_I.toList)
 {o9_I:Obj} {i9_I:Array Value} {m9_I:Nat} (l9_I:K.lookup a9_I=ς o9_I) (e9_I:o9_I.cls=.type "tuple") (f9_I:o9_I.data=.seq i9_I m9_I) (r9_I:Vals [V.str "name"] i9_I.toList)
 {o10_I:Obj} {i10_I:Array Value} {m10_I:Nat} (l10_I:K.lookup O=ς o10_I) (e10_I:o10_I.cls=.type "tuple") (f10_I:o10_I.data=.seq i10_I m10_I) (r10_I:Vals [V.str "atom"] i10_I.toList)
 {o11_I:Obj} {i11_I:Array Value} {m11_I:Nat} (l11_I:K.lookup a11_I=ς o11_I) (e11_I:o11_I.cls=.type "tuple") (f11_I:o11_I.data=.seq i11_I m11_I) (r11_I:Vals [V.str "atom",V.str "label"] i11_I.toList)
 {o12_I:Obj} {i12_I:Array Value} {m12_I:Nat} (l12_I:K.lookup Z=ς o12_I) (e12_I:o12_I.cls=.type "tuple") (f12_I:o12_I.data=.seq i12_I m12_I) (r12_I:Vals [V.str "label"] i12_I.toList)
 {o13_I:Obj} {i13_I:Array Value} {m13_I:Nat} (l13_I:K.lookup U=ς o13_I) (e13_I:o13_I.cls=.type "tuple") (f13_I:o13_I.data=.seq i13_I m13_I) (r13_I:Vals [V.str "atom"] i13_I.toList)
 {u_M:Value} (b_M:xB9 K qb5 "WIDE"=ς (ς u_M)) (r_M:RelV (.int 1099511627776) u_M)
 (kd_tuple:gL K "tuple")
 (kd_bool:gL K "bool")
 (kd_int:gL K "int")
 (kd_str:gL K "str")
 : ∃fd:qk2,(∀(s:qa4)(v:Value),zf0 s fd ⟨[v],[]⟩ [("_law_script",v)])/\∀base:Heap,K.In base->base.Ns qb5 mg->FnOk l.prog w K mg base CX0 11 fa fd ["_law_script"] (p4 K):=by
 obtain⟨f39,oc39,od39,an39,sl39,kV39,dc39,pm39,cd39,ct39,a39,l39,c39,k39⟩:=a39;have e:=hfa.symm.trans (xC9 X G a39);cases e;have T:Txt l.prog w K mg:={n_ValueError:=xH9 X G z_ValueError,n_all:=xH9 X G z_all,n_bool:=xH9 X G z_bool,n_enumerate:=xH9 X G z_enumerate,n_int:=xH9 X G z_int,n_isinstance:=xH9 X G z_isinstance,n_len:=xH9 X G z_len,n_range:=xH9 X G z_range,n_str:=xH9 X G z_str,n_tuple:=xH9 X G z_tuple,n_zip:=xH9 X G z_zip,g_J:=iC (xC9 X G b_J) l_J e_J f_J r_J Ω (fun F=>by simp[Reps,Rep]),g_F:=qy ⟨_,xC9 X G b_F,r_F⟩,g_K:=iC (xC9 X G b_K) l_K e_K f_K r_K Ω (fun F=>by simp[Reps,Rep]),g_G:=iC (xC9 X G b_G) l_G e_G f_G r_G Ω (fun F=>by simp[Reps,Rep]),g_E:=qy ⟨_,xC9 X G b_E,r_E⟩,g_B:=iw ⟨_,xC9 X G b_B,r_B⟩,g_D:=iw ⟨_,xC9 X G b_D,r_D⟩,g_C:=iw ⟨_,xC9 X G b_C,r_C⟩,g_A:=iw ⟨_,xC9 X G b_A,r_A⟩,g_H:=iC (xC9 X G b_H) l_H e_H f_H r_H Ω (fun F=>by simp[Reps,Rep]),g_L:=iC (xC9 X G b_L) l_L e_L f_L r_L Ω (fun F=>by simp[Reps,Rep]),g_I:=AL [("cell",t0_I,.ref a0_I,.ref a0_I),("twin",t1_I,.ref a1_I,.ref a1_I),("shelf",t2_I,.ref a2_I,.ref a2_I),("twins",t3_I,.ref a3_I,.ref a3_I),("at",t4_I,.ref a4_I,.ref a4_I),("load",t5_I,.ref a5_I,.ref a5_I),("store",t6_I,.ref a6_I,.ref a6_I),("take",t7_I,.ref a7_I,.ref a7_I),("lay",t8_I,.ref a8_I,.ref a8_I),("hear",t9_I,.ref a9_I,.ref a9_I),("say",t10_I,.ref O,.ref O),("if",t11_I,.ref a11_I,.ref a11_I),("go",t12_I,.ref Z,.ref Z),("end",t13_I,.ref U,.ref U)] (xC9 X G b_I) l_I e_I f_I z_I (show(["cell","twin","shelf","twins","at","load","store","take","lay","hear","say","if","go","end"]:η Str).Nodup by decide +kernel) (by simp[RelV]) (fun F=>AM (.cons (b0 l0_I e0_I f0_I r0_I Ω (by simp[Reps,Rep])) (.cons (b0 l1_I e1_I f1_I r1_I Ω (by simp[Reps,Rep])) (.cons (b0 l2_I e2_I f2_I r2_I Ω (by simp[Reps,Rep])) (.cons (b0 l3_I e3_I f3_I r3_I Ω (by simp[Reps,Rep])) (.cons (b0 l4_I e4_I f4_I r4_I Ω (by simp[Reps,Rep])) (.cons (b0 l5_I e5_I f5_I r5_I Ω (by simp[Reps,Rep])) (.cons (b0 l6_I e6_I f6_I r6_I Ω (by simp[Reps,Rep])) (.cons (b0 l7_I e7_I f7_I r7_I Ω (by simp[Reps,Rep])) (.cons (b0 l8_I e8_I f8_I r8_I Ω (by simp[Reps,Rep])) (.cons (b0 l9_I e9_I f9_I r9_I Ω (by simp[Reps,Rep])) (.cons (b0 l10_I e10_I f10_I r10_I Ω (by simp[Reps,Rep])) (.cons (b0 l11_I e11_I f11_I r11_I Ω (by simp[Reps,Rep])) (.cons (b0 l12_I e12_I f12_I r12_I Ω (by simp[Reps,Rep])) (.cons (b0 l13_I e13_I f13_I r13_I Ω (by simp[Reps,Rep])) .nil))))))))))))))),g_M:=iw ⟨_,xC9 X G b_M,r_M⟩,xw:=XW.of (L:=[("BadLine",C_BadLine),("Falls",C_Falls),("NoLabel",C_NoLabel),("Twice",C_Twice),("Unknown",C_Unknown)]) X G ad_ ⟨xs_,xl_⟩ xn_ (by simp only[List.forall_mem_cons];exact⟨x_BadLine.w,x_Falls.w,x_NoLabel.w,x_Twice.w,x_Unknown.w,nofun⟩),k_tuple:=kd_tuple,k_bool:=kd_bool,k_int:=kd_int,k_str:=kd_str}
 refine⟨xF9 "law" "law" (c9 iI) (bL iI) (ae iI) .none kV39 dc39 pm39 an39 cd39 ct39,fun s v=>.of_eq rfl,fun base _ _=>?_⟩;have h_Falls____init__:=y73 (P:=l.prog) (w:=w) (base:=base) (x_Falls.dx X G ad_ fun _ _ _ _ _ _=>el2 fun _ _=>rfl);have h_Unknown____init__:=z65 (P:=l.prog) (w:=w) (base:=base) (x_Unknown.dx X G ad_ fun _ _ _ _ _ _=>el3 fun _ _ _=>rfl);have z30:=z93 (base:=base) T (a2.df X G fun _ _ _ _ _ _=>el2 fun _ _=>rfl);have z73:=y88 (base:=base) T (a3.df X G fun _ _ _ _ _ _=>el2 fun _ _=>rfl);have y82:=z95 T (a4.df X G fun _ _ _ _ _ _=>el2 fun _ _=>rfl) z73;have q60:=y94 T (a5.df X G fun _ _ _ _ _ _=>el3 fun _ _ _=>rfl) y82;have q64:=z97 (base:=base) T (a6.df X G fun _ _ _ _ _ _=>el1 fun _=>rfl);have y78:=q93 (base:=base) T (a7.df X G fun _ _ _ _ _ _=>el1 fun _=>rfl);have z44:=q97 T (a8.df X G fun _ _ _ _ _ _=>el1 fun _=>rfl) q60 q64 y78;have y11:=z91 (base:=base) T (a9.df X G fun _ _ _ _ _ _=>el3 fun _ _ _=>rfl);have q30:=q94 T (a10.df X G fun _ _ _ _ _ _=>el2 fun _ _=>rfl) y11;have q79:=y92 T (a11.df X G fun _ _ _ _ _ _=>el3 fun _ _ _=>rfl) q30 y11;have q45:=z88 T (a12.df X G fun _ _ _ _ _ _=>el2 fun _ _=>rfl) y11;have z78:=y93 T (a13.df X G fun _ _ _ _ _ _=>el2 fun _ _=>rfl) q79 q45 q30 y11;have y75:=q90 T (a14.df X G fun _ _ _ _ _ _=>el3 fun _ _ _=>rfl) z30 q30 y11;have z71:=y90 T (a15.df X G fun _ _ _ _ _ _=>el1 fun _=>rfl) z30 z78 y75 q45 y11;have y20:=y68 (base:=base) T (a16.df X G fun _ _ _ _ _ _=>el2 fun _ _=>rfl)  6;have q43:=z89 (base:=base) T (a17.df X G fun _ _ _ _ _ _=>el2 fun _ _=>rfl);have z48:=y83 (base:=base) T (a18.df X G fun _ _ _ _ _ _=>el1 fun _=>rfl);have q32:=q66 (P:=l.prog) (w:=w) (base:=base) (x_BadLine.dx X G ad_ fun _ _ _ _ _ _=>el2 fun _ _=>rfl);have z28:=q91 (base:=base) T (a20.df X G fun _ _ _ _ _ _=>el3 fun _ _ _=>rfl);have q59:=q99 T (a21.df X G fun _ _ _ _ _ _=>el1 fun _=>rfl) z28;have q38:=q95 T (a22.df X G fun _ _ _ _ _ _=>el1 fun _=>rfl) z28;have z86:=z98 T (a23.df X G fun _ _ _ _ _ _=>el1 fun _=>rfl) q59 q38;have q82:=q96 T (a24.df X G fun _ _ _ _ _ _=>el1 fun _=>rfl) z28;have z85:=y97 T (a25.df X G fun _ _ _ _ _ _=>el1 fun _=>rfl) q38;have q86:=q98 T (a26.df X G fun _ _ _ _ _ _=>el2 fun _ _=>rfl) z86 q82 q59 z85 q38;have y57:=q100 T (a27.df X G fun _ _ _ _ _ _=>el3 fun _ _ _=>rfl) q86;have q75:=z90 T (a28.df X G fun _ _ _ _ _ _=>el1 fun _=>rfl) y57;have y85:=y98 T (a29.df X G fun _ _ _ _ _ _=>el1 fun _=>rfl) y57 q75;have y66:=z96 T (a30.df X G fun _ _ _ _ _ _=>el1 fun _=>rfl) q32 y85;have y38:=q73 (P:=l.prog) (w:=w) (base:=base) (x_Twice.dx X G ad_ fun _ _ _ _ _ _=>el2 fun _ _=>rfl);have z38:=z81 T (a32.df X G fun _ _ _ _ _ _=>el1 fun _=>rfl) y38;have y31:=z64 (P:=l.prog) (w:=w) (base:=base) (x_NoLabel.dx X G ad_ fun _ _ _ _ _ _=>el2 fun _ _=>rfl);have z52:=z84 T (a34.df X G fun _ _ _ _ _ _=>el2 fun _ _=>rfl) y31;have h_read:=y100 T (a35.df X G fun _ _ _ _ _ _=>el1 fun _=>rfl) q43 z48 y66 z38 z52;have z43:=y86 T (a36.df X G fun _ _ _ _ _ _=>el1 fun _=>rfl) y20 z44 h_read;have z80:=y96 (base:=base) T (a37.df X G fun _ _ _ _ _ _=>el1 fun _=>rfl);have q68:=q84 T (a38.df X G fun _ _ _ _ _ _=>el2 fun _ _=>rfl) z80 y11;exact(DZ T (oI (st:=iI) l39 c39 k39) z30 z44 z71 y11 z43 q68).imp fun vs H Q E z=>EN z
theorem walk {l:xY9} {q:qc0} {loose:η Str} {XP:(Str->ζ Value)->Heap->Prop} {YP:J6->Heap->Prop} {d:DefRec} {K:Params->xA9} (Z:l.most=ς 63) (O:d.params.defaults=[])
  (hY:∀(w:J6)(h:Heap),YP w h->(K w.params).In h) (U:∀w:J6,p8 (K w.params)=[])
  (F:∀(w:J6)(mg:Str->ζ Value)(fa:J5)(h:Heap),(K w.params).In h->h.Ns qb5 mg->mg d.name=ς (.ref fa)→
   ∃fd:qk2,(∀(s:qa4)(u:Value),zf0 s fd ⟨[u],[]⟩ [("_law_script",u)])/\∀base:Heap,(K w.params).In base->base.Ns qb5 mg->FnOk l.prog w (K w.params) mg base CX0 11 fa fd ["_law_script"] (p4 (K w.params))) :
  PySem.W.WalkO q loose XP YP l.row.toRowW d [] (fun f vs=>PySem.call f vs):=
 L2.FY (n:=63) (k:=11) (x:="_law_script") (CX:=fun _=>CX0) (sp:=fun w=>p4 (K w.params)) Z Ω O ⟨rfl,Ω,Ω⟩ hY U F (fun _ _ a ns hl hO hS=>⟨a,ns,rfl,hS,hl,hO,fun _=>rfl⟩) fun _ _ _ _ _ z=>z
end P13
open PySem PySem.W PyProof.Rows
local macro_rules | `(tactic| walk_at "f") => `(tactic| (refine' L2.AtF.mk ?za ?zl ?zc ?zk; (case za => k_is); (case zl => k_is); (case zc => k_is); (case zk => k_is)))
local macro_rules | `(tactic| walk_at "e") => `(tactic| (refine' L2.AtX.mk (q := _) ?zq ?za ?zl ?zi ?zf ?zs ?zg ?zn ?zk ?z1 ?z2 ?z3 ?zlf ?zcf ?zkf ?zna; (case zq => exact rfl); (case za => k_is); (case zl => k_is); (case zi => k_is); (case zf => k_is); (case zs => k_is); (case zg => k_is); (case zn => k_is); (case zk => k_is); (case z1 => k_is); (case z2 => k_is); (case z3 => k_is); (case zlf => k_is); (case zcf => k_is); (case zkf => k_is); (case zna => (simp only [List.forall_mem_cons, L2.dZ]; first | exact ⟨by k_is, by k_is, nofun⟩ | exact ⟨by k_is, nofun⟩))))
set_option maxRecDepth 100000 in
set_option maxHeartbeats 0 in
theorem PySem.Challenge.cw_dimhouse_k13_read_or_refused_holds : PySem.Challenge.rw_dimhouse_k13_read_or_refused.Holds := by
 w_on;o_law
 refine holds_open (q:=P13.seen) (loose:=[PySem.Str.ofString "WANTED"]) (Xt:=fun s=>xlAt P13.seen [] s&&recOk (zd8 (zb6 PySem.Challenge.rw_dimhouse_k13_read_or_refused.row)) s) (XP:=XL P13.seen []) (Yf:=Hook.obs P13.hook) (Ya:=Hook.val P13.hook) (YP:=Hook.says P13.hook) (N:=5892) ?hl (Hook.of P13.hook) (Hook.keeps P13.hook) (fun s e=>xl_of s (qt7.mp e).1) XL.keeps (by rfl) (by rfl) (by rfl) (fun s e=>recFacts_of (qt7.mp e).2) (by rfl) (by first | assumption | decide +kernel) (by decide +kernel) ⟨rfl,rfl,rfl,rfl,rfl,by decide +kernel⟩ ?hw ?hc
 case hl=>exact LeftO.of_split "special-get-raises" fun w=>P13.map_two (P13.pair_two (P13.run_false1 w) (P13.run_false2 w)) (P13.pair_two (P13.run_true1 w) (P13.run_true2 w))
 case hw=>w_witness2
 delta P13.hook
 k_fill
 refine P13.walk (l:=PySem.Challenge.rw_dimhouse_k13_read_or_refused) rfl rfl (fun w h Y=>PySem.W.kIn_of Y) (fun w=>by kernel_rfl) ?F
 case F =>
  intro w mg fa h KX G O;refine' P13.all_mk KX G O ?ad_ ?xs_ ?xl_ ?x_BadLine ?x_Falls ?x_NoLabel ?x_Twice ?x_Unknown ?xn_ ?a2 ?a3 ?a4 ?a5 ?a6 ?a7 ?a8 ?a9 ?a10 ?a11 ?a12 ?a13 ?a14 ?a15 ?a16 ?a17 ?a18 ?a20 ?a21 ?a22 ?a23 ?a24 ?a25 ?a26 ?a27 ?a28 ?a29 ?a30 ?a32 ?a34 ?a35 ?a36 ?a37 ?a38 ?a39 ?z_ValueError ?z_all ?z_bool ?z_enumerate ?z_int ?z_isinstance ?z_len ?z_range ?z_str ?z_tuple ?z_zip ?b_J ?l_J ?e_J ?f_J ?r_J ?b_F ?r_F ?b_K ?l_K ?e_K ?f_K ?r_K ?b_G ?l_G ?e_G ?f_G ?r_G ?b_E ?r_E ?b_B ?r_B ?b_D ?r_D ?b_C ?r_C ?b_A ?r_A ?b_H ?l_H ?e_H ?f_H ?r_H ?b_L ?l_L ?e_L ?f_L ?r_L ?b_I ?l_I ?e_I ?f_I ?z_I ?l0_I ?e0_I ?f0_I ?r0_I ?l1_I ?e1_I ?f1_I ?r1_I ?l2_I ?e2_I ?f2_I ?r2_I ?l3_I ?e3_I ?f3_I ?r3_I ?l4_I ?e4_I ?f4_I ?r4_I ?l5_I ?e5_I ?f5_I ?r5_I ?l6_I ?e6_I ?f6_I ?r6_I ?l7_I ?e7_I ?f7_I ?r7_I ?l8_I ?e8_I ?f8_I ?r8_I ?l9_I ?e9_I ?f9_I ?r9_I ?l10_I ?e10_I ?f10_I ?r10_I ?l11_I ?e11_I ?f11_I ?r11_I ?l12_I ?e12_I ?f12_I ?r12_I ?l13_I ?e13_I ?f13_I ?r13_I ?b_M ?r_M ?kd_tuple ?kd_bool ?kd_int ?kd_str
  (case ad_=>k_is)
  (case xs_=>kernel_rfl)
  (case xl_=>kernel_rfl)
  (case x_BadLine=>walk_at "e")
  (case x_Falls=>walk_at "e")
  (case x_NoLabel=>walk_at "e")
  (case x_Twice=>walk_at "e")
  (case x_Unknown=>walk_at "e")
  (case xn_=>decide)
  (case a2=>walk_at "f")
  (case a3=>walk_at "f")
  (case a4=>walk_at "f")
  (case a5=>walk_at "f")
  (case a6=>walk_at "f")
  (case a7=>walk_at "f")
  (case a8=>walk_at "f")
  (case a9=>walk_at "f")
  (case a10=>walk_at "f")
  (case a11=>walk_at "f")
  (case a12=>walk_at "f")
  (case a13=>walk_at "f")
  (case a14=>walk_at "f")
  (case a15=>walk_at "f")
  (case a16=>walk_at "f")
  (case a17=>walk_at "f")
  (case a18=>walk_at "f")
  (case a20=>walk_at "f")
  (case a21=>walk_at "f")
  (case a22=>walk_at "f")
  (case a23=>walk_at "f")
  (case a24=>walk_at "f")
  (case a25=>walk_at "f")
  (case a26=>walk_at "f")
  (case a27=>walk_at "f")
  (case a28=>walk_at "f")
  (case a29=>walk_at "f")
  (case a30=>walk_at "f")
  (case a32=>walk_at "f")
  (case a34=>walk_at "f")
  (case a35=>walk_at "f")
  (case a36=>walk_at "f")
  (case a37=>walk_at "f")
  (case a38=>walk_at "f")
  (case a39=>walk_at "f")
  (case z_ValueError | z_all | z_bool | z_enumerate | z_int | z_isinstance | z_len | z_range | z_str | z_tuple | z_zip | b_J | l_J=>k_is)
  (case e_J=>rfl)
  (case f_J=>rfl)
  (case r_J=>exact (.cons ⟨_,rfl⟩ (.cons ⟨_,rfl⟩ .nil)))
  (case b_F=>k_is)
  (case r_F=>exact ⟨_,rfl⟩)
  (case b_K | l_K=>k_is)
  (case e_K=>rfl)
  (case f_K=>rfl)
  (case r_K=>exact (.cons ⟨_,rfl⟩ (.cons ⟨_,rfl⟩ (.cons ⟨_,rfl⟩ (.cons ⟨_,rfl⟩ .nil)))))
  (case b_G | l_G=>k_is)
  (case e_G=>rfl)
  (case f_G=>rfl)
  (case r_G=>exact (.cons ⟨_,rfl⟩ (.cons ⟨_,rfl⟩ .nil)))
  (case b_E=>k_is)
  (case r_E=>exact ⟨_,rfl⟩)
  (case b_B=>k_is)
  (case r_B=>exact ⟨_,rfl⟩)
  (case b_D=>k_is)
  (case r_D=>exact ⟨_,rfl⟩)
  (case b_C=>k_is)
  (case r_C=>exact ⟨_,rfl⟩)
  (case b_A=>k_is)
  (case r_A=>exact ⟨_,rfl⟩)
  (case b_H | l_H=>k_is)
  (case e_H=>rfl)
  (case f_H=>rfl)
  (case r_H=>exact (.cons ⟨_,rfl⟩ (.cons ⟨_,rfl⟩ .nil)))
  (case b_L | l_L=>k_is)
  (case e_L=>rfl)
  (case f_L=>rfl)
  (case r_L=>exact (.cons ⟨_,rfl⟩ (.cons ⟨_,rfl⟩ (.cons ⟨_,rfl⟩ (.cons ⟨_,rfl⟩ (.cons ⟨_,rfl⟩ (.cons ⟨_,rfl⟩ (.cons ⟨_,rfl⟩ (.cons ⟨_,rfl⟩ .nil)))))))))
  (case b_I | l_I=>k_is)
  (case e_I=>exact ⟨rfl,rfl,rfl⟩)
  (case f_I=>rfl)
  (case z_I=>rfl)
  (case l0_I=>k_is)
  (case e0_I=>rfl)
  (case f0_I=>rfl)
  (case r0_I=>exact (.cons ⟨_,rfl⟩ (.cons ⟨_,rfl⟩ .nil)))
  (case l1_I=>k_is)
  (case e1_I=>rfl)
  (case f1_I=>rfl)
  (case r1_I=>exact (.cons ⟨_,rfl⟩ (.cons ⟨_,rfl⟩ .nil)))
  (case l2_I=>k_is)
  (case e2_I=>rfl)
  (case f2_I=>rfl)
  (case r2_I=>exact (.cons ⟨_,rfl⟩ (.cons ⟨_,rfl⟩ .nil)))
  (case l3_I=>k_is)
  (case e3_I=>rfl)
  (case f3_I=>rfl)
  (case r3_I=>exact (.cons ⟨_,rfl⟩ (.cons ⟨_,rfl⟩ .nil)))
  (case l4_I=>k_is)
  (case e4_I=>rfl)
  (case f4_I=>rfl)
  (case r4_I=>exact (.cons ⟨_,rfl⟩ .nil))
  (case l5_I=>k_is)
  (case e5_I=>rfl)
  (case f5_I=>rfl)
  (case r5_I=>exact (.cons ⟨_,rfl⟩ (.cons ⟨_,rfl⟩ .nil)))
  (case l6_I=>k_is)
  (case e6_I=>rfl)
  (case f6_I=>rfl)
  (case r6_I=>exact (.cons ⟨_,rfl⟩ (.cons ⟨_,rfl⟩ .nil)))
  (case l7_I=>k_is)
  (case e7_I=>rfl)
  (case f7_I=>rfl)
  (case r7_I=>exact (.cons ⟨_,rfl⟩ (.cons ⟨_,rfl⟩ (.cons ⟨_,rfl⟩ .nil))))
  (case l8_I=>k_is)
  (case e8_I=>rfl)
  (case f8_I=>rfl)
  (case r8_I=>exact (.cons ⟨_,rfl⟩ (.cons ⟨_,rfl⟩ (.cons ⟨_,rfl⟩ .nil))))
  (case l9_I=>k_is)
  (case e9_I=>rfl)
  (case f9_I=>rfl)
  (case r9_I=>exact (.cons ⟨_,rfl⟩ .nil))
  (case l10_I=>k_is)
  (case e10_I=>rfl)
  (case f10_I=>rfl)
  (case r10_I=>exact (.cons ⟨_,rfl⟩ .nil))
  (case l11_I=>k_is)
  (case e11_I=>rfl)
  (case f11_I=>rfl)
  (case r11_I=>exact (.cons ⟨_,rfl⟩ (.cons ⟨_,rfl⟩ .nil)))
  (case l12_I=>k_is)
  (case e12_I=>rfl)
  (case f12_I=>rfl)
  (case r12_I=>exact (.cons ⟨_,rfl⟩ .nil))
  (case l13_I=>k_is)
  (case e13_I=>rfl)
  (case f13_I=>rfl)
  (case r13_I=>exact (.cons ⟨_,rfl⟩ .nil))
  (case b_M=>k_is)
  (case r_M=>exact ⟨_,rfl⟩)
  (case kd_tuple=>exact fun d hd=>by cases d<;>first | (cases hd;done) | k_is | rfl)
  (case kd_bool=>exact fun d hd=>by cases d<;>first | (cases hd;done) | k_is | rfl)
  (case kd_int=>exact fun d hd=>by cases d<;>first | (cases hd;done) | k_is | rfl)
  (case kd_str=>exact fun d hd=>by cases d<;>first | (cases hd;done) | k_is | rfl)
